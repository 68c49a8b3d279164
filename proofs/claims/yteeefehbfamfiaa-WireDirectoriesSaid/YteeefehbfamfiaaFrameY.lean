/-
  Directories that come in by value.
-/
import Derived.Test.YteeefehbfamfiaaWirPD
import Derived.Test.YteeefehbfamfiaaFrameE
import Derived.DataElems
namespace Go.Proofs.Yteeefehbfamfiaa
open Go.ChangeShapes Go.WideShapes Go.RowKit
set_option maxRecDepth 100000
theorem cellsE_VerKind : Try.prog.cellsOf 94 = 1 := by kernel_rfl
theorem cellsE_Version : Try.prog.cellsOf 96 = 3 := by kernel_rfl
theorem underE_version : Try.prog.underlying 96 = some (.struct (Try.prog.fieldsOf 96)) := by kernel_rfl
theorem fsE_version : (Try.prog.fieldsOf 96).size = 3 := by kernel_rfl
theorem fE_version0 : (Try.prog.fieldsOf 96)[0]?.map (fun f => (f.type, f.offset)) = some (3, 0) := by kernel_rfl
theorem fE_version1 : (Try.prog.fieldsOf 96)[1]?.map (fun f => (f.type, f.offset)) = some (94, 1) := by kernel_rfl
theorem fE_version2 : (Try.prog.fieldsOf 96)[2]?.map (fun f => (f.type, f.offset)) = some (9, 2) := by kernel_rfl
set_option maxHeartbeats 400000 in
theorem trodE_version {H : Type} {tk : TypeId × Value → H} {W : World} {base : Nat} {spare : Nat → Bool} {fuel : Nat} {cs : List Value} {x : DataW H × List MemPlace}
    (hf : DataW.trod tk Try.prog W base spare true fuel 96 cs = some x) : ∃ y : Vn, y.ok ∧ cs = vc y := by
  obtain ⟨xs, n, rfl, rfl, hl, hlen, hfs⟩ := DataW.trod_struct underE_version hf
  rw [cellsE_Version] at hl
  rw [fsE_version] at hlen
  have get : ∀ k t o, (Try.prog.fieldsOf 96)[k]?.map (fun f => (f.type, f.offset)) = some (t, o) → k < 3 → ∃ y, DataW.trod tk Try.prog W base spare true n t ((cs.drop o).take (Try.prog.cellsOf t)) = some y := by
    intro k t o hk hk2
    obtain ⟨f, hfk, hfe⟩ := Option.map_eq_some_iff.1 hk
    have h := hfs k f hfk
    rw [(Prod.mk.inj hfe).1, (Prod.mk.inj hfe).2] at h
    obtain ⟨y, hy⟩ : ∃ y, xs[k]? = some y := ⟨xs[k], by simp [hlen, hk2]⟩
    exact ⟨y, by rw [h, hy]⟩
  obtain ⟨_, g0⟩ := get 0 _ 0 fE_version0 (by decide)
  obtain ⟨v0, e0, _⟩ := DataW.trod_int Try.underlying3 g0
  rw [cellsE_int] at e0
  obtain ⟨_, g1⟩ := get 1 _ 1 fE_version1 (by decide)
  obtain ⟨v1, e1, _⟩ := DataW.trod_int Try.underlying94 g1
  rw [cellsE_VerKind] at e1
  obtain ⟨_, g2⟩ := get 2 _ 2 fE_version2 (by decide)
  obtain ⟨v2, e2, _⟩ := DataW.trod_string Try.underlying9 g2
  rw [cellsE_string] at e2
  have T1 : cs.take 1 = [.int .i64 v0] := by rw [List.drop_zero] at e0; exact e0
  have T2 : cs.take (1 + 1) = [.int .i64 v0] ++ [.int .i64 v1] := by rw [List.take_add, T1, e1]
  have T3 : cs.take (2 + 1) = [.int .i64 v0] ++ [.int .i64 v1] ++ [.string v2] := by rw [List.take_add, T2, e2]
  have hc : cs.take 3 = cs := List.take_of_length_le (by omega)
  exact ⟨⟨v0, v1, v2⟩, trivial, by rw [← hc]; exact T3⟩
theorem cellsE_sVersion : Try.prog.cellsOf 84 = 1 := by kernel_rfl
theorem cellsE_User : Try.prog.cellsOf 86 = 2 := by kernel_rfl
theorem underE_user : Try.prog.underlying 86 = some (.struct (Try.prog.fieldsOf 86)) := by kernel_rfl
theorem fsE_user : (Try.prog.fieldsOf 86).size = 2 := by kernel_rfl
theorem fE_user0 : (Try.prog.fieldsOf 86)[0]?.map (fun f => (f.type, f.offset)) = some (9, 0) := by kernel_rfl
theorem fE_user1 : (Try.prog.fieldsOf 86)[1]?.map (fun f => (f.type, f.offset)) = some (84, 1) := by kernel_rfl
set_option maxHeartbeats 400000 in
theorem trodE_user {H : Type} {tk : TypeId × Value → H} {W : World} {base : Nat} {spare : Nat → Bool} {fuel : Nat} {cs : List Value} {x : DataW H × List MemPlace}
    (hf : DataW.trod tk Try.prog W base spare true fuel 86 cs = some x) : ∃ y : Ux, y.ok ∧ cs = uxc y ∧ Ux.rd W y := by
  obtain ⟨xs, n, rfl, rfl, hl, hlen, hfs⟩ := DataW.trod_struct underE_user hf
  rw [cellsE_User] at hl
  rw [fsE_user] at hlen
  have get : ∀ k t o, (Try.prog.fieldsOf 86)[k]?.map (fun f => (f.type, f.offset)) = some (t, o) → k < 2 → ∃ y, DataW.trod tk Try.prog W base spare true n t ((cs.drop o).take (Try.prog.cellsOf t)) = some y := by
    intro k t o hk hk2
    obtain ⟨f, hfk, hfe⟩ := Option.map_eq_some_iff.1 hk
    have h := hfs k f hfk
    rw [(Prod.mk.inj hfe).1, (Prod.mk.inj hfe).2] at h
    obtain ⟨y, hy⟩ : ∃ y, xs[k]? = some y := ⟨xs[k], by simp [hlen, hk2]⟩
    exact ⟨y, by rw [h, hy]⟩
  obtain ⟨_, g0⟩ := get 0 _ 0 fE_user0 (by decide)
  obtain ⟨v0, e0, _⟩ := DataW.trod_string Try.underlying9 g0
  rw [cellsE_string] at e0
  obtain ⟨_, g1⟩ := get 1 _ 1 fE_user1 (by decide)
  obtain ⟨a1, n1, c1, v1, e1, r1, q1⟩ := trod_rows verR cellsE_Version (fun _ => True) (fun n cs z h => by obtain ⟨v, hv, e⟩ := trodE_version h; exact ⟨v, hv, e, trivial⟩) g1
  obtain rfl := r1.len
  rw [cellsE_sVersion] at e1
  have T1 : cs.take 1 = [.string v0] := by rw [List.drop_zero] at e0; exact e0
  have T2 : cs.take (1 + 1) = [.string v0] ++ [.slice a1 v1.length c1] := by rw [List.take_add, T1, e1]
  have hc : cs.take 2 = cs := List.take_of_length_le (by omega)
  exact ⟨⟨v0, v1, a1, c1⟩, trivial, by rw [← hc]; exact T2, fun W1 b B h1 h2 h3 => r1.out h1 h2 h3⟩
theorem cellsE_Errno : Try.prog.cellsOf 35 = 1 := by kernel_rfl
theorem cellsE_Session : Try.prog.cellsOf 92 = 4 := by kernel_rfl
theorem underE_session : Try.prog.underlying 92 = some (.struct (Try.prog.fieldsOf 92)) := by kernel_rfl
theorem fsE_session : (Try.prog.fieldsOf 92).size = 4 := by kernel_rfl
theorem fE_session0 : (Try.prog.fieldsOf 92)[0]?.map (fun f => (f.type, f.offset)) = some (3, 0) := by kernel_rfl
theorem fE_session1 : (Try.prog.fieldsOf 92)[1]?.map (fun f => (f.type, f.offset)) = some (3, 1) := by kernel_rfl
theorem fE_session2 : (Try.prog.fieldsOf 92)[2]?.map (fun f => (f.type, f.offset)) = some (35, 2) := by kernel_rfl
theorem fE_session3 : (Try.prog.fieldsOf 92)[3]?.map (fun f => (f.type, f.offset)) = some (3, 3) := by kernel_rfl
set_option maxHeartbeats 400000 in
theorem trodE_session {H : Type} {tk : TypeId × Value → H} {W : World} {base : Nat} {spare : Nat → Bool} {fuel : Nat} {cs : List Value} {x : DataW H × List MemPlace}
    (hf : DataW.trod tk Try.prog W base spare true fuel 92 cs = some x) : ∃ y : Se, y.ok ∧ cs = sec y := by
  obtain ⟨xs, n, rfl, rfl, hl, hlen, hfs⟩ := DataW.trod_struct underE_session hf
  rw [cellsE_Session] at hl
  rw [fsE_session] at hlen
  have get : ∀ k t o, (Try.prog.fieldsOf 92)[k]?.map (fun f => (f.type, f.offset)) = some (t, o) → k < 4 → ∃ y, DataW.trod tk Try.prog W base spare true n t ((cs.drop o).take (Try.prog.cellsOf t)) = some y := by
    intro k t o hk hk2
    obtain ⟨f, hfk, hfe⟩ := Option.map_eq_some_iff.1 hk
    have h := hfs k f hfk
    rw [(Prod.mk.inj hfe).1, (Prod.mk.inj hfe).2] at h
    obtain ⟨y, hy⟩ : ∃ y, xs[k]? = some y := ⟨xs[k], by simp [hlen, hk2]⟩
    exact ⟨y, by rw [h, hy]⟩
  obtain ⟨_, g0⟩ := get 0 _ 0 fE_session0 (by decide)
  obtain ⟨v0, e0, _⟩ := DataW.trod_int Try.underlying3 g0
  rw [cellsE_int] at e0
  obtain ⟨_, g1⟩ := get 1 _ 1 fE_session1 (by decide)
  obtain ⟨v1, e1, _⟩ := DataW.trod_int Try.underlying3 g1
  rw [cellsE_int] at e1
  obtain ⟨_, g2⟩ := get 2 _ 2 fE_session2 (by decide)
  obtain ⟨v2, e2, _⟩ := DataW.trod_int Try.underlying35 g2
  rw [cellsE_Errno] at e2
  obtain ⟨_, g3⟩ := get 3 _ 3 fE_session3 (by decide)
  obtain ⟨v3, e3, _⟩ := DataW.trod_int Try.underlying3 g3
  rw [cellsE_int] at e3
  have T1 : cs.take 1 = [.int .i64 v0] := by rw [List.drop_zero] at e0; exact e0
  have T2 : cs.take (1 + 1) = [.int .i64 v0] ++ [.int .i64 v1] := by rw [List.take_add, T1, e1]
  have T3 : cs.take (2 + 1) = [.int .i64 v0] ++ [.int .i64 v1] ++ [.int .i64 v2] := by rw [List.take_add, T2, e2]
  have T4 : cs.take (3 + 1) = [.int .i64 v0] ++ [.int .i64 v1] ++ [.int .i64 v2] ++ [.int .i64 v3] := by rw [List.take_add, T3, e3]
  have hc : cs.take 4 = cs := List.take_of_length_le (by omega)
  exact ⟨⟨v0, v1, v2, v3⟩, trivial, by rw [← hc]; exact T4⟩
theorem cellsE_sUser : Try.prog.cellsOf 58 = 1 := by kernel_rfl
theorem cellsE_sHead : Try.prog.cellsOf 59 = 1 := by kernel_rfl
theorem cellsE_sSession : Try.prog.cellsOf 60 = 1 := by kernel_rfl
theorem cellsE_Directory : Try.prog.cellsOf 62 = 4 := by kernel_rfl
theorem underE_directory : Try.prog.underlying 62 = some (.struct (Try.prog.fieldsOf 62)) := by kernel_rfl
theorem fsE_directory : (Try.prog.fieldsOf 62).size = 4 := by kernel_rfl
theorem fE_directory0 : (Try.prog.fieldsOf 62)[0]?.map (fun f => (f.type, f.offset)) = some (3, 0) := by kernel_rfl
theorem fE_directory1 : (Try.prog.fieldsOf 62)[1]?.map (fun f => (f.type, f.offset)) = some (58, 1) := by kernel_rfl
theorem fE_directory2 : (Try.prog.fieldsOf 62)[2]?.map (fun f => (f.type, f.offset)) = some (59, 2) := by kernel_rfl
theorem fE_directory3 : (Try.prog.fieldsOf 62)[3]?.map (fun f => (f.type, f.offset)) = some (60, 3) := by kernel_rfl
set_option maxHeartbeats 400000 in
theorem trodE_directory {H : Type} {tk : TypeId × Value → H} {W : World} {base : Nat} {spare : Nat → Bool} {fuel : Nat} {cs : List Value} {x : DataW H × List MemPlace}
    (hf : DataW.trod tk Try.prog W base spare true fuel 62 cs = some x) : ∃ y : Di, y.ok ∧ cs = dic y ∧ Di.rd W y := by
  obtain ⟨xs, n, rfl, rfl, hl, hlen, hfs⟩ := DataW.trod_struct underE_directory hf
  rw [cellsE_Directory] at hl
  rw [fsE_directory] at hlen
  have get : ∀ k t o, (Try.prog.fieldsOf 62)[k]?.map (fun f => (f.type, f.offset)) = some (t, o) → k < 4 → ∃ y, DataW.trod tk Try.prog W base spare true n t ((cs.drop o).take (Try.prog.cellsOf t)) = some y := by
    intro k t o hk hk2
    obtain ⟨f, hfk, hfe⟩ := Option.map_eq_some_iff.1 hk
    have h := hfs k f hfk
    rw [(Prod.mk.inj hfe).1, (Prod.mk.inj hfe).2] at h
    obtain ⟨y, hy⟩ : ∃ y, xs[k]? = some y := ⟨xs[k], by simp [hlen, hk2]⟩
    exact ⟨y, by rw [h, hy]⟩
  obtain ⟨_, g0⟩ := get 0 _ 0 fE_directory0 (by decide)
  obtain ⟨v0, e0, _⟩ := DataW.trod_int Try.underlying3 g0
  rw [cellsE_int] at e0
  obtain ⟨_, g1⟩ := get 1 _ 1 fE_directory1 (by decide)
  obtain ⟨a1, n1, c1, v1, e1, r1, q1⟩ := trod_rows usR cellsE_User (fun y => Ux.rd W y) (fun n cs z h => by obtain ⟨v, hv, e, hr⟩ := trodE_user h; exact ⟨v, hv, e, hr⟩) g1
  obtain rfl := r1.len
  rw [cellsE_sUser] at e1
  obtain ⟨_, g2⟩ := get 2 _ 2 fE_directory2 (by decide)
  obtain ⟨a2, n2, c2, v2, e2, r2, q2⟩ := trod_rows hdR cellsE_Head (fun _ => True) (fun n cs z h => by obtain ⟨v, hv, e⟩ := trodE_head h; exact ⟨v, hv, e, trivial⟩) g2
  obtain rfl := r2.len
  rw [cellsE_sHead] at e2
  obtain ⟨_, g3⟩ := get 3 _ 3 fE_directory3 (by decide)
  obtain ⟨a3, n3, c3, v3, e3, r3, q3⟩ := trod_rows seR cellsE_Session (fun _ => True) (fun n cs z h => by obtain ⟨v, hv, e⟩ := trodE_session h; exact ⟨v, hv, e, trivial⟩) g3
  obtain rfl := r3.len
  rw [cellsE_sSession] at e3
  have T1 : cs.take 1 = [.int .i64 v0] := by rw [List.drop_zero] at e0; exact e0
  have T2 : cs.take (1 + 1) = [.int .i64 v0] ++ [.slice a1 v1.length c1] := by rw [List.take_add, T1, e1]
  have T3 : cs.take (2 + 1) = [.int .i64 v0] ++ [.slice a1 v1.length c1] ++ [.slice a2 v2.length c2] := by rw [List.take_add, T2, e2]
  have T4 : cs.take (3 + 1) = [.int .i64 v0] ++ [.slice a1 v1.length c1] ++ [.slice a2 v2.length c2] ++ [.slice a3 v3.length c3] := by rw [List.take_add, T3, e3]
  have hc : cs.take 4 = cs := List.take_of_length_le (by omega)
  exact ⟨⟨v0, v1, a1, c1, v2, a2, c2, v3, a3, c3⟩, r2.ok, by rw [← hc]; exact T4, fun W1 b B h1 h2 h3 => ⟨r1.out h1 h2 h3, fun y hy => q1 y hy W1 b B h1 h2 h3, r2.out h1 h2 h3, r3.out h1 h2 h3⟩⟩
theorem openE_directory {H : Type} {tk : TypeId × Value → H} {W : World} {v : Value} {d : DataW H} {p : List MemPlace} {r : Reach} {b0 : Nat} (hval : Value.okWide Try.prog W r b0 62 v)
    (h : DataW.Trod tk Try.prog W 0 (fun _ => true) true 62 v d p) : ∃ y : Di, v = .agg (dic y).toArray ∧ y.ok ∧ Di.rd W y := by
  obtain ⟨cs, rfl, _⟩ := okWide_struct underE_directory hval
  obtain ⟨fuel, hf⟩ := h
  obtain ⟨y, hy, he, hr⟩ := trodE_directory hf
  simp only [Value.cells] at he
  exact ⟨y, by rw [← he], hy, hr⟩

end Go.Proofs.Yteeefehbfamfiaa
