/-
  Records that come in by value.
-/
import Derived.Test.YteeefehbfamfiaaWirPR
import Derived.Test.YteeefehbfamfiaaFrameE
import Derived.DataElems
namespace Go.Proofs.Yteeefehbfamfiaa
open Go.ChangeShapes Go.WideShapes Go.RowKit
set_option maxRecDepth 100000
theorem cellsE_Signed : Try.prog.cellsOf 50 = 97 := by kernel_rfl
theorem underE_signed : Try.prog.underlying 50 = some (.struct (Try.prog.fieldsOf 50)) := by kernel_rfl
theorem fsE_signed : (Try.prog.fieldsOf 50).size = 2 := by kernel_rfl
theorem fE_signed0 : (Try.prog.fieldsOf 50)[0]?.map (fun f => (f.type, f.offset)) = some (48, 0) := by kernel_rfl
theorem fE_signed1 : (Try.prog.fieldsOf 50)[1]?.map (fun f => (f.type, f.offset)) = some (25, 65) := by kernel_rfl
set_option maxHeartbeats 400000 in
theorem trodE_signed {H : Type} {tk : TypeId × Value → H} {W : World} {base : Nat} {spare : Nat → Bool} {fuel : Nat} {cs : List Value} {x : DataW H × List MemPlace}
    (hf : DataW.trod tk Try.prog W base spare true fuel 50 cs = some x) : ∃ y : Sg, y.ok ∧ cs = sgc y := by
  obtain ⟨xs, n, rfl, rfl, hl, hlen, hfs⟩ := DataW.trod_struct underE_signed hf
  rw [cellsE_Signed] at hl
  rw [fsE_signed] at hlen
  have get : ∀ k t o, (Try.prog.fieldsOf 50)[k]?.map (fun f => (f.type, f.offset)) = some (t, o) → k < 2 → ∃ y, DataW.trod tk Try.prog W base spare true n t ((cs.drop o).take (Try.prog.cellsOf t)) = some y := by
    intro k t o hk hk2
    obtain ⟨f, hfk, hfe⟩ := Option.map_eq_some_iff.1 hk
    have h := hfs k f hfk
    rw [(Prod.mk.inj hfe).1, (Prod.mk.inj hfe).2] at h
    obtain ⟨y, hy⟩ : ∃ y, xs[k]? = some y := ⟨xs[k], by simp [hlen, hk2]⟩
    exact ⟨y, by rw [h, hy]⟩
  obtain ⟨_, g0⟩ := get 0 _ 0 fE_signed0 (by decide)
  obtain ⟨v0, hk0, e0⟩ := trodE_head g0
  rw [cellsE_Head] at e0
  obtain ⟨_, g1⟩ := get 1 _ 65 fE_signed1 (by decide)
  obtain ⟨v1, e1, hk1⟩ := trodE_digest g1
  rw [cells_digest] at e1
  have T1 : cs.take 65 = hdc v0 := by rw [List.drop_zero] at e0; exact e0
  have T2 : cs.take (65 + 32) = hdc v0 ++ bs v1 := by rw [List.take_add, T1, e1]
  have hc : cs.take 97 = cs := List.take_of_length_le (by omega)
  exact ⟨⟨v0, v1⟩, ⟨hk0, hk1⟩, by rw [← hc]; exact T2⟩
theorem cellsE_Snapshot : Try.prog.cellsOf 46 = 5 := by kernel_rfl
theorem underE_snapshot : Try.prog.underlying 46 = some (.struct (Try.prog.fieldsOf 46)) := by kernel_rfl
theorem fsE_snapshot : (Try.prog.fieldsOf 46).size = 4 := by kernel_rfl
theorem fE_snapshot0 : (Try.prog.fieldsOf 46)[0]?.map (fun f => (f.type, f.offset)) = some (3, 0) := by kernel_rfl
theorem fE_snapshot1 : (Try.prog.fieldsOf 46)[1]?.map (fun f => (f.type, f.offset)) = some (3, 1) := by kernel_rfl
theorem fE_snapshot2 : (Try.prog.fieldsOf 46)[2]?.map (fun f => (f.type, f.offset)) = some (30, 2) := by kernel_rfl
theorem fE_snapshot3 : (Try.prog.fieldsOf 46)[3]?.map (fun f => (f.type, f.offset)) = some (9, 4) := by kernel_rfl
set_option maxHeartbeats 400000 in
theorem trodE_snapshot {H : Type} {tk : TypeId × Value → H} {W : World} {base : Nat} {spare : Nat → Bool} {fuel : Nat} {cs : List Value} {x : DataW H × List MemPlace}
    (hf : DataW.trod tk Try.prog W base spare true fuel 46 cs = some x) : ∃ y : Sn, y.ok ∧ cs = snc y ∧ Sn.rd W y := by
  obtain ⟨xs, n, rfl, rfl, hl, hlen, hfs⟩ := DataW.trod_struct underE_snapshot hf
  rw [cellsE_Snapshot] at hl
  rw [fsE_snapshot] at hlen
  have get : ∀ k t o, (Try.prog.fieldsOf 46)[k]?.map (fun f => (f.type, f.offset)) = some (t, o) → k < 4 → ∃ y, DataW.trod tk Try.prog W base spare true n t ((cs.drop o).take (Try.prog.cellsOf t)) = some y := by
    intro k t o hk hk2
    obtain ⟨f, hfk, hfe⟩ := Option.map_eq_some_iff.1 hk
    have h := hfs k f hfk
    rw [(Prod.mk.inj hfe).1, (Prod.mk.inj hfe).2] at h
    obtain ⟨y, hy⟩ : ∃ y, xs[k]? = some y := ⟨xs[k], by simp [hlen, hk2]⟩
    exact ⟨y, by rw [h, hy]⟩
  obtain ⟨_, g0⟩ := get 0 _ 0 fE_snapshot0 (by decide)
  obtain ⟨v0, e0, _⟩ := DataW.trod_int Try.underlying3 g0
  rw [cellsE_int] at e0
  obtain ⟨_, g1⟩ := get 1 _ 1 fE_snapshot1 (by decide)
  obtain ⟨v1, e1, _⟩ := DataW.trod_int Try.underlying3 g1
  rw [cellsE_int] at e1
  obtain ⟨_, g2⟩ := get 2 _ 2 fE_snapshot2 (by decide)
  obtain ⟨v2, hk2, e2, rd2⟩ := trodE_council g2
  rw [cellsE_Council] at e2
  obtain ⟨_, g3⟩ := get 3 _ 4 fE_snapshot3 (by decide)
  obtain ⟨v3, e3, _⟩ := DataW.trod_string Try.underlying9 g3
  rw [cellsE_string] at e3
  have T1 : cs.take 1 = [.int .i64 v0] := by rw [List.drop_zero] at e0; exact e0
  have T2 : cs.take (1 + 1) = [.int .i64 v0] ++ [.int .i64 v1] := by rw [List.take_add, T1, e1]
  have T3 : cs.take (2 + 2) = [.int .i64 v0] ++ [.int .i64 v1] ++ coc v2 := by rw [List.take_add, T2, e2]
  have T4 : cs.take (4 + 1) = [.int .i64 v0] ++ [.int .i64 v1] ++ coc v2 ++ [.string v3] := by rw [List.take_add, T3, e3]
  have hc : cs.take 5 = cs := List.take_of_length_le (by omega)
  exact ⟨⟨v0, v1, v2, v3⟩, trivial, by rw [← hc]; exact T4, fun W1 b B h1 h2 h3 => rd2 W1 b B h1 h2 h3⟩
theorem cellsE_RecordKind : Try.prog.cellsOf 44 = 1 := by kernel_rfl
theorem cellsE_Record : Try.prog.cellsOf 52 = 149 := by kernel_rfl
theorem underE_record : Try.prog.underlying 52 = some (.struct (Try.prog.fieldsOf 52)) := by kernel_rfl
theorem fsE_record : (Try.prog.fieldsOf 52).size = 7 := by kernel_rfl
theorem fE_record0 : (Try.prog.fieldsOf 52)[0]?.map (fun f => (f.type, f.offset)) = some (44, 0) := by kernel_rfl
theorem fE_record1 : (Try.prog.fieldsOf 52)[1]?.map (fun f => (f.type, f.offset)) = some (3, 1) := by kernel_rfl
theorem fE_record2 : (Try.prog.fieldsOf 52)[2]?.map (fun f => (f.type, f.offset)) = some (3, 2) := by kernel_rfl
theorem fE_record3 : (Try.prog.fieldsOf 52)[3]?.map (fun f => (f.type, f.offset)) = some (32, 3) := by kernel_rfl
theorem fE_record4 : (Try.prog.fieldsOf 52)[4]?.map (fun f => (f.type, f.offset)) = some (3, 46) := by kernel_rfl
theorem fE_record5 : (Try.prog.fieldsOf 52)[5]?.map (fun f => (f.type, f.offset)) = some (46, 47) := by kernel_rfl
theorem fE_record6 : (Try.prog.fieldsOf 52)[6]?.map (fun f => (f.type, f.offset)) = some (50, 52) := by kernel_rfl
set_option maxHeartbeats 400000 in
theorem trodE_record {H : Type} {tk : TypeId × Value → H} {W : World} {base : Nat} {spare : Nat → Bool} {fuel : Nat} {cs : List Value} {x : DataW H × List MemPlace}
    (hf : DataW.trod tk Try.prog W base spare true fuel 52 cs = some x) : ∃ y : Re, y.ok ∧ cs = rec y ∧ Re.rd W y := by
  obtain ⟨xs, n, rfl, rfl, hl, hlen, hfs⟩ := DataW.trod_struct underE_record hf
  rw [cellsE_Record] at hl
  rw [fsE_record] at hlen
  have get : ∀ k t o, (Try.prog.fieldsOf 52)[k]?.map (fun f => (f.type, f.offset)) = some (t, o) → k < 7 → ∃ y, DataW.trod tk Try.prog W base spare true n t ((cs.drop o).take (Try.prog.cellsOf t)) = some y := by
    intro k t o hk hk2
    obtain ⟨f, hfk, hfe⟩ := Option.map_eq_some_iff.1 hk
    have h := hfs k f hfk
    rw [(Prod.mk.inj hfe).1, (Prod.mk.inj hfe).2] at h
    obtain ⟨y, hy⟩ : ∃ y, xs[k]? = some y := ⟨xs[k], by simp [hlen, hk2]⟩
    exact ⟨y, by rw [h, hy]⟩
  obtain ⟨_, g0⟩ := get 0 _ 0 fE_record0 (by decide)
  obtain ⟨v0, e0, _⟩ := DataW.trod_int Try.underlying44 g0
  rw [cellsE_RecordKind] at e0
  obtain ⟨_, g1⟩ := get 1 _ 1 fE_record1 (by decide)
  obtain ⟨v1, e1, _⟩ := DataW.trod_int Try.underlying3 g1
  rw [cellsE_int] at e1
  obtain ⟨_, g2⟩ := get 2 _ 2 fE_record2 (by decide)
  obtain ⟨v2, e2, _⟩ := DataW.trod_int Try.underlying3 g2
  rw [cellsE_int] at e2
  obtain ⟨_, g3⟩ := get 3 _ 3 fE_record3 (by decide)
  obtain ⟨v3, hk3, e3, rd3⟩ := trodE_entry g3
  rw [cellsE_Entry] at e3
  obtain ⟨_, g4⟩ := get 4 _ 46 fE_record4 (by decide)
  obtain ⟨v4, e4, _⟩ := DataW.trod_int Try.underlying3 g4
  rw [cellsE_int] at e4
  obtain ⟨_, g5⟩ := get 5 _ 47 fE_record5 (by decide)
  obtain ⟨v5, hk5, e5, rd5⟩ := trodE_snapshot g5
  rw [cellsE_Snapshot] at e5
  obtain ⟨_, g6⟩ := get 6 _ 52 fE_record6 (by decide)
  obtain ⟨v6, hk6, e6⟩ := trodE_signed g6
  rw [cellsE_Signed] at e6
  have T1 : cs.take 1 = [.int .i64 v0] := by rw [List.drop_zero] at e0; exact e0
  have T2 : cs.take (1 + 1) = [.int .i64 v0] ++ [.int .i64 v1] := by rw [List.take_add, T1, e1]
  have T3 : cs.take (2 + 1) = [.int .i64 v0] ++ [.int .i64 v1] ++ [.int .i64 v2] := by rw [List.take_add, T2, e2]
  have T4 : cs.take (3 + 43) = [.int .i64 v0] ++ [.int .i64 v1] ++ [.int .i64 v2] ++ enc v3 := by rw [List.take_add, T3, e3]
  have T5 : cs.take (46 + 1) = [.int .i64 v0] ++ [.int .i64 v1] ++ [.int .i64 v2] ++ enc v3 ++ [.int .i64 v4] := by rw [List.take_add, T4, e4]
  have T6 : cs.take (47 + 5) = [.int .i64 v0] ++ [.int .i64 v1] ++ [.int .i64 v2] ++ enc v3 ++ [.int .i64 v4] ++ snc v5 := by rw [List.take_add, T5, e5]
  have T7 : cs.take (52 + 97) = [.int .i64 v0] ++ [.int .i64 v1] ++ [.int .i64 v2] ++ enc v3 ++ [.int .i64 v4] ++ snc v5 ++ sgc v6 := by rw [List.take_add, T6, e6]
  have hc : cs.take 149 = cs := List.take_of_length_le (by omega)
  exact ⟨⟨v0, v1, v2, v3, v4, v5, v6⟩, ⟨hk3, hk6⟩, by rw [← hc]; exact T7, fun W1 b B h1 h2 h3 => ⟨rd3 W1 b B h1 h2 h3, rd5 W1 b B h1 h2 h3⟩⟩
theorem openE_record {H : Type} {tk : TypeId × Value → H} {W : World} {v : Value} {d : DataW H} {p : List MemPlace} {r : Reach} {b0 : Nat} (hval : Value.okWide Try.prog W r b0 52 v)
    (h : DataW.Trod tk Try.prog W 0 (fun _ => true) true 52 v d p) : ∃ y : Re, v = .agg (rec y).toArray ∧ y.ok ∧ Re.rd W y := by
  obtain ⟨cs, rfl, _⟩ := okWide_struct underE_record hval
  obtain ⟨fuel, hf⟩ := h
  obtain ⟨y, hy, he, hr⟩ := trodE_record hf
  simp only [Value.cells] at he
  exact ⟨y, by rw [← he], hy, hr⟩

end Go.Proofs.Yteeefehbfamfiaa
