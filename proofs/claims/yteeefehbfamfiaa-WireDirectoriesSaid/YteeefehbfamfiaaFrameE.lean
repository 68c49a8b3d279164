/-
  Heads, commands, councils and entries that come in by value.
-/
import Derived.Test.YteeefehbfamfiaaFrame
import Derived.Test.YteeefehbfamfiaaWirPE
import Derived.DataElems
namespace Go.Proofs.Yteeefehbfamfiaa
open Go.ChangeShapes Go.WideShapes Go.RowKit
set_option maxRecDepth 100000

theorem trodE_digest {H : Type} {tk : TypeId × Value → H} {W : World} {base : Nat} {spare : Nat → Bool} {held : Bool} {fuel : Nat} {cs : List Value} {x : DataW H × List MemPlace}
    (hf : DataW.trod tk Try.prog W base spare held fuel 25 cs = some x) : ∃ ds : List UInt8, cs = bs ds ∧ ds.length = 32 := by
  obtain ⟨xs, m, rfl, hx, hl, hxl, hel⟩ := DataW.trod_array Try.underlying25 hf
  rw [cells_digest] at hl
  have key : ∀ v ∈ cs, ∃ n : Int, v = .int .u8 n ∧ 0 ≤ n ∧ n < 256 := by
    intro v hv
    obtain ⟨i, hi, rfl⟩ := List.getElem_of_mem hv
    have hi' : i < 32 := by omega
    have he := hel i hi'
    rw [cells_u8] at he
    obtain ⟨y, hy⟩ : ∃ y, xs[i]? = some y := ⟨xs[i], by simp [hxl, hi']⟩
    rw [hy] at he
    obtain ⟨n, hn, _, hw⟩ := DataW.trod_int Try.underlying5 he
    refine ⟨n, ?_, wf_u8 hw⟩
    have hd : (cs.drop (i * 1)).take 1 = [cs[i]] := by
      simp only [Nat.mul_one]
      rw [List.drop_eq_getElem_cons hi]
      rfl
    rw [hd] at hn
    simpa using hn
  obtain ⟨ds, hds⟩ := bytes_of_cells _ key
  refine ⟨ds, hds, ?_⟩
  have := congrArg List.length hds
  simp [bs_length, hl] at this
  omega

/-- a slice that came in, element by element -/
theorem trod_rows {α H : Type} (R : Row α) {tk : TypeId × Value → H} {W : World} {base : Nat} {spare : Nat → Bool} (hcell : Try.prog.cellsOf R.T = R.k) (Q : α → Prop)
    (el : ∀ (n : Nat) (cs : List Value) (z : DataW H × List MemPlace), DataW.trod tk Try.prog W base spare true n R.T cs = some z → ∃ y, R.ok y ∧ cs = R.cs y ∧ Q y)
    {fuel : Nat} {cs : List Value} {x : DataW H × List MemPlace} (hf : DataW.trod tk Try.prog W base spare true fuel R.S cs = some x) : ∃ a n c l, cs = [.slice a n c] ∧ RdG R W a n c l ∧ ∀ y ∈ l, Q y := by
  rcases DataW.trod_slice R.und hf with ⟨hcs, _⟩ | ⟨x, len, cap, elems, rest, n, _, hcs, _, _, hl, hm, hlen, hel, _, _⟩
  · exact ⟨none, 0, 0, [], hcs, RdG.nil0 W, fun y hy => by simp at hy⟩
  · have each : ∀ i, i < len → ∃ y : α, (R.ok y ∧ Q y) ∧ ∀ j u, (R.cs y)[j]? = some u → W.cell? (x.add (i * R.k + j)) = some u := by
      intro i hi
      have h := hel i hi
      obtain ⟨z, hz⟩ : ∃ z, elems[i]? = some z := ⟨elems[i], by simp [hlen, hi]⟩
      rw [hz, hcell, Option.bind_eq_some_iff] at h
      obtain ⟨cs', hc, ht⟩ := h
      obtain ⟨y, hy, rfl, hq⟩ := el _ _ _ ht
      refine ⟨y, ⟨hy, hq⟩, fun j u hu => ?_⟩
      have hj : j < R.k := by
        have := (List.getElem?_eq_some_iff.1 hu).1
        rwa [R.len y hy] at this
      have h3 := (World.cells?_some hc).2.2 j hj
      rw [hu] at h3
      rw [← h3, Addr.add_add x (i * R.k) j]
    let f : Nat → α := fun i => if h : i < len then Classical.choose (each i h) else R.x0
    have hf : ∀ i, i < len → (R.ok (f i) ∧ Q (f i)) ∧ ∀ j u, (R.cs (f i))[j]? = some u → W.cell? (x.add (i * R.k + j)) = some u := fun i hi => by
      have h := Classical.choose_spec (each i hi)
      have e : f i = Classical.choose (each i hi) := dif_pos hi
      rw [e]
      exact h
    have hok : R.all ((List.range len).map f) := fun y hy => by
      obtain ⟨i, hi, rfl⟩ := List.mem_map.1 hy
      exact (hf i (List.mem_range.1 hi)).1.1
    refine ⟨some x, len, cap, (List.range len).map f, hcs, ⟨by simp, hok, hl, hm, (fun e => by cases e), fun ad e j u hu => ?_⟩, fun y hy => ?_⟩
    · cases e
      have hp := R.pos
      have hj : j < len * R.k := by
        have := (List.getElem?_eq_some_iff.1 hu).1
        rw [Row.cells_length hok] at this
        simpa using this
      have hi : j / R.k < len := Nat.div_lt_of_lt_mul (by rw [Nat.mul_comm]; exact hj)
      have h1 := Row.cells_at hok (j / R.k) (j % R.k) (by simpa using hi) (Nat.mod_lt _ hp)
      have e3 : j / R.k * R.k + j % R.k = j := by rw [Nat.mul_comm]; exact Nat.div_add_mod j R.k
      rw [e3, hu] at h1
      have e2 : ((List.range len).map f).getD (j / R.k) R.x0 = f (j / R.k) := by simp [List.getD, hi]
      rw [e2] at h1
      have h2 := (hf _ hi).2 _ _ h1.symm
      rwa [e3] at h2
    · obtain ⟨i, hi, rfl⟩ := List.mem_map.1 hy
      exact (hf i (List.mem_range.1 hi)).1.2
theorem cellsE_int : Try.prog.cellsOf 3 = 1 := by kernel_rfl
theorem cellsE_Head : Try.prog.cellsOf 48 = 65 := by kernel_rfl
theorem underE_head : Try.prog.underlying 48 = some (.struct (Try.prog.fieldsOf 48)) := by kernel_rfl
theorem fsE_head : (Try.prog.fieldsOf 48).size = 3 := by kernel_rfl
theorem fE_head0 : (Try.prog.fieldsOf 48)[0]?.map (fun f => (f.type, f.offset)) = some (3, 0) := by kernel_rfl
theorem fE_head1 : (Try.prog.fieldsOf 48)[1]?.map (fun f => (f.type, f.offset)) = some (25, 1) := by kernel_rfl
theorem fE_head2 : (Try.prog.fieldsOf 48)[2]?.map (fun f => (f.type, f.offset)) = some (25, 33) := by kernel_rfl
set_option maxHeartbeats 400000 in
theorem trodE_head {H : Type} {tk : TypeId × Value → H} {W : World} {base : Nat} {spare : Nat → Bool} {fuel : Nat} {cs : List Value} {x : DataW H × List MemPlace}
    (hf : DataW.trod tk Try.prog W base spare true fuel 48 cs = some x) : ∃ y : Hd, y.ok ∧ cs = hdc y := by
  obtain ⟨xs, n, rfl, rfl, hl, hlen, hfs⟩ := DataW.trod_struct underE_head hf
  rw [cellsE_Head] at hl
  rw [fsE_head] at hlen
  have get : ∀ k t o, (Try.prog.fieldsOf 48)[k]?.map (fun f => (f.type, f.offset)) = some (t, o) → k < 3 → ∃ y, DataW.trod tk Try.prog W base spare true n t ((cs.drop o).take (Try.prog.cellsOf t)) = some y := by
    intro k t o hk hk2
    obtain ⟨f, hfk, hfe⟩ := Option.map_eq_some_iff.1 hk
    have h := hfs k f hfk
    rw [(Prod.mk.inj hfe).1, (Prod.mk.inj hfe).2] at h
    obtain ⟨y, hy⟩ : ∃ y, xs[k]? = some y := ⟨xs[k], by simp [hlen, hk2]⟩
    exact ⟨y, by rw [h, hy]⟩
  obtain ⟨_, g0⟩ := get 0 _ 0 fE_head0 (by decide)
  obtain ⟨v0, e0, _⟩ := DataW.trod_int Try.underlying3 g0
  rw [cellsE_int] at e0
  obtain ⟨_, g1⟩ := get 1 _ 1 fE_head1 (by decide)
  obtain ⟨v1, e1, hk1⟩ := trodE_digest g1
  rw [cells_digest] at e1
  obtain ⟨_, g2⟩ := get 2 _ 33 fE_head2 (by decide)
  obtain ⟨v2, e2, hk2⟩ := trodE_digest g2
  rw [cells_digest] at e2
  have T1 : cs.take 1 = [.int .i64 v0] := by rw [List.drop_zero] at e0; exact e0
  have T2 : cs.take (1 + 32) = [.int .i64 v0] ++ bs v1 := by rw [List.take_add, T1, e1]
  have T3 : cs.take (33 + 32) = [.int .i64 v0] ++ bs v1 ++ bs v2 := by rw [List.take_add, T2, e2]
  have hc : cs.take 65 = cs := List.take_of_length_le (by omega)
  exact ⟨⟨v0, v1, v2⟩, ⟨hk1, hk2⟩, by rw [← hc]; exact T3⟩
theorem cellsE_CmdKind : Try.prog.cellsOf 23 = 1 := by kernel_rfl
theorem cellsE_string : Try.prog.cellsOf 9 = 1 := by kernel_rfl
theorem cellsE_Command : Try.prog.cellsOf 27 = 38 := by kernel_rfl
theorem underE_command : Try.prog.underlying 27 = some (.struct (Try.prog.fieldsOf 27)) := by kernel_rfl
theorem fsE_command : (Try.prog.fieldsOf 27).size = 7 := by kernel_rfl
theorem fE_command0 : (Try.prog.fieldsOf 27)[0]?.map (fun f => (f.type, f.offset)) = some (23, 0) := by kernel_rfl
theorem fE_command1 : (Try.prog.fieldsOf 27)[1]?.map (fun f => (f.type, f.offset)) = some (3, 1) := by kernel_rfl
theorem fE_command2 : (Try.prog.fieldsOf 27)[2]?.map (fun f => (f.type, f.offset)) = some (3, 2) := by kernel_rfl
theorem fE_command3 : (Try.prog.fieldsOf 27)[3]?.map (fun f => (f.type, f.offset)) = some (9, 3) := by kernel_rfl
theorem fE_command4 : (Try.prog.fieldsOf 27)[4]?.map (fun f => (f.type, f.offset)) = some (9, 4) := by kernel_rfl
theorem fE_command5 : (Try.prog.fieldsOf 27)[5]?.map (fun f => (f.type, f.offset)) = some (3, 5) := by kernel_rfl
theorem fE_command6 : (Try.prog.fieldsOf 27)[6]?.map (fun f => (f.type, f.offset)) = some (25, 6) := by kernel_rfl
set_option maxHeartbeats 400000 in
theorem trodE_command {H : Type} {tk : TypeId × Value → H} {W : World} {base : Nat} {spare : Nat → Bool} {fuel : Nat} {cs : List Value} {x : DataW H × List MemPlace}
    (hf : DataW.trod tk Try.prog W base spare true fuel 27 cs = some x) : ∃ y : Cm, y.ok ∧ cs = cmc y := by
  obtain ⟨xs, n, rfl, rfl, hl, hlen, hfs⟩ := DataW.trod_struct underE_command hf
  rw [cellsE_Command] at hl
  rw [fsE_command] at hlen
  have get : ∀ k t o, (Try.prog.fieldsOf 27)[k]?.map (fun f => (f.type, f.offset)) = some (t, o) → k < 7 → ∃ y, DataW.trod tk Try.prog W base spare true n t ((cs.drop o).take (Try.prog.cellsOf t)) = some y := by
    intro k t o hk hk2
    obtain ⟨f, hfk, hfe⟩ := Option.map_eq_some_iff.1 hk
    have h := hfs k f hfk
    rw [(Prod.mk.inj hfe).1, (Prod.mk.inj hfe).2] at h
    obtain ⟨y, hy⟩ : ∃ y, xs[k]? = some y := ⟨xs[k], by simp [hlen, hk2]⟩
    exact ⟨y, by rw [h, hy]⟩
  obtain ⟨_, g0⟩ := get 0 _ 0 fE_command0 (by decide)
  obtain ⟨v0, e0, _⟩ := DataW.trod_int Try.underlying23 g0
  rw [cellsE_CmdKind] at e0
  obtain ⟨_, g1⟩ := get 1 _ 1 fE_command1 (by decide)
  obtain ⟨v1, e1, _⟩ := DataW.trod_int Try.underlying3 g1
  rw [cellsE_int] at e1
  obtain ⟨_, g2⟩ := get 2 _ 2 fE_command2 (by decide)
  obtain ⟨v2, e2, _⟩ := DataW.trod_int Try.underlying3 g2
  rw [cellsE_int] at e2
  obtain ⟨_, g3⟩ := get 3 _ 3 fE_command3 (by decide)
  obtain ⟨v3, e3, _⟩ := DataW.trod_string Try.underlying9 g3
  rw [cellsE_string] at e3
  obtain ⟨_, g4⟩ := get 4 _ 4 fE_command4 (by decide)
  obtain ⟨v4, e4, _⟩ := DataW.trod_string Try.underlying9 g4
  rw [cellsE_string] at e4
  obtain ⟨_, g5⟩ := get 5 _ 5 fE_command5 (by decide)
  obtain ⟨v5, e5, _⟩ := DataW.trod_int Try.underlying3 g5
  rw [cellsE_int] at e5
  obtain ⟨_, g6⟩ := get 6 _ 6 fE_command6 (by decide)
  obtain ⟨v6, e6, hk6⟩ := trodE_digest g6
  rw [cells_digest] at e6
  have T1 : cs.take 1 = [.int .i64 v0] := by rw [List.drop_zero] at e0; exact e0
  have T2 : cs.take (1 + 1) = [.int .i64 v0] ++ [.int .i64 v1] := by rw [List.take_add, T1, e1]
  have T3 : cs.take (2 + 1) = [.int .i64 v0] ++ [.int .i64 v1] ++ [.int .i64 v2] := by rw [List.take_add, T2, e2]
  have T4 : cs.take (3 + 1) = [.int .i64 v0] ++ [.int .i64 v1] ++ [.int .i64 v2] ++ [.string v3] := by rw [List.take_add, T3, e3]
  have T5 : cs.take (4 + 1) = [.int .i64 v0] ++ [.int .i64 v1] ++ [.int .i64 v2] ++ [.string v3] ++ [.string v4] := by rw [List.take_add, T4, e4]
  have T6 : cs.take (5 + 1) = [.int .i64 v0] ++ [.int .i64 v1] ++ [.int .i64 v2] ++ [.string v3] ++ [.string v4] ++ [.int .i64 v5] := by rw [List.take_add, T5, e5]
  have T7 : cs.take (6 + 32) = [.int .i64 v0] ++ [.int .i64 v1] ++ [.int .i64 v2] ++ [.string v3] ++ [.string v4] ++ [.int .i64 v5] ++ bs v6 := by rw [List.take_add, T6, e6]
  have hc : cs.take 38 = cs := List.take_of_length_le (by omega)
  exact ⟨⟨v0, v1, v2, v3, v4, v5, v6⟩, hk6, by rw [← hc]; exact T7⟩
theorem cellsE_sint : Try.prog.cellsOf 28 = 1 := by kernel_rfl
theorem cellsE_Council : Try.prog.cellsOf 30 = 2 := by kernel_rfl
theorem underE_council : Try.prog.underlying 30 = some (.struct (Try.prog.fieldsOf 30)) := by kernel_rfl
theorem fsE_council : (Try.prog.fieldsOf 30).size = 2 := by kernel_rfl
theorem fE_council0 : (Try.prog.fieldsOf 30)[0]?.map (fun f => (f.type, f.offset)) = some (28, 0) := by kernel_rfl
theorem fE_council1 : (Try.prog.fieldsOf 30)[1]?.map (fun f => (f.type, f.offset)) = some (28, 1) := by kernel_rfl
set_option maxHeartbeats 400000 in
theorem trodE_council {H : Type} {tk : TypeId × Value → H} {W : World} {base : Nat} {spare : Nat → Bool} {fuel : Nat} {cs : List Value} {x : DataW H × List MemPlace}
    (hf : DataW.trod tk Try.prog W base spare true fuel 30 cs = some x) : ∃ y : Co, y.ok ∧ cs = coc y ∧ Co.rd W y := by
  obtain ⟨xs, n, rfl, rfl, hl, hlen, hfs⟩ := DataW.trod_struct underE_council hf
  rw [cellsE_Council] at hl
  rw [fsE_council] at hlen
  have get : ∀ k t o, (Try.prog.fieldsOf 30)[k]?.map (fun f => (f.type, f.offset)) = some (t, o) → k < 2 → ∃ y, DataW.trod tk Try.prog W base spare true n t ((cs.drop o).take (Try.prog.cellsOf t)) = some y := by
    intro k t o hk hk2
    obtain ⟨f, hfk, hfe⟩ := Option.map_eq_some_iff.1 hk
    have h := hfs k f hfk
    rw [(Prod.mk.inj hfe).1, (Prod.mk.inj hfe).2] at h
    obtain ⟨y, hy⟩ : ∃ y, xs[k]? = some y := ⟨xs[k], by simp [hlen, hk2]⟩
    exact ⟨y, by rw [h, hy]⟩
  obtain ⟨_, g0⟩ := get 0 _ 0 fE_council0 (by decide)
  obtain ⟨a0, n0, c0, v0, e0, r0, q0⟩ := trod_rows intR cellsE_int (fun _ => True) (fun n cs z h => by obtain ⟨v, e, _⟩ := DataW.trod_int Try.underlying3 h; exact ⟨v, trivial, e, trivial⟩) g0
  obtain rfl := r0.len
  rw [cellsE_sint] at e0
  obtain ⟨_, g1⟩ := get 1 _ 1 fE_council1 (by decide)
  obtain ⟨a1, n1, c1, v1, e1, r1, q1⟩ := trod_rows intR cellsE_int (fun _ => True) (fun n cs z h => by obtain ⟨v, e, _⟩ := DataW.trod_int Try.underlying3 h; exact ⟨v, trivial, e, trivial⟩) g1
  obtain rfl := r1.len
  rw [cellsE_sint] at e1
  have T1 : cs.take 1 = [.slice a0 v0.length c0] := by rw [List.drop_zero] at e0; exact e0
  have T2 : cs.take (1 + 1) = [.slice a0 v0.length c0] ++ [.slice a1 v1.length c1] := by rw [List.take_add, T1, e1]
  have hc : cs.take 2 = cs := List.take_of_length_le (by omega)
  exact ⟨⟨v0, a0, c0, v1, a1, c1⟩, trivial, by rw [← hc]; exact T2, fun W1 b B h1 h2 h3 => ⟨r0.out h1 h2 h3, r1.out h1 h2 h3⟩⟩
theorem cellsE_EntryKind : Try.prog.cellsOf 22 = 1 := by kernel_rfl
theorem cellsE_Entry : Try.prog.cellsOf 32 = 43 := by kernel_rfl
theorem underE_entry : Try.prog.underlying 32 = some (.struct (Try.prog.fieldsOf 32)) := by kernel_rfl
theorem fsE_entry : (Try.prog.fieldsOf 32).size = 5 := by kernel_rfl
theorem fE_entry0 : (Try.prog.fieldsOf 32)[0]?.map (fun f => (f.type, f.offset)) = some (3, 0) := by kernel_rfl
theorem fE_entry1 : (Try.prog.fieldsOf 32)[1]?.map (fun f => (f.type, f.offset)) = some (3, 1) := by kernel_rfl
theorem fE_entry2 : (Try.prog.fieldsOf 32)[2]?.map (fun f => (f.type, f.offset)) = some (22, 2) := by kernel_rfl
theorem fE_entry3 : (Try.prog.fieldsOf 32)[3]?.map (fun f => (f.type, f.offset)) = some (27, 3) := by kernel_rfl
theorem fE_entry4 : (Try.prog.fieldsOf 32)[4]?.map (fun f => (f.type, f.offset)) = some (30, 41) := by kernel_rfl
set_option maxHeartbeats 400000 in
theorem trodE_entry {H : Type} {tk : TypeId × Value → H} {W : World} {base : Nat} {spare : Nat → Bool} {fuel : Nat} {cs : List Value} {x : DataW H × List MemPlace}
    (hf : DataW.trod tk Try.prog W base spare true fuel 32 cs = some x) : ∃ y : En, y.ok ∧ cs = enc y ∧ En.rd W y := by
  obtain ⟨xs, n, rfl, rfl, hl, hlen, hfs⟩ := DataW.trod_struct underE_entry hf
  rw [cellsE_Entry] at hl
  rw [fsE_entry] at hlen
  have get : ∀ k t o, (Try.prog.fieldsOf 32)[k]?.map (fun f => (f.type, f.offset)) = some (t, o) → k < 5 → ∃ y, DataW.trod tk Try.prog W base spare true n t ((cs.drop o).take (Try.prog.cellsOf t)) = some y := by
    intro k t o hk hk2
    obtain ⟨f, hfk, hfe⟩ := Option.map_eq_some_iff.1 hk
    have h := hfs k f hfk
    rw [(Prod.mk.inj hfe).1, (Prod.mk.inj hfe).2] at h
    obtain ⟨y, hy⟩ : ∃ y, xs[k]? = some y := ⟨xs[k], by simp [hlen, hk2]⟩
    exact ⟨y, by rw [h, hy]⟩
  obtain ⟨_, g0⟩ := get 0 _ 0 fE_entry0 (by decide)
  obtain ⟨v0, e0, _⟩ := DataW.trod_int Try.underlying3 g0
  rw [cellsE_int] at e0
  obtain ⟨_, g1⟩ := get 1 _ 1 fE_entry1 (by decide)
  obtain ⟨v1, e1, _⟩ := DataW.trod_int Try.underlying3 g1
  rw [cellsE_int] at e1
  obtain ⟨_, g2⟩ := get 2 _ 2 fE_entry2 (by decide)
  obtain ⟨v2, e2, _⟩ := DataW.trod_int Try.underlying22 g2
  rw [cellsE_EntryKind] at e2
  obtain ⟨_, g3⟩ := get 3 _ 3 fE_entry3 (by decide)
  obtain ⟨v3, hk3, e3⟩ := trodE_command g3
  rw [cellsE_Command] at e3
  obtain ⟨_, g4⟩ := get 4 _ 41 fE_entry4 (by decide)
  obtain ⟨v4, hk4, e4, rd4⟩ := trodE_council g4
  rw [cellsE_Council] at e4
  have T1 : cs.take 1 = [.int .i64 v0] := by rw [List.drop_zero] at e0; exact e0
  have T2 : cs.take (1 + 1) = [.int .i64 v0] ++ [.int .i64 v1] := by rw [List.take_add, T1, e1]
  have T3 : cs.take (2 + 1) = [.int .i64 v0] ++ [.int .i64 v1] ++ [.int .i64 v2] := by rw [List.take_add, T2, e2]
  have T4 : cs.take (3 + 38) = [.int .i64 v0] ++ [.int .i64 v1] ++ [.int .i64 v2] ++ cmc v3 := by rw [List.take_add, T3, e3]
  have T5 : cs.take (41 + 2) = [.int .i64 v0] ++ [.int .i64 v1] ++ [.int .i64 v2] ++ cmc v3 ++ coc v4 := by rw [List.take_add, T4, e4]
  have hc : cs.take 43 = cs := List.take_of_length_le (by omega)
  exact ⟨⟨v0, v1, v2, v3, v4⟩, hk3, by rw [← hc]; exact T5, fun W1 b B h1 h2 h3 => rd4 W1 b B h1 h2 h3⟩
theorem openE_entry {H : Type} {tk : TypeId × Value → H} {W : World} {v : Value} {d : DataW H} {p : List MemPlace} {r : Reach} {b0 : Nat} (hval : Value.okWide Try.prog W r b0 32 v)
    (h : DataW.Trod tk Try.prog W 0 (fun _ => true) true 32 v d p) : ∃ y : En, v = .agg (enc y).toArray ∧ y.ok ∧ En.rd W y := by
  obtain ⟨cs, rfl, _⟩ := okWide_struct underE_entry hval
  obtain ⟨fuel, hf⟩ := h
  obtain ⟨y, hy, he, hr⟩ := trodE_entry hf
  simp only [Value.cells] at he
  exact ⟨y, by rw [← he], hy, hr⟩

end Go.Proofs.Yteeefehbfamfiaa
