/-
  Heads and signed heads that come in: by value, and slices of them.
-/
import Derived.Test.YtoclahcibilbhaaDoorFrame
import Derived.Test.YtoclahcibilbhaaDoorHedA
import Derived.DataElems
namespace Go.Proofs.YtoclahcibilbhaaDoor
open Go.ChangeShapes Go.WideShapes Go.RowKit
set_option maxRecDepth 100000

theorem trodS_digest {H : Type} {enc : TypeId × Value → H} {W : World} {base : Nat} {spare : Nat → Bool} {held : Bool} {fuel : Nat} {cs : List Value} {x : DataW H × List MemPlace}
    (hf : DataW.trod enc Tryd.prog W base spare held fuel 23 cs = some x) : ∃ ds : List UInt8, cs = bs ds ∧ ds.length = 32 := by
  obtain ⟨xs, m, rfl, hx, hl, hxl, hel⟩ := DataW.trod_array Tryd.underlying23 hf
  rw [cells_digest] at hl
  have key : ∀ v ∈ cs, ∃ n : Int, v = .int .u8 n ∧ 0 ≤ n ∧ n < 256 := by
    intro v hv
    obtain ⟨i, hi, rfl⟩ := List.getElem_of_mem hv
    have hi' : i < 32 := by omega
    have he := hel i hi'
    rw [cells_u8] at he
    obtain ⟨y, hy⟩ : ∃ y, xs[i]? = some y := ⟨xs[i], by simp [hxl, hi']⟩
    rw [hy] at he
    obtain ⟨n, hn, _, hw⟩ := DataW.trod_int Tryd.underlying5 he
    refine ⟨n, ?_, wf_u8 hw⟩
    have hd : (cs.drop (i * 1)).take 1 = [cs[i]] := by
      simp only [Nat.mul_one]
      rw [List.drop_eq_getElem_cons hi]
      rfl
    rw [hd] at hn
    simpa using hn
  obtain ⟨ds, hds⟩ := bytes_of_cells _ key
  refine ⟨ds, hds, ?_⟩
  have := congrArg List.length hds
  simp [bs_length, hl] at this
  omega

theorem hdF_f0 : (Tryd.prog.fieldsOf 25)[0]?.map (fun f => (f.type, f.offset)) = some (3, 0) := by kernel_rfl
theorem hdF_f1 : (Tryd.prog.fieldsOf 25)[1]?.map (fun f => (f.type, f.offset)) = some (23, 1) := by kernel_rfl
theorem hdF_f2 : (Tryd.prog.fieldsOf 25)[2]?.map (fun f => (f.type, f.offset)) = some (23, 33) := by kernel_rfl
theorem hdF_fs : (Tryd.prog.fieldsOf 25).size = 3 := by kernel_rfl
theorem cells_hdF : Tryd.prog.cellsOf 25 = 65 := by kernel_rfl
theorem cells_intF : Tryd.prog.cellsOf 3 = 1 := by kernel_rfl

theorem trod_head {H : Type} {enc : TypeId × Value → H} {W : World} {base : Nat} {spare : Nat → Bool} {held : Bool} {fuel : Nat} {cs : List Value} {x : DataW H × List MemPlace}
    (hf : DataW.trod enc Tryd.prog W base spare held fuel 25 cs = some x) : ∃ y : Hd, y.ok ∧ cs = hdc y := by
  obtain ⟨xs, n, rfl, rfl, hl, hlen, hfs⟩ := DataW.trod_struct head_under hf
  rw [cells_hdF] at hl
  rw [hdF_fs] at hlen
  have get : ∀ k t o, (Tryd.prog.fieldsOf 25)[k]?.map (fun f => (f.type, f.offset)) = some (t, o) → k < 3 → ∃ y, DataW.trod enc Tryd.prog W base spare held n t ((cs.drop o).take (Tryd.prog.cellsOf t)) = some y := by
    intro k t o hk hk2
    obtain ⟨f, hfk, hfe⟩ := Option.map_eq_some_iff.1 hk
    have h := hfs k f hfk
    rw [(Prod.mk.inj hfe).1, (Prod.mk.inj hfe).2] at h
    obtain ⟨y, hy⟩ : ∃ y, xs[k]? = some y := ⟨xs[k], by simp [hlen, hk2]⟩
    exact ⟨y, by rw [h, hy]⟩
  obtain ⟨_, g0⟩ := get 0 _ 0 hdF_f0 (by decide)
  obtain ⟨_, g1⟩ := get 1 _ 1 hdF_f1 (by decide)
  obtain ⟨_, g2⟩ := get 2 _ 33 hdF_f2 (by decide)
  obtain ⟨m, e0, _⟩ := DataW.trod_int Tryd.underlying3 g0
  obtain ⟨p, e1, hp⟩ := trodS_digest g1
  obtain ⟨q, e2, hq⟩ := trodS_digest g2
  rw [cells_intF] at e0
  rw [cells_digest] at e1 e2
  refine ⟨⟨m, p, q⟩, ⟨hp, hq⟩, ?_⟩
  have s2 : (cs.drop 33).take 32 = cs.drop 33 := List.take_of_length_le (by rw [List.length_drop]; omega)
  rw [s2] at e2
  have t1 : cs.drop 1 = bs p ++ bs q := by
    rw [← List.take_append_drop 32 (cs.drop 1), e1, List.drop_drop, e2]
  rw [← List.take_append_drop 1 cs, ← List.drop_zero (l := cs), e0, List.drop_zero, t1]
  rfl

theorem sgF_f0 : (Tryd.prog.fieldsOf 36)[0]?.map (fun f => (f.type, f.offset)) = some (25, 0) := by kernel_rfl
theorem sgF_f1 : (Tryd.prog.fieldsOf 36)[1]?.map (fun f => (f.type, f.offset)) = some (23, 65) := by kernel_rfl
theorem sgF_fs : (Tryd.prog.fieldsOf 36).size = 2 := by kernel_rfl
theorem cells_sgF : Tryd.prog.cellsOf 36 = 97 := by kernel_rfl

theorem trod_signed {H : Type} {enc : TypeId × Value → H} {W : World} {base : Nat} {spare : Nat → Bool} {held : Bool} {fuel : Nat} {cs : List Value} {x : DataW H × List MemPlace}
    (hf : DataW.trod enc Tryd.prog W base spare held fuel 36 cs = some x) : ∃ y : Sg, y.ok ∧ cs = sgc y := by
  obtain ⟨xs, n, rfl, rfl, hl, hlen, hfs⟩ := DataW.trod_struct sig_under hf
  rw [cells_sgF] at hl
  rw [sgF_fs] at hlen
  have get : ∀ k t o, (Tryd.prog.fieldsOf 36)[k]?.map (fun f => (f.type, f.offset)) = some (t, o) → k < 2 → ∃ y, DataW.trod enc Tryd.prog W base spare held n t ((cs.drop o).take (Tryd.prog.cellsOf t)) = some y := by
    intro k t o hk hk2
    obtain ⟨f, hfk, hfe⟩ := Option.map_eq_some_iff.1 hk
    have h := hfs k f hfk
    rw [(Prod.mk.inj hfe).1, (Prod.mk.inj hfe).2] at h
    obtain ⟨y, hy⟩ : ∃ y, xs[k]? = some y := ⟨xs[k], by simp [hlen, hk2]⟩
    exact ⟨y, by rw [h, hy]⟩
  obtain ⟨_, g0⟩ := get 0 _ 0 sgF_f0 (by decide)
  obtain ⟨_, g1⟩ := get 1 _ 65 sgF_f1 (by decide)
  obtain ⟨h, hh, e0⟩ := trod_head g0
  obtain ⟨p, e1, hp⟩ := trodS_digest g1
  rw [cells_hdF] at e0
  rw [cells_digest] at e1
  refine ⟨⟨h, p⟩, ⟨hh, hp⟩, ?_⟩
  have s2 : (cs.drop 65).take 32 = cs.drop 65 := List.take_of_length_le (by rw [List.length_drop]; omega)
  rw [s2] at e1
  rw [List.drop_zero] at e0
  rw [← List.take_append_drop 65 cs, e0, e1]
  rfl

/-- a signed head that came in by value -/
theorem open_signed {H : Type} {enc : TypeId × Value → H} {W : World} {v : Value} {d : DataW H} {p : List MemPlace} {r : Reach} {b0 : Nat} (hval : Value.okWide Tryd.prog W r b0 36 v)
    (h : DataW.Trod enc Tryd.prog W 0 (fun _ => true) true 36 v d p) : ∃ y : Sg, v = .agg (sgc y).toArray ∧ y.ok := by
  obtain ⟨cs, rfl, _⟩ := okWide_struct sig_under hval
  obtain ⟨fuel, hf⟩ := h
  obtain ⟨y, hy, he⟩ := trod_signed hf
  simp only [Value.cells] at he
  exact ⟨y, by rw [← he], hy⟩
/-- a head that came in by value -/
theorem open_head {H : Type} {enc : TypeId × Value → H} {W : World} {v : Value} {d : DataW H} {p : List MemPlace} {r : Reach} {b0 : Nat} (hval : Value.okWide Tryd.prog W r b0 25 v)
    (h : DataW.Trod enc Tryd.prog W 0 (fun _ => true) true 25 v d p) : ∃ y : Hd, v = .agg (hdc y).toArray ∧ y.ok := by
  obtain ⟨cs, rfl, _⟩ := okWide_struct head_under hval
  obtain ⟨fuel, hf⟩ := h
  obtain ⟨y, hy, he⟩ := trod_head hf
  simp only [Value.cells] at he
  exact ⟨y, by rw [← he], hy⟩
/-- a slice that came in, element by element -/
theorem trod_rowsH {α H : Type} (R : Row α) {tk : TypeId × Value → H} {W : World} {base : Nat} {spare : Nat → Bool} (hcell : Tryd.prog.cellsOf R.T = R.k) (Q : α → Prop)
    (el : ∀ (n : Nat) (cs : List Value) (z : DataW H × List MemPlace), DataW.trod tk Tryd.prog W base spare true n R.T cs = some z → ∃ y, R.ok y ∧ cs = R.cs y ∧ Q y)
    {fuel : Nat} {cs : List Value} {x : DataW H × List MemPlace} (hf : DataW.trod tk Tryd.prog W base spare true fuel R.S cs = some x) : ∃ a n c l, cs = [.slice a n c] ∧ RdG R W a n c l ∧ ∀ y ∈ l, Q y := by
  rcases DataW.trod_slice R.und hf with ⟨hcs, _⟩ | ⟨x, len, cap, elems, rest, n, _, hcs, _, _, hl, hm, hlen, hel, _, _⟩
  · exact ⟨none, 0, 0, [], hcs, RdG.nil0 W, fun y hy => by simp at hy⟩
  · have each : ∀ i, i < len → ∃ y : α, (R.ok y ∧ Q y) ∧ ∀ j u, (R.cs y)[j]? = some u → W.cell? (x.add (i * R.k + j)) = some u := by
      intro i hi
      have h := hel i hi
      obtain ⟨z, hz⟩ : ∃ z, elems[i]? = some z := ⟨elems[i], by simp [hlen, hi]⟩
      rw [hz, hcell, Option.bind_eq_some_iff] at h
      obtain ⟨cs', hc, ht⟩ := h
      obtain ⟨y, hy, rfl, hq⟩ := el _ _ _ ht
      refine ⟨y, ⟨hy, hq⟩, fun j u hu => ?_⟩
      have hj : j < R.k := by
        have := (List.getElem?_eq_some_iff.1 hu).1
        rwa [R.len y hy] at this
      have h3 := (World.cells?_some hc).2.2 j hj
      rw [hu] at h3
      rw [← h3, Addr.add_add x (i * R.k) j]
    let f : Nat → α := fun i => if h : i < len then Classical.choose (each i h) else R.x0
    have hf : ∀ i, i < len → (R.ok (f i) ∧ Q (f i)) ∧ ∀ j u, (R.cs (f i))[j]? = some u → W.cell? (x.add (i * R.k + j)) = some u := fun i hi => by
      have h := Classical.choose_spec (each i hi)
      have e : f i = Classical.choose (each i hi) := dif_pos hi
      rw [e]
      exact h
    have hok : R.all ((List.range len).map f) := fun y hy => by
      obtain ⟨i, hi, rfl⟩ := List.mem_map.1 hy
      exact (hf i (List.mem_range.1 hi)).1.1
    refine ⟨some x, len, cap, (List.range len).map f, hcs, ⟨by simp, hok, hl, hm, (fun e => by cases e), fun ad e j u hu => ?_⟩, fun y hy => ?_⟩
    · cases e
      have hp := R.pos
      have hj : j < len * R.k := by
        have := (List.getElem?_eq_some_iff.1 hu).1
        rw [Row.cells_length hok] at this
        simpa using this
      have hi : j / R.k < len := Nat.div_lt_of_lt_mul (by rw [Nat.mul_comm]; exact hj)
      have h1 := Row.cells_at hok (j / R.k) (j % R.k) (by simpa using hi) (Nat.mod_lt _ hp)
      have e3 : j / R.k * R.k + j % R.k = j := by rw [Nat.mul_comm]; exact Nat.div_add_mod j R.k
      rw [e3, hu] at h1
      have e2 : ((List.range len).map f).getD (j / R.k) R.x0 = f (j / R.k) := by simp [List.getD, hi]
      rw [e2] at h1
      have h2 := (hf _ hi).2 _ _ h1.symm
      rwa [e3] at h2
    · obtain ⟨i, hi, rfl⟩ := List.mem_map.1 hy
      exact (hf i (List.mem_range.1 hi)).1.2
/-- a slice of signed heads that came in -/
theorem open_signeds {H : Type} {enc : TypeId × Value → H} {W : World} {v : Value} {d : DataW H} {p : List MemPlace} {r : Reach} {b0 : Nat} (hval : Value.okWide Tryd.prog W r b0 44 v)
    (h : DataW.Trod enc Tryd.prog W 0 (fun _ => true) true 44 v d p) : ∃ a n c l, v = .slice a n c ∧ RdG sgR W a n c l := by
  obtain ⟨a0, len0, cap0, rfl⟩ := okWide_slice Tryd.underlying44 hval
  obtain ⟨fuel, hf⟩ := h
  obtain ⟨a, n, c, l, he, hr, _⟩ := trod_rowsH sgR cells_sgF (fun _ => True) (fun n cs z hz => by
    obtain ⟨y, hy, e⟩ := trod_signed hz
    exact ⟨y, hy, e, trivial⟩) hf
  simp [Value.cells] at he
  obtain ⟨rfl, rfl, rfl⟩ := he
  exact ⟨_, _, _, l, rfl, hr⟩
end Go.Proofs.YtoclahcibilbhaaDoor
