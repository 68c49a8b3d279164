/-
  Leaves that come in: by value, and slices of them.
-/
import Derived.Test.YtgbhfpkngjlfkaaDoorFrame
import Derived.Test.YtgbhfpkngjlfkaaDoorLibL
import Derived.Test.YtgbhfpkngjlfkaaDoorLibE
import Derived.DataElems
namespace Go.Proofs.YtgbhfpkngjlfkaaDoor
open Go.ChangeShapes Go.WideShapes Go.RowKit
set_option maxRecDepth 100000

theorem trod_digest {H : Type} {enc : TypeId × Value → H} {W : World} {base : Nat} {spare : Nat → Bool} {held : Bool} {fuel : Nat} {cs : List Value} {x : DataW H × List MemPlace}
    (hf : DataW.trod enc Tryd.prog W base spare held fuel 23 cs = some x) : ∃ ds : List UInt8, cs = bs ds ∧ ds.length = 32 := by
  obtain ⟨xs, m, rfl, hx, hl, hxl, hel⟩ := DataW.trod_array Tryd.underlying23 hf
  rw [cells_digest] at hl
  have key : ∀ v ∈ cs, ∃ n : Int, v = .int .u8 n ∧ 0 ≤ n ∧ n < 256 := by
    intro v hv
    obtain ⟨i, hi, rfl⟩ := List.getElem_of_mem hv
    have hi' : i < 32 := by omega
    have he := hel i hi'
    rw [cells_u8] at he
    obtain ⟨y, hy⟩ : ∃ y, xs[i]? = some y := ⟨xs[i], by simp [hxl, hi']⟩
    rw [hy] at he
    obtain ⟨n, hn, _, hw⟩ := DataW.trod_int Tryd.underlying5 he
    refine ⟨n, ?_, wf_u8 hw⟩
    have hd : (cs.drop (i * 1)).take 1 = [cs[i]] := by
      simp only [Nat.mul_one]
      rw [List.drop_eq_getElem_cons hi]
      rfl
    rw [hd] at hn
    simpa using hn
  obtain ⟨ds, hds⟩ := bytes_of_cells _ key
  refine ⟨ds, hds, ?_⟩
  have := congrArg List.length hds
  simp [bs_length, hl] at this
  omega

theorem leaf_f0 : (Tryd.prog.fieldsOf 46)[0]?.map (fun f => (f.type, f.offset)) = some (23, 0) := by kernel_rfl
theorem leaf_f1 : (Tryd.prog.fieldsOf 46)[1]?.map (fun f => (f.type, f.offset)) = some (23, 32) := by kernel_rfl
theorem leaf_fs : (Tryd.prog.fieldsOf 46).size = 2 := by kernel_rfl
theorem cells_leaf : Tryd.prog.cellsOf 46 = 64 := by kernel_rfl

theorem trod_leaf {H : Type} {enc : TypeId × Value → H} {W : World} {base : Nat} {spare : Nat → Bool} {held : Bool} {fuel : Nat} {cs : List Value} {x : DataW H × List MemPlace}
    (hf : DataW.trod enc Tryd.prog W base spare held fuel 46 cs = some x) : ∃ y : Lf, y.ok ∧ cs = lc y := by
  obtain ⟨xs, n, rfl, rfl, hl, hlen, hfs⟩ := DataW.trod_struct leaf_under hf
  rw [cells_leaf] at hl
  rw [leaf_fs] at hlen
  have get : ∀ k o, (Tryd.prog.fieldsOf 46)[k]?.map (fun f => (f.type, f.offset)) = some (23, o) → k < 2 → ∃ ds : List UInt8, (cs.drop o).take 32 = bs ds ∧ ds.length = 32 := by
    intro k o hk hk2
    obtain ⟨f, hfk, hfe⟩ := Option.map_eq_some_iff.1 hk
    have h := hfs k f hfk
    rw [(Prod.mk.inj hfe).1, (Prod.mk.inj hfe).2, cells_digest] at h
    obtain ⟨y, hy⟩ : ∃ y, xs[k]? = some y := ⟨xs[k], by simp [hlen, hk2]⟩
    rw [hy] at h
    exact trod_digest h
  obtain ⟨p, hp, hpl⟩ := get 0 0 leaf_f0 (by decide)
  obtain ⟨q, hq, hql⟩ := get 1 32 leaf_f1 (by decide)
  refine ⟨⟨p, q⟩, ⟨hpl, hql⟩, ?_⟩
  have e1 : (cs.drop 32).take 32 = cs.drop 32 := List.take_of_length_le (by simp; omega)
  rw [List.drop_zero] at hp
  rw [e1] at hq
  rw [← List.take_append_drop 32 cs, hp, hq]
  rfl

/-- a leaf that came in by value -/
theorem open_leaf {H : Type} {enc : TypeId × Value → H} {W : World} {v : Value} {d : DataW H} {p : List MemPlace} {r : Reach} {b0 : Nat} (hval : Value.okWide Tryd.prog W r b0 46 v)
    (h : DataW.Trod enc Tryd.prog W 0 (fun _ => true) true 46 v d p) : ∃ y : Lf, v = .agg (lc y).toArray ∧ y.ok := by
  obtain ⟨cs, rfl, _⟩ := okWide_struct leaf_under hval
  obtain ⟨fuel, hf⟩ := h
  obtain ⟨y, hy, he⟩ := trod_leaf hf
  simp only [Value.cells] at he
  exact ⟨y, by rw [← he], hy⟩

/-- a slice of leaves that came in -/
theorem open_leaves {H : Type} {enc : TypeId × Value → H} {W : World} {v : Value} {d : DataW H} {p : List MemPlace} {r : Reach} {b0 : Nat} (hval : Value.okWide Tryd.prog W r b0 41 v)
    (h : DataW.Trod enc Tryd.prog W 0 (fun _ => true) true 41 v d p) : ∃ a n c l, v = .slice a n c ∧ RdL W a n c l := by
  obtain ⟨a0, len0, cap0, rfl⟩ := okWide_slice Tryd.underlying41 hval
  obtain ⟨fuel, hf⟩ := h
  rcases DataW.trod_slice Tryd.underlying41 hf with ⟨hcs, _⟩ | ⟨x, len, cap, elems, rest, n, _, hcs, _, _, hl, hm, hlen, hel, _, _⟩
  · simp [Value.cells] at hcs
    obtain ⟨rfl, rfl, rfl⟩ := hcs
    exact ⟨none, 0, 0, [], rfl, RdL.nil0 W⟩
  · simp [Value.cells] at hcs
    obtain ⟨rfl, rfl, rfl⟩ := hcs
    have each : ∀ i, i < len0 → ∃ y : Lf, y.ok ∧ ∀ j u, (lc y)[j]? = some u → W.cell? (x.add (i * 64 + j)) = some u := by
      intro i hi
      have h := hel i hi
      obtain ⟨z, hz⟩ : ∃ z, elems[i]? = some z := ⟨elems[i], by simp [hlen, hi]⟩
      rw [hz, cells_leaf, Option.bind_eq_some_iff] at h
      obtain ⟨cs, hc, ht⟩ := h
      obtain ⟨y, hy, rfl⟩ := trod_leaf ht
      refine ⟨y, hy, fun j u hu => ?_⟩
      have hj : j < 64 := by
        have := (List.getElem?_eq_some_iff.1 hu).1
        rwa [lc_length hy] at this
      have h3 := (World.cells?_some hc).2.2 j hj
      rw [hu] at h3
      rw [← h3, Addr.add_add x (i * 64) j]
    let f : Nat → Lf := fun i => if h : i < len0 then Classical.choose (each i h) else lf0
    have hf : ∀ i, i < len0 → (f i).ok ∧ ∀ j u, (lc (f i))[j]? = some u → W.cell? (x.add (i * 64 + j)) = some u := fun i hi => by
      have h := Classical.choose_spec (each i hi)
      have e : f i = Classical.choose (each i hi) := dif_pos hi
      rw [e]
      exact h
    have hok : oks ((List.range len0).map f) := fun y hy => by
      obtain ⟨i, hi, rfl⟩ := List.mem_map.1 hy
      exact (hf i (List.mem_range.1 hi)).1
    refine ⟨some x, len0, cap0, (List.range len0).map f, rfl, by simp, hok, hl, hm, (fun e => by cases e), fun ad e j u hu => ?_⟩
    cases e
    have hj : j < len0 * 64 := by
      have := (List.getElem?_eq_some_iff.1 hu).1
      rw [lcs_length hok] at this
      simpa using this
    have hi : j / 64 < len0 := by omega
    have h1 := lcs_at hok (j / 64) (j % 64) (by simpa using hi) (Nat.mod_lt _ (by decide))
    rw [show j / 64 * 64 + j % 64 = j by omega, hu] at h1
    have e2 : ((List.range len0).map f).getD (j / 64) lf0 = f (j / 64) := by simp [List.getD, hi]
    rw [e2] at h1
    have h2 := (hf _ hi).2 _ _ h1.symm
    rwa [show j / 64 * 64 + j % 64 = j by omega] at h2
end Go.Proofs.YtgbhfpkngjlfkaaDoor
