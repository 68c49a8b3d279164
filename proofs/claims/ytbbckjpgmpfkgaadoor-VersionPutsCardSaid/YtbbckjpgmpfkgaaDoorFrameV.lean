/-
  Versions that come in: by value, and slices of them.
-/
import Derived.Test.YtbbckjpgmpfkgaaDoorFrame
import Derived.Test.YtbbckjpgmpfkgaaDoorVer0
import Derived.DataElems
namespace Go.Proofs.YtbbckjpgmpfkgaaDoor
open Go.ChangeShapes Go.WideShapes Go.RowKit
set_option maxRecDepth 100000

theorem ver_f0 : (Tryd.prog.fieldsOf 87)[0]?.map (fun f => (f.type, f.offset)) = some (3, 0) := by kernel_rfl
theorem ver_f1 : (Tryd.prog.fieldsOf 87)[1]?.map (fun f => (f.type, f.offset)) = some (85, 1) := by kernel_rfl
theorem ver_f2 : (Tryd.prog.fieldsOf 87)[2]?.map (fun f => (f.type, f.offset)) = some (9, 2) := by kernel_rfl
theorem ver_fs : (Tryd.prog.fieldsOf 87).size = 3 := by kernel_rfl
theorem cells_ver : Tryd.prog.cellsOf 87 = 3 := by kernel_rfl
theorem cells_ver0 : Tryd.prog.cellsOf 3 = 1 := by kernel_rfl
theorem cells_ver1 : Tryd.prog.cellsOf 85 = 1 := by kernel_rfl
theorem cells_ver2 : Tryd.prog.cellsOf 9 = 1 := by kernel_rfl

theorem trod_ver {H : Type} {enc : TypeId × Value → H} {W : World} {base : Nat} {spare : Nat → Bool} {held : Bool} {fuel : Nat} {cs : List Value} {x : DataW H × List MemPlace}
    (hf : DataW.trod enc Tryd.prog W base spare held fuel 87 cs = some x) : ∃ y : Vn, cs = vc y := by
  obtain ⟨xs, n, rfl, rfl, hl, hlen, hfs⟩ := DataW.trod_struct underV hf
  rw [cells_ver] at hl
  rw [ver_fs] at hlen
  have get : ∀ k t o, (Tryd.prog.fieldsOf 87)[k]?.map (fun f => (f.type, f.offset)) = some (t, o) → k < 3 → ∃ y, DataW.trod enc Tryd.prog W base spare held n t ((cs.drop o).take (Tryd.prog.cellsOf t)) = some y := by
    intro k t o hk hk2
    obtain ⟨f, hfk, hfe⟩ := Option.map_eq_some_iff.1 hk
    have h := hfs k f hfk
    rw [(Prod.mk.inj hfe).1, (Prod.mk.inj hfe).2] at h
    obtain ⟨y, hy⟩ : ∃ y, xs[k]? = some y := ⟨xs[k], by simp [hlen, hk2]⟩
    exact ⟨y, by rw [h, hy]⟩
  obtain ⟨_, g0⟩ := get 0 _ 0 ver_f0 (by decide)
  obtain ⟨_, g1⟩ := get 1 _ 1 ver_f1 (by decide)
  obtain ⟨_, g2⟩ := get 2 _ 2 ver_f2 (by decide)
  obtain ⟨p, e0, _⟩ := DataW.trod_int Tryd.underlying3 g0
  obtain ⟨q, e1, _⟩ := DataW.trod_int Tryd.underlying85 g1
  obtain ⟨s, e2, _⟩ := DataW.trod_string Tryd.underlying9 g2
  rw [cells_ver0] at e0
  rw [cells_ver1] at e1
  rw [cells_ver2] at e2
  refine ⟨⟨p, q, s⟩, ?_⟩
  obtain ⟨u, v, t, rfl⟩ : ∃ u v t, cs = [u, v, t] := by
    match cs, hl with
    | [u, v, t], _ => exact ⟨u, v, t, rfl⟩
  simp at e0 e1 e2
  subst e0; subst e1; subst e2
  rfl

/-- a version that came in by value -/
theorem open_version {H : Type} {enc : TypeId × Value → H} {W : World} {v : Value} {d : DataW H} {p : List MemPlace} {r : Reach} {b0 : Nat} (hval : Value.okWide Tryd.prog W r b0 87 v)
    (h : DataW.Trod enc Tryd.prog W 0 (fun _ => true) true 87 v d p) : ∃ y : Vn, v = .agg (vc y).toArray := by
  obtain ⟨cs, rfl, _⟩ := okWide_struct underV hval
  obtain ⟨fuel, hf⟩ := h
  obtain ⟨y, he⟩ := trod_ver hf
  simp only [Value.cells] at he
  exact ⟨y, by rw [← he]⟩

/-- a slice of versions that came in -/
theorem open_versions {H : Type} {enc : TypeId × Value → H} {W : World} {v : Value} {d : DataW H} {p : List MemPlace} {r : Reach} {b0 : Nat} (hval : Value.okWide Tryd.prog W r b0 48 v)
    (h : DataW.Trod enc Tryd.prog W 0 (fun _ => true) true 48 v d p) : ∃ a n c l, v = .slice a n c ∧ RdV W a n c l := by
  obtain ⟨a0, len0, cap0, rfl⟩ := okWide_slice Tryd.underlying48 hval
  obtain ⟨fuel, hf⟩ := h
  rcases DataW.trod_slice Tryd.underlying48 hf with ⟨hcs, _⟩ | ⟨x, len, cap, elems, rest, n, _, hcs, _, _, hl, hm, hlen, hel, _, _⟩
  · simp [Value.cells] at hcs
    obtain ⟨rfl, rfl, rfl⟩ := hcs
    exact ⟨none, 0, 0, [], rfl, RdG.nil0 W⟩
  · simp [Value.cells] at hcs
    obtain ⟨rfl, rfl, rfl⟩ := hcs
    have each : ∀ i, i < len0 → ∃ y : Vn, ∀ j u, (vc y)[j]? = some u → W.cell? (x.add (i * 3 + j)) = some u := by
      intro i hi
      have h := hel i hi
      obtain ⟨z, hz⟩ : ∃ z, elems[i]? = some z := ⟨elems[i], by simp [hlen, hi]⟩
      rw [hz, cells_ver, Option.bind_eq_some_iff] at h
      obtain ⟨cs, hc, ht⟩ := h
      obtain ⟨y, rfl⟩ := trod_ver ht
      refine ⟨y, fun j u hu => ?_⟩
      have hj : j < 3 := (List.getElem?_eq_some_iff.1 hu).1
      have h3 := (World.cells?_some hc).2.2 j hj
      rw [hu] at h3
      rw [← h3, Addr.add_add x (i * 3) j]
    let f : Nat → Vn := fun i => if h : i < len0 then Classical.choose (each i h) else vn0
    have hf : ∀ i, i < len0 → ∀ j u, (vc (f i))[j]? = some u → W.cell? (x.add (i * 3 + j)) = some u := fun i hi => by
      have h := Classical.choose_spec (each i hi)
      have e : f i = Classical.choose (each i hi) := dif_pos hi
      rw [e]
      exact h
    refine ⟨some x, len0, cap0, (List.range len0).map f, rfl, by simp, okv _, hl, hm, (fun e => by cases e), fun ad e j u hu => ?_⟩
    cases e
    have hj : j < len0 * 3 := by
      have := (List.getElem?_eq_some_iff.1 hu).1
      have h2 := Row.cells_length (okv ((List.range len0).map f))
      have h3 : verR.k = 3 := rfl
      rw [h2, h3] at this
      simpa using this
    have hi : j / 3 < len0 := by omega
    have h1 := Row.cells_at (okv ((List.range len0).map f)) (j / 3) (j % 3) (by simpa using hi) (Nat.mod_lt _ (by decide))
    rw [show verR.k = 3 from rfl, show j / 3 * 3 + j % 3 = j by omega, hu] at h1
    have e2 : ((List.range len0).map f).getD (j / 3) verR.x0 = f (j / 3) := by simp [List.getD, hi]
    rw [e2] at h1
    have h2 := hf _ hi _ _ h1.symm
    rwa [show j / 3 * 3 + j % 3 = j by omega] at h2
end Go.Proofs.YtbbckjpgmpfkgaaDoor
