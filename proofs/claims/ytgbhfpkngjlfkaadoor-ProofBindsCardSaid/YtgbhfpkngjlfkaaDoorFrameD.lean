/-
  Digests in a slice that come in.
-/
import Derived.Test.YtgbhfpkngjlfkaaDoorFrame
import Derived.Test.YtgbhfpkngjlfkaaDoorLibG
import Derived.DataElems
namespace Go.Proofs.YtgbhfpkngjlfkaaDoor
open Go.ChangeShapes Go.WideShapes Go.RowKit
set_option maxRecDepth 100000

theorem trodP_digest {H : Type} {enc : TypeId × Value → H} {W : World} {base : Nat} {spare : Nat → Bool} {held : Bool} {fuel : Nat} {cs : List Value} {x : DataW H × List MemPlace}
    (hf : DataW.trod enc Tryd.prog W base spare held fuel 23 cs = some x) : ∃ ds : List UInt8, cs = bs ds ∧ ds.length = 32 := by
  obtain ⟨xs, m, rfl, hx, hl, hxl, hel⟩ := DataW.trod_array Tryd.underlying23 hf
  rw [cells_digest] at hl
  have key : ∀ v ∈ cs, ∃ n : Int, v = .int .u8 n ∧ 0 ≤ n ∧ n < 256 := by
    intro v hv
    obtain ⟨i, hi, rfl⟩ := List.getElem_of_mem hv
    have hi' : i < 32 := by omega
    have he := hel i hi'
    rw [cells_u8] at he
    obtain ⟨y, hy⟩ : ∃ y, xs[i]? = some y := ⟨xs[i], by simp [hxl, hi']⟩
    rw [hy] at he
    obtain ⟨n, hn, _, hw⟩ := DataW.trod_int Tryd.underlying5 he
    refine ⟨n, ?_, wf_u8 hw⟩
    have hd : (cs.drop (i * 1)).take 1 = [cs[i]] := by
      simp only [Nat.mul_one]
      rw [List.drop_eq_getElem_cons hi]
      rfl
    rw [hd] at hn
    simpa using hn
  obtain ⟨ds, hds⟩ := bytes_of_cells _ key
  refine ⟨ds, hds, ?_⟩
  have := congrArg List.length hds
  simp [bs_length, hl] at this
  omega

/-- a slice of digests that came in, by its cell -/
theorem trod_digs {H : Type} {enc : TypeId × Value → H} {W : World} {base : Nat} {spare : Nat → Bool} {fuel : Nat} {cs : List Value} {x : DataW H × List MemPlace}
    (hf : DataW.trod enc Tryd.prog W base spare true fuel 26 cs = some x) : ∃ a n c l, cs = [.slice a n c] ∧ RdD W a n c l := by
  rcases DataW.trod_slice Tryd.underlying26 hf with ⟨hcs, _⟩ | ⟨x, len, cap, elems, rest, n, _, hcs, _, _, hl, hm, hlen, hel, _, _⟩
  · exact ⟨none, 0, 0, [], hcs, RdD.nil0 W⟩
  · have each : ∀ i, i < len → ∃ y : List UInt8, y.length = 32 ∧ ∀ j u, (bs y)[j]? = some u → W.cell? (x.add (i * 32 + j)) = some u := by
      intro i hi
      have h := hel i hi
      obtain ⟨z, hz⟩ : ∃ z, elems[i]? = some z := ⟨elems[i], by simp [hlen, hi]⟩
      rw [hz, cells_digest, Option.bind_eq_some_iff] at h
      obtain ⟨cs', hc, ht⟩ := h
      obtain ⟨y, rfl, hy⟩ := trodP_digest ht
      refine ⟨y, hy, fun j u hu => ?_⟩
      have hj : j < 32 := by
        have := (List.getElem?_eq_some_iff.1 hu).1
        rwa [bs_length, hy] at this
      have h3 := (World.cells?_some hc).2.2 j hj
      rw [hu] at h3
      rw [← h3, Addr.add_add x (i * 32) j]
    let f : Nat → List UInt8 := fun i => if h : i < len then Classical.choose (each i h) else []
    have hf : ∀ i, i < len → (f i).length = 32 ∧ ∀ j u, (bs (f i))[j]? = some u → W.cell? (x.add (i * 32 + j)) = some u := fun i hi => by
      have h := Classical.choose_spec (each i hi)
      have e : f i = Classical.choose (each i hi) := dif_pos hi
      rw [e]
      exact h
    have hok : okd ((List.range len).map f) := fun y hy => by
      obtain ⟨i, hi, rfl⟩ := List.mem_map.1 hy
      exact (hf i (List.mem_range.1 hi)).1
    refine ⟨some x, len, cap, (List.range len).map f, hcs, by simp, hok, hl, hm, (fun e => by cases e), fun ad e j u hu => ?_⟩
    cases e
    have hj : j < len * 32 := by
      have := (List.getElem?_eq_some_iff.1 hu).1
      rw [dcs_length hok] at this
      simpa using this
    have hi : j / 32 < len := by omega
    have h1 := dcs_at hok (j / 32) (j % 32) (by simpa using hi) (Nat.mod_lt _ (by decide))
    rw [show j / 32 * 32 + j % 32 = j by omega, hu] at h1
    have e2 : ((List.range len).map f).getD (j / 32) [] = f (j / 32) := by simp [List.getD, hi]
    rw [e2] at h1
    have h2 := (hf _ hi).2 _ _ h1.symm
    rwa [show j / 32 * 32 + j % 32 = j by omega] at h2
theorem open_digs {H : Type} {enc : TypeId × Value → H} {W : World} {v : Value} {d : DataW H} {p : List MemPlace} {r : Reach} {b0 : Nat} (hval : Value.okWide Tryd.prog W r b0 26 v)
    (h : DataW.Trod enc Tryd.prog W 0 (fun _ => true) true 26 v d p) : ∃ a n c l, v = .slice a n c ∧ RdD W a n c l := by
  obtain ⟨a0, len0, cap0, rfl⟩ := okWide_slice Tryd.underlying26 hval
  obtain ⟨fuel, hf⟩ := h
  obtain ⟨a, n, c, l, h1, h2⟩ := trod_digs hf
  simp [Value.cells] at h1
  obtain ⟨rfl, rfl, rfl⟩ := h1
  exact ⟨_, _, _, l, rfl, h2⟩

end Go.Proofs.YtgbhfpkngjlfkaaDoor
