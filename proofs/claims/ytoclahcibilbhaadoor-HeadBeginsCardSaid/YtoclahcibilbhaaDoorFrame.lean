/-
  What the frames of the rows need: the arguments opened into what the walks are told.
-/
import Derived.Test.YtoclahcibilbhaaDoorLib
import Derived.ProofKit
import Derived.OpenShut
import Derived.ShutString
import Derived.ChangeOld
import Derived.SliceStrings
namespace Go.Proofs.YtoclahcibilbhaaDoor
open Go.RowKit Go.ChangeShapes Go.WideShapes Go.ChangeAt
open Go.ChangeMaps (open_string)

set_option maxRecDepth 100000
theorem own : ownKnob Tryd.prog.godebug = none := by kernel_rfl
theorem laidOut : laidOutB Tryd.prog = true := by kernel_rfl

theorem trod_lt {H : Type} {enc : TypeId × Value → H} {W : World} {t : TypeId} {v : Value} {d : DataW H} {p : List MemPlace} {sp : Nat → Bool} {b : Nat} (h : DataW.Trod enc Tryd.prog W b sp true t v d p) : ∀ x ∈ p, x.block < W.heap.size := by
  obtain ⟨m, hm⟩ := h; exact DataW.trod_lt m _ _ _ hm

theorem wf_u8 {n : Int} (h : (Lit.int .u8 n).wf = true) : 0 ≤ n ∧ n < 256 := by
  have := bounds_u8 h
  omega

/-- a slice of bytes that came in reads as a list of bytes -/
theorem open_bytes {H : Type} {enc : TypeId × Value → H} {W : World} {v : Value} {d : DataW H} {p : List MemPlace} {r : Reach} {b0 : Nat} (hval : Value.okWide Tryd.prog W r b0 26 v)
    (h : DataW.Trod enc Tryd.prog W 0 (fun _ => true) true 26 v d p) : ∃ a n c l, v = .slice a n c ∧ Rd W a n c l := by
  obtain ⟨a0, len0, cap0, rfl⟩ := okWide_slice Tryd.underlying26 hval
  obtain ⟨fuel, hf⟩ := h
  rcases open_ints Tryd.underlying26 Tryd.underlying5 (by kernel_rfl) hf with ⟨hcs, _⟩ | ⟨x, l, c, zs, hcs, _, hl, hm, hz, _, hcell, hwz⟩
  · simp [Value.cells] at hcs
    obtain ⟨rfl, rfl, rfl⟩ := hcs
    exact ⟨none, 0, 0, [], rfl, Rd.nil0 W⟩
  · simp [Value.cells] at hcs
    obtain ⟨rfl, rfl, rfl⟩ := hcs
    have hz' : zs.length = cap0 := by simpa using hz
    refine ⟨some x, len0, cap0, (zs.take len0).map (fun z => UInt8.ofNat z.toNat), rfl, ?_, hl, hm, (fun e => by cases e), fun ad e j u hu => ?_⟩
    · simp; omega
    · cases e
      have hj : j < len0 := by
        have := (List.getElem?_eq_some_iff.1 hu).1
        simp [bs] at this; omega
      have hjz : j < zs.length := by omega
      rw [hcell j hjz, ← hu]
      have hb := wf_u8 (hwz zs[j] (List.getElem_mem hjz))
      simp [bs, hj, hjz, List.getD]
      omega

theorem cells_digest : Tryd.prog.cellsOf 23 = 32 := by kernel_rfl
theorem cells_u8 : Tryd.prog.cellsOf 5 = 1 := by kernel_rfl

/-- a list of cells each of which is a byte -/
theorem bytes_of_cells (cs : List Value) (h : ∀ v ∈ cs, ∃ n : Int, v = .int .u8 n ∧ 0 ≤ n ∧ n < 256) : ∃ ds : List UInt8, cs = bs ds := by
  induction cs with
  | nil => exact ⟨[], rfl⟩
  | cons v cs ih =>
    obtain ⟨ds, rfl⟩ := ih (fun u hu => h u (List.mem_cons_of_mem _ hu))
    obtain ⟨n, rfl, h0, h1⟩ := h v (List.mem_cons_self ..)
    refine ⟨UInt8.ofNat n.toNat :: ds, ?_⟩
    simp [bs]
    omega

/-- a digest that came in by value -/
theorem open_digest {H : Type} {enc : TypeId × Value → H} {W : World} {v : Value} {d : DataW H} {p : List MemPlace} {r : Reach} {b0 : Nat} (hval : Value.okWide Tryd.prog W r b0 23 v)
    (h : DataW.Trod enc Tryd.prog W 0 (fun _ => true) true 23 v d p) : ∃ ds : List UInt8, v = .agg (bs ds).toArray ∧ ds.length = 32 := by
  simp only [Value.okWide, Tryd.underlying23] at hval
  obtain ⟨cs, rfl, hcs, _⟩ := hval
  rw [cells_digest] at hcs
  obtain ⟨fuel, hf⟩ := h
  obtain ⟨xs, m, rfl, hx, hl, hxl, hel⟩ := DataW.trod_array Tryd.underlying23 hf
  have key : ∀ v ∈ cs.toList, ∃ n : Int, v = .int .u8 n ∧ 0 ≤ n ∧ n < 256 := by
    intro v hv
    obtain ⟨i, hi, rfl⟩ := List.getElem_of_mem hv
    have hi' : i < 32 := by simpa [hcs] using hi
    have he := hel i hi'
    rw [cells_u8] at he
    obtain ⟨y, hy⟩ : ∃ y, xs[i]? = some y := ⟨xs[i], by simp [hxl, hi']⟩
    rw [hy] at he
    obtain ⟨n, hn, _, hw⟩ := DataW.trod_int Tryd.underlying5 he
    refine ⟨n, ?_, wf_u8 hw⟩
    have hd : ((Value.agg cs).cells.toList.drop (i * 1)).take 1 = [cs.toList[i]] := by
      simp only [Value.cells, Nat.mul_one]
      rw [List.drop_eq_getElem_cons hi]
      rfl
    rw [hd] at hn
    simpa using hn
  obtain ⟨ds, hds⟩ := bytes_of_cells _ key
  refine ⟨ds, ?_, ?_⟩
  · rw [← hds]
  · have := congrArg List.length hds
    simp [bs_length, hcs] at this
    omega

end Go.Proofs.YtoclahcibilbhaaDoor
