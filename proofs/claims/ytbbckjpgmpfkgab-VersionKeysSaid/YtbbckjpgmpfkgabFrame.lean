/-
  What the frames of the rows need: the arguments opened into what the walks are told.
-/
import Derived.Test.YtbbckjpgmpfkgabLib
import Derived.ProofKit
import Derived.OpenShut
import Derived.ShutString
import Derived.ChangeOld
import Derived.SliceStrings
namespace Go.Proofs.Ytbbckjpgmpfkgab
open Go.RowKit Go.ChangeShapes Go.WideShapes Go.ChangeAt
open Go.ChangeMaps (open_string)

set_option maxRecDepth 100000
theorem own : ownKnob Try.prog.godebug = none := by kernel_rfl
theorem laidOut : laidOutB Try.prog = true := by kernel_rfl

theorem trod_lt {H : Type} {enc : TypeId × Value → H} {W : World} {t : TypeId} {v : Value} {d : DataW H} {p : List MemPlace} {sp : Nat → Bool} {b : Nat} (h : DataW.Trod enc Try.prog W b sp true t v d p) : ∀ x ∈ p, x.block < W.heap.size := by
  obtain ⟨m, hm⟩ := h; exact DataW.trod_lt m _ _ _ hm

theorem wf_u8 {n : Int} (h : (Lit.int .u8 n).wf = true) : 0 ≤ n ∧ n < 256 := by
  have := bounds_u8 h
  omega

theorem cells_u8 : Try.prog.cellsOf 5 = 1 := by kernel_rfl

/-- a list of cells each of which is a byte -/
theorem bytes_of_cells (cs : List Value) (h : ∀ v ∈ cs, ∃ n : Int, v = .int .u8 n ∧ 0 ≤ n ∧ n < 256) : ∃ ds : List UInt8, cs = bs ds := by
  induction cs with
  | nil => exact ⟨[], rfl⟩
  | cons v cs ih =>
    obtain ⟨ds, rfl⟩ := ih (fun u hu => h u (List.mem_cons_of_mem _ hu))
    obtain ⟨n, rfl, h0, h1⟩ := h v (List.mem_cons_self ..)
    refine ⟨UInt8.ofNat n.toNat :: ds, ?_⟩
    simp [bs]
    omega

end Go.Proofs.Ytbbckjpgmpfkgab
