/-
  The walks of the reference's layer 5: Short at any width, Empty, Leaf, Node.
-/
import Derived.Test.YtgbhfpkngjlfkaaDoorRef05A
namespace Go.Proofs.YtgbhfpkngjlfkaaDoor
open Go.RowKit

theorem infoLeafS : (Tryd.prog.info? 46).map (·.size) = some 64 := by kernel_rfl

/-- a short digest at any width: a zero digest if it is none -/
def shortI (x : Int) (l : List UInt8) : List UInt8 := if 0 ≤ x ∧ x ≤ 32 then shortB x.toNat l else zero32
def errW (x : Int) : Int := if 0 ≤ x ∧ x ≤ 32 then 0 else 1
theorem shortI_length (x : Int) (l : List UInt8) : (shortI x l).length = 32 := by
  unfold shortI
  split
  · exact shortB_length _ _ (by omega)
  · rfl
theorem shortI_nat (x : Nat) (h : x ≤ 32) (l : List UInt8) : shortI (x : Int) l = shortB x l := by
  unfold shortI
  rw [if_pos (by omega)]
  rfl

theorem short_any (w : World) (x : Int) (a : Option Addr) (n c : Nat) (l : List UInt8) (hr : Rd w a n c l) (hT : Tab w 0) (hn : n ≤ 1000000) :
    Calls Tryd.prog 25 #[.int .i64 x, .slice a n c] w fun e w' => e = .returned (.tuple #[.agg (bs (shortI x l)).toArray, .int .i64 (errW x)]) ∧ Below w.heap.size w w' := by
  by_cases h : 0 ≤ x ∧ x ≤ 32
  · obtain ⟨k, rfl⟩ := Int.eq_ofNat_of_zero_le h.1
    rw [shortI_nat k (by omega), errW, if_pos h]
    exact short_ref w k (by omega) a n c l hr hT hn
  · rw [shortI, if_neg h, errW, if_neg h]
    exact short_ref_no w x a n c (by omega)

end Go.Proofs.YtgbhfpkngjlfkaaDoor
