/-
  The walks of the reference's layer 5: Short at any width, Empty, Leaf, Node.
-/
import Derived.Test.YtgbhfpkngjlfkaaGreatDoorRef05A
namespace Go.Proofs.YtgbhfpkngjlfkaaGreatDoor
open Go.RowKit

theorem infoLeafS : (Tryz.prog.info? 37).map (·.size) = some 64 := by kernel_rfl

/-- a short digest at any width: a zero digest if it is none -/
def shortI (x : Int) (l : List UInt8) : List UInt8 := if 0 ≤ x ∧ x ≤ 32 then shortB x.toNat l else zero32
def errW (x : Int) : Int := if 0 ≤ x ∧ x ≤ 32 then 0 else 1
theorem shortI_length (x : Int) (l : List UInt8) : (shortI x l).length = 32 := by
  unfold shortI
  split
  · exact shortB_length _ _ (by omega)
  · rfl
theorem shortI_nat (x : Nat) (h : x ≤ 32) (l : List UInt8) : shortI (x : Int) l = shortB x l := by
  unfold shortI
  rw [if_pos (by omega)]
  rfl

end Go.Proofs.YtgbhfpkngjlfkaaGreatDoor
