/-
  What the rows that list the tables of constants say of memory.
-/
import Derived.Test.YtgbhfpkngjlfkaaGreatDoorShaB
import Derived.Lib.LaidTab
import Derived.LaidMore
import Derived.Stop.Joined
import Derived.Stop.LaidErr
import Derived.ProofKit
namespace Go.Proofs.YtgbhfpkngjlfkaaGreatDoor
open Go.RowKit

def ksI : List Int := ks.map fun (n : Nat) => (n : Int)
theorem gConst : Tryz.prog.globalNamed "tabellion/sha.constants" = some 0 := by kernel_rfl
theorem tConst : (Tryz.prog.globals[0]?).map (·.type) = some 172 := by kernel_rfl
theorem cellsU32 : Tryz.prog.cellsOf 60 = 1 := by kernel_rfl
theorem cells64 : Tryz.prog.cellsOf 172 = 64 := by kernel_rfl
theorem laid_eq : (Rows.laid_tabellion_sha_constants : DataW Unit) = Lib.tabData .u32 ksI := by kernel_rfl

theorem tab_of_is {W : World} {g : Nat} {name : String} (hg : Tryz.prog.globalNamed name = some g) (h : Lib.TabIs Tryz.prog W name .u32 ksI) : Tab W g := fun j v hv => by
  have hj : j < ks.length := by have := (List.getElem?_eq_some_iff.1 hv).1; simpa [ns] using this
  have hc := h.cell hg j (by simpa [ksI] using hj)
  rw [ns_at _ _ _ hj] at hv
  cases hv
  have e : ksI.getD j 0 = ((ks.getD j 0 : Nat) : Int) := by simp [ksI, List.getD, hj]
  rw [e] at hc
  simpa using hc

theorem tab_of_laid {W : World} {rest : List (String × DataW Unit)} (h : laidMet Tryz.prog (("tabellion/sha.constants", Rows.laid_tabellion_sha_constants) :: rest) W) : Tab W 0 := by
  rw [laid_eq] at h
  exact tab_of_is gConst (Lib.tabIs_of_head gConst tConst Tryz.underlying172 Tryz.underlying60 cellsU32 cells64 h)

end Go.Proofs.YtgbhfpkngjlfkaaGreatDoor
