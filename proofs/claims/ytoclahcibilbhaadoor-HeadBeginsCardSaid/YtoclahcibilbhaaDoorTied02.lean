/-
  What the rows that list the tables of constants say of memory.
-/
import Derived.Test.YtoclahcibilbhaaDoorShaB
import Derived.Lib.LaidTab
import Derived.LaidMore
import Derived.Stop.Joined
import Derived.Stop.LaidErr
import Derived.ProofKit
namespace Go.Proofs.YtoclahcibilbhaaDoor
open Go.RowKit

def ksI : List Int := ks.map fun (n : Nat) => (n : Int)
theorem gConst : Tryd.prog.globalNamed "tabellion/sha.constants" = some 0 := by kernel_rfl
theorem tConst : (Tryd.prog.globals[0]?).map (·.type) = some 82 := by kernel_rfl
theorem cellsU32 : Tryd.prog.cellsOf 52 = 1 := by kernel_rfl
theorem cells64 : Tryd.prog.cellsOf 82 = 64 := by kernel_rfl
theorem laid_eq : (Rows.laid_tabellion_sha_constants : DataW Unit) = Lib.tabData .u32 ksI := by kernel_rfl

theorem tab_of_is {W : World} {g : Nat} {name : String} (hg : Tryd.prog.globalNamed name = some g) (h : Lib.TabIs Tryd.prog W name .u32 ksI) : Tab W g := fun j v hv => by
  have hj : j < ks.length := by have := (List.getElem?_eq_some_iff.1 hv).1; simpa [ns] using this
  have hc := h.cell hg j (by simpa [ksI] using hj)
  rw [ns_at _ _ _ hj] at hv
  cases hv
  have e : ksI.getD j 0 = ((ks.getD j 0 : Nat) : Int) := by simp [ksI, List.getD, hj]
  rw [e] at hc
  simpa using hc

theorem tab_of_laid {W : World} {rest : List (String × DataW Unit)} (h : laidMet Tryd.prog (("tabellion/sha.constants", Rows.laid_tabellion_sha_constants) :: rest) W) : Tab W 0 := by
  rw [laid_eq] at h
  exact tab_of_is gConst (Lib.tabIs_of_head gConst tConst Tryd.underlying82 Tryd.underlying52 cellsU32 cells64 h)

theorem gKey : Tryd.prog.globalNamed "tabellion/tabellionref02.key" = some 1 := by kernel_rfl
theorem tKey : (Tryd.prog.globals[1]?).map (·.type) = some 82 := by kernel_rfl
theorem laid_eq2 : (Rows.laid_tabellion_tabellionref02_key : DataW Unit) = Lib.tabData .u32 ksI := by kernel_rfl
theorem key_of_laid {W : World} {x : String × DataW Unit} {rest : List (String × DataW Unit)} (h : laidMet Tryd.prog (x :: ("tabellion/tabellionref02.key", Rows.laid_tabellion_tabellionref02_key) :: rest) W) : Tab W 1 := by
  have h2 := laidMet.tail h
  rw [laid_eq2] at h2
  exact tab_of_is gKey (Lib.tabIs_of_head gKey tKey Tryd.underlying82 Tryd.underlying52 cellsU32 cells64 h2)
end Go.Proofs.YtoclahcibilbhaaDoor
