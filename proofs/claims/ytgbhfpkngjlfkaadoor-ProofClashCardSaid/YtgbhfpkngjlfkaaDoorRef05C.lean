/-
  The walks of the reference's layer 5: Half, Same, Twice, Get, Drop.
-/
import Derived.Test.YtgbhfpkngjlfkaaDoorRef05B
namespace Go.Proofs.YtgbhfpkngjlfkaaDoor
open Go.RowKit

theorem take_succ_lf (l : List Lf) (k : Nat) (h : k < l.length) : l.take (k + 1) = l.take k ++ [l.getD k lf0] := by
  rw [List.take_succ_eq_append_getElem h]; simp [List.getD, h]
theorem half_step (l : List Lf) (m b k : Nat) (h : k < l.length) : half (l.take (k + 1)) m b = half (l.take k) m b ++ (if bitAt (l.getD k lf0).path m = b then [l.getD k lf0] else []) := by
  rw [take_succ_lf l k h, half, half, List.filter_append]
  congr 1
  generalize l.getD k lf0 = x
  by_cases hb : bitAt x.path m = b
  · rw [if_pos hb]; simp [hb]
  · rw [if_neg hb]; simp [hb]

theorem rangeAt_below {w W : World} {b o : Nat} {cs : List Value} (h : Below w.heap.size w W) (hr : w.rangeAt b o cs) : W.rangeAt b o cs := fun j v hv => cell_later h (hr j v hv)

end Go.Proofs.YtgbhfpkngjlfkaaDoor
