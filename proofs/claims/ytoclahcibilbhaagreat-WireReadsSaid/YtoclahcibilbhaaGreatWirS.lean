/-
  The document's answer, laid out: texts and commands.
-/

import Derived.Test.YtoclahcibilbhaaGreatWirR
namespace Go.Proofs.YtoclahcibilbhaaGreat
open Go.RowKit
set_option maxRecDepth 100000

theorem loA_t {s : ByteArray} {o : Lo} (h : s.size ≤ 65536) : loA (encC s.size ++ s.data.toList) 0 o = loT s o := by
  unfold loA loT; simp [h]
theorem loA_to {s : ByteArray} {o : Lo} (h : 65536 < s.size) : loA [] 2 o = loT s o := by
  have : ¬ s.size ≤ 65536 := by omega
  unfold loA loT; simp only [if_neg this, show (2 : Int) ≠ 0 by decide, if_true, ne_eq, not_false_eq_true]
theorem loT_len2 (s : ByteArray) (o : Lo) : (loT s o).2.length ≤ o.2.length + 65541 := by
  unfold loT
  split
  · omega
  · split
    · rename_i h; have := encC_len s.size (by omega); have hs : s.data.toList.length = s.size := rfl; simp only [List.length_append, hs]; omega
    · simp

end Go.Proofs.YtoclahcibilbhaaGreat
