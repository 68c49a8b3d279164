/-
  Bytes out of a string.
-/
import Derived.Test.YtoclahcibilbhaaDoorLibB
import Derived.Laws.IdiomStrings
import Derived.Laws.AppendOwn
namespace Go.Proofs.YtoclahcibilbhaaDoor
open Go.RowKit

/-- the bytes of a string -/
abbrev byt (s : ByteArray) : List UInt8 := s.data.toList
theorem byt_length (s : ByteArray) : (byt s).length = s.size := by simp [byt]
/-- the row that []byte(s) makes -/
theorem Rd.ofStr (w : World) (s : ByteArray) (hs : s.size ≤ maxLen) :
    Rd (w.alloc (.cells (bytesRow s (grownCap w s.size 0 5)) 5 ((bytesRow s (grownCap w s.size 0 5)).size, (bytesRow s (grownCap w s.size 0 5)).size + 1))).drew (some ⟨w.heap.size, 0, none⟩) s.size (grownCap w s.size 0 5) (byt s) := by
  refine ⟨byt_length s, grownCap_ge _ _ _ _, grownCap_le_maxLen _ _ _ _ hs, (fun e => by cases e), fun ad e j u hu => ?_⟩
  cases e
  refine World.news_of_block (show (w.alloc _).drew.heap[w.heap.size]? = _ from World.alloc_heap_new w _) j u ?_
  have hj : j < (bs (byt s)).length := (List.getElem?_eq_some_iff.1 hu).1
  rw [← hu]
  simp [bytesRow, bs, byt] at hj ⊢
  rw [List.getElem?_append_left (by simpa using hj)]
  simp
theorem grown_ofStr (w : World) (c : Array Value) (fr : Nat × Nat) : Below w.heap.size w (w.alloc (.cells c 5 fr)).drew :=
  Bt ((Below.refl _ w).alloc (Nat.le_refl _) _) (⟨rfl, rfl, rfl, Nat.le_refl _, fun _ _ => rfl⟩ : Below (w.alloc (.cells c 5 fr)).heap.size (w.alloc (.cells c 5 fr)) (w.alloc (.cells c 5 fr)).drew)

end Go.Proofs.YtoclahcibilbhaaDoor
