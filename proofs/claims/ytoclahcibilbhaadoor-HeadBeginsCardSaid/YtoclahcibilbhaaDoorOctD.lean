/-
  The walks of octet's reader, on: Bytes, Digest.
-/
import Derived.Test.YtoclahcibilbhaaDoorOctC
import Derived.Test.YtoclahcibilbhaaDoorLibD
import Derived.Laws.CopyOwn
namespace Go.Proofs.YtoclahcibilbhaaDoor
open Go.RowKit
set_option maxRecDepth 100000

/-- the byte string at the front of bytes, how many bytes both are, the error -/
def rdB (l : List UInt8) : List UInt8 × Nat × Nat :=
  if (cnt 0 0 l).2.2 ≠ 0 then ([], 0, (cnt 0 0 l).2.2)
  else if 65536 < (cnt 0 0 l).1 then ([], 0, 11)
  else if l.length < (cnt 0 0 l).2.1 + (cnt 0 0 l).1 then ([], 0, 10)
  else ((l.drop (cnt 0 0 l).2.1).take (cnt 0 0 l).1, (cnt 0 0 l).2.1 + (cnt 0 0 l).1, 0)

/-- a digest at the front of bytes -/
def rdD (l : List UInt8) : List UInt8 × Nat × Nat := if l.length < 32 then (zero32, 0, 10) else (l.take 32, 32, 0)

theorem splice_all (ds es : List UInt8) (h : es.length = ds.length) : splice (bs ds) 0 (bs es) = bs es := by
  simp [splice, bs_length, h, List.drop_eq_nil_of_le]

end Go.Proofs.YtoclahcibilbhaaDoor
