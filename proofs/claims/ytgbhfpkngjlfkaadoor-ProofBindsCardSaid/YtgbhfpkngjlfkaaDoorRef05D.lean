/-
  The walk of the reference's Digest: the digest of leaves of unlike paths.
-/
import Derived.Test.YtgbhfpkngjlfkaaDoorRef05C
namespace Go.Proofs.YtgbhfpkngjlfkaaDoor
open Go.RowKit

theorem half_len (l : List Lf) (m b : Nat) : (half l m b).length ≤ l.length := List.length_filter_le _ _

/-- what the walk of Digest knows of a world: its result's variable -/
structure DgsAt (w W : World) : Prop where
  res : Blk W w.heap.size 23 (bs zero32)
  bel : Below w.heap.size w W
theorem DgsAt.below {w W W' : World} (h : DgsAt w W) (hb : Below W.heap.size W W') : DgsAt w W' := ⟨h.res.below hb, Bt h.bel hb⟩

end Go.Proofs.YtgbhfpkngjlfkaaDoor
