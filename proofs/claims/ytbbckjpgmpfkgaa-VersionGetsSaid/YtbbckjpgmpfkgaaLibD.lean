/-
  Laws on whole digests: a variable made, built, stored, handed back.
-/
import Derived.Test.YtbbckjpgmpfkgaaLib
import Derived.Laws.Tables
import Derived.Deep.WholeRow
import Derived.Stop.BytesEq
namespace Go.Proofs.Ytbbckjpgmpfkgaa
open Go.RowKit

/-- 32 noughts -/
def zero32 : List UInt8 := List.replicate 32 0
theorem zero32_length : zero32.length = 32 := by decide

theorem info_u8 : (Try.prog.info? 5).map (·.size) = some 1 := by kernel_rfl
theorem sizeU8 (w : World) : (sizeOf 5).run Try.prog w = .ok 1 w := by kernel_rfl

end Go.Proofs.Ytbbckjpgmpfkgaa
