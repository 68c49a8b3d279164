/-
  The document's answer, laid out: records.
-/
import Derived.Test.YtoclahcibilbhaaGreatWirS2
import Derived.Test.YtoclahcibilbhaaGreatWirPR
namespace Go.Proofs.YtoclahcibilbhaaGreat
open Go.RowKit
set_option maxRecDepth 100000

end Go.Proofs.YtoclahcibilbhaaGreat
