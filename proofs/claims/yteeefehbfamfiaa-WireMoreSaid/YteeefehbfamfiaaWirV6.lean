/-
  WireMore, as the frame calls it.
-/
import Derived.Test.YteeefehbfamfiaaFrame
import Derived.Test.YteeefehbfamfiaaWirV5
namespace Go.Proofs.Yteeefehbfamfiaa
open Go.RowKit
set_option maxRecDepth 100000

theorem walkWireMoreF (w : World) (x : Re) (hx : x.ok) (hr : x.rd w) (y : Di) (hy : y.ok) (hry : y.rd w) (m : Int) (wf : (Lit.int .u8 m).wf = true) :
    Calls Try.prog 6 #[.agg (rec x).toArray, .agg (dic y).toArray, .int .u8 m] w fun f w' => f = .returned (.bool true) ∧ Below w.heap.size w w' := by
  obtain ⟨h0, h1⟩ := wf_u8 wf
  have e : m = ((UInt8.ofNat m.toNat).toNat : Int) := by simp; omega
  rw [e]
  exact walkWireMore w x hx hr y hy hry _
end Go.Proofs.Yteeefehbfamfiaa
