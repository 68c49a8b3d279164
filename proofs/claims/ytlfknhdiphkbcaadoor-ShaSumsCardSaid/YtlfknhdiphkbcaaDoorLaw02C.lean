/-
  The walk of ShaSums.
-/
import Derived.Test.YtlfknhdiphkbcaaDoorLaw02A
import Derived.Test.YtlfknhdiphkbcaaDoorRef02C
import Derived.Test.YtlfknhdiphkbcaaDoorKeepA
namespace Go.Proofs.YtlfknhdiphkbcaaDoor
open Go.RowKit

theorem eqSame (D : List UInt8) (h : D.length = 32) (W : World) : (Op.equalIn 10000 26 (.agg (bs D).toArray) (.agg (bs D).toArray)).run Tryd.prog W = .ok true W := by
  rw [eqInD W D D h h]; simp

set_option maxRecDepth 100000 in
set_option maxHeartbeats 1000000 in
theorem walkShaSums (w : World) (hT : Tab w 1) (hK : Tab w 0) (a : Option Addr) (n c : Nat) (l : List UInt8) (hr : Rd w a n c l) :
    Calls Tryd.prog 3 #[.slice a n c] w (Yes2 w) := by
  by_cases hn : 131072 < n
  · go_enter Tryd.func3, Tryd.ntmps3
    go_wp2_with fail
    go_ret
    exact Yes2.mk (Below.refl _ _)
  go_enter Tryd.func3, Tryd.ntmps3
  go_wp2_with fail
  refine (lent_any w a n c l hr (by omega)).mono ?_
  rintro e w1 ⟨g, c1, rfl, hL1, hB1⟩
  go_wp2_with fail
  refine (sums_any w1 (hT.below hB1)).mono ?_
  rintro e w2 ⟨rfl, hB2⟩
  have hB02 := Bt hB1 hB2
  go_wp2_with fail
  refine (sum_any w2 _ n c1 l (hL1.rd.below hB2) (hT.below hB02) (by omega)).mono ?_
  rintro e w3 ⟨rfl, hB3⟩
  have hB03 := Bt hB02 hB3
  go_wp2_with fail
  refine (sum_ref w3 a n c l (hr.below hB03) (hK.below hB03) (by omega)).mono ?_
  rintro e w4 ⟨rfl, hB4⟩
  have hB04 := Bt hB03 hB4
  have hq := eqSame (sha l) (sha_length _)
  generalize sha l = D at *
  go_wp2_with fail
  refine (kept_any w4 w.heap.size g n c1 a c l ((hL1.below hB2).below (Bt hB3 hB4)) (hr.below hB04) (by omega)).mono ?_
  rintro e w5 ⟨rfl, rfl⟩
  go_wp2_with fail
  go_ret
  exact Yes2.mk hB04
end Go.Proofs.YtlfknhdiphkbcaaDoor
