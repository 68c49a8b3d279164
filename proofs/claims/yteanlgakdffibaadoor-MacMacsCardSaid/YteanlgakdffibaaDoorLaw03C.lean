/-
  The walk of MacMacs.
-/
import Derived.Test.YteanlgakdffibaaDoorLaw03A
import Derived.Test.YteanlgakdffibaaDoorRef03
import Derived.Test.YteanlgakdffibaaDoorKeepA
namespace Go.Proofs.YteanlgakdffibaaDoor
open Go.RowKit

theorem eqSameM (D : List UInt8) (h : D.length = 32) (W : World) : (Op.equalIn 10000 32 (.agg (bs D).toArray) (.agg (bs D).toArray)).run Tryd.prog W = .ok true W := by
  rw [eqInD W D D h h]; simp

set_option maxRecDepth 100000 in
set_option maxHeartbeats 1000000 in
theorem walkMacMacs (w : World) (hT : Tab w 1) (hK : Tab w 0) (ka : Option Addr) (kn kc : Nat) (k : List UInt8) (hk : Rd w ka kn kc k) (a : Option Addr) (n c : Nat) (l : List UInt8) (hr : Rd w a n c l) :
    Calls Tryd.prog 4 #[.slice ka kn kc, .slice a n c] w (Yes3 w) := by
  by_cases hkn : 131072 < kn
  · have h1 : (131072 : Int) < kn := by omega
    go_enter Tryd.func4, Tryd.ntmps4
    go_wp2_with fail
    go_ret
    exact Yes3.mk (Below.refl _ _)
  have h1 : ¬ (131072 : Int) < kn := by omega
  by_cases hn : 131072 < n
  · have h2 : (131072 : Int) < n := by omega
    go_enter Tryd.func4, Tryd.ntmps4
    go_wp2_with fail
    go_ret
    exact Yes3.mk (Below.refl _ _)
  have h2 : ¬ (131072 : Int) < n := by omega
  go_enter Tryd.func4, Tryd.ntmps4
  go_wp2_with fail
  refine (lent_any w ka kn kc k hk (by omega)).mono ?_
  rintro e w1 ⟨g1, c1, rfl, hL1, hB1⟩
  go_wp2_with fail
  refine (lent_any w1 a n c l (hr.below hB1) (by omega)).mono ?_
  rintro e w2 ⟨g2, c2, rfl, hL2, hB2⟩
  have hB02 := Bt hB1 hB2
  go_wp2_with fail
  refine (macs_any w2 (hT.below hB02)).mono ?_
  rintro e w3 ⟨rfl, hB3⟩
  have hB03 := Bt hB02 hB3
  have hL13 := (hL1.below hB2).below hB3
  have hL23 := hL2.below hB3
  go_wp2_with fail
  refine (mac_any w3 _ kn c1 k _ n c2 l hL13.rd hL23.rd (hT.below hB03) (by omega) (by omega)).mono ?_
  rintro e w4 ⟨rfl, hB4⟩
  have hB04 := Bt hB03 hB4
  go_wp2_with fail
  refine (mac_ref w4 ka kn kc k a n c l (hk.below hB04) (hr.below hB04) (hK.below hB04) (by omega) (by omega)).mono ?_
  rintro e w5 ⟨rfl, hB5⟩
  have hB05 := Bt hB04 hB5
  have hq := eqSameM (hmac k l) (hmac_length _ _)
  generalize hmac k l = D at *
  go_wp2_with fail
  refine (kept_any w5 w.heap.size g1 kn c1 ka kc k ((hL13.below hB4).below hB5) (hk.below hB05) (by omega)).mono ?_
  rintro e w6 ⟨rfl, rfl⟩
  go_wp2_with fail
  refine (kept_any w5 w1.heap.size g2 n c2 a c l ((hL23.below hB4).below hB5) (hr.below hB05) (by omega)).mono ?_
  rintro e w7 ⟨rfl, rfl⟩
  go_wp2_with fail
  go_ret
  exact Yes3.mk hB05
end Go.Proofs.YteanlgakdffibaaDoor
