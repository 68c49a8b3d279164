/-
  The statement VersionChecks of layer 7.
-/
import Derived.Test.YtbbckjpgmpfkgaaLaw07A
namespace Go.Proofs.Ytbbckjpgmpfkgaa
open Go.RowKit

theorem isB_chk (l : List Vn) : (chkI l = 0 ∧ isB l = true) ∨ (chkI l = 50 ∧ isB l = false) := by
  unfold chkI
  cases isB l <;> decide

set_option maxRecDepth 100000 in
set_option maxHeartbeats 1000000 in
theorem walkVersionChecks (w : World) (a : Option Addr) (n c : Nat) (l : List Vn) (hr : RdV w a n c l) :
    Calls Try.prog 3 #[.slice a n c] w (Yes7 w) := by
  have hB0 := Below.refl w.heap.size w
  by_cases hn : n ≤ 1000
  · have hn' : ¬ (1000 : Int) < (n : Int) := by omega
    have OW := Lib.hid (fun (W : World) (h : RdV W a n c l) => ownR_any W a n c l h hn)
    have CK := Lib.hid (fun (W : World) (h : RdV W a n c l) => check_any W a n c l h)
    have AC := Lib.hid (fun (W : World) (h : RdV W a n c l) => active_any W a n c l h)
    have HI := Lib.hid (fun W : World => histories_any W)
    have hlen := Lib.hid hr.len
    go_enter Try.func3, Try.ntmps3
    go_wp2_with fail
    refine (OW.out _ hr).mono ?_
    rintro e w1 ⟨a1, m1, c1, hm1, rfl, hO1, hB1⟩
    obtain rfl : m1 = n := by rw [hm1.out, hlen.out]
    have hr1 := hr.below hB1
    have hr1' := hO1.rd
    go_wp2_with fail
    refine (CK.out _ hr1).mono ?_
    rintro e w2 ⟨rfl, hB2⟩
    have hB02 := Bt hB1 hB2
    have hr2 := hr1.below hB2
    have hr2' := hr1'.below hB2
    go_wp2_with fail
    refine (AC.out _ hr2).mono ?_
    rintro e w3 ⟨rfl, hB3⟩
    have hB03 := Bt hB02 hB3
    have hr3 := hr2.below hB3
    have hr3' := hr2'.below hB3
    go_wp2_with fail
    refine (activeR_any _ a1 m1 c1 l hr3' hn).mono ?_
    rintro e w4 ⟨rfl, hB4⟩
    have hB04 := Bt hB03 hB4
    have hr4 := hr3.below hB4
    have hr4' := hr3'.below hB4
    clear hr1 hr1' hr2 hr2' hr3 hr3' AC CK OW hO1
    generalize (actK l).1 = key
    generalize (actK l).2 = act
    go_wp2_with fail
    refine (HI.out _).mono ?_
    rintro e w5 ⟨rfl, hB5⟩
    have hB05 := Bt hB04 hB5
    have hr5 := hr4.below hB5
    have hr5' := hr4'.below hB5
    have IS := Lib.hid (isR_any w5 a1 m1 c1 l hr5' hn)
    have SM := Lib.hid (fun (W : World) (h : RdV W a m1 c l) (h' : RdV W a1 m1 c1 l) => sameV_any W a m1 c l h a1 m1 c1 l h')
    rw [show decide (l = l) = true from decide_eq_true rfl] at SM
    rcases isB_chk l with ⟨h1, h2⟩ | ⟨h1, h2⟩
    · rw [h1]
      rw [h2] at IS
      go_wp2_with fail
      refine IS.out.mono ?_
      rintro e w6 ⟨rfl, hB6⟩
      have hB06 := Bt hB05 hB6
      have hr6 := hr5.below hB6
      have hr6' := hr5'.below hB6
      go_wp2_with fail
      refine (SM.out _ hr6 hr6').mono ?_
      rintro e w7 ⟨rfl, hB7⟩
      go_wp2_with fail
      go_ret
      exact Yes7.mk (Bt hB06 hB7)
    · rw [h1]
      rw [h2] at IS
      go_wp2_with fail
      refine IS.out.mono ?_
      rintro e w6 ⟨rfl, hB6⟩
      have hB06 := Bt hB05 hB6
      have hr6 := hr5.below hB6
      have hr6' := hr5'.below hB6
      go_wp2_with fail
      refine (SM.out _ hr6 hr6').mono ?_
      rintro e w7 ⟨rfl, hB7⟩
      go_wp2_with fail
      go_ret
      exact Yes7.mk (Bt hB06 hB7)
  · have hn' : (1000 : Int) < (n : Int) := by omega
    go_enter Try.func3, Try.ntmps3
    go_wp2_with fail
    go_ret
    exact Yes7.mk hB0
end Go.Proofs.Ytbbckjpgmpfkgaa
