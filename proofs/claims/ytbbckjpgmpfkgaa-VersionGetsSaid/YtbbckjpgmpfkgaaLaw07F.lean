/-
  The statement VersionGets of layer 7.
-/
import Derived.Test.YtbbckjpgmpfkgaaLaw07E
namespace Go.Proofs.Ytbbckjpgmpfkgaa
open Go.RowKit

set_option maxRecDepth 100000 in
set_option maxHeartbeats 2000000 in
theorem walkVersionGets (w : World) (a : Option Addr) (n c : Nat) (l : List UInt8) (hr : Rd w a n c l) :
    Calls Try.prog 6 #[.slice a n c] w (Yes7 w) := by
  have hB0 := Below.refl w.heap.size w
  by_cases hn : n ≤ 65536
  · have hn' : ¬ (65536 : Int) < (n : Int) := by omega
    have PS := Lib.hid (fun W : World => puts_any W)
    cases hg : getV l with
    | none =>
      have G1 := Lib.hid (fun (W : World) (h : Rd W a n c l) => vget_none h (by omega) hg)
      have G2 := Lib.hid (fun (W : World) (h : Rd W a n c l) => getR_none h (by omega) hg)
      have SX := Lib.hid (fun (W : World) => sameV_any W none 0 0 [] (RdG.nil0 W) none 0 0 [] (RdG.nil0 W))
      rw [show decide (([] : List Vn) = []) = true from decide_eq_true rfl] at SX
      go_enter Try.func6, Try.ntmps6
      go_wp2_with fail
      refine (G1.out _ hr).mono ?_
      rintro e w1 ⟨rfl, hB1⟩
      go_wp2_with fail
      refine (G2.out _ (hr.below hB1)).mono ?_
      rintro e w2 ⟨rfl, hB2⟩
      go_wp2_with fail
      refine (SX.out _).mono ?_
      rintro e w3 ⟨rfl, hB3⟩
      go_wp2_with fail
      refine (PS.out _).mono ?_
      rintro e w4 ⟨rfl, hB4⟩
      go_wp2_with fail
      go_ret
      exact Yes7.mk (Bt (Bt (Bt hB1 hB2) hB3) hB4)
    | some q =>
      obtain ⟨hi, he⟩ := getV_back hg
      have G1 := Lib.hid (fun (W : World) (h : Rd W a n c l) => vget_some h (by omega) hg)
      have G2 := Lib.hid (fun (W : World) (h : Rd W a n c l) => getR_some h (by omega) hg)
      have P1 := Lib.hid (fun (W : World) (a : Option Addr) (m c : Nat) (h : RdV W a m c q) => vput_yes h hi)
      have SX := Lib.hid (fun (W : World) (m : Nat) (a1 : Option Addr) (c1 : Nat) (a2 : Option Addr) (c2 : Nat) (h : RdV W a1 m c1 q) (h' : RdV W a2 m c2 q) => sameV_any W a1 m c1 q h a2 m c2 q h')
      rw [show decide (q = q) = true from decide_eq_true rfl] at SX
      rw [he] at P1
      have hlen := Lib.hid hr.len
      clear hi he hg
      go_enter Try.func6, Try.ntmps6
      go_wp2_with fail
      refine (G1.out _ hr).mono ?_
      rintro e w1 ⟨a1, m1, c1, rfl, hm1, hR1, hB1⟩
      go_wp2_with fail
      refine (G2.out _ (hr.below hB1)).mono ?_
      rintro e w2 ⟨a2, m2, c2, rfl, hm2, hR2, hB2⟩
      obtain rfl : m2 = m1 := by rw [hm2.out, hm1.out]
      have hB02 := Bt hB1 hB2
      have hR12 := hR1.below hB2
      clear hm1 hm2
      go_wp2_with fail
      refine (SX.out _ _ _ _ _ _ hR12 hR2).mono ?_
      rintro e w3 ⟨rfl, hB3⟩
      have hB03 := Bt hB02 hB3
      have hR13 := hR12.below hB3
      clear SX hR1 hR2 hR12
      go_wp2_with fail
      refine (P1.out _ _ _ _ hR13).mono ?_
      rintro e w4 ⟨a4, m4, c4, rfl, hm4, hO4, hB4⟩
      obtain rfl : m4 = n := by rw [hm4.out, hlen.out]
      have hB04 := Bt hB03 hB4
      have hR4 := hO4.rd
      clear hm4 hO4 hR13 P1
      go_wp2_with fail
      refine (PS.out _).mono ?_
      rintro e w5 ⟨rfl, hB5⟩
      have hB05 := Bt hB04 hB5
      have k1 := (hR4.below hB5).conv
      have k2 := (hr.below hB05).conv
      clear hR4
      generalize str l = s at *
      go_wp2_with fail
      go_ret
      exact Yes7.mk hB05
  · have hn' : (65536 : Int) < (n : Int) := by omega
    go_enter Try.func6, Try.ntmps6
    go_wp2_with fail
    go_ret
    exact Yes7.mk hB0
end Go.Proofs.Ytbbckjpgmpfkgaa
