/-
  The statement VersionGets of layer 7; the example that it asks first.
-/
import Derived.Test.YtbbckjpgmpfkgaaDoorLaw07A
import Derived.Test.YtbbckjpgmpfkgaaDoorVer4
namespace Go.Proofs.YtbbckjpgmpfkgaaDoor
open Go.RowKit
set_option maxRecDepth 100000

theorem encP : encV [vP] = [1, 1, 1, 1, 107] := by
  have e1 : encC 1 = [1] := encC_lt (by decide)
  have e2 : encVs [vP] = encC 1 ++ (encC 1 ++ (encC 1 ++ [107])) := by simp [encVs, encV1, vP, keyB]
  show encC 1 ++ encVs [vP] = _
  rw [e2, e1]
  rfl
theorem isP : isB [vP] = true := by decide
theorem getP1 : getV [1, 1, 1, 1, 107] = some [vP] := by rw [← encP]; exact getV_enc isP
theorem getV1 : getV [1] = none := by rfl
theorem vput_yes {w : World} {a : Option Addr} {n c : Nat} {l : List Vn} (hr : RdV w a n c l) (h : isB l = true) : Calls Tryd.prog 20 #[.slice a n c] w
    fun e w' => ∃ a m c, e = .returned (.tuple #[.slice a m c, .int .i64 0]) ∧ Hid (m = (encV l).length) ∧ Own w' w.heap.size (.slice a m c) (encV l) ∧ Below w.heap.size w w' := by
  refine (vput_any w a n c l hr).mono ?_
  rintro e w' (⟨_, h1⟩ | ⟨h1, _⟩)
  · exact h1
  · rw [h] at h1; cases h1
theorem vput_no {w : World} {a : Option Addr} {n c : Nat} {l : List Vn} (hr : RdV w a n c l) (h : isB l = false) : Calls Tryd.prog 20 #[.slice a n c] w
    fun e w' => e = .returned (.tuple #[.slice none 0 0, .int .i64 50]) ∧ Below w.heap.size w w' := by
  refine (vput_any w a n c l hr).mono ?_
  rintro e w' (⟨h1, _⟩ | ⟨_, h1⟩)
  · rw [h] at h1; cases h1
  · exact h1
theorem vget_some {w : World} {a : Option Addr} {n c : Nat} {l : List UInt8} {q : List Vn} (hr : Rd w a n c l) (hn : n ≤ 1099511627776) (h : getV l = some q) :
    Calls Tryd.prog 24 #[.slice a n c] w fun e w' => ∃ a' m c', e = .returned (.tuple #[.slice a' m c', .int .i64 0]) ∧ Hid (m = q.length) ∧ RdV w' a' m c' q ∧ Below w.heap.size w w' := by
  refine (vget_any w a n c l hr hn).mono ?_
  rintro e w' (⟨q', a', m, c', h1, h2, h3, h4, h5⟩ | ⟨h1, _⟩)
  · rw [h] at h1
    obtain rfl := Option.some.inj h1
    exact ⟨a', m, c', h2, Lib.hid h3.symm, h4, h5⟩
  · rw [h] at h1; cases h1
theorem vget_none {w : World} {a : Option Addr} {n c : Nat} {l : List UInt8} (hr : Rd w a n c l) (hn : n ≤ 1099511627776) (h : getV l = none) :
    Calls Tryd.prog 24 #[.slice a n c] w fun e w' => e = .returned (.tuple #[.slice none 0 0, .int .i64 50]) ∧ Below w.heap.size w w' := by
  refine (vget_any w a n c l hr hn).mono ?_
  rintro e w' (⟨q', a', m, c', h1, _⟩ | ⟨_, h2, h3⟩)
  · rw [h] at h1; cases h1
  · exact ⟨h2, h3⟩
set_option maxRecDepth 100000 in
set_option maxHeartbeats 2000000 in
theorem puts_any (w : World) : Calls Tryd.prog 23 #[] w (Yes7 w) := by
  have PU := Lib.hid put_any
  have P0 := Lib.hid (fun (W : World) (a : Option Addr) (h : RdV W a 1 1 [vP]) => vput_yes h isP)
  rw [encP] at P0
  have G1 := Lib.hid (fun (W : World) (a : Option Addr) (n c : Nat) (hr : Rd W a n c [1, 1, 1, 1, 107]) (hn : n ≤ 1099511627776) => vget_some hr hn getP1)
  have G2 := Lib.hid (fun (W : World) (a : Option Addr) (n c : Nat) (hr : Rd W a n c [1]) (hn : n ≤ 1099511627776) => vget_none hr hn getV1)
  go_enter Tryd.func23, Tryd.ntmps23
  go_wp2_with fail
  refine (PU.out _).mono ?_
  rintro e w1 ⟨rfl, hB1⟩
  go_wp2_with ((with_reducible refine wpList_oneV (o := ⟨some 9, _, _, _, _, _⟩) ?_ (.tmp 8) ?_ vP ?_ ?_); rfl; rfl; rfl; intro w2 hR2 hB2 hz2)
  have hB02 := Bt hB1 hB2
  refine (P0.out _ _ hR2).mono ?_
  rintro e w3 ⟨a3, m3, c3, rfl, hm3, hO3, hB3⟩
  obtain rfl : m3 = 5 := hm3.out
  have hB03 := Bt hB02 hB3
  have hR3 := hO3.rd
  clear hO3 hR2 hz2
  go_wp2_with fail
  refine (G1.out _ _ _ _ hR3 (by decide)).mono ?_
  rintro e w4 ⟨a4, m4, c4, rfl, hm4, hV4, hB4⟩
  obtain rfl : m4 = 1 := hm4.out
  have hB04 := Bt hB03 hB4
  have hR4 := hR3.below hB4
  clear hV4
  go_wp2_with ((with_reducible refine wpList_oneU (o := ⟨some 19, _, _, _, _, _⟩) ?_ (.const (.int .u8 1)) ?_ (k := 1) ?_ w4.heap.size (Nat.le_refl _) ?_); rfl; rfl; rfl; intro w5 hO5 hB5 hz5; have hR5 := hO5.rd)
  refine (G2.out _ _ _ _ hR5 (by decide)).mono ?_
  rintro e w6 ⟨rfl, hB6⟩
  have hB46 := Bt hB5 hB6
  have hR6 := hR4.below hB46
  have kc := hR6.conv
  go_wp2_with fail
  go_ret
  exact Yes7.mk (Bt hB04 hB46)
end Go.Proofs.YtbbckjpgmpfkgaaDoor
