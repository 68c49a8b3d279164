/-
  ChkA Cla1 Cla2 Cla3 Cla4 Cla5, in one text.
-/
import Derived.Test.YtgbhfpkngjlfkaaDoorPrfC
import Derived.Test.YtgbhfpkngjlfkaaDoorPath0
import Derived.Test.YtgbhfpkngjlfkaaDoorClmE2
import Derived.Test.YtgbhfpkngjlfkaaDoorLibI
import Derived.Test.YtgbhfpkngjlfkaaDoorCon05T5
import Derived.RangeFuncLeaves
import Derived.Test.YtgbhfpkngjlfkaaDoorCon04BC
namespace Go.Proofs.YtgbhfpkngjlfkaaDoor
/-! Chk1 Chk2 Chk3 Chk4 Chk5 Chk6 Law06H, in one text. -/
section
/-! The walks of package proof: start, inner. -/
section
open Go.RowKit
set_option maxRecDepth 100000

/-- what is summed at a proof's end -/
def startB (p : List UInt8) (b : Bool) (v : List UInt8) (x : Pf) : List UInt8 := if b then 0 :: (p ++ v) else if x.other then 0 :: (x.op ++ x.ov) else [2]
/-- what is summed at a knot -/
def innerB (p : List UInt8) (i : Nat) (on beside : List UInt8) : List UInt8 := if bitAt p i = 1 then 1 :: (beside ++ on) else 1 :: (on ++ beside)
theorem startB_len {p v : List UInt8} {b : Bool} {x : Pf} (hp : p.length = 32) (hv : v.length = 32) (hx : x.ok) : (startB p b v x).length = if b || x.other then 65 else 1 := by
  unfold startB
  cases b <;> cases x.other <;> simp [hp, hv, hx.p, hx.v]
theorem innerB_len {p on beside : List UInt8} {i : Nat} (h1 : on.length = 32) (h2 : beside.length = 32) : (innerB p i on beside).length = 65 := by
  unfold innerB
  split <;> simp [h1, h2]

/-- bytes of a call's own that it hands back -/
def BytesPost2 (w : World) (q : List UInt8) (e : Ending) (w' : World) : Prop := ∃ a m c, e = .returned (.slice a m c) ∧ Hid (q.length = m) ∧ Own w' w.heap.size (.slice a m c) q ∧ Below w.heap.size w w'

set_option maxHeartbeats 2000000 in
theorem start_any (w : World) (p : List UInt8) (hp : p.length = 32) (b : Bool) (v : List UInt8) (hv : v.length = 32) (a : Option Addr) (n c : Nat) (x : Pf) (hx : x.ok) :
    Calls Tryd.prog 64 #[.agg (bs p).toArray, .agg (clc b v).toArray, .agg (pc a n c x).toArray] w (BytesPost2 w (startB p b v x)) := by
  have hS := Bx3.start w w (Below.refl _ w) p b v (pc a n c x)
  have k0 := hS.c0
  have k1 := hS.x1
  have r0 := hS.pr
  have r1 := hS.cv
  have r2 := hS.xp
  have r3 := hS.xv hx.p
  have hB := hS.bel
  have hzW : (((w.alloc (.cells (bs p).toArray 23)).alloc (.cells (clc b v).toArray 25)).alloc (.cells (pc a n c x).toArray 28)).heap.size = w.heap.size + 1 + 1 + 1 := by simp
  have hbW : w.heap.size + 1 + 1 + 1 ≤ (((w.alloc (.cells (bs p).toArray 23)).alloc (.cells (clc b v).toArray 25)).alloc (.cells (pc a n c x).toArray 28)).heap.size := by simp
  have H5 := Lib.hid (digP hp)
  have H6 := Lib.hid (digP hv)
  have H7 := Lib.hid (digP hx.p)
  have H8 := Lib.hid (digP hx.v)
  have HE : Hid (startB p b v x = if b then 0 :: (p ++ v) else if x.other then 0 :: (x.op ++ x.ov) else [2]) := Lib.hid rfl
  have hok1 : okd [p, v] := okd.append (okd.single hp) (okd.single hv)
  have hok2 : okd [x.op, x.ov] := okd.append (okd.single hx.p) (okd.single hx.v)
  have HF := Lib.hid (show BytesPost2 w (startB p b v x) = fun e w' => ∃ a m c, e = .returned (.slice a m c) ∧ Hid ((startB p b v x).length = m) ∧ Own w' w.heap.size (.slice a m c) (startB p b v x) ∧ Below w.heap.size w w' from rfl)
  have FIN : Hid (∀ (W : World) (a' : Option Addr) (m c' : Nat) (q : List UInt8), startB p b v x = q → q.length = m → Own W w.heap.size (.slice a' m c') q → Below w.heap.size w W → BytesPost2 w (startB p b v x) (.returned (.slice a' m c')) W) := Lib.hid (fun W a' m c' q h1 h2 h3 h4 => ⟨a', m, c', rfl, Lib.hid (by rw [h1]; exact h2), by rw [h1]; exact h3, h4⟩)
  have hlp : (0 :: (p ++ v)).length = 65 := by simp [hp, hv]
  have hlx : (0 :: (x.op ++ x.ov)).length = 65 := by simp [hx.p, hx.v]
  have HLP := Lib.hid hlp
  have HLX := Lib.hid hlx
  clear HF hS hlp hlx hp hv hx
  generalize BytesPost2 w (startB p b v x) = RP at *
  generalize startB p b v x = SB at *
  generalize clc b v = C at *
  generalize pc a n c x = P at *
  generalize x.other = ot at *
  generalize x.op = xo at *
  generalize x.ov = xv at *
  go_enter Tryd.func64, Tryd.ntmps64
  cases b with
  | true =>
    have HQ : Hid (SB = 0 :: (p ++ v)) := Lib.hid (by rw [HE.out]; rfl)
    have hs2 : w.heap.size ≤ w.heap.size + 1 + 1 + 1 := by omega
    go_wp2_with (first
      | ((with_reducible refine wpList_oneU (o := ⟨some 10, _, _, _, _, _⟩) ?_ (.const (.int .u8 0)) ?_ (k := 0) ?_ (w.heap.size + 1 + 1 + 1) hbW ?_); rfl; rfl; rfl; intro w3 hO3 hB3 hz3; rw [hzW] at hO3 hz3; have hz3' : w.heap.size + 1 + 1 + 1 + 1 ≤ w3.heap.size := (by omega); clear hz3; have q0 := range_below hB3 r0; have q1 := range_below hB3 r1)
      | ((with_reducible refine wpList_loadP (o := ⟨some 11, _, _, _, _, _⟩) ?_ w.heap.size 0 23 (.tmp 3) ?_ ?_ q0 Tryd.underlying23 ?_ H5.out ?_); rfl; rfl; rfl; rfl)
      | ((with_reducible refine wpList_loadP (o := ⟨some 13, _, _, _, _, _⟩) ?_ (w.heap.size + 1) 1 23 (.tmp 12) ?_ ?_ q1 Tryd.underlying23 ?_ H6.out ?_); rfl; rfl; rfl; rfl)
      | ((with_reducible refine wpList_twoD (o := ⟨some 14, _, _, _, _, _⟩) ?_ (.tmp 11) (.tmp 13) ?_ hok1 ?_ ?_ ?_); rfl; rfl; rfl; rfl))
    have hR4 := RdD.many w3 (n := 2) hok1 rfl (by decide)
    have hB4 : Below w3.heap.size w3 (w3.alloc (.cells (dcs [p, v]).toArray 23)) := (Below.refl _ w3).alloc (Nat.le_refl _) _
    have hO4 := hO3.below hB4
    rw [hzW] at hB3
    have hB24 := hB3.trans (hB4.mono (by omega))
    have hz4 : w3.heap.size + 1 ≤ (w3.alloc (.cells (dcs [p, v]).toArray 23)).heap.size := by simp
    generalize w3.alloc (.cells (dcs [p, v]).toArray 23) = w4 at *
    clear q0 q1 hO3 hB3 hB4
    refine (followed_any w4 (w.heap.size + 1 + 1 + 1) _ 1 1 [0] hO4 rfl (by decide) (by omega) (some ⟨w3.heap.size, 0, none⟩) 2 2 [p, v] hR4 (fun _ y e e2 => ?_) (by decide)).mono ?_
    · cases e
      simp only [Value.ownBlock, Option.some.injEq] at e2
      omega
    rintro e w5 ⟨a5, c5, rfl, hO5, hB5⟩
    have hB25 : Below (w.heap.size + 1 + 1 + 1) _ w5 := hB24.trans hB5
    have hO6 : Own w5 (w.heap.size + 1 + 1 + 1) (.slice a5 65 c5) (0 :: (p ++ v)) := by
      have e : (0 :: (p ++ v)) = [0] ++ [p, v].flatten := by simp
      rw [e]; exact hO5
    have hBE := hB.trans (hB25.mono hs2)
    clear hO4 hO5 hB24 hR4 hB5
    go_wp2_with fail
    exact FIN.out _ a5 65 c5 _ HQ.out HLP.out (hO6.lower hs2) hBE
  | false =>
    cases ot with
    | true =>
      have HQ : Hid (SB = 0 :: (xo ++ xv)) := Lib.hid (by rw [HE.out]; rfl)
      have hs2 : w.heap.size ≤ w.heap.size + 1 + 1 + 1 := by omega
      go_wp2_with (first
        | ((with_reducible refine wpList_oneU (o := ⟨some 19, _, _, _, _, _⟩) ?_ (.const (.int .u8 0)) ?_ (k := 0) ?_ (w.heap.size + 1 + 1 + 1) hbW ?_); rfl; rfl; rfl; intro w3 hO3 hB3 hz3; rw [hzW] at hO3 hz3; have hz3' : w.heap.size + 1 + 1 + 1 + 1 ≤ w3.heap.size := (by omega); clear hz3; have q0 := range_below hB3 r2; have q1 := range_below hB3 r3)
        | ((with_reducible refine wpList_loadP (o := ⟨some 21, _, _, _, _, _⟩) ?_ (w.heap.size + 2) 2 23 (.tmp 20) ?_ ?_ q0 Tryd.underlying23 ?_ H7.out ?_); rfl; rfl; rfl; rfl)
        | ((with_reducible refine wpList_loadP (o := ⟨some 23, _, _, _, _, _⟩) ?_ (w.heap.size + 2) 34 23 (.tmp 22) ?_ ?_ q1 Tryd.underlying23 ?_ H8.out ?_); rfl; rfl; rfl; rfl)
        | ((with_reducible refine wpList_twoD (o := ⟨some 24, _, _, _, _, _⟩) ?_ (.tmp 21) (.tmp 23) ?_ hok2 ?_ ?_ ?_); rfl; rfl; rfl; rfl))
      have hR4 := RdD.many w3 (n := 2) hok2 rfl (by decide)
      have hB4 : Below w3.heap.size w3 (w3.alloc (.cells (dcs [xo, xv]).toArray 23)) := (Below.refl _ w3).alloc (Nat.le_refl _) _
      have hO4 := hO3.below hB4
      rw [hzW] at hB3
      have hB24 := hB3.trans (hB4.mono (by omega))
      have hz4 : w3.heap.size + 1 ≤ (w3.alloc (.cells (dcs [xo, xv]).toArray 23)).heap.size := by simp
      generalize w3.alloc (.cells (dcs [xo, xv]).toArray 23) = w4 at *
      clear q0 q1 hO3 hB3 hB4
      refine (followed_any w4 (w.heap.size + 1 + 1 + 1) _ 1 1 [0] hO4 rfl (by decide) (by omega) (some ⟨w3.heap.size, 0, none⟩) 2 2 [xo, xv] hR4 (fun _ y e e2 => ?_) (by decide)).mono ?_
      · cases e
        simp only [Value.ownBlock, Option.some.injEq] at e2
        omega
      rintro e w5 ⟨a5, c5, rfl, hO5, hB5⟩
      have hB25 : Below (w.heap.size + 1 + 1 + 1) _ w5 := hB24.trans hB5
      have hO6 : Own w5 (w.heap.size + 1 + 1 + 1) (.slice a5 65 c5) (0 :: (xo ++ xv)) := by
        have e : (0 :: (xo ++ xv)) = [0] ++ [xo, xv].flatten := by simp
        rw [e]; exact hO5
      have hBE := hB.trans (hB25.mono hs2)
      clear hO4 hO5 hB24 hR4 hB5
      go_wp2_with fail
      exact FIN.out _ a5 65 c5 _ HQ.out HLX.out (hO6.lower hs2) hBE
    | false =>
      have HQ : Hid (SB = [2]) := Lib.hid (by rw [HE.out]; rfl)
      have hs2 : w.heap.size ≤ w.heap.size + 1 + 1 + 1 := by omega
      go_wp2_with ((with_reducible refine wpList_oneU (o := ⟨some 26, _, _, _, _, _⟩) ?_ (.const (.int .u8 2)) ?_ (k := 2) ?_ (w.heap.size + 1 + 1 + 1) hbW ?_); rfl; rfl; rfl; intro w3 hO3 hB3 hz3; rw [hzW] at hO3)
      exact FIN.out _ _ 1 1 _ HQ.out rfl (hO3.lower hs2) (hB.trans (hB3.mono (by rw [hzW]; omega)))
end
/-! The walks of package proof: inner. -/
section
open Go.RowKit
set_option maxRecDepth 100000

set_option maxHeartbeats 2000000 in
theorem inner_any (w : World) (p : List UInt8) (hp : p.length = 32) (i : Nat) (hi : i < 256) (on bd : List UInt8) (ho : on.length = 32) (hb : bd.length = 32) :
    Calls Tryd.prog 65 #[.agg (bs p).toArray, .int .i64 (i : Int), .agg (bs on).toArray, .agg (bs bd).toArray] w (BytesPost2 w (innerB p i on bd)) := by
  have h1 := Blk.new w 23 (bs p)
  have h2 := Blk.new (w.alloc (.cells (bs p).toArray 23)) 23 (bs on)
  have h3 := Blk.new ((w.alloc (.cells (bs p).toArray 23)).alloc (.cells (bs on).toArray 23)) 23 (bs bd)
  rw [show (w.alloc (.cells (bs p).toArray 23)).heap.size = w.heap.size + 1 by simp] at h2
  rw [show ((w.alloc (.cells (bs p).toArray 23)).alloc (.cells (bs on).toArray 23)).heap.size = w.heap.size + 2 by simp] at h3
  have q1 := (h1.alloc (.cells (bs on).toArray 23)).alloc (.cells (bs bd).toArray 23)
  have q2 := h2.alloc (.cells (bs bd).toArray 23)
  have hB0 : Below w.heap.size w (((w.alloc (.cells (bs p).toArray 23)).alloc (.cells (bs on).toArray 23)).alloc (.cells (bs bd).toArray 23)) := (((Below.refl _ w).alloc (Nat.le_refl _) _).alloc (by simp) _).alloc (by simp; omega) _
  have H5 := Lib.hid (digP hp)
  have H6 := Lib.hid (digP ho)
  have H7 := Lib.hid (digP hb)
  have PB := Lib.hid (fun W : World => pbit_any W p hp i hi)
  have hok1 : okd [bd, on] := okd.append (okd.single hb) (okd.single ho)
  have hok2 : okd [on, bd] := okd.append (okd.single ho) (okd.single hb)
  have HLI := Lib.hid (innerB_len (p := p) (i := i) ho hb)
  have HE : Hid (innerB p i on bd = if bitAt p i = 1 then 1 :: (bd ++ on) else 1 :: (on ++ bd)) := Lib.hid rfl
  have FIN : Hid (∀ (W : World) (a' : Option Addr) (m c' : Nat) (q : List UInt8), innerB p i on bd = q → q.length = m → Own W w.heap.size (.slice a' m c') q → Below w.heap.size w W → BytesPost2 w (innerB p i on bd) (.returned (.slice a' m c')) W) := Lib.hid (fun W a' m c' q h1 h2 h3 h4 => ⟨a', m, c', rfl, Lib.hid (by rw [h1]; exact h2), by rw [h1]; exact h3, h4⟩)
  clear h1 h2 hp ho hb
  generalize BytesPost2 w (innerB p i on bd) = RP at *
  generalize innerB p i on bd = SB at *
  have rp := q1.allR
  go_enter Tryd.func65, Tryd.ntmps65
  go_wp2_with ((with_reducible refine wpList_loadP (o := ⟨some 9, _, _, _, _, _⟩) ?_ w.heap.size 0 23 (.tmp 4) ?_ ?_ rp Tryd.underlying23 ?_ H5.out ?_); rfl; rfl; rfl; rfl)
  refine (PB.out _).mono ?_
  rintro e w2 ⟨rfl, hB2⟩
  have ro := (q2.below hB2).allR
  have rb := (h3.below hB2).allR
  have hB02 := Bt hB0 hB2
  have hs2 := hB02.size
  clear rp q1 q2 h3 hB0 hB2 PB
  cases hbit : (bitAt p i == 1) with
  | true =>
    have HQ : Hid (SB = 1 :: (bd ++ on)) := Lib.hid (by rw [HE.out, if_pos (by simpa using hbit)])
    have HLQ : Hid ((1 :: (bd ++ on)).length = 65) := Lib.hid (by rw [← HQ.out]; exact HLI.out)
    go_wp2_with (first
      | ((with_reducible refine wpList_oneU (o := ⟨some 12, _, _, _, _, _⟩) ?_ (.const (.int .u8 1)) ?_ (k := 1) ?_ w2.heap.size (Nat.le_refl _) ?_); rfl; rfl; rfl; intro w3 hO3 hB3 hz3; have hz3' : w2.heap.size + 1 ≤ w3.heap.size := (by omega); clear hz3; have q0 := range_below hB3 rb; have q1 := range_below hB3 ro)
      | ((with_reducible refine wpList_loadP (o := ⟨some 13, _, _, _, _, _⟩) ?_ (w.heap.size + 2) 0 23 (.tmp 7) ?_ ?_ q0 Tryd.underlying23 ?_ H7.out ?_); rfl; rfl; rfl; rfl)
      | ((with_reducible refine wpList_loadP (o := ⟨some 14, _, _, _, _, _⟩) ?_ (w.heap.size + 1) 0 23 (.tmp 6) ?_ ?_ q1 Tryd.underlying23 ?_ H6.out ?_); rfl; rfl; rfl; rfl)
      | ((with_reducible refine wpList_twoD (o := ⟨some 15, _, _, _, _, _⟩) ?_ (.tmp 13) (.tmp 14) ?_ hok1 ?_ ?_ ?_); rfl; rfl; rfl; rfl))
    have hR4 := RdD.many w3 (n := 2) hok1 rfl (by decide)
    have hB4 : Below w3.heap.size w3 (w3.alloc (.cells (dcs [bd, on]).toArray 23)) := (Below.refl _ w3).alloc (Nat.le_refl _) _
    have hO4 := hO3.below hB4
    have hB24 := Bt hB3 hB4
    have hz4 : w3.heap.size + 1 ≤ (w3.alloc (.cells (dcs [bd, on]).toArray 23)).heap.size := by simp
    generalize w3.alloc (.cells (dcs [bd, on]).toArray 23) = w4 at *
    clear q0 q1 hO3 hB3 hB4
    refine (followed_any w4 w2.heap.size _ 1 1 [1] hO4 rfl (by decide) (by omega) (some ⟨w3.heap.size, 0, none⟩) 2 2 [bd, on] hR4 (fun _ y e e2 => ?_) (by decide)).mono ?_
    · cases e
      simp only [Value.ownBlock, Option.some.injEq] at e2
      omega
    rintro e w5 ⟨a5, c5, rfl, hO5, hB5⟩
    have hB25 : Below w2.heap.size w2 w5 := hB24.trans hB5
    have hO6 : Own w5 w2.heap.size (.slice a5 65 c5) (1 :: (bd ++ on)) := by
      have e : (1 :: (bd ++ on)) = [1] ++ [bd, on].flatten := by simp
      rw [e]; exact hO5
    have hBE := Bt hB02 hB25
    clear hO4 hO5 hB24 hR4 hB5
    go_wp2_with fail
    exact FIN.out _ a5 65 c5 _ HQ.out HLQ.out (hO6.lower hs2) hBE
  | false =>
    have HQ : Hid (SB = 1 :: (on ++ bd)) := Lib.hid (by rw [HE.out, if_neg (by simpa using hbit)])
    have HLQ : Hid ((1 :: (on ++ bd)).length = 65) := Lib.hid (by rw [← HQ.out]; exact HLI.out)
    go_wp2_with (first
      | ((with_reducible refine wpList_oneU (o := ⟨some 17, _, _, _, _, _⟩) ?_ (.const (.int .u8 1)) ?_ (k := 1) ?_ w2.heap.size (Nat.le_refl _) ?_); rfl; rfl; rfl; intro w3 hO3 hB3 hz3; have hz3' : w2.heap.size + 1 ≤ w3.heap.size := (by omega); clear hz3; have q0 := range_below hB3 ro; have q1 := range_below hB3 rb)
      | ((with_reducible refine wpList_loadP (o := ⟨some 18, _, _, _, _, _⟩) ?_ (w.heap.size + 1) 0 23 (.tmp 6) ?_ ?_ q0 Tryd.underlying23 ?_ H6.out ?_); rfl; rfl; rfl; rfl)
      | ((with_reducible refine wpList_loadP (o := ⟨some 19, _, _, _, _, _⟩) ?_ (w.heap.size + 2) 0 23 (.tmp 7) ?_ ?_ q1 Tryd.underlying23 ?_ H7.out ?_); rfl; rfl; rfl; rfl)
      | ((with_reducible refine wpList_twoD (o := ⟨some 20, _, _, _, _, _⟩) ?_ (.tmp 18) (.tmp 19) ?_ hok2 ?_ ?_ ?_); rfl; rfl; rfl; rfl))
    have hR4 := RdD.many w3 (n := 2) hok2 rfl (by decide)
    have hB4 : Below w3.heap.size w3 (w3.alloc (.cells (dcs [on, bd]).toArray 23)) := (Below.refl _ w3).alloc (Nat.le_refl _) _
    have hO4 := hO3.below hB4
    have hB24 := Bt hB3 hB4
    have hz4 : w3.heap.size + 1 ≤ (w3.alloc (.cells (dcs [on, bd]).toArray 23)).heap.size := by simp
    generalize w3.alloc (.cells (dcs [on, bd]).toArray 23) = w4 at *
    clear q0 q1 hO3 hB3 hB4
    refine (followed_any w4 w2.heap.size _ 1 1 [1] hO4 rfl (by decide) (by omega) (some ⟨w3.heap.size, 0, none⟩) 2 2 [on, bd] hR4 (fun _ y e e2 => ?_) (by decide)).mono ?_
    · cases e
      simp only [Value.ownBlock, Option.some.injEq] at e2
      omega
    rintro e w5 ⟨a5, c5, rfl, hO5, hB5⟩
    have hB25 : Below w2.heap.size w2 w5 := hB24.trans hB5
    have hO6 : Own w5 w2.heap.size (.slice a5 65 c5) (1 :: (on ++ bd)) := by
      have e : (1 :: (on ++ bd)) = [1] ++ [on, bd].flatten := by simp
      rw [e]; exact hO5
    have hBE := Bt hB02 hB25
    clear hO4 hO5 hB24 hR4 hB5
    go_wp2_with fail
    exact FIN.out _ a5 65 c5 _ HQ.out HLQ.out (hO6.lower hs2) hBE
end
/-! The walks of package proof: chain: what its iterator yields. -/
section
open Go.RowKit
set_option maxRecDepth 100000

/-- what is hashed from a place on, up to index 0 -/
def chF (x : Nat) (p : List UInt8) (sibs : List (List UInt8)) : Nat → List UInt8 → List (List UInt8)
  | 0, b => [b]
  | i + 1, b => b :: chF x p sibs i (innerB p i (shortB x b) (sibs.getD i []))

/-- what is yielded: bytes, and their digest -/
structure Yl where
  a : Option Addr
  m : Nat
  c : Nat
  q : List UInt8
  d : List UInt8
def yenc (y : Yl) : Array Value := #[.slice y.a y.m y.c, .agg (bs y.d).toArray]
structure YInf (N0 : Nat) (y : Yl) (W : World) : Prop where
  own : Own W N0 (.slice y.a y.m y.c) y.q
  len : y.q.length = y.m
  few : y.m ≤ 65
  dl : y.d.length = 32

/-- what lay in w0, and all cells but those of the blocks U and of the kinds T, stay -/
structure Stay (w0 : World) (U : Nat → Prop) (T : TypeId → Prop) (A B : World) : Prop where
  size : A.heap.size ≤ B.heap.size
  same : ∀ k c t f, A.heap[k]? = some (.cells c t f) → (k < w0.heap.size ∨ (¬ U k ∧ ¬ T t)) → B.heap[k]? = some (.cells c t f)
section
variable {w0 A B C : World} {U : Nat → Prop} {T : TypeId → Prop}
theorem Stay.trans (h : Stay w0 U T A B) (k : Stay w0 U T B C) : Stay w0 U T A C := ⟨Nat.le_trans h.size k.size, fun i c t f hi ho => k.same i c t f (h.same i c t f hi ho) ho⟩
theorem _root_.Go.Proofs.YtgbhfpkngjlfkaaDoor.LoopAt.loop' {N : Nat} {r : Loop} (h : LoopAt N r A) (r' : Loop) : Stay w0 U T A (A.putObj (N + 1) (.loop r')) :=
  ⟨by simp, fun k c t f hk _ => by
    have hne : k ≠ N + 1 := fun e => by
      rw [e, h.loo] at hk
      cases hk
    exact (World.putObj_heap_other hne).trans hk⟩
theorem stay_new (h : A.grownBy B none) : Stay w0 U T A B := ⟨h.size, fun k _ _ _ hk _ => (h.block k (lt_of_block hk) (by simp)).trans hk⟩
theorem stay_turn {r : Nat} (h : A.grownBy B (some r)) (h0 : w0.heap.size ≤ r) (hr : U r ∨ ∃ c t f, A.heap[r]? = some (.cells c t f) ∧ T t) : Stay w0 U T A B :=
  ⟨h.size, fun k c t f hk ho => (h.block k (lt_of_block hk) (fun e => by
    injection e with e
    subst e
    rcases ho with ho | ⟨h1, h2⟩
    · omega
    · rcases hr with hr | ⟨c', t', f', hc, ht⟩
      · exact h1 hr
      · rw [hk] at hc
        cases hc
        exact h2 ht)).trans hk⟩
theorem Blk.stay {g : Nat} {t : TypeId} {vs : List Value} (h : Blk A g t vs) (hs : Stay w0 U T A B) (h1 : ¬ U g) (h2 : ¬ T t) : Blk B g t vs := ⟨hs.same _ _ _ _ h.at_ (.inr ⟨h1, h2⟩)⟩
end

/-- the cells of w0 lie in W as they lay -/
def Lies (w0 W : World) : Prop := ∀ (k : Nat) (c : Array Value) (t : TypeId) (f : Nat × Nat), w0.heap[k]? = some (.cells c t f) → W.heap[k]? = some (.cells c t f)
theorem Lies.refl (w : World) : Lies w w := fun _ _ _ _ h => h
theorem Lies.below {w0 W W' : World} (h : Lies w0 W) (hb : Below W.heap.size W W') : Lies w0 W' := fun k c t f hk => by
  have h1 := h k c t f hk
  exact (hb.block k (lt_of_block h1)).trans h1
theorem Lies.of_below {w0 W : World} (hb : Below w0.heap.size w0 W) : Lies w0 W := (Lies.refl w0).below hb
theorem Lies.stay {w0 W W' : World} {U : Nat → Prop} {T : TypeId → Prop} (h : Lies w0 W) (hs : Stay w0 U T W W') : Lies w0 W' := fun k c t f hk => hs.same k c t f (h k c t f hk) (.inl (lt_of_block hk))
theorem Lies.cell {w0 W : World} (h : Lies w0 W) {ad : Addr} {v : Value} (hc : w0.cell? ad = some v) : W.cell? ad = some v := by
  obtain ⟨o, ho, hi⟩ := cells_of_cell hc
  cases o with
  | cells c t f => exact (World.cell?_of_block ((h _ _ _ _ ho).trans ho.symm)).trans hc
  | _ => simp [Obj.isCells] at hi
theorem Lies.range {w0 W : World} (h : Lies w0 W) {b o : Nat} {cs : List Value} (hr : w0.rangeAt b o cs) : W.rangeAt b o cs := fun j v hv => h.cell (hr j v hv)
theorem Lies.tab {w0 W : World} (h : Lies w0 W) {g : Nat} (ht : Tab w0 g) : Tab W g := h.range ht
theorem RdD.lies {w0 W : World} {a : Option Addr} {n c : Nat} {l : List (List UInt8)} (hr : RdD w0 a n c l) (h : Lies w0 W) : RdD W a n c l :=
  ⟨hr.len, hr.ok, hr.cap, hr.max, hr.nil, fun ad e j u hu => h.cell (hr.cell ad e j u hu)⟩

/-- what the iterator holds on to: its variables lie from block s on -/
structure ItAt (w0 W : World) (s x : Nat) (p : List UInt8) (C P : List Value) : Prop where
  lies : Lies w0 W
  wd : Blk W s 3 [.int .i64 (x : Int)]
  p : Blk W (s + 1) 23 (bs p)
  c : Blk W (s + 2) 25 C
  x : Blk W (s + 3) 28 P
section
variable {w0 W W' : World} {s x : Nat} {p : List UInt8} {C P : List Value} {U : Nat → Prop} {T : TypeId → Prop}
theorem ItAt.below (h : ItAt w0 W s x p C P) (hb : Below W.heap.size W W') : ItAt w0 W' s x p C P := ⟨h.lies.below hb, h.wd.below hb, h.p.below hb, h.c.below hb, h.x.below hb⟩
/-- what a caller must leave alone -/
structure Apart (s : Nat) (U : Nat → Prop) (T : TypeId → Prop) : Prop where
  u0 : ¬ U s
  u1 : ¬ U (s + 1)
  u2 : ¬ U (s + 2)
  u3 : ¬ U (s + 3)
  t0 : ¬ T 3
  t1 : ¬ T 23
  t2 : ¬ T 25
  t3 : ¬ T 28
theorem ItAt.stay (h : ItAt w0 W s x p C P) (hs : Stay w0 U T W W') (ha : Apart s U T) : ItAt w0 W' s x p C P :=
  ⟨h.lies.stay hs, h.wd.stay hs ha.u0 ha.t0, h.p.stay hs ha.u1 ha.t1, h.c.stay hs ha.u2 ha.t2, h.x.stay hs ha.u3 ha.t3⟩
end

theorem chF_length (x : Nat) (p : List UInt8) (sibs : List (List UInt8)) : ∀ k b, (chF x p sibs k b).length = k + 1
  | 0, _ => rfl
  | k + 1, b => by rw [chF, List.length_cons, chF_length x p sibs k]
theorem chF_few {x : Nat} {p : List UInt8} {sibs : List (List UInt8)} {n k : Nat} {q0 q : List UInt8} {pre : List Yl} (_hk : k ≤ n) (h : chF x p sibs n q0 = pre.map Yl.q ++ chF x p sibs k q) : pre.length < n + 1 := by
  have := congrArg List.length h
  rw [List.length_append, chF_length, chF_length, List.length_map] at this
  omega
theorem sshort_nat (w : World) (x : Nat) (hx : x ≤ 32) (a : Option Addr) (n c : Nat) (l : List UInt8) (hr : Rd w a n c l) (hT : Tab w 1) (hn : n ≤ 1000000) :
    Calls Tryd.prog 15 #[.int .i64 (x : Int), .slice a n c] w fun e w' => e = .returned (.tuple #[.agg (bs (shortB x l)).toArray, .int .i64 0]) ∧ Below w.heap.size w w' := by
  have h := sshort_any w (x : Int) a n c l hr hT hn
  rw [shortI_nat x hx, errW, if_pos ⟨by omega, by omega⟩] at h
  exact h

theorem innerB_short {p on bd : List UInt8} {i : Nat} (h1 : on.length = 32) (h2 : bd.length = 32) : (innerB p i on bd).length ≤ 65 := by rw [innerB_len h1 h2]; exact Nat.le_refl _

theorem chain_any (w : World) (x : Nat) (p : List UInt8) (b : Bool) (v : List UInt8) (a : Option Addr) (n c : Nat) (X : Pf) :
    Calls Tryd.prog 41 #[.int .i64 (x : Int), .agg (bs p).toArray, .agg (clc b v).toArray, .agg (pc a n c X).toArray] w fun e w' =>
      e = .returned (.func (.func 63) #[] #[.pointer (some ⟨w.heap.size + 1, 0, none⟩), .pointer (some ⟨w.heap.size + 2, 0, none⟩), .pointer (some ⟨w.heap.size + 3, 0, none⟩), .pointer (some ⟨w.heap.size, 0, none⟩)]) ∧
      ItAt w w' w.heap.size x p (clc b v) (pc a n c X) ∧ Below w.heap.size w w' ∧ w'.heap.size = w.heap.size + 4 := by
  have hB1 : Below w.heap.size w (w.alloc (.cells #[.int .i64 (x : Int)] 3)) := (Below.refl _ w).alloc (Nat.le_refl _) _
  have h0 : Blk (w.alloc (.cells #[.int .i64 (x : Int)] 3)) w.heap.size 3 [.int .i64 (x : Int)] := Blk.new w 3 [.int .i64 (x : Int)]
  have hS := Bx3.start w (w.alloc (.cells #[.int .i64 (x : Int)] 3)) hB1 p b v (pc a n c X)
  have h1 := ((h0.alloc (.cells (bs p).toArray 23)).alloc (.cells (clc b v).toArray 25)).alloc (.cells (pc a n c X).toArray 28)
  rw [show (w.alloc (.cells #[.int .i64 (x : Int)] 3)).heap.size = w.heap.size + 1 by simp] at hS
  have hI : ItAt w ((((w.alloc (.cells #[.int .i64 (x : Int)] 3)).alloc (.cells (bs p).toArray 23)).alloc (.cells (clc b v).toArray 25)).alloc (.cells (pc a n c X).toArray 28)) w.heap.size x p (clc b v) (pc a n c X) :=
    ⟨Lies.of_below hS.bel, h1, hS.p, hS.c, hS.x⟩
  have hB := hS.bel
  clear hS h0 h1
  have hmf : ∀ (fn : Fn) (first cap : Array Value) (w : World), (Instr.makeFunc fn first cap).run Tryd.prog w = .ok (.func fn first cap) w := fun _ _ _ _ => rfl
  generalize clc b v = C at *
  generalize pc a n c X = P at *
  go_enter Tryd.func41, Tryd.ntmps41
  go_wp2
  go_ret
  exact ⟨rfl, hI, hB, by simp⟩

set_option maxHeartbeats 4000000 in
theorem chain_tells (w0 w : World) (s x : Nat) (hx : x ≤ 32) (p : List UInt8) (hp : p.length = 32) (b : Bool) (v : List UInt8) (hv : v.length = 32) (a : Option Addr) (n c : Nat) (X : Pf) (hr : RdP6 w0 a n c X) (hn : n ≤ 256) (hT : Tab w0 1)
    (U : Nat → Prop) (T : TypeId → Prop) (hU : ∀ k, w.heap.size ≤ k → ¬ U k) (hA : Apart s U T) (hN : w0.heap.size ≤ w.heap.size) (hI : ItAt w0 w s x p (clc b v) (pc a n c X)) :
    Tells Fence.wide 5 Tryd.prog 63 #[.pointer (some ⟨s + 1, 0, none⟩), .pointer (some ⟨s + 2, 0, none⟩), .pointer (some ⟨s + 3, 0, none⟩), .pointer (some ⟨s, 0, none⟩)] yenc (Stay w0 U T) (YInf w0.heap.size)
      (fun xs => xs.map Yl.q = chF x p X.sibs n (startB p b v X) ∧ ∀ y ∈ xs, y.d = shortB x y.q) (n + 1) w := fun l J W hW hJ hY h0 => by
  have hI0 := hI.below hW
  have hlen := Lib.hid hr.sib.len
  have HR := Lib.hid hr.sib
  have HT := Lib.hid hT
  have HX := Lib.hid hr.ok
  have h5 := Lib.hid (digP hp)
  have h6 := Lib.hid (infoClc (b := b) hv)
  have h7 := Lib.hid (size_of (a := a) (n := n) (c := c) hr.ok)
  have ST := Lib.hid (fun W : World => start_any W p hp b v hv a n c X hr.ok)
  have HJ := Lib.hid hJ
  have HA := Lib.hid hA
  have HU := Lib.hid hU
  have HSL : Hid ((startB p b v X).length ≤ 65) := Lib.hid (by rw [startB_len hp hv hr.ok]; split <;> omega)
  have HWZ := Lib.hid (show w0.heap.size ≤ W.heap.size from Nat.le_trans hN hW.size)
  have HW2 := Lib.hid hW.size
  have hwn : IntKind.i64.wrap ((n : Int) - 1) = (n : Int) - 1 := IntWalk.i64_in _ (by omega)
  have IN := Lib.hid (fun (W : World) (i : Nat) (hi : i < 256) (on bd : List UInt8) (ho : on.length = 32) (hb : bd.length = 32) => inner_any W p hp i hi on bd ho hb)
  have SH := Lib.hid (fun (W : World) (a : Option Addr) (n c : Nat) (l : List UInt8) (hr : Rd W a n c l) (hT : Tab W 1) (hn : n ≤ 1000000) => sshort_nat W x hx a n c l hr hT hn)
  have HSB := Lib.hid (fun q : List UInt8 => shortB_length x q hx)
  have hf1 : Fence.wide.fn 64 := trivial
  have hf2 : Fence.wide.fn 15 := trivial
  have r1 := hI0.p.allR
  have r2 := hI0.c.allR
  have r3 := hI0.x.allR
  clear hr hT hp hv hJ hA hU hN hW hI hx
  generalize hC : clc b v = C at *
  generalize hP : pc a n c X = P at *
  have hPc : P[0]? = some (.slice a n c) := by rw [← hP]; rfl
  clear hC hP
  generalize startB p b v X = q0 at *
  refine callsIn_of_wp Tryd.func63 rfl trivial ?_ rfl
  simp only [Tryd.ntmps63, List.size_toArray, List.length_cons, List.length_nil, Nat.reduceAdd, Nat.reduceSub, Array.replicate_succ, Array.replicate_zero, List.push_toArray, List.append_toArray, List.nil_append, List.cons_append]
  gi_wp2_with (first
    | ((with_reducible refine wpListIn_loadP (o := ⟨some 10, _, _, _, _, _⟩) ?_ (s + 1) 0 23 (.tmp 1) ?_ ?_ r1 Tryd.underlying23 ?_ h5.out ?_); rfl; rfl; rfl; rfl)
    | ((with_reducible refine wpListIn_loadP (o := ⟨some 11, _, _, _, _, _⟩) ?_ (s + 2) 0 25 (.tmp 2) ?_ ?_ r2 Tryd.underlying25 ?_ h6.out ?_); rfl; rfl; rfl; rfl)
    | ((with_reducible refine wpListIn_loadP (o := ⟨some 12, _, _, _, _, _⟩) ?_ (s + 3) 0 28 (.tmp 3) ?_ ?_ r3 Tryd.underlying28 ?_ h7.out ?_); rfl; rfl; rfl; rfl)
    | (gi_at_call 64; refine (callsIn_wide.2 (ST.out _)).mono ?_; rintro e w1 ⟨a1, m1, c1, rfl, hm1, hO1, hB1⟩; have hI1 := hI0.below hB1; have k3 := hI1.x.cell hPc))
  gi_loopw [6, 7] (fun bv iv wr => ∃ (pre : List Yl) (k : Nat) (z : Int) (q : List UInt8) (a' : Option Addr) (m' c' : Nat), k ≤ n ∧ bv = .slice a' m' c' ∧ iv = .int .i64 z ∧ z = (k : Int) - 1 ∧ Own wr w0.heap.size (.slice a' m' c') q ∧ Hid (q.length = m') ∧ m' ≤ 65 ∧ J pre wr ∧ ItAt w0 wr s x p C P ∧ w1.heap.size ≤ wr.heap.size ∧
      Hid (chF x p X.sibs n q0 = pre.map Yl.q ++ chF x p X.sibs k q) ∧ Hid (∀ y ∈ pre, y.d = shortB x y.q)) (fun _ iv _ => (intOf iv + 1).toNat)
  case atStart => exact ⟨[], n, (n : Int) - 1, q0, a1, m1, c1, Nat.le_refl _, rfl, rfl, rfl, hO1.lower HWZ.out, hm1, by rw [← hm1.out]; exact HSL.out, HJ.out [] W w1 none h0 (below_none hB1) (fun r e => by cases e), hI1, Nat.le_refl _, Lib.hid rfl, Lib.hid (fun _ h => by cases h)⟩
  case round =>
    obtain ⟨pre, k, z, q, a', m', c', hk, rfl, rfl, hz, hO, hql, hm', hJs, hIt, hwr, hch, hds⟩ := hrel
    have t0 := hIt.wd.cell (j := 0) rfl
    have S5 := Lib.hid (SH.out wr a' m' c' q hO.rd (hIt.lies.tab HT.out) (by omega))
    have hdl := Lib.hid (HSB.out q)
    have HD5 := Lib.hid (digP hdl.out)
    have HDO := Lib.hid (bs_one (shortB x q))
    have HDL := Lib.hid (show (bs zero32).length = (bs (shortB x q)).length by rw [bs_length, bs_length, hdl.out, zero32_length])
    have hz1 := hB1.size
    clear r1 r2 r3 k3 hI1 hI0 hO1 hm1 hB1 ST
    gi_wp2_with (first
      | (gi_at_call 15; refine (callsIn_wide.2 S5.out).mono ?_; rintro e w2 ⟨rfl, hB2⟩)
      | ((with_reducible refine wpListIn_allocB (o := ⟨some 8, _, _, _, _, _⟩) ?_ 23 ?_ zeroD_info ?_); rfl; rfl; intro w3 hb3 hg3 hz3)
      | ((with_reducible refine wpListIn_storeB (o := ⟨none, .store 23 (.tmp 8) (.tmp 24), _, _, _, _⟩) ?_ 23 (.tmp 8) (.tmp 24) ?_ ?_ ?_ hb3 HD5.out HDL.out HDO.out ?_); rfl; rfl; rfl; rfl; intro w4 hb4 hg4 hz4; have hs2 := hB2.size;
          have hB4 : Below wr.heap.size wr w4 := (hB2.grown hg3 hs2 (fun k e => by cases e)).grown hg4 (by omega) (fun k e => by cases e; exact hs2);
          have hI4 := hIt.below hB4; have hO4 := hO.below hB4; have r4 := hb4.allR;
          obtain ⟨fn, tmps, assign, body, hy, hR⟩ := hY pre ⟨a', m', c', q, shortB x q⟩ w4 (HJ.out pre wr w4 none hJs (below_none hB4) (fun r e => by cases e)) ⟨hO4, hql.out, hm', hdl.out⟩ (chF_few hk hch.out); dsimp only [yenc] at hy)
      | ((with_reducible refine wpListIn_loadP (o := ⟨some 28, _, _, _, _, _⟩) ?_ w2.heap.size 0 23 (.tmp 8) ?_ ?_ r4 Tryd.underlying23 ?_ HD5.out ?_); rfl; rfl; rfl; rfl))
    refine hR.mono ?_
    rintro e w5 ⟨rfl, hJ5, hS5⟩
    have hI5 := hI4.stay hS5 HA.out
    have hd5 := hb4.stay hS5 (HU.out _ (by have := HW2.out; omega)) HA.out.t1
    have hs5 := hS5.size
    have hz5 : w0.heap.size ≤ w5.heap.size := by have := HWZ.out; omega
    have hz6 : w1.heap.size ≤ w5.heap.size := by omega
    clear hy hR r4 t0 hI4 hO4 hB4 hb4 hb3 hg3 hg4 hO hIt hJs hS5 S5
    cases k with
    | zero =>
      obtain rfl : z = -1 := by omega
      clear hz
      gi_wp2
      apply bodyPost_ret
      · exact results_none rfl _ _ _
      · rfl
      exact ⟨⟨_, rfl⟩, _, ⟨by rw [hch.out, List.map_append]; rfl, fun y hy => (List.mem_append.1 hy).elim (hds.out y) (fun h => by rw [List.mem_singleton.1 h])⟩, hJ5⟩
    | succ j =>
      obtain rfl : z = (j : Int) := by omega
      clear hz
      have hlt : ¬ ((j : Int) < 0) := by omega
      obtain ⟨bb, off, hae, -, hel⟩ := (HR.out.lies hI5.lies).elems (by omega)
      subst hae
      have hel5 := hel j (by omega)
      have hek := HX.out.d.at (i := j) (by rw [hlen.out]; omega)
      have hjn : (j : Int) < (n : Int) := by omega
      have hj2 : j < 256 := by omega
      have hwj : IntKind.i64.wrap ((j : Int) - 1) = (j : Int) - 1 := IntWalk.i64_in _ (by omega)
      have HEK := Lib.hid (digP hek)
      have HPC := Lib.hid hPc
      have HIN := Lib.hid (innerB_short (p := p) (i := j) hdl.out hek)
      have hch6 : Hid (chF x p X.sibs n q0 = (pre ++ [(⟨a', m', c', q, shortB x q⟩ : Yl)]).map Yl.q ++ chF x p X.sibs j (innerB p j (shortB x q) (X.sibs.getD j []))) := Lib.hid (by rw [hch.out, chF, List.map_append, List.append_assoc]; rfl)
      have hds6 : Hid (∀ y ∈ pre ++ [(⟨a', m', c', q, shortB x q⟩ : Yl)], y.d = shortB x y.q) := Lib.hid (fun y hy => (List.mem_append.1 hy).elim (hds.out y) (fun h => by rw [List.mem_singleton.1 h]))
      clear hel hch hds hPc hlen hql
      generalize X.sibs.getD j [] = sb at *
      generalize shortB x q = dg at *
      gi_wp2
      refine wpIn_wide.2 ?_
      -- REGION chain5 6
      refine wp_region_held_drew (S := fun W => Below w5.heap.size w5 W) (by kernel_rfl) (Below.refl _ w5).drew (fun hHeld => ?_)
      refine wpAnyH_take (i := 0) (oi := ⟨some 35, .load 23 (.tmp 1), _, _, _, none⟩) (v := .agg (bs p).toArray) rfl (by kernel_rfl) (by kernel_rfl) (by kernel_rfl) (fun _ _ _ h => h) (yieldsIf_load_mid (by rfl) _ _ rfl (s + 1) 0 rfl (bs p) _ (fun W h => (hI5.below h).p.allR) Tryd.underlying23 rfl h5.out) hHeld ?_
      try simp only [Act.put, List.setIfInBounds_toArray, List.set_cons_zero, List.set_cons_succ]
      refine wpAnyH_take (i := 1) (oi := ⟨some 36, .move (.tmp 7), _, _, _, none⟩) (v := ?_) rfl (by kernel_rfl) (by kernel_rfl) (by kernel_rfl) (fun _ _ _ h => h) (Or.inl ⟨by rfl, ?_⟩) hHeld ?_
      rotate_left
      · intro W _; go_simp; try with_reducible rfl
      try simp only [Act.put, List.setIfInBounds_toArray, List.set_cons_zero, List.set_cons_succ]
      refine wpAnyH_take (i := 2) (oi := ⟨some 37, .load 23 (.tmp 8), _, _, _, none⟩) (v := .agg (bs dg).toArray) rfl (by kernel_rfl) (by kernel_rfl) (by kernel_rfl) (fun _ _ _ h => h) (yieldsIf_load_mid (by rfl) _ _ rfl w2.heap.size 0 rfl (bs dg) _ (fun W h => (hd5.below h).allR) Tryd.underlying23 rfl HD5.out) hHeld ?_
      try simp only [Act.put, List.setIfInBounds_toArray, List.set_cons_zero, List.set_cons_succ]
      refine wpAnyH_take (i := 3) (oi := ⟨some 38, .fieldAddr 28 (.tmp 3) 0, _, _, _, none⟩) (v := ?_) rfl (by kernel_rfl) (by kernel_rfl) (by kernel_rfl) (fun _ _ _ h => h) (Or.inl ⟨by rfl, ?_⟩) hHeld ?_
      rotate_left
      · intro W _; go_simp; try with_reducible rfl
      try simp only [Act.put, List.setIfInBounds_toArray, List.set_cons_zero, List.set_cons_succ]
      refine wpAnyH_take (i := 4) (oi := ⟨some 39, .load 26 (.tmp 38), _, _, _, none⟩) (v := ?_) rfl (by kernel_rfl) (by kernel_rfl) (by kernel_rfl) (fun _ _ _ h => h) (Or.inl ⟨by rfl, ?_⟩) hHeld ?_
      rotate_left
      · intro W h; have h0 := (hI5.below h).x.cell HPC.out; go_simp; try with_reducible rfl
      try simp only [Act.put, List.setIfInBounds_toArray, List.set_cons_zero, List.set_cons_succ]
      refine wpAnyH_take (i := 5) (oi := ⟨some 40, .move (.tmp 7), _, _, _, none⟩) (v := ?_) rfl (by kernel_rfl) (by kernel_rfl) (by kernel_rfl) (fun _ _ _ h => h) (Or.inl ⟨by rfl, ?_⟩) hHeld ?_
      rotate_left
      · intro W _; go_simp; try with_reducible rfl
      try simp only [Act.put, List.setIfInBounds_toArray, List.set_cons_zero, List.set_cons_succ]
      refine wpAnyH_take (i := 6) (oi := ⟨some 41, .indexAddr 26 (.tmp 39) (.tmp 40), _, _, _, none⟩) (v := ?_) rfl (by kernel_rfl) (by kernel_rfl) (by kernel_rfl) (fun _ _ _ h => h) (Or.inl ⟨by rfl, ?_⟩) hHeld ?_
      rotate_left
      · intro W _; go_simp; try with_reducible rfl
      try simp only [Act.put, List.setIfInBounds_toArray, List.set_cons_zero, List.set_cons_succ]
      refine wpAnyH_take (i := 7) (oi := ⟨some 42, .load 23 (.tmp 41), _, _, _, none⟩) (v := .agg (bs sb).toArray) rfl (by kernel_rfl) (by kernel_rfl) (by kernel_rfl) (fun _ _ _ h => h) (yieldsIf_load_mid (by rfl) _ _ rfl bb (off + j * 32) rfl (bs sb) _ (fun W h => (range_below h hel5)) Tryd.underlying23 rfl HEK.out) hHeld ?_
      try simp only [Act.put, List.setIfInBounds_toArray, List.set_cons_zero, List.set_cons_succ]
      refine wpAnyH_ready (rs := [8]) (by kernel_rfl) (by simp) ?_
      refine AllReadyH.cons (o := ⟨some 43, .call { callee := .value (.func 65), args := #[.tmp 35, .tmp 36, .tmp 37, .tmp 42], argTypes := #[23, 3, 23, 23] }, _, _, _, none⟩) rfl (fun K hK => ?_) AllReadyH.nil
      refine step_ofR (by rfl) ?_
      go_simp
      refine (IN.out _ j hj2 dg sb hdl.out hek).mono ?_
      rintro ee W8 ⟨a6, m6, c6, rfl, hm6, hO6, hb6⟩
      refine hK.out _ _ (Bt hHeld hb6) (fun hHeld => ?_)
      clear hK K
      try simp only [Act.put, List.setIfInBounds_toArray, List.set_cons_zero, List.set_cons_succ]
      refine wpAnyH_ready (rs := [9]) (by kernel_rfl) (by simp) ?_
      refine AllReadyH.cons (o := ⟨some 6, .assign (.tmp 43), _, _, _, none⟩) rfl (fun K hK => ?_) AllReadyH.nil
      refine step_ofR (by rfl) ?_
      go_simp
      refine hK.out _ _ (hHeld) (fun hHeld => ?_)
      clear hK K
      try simp only [Act.put, List.setIfInBounds_toArray, List.set_cons_zero, List.set_cons_succ]
      refine wpAnyH_done (by kernel_rfl) ?_ _
      -- END chain5
      simp only [Exit.inBlock, Exit.then]
      have hI7 := hI5.below hHeld
      have hs7 := hHeld.size
      have hJ7 := HJ.out _ w5 _ none hJ5 (below_none hHeld) (fun r e => by cases e)
      clear hI5 hd5 hel5 hJ5 hHeld
      gi_wp2
      go_roundw
      case rel => exact ⟨_, j, (j : Int) - 1, innerB p j dg sb, a6, m6, c6, by omega, rfl, by go_num, rfl, hO6.lower (by have : w5.drew.heap.size = w5.heap.size := rfl; omega), hm6, by rw [← hm6.out]; exact HIN.out, hJ7, hI7, by omega, hch6, hds6⟩
      case measure => simp [intOf]
end
/-! The walks of package proof: rootOf. -/
section
open Go.RowKit
set_option maxRecDepth 100000

/-- from a proof's end up to the root -/
def upF (x : Nat) (p : List UInt8) : Nat → List (List UInt8) → List UInt8 → List UInt8
  | _, [], d => d
  | m, s :: ss, d => shortB x (innerB p m (upF x p (m + 1) ss d) s)
def rootB (x : Nat) (p : List UInt8) (b : Bool) (v : List UInt8) (X : Pf) : List UInt8 := upF x p 0 X.sibs (shortB x (startB p b v X))
theorem upF_snoc (x : Nat) (p : List UInt8) : ∀ (l : List (List UInt8)) (m : Nat) (s d : List UInt8), upF x p m (l ++ [s]) d = upF x p m l (shortB x (innerB p (m + l.length) d s))
  | [], m, s, d => by simp [upF]
  | t :: l, m, s, d => by
    rw [List.cons_append, upF, upF_snoc x p l (m + 1) s d, upF, List.length_cons, show m + 1 + l.length = m + (l.length + 1) by omega]
/-- the last that is yielded -/
def lastD (l : List Yl) : List UInt8 := (l.getLast?.map Yl.d).getD zero32
theorem lastD_snoc (l : List Yl) (y : Yl) : lastD (l ++ [y]) = y.d := by simp [lastD]
theorem chF_ne (x : Nat) (p : List UInt8) (sibs : List (List UInt8)) : ∀ k b, chF x p sibs k b ≠ []
  | 0, _ => by simp [chF]
  | _ + 1, _ => by simp [chF]
theorem chF_last (x : Nat) (p : List UInt8) (sibs : List (List UInt8)) : ∀ (k : Nat) (b : List UInt8) (l : List (List UInt8)) (z : List UInt8), k ≤ sibs.length → chF x p sibs k b = l ++ [z] → shortB x z = upF x p 0 (sibs.take k) (shortB x b)
  | 0, b, l, z, _, h => by
    have hz : z = b := by
      have := congrArg List.getLast? h
      simpa [chF] using this.symm
    rw [hz]; simp [upF]
  | k + 1, b, l, z, hk, h => by
    have ht : sibs.take (k + 1) = sibs.take k ++ [sibs.getD k []] := by
      rw [List.take_add_one]
      simp [List.getD, show k < sibs.length by omega]
    rw [ht, upF_snoc, List.length_take, Nat.min_eq_left (by omega), Nat.zero_add]
    cases l with
    | nil =>
      simp [chF] at h
      exact absurd h.2 (chF_ne x p sibs k _)
    | cons y l =>
      simp only [chF, List.cons_append, List.cons.injEq] at h
      exact chF_last x p sibs k _ l z (by omega) h.2
theorem lastD_root {x : Nat} {p : List UInt8} {X : Pf} {n : Nat} (hn : X.sibs.length = n) {q0 : List UInt8} {xs : List Yl} (h1 : xs.map Yl.q = chF x p X.sibs n q0) (h2 : ∀ y ∈ xs, y.d = shortB x y.q) : lastD xs = upF x p 0 X.sibs (shortB x q0) := by
  rcases List.eq_nil_or_concat xs with rfl | ⟨l, y, rfl⟩
  · exact absurd h1.symm (chF_ne x p _ _ _)
  · rw [List.concat_eq_append] at h1 h2 ⊢
    rw [lastD_snoc, h2 y (by simp)]
    have := chF_last x p X.sibs n q0 (l.map Yl.q) y.q (by omega) (by rw [← h1]; simp)
    rw [this, List.take_of_length_le (by omega)]

theorem rootB_len {x : Nat} (hx : x ≤ 32) {p : List UInt8} {b : Bool} {v : List UInt8} {X : Pf} : (rootB x p b v X).length = 32 := by
  unfold rootB
  cases X.sibs with
  | nil => exact shortB_length _ _ hx
  | cons s l => exact shortB_length _ _ hx
/-- what rootOf's loop carries -/
structure RtI (w W : World) (d : List UInt8) : Prop where
  bel : Below w.heap.size w W
  res : Blk W (w.heap.size + 1 + 1 + 1) 23 (bs zero32)
  root : Blk W (w.heap.size + 1 + 1 + 1 + 1) 23 (bs d)
theorem RtI.obj {w W W' : World} {d : List UInt8} (h : RtI w W d) {row : Option Nat} (hg : W.grownBy W' row) (hr : ∀ k, row = some k → w.heap.size ≤ k ∧ ∃ o : Obj, W.heap[k]? = some o ∧ o.isCells = false) : RtI w W' d := by
  have key : ∀ {g t vs}, Blk W g t vs → row ≠ some g := fun {g t vs} hb e => by
    obtain ⟨_, o, ho, hc⟩ := hr g e
    rw [hb.at_] at ho
    cases ho
    simp [Obj.isCells] at hc
  exact ⟨h.bel.grown hg h.bel.size (fun k e => (hr k e).1), h.res.grown hg (key h.res), h.root.grown hg (key h.root)⟩

set_option maxHeartbeats 4000000 in
theorem rootOf_any (w : World) (x : Nat) (hx : x ≤ 32) (p : List UInt8) (hp : p.length = 32) (b : Bool) (v : List UInt8) (hv : v.length = 32) (a : Option Addr) (n c : Nat) (X : Pf) (hr : RdP6 w a n c X) (hn : n ≤ 256) (hT : Tab w 1) :
    Calls Tryd.prog 21 #[.int .i64 (x : Int), .agg (bs p).toArray, .agg (clc b v).toArray, .agg (pc a n c X).toArray] w fun e w' => e = .returned (.agg (bs (rootB x p b v X)).toArray) ∧ Below w.heap.size w w' := by
  refine callsIn_wide.1 (?_ : CallsIn Fence.wide 6 _ _ _ _ _)
  have hS := Bx3.start w w (Below.refl _ w) p b v (pc a n c X)
  have r1 := hS.p.allR
  have r2 := hS.c.allR
  have r3 := hS.x.allR
  have hB := hS.bel
  have hz0 : (((w.alloc (.cells (bs p).toArray 23)).alloc (.cells (clc b v).toArray 25)).alloc (.cells (pc a n c X).toArray 28)).heap.size = w.heap.size + 1 + 1 + 1 := by simp
  have h5 := Lib.hid (digP hp)
  have h6 := Lib.hid (infoClc (b := b) hv)
  have h7 := Lib.hid (size_of (a := a) (n := n) (c := c) hr.ok)
  have hlen := Lib.hid hr.sib.len
  have HROOT : Hid (rootB x p b v X = upF x p 0 X.sibs (shortB x (startB p b v X))) := Lib.hid rfl
  have HRL : Hid ((rootB x p b v X).length = 32) := Lib.hid (rootB_len hx)
  have CH := Lib.hid (fun W : World => chain_any W x p b v a n c X)
  have CT := Lib.hid (fun (W : World) (s : Nat) (U : Nat → Prop) (T : TypeId → Prop) (hU : ∀ k, W.heap.size ≤ k → ¬ U k) (hA : Apart s U T) (hN : w.heap.size ≤ W.heap.size) (hI : ItAt w W s x p (clc b v) (pc a n c X)) => chain_tells w W s x hx p hp b v hv a n c X hr hn hT U T hU hA hN hI)
  clear hS hr hn hT hp hv hx
  generalize hC : clc b v = C at *
  generalize hP : pc a n c X = P at *
  generalize hw0 : ((w.alloc (.cells (bs p).toArray 23)).alloc (.cells C.toArray 25)).alloc (.cells P.toArray 28) = w0 at *
  clear hC hP
  refine callsIn_of_wp_marks Tryd.func21 rfl trivial ?_ rfl
  simp only [Tryd.ntmps21, List.size_toArray, List.length_cons, List.length_nil, Nat.reduceAdd, Nat.reduceSub, Array.replicate_succ, Array.replicate_zero, List.push_toArray, List.append_toArray, List.nil_append, List.cons_append]
  have hf1 : Fence.wide.fn 41 := trivial
  gi_wp2_with (first
    | ((with_reducible refine wpListIn_allocB (o := ⟨some 8, _, _, _, _, _⟩) ?_ 23 ?_ zeroD_info ?_); rfl; rfl; intro w1 hb1 hg1 hz1; rw [hz0] at hb1 hz1)
    | ((with_reducible refine wpListIn_allocB (o := ⟨some 9, _, _, _, _, _⟩) ?_ 23 ?_ zeroD_info ?_); rfl; rfl; intro w2 hb2 hg2 hz2; rw [hz1] at hb2 hz2;
        have hB01 : Below w0.heap.size w0 w1 := (Below.refl _ w0).grown hg1 (Nat.le_refl _) (fun k e => by cases e);
        have hB12 : Below w1.heap.size w1 w2 := (Below.refl _ w1).grown hg2 (Nat.le_refl _) (fun k e => by cases e);
        have hB02 := Bt hB01 hB12; have hBw := Bt hB hB02; have q1 := range_below hB02 r1; have q2 := range_below hB02 r2; have q3 := range_below hB02 r3; have k1 := hb1.below hB12)
    | ((with_reducible refine wpListIn_loadP (o := ⟨some 13, _, _, _, _, _⟩) ?_ w.heap.size 0 23 (.tmp 5) ?_ ?_ q1 Tryd.underlying23 ?_ h5.out ?_); rfl; rfl; rfl; rfl)
    | ((with_reducible refine wpListIn_loadP (o := ⟨some 14, _, _, _, _, _⟩) ?_ (w.heap.size + 1) 0 25 (.tmp 6) ?_ ?_ q2 Tryd.underlying25 ?_ h6.out ?_); rfl; rfl; rfl; rfl)
    | ((with_reducible refine wpListIn_loadP (o := ⟨some 15, _, _, _, _, _⟩) ?_ (w.heap.size + 2) 0 28 (.tmp 7) ?_ ?_ q3 Tryd.underlying28 ?_ h7.out ?_); rfl; rfl; rfl; rfl)
    | (gi_at_call 41; refine (callsIn_wide.2 (CH.out _)).mono ?_; rintro e w3 ⟨rfl, hI3, hB3, hz3⟩))
  have hBw3 := Bt hBw hB3
  have hI4 : ItAt w w3 w2.heap.size x p C P := ⟨Lies.of_below hBw3, hI3.wd, hI3.p, hI3.c, hI3.x⟩
  rw [hz2] at hI4
  have hRt : RtI w w3 zero32 := ⟨hBw3, k1.below hB3, hb2.below hB3⟩
  have hseq := CT.out w3 (w.heap.size + 1 + 1 + 1 + 1 + 1) (fun k => k = w.heap.size + 1 + 1 + 1 + 1) (fun _ => False) (fun k hk e => by subst e; omega) ⟨by omega, by omega, by omega, by omega, id, id, id, id⟩ hBw3.size hI4
  have hz3w : w.heap.size + 9 = w3.heap.size := by omega
  clear CT CH q1 q2 q3 k1 hI3 hI4 hB3 hb1 hb2 hg1 hg2 hB01 hB12 hB02 hBw r1 r2 r3 hw0 hB
  refine wpIn_told rfl (by omega) (gf := 63) rfl trivial (enters_of Tryd.func63 (by kernel_rfl) rfl) hseq (fun _ => rfl) Stay.trans (fun W r' h r'' => h.loop' r'')
    (fun pre W => RtI w W (lastD pre) ∧ (lastD pre).length = 32) (fun pre W W' row h hg hr => ⟨h.1.obj hg (fun k e => ⟨by have := (hr k e).1; omega, (hr k e).2⟩), h.2⟩) ⟨hRt, zero32_length⟩
    (fun pre y a W => ∃ g, a = { tmps := #[.int .i64 (x : Int), .agg (bs p).toArray, .agg C.toArray, .agg P.toArray, undef, .pointer (some ⟨w.heap.size, 0, none⟩), .pointer (some ⟨w.heap.size + 1, 0, none⟩), .pointer (some ⟨w.heap.size + 1 + 1, 0, none⟩), .pointer (some ⟨w.heap.size + 1 + 1 + 1, 0, none⟩), .pointer (some ⟨w.heap.size + 1 + 1 + 1 + 1, 0, none⟩), undef, .pointer (some ⟨g, 0, none⟩), .int .i64 (x : Int), .agg (bs p).toArray, .agg C.toArray, .agg P.toArray, .func (.func 63) #[] #[.pointer (some ⟨w.heap.size + 1 + 1 + 1 + 1 + 1 + 1, 0, none⟩), .pointer (some ⟨w.heap.size + 1 + 1 + 1 + 1 + 1 + 2, 0, none⟩), .pointer (some ⟨w.heap.size + 1 + 1 + 1 + 1 + 1 + 3, 0, none⟩), .pointer (some ⟨w.heap.size + 1 + 1 + 1 + 1 + 1, 0, none⟩)], .slice y.a y.m y.c, .agg (bs y.d).toArray, undef, undef], defers := [] } ∧ (RtI w W (lastD pre) ∧ (lastD pre).length = 32) ∧ Blk W g 23 (bs y.d) ∧ w.heap.size + 1 + 1 + 1 + 1 < g ∧ y.d.length = 32) ?_ ?_ ?_ ?_
  · rintro pre y a W r' hL r'' ⟨g, h1, h2, h3, h4⟩
    exact ⟨g, h1, ⟨h2.1.obj (grownBy_putObj' W _ _) (fun k e => by cases e; exact ⟨by omega, _, hL.loo, rfl⟩), h2.2⟩, h3.grown (grownBy_putObj' W _ _) (fun e => by injection e with e; rw [← e] at h3; have := h3.at_; rw [hL.loo] at this; cases this), h4⟩
  · rintro l pre y W ⟨hR, hln⟩ hN -
    have hyl := hN.dl
    have h8 := Lib.hid (digP hyl)
    have h9 := bs_one y.d
    have h10 := Lib.hid (show (bs zero32).length = (bs y.d).length by rw [bs_length, bs_length, hyl, zero32_length])
    simp [yenc]
    gi_wp2_with (first
      | ((with_reducible refine wpListIn_allocB (o := ⟨some 11, _, _, _, _, _⟩) ?_ 23 ?_ zeroD_info ?_); rfl; rfl; intro w4 hb4 hg4 hz4)
      | ((with_reducible refine wpListIn_storeB (o := ⟨none, .store 23 (.tmp 11) (.tmp 18), _, _, _, _⟩) ?_ 23 (.tmp 11) (.tmp 18) ?_ ?_ ?_ hb4 h8.out h10.out h9 ?_); rfl; rfl; rfl; rfl; intro w5 hb5 hg5 hz5))
    have hg45 := grown2 hg4 hg5 (fun k e => .inl (by cases e; exact Nat.le_refl _))
    have hs := hR.bel.size
    refine ⟨KeepsOthers.of_grownBy hg45 (fun j o e => by cases e), stay_new hg45, W.heap.size, rfl, ⟨hR.obj hg45 (fun k e => by cases e), hln⟩, hb5, ?_, hyl⟩
    have := hR.root.lt
    omega
  · rintro l pre y a W ⟨g, rfl, ⟨hR, hln⟩, hb, hgt, hyl⟩
    have h8 := Lib.hid (digP hyl)
    have h9 := bs_one y.d
    have rg := hb.allR
    have hro := hR.root
    have h10 := Lib.hid (show (bs (lastD pre)).length = (bs y.d).length by rw [bs_length, bs_length, hyl, hln])
    gi_wp2_with (first
      | ((with_reducible refine wpListIn_loadP (o := ⟨some 19, _, _, _, _, _⟩) ?_ g 0 23 (.tmp 11) ?_ ?_ rg Tryd.underlying23 ?_ h8.out ?_); rfl; rfl; rfl; rfl)
      | ((with_reducible refine wpListIn_storeB (o := ⟨none, .store 23 (.tmp 9) (.tmp 19), _, _, _, _⟩) ?_ 23 (.tmp 9) (.tmp 19) ?_ ?_ ?_ hro h8.out h10.out h9 ?_); rfl; rfl; rfl; rfl; intro w5 hb5 hg5 hz5))
    refine ⟨rfl, KeepsOthers.of_grownBy hg5 (fun j o e ho => ?_), stay_turn hg5 (by omega) (.inl rfl), ?_⟩
    · cases e
      rw [hro.at_] at ho
      cases ho
      rfl
    · simp only [lastD_snoc]
      refine ⟨?_, hyl⟩
      exact ⟨hR.bel.grown hg5 hR.bel.size (fun k e => by cases e; omega), hR.res.grown hg5 (fun e => by injection e with e; omega), hb5⟩
  · rintro xs W ⟨hq, hd⟩ ⟨hR, -⟩ hK
    rw [lastD_root hlen.out hq hd, ← HROOT.out] at hR
    have hrl := HRL.out
    have h8 := Lib.hid (digP hrl)
    have h9 := bs_one (rootB x p b v X)
    have h10 := Lib.hid (show (bs zero32).length = (bs (rootB x p b v X)).length by rw [bs_length, bs_length, hrl, zero32_length])
    have rg := hR.root.allR
    have hrs := hR.res
    obtain ⟨rt, hrt⟩ : ∃ rt, rootB x p b v X = rt := ⟨_, rfl⟩
    rw [hrt] at h8 h9 h10 rg
    have HRT := Lib.hid hrt
    clear hrt hrl HRL HROOT hd hq
    gi_wp2_with (first
      | ((with_reducible refine wpListIn_loadP (o := ⟨some 20, _, _, _, _, _⟩) ?_ (w.heap.size + 1 + 1 + 1 + 1) 0 23 (.tmp 9) ?_ ?_ rg Tryd.underlying23 ?_ h8.out ?_); rfl; rfl; rfl; rfl)
      | ((with_reducible refine wpListIn_storeB (o := ⟨none, .store 23 (.tmp 8) (.tmp 20), _, _, _, _⟩) ?_ 23 (.tmp 8) (.tmp 20) ?_ ?_ ?_ hrs h8.out h10.out h9 ?_); rfl; rfl; rfl; rfl; intro w5 hb5 hg5 hz5))
    have hK5 := (hg5.block w3.heap.size (lt_of_block hK) (fun e => by injection e with e; omega)).trans hK
    have hBw5 := hR.bel.grown hg5 hR.bel.size (fun k e => by cases e; omega)
    refine ⟨by simp, .inl ⟨_, _, rfl, run_takeDeferred hK5, ?_⟩⟩
    have hg6 := grownBy_putObj' w5 w3.heap.size (.deferred none)
    refine ⟨_, results_blk rfl _ _ _ _ _ _ rfl (hb5.grown hg6 (fun e => by injection e with e; omega)) Tryd.underlying23 rfl h8.out, by rw [HRT.out], ?_⟩
    exact hBw5.grown hg6 hBw5.size (fun k e => by cases e; omega)
end
/-! The walks of package proof: suits. -/
section
open Go.RowKit
set_option maxRecDepth 100000

/-- is a proof one for a path and a claim? -/
def suitsB (p : List UInt8) (b : Bool) (X : Pf) : Bool := formB X && (!X.other || (!b && (X.op != p && decide (X.sibs.length ≤ comm X.op p))))
theorem suitsB_few {p : List UInt8} {b : Bool} {X : Pf} (h : suitsB p b X = true) : X.sibs.length ≤ 256 := by
  simp [suitsB, formB] at h
  exact h.1.1

theorem neqRun (d e : List UInt8) (hd : d.length = 32) (he : e.length = 32) {v : Bool} (hv : (d != e) = v) : ∀ W : World, (binOp .neq 23 (.agg (bs d).toArray) (.agg (bs e).toArray)).run Tryd.prog W = .ok (.bool v) W := fun W => by
  rw [neqD W d e hd he, ← hv]; rfl

set_option maxHeartbeats 4000000 in
theorem suits_any (w : World) (p : List UInt8) (hp : p.length = 32) (b : Bool) (v : List UInt8) (a : Option Addr) (n c : Nat) (X : Pf) (hx : X.ok) (hn : X.sibs.length = n) :
    Calls Tryd.prog 20 #[.agg (bs p).toArray, .agg (clc b v).toArray, .agg (pc a n c X).toArray] w fun e w' => e = .returned (.bool (suitsB p b X)) ∧ Below w.heap.size w w' := by
  have hS := Bx3.start w w (Below.refl _ w) p b v (pc a n c X)
  have hB := hS.bel
  have r3 := hS.x.allR
  have c0 := hS.x1
  have rxp := hS.xp
  have HS := Lib.hid hS
  have h5 := Lib.hid (digP hp)
  have h6 := Lib.hid (digP hx.p)
  have h7 := Lib.hid (size_of (a := a) (n := n) (c := c) hx)
  have HF := Lib.hid (fun W : World => hasForm_any W a n c X hx hn)
  have HC := Lib.hid (fun W : World => common_any W X.op p hx.p hp)
  have HE : Hid (suitsB p b X = (formB X && (!X.other || (!b && (X.op != p && decide (n ≤ comm X.op p)))))) := Lib.hid (by rw [suitsB, hn])
  have HNE := Lib.hid (fun (v : Bool) (hv : (X.op != p) = v) => neqRun X.op p hx.p hp hv)
  have HL0 : Hid ((pc a n c X)[0]? = some (.slice a n c)) := Lib.hid rfl
  clear hS hp hx hn
  generalize hS0 : ((w.alloc (.cells (bs p).toArray 23)).alloc (.cells (clc b v).toArray 25)).alloc (.cells (pc a n c X).toArray 28) = w0 at *
  generalize hFB : formB X = fb at *
  generalize hOT : X.other = ot at *
  generalize comm X.op p = cm at *
  generalize suitsB p b X = R at *
  go_enter Tryd.func20, Tryd.ntmps20
  generalize hP : pc a n c X = P at *
  go_wp2_with ((with_reducible refine wpList_loadP (o := ⟨some 7, _, _, _, _, _⟩) ?_ (w.heap.size + 2) 0 28 (.tmp 5) ?_ ?_ r3 Tryd.underlying28 ?_ h7.out ?_); rfl; rfl; rfl; rfl)
  refine (HF.out _).mono ?_
  rintro e w1 ⟨rfl, hB1⟩
  have hBw := Bt hB hB1
  have c1 := cell_later hB1 c0
  have HS1 := Lib.hid (HS.out.below hB1)
  have HX1 := Lib.hid (range_below hB1 rxp)
  clear r3 c0 hB hB1 HF rxp
  cases fb with
  | false =>
    go_wp2_with fail
    go_ret
    exact ⟨by rw [HE.out]; rfl, hBw⟩
  | true =>
    cases ot with
    | false =>
      go_wp2_with fail
      go_ret
      exact ⟨by rw [HE.out]; rfl, hBw⟩
    | true =>
      have hp0 := Lib.hid HS1.out.c0
      cases b with
      | true =>
        go_wp2_with fail
        -- REGION suitsA 8
        refine wp_region_held_drew (S := fun W => Below w1.heap.size w1 W) (by kernel_rfl) (Below.refl _ w1).drew (fun hHeld => ?_)
        refine wpAnyH_take (i := 0) (oi := ⟨some 13, .fieldAddr 25 (.tmp 4) 0, _, _, _, none⟩) (v := ?_) rfl (by kernel_rfl) (by kernel_rfl) (by kernel_rfl) (fun _ _ _ h => h) (Or.inl ⟨by rfl, ?_⟩) hHeld ?_
        rotate_left
        · intro W _; go_simp; try with_reducible rfl
        try simp only [Act.put, List.setIfInBounds_toArray, List.set_cons_zero, List.set_cons_succ]
        refine wpAnyH_take (i := 1) (oi := ⟨some 14, .load 4 (.tmp 13), _, _, _, none⟩) (v := ?_) rfl (by kernel_rfl) (by kernel_rfl) (by kernel_rfl) (fun _ _ _ h => h) (Or.inl ⟨by rfl, ?_⟩) hHeld ?_
        rotate_left
        · intro W h; have h0 := ((HS1.out.below h)).c0; go_simp; try with_reducible rfl
        try simp only [Act.put, List.setIfInBounds_toArray, List.set_cons_zero, List.set_cons_succ]
        refine wpAnyH_take (i := 2) (oi := ⟨some 15, .unOp .not 4 (.tmp 14), _, _, _, none⟩) (v := ?_) rfl (by kernel_rfl) (by kernel_rfl) (by kernel_rfl) (fun _ _ _ h => h) (Or.inl ⟨by rfl, ?_⟩) hHeld ?_
        rotate_left
        · intro W _; go_simp; try with_reducible rfl
        try simp only [Act.put, List.setIfInBounds_toArray, List.set_cons_zero, List.set_cons_succ]
        refine wpAnyH_take (i := 3) (oi := ⟨some 16, .move (.tmp 15), _, _, _, none⟩) (v := ?_) rfl (by kernel_rfl) (by kernel_rfl) (by kernel_rfl) (fun _ _ _ h => h) (Or.inl ⟨by rfl, ?_⟩) hHeld ?_
        rotate_left
        · intro W _; go_simp; try with_reducible rfl
        try simp only [Act.put, List.setIfInBounds_toArray, List.set_cons_zero, List.set_cons_succ]
        refine wpAnyH_take (i := 4) (oi := ⟨some 17, .fieldAddr 28 (.tmp 5) 2, _, _, _, some (3, true)⟩) (v := undef) rfl (by kernel_rfl) (by kernel_rfl) (by kernel_rfl) (fun _ _ _ h => h) (Or.inr ⟨by rfl, rfl⟩) hHeld ?_
        try simp only [Act.put, List.setIfInBounds_toArray, List.set_cons_zero, List.set_cons_succ]
        refine wpAnyH_take (i := 5) (oi := ⟨some 18, .load 23 (.tmp 17), _, _, _, some (3, true)⟩) (v := undef) rfl (by kernel_rfl) (by kernel_rfl) (by kernel_rfl) (fun _ _ _ h => h) (Or.inr ⟨by rfl, rfl⟩) hHeld ?_
        try simp only [Act.put, List.setIfInBounds_toArray, List.set_cons_zero, List.set_cons_succ]
        refine wpAnyH_take (i := 6) (oi := ⟨some 19, .load 23 (.tmp 3), _, _, _, some (3, true)⟩) (v := undef) rfl (by kernel_rfl) (by kernel_rfl) (by kernel_rfl) (fun _ _ _ h => h) (Or.inr ⟨by rfl, rfl⟩) hHeld ?_
        try simp only [Act.put, List.setIfInBounds_toArray, List.set_cons_zero, List.set_cons_succ]
        refine wpAnyH_take (i := 7) (oi := ⟨some 20, .binOp .neq 23 (.tmp 18) (.tmp 19) 23, _, _, _, some (3, true)⟩) (v := undef) rfl (by kernel_rfl) (by kernel_rfl) (by kernel_rfl) (fun _ _ _ h => h) (Or.inr ⟨by rfl, rfl⟩) hHeld ?_
        try simp only [Act.put, List.setIfInBounds_toArray, List.set_cons_zero, List.set_cons_succ]
        refine wpAnyH_take (i := 8) (oi := ⟨some 21, .pick (.tmp 16) (.tmp 20) (.const (.bool false)), _, _, _, none⟩) (v := ?_) rfl (by kernel_rfl) (by kernel_rfl) (by kernel_rfl) (fun _ _ _ h => h) (Or.inl ⟨by rfl, ?_⟩) hHeld ?_
        rotate_left
        · intro W _; go_simp; try with_reducible rfl
        try simp only [Act.put, List.setIfInBounds_toArray, List.set_cons_zero, List.set_cons_succ]
        refine wpAnyH_take (i := 9) (oi := ⟨some 22, .move (.tmp 21), _, _, _, none⟩) (v := ?_) rfl (by kernel_rfl) (by kernel_rfl) (by kernel_rfl) (fun _ _ _ h => h) (Or.inl ⟨by rfl, ?_⟩) hHeld ?_
        rotate_left
        · intro W _; go_simp; try with_reducible rfl
        try simp only [Act.put, List.setIfInBounds_toArray, List.set_cons_zero, List.set_cons_succ]
        refine wpAnyH_take (i := 10) (oi := ⟨some 23, .fieldAddr 28 (.tmp 5) 2, _, _, _, some (9, true)⟩) (v := undef) rfl (by kernel_rfl) (by kernel_rfl) (by kernel_rfl) (fun _ _ _ h => h) (Or.inr ⟨by rfl, rfl⟩) hHeld ?_
        try simp only [Act.put, List.setIfInBounds_toArray, List.set_cons_zero, List.set_cons_succ]
        refine wpAnyH_take (i := 11) (oi := ⟨some 24, .load 23 (.tmp 23), _, _, _, some (9, true)⟩) (v := undef) rfl (by kernel_rfl) (by kernel_rfl) (by kernel_rfl) (fun _ _ _ h => h) (Or.inr ⟨by rfl, rfl⟩) hHeld ?_
        try simp only [Act.put, List.setIfInBounds_toArray, List.set_cons_zero, List.set_cons_succ]
        refine wpAnyH_take (i := 12) (oi := ⟨some 25, .load 23 (.tmp 3), _, _, _, some (9, true)⟩) (v := undef) rfl (by kernel_rfl) (by kernel_rfl) (by kernel_rfl) (fun _ _ _ h => h) (Or.inr ⟨by rfl, rfl⟩) hHeld ?_
        try simp only [Act.put, List.setIfInBounds_toArray, List.set_cons_zero, List.set_cons_succ]
        refine wpAnyH_take (i := 14) (oi := ⟨some 27, .fieldAddr 28 (.tmp 5) 0, _, _, _, some (9, true)⟩) (v := undef) rfl (by kernel_rfl) (by kernel_rfl) (by kernel_rfl) (fun _ _ _ h => h) (Or.inr ⟨by rfl, rfl⟩) hHeld ?_
        try simp only [Act.put, List.setIfInBounds_toArray, List.set_cons_zero, List.set_cons_succ]
        refine wpAnyH_take (i := 15) (oi := ⟨some 28, .load 26 (.tmp 27), _, _, _, some (9, true)⟩) (v := undef) rfl (by kernel_rfl) (by kernel_rfl) (by kernel_rfl) (fun _ _ _ h => h) (Or.inr ⟨by rfl, rfl⟩) hHeld ?_
        try simp only [Act.put, List.setIfInBounds_toArray, List.set_cons_zero, List.set_cons_succ]
        refine wpAnyH_take (i := 16) (oi := ⟨some 29, .call { callee := .builtin .len, args := #[.tmp 28], argTypes := #[26] }, _, _, _, some (9, true)⟩) (v := undef) rfl (by kernel_rfl) (by kernel_rfl) (by kernel_rfl) (fun _ _ _ h => h) (Or.inr ⟨by rfl, rfl⟩) hHeld ?_
        try simp only [Act.put, List.setIfInBounds_toArray, List.set_cons_zero, List.set_cons_succ]
        refine wpAnyH_ready (rs := [13]) (by kernel_rfl) (by simp) ?_
        refine AllReadyH.cons (o := ⟨some 26, .call { callee := .value (.func 18), args := #[.tmp 24, .tmp 25], argTypes := #[23, 23] }, _, _, _, some (9, true)⟩) rfl (fun K hK => ?_) AllReadyH.nil
        refine step_skipR (by rfl) ?_
        refine hK.out _ _ (hHeld) (fun hHeld => ?_)
        clear hK K
        try simp only [Act.put, List.setIfInBounds_toArray, List.set_cons_zero, List.set_cons_succ]
        refine wpAnyH_take (i := 17) (oi := ⟨some 30, .binOp .geq 3 (.tmp 26) (.tmp 29) 3, _, _, _, some (9, true)⟩) (v := undef) rfl (by kernel_rfl) (by kernel_rfl) (by kernel_rfl) (fun _ _ _ h => h) (Or.inr ⟨by rfl, rfl⟩) hHeld ?_
        try simp only [Act.put, List.setIfInBounds_toArray, List.set_cons_zero, List.set_cons_succ]
        refine wpAnyH_take (i := 18) (oi := ⟨some 31, .pick (.tmp 22) (.tmp 30) (.const (.bool false)), _, _, _, none⟩) (v := ?_) rfl (by kernel_rfl) (by kernel_rfl) (by kernel_rfl) (fun _ _ _ h => h) (Or.inl ⟨by rfl, ?_⟩) hHeld ?_
        rotate_left
        · intro W _; go_simp; try with_reducible rfl
        try simp only [Act.put, List.setIfInBounds_toArray, List.set_cons_zero, List.set_cons_succ]
        refine wpAnyH_ready (rs := [19]) (by kernel_rfl) (by simp) ?_
        refine AllReadyH.cons (o := ⟨some 6, .assign (.tmp 31), _, _, _, none⟩) rfl (fun K hK => ?_) AllReadyH.nil
        refine step_ofR (by rfl) ?_
        go_simp
        refine hK.out _ _ (hHeld) (fun hHeld => ?_)
        clear hK K
        try simp only [Act.put, List.setIfInBounds_toArray, List.set_cons_zero, List.set_cons_succ]
        refine wpAnyH_done (by kernel_rfl) ?_ _
        -- END suitsA
        go_wp2_with fail
        go_ret
        exact ⟨by rw [HE.out]; rfl, hBw.trans (hHeld.mono hBw.size)⟩
      | false =>
        cases hne : (X.op != p) with
        | false =>
          have E1 := Lib.hid (HNE.out false hne)
          have HE2 : Hid (R = false) := Lib.hid (by rw [HE.out, hne]; rfl)
          go_wp2_with fail
          -- REGION suitsB 10
          refine wp_region_held_drew (S := fun W => Below w1.heap.size w1 W) (by kernel_rfl) (Below.refl _ w1).drew (fun hHeld => ?_)
          refine wpAnyH_take (i := 0) (oi := ⟨some 13, .fieldAddr 25 (.tmp 4) 0, _, _, _, none⟩) (v := ?_) rfl (by kernel_rfl) (by kernel_rfl) (by kernel_rfl) (fun _ _ _ h => h) (Or.inl ⟨by rfl, ?_⟩) hHeld ?_
          rotate_left
          · intro W _; go_simp; try with_reducible rfl
          try simp only [Act.put, List.setIfInBounds_toArray, List.set_cons_zero, List.set_cons_succ]
          refine wpAnyH_take (i := 1) (oi := ⟨some 14, .load 4 (.tmp 13), _, _, _, none⟩) (v := ?_) rfl (by kernel_rfl) (by kernel_rfl) (by kernel_rfl) (fun _ _ _ h => h) (Or.inl ⟨by rfl, ?_⟩) hHeld ?_
          rotate_left
          · intro W h; have h0 := ((HS1.out.below h)).c0; go_simp; try with_reducible rfl
          try simp only [Act.put, List.setIfInBounds_toArray, List.set_cons_zero, List.set_cons_succ]
          refine wpAnyH_take (i := 2) (oi := ⟨some 15, .unOp .not 4 (.tmp 14), _, _, _, none⟩) (v := ?_) rfl (by kernel_rfl) (by kernel_rfl) (by kernel_rfl) (fun _ _ _ h => h) (Or.inl ⟨by rfl, ?_⟩) hHeld ?_
          rotate_left
          · intro W _; go_simp; try with_reducible rfl
          try simp only [Act.put, List.setIfInBounds_toArray, List.set_cons_zero, List.set_cons_succ]
          refine wpAnyH_take (i := 3) (oi := ⟨some 16, .move (.tmp 15), _, _, _, none⟩) (v := ?_) rfl (by kernel_rfl) (by kernel_rfl) (by kernel_rfl) (fun _ _ _ h => h) (Or.inl ⟨by rfl, ?_⟩) hHeld ?_
          rotate_left
          · intro W _; go_simp; try with_reducible rfl
          try simp only [Act.put, List.setIfInBounds_toArray, List.set_cons_zero, List.set_cons_succ]
          refine wpAnyH_take (i := 4) (oi := ⟨some 17, .fieldAddr 28 (.tmp 5) 2, _, _, _, some (3, true)⟩) (v := ?_) rfl (by kernel_rfl) (by kernel_rfl) (by kernel_rfl) (fun _ _ _ h => h) (Or.inl ⟨by rfl, ?_⟩) hHeld ?_
          rotate_left
          · intro W _; go_simp; try with_reducible rfl
          try simp only [Act.put, List.setIfInBounds_toArray, List.set_cons_zero, List.set_cons_succ]
          refine wpAnyH_take (i := 5) (oi := ⟨some 18, .load 23 (.tmp 17), _, _, _, some (3, true)⟩) (v := .agg (bs X.op).toArray) rfl (by kernel_rfl) (by kernel_rfl) (by kernel_rfl) (fun _ _ _ h => h) (yieldsIf_load_mid (by rfl) _ _ rfl (w.heap.size + 2) 2 rfl (bs X.op) _ (fun W h => (range_below h HX1.out)) Tryd.underlying23 rfl h6.out) hHeld ?_
          try simp only [Act.put, List.setIfInBounds_toArray, List.set_cons_zero, List.set_cons_succ]
          refine wpAnyH_take (i := 6) (oi := ⟨some 19, .load 23 (.tmp 3), _, _, _, some (3, true)⟩) (v := .agg (bs p).toArray) rfl (by kernel_rfl) (by kernel_rfl) (by kernel_rfl) (fun _ _ _ h => h) (yieldsIf_load_mid (by rfl) _ _ rfl w.heap.size 0 rfl (bs p) _ (fun W h => ((HS1.out.below h)).pr) Tryd.underlying23 rfl h5.out) hHeld ?_
          try simp only [Act.put, List.setIfInBounds_toArray, List.set_cons_zero, List.set_cons_succ]
          refine wpAnyH_take (i := 7) (oi := ⟨some 20, .binOp .neq 23 (.tmp 18) (.tmp 19) 23, _, _, _, some (3, true)⟩) (v := .bool false) rfl (by kernel_rfl) (by kernel_rfl) (by kernel_rfl) (fun _ _ _ h => h) (yieldsIf_eqH (by rfl) .neq 23 23 (.tmp 18) (.tmp 19) rfl _ _ rfl rfl guardH _ E1.out) hHeld ?_
          try simp only [Act.put, List.setIfInBounds_toArray, List.set_cons_zero, List.set_cons_succ]
          refine wpAnyH_take (i := 8) (oi := ⟨some 21, .pick (.tmp 16) (.tmp 20) (.const (.bool false)), _, _, _, none⟩) (v := ?_) rfl (by kernel_rfl) (by kernel_rfl) (by kernel_rfl) (fun _ _ _ h => h) (Or.inl ⟨by rfl, ?_⟩) hHeld ?_
          rotate_left
          · intro W _; go_simp; try with_reducible rfl
          try simp only [Act.put, List.setIfInBounds_toArray, List.set_cons_zero, List.set_cons_succ]
          refine wpAnyH_take (i := 9) (oi := ⟨some 22, .move (.tmp 21), _, _, _, none⟩) (v := ?_) rfl (by kernel_rfl) (by kernel_rfl) (by kernel_rfl) (fun _ _ _ h => h) (Or.inl ⟨by rfl, ?_⟩) hHeld ?_
          rotate_left
          · intro W _; go_simp; try with_reducible rfl
          try simp only [Act.put, List.setIfInBounds_toArray, List.set_cons_zero, List.set_cons_succ]
          refine wpAnyH_take (i := 10) (oi := ⟨some 23, .fieldAddr 28 (.tmp 5) 2, _, _, _, some (9, true)⟩) (v := undef) rfl (by kernel_rfl) (by kernel_rfl) (by kernel_rfl) (fun _ _ _ h => h) (Or.inr ⟨by rfl, rfl⟩) hHeld ?_
          try simp only [Act.put, List.setIfInBounds_toArray, List.set_cons_zero, List.set_cons_succ]
          refine wpAnyH_take (i := 11) (oi := ⟨some 24, .load 23 (.tmp 23), _, _, _, some (9, true)⟩) (v := undef) rfl (by kernel_rfl) (by kernel_rfl) (by kernel_rfl) (fun _ _ _ h => h) (Or.inr ⟨by rfl, rfl⟩) hHeld ?_
          try simp only [Act.put, List.setIfInBounds_toArray, List.set_cons_zero, List.set_cons_succ]
          refine wpAnyH_take (i := 12) (oi := ⟨some 25, .load 23 (.tmp 3), _, _, _, some (9, true)⟩) (v := undef) rfl (by kernel_rfl) (by kernel_rfl) (by kernel_rfl) (fun _ _ _ h => h) (Or.inr ⟨by rfl, rfl⟩) hHeld ?_
          try simp only [Act.put, List.setIfInBounds_toArray, List.set_cons_zero, List.set_cons_succ]
          refine wpAnyH_take (i := 14) (oi := ⟨some 27, .fieldAddr 28 (.tmp 5) 0, _, _, _, some (9, true)⟩) (v := undef) rfl (by kernel_rfl) (by kernel_rfl) (by kernel_rfl) (fun _ _ _ h => h) (Or.inr ⟨by rfl, rfl⟩) hHeld ?_
          try simp only [Act.put, List.setIfInBounds_toArray, List.set_cons_zero, List.set_cons_succ]
          refine wpAnyH_take (i := 15) (oi := ⟨some 28, .load 26 (.tmp 27), _, _, _, some (9, true)⟩) (v := undef) rfl (by kernel_rfl) (by kernel_rfl) (by kernel_rfl) (fun _ _ _ h => h) (Or.inr ⟨by rfl, rfl⟩) hHeld ?_
          try simp only [Act.put, List.setIfInBounds_toArray, List.set_cons_zero, List.set_cons_succ]
          refine wpAnyH_take (i := 16) (oi := ⟨some 29, .call { callee := .builtin .len, args := #[.tmp 28], argTypes := #[26] }, _, _, _, some (9, true)⟩) (v := undef) rfl (by kernel_rfl) (by kernel_rfl) (by kernel_rfl) (fun _ _ _ h => h) (Or.inr ⟨by rfl, rfl⟩) hHeld ?_
          try simp only [Act.put, List.setIfInBounds_toArray, List.set_cons_zero, List.set_cons_succ]
          refine wpAnyH_ready (rs := [13]) (by kernel_rfl) (by simp) ?_
          refine AllReadyH.cons (o := ⟨some 26, .call { callee := .value (.func 18), args := #[.tmp 24, .tmp 25], argTypes := #[23, 23] }, _, _, _, some (9, true)⟩) rfl (fun K hK => ?_) AllReadyH.nil
          refine step_skipR (by rfl) ?_
          refine hK.out _ _ (hHeld) (fun hHeld => ?_)
          clear hK K
          try simp only [Act.put, List.setIfInBounds_toArray, List.set_cons_zero, List.set_cons_succ]
          refine wpAnyH_take (i := 17) (oi := ⟨some 30, .binOp .geq 3 (.tmp 26) (.tmp 29) 3, _, _, _, some (9, true)⟩) (v := undef) rfl (by kernel_rfl) (by kernel_rfl) (by kernel_rfl) (fun _ _ _ h => h) (Or.inr ⟨by rfl, rfl⟩) hHeld ?_
          try simp only [Act.put, List.setIfInBounds_toArray, List.set_cons_zero, List.set_cons_succ]
          refine wpAnyH_take (i := 18) (oi := ⟨some 31, .pick (.tmp 22) (.tmp 30) (.const (.bool false)), _, _, _, none⟩) (v := ?_) rfl (by kernel_rfl) (by kernel_rfl) (by kernel_rfl) (fun _ _ _ h => h) (Or.inl ⟨by rfl, ?_⟩) hHeld ?_
          rotate_left
          · intro W _; go_simp; try with_reducible rfl
          try simp only [Act.put, List.setIfInBounds_toArray, List.set_cons_zero, List.set_cons_succ]
          refine wpAnyH_ready (rs := [19]) (by kernel_rfl) (by simp) ?_
          refine AllReadyH.cons (o := ⟨some 6, .assign (.tmp 31), _, _, _, none⟩) rfl (fun K hK => ?_) AllReadyH.nil
          refine step_ofR (by rfl) ?_
          go_simp
          refine hK.out _ _ (hHeld) (fun hHeld => ?_)
          clear hK K
          try simp only [Act.put, List.setIfInBounds_toArray, List.set_cons_zero, List.set_cons_succ]
          refine wpAnyH_done (by kernel_rfl) ?_ _
          -- END suitsB
          go_wp2_with fail
          go_ret
          exact ⟨by rw [HE2.out]; rfl, hBw.trans (hHeld.mono hBw.size)⟩
        | true =>
          have E1 := Lib.hid (HNE.out true hne)
          have hge : decide ((n : Int) ≤ (cm : Int)) = decide (n ≤ cm) := by simp
          have HE2 : Hid (R = decide (n ≤ cm)) := Lib.hid (by rw [HE.out, hne]; rfl)
          go_wp2_with fail
          -- REGION suitsC 10
          refine wp_region_held_drew (S := fun W => Below w1.heap.size w1 W) (by kernel_rfl) (Below.refl _ w1).drew (fun hHeld => ?_)
          refine wpAnyH_take (i := 0) (oi := ⟨some 13, .fieldAddr 25 (.tmp 4) 0, _, _, _, none⟩) (v := ?_) rfl (by kernel_rfl) (by kernel_rfl) (by kernel_rfl) (fun _ _ _ h => h) (Or.inl ⟨by rfl, ?_⟩) hHeld ?_
          rotate_left
          · intro W _; go_simp; try with_reducible rfl
          try simp only [Act.put, List.setIfInBounds_toArray, List.set_cons_zero, List.set_cons_succ]
          refine wpAnyH_take (i := 1) (oi := ⟨some 14, .load 4 (.tmp 13), _, _, _, none⟩) (v := ?_) rfl (by kernel_rfl) (by kernel_rfl) (by kernel_rfl) (fun _ _ _ h => h) (Or.inl ⟨by rfl, ?_⟩) hHeld ?_
          rotate_left
          · intro W h; have h0 := ((HS1.out.below h)).c0; go_simp; try with_reducible rfl
          try simp only [Act.put, List.setIfInBounds_toArray, List.set_cons_zero, List.set_cons_succ]
          refine wpAnyH_take (i := 2) (oi := ⟨some 15, .unOp .not 4 (.tmp 14), _, _, _, none⟩) (v := ?_) rfl (by kernel_rfl) (by kernel_rfl) (by kernel_rfl) (fun _ _ _ h => h) (Or.inl ⟨by rfl, ?_⟩) hHeld ?_
          rotate_left
          · intro W _; go_simp; try with_reducible rfl
          try simp only [Act.put, List.setIfInBounds_toArray, List.set_cons_zero, List.set_cons_succ]
          refine wpAnyH_take (i := 3) (oi := ⟨some 16, .move (.tmp 15), _, _, _, none⟩) (v := ?_) rfl (by kernel_rfl) (by kernel_rfl) (by kernel_rfl) (fun _ _ _ h => h) (Or.inl ⟨by rfl, ?_⟩) hHeld ?_
          rotate_left
          · intro W _; go_simp; try with_reducible rfl
          try simp only [Act.put, List.setIfInBounds_toArray, List.set_cons_zero, List.set_cons_succ]
          refine wpAnyH_take (i := 4) (oi := ⟨some 17, .fieldAddr 28 (.tmp 5) 2, _, _, _, some (3, true)⟩) (v := ?_) rfl (by kernel_rfl) (by kernel_rfl) (by kernel_rfl) (fun _ _ _ h => h) (Or.inl ⟨by rfl, ?_⟩) hHeld ?_
          rotate_left
          · intro W _; go_simp; try with_reducible rfl
          try simp only [Act.put, List.setIfInBounds_toArray, List.set_cons_zero, List.set_cons_succ]
          refine wpAnyH_take (i := 5) (oi := ⟨some 18, .load 23 (.tmp 17), _, _, _, some (3, true)⟩) (v := .agg (bs X.op).toArray) rfl (by kernel_rfl) (by kernel_rfl) (by kernel_rfl) (fun _ _ _ h => h) (yieldsIf_load_mid (by rfl) _ _ rfl (w.heap.size + 2) 2 rfl (bs X.op) _ (fun W h => (range_below h HX1.out)) Tryd.underlying23 rfl h6.out) hHeld ?_
          try simp only [Act.put, List.setIfInBounds_toArray, List.set_cons_zero, List.set_cons_succ]
          refine wpAnyH_take (i := 6) (oi := ⟨some 19, .load 23 (.tmp 3), _, _, _, some (3, true)⟩) (v := .agg (bs p).toArray) rfl (by kernel_rfl) (by kernel_rfl) (by kernel_rfl) (fun _ _ _ h => h) (yieldsIf_load_mid (by rfl) _ _ rfl w.heap.size 0 rfl (bs p) _ (fun W h => ((HS1.out.below h)).pr) Tryd.underlying23 rfl h5.out) hHeld ?_
          try simp only [Act.put, List.setIfInBounds_toArray, List.set_cons_zero, List.set_cons_succ]
          refine wpAnyH_take (i := 7) (oi := ⟨some 20, .binOp .neq 23 (.tmp 18) (.tmp 19) 23, _, _, _, some (3, true)⟩) (v := .bool true) rfl (by kernel_rfl) (by kernel_rfl) (by kernel_rfl) (fun _ _ _ h => h) (yieldsIf_eqH (by rfl) .neq 23 23 (.tmp 18) (.tmp 19) rfl _ _ rfl rfl guardH _ E1.out) hHeld ?_
          try simp only [Act.put, List.setIfInBounds_toArray, List.set_cons_zero, List.set_cons_succ]
          refine wpAnyH_take (i := 8) (oi := ⟨some 21, .pick (.tmp 16) (.tmp 20) (.const (.bool false)), _, _, _, none⟩) (v := ?_) rfl (by kernel_rfl) (by kernel_rfl) (by kernel_rfl) (fun _ _ _ h => h) (Or.inl ⟨by rfl, ?_⟩) hHeld ?_
          rotate_left
          · intro W _; go_simp; try with_reducible rfl
          try simp only [Act.put, List.setIfInBounds_toArray, List.set_cons_zero, List.set_cons_succ]
          refine wpAnyH_take (i := 9) (oi := ⟨some 22, .move (.tmp 21), _, _, _, none⟩) (v := ?_) rfl (by kernel_rfl) (by kernel_rfl) (by kernel_rfl) (fun _ _ _ h => h) (Or.inl ⟨by rfl, ?_⟩) hHeld ?_
          rotate_left
          · intro W _; go_simp; try with_reducible rfl
          try simp only [Act.put, List.setIfInBounds_toArray, List.set_cons_zero, List.set_cons_succ]
          refine wpAnyH_take (i := 10) (oi := ⟨some 23, .fieldAddr 28 (.tmp 5) 2, _, _, _, some (9, true)⟩) (v := ?_) rfl (by kernel_rfl) (by kernel_rfl) (by kernel_rfl) (fun _ _ _ h => h) (Or.inl ⟨by rfl, ?_⟩) hHeld ?_
          rotate_left
          · intro W _; go_simp; try with_reducible rfl
          try simp only [Act.put, List.setIfInBounds_toArray, List.set_cons_zero, List.set_cons_succ]
          refine wpAnyH_take (i := 11) (oi := ⟨some 24, .load 23 (.tmp 23), _, _, _, some (9, true)⟩) (v := .agg (bs X.op).toArray) rfl (by kernel_rfl) (by kernel_rfl) (by kernel_rfl) (fun _ _ _ h => h) (yieldsIf_load_mid (by rfl) _ _ rfl (w.heap.size + 2) 2 rfl (bs X.op) _ (fun W h => (range_below h HX1.out)) Tryd.underlying23 rfl h6.out) hHeld ?_
          try simp only [Act.put, List.setIfInBounds_toArray, List.set_cons_zero, List.set_cons_succ]
          refine wpAnyH_take (i := 12) (oi := ⟨some 25, .load 23 (.tmp 3), _, _, _, some (9, true)⟩) (v := .agg (bs p).toArray) rfl (by kernel_rfl) (by kernel_rfl) (by kernel_rfl) (fun _ _ _ h => h) (yieldsIf_load_mid (by rfl) _ _ rfl w.heap.size 0 rfl (bs p) _ (fun W h => ((HS1.out.below h)).pr) Tryd.underlying23 rfl h5.out) hHeld ?_
          try simp only [Act.put, List.setIfInBounds_toArray, List.set_cons_zero, List.set_cons_succ]
          refine wpAnyH_take (i := 14) (oi := ⟨some 27, .fieldAddr 28 (.tmp 5) 0, _, _, _, some (9, true)⟩) (v := ?_) rfl (by kernel_rfl) (by kernel_rfl) (by kernel_rfl) (fun _ _ _ h => h) (Or.inl ⟨by rfl, ?_⟩) hHeld ?_
          rotate_left
          · intro W _; go_simp; try with_reducible rfl
          try simp only [Act.put, List.setIfInBounds_toArray, List.set_cons_zero, List.set_cons_succ]
          refine wpAnyH_take (i := 15) (oi := ⟨some 28, .load 26 (.tmp 27), _, _, _, some (9, true)⟩) (v := ?_) rfl (by kernel_rfl) (by kernel_rfl) (by kernel_rfl) (fun _ _ _ h => h) (Or.inl ⟨by rfl, ?_⟩) hHeld ?_
          rotate_left
          · intro W h; have h0 := ((HS1.out.below h)).x.cell HL0.out; go_simp; try with_reducible rfl
          try simp only [Act.put, List.setIfInBounds_toArray, List.set_cons_zero, List.set_cons_succ]
          refine wpAnyH_take (i := 16) (oi := ⟨some 29, .call { callee := .builtin .len, args := #[.tmp 28], argTypes := #[26] }, _, _, _, some (9, true)⟩) (v := ?_) rfl (by kernel_rfl) (by kernel_rfl) (by kernel_rfl) (fun _ _ _ h => h) (Or.inl ⟨by rfl, ?_⟩) hHeld ?_
          rotate_left
          · intro W _; go_simp; try with_reducible rfl
          try simp only [Act.put, List.setIfInBounds_toArray, List.set_cons_zero, List.set_cons_succ]
          refine wpAnyH_ready (rs := [13]) (by kernel_rfl) (by simp) ?_
          refine AllReadyH.cons (o := ⟨some 26, .call { callee := .value (.func 18), args := #[.tmp 24, .tmp 25], argTypes := #[23, 23] }, _, _, _, some (9, true)⟩) rfl (fun K hK => ?_) AllReadyH.nil
          refine step_ofR (by rfl) ?_
          go_simp
          refine (HC.out _).mono ?_
          rintro ee W13 ⟨rfl, hb6⟩
          refine hK.out _ _ (Bt hHeld hb6) (fun hHeld => ?_)
          clear hK K
          try simp only [Act.put, List.setIfInBounds_toArray, List.set_cons_zero, List.set_cons_succ]
          refine wpAnyH_take (i := 17) (oi := ⟨some 30, .binOp .geq 3 (.tmp 26) (.tmp 29) 3, _, _, _, some (9, true)⟩) (v := ?_) rfl (by kernel_rfl) (by kernel_rfl) (by kernel_rfl) (fun _ _ _ h => h) (Or.inl ⟨by rfl, ?_⟩) hHeld ?_
          rotate_left
          · intro W _; go_simp; try with_reducible rfl
          try simp only [Act.put, List.setIfInBounds_toArray, List.set_cons_zero, List.set_cons_succ]
          refine wpAnyH_take (i := 18) (oi := ⟨some 31, .pick (.tmp 22) (.tmp 30) (.const (.bool false)), _, _, _, none⟩) (v := ?_) rfl (by kernel_rfl) (by kernel_rfl) (by kernel_rfl) (fun _ _ _ h => h) (Or.inl ⟨by rfl, ?_⟩) hHeld ?_
          rotate_left
          · intro W _; go_simp; try with_reducible rfl
          try simp only [Act.put, List.setIfInBounds_toArray, List.set_cons_zero, List.set_cons_succ]
          refine wpAnyH_ready (rs := [19]) (by kernel_rfl) (by simp) ?_
          refine AllReadyH.cons (o := ⟨some 6, .assign (.tmp 31), _, _, _, none⟩) rfl (fun K hK => ?_) AllReadyH.nil
          refine step_ofR (by rfl) ?_
          go_simp
          refine hK.out _ _ (hHeld) (fun hHeld => ?_)
          clear hK K
          try simp only [Act.put, List.setIfInBounds_toArray, List.set_cons_zero, List.set_cons_succ]
          refine wpAnyH_done (by kernel_rfl) ?_ _
          -- END suitsC
          go_wp2_with fail
          go_ret
          exact ⟨by rw [HE2.out]; rfl, hBw.trans (hHeld.mono hBw.size)⟩
end
/-! The walks of package proof: Check. -/
section
open Go.RowKit
set_option maxRecDepth 100000

/-- what a proof is found to be -/
def checkE (x : Int) (root p : List UInt8) (b : Bool) (v : List UInt8) (X : Pf) : Int :=
  if 0 ≤ x ∧ x ≤ 32 then (if (!b && v != zero32) || !suitsB p b X then 40 else if rootB x.toNat p b v X != root then 41 else 0) else 1

/-- a call's own root, path, claim and proof -/
structure Bx4 (w W : World) (root p : List UInt8) (C P : List Value) : Prop where
  r : Blk W w.heap.size 23 (bs root)
  p : Blk W (w.heap.size + 1) 23 (bs p)
  c : Blk W (w.heap.size + 2) 25 C
  x : Blk W (w.heap.size + 3) 28 P
  bel : Below w.heap.size w W
section
variable {w W W' : World} {root p : List UInt8} {C P : List Value}
theorem Bx4.below (h : Bx4 w W root p C P) (hb : Below W.heap.size W W') : Bx4 w W' root p C P := ⟨h.r.below hb, h.p.below hb, h.c.below hb, h.x.below hb, Bt h.bel hb⟩
theorem Bx4.start (w : World) (root p : List UInt8) (C P : List Value) :
    Bx4 w ((((w.alloc (.cells (bs root).toArray 23)).alloc (.cells (bs p).toArray 23)).alloc (.cells C.toArray 25)).alloc (.cells P.toArray 28)) root p C P := by
  have h0 := Blk.new w 23 (bs root)
  have hb0 : Below w.heap.size w (w.alloc (.cells (bs root).toArray 23)) := (Below.refl _ w).alloc (Nat.le_refl _) _
  have hs0 : (w.alloc (.cells (bs root).toArray 23)).heap.size = w.heap.size + 1 := by simp
  generalize w.alloc (.cells (bs root).toArray 23) = w0 at *
  have h1 := Blk.new w0 23 (bs p)
  have hb1 : Below w0.heap.size w0 (w0.alloc (.cells (bs p).toArray 23)) := (Below.refl _ w0).alloc (Nat.le_refl _) _
  have hs1 : (w0.alloc (.cells (bs p).toArray 23)).heap.size = w.heap.size + 2 := by simp [hs0]
  rw [hs0] at h1
  generalize w0.alloc (.cells (bs p).toArray 23) = w1 at *
  have h2 := Blk.new w1 25 C
  have hb2 : Below w1.heap.size w1 (w1.alloc (.cells C.toArray 25)) := (Below.refl _ w1).alloc (Nat.le_refl _) _
  have hs2 : (w1.alloc (.cells C.toArray 25)).heap.size = w.heap.size + 3 := by simp [hs1]
  rw [hs1] at h2
  generalize w1.alloc (.cells C.toArray 25) = w2 at *
  have h3 := Blk.new w2 28 P
  have hb3 : Below w2.heap.size w2 (w2.alloc (.cells P.toArray 28)) := (Below.refl _ w2).alloc (Nat.le_refl _) _
  rw [hs2] at h3
  exact ⟨((h0.below hb1).below hb2).below hb3, (h1.below hb2).below hb3, h2.below hb3, h3, Bt (Bt (Bt hb0 hb1) hb2) hb3⟩
end

theorem snew_plain (w : World) (x : Nat) (hx : x ≤ 32) : Calls Tryd.prog 19 #[.int .i64 (x : Int)] w fun e w' => ∃ tp, e = .returned (.tuple #[.pointer (some ⟨tp, 0, none⟩), .int .i64 0]) ∧ Below w.heap.size w w' := by
  refine (snew_any w x hx w.heap.size (Nat.le_refl _) (fun _ => none) (Inv.start _ x noL w)).mono ?_
  rintro e w' ⟨tp, pn, G, rfl, -, -, -, -, h⟩
  exact ⟨tp, rfl, h⟩

set_option maxHeartbeats 4000000 in
theorem check_no (w : World) (x : Int) (hx : x < 0 ∨ 32 < x) (root p : List UInt8) (C P : List Value) :
    Calls Tryd.prog 8 #[.int .i64 x, .agg (bs root).toArray, .agg (bs p).toArray, .agg C.toArray, .agg P.toArray] w fun e w' => e = .returned (.int .i64 1) ∧ Below w.heap.size w w' := by
  have hB := (Bx4.start w root p C P).bel
  have HN := Lib.hid (fun W : World => new_no W x hx)
  go_enter Tryd.func8, Tryd.ntmps8
  generalize hw0 : (((w.alloc (.cells (bs root).toArray 23)).alloc (.cells (bs p).toArray 23)).alloc (.cells C.toArray 25)).alloc (.cells P.toArray 28) = w0 at *
  go_wp2_with fail
  refine (HN.out _).mono ?_
  rintro e w1 ⟨rfl, rfl⟩
  go_wp2_with fail
  go_ret
  exact ⟨rfl, hB⟩

set_option maxHeartbeats 4000000 in
theorem check_in (w : World) (x : Nat) (hx : x ≤ 32) (root p : List UInt8) (hro : root.length = 32) (hp : p.length = 32) (b : Bool) (v : List UInt8) (hv : v.length = 32) (a : Option Addr) (n c : Nat) (X : Pf) (hr : RdP6 w a n c X) (hT : Tab w 1) :
    Calls Tryd.prog 8 #[.int .i64 (x : Int), .agg (bs root).toArray, .agg (bs p).toArray, .agg (clc b v).toArray, .agg (pc a n c X).toArray] w fun e w' => e = .returned (.int .i64 (checkE x root p b v X)) ∧ Below w.heap.size w w' := by
  have hS := Bx4.start w root p (clc b v) (pc a n c X)
  have HB := Lib.hid hS
  have h4 := Lib.hid (digP hro)
  have h5 := Lib.hid (digP hp)
  have hv5 := Lib.hid (digP hv)
  have h6 := Lib.hid (infoClc (b := b) hv)
  have h7 := Lib.hid (size_of (a := a) (n := n) (c := c) hr.ok)
  have HX := Lib.hid hr.ok
  have hlen := hr.sib.len
  have HNEW := Lib.hid (fun W : World => snew_plain W x hx)
  have HSU := Lib.hid (fun W : World => suits_any W p hp b v a n c X hr.ok hlen)
  have HRT := Lib.hid (fun (W : World) (hB : Below w.heap.size w W) (hn : n ≤ 256) => rootOf_any W x hx p hp b v hv a n c X (hr.below hB) hn (hT.below hB))
  have HFEW : Hid (suitsB p b X = true → n ≤ 256) := Lib.hid (fun h => by rw [← hlen]; exact suitsB_few h)
  have HE : Hid (checkE (x : Int) root p b v X = if (!b && v != zero32) || !suitsB p b X then 40 else if rootB x p b v X != root then 41 else 0) := Lib.hid (by rw [checkE, if_pos ⟨by omega, by omega⟩]; rfl)
  have HNV := Lib.hid (fun (k : Bool) (hk : (v != zero32) = k) => neqRun v zero32 hv zero32_length hk)
  have HNR := Lib.hid (fun (k : Bool) (hk : (rootB x p b v X != root) = k) => neqRun (rootB x p b v X) root (rootB_len hx) hro hk)
  have HBT := Lib.hid built0
  have rv : Hid (∀ W, Bx4 w W root p (clc b v) (pc a n c X) → W.rangeAt (w.heap.size + 2) 1 (bs v)) := Lib.hid (fun W h => h.c.range 1 (fun j _ => by unfold clc; rw [show 1 + j = j + 1 by omega, List.getElem?_cons_succ]))
  have HC0 : Hid ((clc b v)[0]? = some (.bool b)) := Lib.hid rfl
  clear hS hro hp hv hr hT hlen hx
  generalize suitsB p b X = sb at *
  generalize rootB x p b v X = rt at *
  generalize checkE (x : Int) root p b v X = R at *
  go_enter Tryd.func8, Tryd.ntmps8
  generalize clc b v = C at *
  generalize pc a n c X = P at *
  generalize hw0 : (((w.alloc (.cells (bs root).toArray 23)).alloc (.cells (bs p).toArray 23)).alloc (.cells C.toArray 25)).alloc (.cells P.toArray 28) = w0 at *
  go_wp2_with fail
  refine (HNEW.out _).mono ?_
  rintro e w1 ⟨tp, rfl, hB1⟩
  have HB1 := Lib.hid (HB.out.below hB1)
  clear HB hB1 HNEW
  have c0 := HB1.out.c.cell HC0.out
  have r1 := rv.out _ HB1.out
  have q1 := HB1.out.p.allR
  have q2 := HB1.out.c.allR
  have q3 := HB1.out.x.allR
  cases b with
  | false =>
    cases hne : (v != zero32) with
    | true =>
      have E1 := Lib.hid (HNV.out true hne)
      have HE2 : Hid (R = 40) := Lib.hid (by rw [HE.out, hne]; rfl)
      clear HNV
      go_wp2_with (first
        | ((with_reducible refine wpList_loadP (o := ⟨some 26, _, _, _, _, _⟩) ?_ (w.heap.size + 2) 1 23 (.tmp 25) ?_ ?_ r1 Tryd.underlying23 ?_ hv5.out ?_); rfl; rfl; rfl; rfl)
        | ((with_reducible refine wpList_buildP (o := ⟨some 27, _, _, _, _, _⟩) ?_ 23 #[] ?_ (ps := []) ?_ HBT.out ?_); rfl; rfl; rfl)
        | ((with_reducible refine wpList_eqH (o := ⟨some 28, _, _, _, _, _⟩) ?_ .neq 23 23 (.tmp 26) (.tmp 27) ?_ (bs v).toArray (bs zero32).toArray ?_ ?_ guardH _ E1.out ?_); rfl; rfl; rfl; rfl))
      go_ret
      exact ⟨by rw [HE2.out]; rfl, HB1.out.bel⟩
    | false =>
      have E1 := Lib.hid (HNV.out false hne)
      have HE2 : Hid (R = if !sb then 40 else if rt != root then 41 else 0) := Lib.hid (by rw [HE.out, hne]; simp)
      clear HNV HE
      go_wp2_with (first
        | ((with_reducible refine wpList_loadP (o := ⟨some 26, _, _, _, _, _⟩) ?_ (w.heap.size + 2) 1 23 (.tmp 25) ?_ ?_ r1 Tryd.underlying23 ?_ hv5.out ?_); rfl; rfl; rfl; rfl)
        | ((with_reducible refine wpList_buildP (o := ⟨some 27, _, _, _, _, _⟩) ?_ 23 #[] ?_ (ps := []) ?_ HBT.out ?_); rfl; rfl; rfl)
        | ((with_reducible refine wpList_eqH (o := ⟨some 28, _, _, _, _, _⟩) ?_ .neq 23 23 (.tmp 26) (.tmp 27) ?_ (bs v).toArray (bs zero32).toArray ?_ ?_ guardH _ E1.out ?_); rfl; rfl; rfl; rfl)
        | ((with_reducible refine wpList_loadP (o := ⟨some 31, _, _, _, _, _⟩) ?_ (w.heap.size + 1) 0 23 (.tmp 7) ?_ ?_ q1 Tryd.underlying23 ?_ h5.out ?_); rfl; rfl; rfl; rfl)
        | ((with_reducible refine wpList_loadP (o := ⟨some 32, _, _, _, _, _⟩) ?_ (w.heap.size + 2) 0 25 (.tmp 8) ?_ ?_ q2 Tryd.underlying25 ?_ h6.out ?_); rfl; rfl; rfl; rfl)
        | ((with_reducible refine wpList_loadP (o := ⟨some 33, _, _, _, _, _⟩) ?_ (w.heap.size + 3) 0 28 (.tmp 9) ?_ ?_ q3 Tryd.underlying28 ?_ h7.out ?_); rfl; rfl; rfl; rfl))
      refine (HSU.out _).mono ?_
      rintro e w2 ⟨rfl, hB2⟩
      have HB2 := Lib.hid (HB1.out.below hB2)
      clear HSU HB1 c0 r1 q1 q2 q3 hB2
      cases sb with
      | false =>
        go_wp2_with fail
        go_ret
        exact ⟨by rw [HE2.out]; rfl, HB2.out.bel⟩
      | true =>
        have hn := HFEW.out rfl
        cases hne2 : (rt != root) with
        | true =>
          have E2 := Lib.hid (HNR.out true hne2)
          have HE3 : Hid (R = 41) := Lib.hid (by rw [HE2.out, hne2]; rfl)
          go_wp2_with fail
          -- REGION check1a 10
          refine wp_region_held_drew (S := fun W => Below w.heap.size w W ∧ Bx4 w W root p C P) (by kernel_rfl) ⟨HB2.out.bel.drew, HB2.out.below (Below.refl _ w2).drew⟩ (fun hHeld => ?_)
          refine wpAnyH_take (i := 0) (oi := ⟨some 37, .move (.tmp 0), _, _, _, none⟩) (v := ?_) rfl (by kernel_rfl) (by kernel_rfl) (by kernel_rfl) (fun _ _ _ h => h) (Or.inl ⟨by rfl, ?_⟩) hHeld ?_
          rotate_left
          · intro W _; go_simp; try with_reducible rfl
          try simp only [Act.put, List.setIfInBounds_toArray, List.set_cons_zero, List.set_cons_succ]
          refine wpAnyH_take (i := 1) (oi := ⟨some 38, .load 23 (.tmp 7), _, _, _, none⟩) (v := .agg (bs p).toArray) rfl (by kernel_rfl) (by kernel_rfl) (by kernel_rfl) (fun _ _ _ h => h) (yieldsIf_load_mid (by rfl) _ _ rfl (w.heap.size + 1) 0 rfl (bs p) _ (fun W h => h.2.p.allR) Tryd.underlying23 rfl h5.out) hHeld ?_
          try simp only [Act.put, List.setIfInBounds_toArray, List.set_cons_zero, List.set_cons_succ]
          refine wpAnyH_take (i := 2) (oi := ⟨some 39, .load 25 (.tmp 8), _, _, _, none⟩) (v := .agg C.toArray) rfl (by kernel_rfl) (by kernel_rfl) (by kernel_rfl) (fun _ _ _ h => h) (yieldsIf_load_mid (by rfl) _ _ rfl (w.heap.size + 2) 0 rfl C _ (fun W h => h.2.c.allR) Tryd.underlying25 rfl h6.out) hHeld ?_
          try simp only [Act.put, List.setIfInBounds_toArray, List.set_cons_zero, List.set_cons_succ]
          refine wpAnyH_take (i := 3) (oi := ⟨some 40, .load 28 (.tmp 9), _, _, _, none⟩) (v := .agg P.toArray) rfl (by kernel_rfl) (by kernel_rfl) (by kernel_rfl) (fun _ _ _ h => h) (yieldsIf_load_mid (by rfl) _ _ rfl (w.heap.size + 3) 0 rfl P _ (fun W h => h.2.x.allR) Tryd.underlying28 rfl h7.out) hHeld ?_
          try simp only [Act.put, List.setIfInBounds_toArray, List.set_cons_zero, List.set_cons_succ]
          refine wpAnyH_take (i := 5) (oi := ⟨some 42, .load 23 (.tmp 6), _, _, _, none⟩) (v := .agg (bs root).toArray) rfl (by kernel_rfl) (by kernel_rfl) (by kernel_rfl) (fun _ _ _ h => h) (yieldsIf_load_mid (by rfl) _ _ rfl w.heap.size 0 rfl (bs root) _ (fun W h => h.2.r.allR) Tryd.underlying23 rfl h4.out) hHeld ?_
          try simp only [Act.put, List.setIfInBounds_toArray, List.set_cons_zero, List.set_cons_succ]
          refine wpAnyH_ready (rs := [4]) (by kernel_rfl) (by simp) ?_
          refine AllReadyH.cons (o := ⟨some 41, .call { callee := .value (.func 21), args := #[.tmp 37, .tmp 38, .tmp 39, .tmp 40], argTypes := #[3, 23, 25, 28] }, _, _, _, none⟩) rfl (fun K hK => ?_) AllReadyH.nil
          refine step_ofR (by rfl) ?_
          go_simp
          refine (HRT.out _ hHeld.1 hn).mono ?_
          rintro ee W4 ⟨rfl, hb6⟩
          refine hK.out _ _ (⟨hHeld.1.trans (hb6.mono hHeld.1.size), hHeld.2.below hb6⟩) (fun hHeld => ?_)
          clear hK K
          try simp only [Act.put, List.setIfInBounds_toArray, List.set_cons_zero, List.set_cons_succ]
          refine wpAnyH_take (i := 6) (oi := ⟨some 43, .binOp .neq 23 (.tmp 41) (.tmp 42) 23, _, _, _, none⟩) (v := .bool true) rfl (by kernel_rfl) (by kernel_rfl) (by kernel_rfl) (fun _ _ _ h => h) (yieldsIf_eqH (by rfl) .neq 23 23 (.tmp 41) (.tmp 42) rfl _ _ rfl rfl guardH _ E2.out) hHeld ?_
          try simp only [Act.put, List.setIfInBounds_toArray, List.set_cons_zero, List.set_cons_succ]
          refine wpAnyH_done (by kernel_rfl) ?_ _
          replace hHeld := hHeld.1
          -- END check1a
          go_wp2_with fail
          go_ret
          exact ⟨by rw [HE3.out]; rfl, hHeld⟩
        | false =>
          have E2 := Lib.hid (HNR.out false hne2)
          have HE3 : Hid (R = 0) := Lib.hid (by rw [HE2.out, hne2]; rfl)
          go_wp2_with fail
          -- REGION check1b 10
          refine wp_region_held_drew (S := fun W => Below w.heap.size w W ∧ Bx4 w W root p C P) (by kernel_rfl) ⟨HB2.out.bel.drew, HB2.out.below (Below.refl _ w2).drew⟩ (fun hHeld => ?_)
          refine wpAnyH_take (i := 0) (oi := ⟨some 37, .move (.tmp 0), _, _, _, none⟩) (v := ?_) rfl (by kernel_rfl) (by kernel_rfl) (by kernel_rfl) (fun _ _ _ h => h) (Or.inl ⟨by rfl, ?_⟩) hHeld ?_
          rotate_left
          · intro W _; go_simp; try with_reducible rfl
          try simp only [Act.put, List.setIfInBounds_toArray, List.set_cons_zero, List.set_cons_succ]
          refine wpAnyH_take (i := 1) (oi := ⟨some 38, .load 23 (.tmp 7), _, _, _, none⟩) (v := .agg (bs p).toArray) rfl (by kernel_rfl) (by kernel_rfl) (by kernel_rfl) (fun _ _ _ h => h) (yieldsIf_load_mid (by rfl) _ _ rfl (w.heap.size + 1) 0 rfl (bs p) _ (fun W h => h.2.p.allR) Tryd.underlying23 rfl h5.out) hHeld ?_
          try simp only [Act.put, List.setIfInBounds_toArray, List.set_cons_zero, List.set_cons_succ]
          refine wpAnyH_take (i := 2) (oi := ⟨some 39, .load 25 (.tmp 8), _, _, _, none⟩) (v := .agg C.toArray) rfl (by kernel_rfl) (by kernel_rfl) (by kernel_rfl) (fun _ _ _ h => h) (yieldsIf_load_mid (by rfl) _ _ rfl (w.heap.size + 2) 0 rfl C _ (fun W h => h.2.c.allR) Tryd.underlying25 rfl h6.out) hHeld ?_
          try simp only [Act.put, List.setIfInBounds_toArray, List.set_cons_zero, List.set_cons_succ]
          refine wpAnyH_take (i := 3) (oi := ⟨some 40, .load 28 (.tmp 9), _, _, _, none⟩) (v := .agg P.toArray) rfl (by kernel_rfl) (by kernel_rfl) (by kernel_rfl) (fun _ _ _ h => h) (yieldsIf_load_mid (by rfl) _ _ rfl (w.heap.size + 3) 0 rfl P _ (fun W h => h.2.x.allR) Tryd.underlying28 rfl h7.out) hHeld ?_
          try simp only [Act.put, List.setIfInBounds_toArray, List.set_cons_zero, List.set_cons_succ]
          refine wpAnyH_take (i := 5) (oi := ⟨some 42, .load 23 (.tmp 6), _, _, _, none⟩) (v := .agg (bs root).toArray) rfl (by kernel_rfl) (by kernel_rfl) (by kernel_rfl) (fun _ _ _ h => h) (yieldsIf_load_mid (by rfl) _ _ rfl w.heap.size 0 rfl (bs root) _ (fun W h => h.2.r.allR) Tryd.underlying23 rfl h4.out) hHeld ?_
          try simp only [Act.put, List.setIfInBounds_toArray, List.set_cons_zero, List.set_cons_succ]
          refine wpAnyH_ready (rs := [4]) (by kernel_rfl) (by simp) ?_
          refine AllReadyH.cons (o := ⟨some 41, .call { callee := .value (.func 21), args := #[.tmp 37, .tmp 38, .tmp 39, .tmp 40], argTypes := #[3, 23, 25, 28] }, _, _, _, none⟩) rfl (fun K hK => ?_) AllReadyH.nil
          refine step_ofR (by rfl) ?_
          go_simp
          refine (HRT.out _ hHeld.1 hn).mono ?_
          rintro ee W4 ⟨rfl, hb6⟩
          refine hK.out _ _ (⟨hHeld.1.trans (hb6.mono hHeld.1.size), hHeld.2.below hb6⟩) (fun hHeld => ?_)
          clear hK K
          try simp only [Act.put, List.setIfInBounds_toArray, List.set_cons_zero, List.set_cons_succ]
          refine wpAnyH_take (i := 6) (oi := ⟨some 43, .binOp .neq 23 (.tmp 41) (.tmp 42) 23, _, _, _, none⟩) (v := .bool false) rfl (by kernel_rfl) (by kernel_rfl) (by kernel_rfl) (fun _ _ _ h => h) (yieldsIf_eqH (by rfl) .neq 23 23 (.tmp 41) (.tmp 42) rfl _ _ rfl rfl guardH _ E2.out) hHeld ?_
          try simp only [Act.put, List.setIfInBounds_toArray, List.set_cons_zero, List.set_cons_succ]
          refine wpAnyH_done (by kernel_rfl) ?_ _
          replace hHeld := hHeld.1
          -- END check1b
          go_wp2_with fail
          go_ret
          exact ⟨by rw [HE3.out]; rfl, hHeld⟩
  | true =>
    have HE2 : Hid (R = if !sb then 40 else if rt != root then 41 else 0) := Lib.hid (by rw [HE.out]; rfl)
    clear HNV HE
    go_wp2_with (first
      | ((with_reducible refine wpList_loadP (o := ⟨some 31, _, _, _, _, _⟩) ?_ (w.heap.size + 1) 0 23 (.tmp 7) ?_ ?_ q1 Tryd.underlying23 ?_ h5.out ?_); rfl; rfl; rfl; rfl)
      | ((with_reducible refine wpList_loadP (o := ⟨some 32, _, _, _, _, _⟩) ?_ (w.heap.size + 2) 0 25 (.tmp 8) ?_ ?_ q2 Tryd.underlying25 ?_ h6.out ?_); rfl; rfl; rfl; rfl)
      | ((with_reducible refine wpList_loadP (o := ⟨some 33, _, _, _, _, _⟩) ?_ (w.heap.size + 3) 0 28 (.tmp 9) ?_ ?_ q3 Tryd.underlying28 ?_ h7.out ?_); rfl; rfl; rfl; rfl))
    refine (HSU.out _).mono ?_
    rintro e w2 ⟨rfl, hB2⟩
    have HB2 := Lib.hid (HB1.out.below hB2)
    clear HSU HB1 c0 r1 q1 q2 q3 hB2
    cases sb with
    | false =>
      go_wp2_with fail
      go_ret
      exact ⟨by rw [HE2.out]; rfl, HB2.out.bel⟩
    | true =>
      have hn := HFEW.out rfl
      cases hne2 : (rt != root) with
      | true =>
        have E2 := Lib.hid (HNR.out true hne2)
        have HE3 : Hid (R = 41) := Lib.hid (by rw [HE2.out, hne2]; rfl)
        go_wp2_with fail
        -- REGION check2a 8
        refine wp_region_held_drew (S := fun W => Below w.heap.size w W ∧ Bx4 w W root p C P) (by kernel_rfl) ⟨HB2.out.bel.drew, HB2.out.below (Below.refl _ w2).drew⟩ (fun hHeld => ?_)
        refine wpAnyH_take (i := 0) (oi := ⟨some 37, .move (.tmp 0), _, _, _, none⟩) (v := ?_) rfl (by kernel_rfl) (by kernel_rfl) (by kernel_rfl) (fun _ _ _ h => h) (Or.inl ⟨by rfl, ?_⟩) hHeld ?_
        rotate_left
        · intro W _; go_simp; try with_reducible rfl
        try simp only [Act.put, List.setIfInBounds_toArray, List.set_cons_zero, List.set_cons_succ]
        refine wpAnyH_take (i := 1) (oi := ⟨some 38, .load 23 (.tmp 7), _, _, _, none⟩) (v := .agg (bs p).toArray) rfl (by kernel_rfl) (by kernel_rfl) (by kernel_rfl) (fun _ _ _ h => h) (yieldsIf_load_mid (by rfl) _ _ rfl (w.heap.size + 1) 0 rfl (bs p) _ (fun W h => h.2.p.allR) Tryd.underlying23 rfl h5.out) hHeld ?_
        try simp only [Act.put, List.setIfInBounds_toArray, List.set_cons_zero, List.set_cons_succ]
        refine wpAnyH_take (i := 2) (oi := ⟨some 39, .load 25 (.tmp 8), _, _, _, none⟩) (v := .agg C.toArray) rfl (by kernel_rfl) (by kernel_rfl) (by kernel_rfl) (fun _ _ _ h => h) (yieldsIf_load_mid (by rfl) _ _ rfl (w.heap.size + 2) 0 rfl C _ (fun W h => h.2.c.allR) Tryd.underlying25 rfl h6.out) hHeld ?_
        try simp only [Act.put, List.setIfInBounds_toArray, List.set_cons_zero, List.set_cons_succ]
        refine wpAnyH_take (i := 3) (oi := ⟨some 40, .load 28 (.tmp 9), _, _, _, none⟩) (v := .agg P.toArray) rfl (by kernel_rfl) (by kernel_rfl) (by kernel_rfl) (fun _ _ _ h => h) (yieldsIf_load_mid (by rfl) _ _ rfl (w.heap.size + 3) 0 rfl P _ (fun W h => h.2.x.allR) Tryd.underlying28 rfl h7.out) hHeld ?_
        try simp only [Act.put, List.setIfInBounds_toArray, List.set_cons_zero, List.set_cons_succ]
        refine wpAnyH_take (i := 5) (oi := ⟨some 42, .load 23 (.tmp 6), _, _, _, none⟩) (v := .agg (bs root).toArray) rfl (by kernel_rfl) (by kernel_rfl) (by kernel_rfl) (fun _ _ _ h => h) (yieldsIf_load_mid (by rfl) _ _ rfl w.heap.size 0 rfl (bs root) _ (fun W h => h.2.r.allR) Tryd.underlying23 rfl h4.out) hHeld ?_
        try simp only [Act.put, List.setIfInBounds_toArray, List.set_cons_zero, List.set_cons_succ]
        refine wpAnyH_ready (rs := [4]) (by kernel_rfl) (by simp) ?_
        refine AllReadyH.cons (o := ⟨some 41, .call { callee := .value (.func 21), args := #[.tmp 37, .tmp 38, .tmp 39, .tmp 40], argTypes := #[3, 23, 25, 28] }, _, _, _, none⟩) rfl (fun K hK => ?_) AllReadyH.nil
        refine step_ofR (by rfl) ?_
        go_simp
        refine (HRT.out _ hHeld.1 hn).mono ?_
        rintro ee W4 ⟨rfl, hb6⟩
        refine hK.out _ _ (⟨hHeld.1.trans (hb6.mono hHeld.1.size), hHeld.2.below hb6⟩) (fun hHeld => ?_)
        clear hK K
        try simp only [Act.put, List.setIfInBounds_toArray, List.set_cons_zero, List.set_cons_succ]
        refine wpAnyH_take (i := 6) (oi := ⟨some 43, .binOp .neq 23 (.tmp 41) (.tmp 42) 23, _, _, _, none⟩) (v := .bool true) rfl (by kernel_rfl) (by kernel_rfl) (by kernel_rfl) (fun _ _ _ h => h) (yieldsIf_eqH (by rfl) .neq 23 23 (.tmp 41) (.tmp 42) rfl _ _ rfl rfl guardH _ E2.out) hHeld ?_
        try simp only [Act.put, List.setIfInBounds_toArray, List.set_cons_zero, List.set_cons_succ]
        refine wpAnyH_done (by kernel_rfl) ?_ _
        replace hHeld := hHeld.1
        -- END check2a
        go_wp2_with fail
        go_ret
        exact ⟨by rw [HE3.out]; rfl, hHeld⟩
      | false =>
        have E2 := Lib.hid (HNR.out false hne2)
        have HE3 : Hid (R = 0) := Lib.hid (by rw [HE2.out, hne2]; rfl)
        go_wp2_with fail
        -- REGION check2b 8
        refine wp_region_held_drew (S := fun W => Below w.heap.size w W ∧ Bx4 w W root p C P) (by kernel_rfl) ⟨HB2.out.bel.drew, HB2.out.below (Below.refl _ w2).drew⟩ (fun hHeld => ?_)
        refine wpAnyH_take (i := 0) (oi := ⟨some 37, .move (.tmp 0), _, _, _, none⟩) (v := ?_) rfl (by kernel_rfl) (by kernel_rfl) (by kernel_rfl) (fun _ _ _ h => h) (Or.inl ⟨by rfl, ?_⟩) hHeld ?_
        rotate_left
        · intro W _; go_simp; try with_reducible rfl
        try simp only [Act.put, List.setIfInBounds_toArray, List.set_cons_zero, List.set_cons_succ]
        refine wpAnyH_take (i := 1) (oi := ⟨some 38, .load 23 (.tmp 7), _, _, _, none⟩) (v := .agg (bs p).toArray) rfl (by kernel_rfl) (by kernel_rfl) (by kernel_rfl) (fun _ _ _ h => h) (yieldsIf_load_mid (by rfl) _ _ rfl (w.heap.size + 1) 0 rfl (bs p) _ (fun W h => h.2.p.allR) Tryd.underlying23 rfl h5.out) hHeld ?_
        try simp only [Act.put, List.setIfInBounds_toArray, List.set_cons_zero, List.set_cons_succ]
        refine wpAnyH_take (i := 2) (oi := ⟨some 39, .load 25 (.tmp 8), _, _, _, none⟩) (v := .agg C.toArray) rfl (by kernel_rfl) (by kernel_rfl) (by kernel_rfl) (fun _ _ _ h => h) (yieldsIf_load_mid (by rfl) _ _ rfl (w.heap.size + 2) 0 rfl C _ (fun W h => h.2.c.allR) Tryd.underlying25 rfl h6.out) hHeld ?_
        try simp only [Act.put, List.setIfInBounds_toArray, List.set_cons_zero, List.set_cons_succ]
        refine wpAnyH_take (i := 3) (oi := ⟨some 40, .load 28 (.tmp 9), _, _, _, none⟩) (v := .agg P.toArray) rfl (by kernel_rfl) (by kernel_rfl) (by kernel_rfl) (fun _ _ _ h => h) (yieldsIf_load_mid (by rfl) _ _ rfl (w.heap.size + 3) 0 rfl P _ (fun W h => h.2.x.allR) Tryd.underlying28 rfl h7.out) hHeld ?_
        try simp only [Act.put, List.setIfInBounds_toArray, List.set_cons_zero, List.set_cons_succ]
        refine wpAnyH_take (i := 5) (oi := ⟨some 42, .load 23 (.tmp 6), _, _, _, none⟩) (v := .agg (bs root).toArray) rfl (by kernel_rfl) (by kernel_rfl) (by kernel_rfl) (fun _ _ _ h => h) (yieldsIf_load_mid (by rfl) _ _ rfl w.heap.size 0 rfl (bs root) _ (fun W h => h.2.r.allR) Tryd.underlying23 rfl h4.out) hHeld ?_
        try simp only [Act.put, List.setIfInBounds_toArray, List.set_cons_zero, List.set_cons_succ]
        refine wpAnyH_ready (rs := [4]) (by kernel_rfl) (by simp) ?_
        refine AllReadyH.cons (o := ⟨some 41, .call { callee := .value (.func 21), args := #[.tmp 37, .tmp 38, .tmp 39, .tmp 40], argTypes := #[3, 23, 25, 28] }, _, _, _, none⟩) rfl (fun K hK => ?_) AllReadyH.nil
        refine step_ofR (by rfl) ?_
        go_simp
        refine (HRT.out _ hHeld.1 hn).mono ?_
        rintro ee W4 ⟨rfl, hb6⟩
        refine hK.out _ _ (⟨hHeld.1.trans (hb6.mono hHeld.1.size), hHeld.2.below hb6⟩) (fun hHeld => ?_)
        clear hK K
        try simp only [Act.put, List.setIfInBounds_toArray, List.set_cons_zero, List.set_cons_succ]
        refine wpAnyH_take (i := 6) (oi := ⟨some 43, .binOp .neq 23 (.tmp 41) (.tmp 42) 23, _, _, _, none⟩) (v := .bool false) rfl (by kernel_rfl) (by kernel_rfl) (by kernel_rfl) (fun _ _ _ h => h) (yieldsIf_eqH (by rfl) .neq 23 23 (.tmp 41) (.tmp 42) rfl _ _ rfl rfl guardH _ E2.out) hHeld ?_
        try simp only [Act.put, List.setIfInBounds_toArray, List.set_cons_zero, List.set_cons_succ]
        refine wpAnyH_done (by kernel_rfl) ?_ _
        replace hHeld := hHeld.1
        -- END check2b
        go_wp2_with fail
        go_ret
        exact ⟨by rw [HE3.out]; rfl, hHeld⟩
theorem check_any (w : World) (x : Int) (root p : List UInt8) (hro : root.length = 32) (hp : p.length = 32) (b : Bool) (v : List UInt8) (hv : v.length = 32) (a : Option Addr) (n c : Nat) (X : Pf) (hr : RdP6 w a n c X) (hT : Tab w 1) :
    Calls Tryd.prog 8 #[.int .i64 x, .agg (bs root).toArray, .agg (bs p).toArray, .agg (clc b v).toArray, .agg (pc a n c X).toArray] w fun e w' => e = .returned (.int .i64 (checkE x root p b v X)) ∧ Below w.heap.size w w' := by
  by_cases hx : 0 ≤ x ∧ x ≤ 32
  · obtain ⟨k, rfl⟩ := Int.eq_ofNat_of_zero_le hx.1
    exact check_in w k (by omega) root p hro hp b v hv a n c X hr hT
  · rw [checkE, if_neg hx]
    exact check_no w x (by omega) root p _ _
end
/-! The statements of layer 6: checks. -/
section
open Go.RowKit
set_option maxRecDepth 100000

theorem yieldsIf_buildP {ops : Array Oper} {S : World → Prop} {o : Oper} {a : Act} (hw : Region.wanted o (yielded ops a.tmps) = true) (T : TypeId) (parts : Array (Nat × Operand)) (ho : o.op = .build T parts)
    {vs : List Value} {ps : List (Nat × Value)} (hp : parts.toList.map (fun p => (p.1, a.eval p.2)) = ps) (hb : Tryd.prog.built T ps = some vs.toArray) : YieldsIf Tryd.prog ops S o (.agg vs.toArray) a := by
  have hb : Tryd.prog.built T (parts.map fun (i, x) => (i, a.eval x)).toList = some vs.toArray := by rw [Array.toList_map]; rw [← hb, ← hp]
  exact .inl ⟨hw, fun W _ => by
    unfold execOp
    simp only [ho, Sem.run_bind, run_build W T _ vs.toArray hb, Result.andThen_ok]
    rfl⟩

def d9 : List UInt8 := 9 :: List.replicate 31 0
theorem d9_len : d9.length = 32 := by decide
theorem built_d9 : Tryd.prog.built 23 [(0, .int .u8 9)] = some (bs d9).toArray := by kernel_rfl
theorem built_clT : Tryd.prog.built 25 [(0, .bool true)] = some (clc true zero32).toArray := by kernel_rfl
theorem built_clV : Tryd.prog.built 25 [(1, .agg (bs d9).toArray)] = some (clc false d9).toArray := by kernel_rfl
theorem built_pf0 : Tryd.prog.built 28 [] = some (pc none 0 0 pf0).toArray := by kernel_rfl
theorem root_leaf : (rootB 32 d9 true zero32 pf0 != emptyD 32) = true := by decide +kernel
theorem chk_a : checkE 32 (shortI 32 [2]) d9 false zero32 pf0 = 0 := by
  have e : rootB 32 d9 false zero32 pf0 = emptyD 32 := rfl
  have e2 : shortI 32 [2] = emptyD 32 := rfl
  have s : suitsB d9 false pf0 = true := rfl
  rw [checkE, if_pos (by decide), e2, s]
  show (if (!false && zero32 != zero32) || !true then (40 : Int) else if rootB 32 d9 false zero32 pf0 != emptyD 32 then 41 else 0) = 0
  rw [e]; simp
theorem chk_b : checkE 32 (shortI 32 [2]) d9 true zero32 pf0 = 41 := by
  have e2 : shortI 32 [2] = emptyD 32 := rfl
  have s : suitsB d9 true pf0 = true := rfl
  rw [checkE, if_pos (by decide), e2, s]
  show (if (!true && zero32 != zero32) || !true then (40 : Int) else if rootB 32 d9 true zero32 pf0 != emptyD 32 then 41 else 0) = 41
  rw [root_leaf]; rfl
theorem chk_c : checkE 32 (shortI 32 [2]) d9 false d9 pf0 = 40 := by
  rw [checkE, if_pos (by decide)]
  have h : (d9 != zero32) = true := by decide
  rw [h]; rfl

set_option maxHeartbeats 4000000 in
theorem checks_any (w : World) (hT : Tab w 1) :
    Calls Tryd.prog 9 #[] w fun e w' => e = .returned (.bool true) ∧ Below w.heap.size w w' := by
  have HT := Lib.hid (fun (W : World) (h : Below w.heap.size w W) => hT.below h)
  have HEM := Lib.hid (fun (W : World) (h : Below w.heap.size w W) => sempty_any W 32 (hT.below h))
  have HA := Lib.hid (fun (W : World) (h : Below w.heap.size w W) => check_any W 32 (shortI 32 [2]) d9 (shortI_length 32 [2]) d9_len false zero32 zero32_length none 0 0 pf0 ⟨RdD.nil0 W, zero32_length, zero32_length⟩ (hT.below h))
  have HB := Lib.hid (fun (W : World) (h : Below w.heap.size w W) => check_any W 32 (shortI 32 [2]) d9 (shortI_length 32 [2]) d9_len true zero32 zero32_length none 0 0 pf0 ⟨RdD.nil0 W, zero32_length, zero32_length⟩ (hT.below h))
  have HC := Lib.hid (fun (W : World) (h : Below w.heap.size w W) => check_any W 32 (shortI 32 [2]) d9 (shortI_length 32 [2]) d9_len false d9 d9_len none 0 0 pf0 ⟨RdD.nil0 W, zero32_length, zero32_length⟩ (hT.below h))
  rw [chk_a] at HA
  rw [chk_b] at HB
  rw [chk_c] at HC
  have H5 := Lib.hid (digP d9_len)
  have H6 := Lib.hid (show (bs zero32).length = (bs d9).length by rw [bs_length, bs_length, zero32_length, d9_len])
  have H7 := Lib.hid (bs_one d9)
  have B0 := Lib.hid built_d9
  have B1 := Lib.hid built_clcZ
  have B2 := Lib.hid built_clT
  have B3 := Lib.hid built_clV
  have B4 := Lib.hid built_pf0
  clear hT
  generalize clc false zero32 = CZ at *
  generalize clc true zero32 = CT at *
  generalize clc false d9 = CV at *
  generalize pc none 0 0 pf0 = PZ at *
  generalize d9 = D at *
  generalize shortI 32 [2] = E at *
  go_enter Tryd.func9, Tryd.ntmps9
  go_wp2_with (first
    | ((with_reducible refine wpList_buildI (dst := some 5) B0.out ?_ ?_); rfl)
    | ((with_reducible refine wpList_allocB (o := ⟨some 1, _, _, _, _, _⟩) ?_ 23 ?_ zeroD_info ?_); rfl; rfl; intro w1 hb1 hg1 hz1)
    | ((with_reducible refine wpList_storeB (o := ⟨none, .store 23 (.tmp 1) (.tmp 5), _, _, _, _⟩) ?_ 23 (.tmp 1) (.tmp 5) ?_ ?_ ?_ hb1 H5.out H6.out H7.out ?_); rfl; rfl; rfl; rfl; intro w2 hb2 hg2 hz2;
        have hB2 : Below w.heap.size w w2 := ((Below.refl _ w).grown hg1 (Nat.le_refl _) (fun k e => by cases e)).grown hg2 (by omega) (fun k e => by cases e; exact Nat.le_refl _)))
  have hD2 := Lib.hid hb2
  clear hb1 hg1 hb2 hg2
  -- REGION checks2 2
  refine wp_region_held_drew (S := fun W => Below w2.heap.size w2 W) (by kernel_rfl) (Below.refl _ w2).drew (fun hHeld => ?_)
  refine wpAnyH_take (i := 1) (oi := ⟨some 7, .load 23 (.tmp 1), _, _, _, none⟩) (v := .agg (bs D).toArray) rfl (by kernel_rfl) (by kernel_rfl) (by kernel_rfl) (fun _ _ _ h => h) (yieldsIf_load_mid (by rfl) _ _ rfl w.heap.size 0 rfl (bs D) _ (fun W h => (hD2.out.below h).allR) Tryd.underlying23 rfl H5.out) hHeld ?_
  try simp only [Act.put, List.setIfInBounds_toArray, List.set_cons_zero, List.set_cons_succ]
  refine wpAnyH_take (i := 2) (oi := ⟨some 8, .build 25 #[], _, _, _, none⟩) (v := .agg CZ.toArray) rfl (by kernel_rfl) (by kernel_rfl) (by kernel_rfl) (fun _ _ _ h => h) (yieldsIf_buildP (by rfl) 25 #[] rfl (ps := []) rfl B1.out) hHeld ?_
  try simp only [Act.put, List.setIfInBounds_toArray, List.set_cons_zero, List.set_cons_succ]
  refine wpAnyH_take (i := 3) (oi := ⟨some 9, .build 28 #[], _, _, _, none⟩) (v := .agg PZ.toArray) rfl (by kernel_rfl) (by kernel_rfl) (by kernel_rfl) (fun _ _ _ h => h) (yieldsIf_buildP (by rfl) 28 #[] rfl (ps := []) rfl B4.out) hHeld ?_
  try simp only [Act.put, List.setIfInBounds_toArray, List.set_cons_zero, List.set_cons_succ]
  refine wpAnyH_ready (rs := [0]) (by kernel_rfl) (by simp) ?_
  refine AllReadyH.cons (o := ⟨some 6, .call { callee := .value (.func 22), args := #[.const (.int .i64 32)], argTypes := #[3] }, _, _, _, none⟩) rfl (fun K hK => ?_) AllReadyH.nil
  refine step_ofR (by rfl) ?_
  go_simp
  refine (HEM.out _ (hB2.trans (hHeld.mono hB2.size))).mono ?_
  rintro ee W0 ⟨rfl, hb0⟩
  refine hK.out _ _ (Bt hHeld hb0) (fun hHeld => ?_)
  clear hK K
  try simp only [Act.put, List.setIfInBounds_toArray, List.set_cons_zero, List.set_cons_succ]
  refine wpAnyH_ready (rs := [4]) (by kernel_rfl) (by simp) ?_
  refine AllReadyH.cons (o := ⟨some 10, .call { callee := .value (.func 8), args := #[.const (.int .i64 32), .tmp 6, .tmp 7, .tmp 8, .tmp 9], argTypes := #[3, 23, 23, 25, 28] }, _, _, _, none⟩) rfl (fun K hK => ?_) AllReadyH.nil
  refine step_ofR (by rfl) ?_
  go_simp
  refine (HA.out _ (hB2.trans (hHeld.mono hB2.size))).mono ?_
  rintro ee W4 ⟨rfl, hb6⟩
  refine hK.out _ _ (Bt hHeld hb6) (fun hHeld => ?_)
  clear hK K
  try simp only [Act.put, List.setIfInBounds_toArray, List.set_cons_zero, List.set_cons_succ]
  refine wpAnyH_ready (rs := [5]) (by kernel_rfl) (by simp) ?_
  refine AllReadyH.cons (o := ⟨some 2, .assign (.tmp 10), _, _, _, none⟩) rfl (fun K hK => ?_) AllReadyH.nil
  refine step_ofR (by rfl) ?_
  go_simp
  refine hK.out _ _ (hHeld) (fun hHeld => ?_)
  clear hK K
  try simp only [Act.put, List.setIfInBounds_toArray, List.set_cons_zero, List.set_cons_succ]
  refine wpAnyH_done (by kernel_rfl) ?_ _
  -- END checks2
  have hB3 := Lib.hid hHeld
  have hD3 := Lib.hid (hD2.out.below hHeld)
  clear hHeld hD2
  go_wp2_with fail
  -- REGION checks3 2
  refine wp_region_held_drew (S := fun W => Below W4.heap.size W4 W) (by kernel_rfl) (Below.refl _ W4).drew (fun hHeld => ?_)
  refine wpAnyH_take (i := 1) (oi := ⟨some 12, .load 23 (.tmp 1), _, _, _, none⟩) (v := .agg (bs D).toArray) rfl (by kernel_rfl) (by kernel_rfl) (by kernel_rfl) (fun _ _ _ h => h) (yieldsIf_load_mid (by rfl) _ _ rfl w.heap.size 0 rfl (bs D) _ (fun W h => (hD3.out.below h).allR) Tryd.underlying23 rfl H5.out) hHeld ?_
  try simp only [Act.put, List.setIfInBounds_toArray, List.set_cons_zero, List.set_cons_succ]
  refine wpAnyH_take (i := 2) (oi := ⟨some 13, .build 25 #[(0, .const (.bool true))], _, _, _, none⟩) (v := .agg CT.toArray) rfl (by kernel_rfl) (by kernel_rfl) (by kernel_rfl) (fun _ _ _ h => h) (yieldsIf_buildP (by rfl) 25 #[(0, .const (.bool true))] rfl (ps := [(0, .bool true)]) rfl B2.out) hHeld ?_
  try simp only [Act.put, List.setIfInBounds_toArray, List.set_cons_zero, List.set_cons_succ]
  refine wpAnyH_take (i := 3) (oi := ⟨some 14, .build 28 #[], _, _, _, none⟩) (v := .agg PZ.toArray) rfl (by kernel_rfl) (by kernel_rfl) (by kernel_rfl) (fun _ _ _ h => h) (yieldsIf_buildP (by rfl) 28 #[] rfl (ps := []) rfl B4.out) hHeld ?_
  try simp only [Act.put, List.setIfInBounds_toArray, List.set_cons_zero, List.set_cons_succ]
  refine wpAnyH_ready (rs := [0]) (by kernel_rfl) (by simp) ?_
  refine AllReadyH.cons (o := ⟨some 11, .call { callee := .value (.func 22), args := #[.const (.int .i64 32)], argTypes := #[3] }, _, _, _, none⟩) rfl (fun K hK => ?_) AllReadyH.nil
  refine step_ofR (by rfl) ?_
  go_simp
  refine (HEM.out _ ((hB2.trans (hB3.out.mono hB2.size)).trans (hHeld.mono (hB2.trans (hB3.out.mono hB2.size)).size))).mono ?_
  rintro ee V0 ⟨rfl, hb0⟩
  refine hK.out _ _ (Bt hHeld hb0) (fun hHeld => ?_)
  clear hK K
  try simp only [Act.put, List.setIfInBounds_toArray, List.set_cons_zero, List.set_cons_succ]
  refine wpAnyH_ready (rs := [4]) (by kernel_rfl) (by simp) ?_
  refine AllReadyH.cons (o := ⟨some 15, .call { callee := .value (.func 8), args := #[.const (.int .i64 32), .tmp 11, .tmp 12, .tmp 13, .tmp 14], argTypes := #[3, 23, 23, 25, 28] }, _, _, _, none⟩) rfl (fun K hK => ?_) AllReadyH.nil
  refine step_ofR (by rfl) ?_
  go_simp
  refine (HB.out _ ((hB2.trans (hB3.out.mono hB2.size)).trans (hHeld.mono (hB2.trans (hB3.out.mono hB2.size)).size))).mono ?_
  rintro ee V4 ⟨rfl, hb6⟩
  refine hK.out _ _ (Bt hHeld hb6) (fun hHeld => ?_)
  clear hK K
  try simp only [Act.put, List.setIfInBounds_toArray, List.set_cons_zero, List.set_cons_succ]
  refine wpAnyH_ready (rs := [5]) (by kernel_rfl) (by simp) ?_
  refine AllReadyH.cons (o := ⟨some 3, .assign (.tmp 15), _, _, _, none⟩) rfl (fun K hK => ?_) AllReadyH.nil
  refine step_ofR (by rfl) ?_
  go_simp
  refine hK.out _ _ (hHeld) (fun hHeld => ?_)
  clear hK K
  try simp only [Act.put, List.setIfInBounds_toArray, List.set_cons_zero, List.set_cons_succ]
  refine wpAnyH_done (by kernel_rfl) ?_ _
  -- END checks3
  have hB4 := Lib.hid (Bt hB3.out hHeld)
  have hD4 := Lib.hid (hD3.out.below hHeld)
  clear hHeld hD3 hB3
  go_wp2_with fail
  -- REGION checks4 2
  refine wp_region_held_drew (S := fun W => Below V4.heap.size V4 W) (by kernel_rfl) (Below.refl _ V4).drew (fun hHeld => ?_)
  refine wpAnyH_take (i := 1) (oi := ⟨some 17, .load 23 (.tmp 1), _, _, _, none⟩) (v := .agg (bs D).toArray) rfl (by kernel_rfl) (by kernel_rfl) (by kernel_rfl) (fun _ _ _ h => h) (yieldsIf_load_mid (by rfl) _ _ rfl w.heap.size 0 rfl (bs D) _ (fun W h => (hD4.out.below h).allR) Tryd.underlying23 rfl H5.out) hHeld ?_
  try simp only [Act.put, List.setIfInBounds_toArray, List.set_cons_zero, List.set_cons_succ]
  refine wpAnyH_take (i := 2) (oi := ⟨some 18, .load 23 (.tmp 1), _, _, _, none⟩) (v := .agg (bs D).toArray) rfl (by kernel_rfl) (by kernel_rfl) (by kernel_rfl) (fun _ _ _ h => h) (yieldsIf_load_mid (by rfl) _ _ rfl w.heap.size 0 rfl (bs D) _ (fun W h => (hD4.out.below h).allR) Tryd.underlying23 rfl H5.out) hHeld ?_
  try simp only [Act.put, List.setIfInBounds_toArray, List.set_cons_zero, List.set_cons_succ]
  refine wpAnyH_take (i := 3) (oi := ⟨some 19, .build 25 #[(1, .tmp 18)], _, _, _, none⟩) (v := .agg CV.toArray) rfl (by kernel_rfl) (by kernel_rfl) (by kernel_rfl) (fun _ _ _ h => h) (yieldsIf_buildP (by rfl) 25 #[(1, .tmp 18)] rfl (ps := [(1, .agg (bs D).toArray)]) rfl B3.out) hHeld ?_
  try simp only [Act.put, List.setIfInBounds_toArray, List.set_cons_zero, List.set_cons_succ]
  refine wpAnyH_take (i := 4) (oi := ⟨some 20, .build 28 #[], _, _, _, none⟩) (v := .agg PZ.toArray) rfl (by kernel_rfl) (by kernel_rfl) (by kernel_rfl) (fun _ _ _ h => h) (yieldsIf_buildP (by rfl) 28 #[] rfl (ps := []) rfl B4.out) hHeld ?_
  try simp only [Act.put, List.setIfInBounds_toArray, List.set_cons_zero, List.set_cons_succ]
  refine wpAnyH_ready (rs := [0]) (by kernel_rfl) (by simp) ?_
  refine AllReadyH.cons (o := ⟨some 16, .call { callee := .value (.func 22), args := #[.const (.int .i64 32)], argTypes := #[3] }, _, _, _, none⟩) rfl (fun K hK => ?_) AllReadyH.nil
  refine step_ofR (by rfl) ?_
  go_simp
  refine (HEM.out _ ((hB2.trans (hB4.out.mono hB2.size)).trans (hHeld.mono (hB2.trans (hB4.out.mono hB2.size)).size))).mono ?_
  rintro ee U0 ⟨rfl, hb0⟩
  refine hK.out _ _ (Bt hHeld hb0) (fun hHeld => ?_)
  clear hK K
  try simp only [Act.put, List.setIfInBounds_toArray, List.set_cons_zero, List.set_cons_succ]
  refine wpAnyH_ready (rs := [5]) (by kernel_rfl) (by simp) ?_
  refine AllReadyH.cons (o := ⟨some 21, .call { callee := .value (.func 8), args := #[.const (.int .i64 32), .tmp 16, .tmp 17, .tmp 19, .tmp 20], argTypes := #[3, 23, 23, 25, 28] }, _, _, _, none⟩) rfl (fun K hK => ?_) AllReadyH.nil
  refine step_ofR (by rfl) ?_
  go_simp
  refine (HC.out _ ((hB2.trans (hB4.out.mono hB2.size)).trans (hHeld.mono (hB2.trans (hB4.out.mono hB2.size)).size))).mono ?_
  rintro ee U5 ⟨rfl, hb6⟩
  refine hK.out _ _ (Bt hHeld hb6) (fun hHeld => ?_)
  clear hK K
  try simp only [Act.put, List.setIfInBounds_toArray, List.set_cons_zero, List.set_cons_succ]
  refine wpAnyH_ready (rs := [6]) (by kernel_rfl) (by simp) ?_
  refine AllReadyH.cons (o := ⟨some 4, .assign (.tmp 21), _, _, _, none⟩) rfl (fun K hK => ?_) AllReadyH.nil
  refine step_ofR (by rfl) ?_
  go_simp
  refine hK.out _ _ (hHeld) (fun hHeld => ?_)
  clear hK K
  try simp only [Act.put, List.setIfInBounds_toArray, List.set_cons_zero, List.set_cons_succ]
  refine wpAnyH_done (by kernel_rfl) ?_ _
  -- END checks4
  have hB5 := hB2.trans ((Bt hB4.out hHeld).mono hB2.size)
  clear hHeld
  go_wp2_with fail
  go_ret
  exact ⟨rfl, hB5⟩
end
end
/-! Rows of slices of a call's own; the walks of package proof: hashed; of the library: Reverse, Equal. -/
section
open Go.RowKit
set_option maxRecDepth 100000

/-- what is summed from a place on, down to another one -/
def sumF (x : Nat) (p : List UInt8) (sibs : List (List UInt8)) (at_ : Nat) : Nat → List UInt8 → List UInt8
  | 0, b => b
  | k + 1, b => if k < at_ then b else sumF x p sibs at_ k (innerB p k (shortB x b) (sibs.getD k []))
theorem sumF_less (x : Nat) (p : List UInt8) (sibs : List (List UInt8)) (at_ k : Nat) (b : List UInt8) (h : k ≤ at_) : sumF x p sibs at_ k b = b := by
  cases k with
  | zero => rfl
  | succ k => rw [sumF, if_pos (by omega)]
theorem sumF_more (x : Nat) (p : List UInt8) (sibs : List (List UInt8)) (at_ k : Nat) (b : List UInt8) (h : at_ ≤ k) : sumF x p sibs at_ (k + 1) b = sumF x p sibs at_ k (innerB p k (shortB x b) (sibs.getD k [])) := by
  rw [sumF, if_neg (by omega)]

theorem sumF_short {x : Nat} (hx : x ≤ 32) {p : List UInt8} {sibs : List (List UInt8)} (hk : okd sibs) (at_ : Nat) : ∀ (k : Nat) (b : List UInt8), k ≤ sibs.length → b.length ≤ 65 → (sumF x p sibs at_ k b).length ≤ 65
  | 0, _, _, h => h
  | k + 1, b, hs, h => by
    by_cases hl : k + 1 ≤ at_
    · rw [sumF_less _ _ _ _ _ _ hl]; exact h
    · rw [sumF_more _ _ _ _ _ _ (by omega)]
      exact sumF_short hx hk at_ k _ (by omega) (by rw [innerB_len (shortB_length _ _ hx) (hk.at (by omega))]; exact Nat.le_refl _)

def slv (y : Yl) : Value := .slice y.a y.m y.c
/-- a row of slices of the call's own -/
def OwnS (w : World) (base : Nat) (v : Value) (l : List Yl) : Prop := w.ownsRow base 35 1 v l.length (l.map slv)
theorem OwnS.nil0 (w : World) (base : Nat) : OwnS w base (.slice none 0 0) [] := World.ownsRow_nil w base 35 1
theorem OwnS.shape {w base v l} (h : OwnS w base v l) : ∃ a c, v = .slice a l.length c := by
  rcases h.2 with ⟨rfl, h2⟩ | ⟨g, cap, cur, rfl, _⟩
  · exact ⟨none, 0, by rw [h2]⟩
  · exact ⟨_, _, rfl⟩
theorem OwnS.kept {w w' : World} {base : Nat} {v : Value} {l : List Yl} {row : Option Nat} (h : OwnS w base v l) (hg : w.grownBy w' row) (hne : ∀ x, v.ownBlock = some x → row ≠ some x) : OwnS w' base v l := by
  refine ⟨h.1, ?_⟩
  rcases h.2 with h2 | ⟨g, cap, cur, hv, hb, hh, r⟩
  · exact .inl h2
  · exact .inr ⟨g, cap, cur, hv, hb, (hg.block g (lt_of_block hh) (fun e => hne g (by rw [hv]; rfl) e.symm)).trans hh, r⟩
theorem OwnS.lt {w : World} {base : Nat} {v : Value} {l : List Yl} (h : OwnS w base v l) {x : Nat} (e : v.ownBlock = some x) : base ≤ x ∧ x < w.heap.size := World.ownsRow.lt h x e
theorem OwnS.block {w base v l} (h : OwnS w base v l) {r : Nat} (e : v.ownBlock = some r) : ∃ c f, w.heap[r]? = some (.cells c 35 f) := by
  rcases h.2 with ⟨rfl, h2⟩ | ⟨g, cap, cur, rfl, _, hg, _⟩
  · simp [Value.ownBlock] at e
  · simp only [Value.ownBlock, Option.some.injEq] at e
    subst e
    exact ⟨_, _, hg⟩
theorem infoS : (Tryd.prog.info? 35).map (fun i => (i.zero, i.size, i.bytes)) = some (some (.slice none 0 0), 1, 24) := by kernel_rfl

/-- append(s, b) of one slice -/
theorem wp_appS {w : World} {o : Oper} {a : Act} {K : Act → World → Prop} {Q : Exit → Act → World → Prop} (s x : Operand)
    (ho : o.op = Op.call { callee := Callee.builtin Builtin.append, args := #[s, x], argTypes := #[56, 56] })
    {base : Nat} {v : Value} {q : List Yl} {y : Yl} {ad : Addr} {c : Nat} (hs : a.eval s = v) (hO : OwnS w base v q) (hx : a.eval x = .slice (some ad) 1 c) (hR : w.cell? ad = some (slv y))
    (hsz : q.length ≤ 1000000) (hbase : base ≤ w.heap.size)
    (hK : ∀ v' w', OwnS w' base v' (q ++ [y]) → w.grownBy w' v.ownBlock → K (a.put o.dst v') w') :
    Oper.wp Tryd.prog o a w K Q := by
  obtain ⟨i, hi, hz0, hz1, hz2⟩ := info_parts infoS
  obtain ⟨v', w', hr, h1, h2, _, _⟩ := run_append_own_at (P := Tryd.prog) w base 56 o.type 35 i (.slice none 0 0) 1 24 Tryd.underlying56 hi hz0 hz1 hz2 rfl (by decide) v q.length (q.map slv) hO ad 1 c [slv y] rfl (fun j u hj => by
    match j with
    | 0 => simp at hj; subst hj; simpa [Addr.add] using hR
    | j + 1 => simp at hj) (fun u hu => by simp at hu; subst hu; rfl) (by unfold maxLen; omega) (by omega) hbase
  have hO' : OwnS w' base v' (q ++ [y]) := by
    unfold OwnS
    rw [List.length_append, List.map_append]
    exact h1
  unfold Oper.wp execOp
  simp only [ho, resolve, invoke, builtin, Sem.run_bind, Sem.run_pure, Result.andThen_ok, List.map_toArray, List.map_cons, List.map_nil, hs, hx, hr]
  exact hK v' w' hO' h2
theorem wpListIn_appS {n : Nat} {F : Fence} [Wide F] {w : World} {ops : Array Oper} {rest : List Oper} {o : Oper} {a : Act} {Q : Exit → Act → World → Prop} (hgd : o.guard = none) (s x : Operand)
    (ho : o.op = Op.call { callee := Callee.builtin Builtin.append, args := #[s, x], argTypes := #[56, 56] })
    {base : Nat} {v : Value} {q : List Yl} {y : Yl} {ad : Addr} {c : Nat} (hs : a.eval s = v) (hO : OwnS w base v q) (hx : a.eval x = .slice (some ad) 1 c) (hR : w.cell? ad = some (slv y))
    (hsz : q.length ≤ 1000000) (hbase : base ≤ w.heap.size)
    (hK : ∀ v' w', OwnS w' base v' (q ++ [y]) → w.grownBy w' v.ownBlock → wpListIn F n Tryd.prog ops Q rest (a.put o.dst v') w') :
    wpListIn F n Tryd.prog ops Q (o :: rest) a w :=
  listIn_of hgd (fun c e => by rw [ho] at e; cases e) fun _ hK' => wp_appS s x ho hs hO hx hR hsz hbase fun v' w' h1 h2 => hK' _ _ (hK v' w' h1 h2)

/-- what is known of what was yielded -/
structure YOk (w : World) (base : Nat) (l : List Yl) : Prop where
  own : ∀ y ∈ l, Own w base (.slice y.a y.m y.c) y.q
theorem YOk.kept {w w' : World} {base : Nat} {l : List Yl} {row : Option Nat} (h : YOk w base l) (hg : w.grownBy w' row) (hne : ∀ y ∈ l, ∀ x, (Value.slice y.a y.m y.c).ownBlock = some x → row ≠ some x) : YOk w' base l := ⟨fun y hy => by
  refine World.ownsRow.kept (h.own y hy) hg ?_
  by_cases hr : row = none
  · subst hr
    cases hb : (Value.slice y.a y.m y.c).ownBlock with
    | none => exact .inl rfl
    | some x => exact .inr (by simp)
  · obtain ⟨r, rfl⟩ := Option.ne_none_iff_exists'.1 hr
    exact .inr (fun e => hne y hy r e rfl)⟩
/-- what hashed's loop carries -/
structure HsI (w W : World) (l : List Yl) : Prop where
  bel : Below w.heap.size w W
  ex : ∃ v, Blk W (w.heap.size + 1 + 1 + 1) 56 [v] ∧ OwnS W w.heap.size v l
  yok : YOk W w.heap.size l
theorem HsI.obj {w W W' : World} {l : List Yl} (h : HsI w W l) {row : Option Nat} (hg : W.grownBy W' row) (hr : ∀ k, row = some k → w.heap.size ≤ k ∧ ∃ o : Obj, W.heap[k]? = some o ∧ o.isCells = false) : HsI w W' l := by
  have key : ∀ g, (∃ c t f, W.heap[g]? = some (.cells c t f)) → row ≠ some g := fun g hb e => by
    obtain ⟨c, t, f, hb⟩ := hb
    obtain ⟨_, o, ho, hc⟩ := hr g e
    rw [hb] at ho
    cases ho
    simp [Obj.isCells] at hc
  obtain ⟨v, h1, h2⟩ := h.ex
  refine ⟨h.bel.grown hg h.bel.size (fun k e => (hr k e).1), ⟨v, h1.grown hg (key _ ⟨_, _, _, h1.at_⟩), h2.kept hg (fun x e => ?_)⟩, h.yok.kept hg (fun y hy x e => ?_)⟩
  · obtain ⟨c, f, hb⟩ := h2.block e
    exact key x ⟨c, _, f, hb⟩
  · intro e2
    obtain ⟨_, o, ho, hc⟩ := hr x e2
    exact Own.ne_obj (h.yok.own y hy) ho hc e

theorem hs_blk {w W w1 : World} {pre : List Yl} {v : Value} {o : Obj} {S : Nat} (hS : Blk W S 56 [v]) (hO : OwnS W w.heap.size v pre) (hg : (W.alloc o).grownBy w1 v.ownBlock) : Blk w1 S 56 [v] :=
  (hS.alloc o).grown hg (fun e => by
    obtain ⟨c, f, hc⟩ := hO.block e
    rw [hS.at_] at hc
    injection hc with hc
    injection hc with _ hc _
    exact absurd hc (by decide))
theorem hs_step {w W w1 : World} {pre : List Yl} {y : Yl} {v v' : Value} {o : Obj} (hB : Below w.heap.size w W) (hS : Blk W (w.heap.size + 1 + 1 + 1) 56 [v]) (hO : OwnS W w.heap.size v pre) (hY : YOk W w.heap.size pre)
    (hy : Own W w.heap.size (.slice y.a y.m y.c) y.q) (hO1 : OwnS w1 w.heap.size v' (pre ++ [y])) (hg : (W.alloc o).grownBy w1 v.ownBlock) :
    KeepsOthers W (w1.setCell ⟨w.heap.size + 1 + 1 + 1, 0, none⟩ v') ∧ Stay w (fun _ => False) (fun t => t = 35 ∨ t = 56) W (w1.setCell ⟨w.heap.size + 1 + 1 + 1, 0, none⟩ v') ∧ HsI w (w1.setCell ⟨w.heap.size + 1 + 1 + 1, 0, none⟩ v') (pre ++ [y]) := by
  have hgw : W.grownBy w1 v.ownBlock := by
    refine ⟨hg.os, hg.tape, hg.output, by have := hg.size; simp at this; omega, fun k hk hne => ?_⟩
    rw [hg.block k (by simp; omega) hne, Below.heap_alloc _ _ _ hk]
  have hbl := fun r (e : v.ownBlock = some r) => hO.block e
  have hS1 := hS.grown hgw (fun e => by
    obtain ⟨c, f, hc⟩ := hbl _ e
    rw [hS.at_] at hc
    injection hc with hc
    injection hc with _ hc _
    exact absurd hc (by decide))
  have hs2 := set_grown w1 (w.heap.size + 1 + 1 + 1) 0 v'
  have hneU : ∀ {W' : World} {z : Yl} {q : List UInt8}, Own W' w.heap.size (.slice z.a z.m z.c) q → ∀ x, (Value.slice z.a z.m z.c).ownBlock = some x → ∀ c t f, W'.heap[x]? = some (.cells c t f) → t = 5 := fun {W' z q} h x e c t f hc => by
    rcases Classical.em (t = 5) with ht | ht
    · exact ht
    · exact absurd e (Own.ne h hc ht)
  have kee : ∀ {z : Yl}, Own W w.heap.size (.slice z.a z.m z.c) z.q → Own (w1.setCell ⟨w.heap.size + 1 + 1 + 1, 0, none⟩ v') w.heap.size (.slice z.a z.m z.c) z.q := fun {z} hz => by
    have h1 : Own w1 w.heap.size (.slice z.a z.m z.c) z.q := by
      refine World.ownsRow.kept hz hgw ?_
      by_cases hr : v.ownBlock = none
      · rw [hr]
        cases hb : (Value.slice z.a z.m z.c).ownBlock with
        | none => exact .inl rfl
        | some x => exact .inr (by simp)
      · obtain ⟨r, hr⟩ := Option.ne_none_iff_exists'.1 hr
        refine .inr (fun e => ?_)
        rw [hr] at e
        obtain ⟨c, f, hc⟩ := hbl r hr
        exact absurd (hneU hz r e _ _ _ hc) (by decide)
    refine World.ownsRow.kept h1 hs2 (.inr (fun e => ?_))
    exact absurd (hneU h1 _ e _ _ _ hS1.at_) (by decide)
  refine ⟨(KeepsOthers.of_grownBy hgw (fun j o' e ho => ?_)).trans (KeepsOthers.setCell _ _ _), Stay.trans ?_ (stay_turn hs2 (by omega) (.inr ⟨_, _, _, hS1.at_, .inr rfl⟩)), ⟨?_, ⟨v', ?_, ?_⟩, ⟨fun z hz => ?_⟩⟩⟩
  · obtain ⟨c, f, hc⟩ := hbl j e
    rw [ho] at hc
    cases hc
    rfl
  · cases hr : v.ownBlock with
    | none => rw [hr] at hgw; exact stay_new hgw
    | some r =>
      rw [hr] at hgw
      obtain ⟨c, f, hc⟩ := hbl r hr
      exact stay_turn hgw (hO.lt hr).1 (.inr ⟨_, _, _, hc, .inl rfl⟩)
  · exact (hB.grown hgw hB.size (fun k e => (hO.lt e).1)).setCell (p := ⟨w.heap.size + 1 + 1 + 1, 0, none⟩) (by show w.heap.size ≤ w.heap.size + 1 + 1 + 1; omega) _
  · exact hS1.set 0 v'
  · refine hO1.kept hs2 (fun x e e2 => ?_)
    injection e2 with e2
    subst e2
    obtain ⟨c, f, hc⟩ := hO1.block e
    rw [hS1.at_] at hc
    injection hc with hc
    injection hc with _ hc _
    exact absurd hc (by decide)
  · rcases List.mem_append.1 hz with hz | hz
    · exact kee (hY.own z hz)
    · rw [List.mem_singleton.1 hz]; exact kee hy
end
/-! The walks of the library: Reverse of slices, on a row of the call's own. -/
section
open Go.RowKit
set_option maxRecDepth 100000

def yl0 : Yl := ⟨none, 0, 0, [], []⟩
/-- a list, turned round as far as k from both ends -/
structure RevK (l cl : List Yl) (k : Nat) : Prop where
  len : cl.length = l.length
  got : ∀ t, t < l.length → cl.getD t yl0 = if t < k ∨ l.length - k ≤ t then l.getD (l.length - 1 - t) yl0 else l.getD t yl0
theorem RevK.zero (l : List Yl) : RevK l l 0 := ⟨rfl, fun t ht => by rw [if_neg (by omega)]⟩
theorem getD_set (l : List Yl) (i t : Nat) (y : Yl) (hi : i < l.length) : (l.set i y).getD t yl0 = if t = i then y else l.getD t yl0 := by
  by_cases h : t = i
  · subst h
    simp [List.getD, hi]
  · rw [if_neg h]
    simp [List.getD, List.getElem?_set_ne (Ne.symm h)]
theorem RevK.step {l cl : List Yl} {k : Nat} (h : RevK l cl k) (hk : k < l.length - 1 - k) : RevK l ((cl.set k (cl.getD (l.length - 1 - k) yl0)).set (l.length - 1 - k) (cl.getD k yl0)) (k + 1) := by
  have hl := h.len
  refine ⟨by simp [hl], fun t ht => ?_⟩
  rw [getD_set _ _ _ _ (by simp; omega), getD_set _ _ _ _ (by omega)]
  by_cases h1 : t = l.length - 1 - k
  · rw [if_pos h1, if_pos (by omega), h.got k (by omega), if_neg (by omega), h1]
    congr 1
    omega
  · rw [if_neg h1]
    by_cases h2 : t = k
    · rw [if_pos h2, if_pos (by omega), h.got _ (by omega), if_neg (by omega), h2]
    · rw [if_neg h2, h.got t ht]
      by_cases h3 : t < k ∨ l.length - k ≤ t
      · rw [if_pos h3, if_pos (by omega)]
      · rw [if_neg h3, if_neg (by omega)]
theorem RevK.done {l cl : List Yl} {k : Nat} (h : RevK l cl k) (hk : ¬ k < l.length - 1 - k) : cl = l.reverse := by
  have hl := h.len
  refine List.ext_getElem (by simp [hl]) fun t h1 h2 => ?_
  have hg := h.got t (by omega)
  rw [List.getElem_reverse]
  have e1 : cl.getD t yl0 = cl[t] := by simp [List.getD, h1]
  have e2 : l.getD (l.length - 1 - t) yl0 = l[l.length - 1 - t]'(by omega) := by simp [List.getD, show l.length - 1 - t < l.length by omega]
  rw [e1] at hg
  rw [hg]
  by_cases h3 : t < k ∨ l.length - k ≤ t
  · rw [if_pos h3, e2]
  · have e3 : l.getD t yl0 = l[t]'(by omega) := by simp [List.getD, show t < l.length by omega]
    rw [if_neg h3, e3]
    congr 1
    omega
/-- the row, in memory -/
structure SlAt (W : World) (g n c : Nat) (cl : List Yl) : Prop where
  ex : ∃ cur : List Value, Blk W g 35 cur ∧ cur.length = c ∧ cur.take n = cl.map slv
theorem SlAt.cell {W : World} {g n c : Nat} {cl : List Yl} (h : SlAt W g n c cl) {t : Nat} (ht : t < n) (hl : cl.length = n) : W.cell? ⟨g, t, none⟩ = some (slv (cl.getD t yl0)) := by
  obtain ⟨cur, h1, h2, h3⟩ := h.ex
  have e : cur[t]? = some (slv (cl.getD t yl0)) := by
    rw [← List.getElem?_take_of_lt ht, h3]
    simp [List.getD, show t < cl.length by omega]
  exact h1.cell e
theorem SlAt.free {W : World} {g n c : Nat} {cl : List Yl} (h : SlAt W g n c cl) (t : Nat) : W.frozen? ⟨g, t, none⟩ = false := by
  obtain ⟨cur, h1, _⟩ := h.ex
  exact h1.free t
theorem SlAt.drew {W : World} {g n c : Nat} {cl : List Yl} (h : SlAt W g n c cl) : SlAt W.drew g n c cl := by
  obtain ⟨cur, h1, h2⟩ := h.ex
  exact ⟨cur, h1.drew, h2⟩
theorem SlAt.set {W : World} {g n c : Nat} {cl : List Yl} (h : SlAt W g n c cl) (t : Nat) (y : Yl) : SlAt (W.setCell ⟨g, t, none⟩ (slv y)) g n c (cl.set t y) := by
  obtain ⟨cur, h1, h2, h3⟩ := h.ex
  exact ⟨cur.set t (slv y), h1.set t (slv y), by simp [h2], by rw [List.take_set, h3, List.map_set]⟩

theorem drew_none {W : World} : W.grownBy W.drew none := ⟨rfl, rfl, rfl, Nat.le_refl _, fun _ _ _ => rfl⟩
set_option maxHeartbeats 4000000 in
theorem reverse_at (w : World) (g n c : Nat) (l : List Yl) (hS : SlAt w g n c l) (hl : l.length = n) (hn : n ≤ 1000) :
    Calls Tryd.prog 49 #[.slice (some ⟨g, 0, none⟩) n c] w fun e w' => e = .returned (.tuple #[]) ∧ SlAt w' g n c l.reverse ∧ w.grownBy w' (some g) := by
  have hwn : IntKind.i64.wrap ((n : Int) - 1) = (n : Int) - 1 := IntWalk.i64_in _ (by omega)
  have HS := Lib.hid hS
  have HL := Lib.hid hl
  clear hS hl
  go_enter Tryd.func49, Tryd.ntmps49
  go_wp2
  go_loopw [2, 3] (fun iv jv wr => ∃ (k : Nat) (z : Int) (cl : List Yl), iv = .int .i64 (k : Int) ∧ jv = .int .i64 z ∧ z = (n : Int) - 1 - k ∧ (k : Int) ≤ z + 1 ∧ SlAt wr g n c cl ∧ Hid (RevK l cl k) ∧ w.grownBy wr (some g)) (fun _ jv _ => (intOf jv + 1).toNat)
  case atStart => exact ⟨0, (n : Int) - 1, l, rfl, rfl, by omega, by omega, HS.out, Lib.hid (RevK.zero l), World.grownBy.refl _ _⟩
  case round =>
    obtain ⟨k, z, cl, rfl, rfl, hz, hkz, hSr, hrk, hg⟩ := hrel
    by_cases hlt : (k : Int) < z
    · obtain ⟨j, rfl⟩ := Int.eq_ofNat_of_zero_le (show 0 ≤ z by omega)
      have hj : j = n - 1 - k := by omega
      have hkn : (k : Int) < (n : Int) := by omega
      have hjn : (j : Int) < (n : Int) := by omega
      have hcl := hrk.out.len
      have hci := hSr.cell (t := k) (by omega) (by rw [hcl]; exact HL.out)
      have hcj := hSr.cell (t := j) (by omega) (by rw [hcl]; exact HL.out)
      have hfi := hSr.free k
      have hfj := hSr.free j
      have hki : IntKind.i64.wrap ((k : Int) + 1) = ((k + 1 : Nat) : Int) := IntWalk.i64_in _ (by omega)
      have hji : IntKind.i64.wrap ((j : Int) - 1) = (j : Int) - 1 := IntWalk.i64_in _ (by omega)
      have HST : Hid (RevK l ((cl.set k (cl.getD j yl0)).set j (cl.getD k yl0)) (k + 1)) := Lib.hid (by
        have := hrk.out.step (by rw [HL.out]; omega)
        rw [HL.out, ← hj] at this
        exact this)
      have HSr := Lib.hid hSr
      have hkj : k ≠ j := by omega
      have HJ := Lib.hid hj
      clear hSr hcl hrk hz hkz hj
      have HS2 : Hid (∀ W : World, SlAt W g n c cl → SlAt ((W.setCell ⟨g, k, none⟩ (slv (cl.getD j yl0))).setCell ⟨g, j, none⟩ (slv (cl.getD k yl0))) g n c ((cl.set k (cl.getD j yl0)).set j (cl.getD k yl0))) := Lib.hid (fun W h => (h.set k _).set j _)
      unfold slv at hci hcj HS2
      generalize cl.getD j yl0 = yj at *
      generalize cl.getD k yl0 = yk at *
      go_wp2_with fail
      -- REGION rev 6
      refine wp_region_any (by kernel_rfl) ?_
      change wpAny _ _ _ _ _ _ _ (World.drew _)
      refine wpAny_take (i := 0) (oi := ⟨some 14, .move (.tmp 0), _, _, _, none⟩) (v := ?_) rfl (by kernel_rfl) (by kernel_rfl) (by kernel_rfl) (fun _ _ _ h => h) (Or.inl ⟨by rfl, ?_⟩) ?_
      rotate_left
      · intro W; go_simp; try with_reducible rfl
      try simp only [Act.put, List.setIfInBounds_toArray, List.set_cons_zero, List.set_cons_succ]
      refine wpAny_take (i := 1) (oi := ⟨some 15, .move (.tmp 2), _, _, _, none⟩) (v := ?_) rfl (by kernel_rfl) (by kernel_rfl) (by kernel_rfl) (fun _ _ _ h => h) (Or.inl ⟨by rfl, ?_⟩) ?_
      rotate_left
      · intro W; go_simp; try with_reducible rfl
      try simp only [Act.put, List.setIfInBounds_toArray, List.set_cons_zero, List.set_cons_succ]
      refine wpAny_take (i := 2) (oi := ⟨some 16, .move (.tmp 0), _, _, _, none⟩) (v := ?_) rfl (by kernel_rfl) (by kernel_rfl) (by kernel_rfl) (fun _ _ _ h => h) (Or.inl ⟨by rfl, ?_⟩) ?_
      rotate_left
      · intro W; go_simp; try with_reducible rfl
      try simp only [Act.put, List.setIfInBounds_toArray, List.set_cons_zero, List.set_cons_succ]
      refine wpAny_take (i := 3) (oi := ⟨some 17, .move (.tmp 3), _, _, _, none⟩) (v := ?_) rfl (by kernel_rfl) (by kernel_rfl) (by kernel_rfl) (fun _ _ _ h => h) (Or.inl ⟨by rfl, ?_⟩) ?_
      rotate_left
      · intro W; go_simp; try with_reducible rfl
      try simp only [Act.put, List.setIfInBounds_toArray, List.set_cons_zero, List.set_cons_succ]
      refine wpAny_take (i := 4) (oi := ⟨some 18, .move (.tmp 0), _, _, _, none⟩) (v := ?_) rfl (by kernel_rfl) (by kernel_rfl) (by kernel_rfl) (fun _ _ _ h => h) (Or.inl ⟨by rfl, ?_⟩) ?_
      rotate_left
      · intro W; go_simp; try with_reducible rfl
      try simp only [Act.put, List.setIfInBounds_toArray, List.set_cons_zero, List.set_cons_succ]
      refine wpAny_take (i := 5) (oi := ⟨some 19, .move (.tmp 3), _, _, _, none⟩) (v := ?_) rfl (by kernel_rfl) (by kernel_rfl) (by kernel_rfl) (fun _ _ _ h => h) (Or.inl ⟨by rfl, ?_⟩) ?_
      rotate_left
      · intro W; go_simp; try with_reducible rfl
      try simp only [Act.put, List.setIfInBounds_toArray, List.set_cons_zero, List.set_cons_succ]
      refine wpAny_take (i := 6) (oi := ⟨some 20, .indexAddr 56 (.tmp 18) (.tmp 19), _, _, _, none⟩) (v := ?_) rfl (by kernel_rfl) (by kernel_rfl) (by kernel_rfl) (fun _ _ _ h => h) (Or.inl ⟨by rfl, ?_⟩) ?_
      rotate_left
      · intro W; go_simp; try with_reducible rfl
      try simp only [Act.put, List.setIfInBounds_toArray, List.set_cons_zero, List.set_cons_succ]
      refine wpAny_take (i := 8) (oi := ⟨some 22, .move (.tmp 0), _, _, _, none⟩) (v := ?_) rfl (by kernel_rfl) (by kernel_rfl) (by kernel_rfl) (fun _ _ _ h => h) (Or.inl ⟨by rfl, ?_⟩) ?_
      rotate_left
      · intro W; go_simp; try with_reducible rfl
      try simp only [Act.put, List.setIfInBounds_toArray, List.set_cons_zero, List.set_cons_succ]
      refine wpAny_take (i := 9) (oi := ⟨some 23, .move (.tmp 2), _, _, _, none⟩) (v := ?_) rfl (by kernel_rfl) (by kernel_rfl) (by kernel_rfl) (fun _ _ _ h => h) (Or.inl ⟨by rfl, ?_⟩) ?_
      rotate_left
      · intro W; go_simp; try with_reducible rfl
      try simp only [Act.put, List.setIfInBounds_toArray, List.set_cons_zero, List.set_cons_succ]
      refine wpAny_take (i := 10) (oi := ⟨some 24, .indexAddr 56 (.tmp 22) (.tmp 23), _, _, _, none⟩) (v := ?_) rfl (by kernel_rfl) (by kernel_rfl) (by kernel_rfl) (fun _ _ _ h => h) (Or.inl ⟨by rfl, ?_⟩) ?_
      rotate_left
      · intro W; go_simp; try with_reducible rfl
      try simp only [Act.put, List.setIfInBounds_toArray, List.set_cons_zero, List.set_cons_succ]
      refine wpAny_ready (rs := [7, 11]) (by kernel_rfl) (by simp) ?_
      refine AllReady.cons (o := ⟨some 21, .load 35 (.tmp 20), _, _, _, none⟩) rfl (fun K hK => ?_) (AllReady.cons (o := ⟨some 25, .load 35 (.tmp 24), _, _, _, none⟩) rfl (fun K hK => ?_) AllReady.nil)
      · refine step_ofR (by rfl) ?_
        go_simp
        refine hK _ _ ?_
        clear hK K
        try simp only [Act.put, List.setIfInBounds_toArray, List.set_cons_zero, List.set_cons_succ]
        refine wpAny_ready (rs := [11]) (by kernel_rfl) (by simp) ?_
        refine AllReady.cons (o := ⟨some 25, .load 35 (.tmp 24), _, _, _, none⟩) rfl (fun K hK => ?_) AllReady.nil
        refine step_ofR (by rfl) ?_
        go_simp
        refine hK _ _ ?_
        clear hK K
        try simp only [Act.put, List.setIfInBounds_toArray, List.set_cons_zero, List.set_cons_succ]
        refine wpAny_take (i := 12) (oi := ⟨some 26, .indexAddr 56 (.tmp 14) (.tmp 15), _, _, _, none⟩) (v := ?_) rfl (by kernel_rfl) (by kernel_rfl) (by kernel_rfl) (fun _ _ _ h => h) (Or.inl ⟨by rfl, ?_⟩) ?_
        rotate_left
        · intro W; go_simp; try with_reducible rfl
        try simp only [Act.put, List.setIfInBounds_toArray, List.set_cons_zero, List.set_cons_succ]
        refine wpAny_ready (rs := [13]) (by kernel_rfl) (by simp) ?_
        refine AllReady.cons (o := ⟨none, .store 35 (.tmp 26) (.tmp 21), _, _, _, none⟩) rfl (fun K hK => ?_) AllReady.nil
        refine step_ofR (by rfl) ?_
        go_simp
        refine hK _ _ ?_
        clear hK K
        try simp only [Act.put, List.setIfInBounds_toArray, List.set_cons_zero, List.set_cons_succ]
        refine wpAny_take (i := 14) (oi := ⟨some 27, .indexAddr 56 (.tmp 16) (.tmp 17), _, _, _, none⟩) (v := ?_) rfl (by kernel_rfl) (by kernel_rfl) (by kernel_rfl) (fun _ _ _ h => h) (Or.inl ⟨by rfl, ?_⟩) ?_
        rotate_left
        · intro W; go_simp; try with_reducible rfl
        try simp only [Act.put, List.setIfInBounds_toArray, List.set_cons_zero, List.set_cons_succ]
        refine wpAny_ready (rs := [15]) (by kernel_rfl) (by simp) ?_
        refine AllReady.cons (o := ⟨none, .store 35 (.tmp 27) (.tmp 25), _, _, _, none⟩) rfl (fun K hK => ?_) AllReady.nil
        refine step_ofR (by rfl) ?_
        go_simp
        refine hK _ _ ?_
        clear hK K
        try simp only [Act.put, List.setIfInBounds_toArray, List.set_cons_zero, List.set_cons_succ]
        refine wpAny_done (by kernel_rfl) ?_ _
        have hSn := HS2.out _ HSr.out
        have hgn := grown2 hg (grown2 (set_grown wr g k (.slice yj.a yj.m yj.c)) (set_grown _ g j (.slice yk.a yk.m yk.c)) (fun _ e => .inr e)) (fun _ e => .inr e)
        replace hSn := hSn.drew
        replace hgn := grown2 hgn drew_none (fun _ e => by cases e)
        simp only [Exit.inBlock, Exit.then]
        clear hci hcj hfi hfj HSr HS2 HS
        generalize ((wr.setCell ⟨g, k, none⟩ (.slice yj.a yj.m yj.c)).setCell ⟨g, j, none⟩ (.slice yk.a yk.m yk.c)).drew = w2 at *
        go_wp2_with fail
        go_roundw
        case rel => exact ⟨k + 1, (j : Int) - 1, _, by go_num, by go_num, by have := HJ.out; omega, by omega, hSn, HST, hgn⟩
        case measure => simp [intOf]
      · refine step_ofR (by rfl) ?_
        go_simp
        refine hK _ _ ?_
        clear hK K
        try simp only [Act.put, List.setIfInBounds_toArray, List.set_cons_zero, List.set_cons_succ]
        refine wpAny_ready (rs := [7]) (by kernel_rfl) (by simp) ?_
        refine AllReady.cons (o := ⟨some 21, .load 35 (.tmp 20), _, _, _, none⟩) rfl (fun K hK => ?_) AllReady.nil
        refine step_ofR (by rfl) ?_
        go_simp
        refine hK _ _ ?_
        clear hK K
        try simp only [Act.put, List.setIfInBounds_toArray, List.set_cons_zero, List.set_cons_succ]
        refine wpAny_take (i := 12) (oi := ⟨some 26, .indexAddr 56 (.tmp 14) (.tmp 15), _, _, _, none⟩) (v := ?_) rfl (by kernel_rfl) (by kernel_rfl) (by kernel_rfl) (fun _ _ _ h => h) (Or.inl ⟨by rfl, ?_⟩) ?_
        rotate_left
        · intro W; go_simp; try with_reducible rfl
        try simp only [Act.put, List.setIfInBounds_toArray, List.set_cons_zero, List.set_cons_succ]
        refine wpAny_ready (rs := [13]) (by kernel_rfl) (by simp) ?_
        refine AllReady.cons (o := ⟨none, .store 35 (.tmp 26) (.tmp 21), _, _, _, none⟩) rfl (fun K hK => ?_) AllReady.nil
        refine step_ofR (by rfl) ?_
        go_simp
        refine hK _ _ ?_
        clear hK K
        try simp only [Act.put, List.setIfInBounds_toArray, List.set_cons_zero, List.set_cons_succ]
        refine wpAny_take (i := 14) (oi := ⟨some 27, .indexAddr 56 (.tmp 16) (.tmp 17), _, _, _, none⟩) (v := ?_) rfl (by kernel_rfl) (by kernel_rfl) (by kernel_rfl) (fun _ _ _ h => h) (Or.inl ⟨by rfl, ?_⟩) ?_
        rotate_left
        · intro W; go_simp; try with_reducible rfl
        try simp only [Act.put, List.setIfInBounds_toArray, List.set_cons_zero, List.set_cons_succ]
        refine wpAny_ready (rs := [15]) (by kernel_rfl) (by simp) ?_
        refine AllReady.cons (o := ⟨none, .store 35 (.tmp 27) (.tmp 25), _, _, _, none⟩) rfl (fun K hK => ?_) AllReady.nil
        refine step_ofR (by rfl) ?_
        go_simp
        refine hK _ _ ?_
        clear hK K
        try simp only [Act.put, List.setIfInBounds_toArray, List.set_cons_zero, List.set_cons_succ]
        refine wpAny_done (by kernel_rfl) ?_ _
        have hSn := HS2.out _ HSr.out
        have hgn := grown2 hg (grown2 (set_grown wr g k (.slice yj.a yj.m yj.c)) (set_grown _ g j (.slice yk.a yk.m yk.c)) (fun _ e => .inr e)) (fun _ e => .inr e)
        replace hSn := hSn.drew
        replace hgn := grown2 hgn drew_none (fun _ e => by cases e)
        simp only [Exit.inBlock, Exit.then]
        clear hci hcj hfi hfj HSr HS2 HS
        generalize ((wr.setCell ⟨g, k, none⟩ (.slice yj.a yj.m yj.c)).setCell ⟨g, j, none⟩ (.slice yk.a yk.m yk.c)).drew = w2 at *
        go_wp2_with fail
        go_roundw
        case rel => exact ⟨k + 1, (j : Int) - 1, _, by go_num, by go_num, by have := HJ.out; omega, by omega, hSn, HST, hgn⟩
        case measure => simp [intOf]
      -- END rev
    · have hgf : ¬ (k : Int) < z := hlt
      have hd := hrk.out.done (by rw [HL.out]; omega)
      rw [hd] at hSr
      go_wp2_with fail
      go_end0
      exact ⟨rfl, hSr, hg⟩
end
/-! The walks of package proof: hashed; of the library: Equal. -/
section
open Go.RowKit
set_option maxRecDepth 100000

/-- what hashed hands back: slices that read as these bytes -/
structure HsAt (w w' : World) (a : Option Addr) (n c : Nat) (ys : List Yl) (qs : List (List UInt8)) : Prop where
  len : ys.length = n
  row : ∃ g, a = some ⟨g, 0, none⟩ ∧ SlAt w' g n c ys ∧ n ≤ c ∧ c ≤ maxLen ∧ w.heap.size ≤ g
  yok : YOk w' w.heap.size ys
  qs : ys.map Yl.q = qs
  few : ∀ y ∈ ys, y.q.length = y.m ∧ y.m ≤ 65
  bel : Below w.heap.size w w'
theorem OwnS.sl {w base a n c l} (h : OwnS w base (.slice a n c) l) (hn : 0 < n) : ∃ g, a = some ⟨g, 0, none⟩ ∧ SlAt w g n c l ∧ n ≤ c ∧ c ≤ maxLen ∧ base ≤ g := by
  rcases h.2 with ⟨hv, h2⟩ | ⟨g, cap, cur, hv, hb, hg, hnc, hcm, hcs, ht⟩
  · cases hv; omega
  · cases hv
    refine ⟨g, rfl, ⟨cur.toList, ⟨hg⟩, by simpa using hcs, ?_⟩, hnc, hcm, hb⟩
    rw [Nat.mul_one] at ht
    exact ht

section
attribute [local go_sem] Oper.semAt_some
set_option maxHeartbeats 4000000 in
theorem hashed_any (w : World) (x : Nat) (hx : x ≤ 32) (p : List UInt8) (hp : p.length = 32) (b : Bool) (v : List UInt8) (hv : v.length = 32) (a : Option Addr) (n c : Nat) (X : Pf) (hr : RdP6 w a n c X) (hn : n ≤ 256) (hT : Tab w 1) :
    Calls Tryd.prog 27 #[.int .i64 (x : Int), .agg (bs p).toArray, .agg (clc b v).toArray, .agg (pc a n c X).toArray] w fun e w' => ∃ a' c' ys, e = .returned (.slice a' (n + 1) c') ∧ HsAt w w' a' (n + 1) c' ys (chF x p X.sibs n (startB p b v X)).reverse := by
  refine callsIn_wide.1 (?_ : CallsIn Fence.wide 6 _ _ _ _ _)
  have hS := Bx3.start w w (Below.refl _ w) p b v (pc a n c X)
  have r1 := hS.p.allR
  have r2 := hS.c.allR
  have r3 := hS.x.allR
  have hB := hS.bel
  have hz0 : (((w.alloc (.cells (bs p).toArray 23)).alloc (.cells (clc b v).toArray 25)).alloc (.cells (pc a n c X).toArray 28)).heap.size = w.heap.size + 1 + 1 + 1 := by simp
  have h5 := Lib.hid (digP hp)
  have h6 := Lib.hid (infoClc (b := b) hv)
  have h7 := Lib.hid (size_of (a := a) (n := n) (c := c) hr.ok)
  have CH := Lib.hid (fun W : World => chain_any W x p b v a n c X)
  have CT := Lib.hid (fun (W : World) (s : Nat) (U : Nat → Prop) (T : TypeId → Prop) (hU : ∀ k, W.heap.size ≤ k → ¬ U k) (hA : Apart s U T) (hN : w.heap.size ≤ W.heap.size) (hI : ItAt w W s x p (clc b v) (pc a n c X)) => chain_tells w W s x hx p hp b v hv a n c X hr hn hT U T hU hA hN hI)
  have HLN : Hid ((chF x p X.sibs n (startB p b v X)).length = n + 1) := Lib.hid (chF_length x p X.sibs n _)
  have HN := Lib.hid hn
  clear hS hr hn hT hp hv hx
  generalize hC : clc b v = C at *
  generalize hP : pc a n c X = P at *
  generalize chF x p X.sibs n (startB p b v X) = qs at *
  generalize hw0 : ((w.alloc (.cells (bs p).toArray 23)).alloc (.cells C.toArray 25)).alloc (.cells P.toArray 28) = w0 at *
  clear hC hP
  have hb9 : Blk (w0.alloc (.cells #[.slice none 0 0] 56)) (w.heap.size + 1 + 1 + 1) 56 [.slice none 0 0] := by
    have := Blk.new w0 56 [.slice none 0 0]
    rw [hz0] at this
    exact this
  have hB09 : Below w0.heap.size w0 (w0.alloc (.cells #[.slice none 0 0] 56)) := (Below.refl _ w0).alloc (Nat.le_refl _) _
  have hz9 : (w0.alloc (.cells #[.slice none 0 0] 56)).heap.size = w.heap.size + 1 + 1 + 1 + 1 := by simp [hz0]
  have q1 := range_below hB09 r1
  have q2 := range_below hB09 r2
  have q3 := range_below hB09 r3
  have hBw := Bt hB hB09
  clear r1 r2 r3
  refine callsIn_of_wp_marks Tryd.func27 rfl trivial ?_ rfl
  simp only [Tryd.ntmps27, List.size_toArray, List.length_cons, List.length_nil, Nat.reduceAdd, Nat.reduceSub, Array.replicate_succ, Array.replicate_zero, List.push_toArray, List.append_toArray, List.nil_append, List.cons_append]
  have hf1 : Fence.wide.fn 41 := trivial
  gi_wp2_with (first
    | ((with_reducible refine wpListIn_loadP (o := ⟨some 12, _, _, _, _, _⟩) ?_ w.heap.size 0 23 (.tmp 5) ?_ ?_ q1 Tryd.underlying23 ?_ h5.out ?_); rfl; rfl; rfl; rfl)
    | ((with_reducible refine wpListIn_loadP (o := ⟨some 13, _, _, _, _, _⟩) ?_ (w.heap.size + 1) 0 25 (.tmp 6) ?_ ?_ q2 Tryd.underlying25 ?_ h6.out ?_); rfl; rfl; rfl; rfl)
    | ((with_reducible refine wpListIn_loadP (o := ⟨some 14, _, _, _, _, _⟩) ?_ (w.heap.size + 2) 0 28 (.tmp 7) ?_ ?_ q3 Tryd.underlying28 ?_ h7.out ?_); rfl; rfl; rfl; rfl)
    | (gi_at_call 41; refine (callsIn_wide.2 (CH.out _)).mono ?_; rintro e w3 ⟨rfl, hI3, hB3, hz3⟩))
  have hBw3 := Bt hBw hB3
  rw [hz9] at hI3 hz3
  have hI4 : ItAt w w3 (w.heap.size + 1 + 1 + 1 + 1) x p C P := ⟨Lies.of_below hBw3, hI3.wd, hI3.p, hI3.c, hI3.x⟩
  have hHs : HsI w w3 [] := ⟨hBw3, ⟨_, hb9.below hB3, OwnS.nil0 _ _⟩, ⟨fun y hy => by cases hy⟩⟩
  have hseq := CT.out w3 (w.heap.size + 1 + 1 + 1 + 1) (fun _ => False) (fun t => t = 35 ∨ t = 56) (fun _ _ h => h) ⟨id, id, id, id, by decide, by decide, by decide, by decide⟩ hBw3.size hI4
  clear CT CH q1 q2 q3 hI3 hI4 hB3 hb9 hB09 hBw hB
  refine wpIn_told rfl (by omega) (gf := 63) rfl trivial (enters_of Tryd.func63 (by kernel_rfl) rfl) hseq (fun _ => rfl) Stay.trans (fun W r' h r'' => h.loop' r'')
    (fun pre W => HsI w W pre ∧ ∀ y ∈ pre, y.q.length = y.m ∧ y.m ≤ 65) (fun pre W W' row h hg hr => ⟨h.1.obj hg (fun k e => ⟨by have := (hr k e).1; omega, (hr k e).2⟩), h.2⟩) ⟨hHs, fun y hy => by cases hy⟩
    (fun pre y a W => a = { tmps := #[.int .i64 (x : Int), .agg (bs p).toArray, .agg C.toArray, .agg P.toArray, undef, .pointer (some ⟨w.heap.size, 0, none⟩), .pointer (some ⟨w.heap.size + 1, 0, none⟩), .pointer (some ⟨w.heap.size + 1 + 1, 0, none⟩), .slice none 0 0, .pointer (some ⟨w.heap.size + 1 + 1 + 1, 0, none⟩), .slice y.a y.m y.c, .int .i64 (x : Int), .agg (bs p).toArray, .agg C.toArray, .agg P.toArray, .func (.func 63) #[] #[.pointer (some ⟨w.heap.size + 1 + 1 + 1 + 1 + 1, 0, none⟩), .pointer (some ⟨w.heap.size + 1 + 1 + 1 + 1 + 2, 0, none⟩), .pointer (some ⟨w.heap.size + 1 + 1 + 1 + 1 + 3, 0, none⟩), .pointer (some ⟨w.heap.size + 1 + 1 + 1 + 1, 0, none⟩)], .slice y.a y.m y.c, .agg (bs y.d).toArray, undef, undef, undef, undef, undef, undef, undef], defers := [] } ∧ (HsI w W pre ∧ ∀ y ∈ pre, y.q.length = y.m ∧ y.m ≤ 65) ∧ (Own W w.heap.size (.slice y.a y.m y.c) y.q ∧ y.q.length = y.m ∧ y.m ≤ 65) ∧ pre.length < n + 1) ?_ ?_ ?_ ?_
  · rintro pre y a W r' hL r'' ⟨h1, h2, ⟨h3, h4⟩, h5⟩
    exact ⟨h1, ⟨h2.1.obj (grownBy_putObj' W _ _) (fun k e => by cases e; exact ⟨by omega, _, hL.loo, rfl⟩), h2.2⟩, ⟨World.ownsRow.kept h3 (grownBy_putObj' W _ _) (.inr (Own.ne_obj h3 hL.loo rfl)), h4⟩, h5⟩
  · rintro l pre y W hR hN hlt
    simp [yenc]
    gi_wp2
    exact ⟨KeepsOthers.refl _, ⟨Nat.le_refl _, fun _ _ _ _ h _ => h⟩, by first | trivial | rfl, hR, ⟨hN.own, hN.len, hN.few⟩, hlt⟩
  · rintro l pre y a W ⟨rfl, ⟨⟨hBW, ⟨v, hS, hO⟩, hY⟩, hok⟩, ⟨hy, hyl, hym⟩, hlt⟩
    obtain ⟨a', c', rfl⟩ := hO.shape
    have c0 := hS.cell (j := 0) rfl
    have hsz : pre.length ≤ 1000000 := by have := HN.out; omega
    have hO0 : OwnS (W.alloc (.cells #[.slice y.a y.m y.c] 35)) w.heap.size (.slice a' pre.length c') pre := hO.kept (World.grownBy_alloc W _ none) (fun _ _ e => by cases e)
    have hcy : (W.alloc (.cells #[.slice y.a y.m y.c] 35)).cell? ⟨W.heap.size, 0, none⟩ = some (slv y) := (Blk.new W 35 [slv y]).cell (j := 0) rfl
    have hbs : w.heap.size ≤ (W.alloc (.cells #[.slice y.a y.m y.c] 35)).heap.size := by have := hBW.size; simp; omega
    have HOK : Hid (∀ z ∈ pre ++ [y], z.q.length = z.m ∧ z.m ≤ 65) := Lib.hid (fun z hz => (List.mem_append.1 hz).elim (hok z) (fun h => by rw [List.mem_singleton.1 h]; exact ⟨hyl, hym⟩))
    have HS := Lib.hid hS
    have HO := Lib.hid hO
    have HY := Lib.hid hY
    have Hy := Lib.hid hy
    clear hS hO hY hy hok hyl hym
    gi_wp2_with (gi_at_builtin; refine wpListIn_appS rfl (.tmp 18) (.tmp 20) rfl rfl hO0 rfl hcy hsz hbs ?_)
    intro v' w1 hO1 hg1
    have fin := Lib.hid (hs_step hBW HS.out HO.out HY.out Hy.out hO1 hg1)
    have hb1 := hs_blk HS.out HO.out hg1
    have c1 := hb1.cell (j := 0) rfl
    have f1 := hb1.free 0
    obtain ⟨a2, c2, hv2⟩ := hO1.shape
    rw [show (pre ++ [y]).length = pre.length + 1 by simp] at hv2
    subst hv2
    clear hb1 hO1 hg1 c0 hO0 hcy
    gi_wp2
    exact ⟨rfl, fin.out.1, fin.out.2.1, fin.out.2.2, HOK.out⟩
  · rintro xs W ⟨hq, hd⟩ ⟨⟨hBW, ⟨v, hS, hO⟩, hY⟩, hok⟩ hK
    rw [hz3] at hK
    have hxl : xs.length = n + 1 := by
      have := congrArg List.length hq
      rw [List.length_map, HLN.out] at this
      exact this
    obtain ⟨a', c', rfl⟩ := hO.shape
    rw [hxl] at hS hO
    obtain ⟨g, rfl, hsl, hnc, hcm, hgb⟩ := hO.sl (by omega)
    have hbl := hO.block (r := g) rfl
    have c0 := hS.cell (j := 0) rfl
    have RV := Lib.hid (reverse_at W g (n + 1) c' xs hsl hxl (by have := HN.out; omega))
    have hf2 : Fence.wide.fn 49 := trivial
    have HS := Lib.hid hS
    have HY := Lib.hid hY
    have HQ := Lib.hid hq
    have HOK := Lib.hid hok
    have HK := Lib.hid hK
    have HBL := Lib.hid hbl
    have HXL := Lib.hid hxl
    clear hS hO hY hq hd hok hsl hK hbl hxl
    have hne : (some g : Option Nat) ≠ some (w.heap.size + 1 + 1 + 1) := (fun e => by
      injection e with e
      obtain ⟨c, f, hc⟩ := HBL.out
      rw [e, HS.out.at_] at hc
      injection hc with hc
      injection hc with _ hc _
      exact absurd hc (by decide))
    have Hne := Lib.hid hne
    clear hne
    gi_wp2_with (gi_at_call 49; refine (callsIn_wide.2 RV.out).mono ?_; rintro e w4 ⟨rfl, hs4, hg4⟩; have c4 := (HS.out.grown hg4 Hne.out).cell (j := 0) rfl)
    have hneK : (some g : Option Nat) ≠ some (w.heap.size + 1 + 1 + 1 + 1 + 4) := (fun e => by
      injection e with e
      obtain ⟨c, f, hc⟩ := HBL.out
      rw [e, HK.out] at hc
      cases hc)
    have hK4 := (hg4.block (w.heap.size + 1 + 1 + 1 + 1 + 4) (lt_of_block HK.out) (fun e => hneK e.symm)).trans HK.out
    refine ⟨by simp, .inl ⟨_, _, rfl, run_takeDeferred hK4, ?_⟩⟩
    have hg6 := grownBy_putObj' w4 (w.heap.size + 1 + 1 + 1 + 1 + 4) (.deferred none)
    have hB4 := hBW.grown hg4 hBW.size (fun k e => by cases e; exact hgb)
    refine ⟨_, results_tmp rfl _ _ _, some ⟨g, 0, none⟩, c', xs.reverse, rfl, ?_⟩
    refine ⟨by rw [List.length_reverse]; exact HXL.out, ⟨g, rfl, ?_, hnc, hcm, hgb⟩, ?_, by rw [List.map_reverse, HQ.out], fun y hy => HOK.out y (List.mem_reverse.1 hy), hB4.grown hg6 hB4.size (fun k e => by cases e; omega)⟩
    · obtain ⟨cur, h1, h2⟩ := hs4.ex
      exact ⟨cur, h1.grown hg6 (fun e => hneK e.symm), h2⟩
    · refine ⟨fun y hy => ?_⟩
      have hy0 := HY.out.own y (List.mem_reverse.1 hy)
      have h1 : Own w4 w.heap.size (.slice y.a y.m y.c) y.q := World.ownsRow.kept hy0 hg4 (.inr (fun e => by
        obtain ⟨c, f, hc⟩ := HBL.out
        exact absurd e (Own.ne hy0 hc (by decide))))
      exact World.ownsRow.kept h1 hg6 (.inr (Own.ne_obj h1 hK4 rfl))
end
end
/-! Two chains held against each other; the walks of package proof: Clash; of the library: Equal. -/
section
open Go.RowKit
set_option maxRecDepth 100000

theorem str_inj {l m : List UInt8} (h : str l = str m) : l = m := by
  have := congrArg (fun b : ByteArray => b.data.toList) h
  simpa [str] using this

set_option maxHeartbeats 1000000 in
theorem equal_any (w : World) (a : Option Addr) (n c : Nat) (l : List UInt8) (h : Rd w a n c l) (a' : Option Addr) (n' c' : Nat) (l' : List UInt8) (h' : Rd w a' n' c' l') :
    Calls Tryd.prog 28 #[.slice a n c, .slice a' n' c'] w fun e w' => e = .returned (.bool (l == l')) ∧ w' = w := by
  have k1 := h.conv
  have k2 := h'.conv
  by_cases hl : l = l'
  · subst hl
    go_enter Tryd.func28, Tryd.ntmps28
    go_wp2
    go_ret
    exact ⟨by simp, rfl⟩
  · have hs : ¬ str l = str l' := fun e => hl (str_inj e)
    have hb : (l == l') = false := by simpa using hl
    go_enter Tryd.func28, Tryd.ntmps28
    go_wp2
    go_ret
    exact ⟨by rw [hb]; simp, rfl⟩

theorem chF_rev_at (x : Nat) (p : List UInt8) (sibs : List (List UInt8)) (t : Nat) : ∀ (k : Nat) (b : List UInt8), t ≤ k → (chF x p sibs k b).reverse.getD t [] = sumF x p sibs t k b
  | 0, b, h => by
    obtain rfl : t = 0 := by omega
    simp [chF, sumF]
  | k + 1, b, h => by
    have hl : (chF x p sibs k (innerB p k (shortB x b) (sibs.getD k []))).reverse.length = k + 1 := by rw [List.length_reverse, chF_length]
    rw [chF, List.reverse_cons]
    by_cases ht : t ≤ k
    · have ih := chF_rev_at x p sibs t k (innerB p k (shortB x b) (sibs.getD k [])) ht
      rw [sumF_more _ _ _ _ _ _ ht, ← ih]
      rw [List.getD_eq_getElem?_getD, List.getElem?_append_left (by omega), ← List.getD_eq_getElem?_getD]
    · obtain rfl : t = k + 1 := by omega
      rw [sumF_less _ _ _ _ _ _ (Nat.le_refl _)]
      rw [List.getD_eq_getElem?_getD, List.getElem?_append_right (by omega), hl]
      simp
/-- where two lists part -/
def ckF : List (List UInt8) → List (List UInt8) → Nat
  | a :: A, b :: B => if a = b then ckF A B + 1 else 0
  | _, _ => 0
theorem ckF_spec : ∀ (A B : List (List UInt8)) (k : Nat), k < A.length → k < B.length → A.getD k [] ≠ B.getD k [] → ckF A B ≤ k ∧ A.getD (ckF A B) [] ≠ B.getD (ckF A B) [] ∧ ∀ i, i < ckF A B → A.getD i [] = B.getD i []
  | [], _, _, h, _, _ => by simp at h
  | _ :: _, [], _, _, h, _ => by simp at h
  | a :: A, b :: B, k, h1, h2, h3 => by
    unfold ckF
    by_cases hab : a = b
    · rw [if_pos hab]
      cases k with
      | zero => exact absurd (by simpa using hab) h3
      | succ k =>
        obtain ⟨i1, i2, i3⟩ := ckF_spec A B k (by simpa using h1) (by simpa using h2) (by simpa using h3)
        refine ⟨by omega, by simpa using i2, fun i hi => ?_⟩
        cases i with
        | zero => simpa using hab
        | succ i => simpa using i3 i (by omega)
    · rw [if_neg hab]
      exact ⟨Nat.zero_le _, by simpa using hab, fun i hi => by omega⟩
/-- what is hashed, index 0 first -/
def hashL (x : Nat) (p : List UInt8) (b : Bool) (v : List UInt8) (X : Pf) : List (List UInt8) := (chF x p X.sibs X.sibs.length (startB p b v X)).reverse
theorem hashL_length (x : Nat) (p : List UInt8) (b : Bool) (v : List UInt8) (X : Pf) : (hashL x p b v X).length = X.sibs.length + 1 := by rw [hashL, List.length_reverse, chF_length]
theorem hashL_at (x : Nat) (p : List UInt8) (b : Bool) (v : List UInt8) (X : Pf) (t : Nat) (h : t ≤ X.sibs.length) : (hashL x p b v X).getD t [] = sumF x p X.sibs t X.sibs.length (startB p b v X) := chF_rev_at x p X.sibs t _ _ h
/-- the first byte tells a knot from an end -/
theorem sumF_tag {x : Nat} {p : List UInt8} {sibs : List (List UInt8)} {t : Nat} : ∀ (k : Nat) (b : List UInt8), t < k → (sumF x p sibs t k b).head? = some 1
  | 0, _, h => by omega
  | k + 1, b, h => by
    rw [sumF_more _ _ _ _ _ _ (by omega)]
    by_cases ht : t < k
    · exact sumF_tag k _ ht
    · rw [sumF_less _ _ _ _ _ _ (by omega), innerB]
      split <;> rfl
theorem startB_tag {p v : List UInt8} {b : Bool} {X : Pf} : (startB p b v X).head? ≠ some 1 := by
  unfold startB
  split
  · simp
  · split <;> simp
theorem start_ne {p v v' : List UInt8} {b b' : Bool} {X Y : Pf} (hp : p.length = 32) (hX : X.ok) (hY : Y.ok) (hs : suitsB p b X = true) (hs' : suitsB p b' Y = true) (hz : (!b && v != zero32) = false) (hz' : (!b' && v' != zero32) = false) (hne : sameCl b v b' v' = false) : startB p b v X ≠ startB p b' v' Y := by
  have o1 : X.other = true → b = false ∧ X.op ≠ p := fun h => by simp [suitsB, h] at hs; exact ⟨hs.2.1, hs.2.2.1⟩
  have o2 : Y.other = true → b' = false ∧ Y.op ≠ p := fun h => by simp [suitsB, h] at hs'; exact ⟨hs'.2.1, hs'.2.2.1⟩
  intro e
  cases b with
  | true =>
    cases b' with
    | true =>
      simp only [startB, if_true] at e
      have e2 : v = v' := by
        injection e with _ e
        exact List.append_cancel_left e
      simp [sameCl, e2] at hne
    | false =>
      by_cases hy : Y.other = true
      · simp [startB, hy] at e
        have e3 : p = Y.op := (List.append_inj e (by rw [hp, hY.p])).1
        exact (o2 hy).2 e3.symm
      · simp [startB, hy] at e
  | false =>
    cases b' with
    | true =>
      by_cases hx : X.other = true
      · simp [startB, hx] at e
        have e3 : X.op = p := (List.append_inj e (by rw [hp, hX.p])).1
        exact (o1 hx).2 e3
      · simp [startB, hx] at e
    | false =>
      simp at hz hz'
      simp [sameCl, hz, hz'] at hne
/-- two claims that clash part somewhere -/
theorem clash_part {x : Nat} {p v v' : List UInt8} {b b' : Bool} {X Y : Pf} (hp : p.length = 32) (hX : X.ok) (hY : Y.ok) (hs : suitsB p b X = true) (hs' : suitsB p b' Y = true) (hz : (!b && v != zero32) = false) (hz' : (!b' && v' != zero32) = false) (hne : sameCl b v b' v' = false) :
    ∃ k, k ≤ X.sibs.length ∧ k ≤ Y.sibs.length ∧ (hashL x p b v X).getD k [] ≠ (hashL x p b' v' Y).getD k [] := by
  rcases Nat.lt_trichotomy X.sibs.length Y.sibs.length with h | h | h
  · refine ⟨X.sibs.length, Nat.le_refl _, by omega, fun e => ?_⟩
    rw [hashL_at _ _ _ _ _ _ (Nat.le_refl _), hashL_at _ _ _ _ _ _ (by omega), sumF_less _ _ _ _ _ _ (Nat.le_refl _)] at e
    have := sumF_tag (x := x) (p := p) (sibs := Y.sibs) (t := X.sibs.length) Y.sibs.length (startB p b' v' Y) h
    rw [← e] at this
    exact startB_tag this
  · refine ⟨X.sibs.length, Nat.le_refl _, by omega, fun e => ?_⟩
    rw [hashL_at _ _ _ _ _ _ (Nat.le_refl _), hashL_at _ _ _ _ _ _ (by omega), sumF_less _ _ _ _ _ _ (Nat.le_refl _), sumF_less _ _ _ _ _ _ (by omega)] at e
    exact start_ne hp hX hY hs hs' hz hz' hne e
  · refine ⟨Y.sibs.length, by omega, Nat.le_refl _, fun e => ?_⟩
    rw [hashL_at _ _ _ _ _ _ (by omega), hashL_at _ _ _ _ _ _ (Nat.le_refl _), sumF_less _ _ _ _ _ (startB p b' v' Y) (Nat.le_refl _)] at e
    have := sumF_tag (x := x) (p := p) (sibs := X.sibs) (t := Y.sibs.length) X.sibs.length (startB p b v X) h
    rw [e] at this
    exact startB_tag this
theorem checkE_ok {x : Int} {root p v : List UInt8} {b : Bool} {X : Pf} (h : checkE x root p b v X = 0) : (0 ≤ x ∧ x ≤ 32) ∧ (!b && v != zero32) = false ∧ suitsB p b X = true ∧ rootB x.toNat p b v X = root := by
  unfold checkE at h
  by_cases hx : 0 ≤ x ∧ x ≤ 32
  · rw [if_pos hx] at h
    cases h1 : (!b && v != zero32) with
    | true => rw [h1] at h; simp at h
    | false =>
      cases h2 : suitsB p b X with
      | false => rw [h1, h2] at h; simp at h
      | true =>
        rw [h1, h2] at h
        cases h3 : (rootB x.toNat p b v X != root) with
        | true => rw [h3] at h; simp at h
        | false => exact ⟨hx, rfl, rfl, by simpa using h3⟩
  · rw [if_neg hx] at h; exact absurd h (by decide)
theorem checkE_vals (x : Int) (root p v : List UInt8) (b : Bool) (X : Pf) : checkE x root p b v X = 0 ∨ checkE x root p b v X = 1 ∨ checkE x root p b v X = 40 ∨ checkE x root p b v X = 41 := by
  unfold checkE
  split
  · split
    · simp
    · split <;> simp
  · simp
/-- what two claims tell -/
def clE (x : Int) (root p : List UInt8) (b : Bool) (v : List UInt8) (X : Pf) (b' : Bool) (v' : List UInt8) (Y : Pf) : Int :=
  if checkE x root p b v X = 0 then (if checkE x root p b' v' Y = 0 then (if sameCl b v b' v' then 42 else 0) else checkE x root p b' v' Y) else checkE x root p b v X
def clK (x : Nat) (p : List UInt8) (b : Bool) (v : List UInt8) (X : Pf) (b' : Bool) (v' : List UInt8) (Y : Pf) : Nat := ckF (hashL x p b v X) (hashL x p b' v' Y)
def clA (x : Int) (root p : List UInt8) (b : Bool) (v : List UInt8) (X : Pf) (b' : Bool) (v' : List UInt8) (Y : Pf) : List UInt8 :=
  if clE x root p b v X b' v' Y = 0 then (hashL x.toNat p b v X).getD (clK x.toNat p b v X b' v' Y) [] else []
def clB (x : Int) (root p : List UInt8) (b : Bool) (v : List UInt8) (X : Pf) (b' : Bool) (v' : List UInt8) (Y : Pf) : List UInt8 :=
  if clE x root p b v X b' v' Y = 0 then (hashL x.toNat p b' v' Y).getD (clK x.toNat p b v X b' v' Y) [] else []
def ClPost (w : World) (la lb : List UInt8) (er : Int) (e : Ending) (w' : World) : Prop :=
  ∃ a m c a' m' c', e = .returned (.tuple #[.slice a m c, .slice a' m' c', .int .i64 er]) ∧ Rd w' a m c la ∧ Rd w' a' m' c' lb ∧ m ≤ 65 ∧ m' ≤ 65 ∧ Below w.heap.size w w'
end
/-! The walks of package proof: Clash. -/
section
open Go.RowKit
set_option maxRecDepth 100000

structure Bx6 (w W : World) (root p : List UInt8) (C P C2 P2 : List Value) : Prop where
  r : Blk W w.heap.size 23 (bs root)
  p : Blk W (w.heap.size + 1) 23 (bs p)
  c : Blk W (w.heap.size + 2) 25 C
  x : Blk W (w.heap.size + 3) 28 P
  d : Blk W (w.heap.size + 4) 25 C2
  y : Blk W (w.heap.size + 5) 28 P2
  bel : Below w.heap.size w W
section
variable {w W W' : World} {root p : List UInt8} {C P C2 P2 : List Value}
theorem Bx6.below (h : Bx6 w W root p C P C2 P2) (hb : Below W.heap.size W W') : Bx6 w W' root p C P C2 P2 := ⟨h.r.below hb, h.p.below hb, h.c.below hb, h.x.below hb, h.d.below hb, h.y.below hb, Bt h.bel hb⟩
theorem Bx6.start (w : World) (root p : List UInt8) (C P C2 P2 : List Value) :
    Bx6 w ((((((w.alloc (.cells (bs root).toArray 23)).alloc (.cells (bs p).toArray 23)).alloc (.cells C.toArray 25)).alloc (.cells P.toArray 28)).alloc (.cells C2.toArray 25)).alloc (.cells P2.toArray 28)) root p C P C2 P2 := by
  have h0 := Bx4.start w root p C P
  have hs : ((((w.alloc (.cells (bs root).toArray 23)).alloc (.cells (bs p).toArray 23)).alloc (.cells C.toArray 25)).alloc (.cells P.toArray 28)).heap.size = w.heap.size + 4 := by simp
  generalize (((w.alloc (.cells (bs root).toArray 23)).alloc (.cells (bs p).toArray 23)).alloc (.cells C.toArray 25)).alloc (.cells P.toArray 28) = w4 at *
  have h4 := Blk.new w4 25 C2
  have hb4 : Below w4.heap.size w4 (w4.alloc (.cells C2.toArray 25)) := (Below.refl _ w4).alloc (Nat.le_refl _) _
  have hs5 : (w4.alloc (.cells C2.toArray 25)).heap.size = w.heap.size + 5 := by simp [hs]
  rw [hs] at h4
  generalize w4.alloc (.cells C2.toArray 25) = w5 at *
  have h5 := Blk.new w5 28 P2
  have hb5 : Below w5.heap.size w5 (w5.alloc (.cells P2.toArray 28)) := (Below.refl _ w5).alloc (Nat.le_refl _) _
  rw [hs5] at h5
  have h6 := (h0.below hb4).below hb5
  exact ⟨h6.r, h6.p, h6.c, h6.x, h4.below hb5, h5, h6.bel⟩
end

theorem HsAt.below {w W W' : World} {a : Option Addr} {n c : Nat} {ys : List Yl} {qs : List (List UInt8)} (h : HsAt w W a n c ys qs) (hb : Below W.heap.size W W') : HsAt w W' a n c ys qs := by
  obtain ⟨g, h1, ⟨cur, h2, h3⟩, h4⟩ := h.row
  exact ⟨h.len, ⟨g, h1, ⟨cur, h2.below hb, h3⟩, h4⟩, ⟨fun y hy => Own.below (h.yok.own y hy) hb⟩, h.qs, h.few, Bt h.bel hb⟩
theorem HsAt.elem {w W : World} {g n c : Nat} {ys : List Yl} {qs : List (List UInt8)} (h : HsAt w W (some ⟨g, 0, none⟩) n c ys qs) {k : Nat} (hk : k < n) :
    ∃ y : Yl, W.cell? ⟨g, k, none⟩ = some (.slice y.a y.m y.c) ∧ Rd W y.a y.m y.c (qs.getD k []) ∧ y.m ≤ 65 := by
  obtain ⟨g', h1, h2, h3, h4, h5⟩ := h.row
  cases h1
  have hlen := h.len
  have hc := h2.cell hk hlen
  have e : ys.getD k yl0 = ys[k]'(by omega) := by simp [List.getD, show k < ys.length by omega]
  have hm : ys[k]'(by omega) ∈ ys := List.getElem_mem _
  rw [e] at hc
  have hq : qs.getD k [] = (ys[k]'(by omega)).q := by rw [← h.qs]; simp [List.getD, show k < ys.length by omega]
  refine ⟨_, hc, ?_, (h.few _ hm).2⟩
  rw [hq]
  exact Own.rd (h.yok.own _ hm)

set_option maxHeartbeats 8000000 in
theorem clash_in (w : World) (x : Nat) (hx : x ≤ 32) (root p : List UInt8) (hro : root.length = 32) (hp : p.length = 32) (b : Bool) (v : List UInt8) (hv : v.length = 32) (a : Option Addr) (n c : Nat) (X : Pf) (hr : RdP6 w a n c X)
    (b2 : Bool) (v2 : List UInt8) (hv2 : v2.length = 32) (a2 : Option Addr) (n2 c2 : Nat) (Y : Pf) (hr2 : RdP6 w a2 n2 c2 Y) (hT : Tab w 1) :
    Calls Tryd.prog 12 #[.int .i64 (x : Int), .agg (bs root).toArray, .agg (bs p).toArray, .agg (clc b v).toArray, .agg (pc a n c X).toArray, .agg (clc b2 v2).toArray, .agg (pc a2 n2 c2 Y).toArray] w (ClPost w (clA x root p b v X b2 v2 Y) (clB x root p b v X b2 v2 Y) (clE x root p b v X b2 v2 Y)) := by
  have hS := Bx6.start w root p (clc b v) (pc a n c X) (clc b2 v2) (pc a2 n2 c2 Y)
  have HB := Lib.hid hS
  have h4 := Lib.hid (digP hro)
  have h5 := Lib.hid (digP hp)
  have h6 := Lib.hid (infoClc (b := b) hv)
  have h7 := Lib.hid (size_of (a := a) (n := n) (c := c) hr.ok)
  have h8 := Lib.hid (infoClc (b := b2) hv2)
  have h9 := Lib.hid (size_of (a := a2) (n := n2) (c := c2) hr2.ok)
  have CK1 := Lib.hid (fun (W : World) (h : Below w.heap.size w W) => check_any W (x : Int) root p hro hp b v hv a n c X (hr.below h) (hT.below h))
  have CK2 := Lib.hid (fun (W : World) (h : Below w.heap.size w W) => check_any W (x : Int) root p hro hp b2 v2 hv2 a2 n2 c2 Y (hr2.below h) (hT.below h))
  have HS1 := Lib.hid (fun (W : World) (h : Below w.heap.size w W) (hn : n ≤ 256) => hashed_any W x hx p hp b v hv a n c X (hr.below h) hn (hT.below h))
  have HS2 := Lib.hid (fun (W : World) (h : Below w.heap.size w W) (hn : n2 ≤ 256) => hashed_any W x hx p hp b2 v2 hv2 a2 n2 c2 Y (hr2.below h) hn (hT.below h))
  have EQC := Lib.hid (fun (k : Bool) (hk : sameCl b v b2 v2 = k) (W : World) => (by rw [eqC W b b2 v v2 hv hv2, hk] : (binOp .eql 25 (.agg (clc b v).toArray) (.agg (clc b2 v2).toArray)).run Tryd.prog W = .ok (.bool k) W))
  have hln := hr.sib.len
  have hln2 := hr2.sib.len
  have e1 : hashL x p b v X = (chF x p X.sibs n (startB p b v X)).reverse := by rw [hashL, hln]
  have e2 : hashL x p b2 v2 Y = (chF x p Y.sibs n2 (startB p b2 v2 Y)).reverse := by rw [hashL, hln2]
  rw [← e1] at HS1
  rw [← e2] at HS2
  have HK : Hid (checkE x root p b v X = 0 → checkE x root p b2 v2 Y = 0 → sameCl b v b2 v2 = false → n ≤ 256 ∧ n2 ≤ 256 ∧ clK x p b v X b2 v2 Y ≤ n ∧ clK x p b v X b2 v2 Y ≤ n2 ∧
      (hashL x p b v X).getD (clK x p b v X b2 v2 Y) [] ≠ (hashL x p b2 v2 Y).getD (clK x p b v X b2 v2 Y) [] ∧ ∀ i, i < clK x p b v X b2 v2 Y → (hashL x p b v X).getD i [] = (hashL x p b2 v2 Y).getD i []) := Lib.hid (fun g1 g2 g3 => by
    obtain ⟨-, z1, s1, -⟩ := checkE_ok g1
    obtain ⟨-, z2, s2, -⟩ := checkE_ok g2
    obtain ⟨k, k1, k2, k3⟩ := clash_part (x := x) hp hr.ok hr2.ok s1 s2 z1 z2 g3
    have hh := ckF_spec _ _ k (by rw [hashL_length]; omega) (by rw [hashL_length]; omega) k3
    exact ⟨by rw [← hln]; exact suitsB_few s1, by rw [← hln2]; exact suitsB_few s2, by unfold clK; omega, by unfold clK; omega, hh.2.1, hh.2.2⟩)
  have HV1 := checkE_vals (x : Int) root p v b X
  have HV2 := checkE_vals (x : Int) root p v2 b2 Y
  have HCE : Hid (clE x root p b v X b2 v2 Y = if checkE x root p b v X = 0 then (if checkE x root p b2 v2 Y = 0 then (if sameCl b v b2 v2 then 42 else 0) else checkE x root p b2 v2 Y) else checkE x root p b v X) := Lib.hid rfl
  have HCA : Hid (clA x root p b v X b2 v2 Y = if clE x root p b v X b2 v2 Y = 0 then (hashL x p b v X).getD (clK x p b v X b2 v2 Y) [] else []) := Lib.hid (by rw [clA, Int.toNat_natCast])
  have HCB : Hid (clB x root p b v X b2 v2 Y = if clE x root p b v X b2 v2 Y = 0 then (hashL x p b2 v2 Y).getD (clK x p b v X b2 v2 Y) [] else []) := Lib.hid (by rw [clB, Int.toNat_natCast])
  have FN : Hid (∀ (W : World) (er : Int), clE x root p b v X b2 v2 Y = er → er ≠ 0 → Below w.heap.size w W → ClPost w (clA x root p b v X b2 v2 Y) (clB x root p b v X b2 v2 Y) (clE x root p b v X b2 v2 Y) (.returned (.tuple #[.slice none 0 0, .slice none 0 0, .int .i64 er])) W) := Lib.hid (fun W er he hne hb => by
    refine ⟨none, 0, 0, none, 0, 0, by rw [he], ?_, ?_, by omega, by omega, hb⟩
    · rw [HCA.out, he, if_neg hne]; exact Rd.nil0 W
    · rw [HCB.out, he, if_neg hne]; exact Rd.nil0 W)
  have FY : Hid (∀ (W : World) (o o2 : Option Addr) (m1 k1 m2 k2 : Nat), clE x root p b v X b2 v2 Y = 0 → Rd W o m1 k1 ((hashL x p b v X).getD (clK x p b v X b2 v2 Y) []) → Rd W o2 m2 k2 ((hashL x p b2 v2 Y).getD (clK x p b v X b2 v2 Y) []) → m1 ≤ 65 → m2 ≤ 65 → Below w.heap.size w W →
      ClPost w (clA x root p b v X b2 v2 Y) (clB x root p b v X b2 v2 Y) (clE x root p b v X b2 v2 Y) (.returned (.tuple #[.slice o m1 k1, .slice o2 m2 k2, .int .i64 0])) W) := Lib.hid (fun W o o2 m1 k1 m2 k2 he hR1 hR2 hm1 hm2 hb =>
    ⟨o, m1, k1, o2, m2, k2, by rw [he], by rw [HCA.out, he]; exact hR1, by rw [HCB.out, he]; exact hR2, hm1, hm2, hb⟩)
  clear HCA HCB hS hro hp hv hr hv2 hr2 hT hx hln hln2 e1 e2
  generalize ClPost w (clA x root p b v X b2 v2 Y) (clB x root p b v X b2 v2 Y) (clE x root p b v X b2 v2 Y) = RP at *
  generalize clE x root p b v X b2 v2 Y = ce at *
  generalize checkE x root p b v X = c1 at *
  generalize checkE x root p b2 v2 Y = c2' at *
  generalize hashL x p b v X = A at *
  generalize hashL x p b2 v2 Y = B at *
  generalize clK x p b v X b2 v2 Y = K0 at *
  generalize sameCl b v b2 v2 = sc at *
  generalize clc b v = C at *
  generalize pc a n c X = P at *
  generalize clc b2 v2 = C2 at *
  generalize pc a2 n2 c2 Y = P2 at *
  generalize hw0 : (((((w.alloc (.cells (bs root).toArray 23)).alloc (.cells (bs p).toArray 23)).alloc (.cells C.toArray 25)).alloc (.cells P.toArray 28)).alloc (.cells C2.toArray 25)).alloc (.cells P2.toArray 28) = w0 at *
  have s1 := HB.out.r.allR
  have s2 := HB.out.p.allR
  have s3 := HB.out.c.allR
  have s4 := HB.out.x.allR
  go_enter Tryd.func12, Tryd.ntmps12
  go_wp2_with (first
    | ((with_reducible refine wpList_loadP (o := ⟨some 23, _, _, _, _, _⟩) ?_ w.heap.size 0 23 (.tmp 8) ?_ ?_ s1 Tryd.underlying23 ?_ h4.out ?_); rfl; rfl; rfl; rfl)
    | ((with_reducible refine wpList_loadP (o := ⟨some 24, _, _, _, _, _⟩) ?_ (w.heap.size + 1) 0 23 (.tmp 9) ?_ ?_ s2 Tryd.underlying23 ?_ h5.out ?_); rfl; rfl; rfl; rfl)
    | ((with_reducible refine wpList_loadP (o := ⟨some 25, _, _, _, _, _⟩) ?_ (w.heap.size + 2) 0 25 (.tmp 10) ?_ ?_ s3 Tryd.underlying25 ?_ h6.out ?_); rfl; rfl; rfl; rfl)
    | ((with_reducible refine wpList_loadP (o := ⟨some 26, _, _, _, _, _⟩) ?_ (w.heap.size + 3) 0 28 (.tmp 11) ?_ ?_ s4 Tryd.underlying28 ?_ h7.out ?_); rfl; rfl; rfl; rfl))
  refine (CK1.out _ HB.out.bel).mono ?_
  rintro e w1 ⟨rfl, hB1⟩
  have HB1 := Lib.hid (HB.out.below hB1)
  clear s1 s2 s3 s4 HB hB1 CK1
  have s1 := HB1.out.r.allR
  have s2 := HB1.out.p.allR
  have s5 := HB1.out.d.allR
  have s6 := HB1.out.y.allR
  rcases HV1 with hc1 | hc1 | hc1 | hc1
  · subst hc1
    go_wp2_with (first
      | ((with_reducible refine wpList_loadP (o := ⟨some 32, _, _, _, _, _⟩) ?_ w.heap.size 0 23 (.tmp 8) ?_ ?_ s1 Tryd.underlying23 ?_ h4.out ?_); rfl; rfl; rfl; rfl)
      | ((with_reducible refine wpList_loadP (o := ⟨some 33, _, _, _, _, _⟩) ?_ (w.heap.size + 1) 0 23 (.tmp 9) ?_ ?_ s2 Tryd.underlying23 ?_ h5.out ?_); rfl; rfl; rfl; rfl)
      | ((with_reducible refine wpList_loadP (o := ⟨some 34, _, _, _, _, _⟩) ?_ (w.heap.size + 4) 0 25 (.tmp 12) ?_ ?_ s5 Tryd.underlying25 ?_ h8.out ?_); rfl; rfl; rfl; rfl)
      | ((with_reducible refine wpList_loadP (o := ⟨some 35, _, _, _, _, _⟩) ?_ (w.heap.size + 5) 0 28 (.tmp 13) ?_ ?_ s6 Tryd.underlying28 ?_ h9.out ?_); rfl; rfl; rfl; rfl))
    refine (CK2.out _ HB1.out.bel).mono ?_
    rintro e w2 ⟨rfl, hB2⟩
    have HB2 := Lib.hid (HB1.out.below hB2)
    clear s1 s2 s5 s6 HB1 hB2 CK2
    rcases HV2 with hc2 | hc2 | hc2 | hc2
    · subst hc2
      have q1 := HB2.out.c.allR
      have q2 := HB2.out.d.allR
      cases sc with
      | true =>
        have E1 := Lib.hid (EQC.out true (by first | trivial | rfl))
        have HE : Hid (ce = 42) := Lib.hid (by rw [HCE.out]; simp)
        go_wp2_with (first
          | ((with_reducible refine wpList_loadP (o := ⟨some 40, _, _, _, _, _⟩) ?_ (w.heap.size + 2) 0 25 (.tmp 10) ?_ ?_ q1 Tryd.underlying25 ?_ h6.out ?_); rfl; rfl; rfl; rfl)
          | ((with_reducible refine wpList_loadP (o := ⟨some 41, _, _, _, _, _⟩) ?_ (w.heap.size + 4) 0 25 (.tmp 12) ?_ ?_ q2 Tryd.underlying25 ?_ h8.out ?_); rfl; rfl; rfl; rfl)
          | ((with_reducible refine wpList_eqH (o := ⟨some 42, _, _, _, _, _⟩) ?_ .eql 25 25 (.tmp 40) (.tmp 41) ?_ C.toArray C2.toArray ?_ ?_ guardC _ E1.out ?_); rfl; rfl; rfl; rfl))
        go_ret3
        exact FN.out _ 42 HE.out (by decide) HB2.out.bel
      | false =>
        have E1 := Lib.hid (EQC.out false (by first | trivial | rfl))
        have HE : Hid (ce = 0) := Lib.hid (by rw [HCE.out]; simp)
        obtain ⟨hn, hn2, hk1, hk2, hkne, hkeq⟩ := HK.out (by first | trivial | rfl) (by first | trivial | rfl) (by first | trivial | rfl)
        have HKN := Lib.hid hkne
        have HKE := Lib.hid hkeq
        clear hkne hkeq HK
        go_wp2_with (first
          | ((with_reducible refine wpList_loadP (o := ⟨some 40, _, _, _, _, _⟩) ?_ (w.heap.size + 2) 0 25 (.tmp 10) ?_ ?_ q1 Tryd.underlying25 ?_ h6.out ?_); rfl; rfl; rfl; rfl)
          | ((with_reducible refine wpList_loadP (o := ⟨some 41, _, _, _, _, _⟩) ?_ (w.heap.size + 4) 0 25 (.tmp 12) ?_ ?_ q2 Tryd.underlying25 ?_ h8.out ?_); rfl; rfl; rfl; rfl)
          | ((with_reducible refine wpList_eqH (o := ⟨some 42, _, _, _, _, _⟩) ?_ .eql 25 25 (.tmp 40) (.tmp 41) ?_ C.toArray C2.toArray ?_ ?_ guardC _ E1.out ?_); rfl; rfl; rfl; rfl))
        -- REGION clash9 8
        refine wp_region_held_drew (S := fun W => Below w.heap.size w W ∧ Bx6 w W root p C P C2 P2) (by kernel_rfl) ⟨HB2.out.bel.drew, HB2.out.below (Below.refl _ w2).drew⟩ (fun hHeld => ?_)
        refine wpAnyH_take (i := 0) (oi := ⟨some 43, .move (.tmp 0), _, _, _, none⟩) (v := ?_) rfl (by kernel_rfl) (by kernel_rfl) (by kernel_rfl) (fun _ _ _ h => h) (Or.inl ⟨by rfl, ?_⟩) hHeld ?_
        rotate_left
        · intro W _; go_simp; try with_reducible rfl
        try simp only [Act.put, List.setIfInBounds_toArray, List.set_cons_zero, List.set_cons_succ]
        refine wpAnyH_take (i := 1) (oi := ⟨some 44, .load 23 (.tmp 9), _, _, _, none⟩) (v := .agg (bs p).toArray) rfl (by kernel_rfl) (by kernel_rfl) (by kernel_rfl) (fun _ _ _ h => h) (yieldsIf_load_mid (by rfl) _ _ rfl (w.heap.size + 1) 0 rfl (bs p) _ (fun W h => h.2.p.allR) Tryd.underlying23 rfl h5.out) hHeld ?_
        try simp only [Act.put, List.setIfInBounds_toArray, List.set_cons_zero, List.set_cons_succ]
        refine wpAnyH_take (i := 2) (oi := ⟨some 45, .load 25 (.tmp 10), _, _, _, none⟩) (v := .agg C.toArray) rfl (by kernel_rfl) (by kernel_rfl) (by kernel_rfl) (fun _ _ _ h => h) (yieldsIf_load_mid (by rfl) _ _ rfl (w.heap.size + 2) 0 rfl C _ (fun W h => h.2.c.allR) Tryd.underlying25 rfl h6.out) hHeld ?_
        try simp only [Act.put, List.setIfInBounds_toArray, List.set_cons_zero, List.set_cons_succ]
        refine wpAnyH_take (i := 3) (oi := ⟨some 46, .load 28 (.tmp 11), _, _, _, none⟩) (v := .agg P.toArray) rfl (by kernel_rfl) (by kernel_rfl) (by kernel_rfl) (fun _ _ _ h => h) (yieldsIf_load_mid (by rfl) _ _ rfl (w.heap.size + 3) 0 rfl P _ (fun W h => h.2.x.allR) Tryd.underlying28 rfl h7.out) hHeld ?_
        try simp only [Act.put, List.setIfInBounds_toArray, List.set_cons_zero, List.set_cons_succ]
        refine wpAnyH_take (i := 5) (oi := ⟨some 48, .move (.tmp 0), _, _, _, none⟩) (v := ?_) rfl (by kernel_rfl) (by kernel_rfl) (by kernel_rfl) (fun _ _ _ h => h) (Or.inl ⟨by rfl, ?_⟩) hHeld ?_
        rotate_left
        · intro W _; go_simp; try with_reducible rfl
        try simp only [Act.put, List.setIfInBounds_toArray, List.set_cons_zero, List.set_cons_succ]
        refine wpAnyH_take (i := 6) (oi := ⟨some 49, .load 23 (.tmp 9), _, _, _, none⟩) (v := .agg (bs p).toArray) rfl (by kernel_rfl) (by kernel_rfl) (by kernel_rfl) (fun _ _ _ h => h) (yieldsIf_load_mid (by rfl) _ _ rfl (w.heap.size + 1) 0 rfl (bs p) _ (fun W h => h.2.p.allR) Tryd.underlying23 rfl h5.out) hHeld ?_
        try simp only [Act.put, List.setIfInBounds_toArray, List.set_cons_zero, List.set_cons_succ]
        refine wpAnyH_take (i := 7) (oi := ⟨some 50, .load 25 (.tmp 12), _, _, _, none⟩) (v := .agg C2.toArray) rfl (by kernel_rfl) (by kernel_rfl) (by kernel_rfl) (fun _ _ _ h => h) (yieldsIf_load_mid (by rfl) _ _ rfl (w.heap.size + 4) 0 rfl C2 _ (fun W h => h.2.d.allR) Tryd.underlying25 rfl h8.out) hHeld ?_
        try simp only [Act.put, List.setIfInBounds_toArray, List.set_cons_zero, List.set_cons_succ]
        refine wpAnyH_take (i := 8) (oi := ⟨some 51, .load 28 (.tmp 13), _, _, _, none⟩) (v := .agg P2.toArray) rfl (by kernel_rfl) (by kernel_rfl) (by kernel_rfl) (fun _ _ _ h => h) (yieldsIf_load_mid (by rfl) _ _ rfl (w.heap.size + 5) 0 rfl P2 _ (fun W h => h.2.y.allR) Tryd.underlying28 rfl h9.out) hHeld ?_
        try simp only [Act.put, List.setIfInBounds_toArray, List.set_cons_zero, List.set_cons_succ]
        refine wpAnyH_ready (rs := [4]) (by kernel_rfl) (by simp) ?_
        refine AllReadyH.cons (o := ⟨some 47, .call { callee := .value (.func 27), args := #[.tmp 43, .tmp 44, .tmp 45, .tmp 46], argTypes := #[3, 23, 25, 28] }, _, _, _, none⟩) rfl (fun K hK => ?_) AllReadyH.nil
        refine step_ofR (by rfl) ?_
        go_simp
        refine (HS1.out _ hHeld.1 hn).mono ?_
        rintro ee W4 ⟨o1, k1, ys1, rfl, hH1⟩
        refine hK.out _ _ (⟨hHeld.1.trans (hH1.bel.mono hHeld.1.size), hHeld.2.below hH1.bel⟩) (fun hHeld => ?_)
        clear hK K
        try simp only [Act.put, List.setIfInBounds_toArray, List.set_cons_zero, List.set_cons_succ]
        refine wpAnyH_ready (rs := [9]) (by kernel_rfl) (by simp) ?_
        refine AllReadyH.cons (o := ⟨some 52, .call { callee := .value (.func 27), args := #[.tmp 48, .tmp 49, .tmp 50, .tmp 51], argTypes := #[3, 23, 25, 28] }, _, _, _, none⟩) rfl (fun K hK => ?_) AllReadyH.nil
        refine step_ofR (by rfl) ?_
        go_simp
        refine (HS2.out _ hHeld.1 hn2).mono ?_
        rintro ee W9 ⟨o2, k2, ys2, rfl, hH2⟩
        refine hK.out _ _ (⟨hHeld.1.trans (hH2.bel.mono hHeld.1.size), hHeld.2.below hH2.bel⟩) (fun hHeld => ?_)
        clear hK K
        try simp only [Act.put, List.setIfInBounds_toArray, List.set_cons_zero, List.set_cons_succ]
        refine wpAnyH_ready (rs := [10]) (by kernel_rfl) (by simp) ?_
        refine AllReadyH.cons (o := ⟨some 19, .assign (.tmp 47), _, _, _, none⟩) rfl (fun K hK => ?_) AllReadyH.nil
        refine step_ofR (by rfl) ?_
        go_simp
        refine hK.out _ _ (hHeld) (fun hHeld => ?_)
        clear hK K
        try simp only [Act.put, List.setIfInBounds_toArray, List.set_cons_zero, List.set_cons_succ]
        refine wpAnyH_ready (rs := [11]) (by kernel_rfl) (by simp) ?_
        refine AllReadyH.cons (o := ⟨some 20, .assign (.tmp 52), _, _, _, none⟩) rfl (fun K hK => ?_) AllReadyH.nil
        refine step_ofR (by rfl) ?_
        go_simp
        refine hK.out _ _ (hHeld) (fun hHeld => ?_)
        clear hK K
        try simp only [Act.put, List.setIfInBounds_toArray, List.set_cons_zero, List.set_cons_succ]
        refine wpAnyH_done (by kernel_rfl) ?_ _
        -- END clash9
        have HA := Lib.hid (hH1.below hH2.bel)
        have HB9 := Lib.hid hHeld.2
        have HBB := Lib.hid hH2
        obtain ⟨g1, hga, -⟩ := hH1.row
        obtain ⟨g2, hgb, -⟩ := hH2.row
        subst hga
        subst hgb
        clear hH1 hH2 hHeld
        go_wp2_with fail
        go_loopw [21] (fun iv wr => ∃ k : Nat, k ≤ K0 ∧ iv = .int .i64 (k : Int) ∧ Below W9.heap.size W9 wr) (fun iv _ => K0 + 1 - (intOf iv).toNat)
        case atStart => exact ⟨0, by omega, rfl, Below.refl _ _⟩
        case round =>
          obtain ⟨k, hk, rfl, hBr⟩ := hrel
          obtain ⟨y1, hc1, hr1, hm1⟩ := (HA.out.below hBr).elem (k := k) (by omega)
          obtain ⟨y2, hc2, hr2, hm2⟩ := (HBB.out.below hBr).elem (k := k) (by omega)
          have hkn1 : (k : Int) < ((n + 1 : Nat) : Int) := by omega
          have hkn2 : (k : Int) < ((n2 + 1 : Nat) : Int) := by omega
          have hkn3 : (k : Int) < (n : Int) + 1 := by omega
          have hkn4 : (k : Int) < (n2 : Int) + 1 := by omega
          have hkn5 : k < n + 1 := by omega
          have hkn6 : k < n2 + 1 := by omega
          have HC1 := Lib.hid hc1
          have HC2 := Lib.hid hc2
          have HR1 := Lib.hid hr1
          have HR2 := Lib.hid hr2
          have EQ := Lib.hid (fun (W : World) (h : Below wr.heap.size wr W) => equal_any W y1.a y1.m y1.c _ (hr1.below h) y2.a y2.m y2.c _ (hr2.below h))
          clear hc1 hc2 hr1 hr2
          by_cases hlt : k < K0
          · have hb := HKE.out k hlt
            have hbe : (A.getD k [] == B.getD k []) = true := by simpa using hb
            rw [hbe] at EQ
            have hki : IntKind.i64.wrap ((k : Int) + 1) = ((k + 1 : Nat) : Int) := IntWalk.i64_in _ (by omega)
            clear hb hbe
            go_wp2_with fail
            -- REGION clashE 12
            refine wp_region_held_drew (S := fun W => Below wr.heap.size wr W) (by kernel_rfl) (Below.refl _ wr).drew (fun hHeld => ?_)
            refine wpAnyH_take (i := 0) (oi := ⟨some 53, .move (.tmp 19), _, _, _, none⟩) (v := ?_) rfl (by kernel_rfl) (by kernel_rfl) (by kernel_rfl) (fun _ _ _ h => h) (Or.inl ⟨by rfl, ?_⟩) hHeld ?_
            rotate_left
            · intro W _; go_simp; try with_reducible rfl
            try simp only [Act.put, List.setIfInBounds_toArray, List.set_cons_zero, List.set_cons_succ]
            refine wpAnyH_take (i := 1) (oi := ⟨some 54, .move (.tmp 21), _, _, _, none⟩) (v := ?_) rfl (by kernel_rfl) (by kernel_rfl) (by kernel_rfl) (fun _ _ _ h => h) (Or.inl ⟨by rfl, ?_⟩) hHeld ?_
            rotate_left
            · intro W _; go_simp; try with_reducible rfl
            try simp only [Act.put, List.setIfInBounds_toArray, List.set_cons_zero, List.set_cons_succ]
            refine wpAnyH_take (i := 2) (oi := ⟨some 55, .indexAddr 56 (.tmp 53) (.tmp 54), _, _, _, none⟩) (v := ?_) rfl (by kernel_rfl) (by kernel_rfl) (by kernel_rfl) (fun _ _ _ h => h) (Or.inl ⟨by rfl, ?_⟩) hHeld ?_
            rotate_left
            · intro W _; go_simp; try with_reducible rfl
            try simp only [Act.put, List.setIfInBounds_toArray, List.set_cons_zero, List.set_cons_succ]
            refine wpAnyH_take (i := 3) (oi := ⟨some 56, .load 35 (.tmp 55), _, _, _, none⟩) (v := ?_) rfl (by kernel_rfl) (by kernel_rfl) (by kernel_rfl) (fun _ _ _ h => h) (Or.inl ⟨by rfl, ?_⟩) hHeld ?_
            rotate_left
            · intro W h; have h0 := cell_later h HC1.out; go_simp; try with_reducible rfl
            try simp only [Act.put, List.setIfInBounds_toArray, List.set_cons_zero, List.set_cons_succ]
            refine wpAnyH_take (i := 4) (oi := ⟨some 57, .move (.tmp 20), _, _, _, none⟩) (v := ?_) rfl (by kernel_rfl) (by kernel_rfl) (by kernel_rfl) (fun _ _ _ h => h) (Or.inl ⟨by rfl, ?_⟩) hHeld ?_
            rotate_left
            · intro W _; go_simp; try with_reducible rfl
            try simp only [Act.put, List.setIfInBounds_toArray, List.set_cons_zero, List.set_cons_succ]
            refine wpAnyH_take (i := 5) (oi := ⟨some 58, .move (.tmp 21), _, _, _, none⟩) (v := ?_) rfl (by kernel_rfl) (by kernel_rfl) (by kernel_rfl) (fun _ _ _ h => h) (Or.inl ⟨by rfl, ?_⟩) hHeld ?_
            rotate_left
            · intro W _; go_simp; try with_reducible rfl
            try simp only [Act.put, List.setIfInBounds_toArray, List.set_cons_zero, List.set_cons_succ]
            refine wpAnyH_take (i := 6) (oi := ⟨some 59, .indexAddr 56 (.tmp 57) (.tmp 58), _, _, _, none⟩) (v := ?_) rfl (by kernel_rfl) (by kernel_rfl) (by kernel_rfl) (fun _ _ _ h => h) (Or.inl ⟨by rfl, ?_⟩) hHeld ?_
            rotate_left
            · intro W _; go_simp; try with_reducible rfl
            try simp only [Act.put, List.setIfInBounds_toArray, List.set_cons_zero, List.set_cons_succ]
            refine wpAnyH_take (i := 7) (oi := ⟨some 60, .load 35 (.tmp 59), _, _, _, none⟩) (v := ?_) rfl (by kernel_rfl) (by kernel_rfl) (by kernel_rfl) (fun _ _ _ h => h) (Or.inl ⟨by rfl, ?_⟩) hHeld ?_
            rotate_left
            · intro W h; have h0 := cell_later h HC2.out; go_simp; try with_reducible rfl
            try simp only [Act.put, List.setIfInBounds_toArray, List.set_cons_zero, List.set_cons_succ]
            refine wpAnyH_ready (rs := [8]) (by kernel_rfl) (by simp) ?_
            refine AllReadyH.cons (o := ⟨some 61, .call { callee := .value (.func 28), args := #[.tmp 56, .tmp 60], argTypes := #[35, 35] }, _, _, _, none⟩) rfl (fun K hK => ?_) AllReadyH.nil
            refine step_ofR (by rfl) ?_
            go_simp
            refine (EQ.out _ hHeld).mono ?_
            rintro ee W8 ⟨rfl, rfl⟩
            refine hK.out _ _ (hHeld) (fun hHeld => ?_)
            clear hK K
            try simp only [Act.put, List.setIfInBounds_toArray, List.set_cons_zero, List.set_cons_succ]
            refine wpAnyH_done (by kernel_rfl) ?_ _
            -- END clashE
            have hBd := Bt hBr hHeld
            clear hHeld
            go_wp2_with fail
            go_roundw
            case rel => exact ⟨k + 1, by omega, by go_num, hBd⟩
            case measure => simp [intOf]; omega
          · obtain rfl : k = K0 := by omega
            have hbe : (A.getD k [] == B.getD k []) = false := by simpa using HKN.out
            rw [hbe] at EQ
            clear hbe
            go_wp2_with fail
            -- REGION clashN 12
            refine wp_region_held_drew (S := fun W => Below wr.heap.size wr W) (by kernel_rfl) (Below.refl _ wr).drew (fun hHeld => ?_)
            refine wpAnyH_take (i := 0) (oi := ⟨some 53, .move (.tmp 19), _, _, _, none⟩) (v := ?_) rfl (by kernel_rfl) (by kernel_rfl) (by kernel_rfl) (fun _ _ _ h => h) (Or.inl ⟨by rfl, ?_⟩) hHeld ?_
            rotate_left
            · intro W _; go_simp; try with_reducible rfl
            try simp only [Act.put, List.setIfInBounds_toArray, List.set_cons_zero, List.set_cons_succ]
            refine wpAnyH_take (i := 1) (oi := ⟨some 54, .move (.tmp 21), _, _, _, none⟩) (v := ?_) rfl (by kernel_rfl) (by kernel_rfl) (by kernel_rfl) (fun _ _ _ h => h) (Or.inl ⟨by rfl, ?_⟩) hHeld ?_
            rotate_left
            · intro W _; go_simp; try with_reducible rfl
            try simp only [Act.put, List.setIfInBounds_toArray, List.set_cons_zero, List.set_cons_succ]
            refine wpAnyH_take (i := 2) (oi := ⟨some 55, .indexAddr 56 (.tmp 53) (.tmp 54), _, _, _, none⟩) (v := ?_) rfl (by kernel_rfl) (by kernel_rfl) (by kernel_rfl) (fun _ _ _ h => h) (Or.inl ⟨by rfl, ?_⟩) hHeld ?_
            rotate_left
            · intro W _; go_simp; try with_reducible rfl
            try simp only [Act.put, List.setIfInBounds_toArray, List.set_cons_zero, List.set_cons_succ]
            refine wpAnyH_take (i := 3) (oi := ⟨some 56, .load 35 (.tmp 55), _, _, _, none⟩) (v := ?_) rfl (by kernel_rfl) (by kernel_rfl) (by kernel_rfl) (fun _ _ _ h => h) (Or.inl ⟨by rfl, ?_⟩) hHeld ?_
            rotate_left
            · intro W h; have h0 := cell_later h HC1.out; go_simp; try with_reducible rfl
            try simp only [Act.put, List.setIfInBounds_toArray, List.set_cons_zero, List.set_cons_succ]
            refine wpAnyH_take (i := 4) (oi := ⟨some 57, .move (.tmp 20), _, _, _, none⟩) (v := ?_) rfl (by kernel_rfl) (by kernel_rfl) (by kernel_rfl) (fun _ _ _ h => h) (Or.inl ⟨by rfl, ?_⟩) hHeld ?_
            rotate_left
            · intro W _; go_simp; try with_reducible rfl
            try simp only [Act.put, List.setIfInBounds_toArray, List.set_cons_zero, List.set_cons_succ]
            refine wpAnyH_take (i := 5) (oi := ⟨some 58, .move (.tmp 21), _, _, _, none⟩) (v := ?_) rfl (by kernel_rfl) (by kernel_rfl) (by kernel_rfl) (fun _ _ _ h => h) (Or.inl ⟨by rfl, ?_⟩) hHeld ?_
            rotate_left
            · intro W _; go_simp; try with_reducible rfl
            try simp only [Act.put, List.setIfInBounds_toArray, List.set_cons_zero, List.set_cons_succ]
            refine wpAnyH_take (i := 6) (oi := ⟨some 59, .indexAddr 56 (.tmp 57) (.tmp 58), _, _, _, none⟩) (v := ?_) rfl (by kernel_rfl) (by kernel_rfl) (by kernel_rfl) (fun _ _ _ h => h) (Or.inl ⟨by rfl, ?_⟩) hHeld ?_
            rotate_left
            · intro W _; go_simp; try with_reducible rfl
            try simp only [Act.put, List.setIfInBounds_toArray, List.set_cons_zero, List.set_cons_succ]
            refine wpAnyH_take (i := 7) (oi := ⟨some 60, .load 35 (.tmp 59), _, _, _, none⟩) (v := ?_) rfl (by kernel_rfl) (by kernel_rfl) (by kernel_rfl) (fun _ _ _ h => h) (Or.inl ⟨by rfl, ?_⟩) hHeld ?_
            rotate_left
            · intro W h; have h0 := cell_later h HC2.out; go_simp; try with_reducible rfl
            try simp only [Act.put, List.setIfInBounds_toArray, List.set_cons_zero, List.set_cons_succ]
            refine wpAnyH_ready (rs := [8]) (by kernel_rfl) (by simp) ?_
            refine AllReadyH.cons (o := ⟨some 61, .call { callee := .value (.func 28), args := #[.tmp 56, .tmp 60], argTypes := #[35, 35] }, _, _, _, none⟩) rfl (fun K hK => ?_) AllReadyH.nil
            refine step_ofR (by rfl) ?_
            go_simp
            refine (EQ.out _ hHeld).mono ?_
            rintro ee W8 ⟨rfl, rfl⟩
            refine hK.out _ _ (hHeld) (fun hHeld => ?_)
            clear hK K
            try simp only [Act.put, List.setIfInBounds_toArray, List.set_cons_zero, List.set_cons_succ]
            refine wpAnyH_done (by kernel_rfl) ?_ _
            -- END clashN
            have HN := Lib.hid hHeld
            clear hHeld
            go_wp2_with fail
            -- REGION clash13 12
            refine wp_region_held_drew (S := fun W => Below wr.drew.heap.size wr.drew W) (by kernel_rfl) (Below.refl _ wr.drew).drew (fun hHeld => ?_)
            refine wpAnyH_take (i := 0) (oi := ⟨some 64, .move (.tmp 19), _, _, _, none⟩) (v := ?_) rfl (by kernel_rfl) (by kernel_rfl) (by kernel_rfl) (fun _ _ _ h => h) (Or.inl ⟨by rfl, ?_⟩) hHeld ?_
            rotate_left
            · intro W _; go_simp; try with_reducible rfl
            try simp only [Act.put, List.setIfInBounds_toArray, List.set_cons_zero, List.set_cons_succ]
            refine wpAnyH_take (i := 1) (oi := ⟨some 65, .move (.tmp 21), _, _, _, none⟩) (v := ?_) rfl (by kernel_rfl) (by kernel_rfl) (by kernel_rfl) (fun _ _ _ h => h) (Or.inl ⟨by rfl, ?_⟩) hHeld ?_
            rotate_left
            · intro W _; go_simp; try with_reducible rfl
            try simp only [Act.put, List.setIfInBounds_toArray, List.set_cons_zero, List.set_cons_succ]
            refine wpAnyH_take (i := 2) (oi := ⟨some 66, .indexAddr 56 (.tmp 64) (.tmp 65), _, _, _, none⟩) (v := ?_) rfl (by kernel_rfl) (by kernel_rfl) (by kernel_rfl) (fun _ _ _ h => h) (Or.inl ⟨by rfl, ?_⟩) hHeld ?_
            rotate_left
            · intro W _; go_simp; try with_reducible rfl
            try simp only [Act.put, List.setIfInBounds_toArray, List.set_cons_zero, List.set_cons_succ]
            refine wpAnyH_take (i := 3) (oi := ⟨some 67, .load 35 (.tmp 66), _, _, _, none⟩) (v := ?_) rfl (by kernel_rfl) (by kernel_rfl) (by kernel_rfl) (fun _ _ _ h => h) (Or.inl ⟨by rfl, ?_⟩) hHeld ?_
            rotate_left
            · intro W h; have h0 := cell_later h (cell_later HN.out HC1.out); go_simp; try with_reducible rfl
            try simp only [Act.put, List.setIfInBounds_toArray, List.set_cons_zero, List.set_cons_succ]
            refine wpAnyH_take (i := 4) (oi := ⟨some 68, .move (.tmp 20), _, _, _, none⟩) (v := ?_) rfl (by kernel_rfl) (by kernel_rfl) (by kernel_rfl) (fun _ _ _ h => h) (Or.inl ⟨by rfl, ?_⟩) hHeld ?_
            rotate_left
            · intro W _; go_simp; try with_reducible rfl
            try simp only [Act.put, List.setIfInBounds_toArray, List.set_cons_zero, List.set_cons_succ]
            refine wpAnyH_take (i := 5) (oi := ⟨some 69, .move (.tmp 21), _, _, _, none⟩) (v := ?_) rfl (by kernel_rfl) (by kernel_rfl) (by kernel_rfl) (fun _ _ _ h => h) (Or.inl ⟨by rfl, ?_⟩) hHeld ?_
            rotate_left
            · intro W _; go_simp; try with_reducible rfl
            try simp only [Act.put, List.setIfInBounds_toArray, List.set_cons_zero, List.set_cons_succ]
            refine wpAnyH_take (i := 6) (oi := ⟨some 70, .indexAddr 56 (.tmp 68) (.tmp 69), _, _, _, none⟩) (v := ?_) rfl (by kernel_rfl) (by kernel_rfl) (by kernel_rfl) (fun _ _ _ h => h) (Or.inl ⟨by rfl, ?_⟩) hHeld ?_
            rotate_left
            · intro W _; go_simp; try with_reducible rfl
            try simp only [Act.put, List.setIfInBounds_toArray, List.set_cons_zero, List.set_cons_succ]
            refine wpAnyH_take (i := 7) (oi := ⟨some 71, .load 35 (.tmp 70), _, _, _, none⟩) (v := ?_) rfl (by kernel_rfl) (by kernel_rfl) (by kernel_rfl) (fun _ _ _ h => h) (Or.inl ⟨by rfl, ?_⟩) hHeld ?_
            rotate_left
            · intro W h; have h0 := cell_later h (cell_later HN.out HC2.out); go_simp; try with_reducible rfl
            try simp only [Act.put, List.setIfInBounds_toArray, List.set_cons_zero, List.set_cons_succ]
            refine wpAnyH_ready (rs := [8]) (by kernel_rfl) (by simp) ?_
            refine AllReadyH.cons (o := ⟨some 14, .assign (.tmp 67), _, _, _, none⟩) rfl (fun K hK => ?_) AllReadyH.nil
            refine step_ofR (by rfl) ?_
            go_simp
            refine hK.out _ _ (hHeld) (fun hHeld => ?_)
            clear hK K
            try simp only [Act.put, List.setIfInBounds_toArray, List.set_cons_zero, List.set_cons_succ]
            refine wpAnyH_ready (rs := [9]) (by kernel_rfl) (by simp) ?_
            refine AllReadyH.cons (o := ⟨some 15, .assign (.tmp 71), _, _, _, none⟩) rfl (fun K hK => ?_) AllReadyH.nil
            refine step_ofR (by rfl) ?_
            go_simp
            refine hK.out _ _ (hHeld) (fun hHeld => ?_)
            clear hK K
            try simp only [Act.put, List.setIfInBounds_toArray, List.set_cons_zero, List.set_cons_succ]
            refine wpAnyH_ready (rs := [10]) (by kernel_rfl) (by simp) ?_
            refine AllReadyH.cons (o := ⟨some 16, .assign (.const (.int .i64 0)), _, _, _, none⟩) rfl (fun K hK => ?_) AllReadyH.nil
            refine step_ofR (by rfl) ?_
            go_simp
            refine hK.out _ _ (hHeld) (fun hHeld => ?_)
            clear hK K
            try simp only [Act.put, List.setIfInBounds_toArray, List.set_cons_zero, List.set_cons_succ]
            refine wpAnyH_done (by kernel_rfl) ?_ _
            -- END clash13
            have hBf := Bt (Bt HB9.out.bel hBr) (Bt HN.out hHeld)
            have hf1 := (HR1.out.below HN.out).below hHeld
            have hf2 := (HR2.out.below HN.out).below hHeld
            go_wp2_with fail
            go_ret3
            exact FY.out _ _ _ _ _ _ _ HE.out hf1 hf2 hm1 hm2 hBf
    all_goals
      subst hc2
      go_wp2_with fail
      go_ret3
      exact FN.out _ _ (by rw [HCE.out]; rfl) (by decide) HB2.out.bel
  all_goals
    subst hc1
    go_wp2_with fail
    go_ret3
    exact FN.out _ _ (by rw [HCE.out]; rfl) (by decide) HB1.out.bel
end
end Go.Proofs.YtgbhfpkngjlfkaaDoor
