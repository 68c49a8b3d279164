/-
  The walks of ProofPuts and ProofGets.
-/
import Derived.Test.YtmfnpjfhijmboaaLaw06A
namespace Go.Proofs.Ytmfnpjfhijmboaa
open Go.RowKit

theorem encP_len {x : Pf} (hx : x.ok) (hf : formB x = true) : (encP x).length ≤ 10000 := by
  have hn : x.sibs.length ≤ 256 := by
    simp only [formB, Bool.and_eq_true, decide_eq_true_eq] at hf
    exact hf.1
  have h1 := headP_le hx
  have h2 := encC_le x.sibs.length (by omega)
  have h3 := flat_length hx.d
  unfold encP
  rw [List.length_append, List.length_append]
  omega
/-- a proof's variable of the call's own is made: alloc and store -/
theorem box_below {w w1 w2 : World} (hg1 : w.grownBy w1 none) (hz1 : w1.heap.size = w.heap.size + 1) (hg2 : w1.grownBy w2 (some w.heap.size)) : Below w.heap.size w w2 :=
  ((Below.refl _ w).grown hg1 (Nat.le_refl _) (fun k e => by cases e)).grown hg2 (by omega) (fun k e => by cases e; exact Nat.le_refl _)

theorem ref_some {w : World} {a : Option Addr} {n c : Nat} {l : List UInt8} {x : Pf} (hr : Rd w a n c l) (hn : n ≤ 65536) (h : getP l = some x) :
    Calls Try.prog 11 #[.slice a n c] w fun e w' => ∃ a' c', e = .returned (.tuple #[.agg (pc a' x.sibs.length c' x).toArray, .int .i64 0]) ∧ RdP6 w' a' x.sibs.length c' x ∧ Below w.heap.size w w' := by
  refine (get_ref w a n c l hr hn).mono ?_
  rintro e w' (⟨y, a', n', c', h1, h2, h3, h4⟩ | ⟨h1, _⟩)
  · rw [h] at h1
    obtain rfl := Option.some.inj h1
    have hl := h3.sib.len
    subst hl
    exact ⟨a', c', h2, h3, h4⟩
  · rw [h] at h1; cases h1
theorem ref_none {w : World} {a : Option Addr} {n c : Nat} {l : List UInt8} (hr : Rd w a n c l) (hn : n ≤ 65536) (h : getP l = none) :
    Calls Try.prog 11 #[.slice a n c] w fun e w' => e = .returned (.tuple #[.agg (pc none 0 0 pf0).toArray, .int .i64 40]) ∧ Below w.heap.size w w' := by
  refine (get_ref w a n c l hr hn).mono ?_
  rintro e w' (⟨y, a', n', c', h1, h2, h3, h4⟩ | ⟨h1, h2, h3⟩)
  · rw [h] at h1; cases h1
  · exact ⟨h2, h3⟩

set_option maxRecDepth 100000 in
set_option maxHeartbeats 4000000 in
theorem walkProofPuts (w : World) (a : Option Addr) (n c : Nat) (x : Pf) (hr : RdP6 w a n c x) :
    Calls Try.prog 3 #[.agg (pc a n c x).toArray] w (Yes6 w) := by
  have hS0 : PutAt w (w.alloc (.cells (pc a n c x).toArray 26)) a n c x := ⟨PAt.start w a n c x, hr.below ((Below.refl _ w).alloc (Nat.le_refl _) _)⟩
  have c0 := hS0.own.c0
  have hb0 := hS0.own.blk
  have hB0 := hS0.own.bel
  by_cases hn : n ≤ 1000
  · have hn' : ¬ (1000 : Int) < (n : Int) := by omega
    have hx := hr.ok
    have hlen := hr.sib.len
    have HI : Hid (∀ a c, (Try.prog.info? 26).map (·.size) = some (pc a n c x).length ∧ (pc none 0 0 pf0).length = (pc a n c x).length ∧ ∀ u ∈ pc a n c x, u.oneCell' = true) := Lib.hid (fun a c => ⟨size_of hx, cells_len pf0_ok hx, pc_one _ _ _ _⟩)
    have I0 := Lib.hid (HI.out a c).1
    have OW := Lib.hid (fun (W : World) (h : RdP6 W a n c x) => own_ref W a n c x h hn)
    have SM := Lib.hid (fun (W : World) (a1 : Option Addr) (c1 : Nat) (h1 : RdP6 W a n c x) (h2 : RdP6 W a1 n c1 x) => same_ref W a n c a1 c1 x h1 h2 hn)
    have PU := Lib.hid (fun W : World => puts_any W)
    cases hf : formB x with
    | false =>
      have PP := Lib.hid (fun (W : World) (h : RdP6 W a n c x) => pput_no W a n c x h hf)
      have PR := Lib.hid (fun (W : World) (a1 : Option Addr) (c1 : Nat) (h : RdP6 W a1 n c1 x) => put_ref_no W a1 n c1 x h hf hn)
      clear hf hr hx hlen
      go_enter Try.func3, Try.ntmps3
      go_wp2_with ((with_reducible refine wpList_loadB (o := ⟨some 14, _, _, _, _, _⟩) ?_ 26 (.tmp 1) ?_ ?_ hb0 Try.underlying26 ?_ I0.out ?_); rfl; rfl; rfl; rfl)
      refine (OW.out _ hS0.rd).mono ?_
      rintro e w1 ⟨a1, c1, rfl, hr1, hB1⟩
      have hS1 := hS0.below hB1
      obtain ⟨i1, l1, o1⟩ := HI.out a1 c1
      have I1 := Lib.hid i1
      have L1 := Lib.hid l1
      clear i1 l1 hS0 hb0 c0
      go_wp2_with (first | ((with_reducible refine wpList_allocB (o := ⟨some 3, _, _, _, _, _⟩) ?_ 26 ?_ zeroP_info ?_); rfl; rfl; intro w2 hr2 hg2 hz2) | ((with_reducible refine wpList_storeB (o := ⟨none, .store 26 (.tmp 3) (.tmp 15), _, _, _, _⟩) ?_ 26 (.tmp 3) (.tmp 15) ?_ ?_ ?_ hr2 I1.out L1.out o1 ?_); rfl; rfl; rfl; rfl; intro w3 hr3 hg3 hz3; have hB3 := box_below hg2 hz2 hg3; have hS3 := hS1.below hB3; have hb3 := hS3.own.blk) | ((with_reducible refine wpList_loadB (o := ⟨some 17, _, _, _, _, _⟩) ?_ 26 (.tmp 1) ?_ ?_ hb3 Try.underlying26 ?_ I0.out ?_); rfl; rfl; rfl; rfl))
      have hr31 := hr1.below hB3
      clear hz2 hz3 hg2 hg3 hr2
      refine (PP.out w3 hS3.rd).mono ?_
      rintro e w4 ⟨rfl, hB4⟩
      have hr4 := hr3.below hB4
      go_wp2_with ((with_reducible refine wpList_loadB (o := ⟨some 22, _, _, _, _, _⟩) ?_ 26 (.tmp 3) ?_ ?_ hr4 Try.underlying26 ?_ I1.out ?_); rfl; rfl; rfl; rfl)
      refine (PR.out w4 a1 c1 (hr31.below hB4)).mono ?_
      rintro e w5 ⟨rfl, hB5⟩
      have hS5 := (hS3.below hB4).below hB5
      have hb5 := hS5.own.blk
      have hr5 := hr4.below hB5
      have kz := conv_zero w5 none 0
      go_wp2_with (first | ((with_reducible refine wpList_loadR (o := ⟨some 37, _, _, _, _, _⟩) ?_ 26 (.tmp 1) ?_ ?_ hb5 Try.underlying26 ?_ I0.out ?_); rfl; rfl; rfl; rfl) | ((with_reducible refine wpList_loadR (o := ⟨some 38, _, _, _, _, _⟩) ?_ 26 (.tmp 3) ?_ ?_ hr5 Try.underlying26 ?_ I1.out ?_); rfl; rfl; rfl; rfl))
      refine (SM.out w5 a1 c1 hS5.rd ((hr31.below hB4).below hB5)).mono ?_
      rintro e w6 ⟨rfl, hB6⟩
      go_wp2_with fail
      refine (PU.out w6).mono ?_
      rintro e w7 ⟨rfl, hB7⟩
      go_wp2_with fail
      go_ret
      exact Yes6.mk (Bt (Bt hS5.own.bel hB6) hB7)
    | true =>
      have PP := Lib.hid (fun (W : World) (h : RdP6 W a n c x) => pput_ok W a n c x h hf)
      have PR := Lib.hid (fun (W : World) (a1 : Option Addr) (c1 : Nat) (h : RdP6 W a1 n c1 x) => put_ref_ok W a1 n c1 x h hf)
      have PG := Lib.hid (fun (W : World) (a1 : Option Addr) (n1 c1 : Nat) (h : Rd W a1 n1 c1 (encP x)) (h1 : n1 ≤ 1099511627776) => pget_some h h1 (getP_enc x hx hf))
      rw [hlen] at PG
      have hel := encP_len hx hf
      generalize encP x = E at *
      clear hf hr hx hlen
      go_enter Try.func3, Try.ntmps3
      go_wp2_with ((with_reducible refine wpList_loadB (o := ⟨some 14, _, _, _, _, _⟩) ?_ 26 (.tmp 1) ?_ ?_ hb0 Try.underlying26 ?_ I0.out ?_); rfl; rfl; rfl; rfl)
      refine (OW.out _ hS0.rd).mono ?_
      rintro e w1 ⟨a1, c1, rfl, hr1, hB1⟩
      have hS1 := hS0.below hB1
      obtain ⟨i1, l1, o1⟩ := HI.out a1 c1
      have I1 := Lib.hid i1
      have L1 := Lib.hid l1
      clear i1 l1 hS0 hb0 c0
      go_wp2_with (first | ((with_reducible refine wpList_allocB (o := ⟨some 3, _, _, _, _, _⟩) ?_ 26 ?_ zeroP_info ?_); rfl; rfl; intro w2 hr2 hg2 hz2) | ((with_reducible refine wpList_storeB (o := ⟨none, .store 26 (.tmp 3) (.tmp 15), _, _, _, _⟩) ?_ 26 (.tmp 3) (.tmp 15) ?_ ?_ ?_ hr2 I1.out L1.out o1 ?_); rfl; rfl; rfl; rfl; intro w3 hr3 hg3 hz3; have hB3 := box_below hg2 hz2 hg3; have hS3 := hS1.below hB3; have hb3 := hS3.own.blk) | ((with_reducible refine wpList_loadB (o := ⟨some 17, _, _, _, _, _⟩) ?_ 26 (.tmp 1) ?_ ?_ hb3 Try.underlying26 ?_ I0.out ?_); rfl; rfl; rfl; rfl))
      have hr31 := hr1.below hB3
      clear hz2 hz3 hg2 hg3 hr2
      refine (PP.out w3 hS3.rd).mono ?_
      rintro e w4 ⟨v4, rfl, hO4, hB4⟩
      obtain ⟨a4, c4, rfl⟩ := hO4.shape
      have hr4 := hr3.below hB4
      go_wp2_with ((with_reducible refine wpList_loadB (o := ⟨some 22, _, _, _, _, _⟩) ?_ 26 (.tmp 3) ?_ ?_ hr4 Try.underlying26 ?_ I1.out ?_); rfl; rfl; rfl; rfl)
      refine (PR.out w4 a1 c1 (hr31.below hB4)).mono ?_
      rintro e w5 ⟨a5, n5, c5, rfl, hO5, hB5⟩
      have hS5 := (hS3.below hB4).below hB5
      have hb5 := hS5.own.blk
      have hr5 := hr4.below hB5
      have hO45 := hO4.below hB5
      have k4 := hO45.rd.conv
      have k5 := hO5.rd.conv
      have HO := Lib.hid hO45
      clear hO4 hO45 hO5
      generalize hse : str E = sE at *
      have HSE := Lib.hid hse
      clear hse
      go_wp2_with (first | ((with_reducible refine wpList_loadR (o := ⟨some 37, _, _, _, _, _⟩) ?_ 26 (.tmp 1) ?_ ?_ hb5 Try.underlying26 ?_ I0.out ?_); rfl; rfl; rfl; rfl) | ((with_reducible refine wpList_loadR (o := ⟨some 38, _, _, _, _, _⟩) ?_ 26 (.tmp 3) ?_ ?_ hr5 Try.underlying26 ?_ I1.out ?_); rfl; rfl; rfl; rfl))
      refine (SM.out w5 a1 c1 hS5.rd ((hr31.below hB4).below hB5)).mono ?_
      rintro e w6 ⟨rfl, hB6⟩
      have hO6 := HO.out.below hB6
      have hS6 := hS5.below hB6
      go_wp2_with fail
      refine (PG.out w6 _ _ _ hO6.rd (by omega)).mono ?_
      rintro e w7 ⟨a7, c7, rfl, hr7, hB7⟩
      obtain ⟨i7, l7, o7⟩ := HI.out a7 c7
      have I7 := Lib.hid i7
      have L7 := Lib.hid l7
      have hS7 := hS6.below hB7
      clear i7 l7 k4 k5 hO6 hB4 hB5
      go_wp2_with (first | ((with_reducible refine wpList_allocB (o := ⟨some 8, _, _, _, _, _⟩) ?_ 26 ?_ zeroP_info ?_); rfl; rfl; intro w8 hr8 hg8 hz8) | ((with_reducible refine wpList_storeB (o := ⟨none, .store 26 (.tmp 8) (.tmp 48), _, _, _, _⟩) ?_ 26 (.tmp 8) (.tmp 48) ?_ ?_ ?_ hr8 I7.out L7.out o7 ?_); rfl; rfl; rfl; rfl; intro w9 hr9 hg9 hz9; have hB9 := box_below hg8 hz8 hg9; clear hz9))
      refine (PU.out w9).mono ?_
      rintro e w10 ⟨rfl, hB10⟩
      have hS10 := (hS7.below hB9).below hB10
      have hb10 := hS10.own.blk
      have hr10 := hr9.below hB10
      go_wp2_with (first | ((with_reducible refine wpList_loadR (o := ⟨some 56, _, _, _, _, _⟩) ?_ 26 (.tmp 1) ?_ ?_ hb10 Try.underlying26 ?_ I0.out ?_); rfl; rfl; rfl; rfl) | ((with_reducible refine wpList_loadR (o := ⟨some 57, _, _, _, _, _⟩) ?_ 26 (.tmp 8) ?_ ?_ hr10 Try.underlying26 ?_ I7.out ?_); rfl; rfl; rfl; rfl))
      refine (SM.out w10 a7 c7 hS10.rd ((hr7.below hB9).below hB10)).mono ?_
      rintro e w11 ⟨rfl, hB11⟩
      go_wp2_with fail
      go_ret
      exact Yes6.mk (Bt hS10.own.bel hB11)
  · have hn' : (1000 : Int) < (n : Int) := by omega
    clear hr
    generalize pc a n c x = P at *
    go_enter Try.func3, Try.ntmps3
    go_wp2_with fail
    go_ret
    exact Yes6.mk hB0

set_option maxRecDepth 100000 in
set_option maxHeartbeats 4000000 in
theorem walkProofGets (w : World) (a : Option Addr) (n c : Nat) (l : List UInt8) (hr : Rd w a n c l) :
    Calls Try.prog 4 #[.slice a n c] w (Yes6 w) := by
  by_cases hn : n ≤ 65536
  · have hn' : ¬ (65536 : Int) < (n : Int) := by omega
    have PU := Lib.hid (fun W : World => puts_any W)
    cases hg : getP l with
    | none =>
      have PG := Lib.hid (fun (W : World) (h : Rd W a n c l) => pget_none h (by omega) hg)
      have RG := Lib.hid (fun (W : World) (h : Rd W a n c l) => ref_none h hn hg)
      have SM := Lib.hid (fun (W : World) => same_ref W none 0 0 none 0 pf0 (rdNil W) (rdNil W) (by decide))
      have I0 := Lib.hid (size_of (a := none) (n := 0) (c := 0) pf0_ok)
      have O0 := pc_one none 0 0 pf0
      clear hg
      go_enter Try.func4, Try.ntmps4
      go_wp2_with fail
      refine (PG.out w hr).mono ?_
      rintro e w1 ⟨rfl, hB1⟩
      go_wp2_with (first | ((with_reducible refine wpList_allocB (o := ⟨some 3, _, _, _, _, _⟩) ?_ 26 ?_ zeroP_info ?_); rfl; rfl; intro w2 hr2 hg2 hz2) | ((with_reducible refine wpList_storeB (o := ⟨none, .store 26 (.tmp 3) (.tmp 15), _, _, _, _⟩) ?_ 26 (.tmp 3) (.tmp 15) ?_ ?_ ?_ hr2 I0.out rfl O0 ?_); rfl; rfl; rfl; rfl; intro w3 hr3 hg3 hz3; have hB3 := box_below hg2 hz2 hg3; clear hz3))
      have hB13 := Bt hB1 hB3
      refine (RG.out w3 (hr.below hB13)).mono ?_
      rintro e w4 ⟨rfl, hB4⟩
      have hr34 := hr3.below hB4
      clear hz2 hr2 hg2 hg3
      go_wp2_with (first | ((with_reducible refine wpList_allocB (o := ⟨some 5, _, _, _, _, _⟩) ?_ 26 ?_ zeroP_info ?_); rfl; rfl; intro w5 hr5 hg5 hz5) | ((with_reducible refine wpList_storeB (o := ⟨none, .store 26 (.tmp 5) (.tmp 20), _, _, _, _⟩) ?_ 26 (.tmp 5) (.tmp 20) ?_ ?_ ?_ hr5 I0.out rfl O0 ?_); rfl; rfl; rfl; rfl; intro w6 hr6 hg6 hz6; have hB6 := box_below hg5 hz5 hg6; have hr36 := hr34.below hB6; clear hz6) | ((with_reducible refine wpList_loadR (o := ⟨some 26, _, _, _, _, _⟩) ?_ 26 (.tmp 3) ?_ ?_ hr36 Try.underlying26 ?_ I0.out ?_); rfl; rfl; rfl; rfl) | ((with_reducible refine wpList_loadR (o := ⟨some 27, _, _, _, _, _⟩) ?_ 26 (.tmp 5) ?_ ?_ hr6 Try.underlying26 ?_ I0.out ?_); rfl; rfl; rfl; rfl))
      refine (SM.out w6).mono ?_
      rintro e w7 ⟨rfl, hB7⟩
      go_wp2_with fail
      refine (PU.out w7).mono ?_
      rintro e w8 ⟨rfl, hB8⟩
      go_wp2_with fail
      go_ret
      exact Yes6.mk (Bt (Bt (Bt (Bt hB13 hB4) hB6) hB7) hB8)
    | some x =>
      obtain ⟨hx, hf, he⟩ := getP_back hg
      have hnn : x.sibs.length ≤ 1000 := by
        simp only [formB, Bool.and_eq_true, decide_eq_true_eq] at hf
        omega
      have PG := Lib.hid (fun (W : World) (h : Rd W a n c l) => pget_some h (by omega) hg)
      have RG := Lib.hid (fun (W : World) (h : Rd W a n c l) => ref_some h hn hg)
      have SM := Lib.hid (fun (W : World) (a1 : Option Addr) (c1 : Nat) (a2 : Option Addr) (c2 : Nat) (h1 : RdP6 W a1 x.sibs.length c1 x) (h2 : RdP6 W a2 x.sibs.length c2 x) => same_ref W a1 x.sibs.length c1 a2 c2 x h1 h2 hnn)
      have PP := Lib.hid (fun (W : World) (a1 : Option Addr) (c1 : Nat) (h : RdP6 W a1 x.sibs.length c1 x) => pput_ok W a1 x.sibs.length c1 x h hf)
      rw [he] at PP
      have HI : Hid (∀ a c, (Try.prog.info? 26).map (·.size) = some (pc a x.sibs.length c x).length ∧ (pc none 0 0 pf0).length = (pc a x.sibs.length c x).length ∧ ∀ u ∈ pc a x.sibs.length c x, u.oneCell' = true) := Lib.hid (fun a c => ⟨size_of hx, cells_len pf0_ok hx, pc_one _ _ _ _⟩)
      clear hg he hf hx
      generalize x.sibs.length = m at *
      go_enter Try.func4, Try.ntmps4
      go_wp2_with fail
      refine (PG.out w hr).mono ?_
      rintro e w1 ⟨a1, c1, rfl, hr1, hB1⟩
      obtain ⟨i1, l1, o1⟩ := HI.out a1 c1
      have I1 := Lib.hid i1
      have L1 := Lib.hid l1
      clear i1 l1
      go_wp2_with (first | ((with_reducible refine wpList_allocB (o := ⟨some 3, _, _, _, _, _⟩) ?_ 26 ?_ zeroP_info ?_); rfl; rfl; intro w2 hr2 hg2 hz2) | ((with_reducible refine wpList_storeB (o := ⟨none, .store 26 (.tmp 3) (.tmp 15), _, _, _, _⟩) ?_ 26 (.tmp 3) (.tmp 15) ?_ ?_ ?_ hr2 I1.out L1.out o1 ?_); rfl; rfl; rfl; rfl; intro w3 hr3 hg3 hz3; have hB3 := box_below hg2 hz2 hg3; clear hz3))
      have hB13 := Bt hB1 hB3
      have hr13 := hr1.below hB3
      refine (RG.out w3 (hr.below hB13)).mono ?_
      rintro e w4 ⟨a4, c4, rfl, hr4, hB4⟩
      have hr34 := hr3.below hB4
      obtain ⟨i4, l4, o4⟩ := HI.out a4 c4
      have I4 := Lib.hid i4
      have L4 := Lib.hid l4
      clear hz2 hr2 hg2 hg3 i4 l4
      go_wp2_with (first | ((with_reducible refine wpList_allocB (o := ⟨some 5, _, _, _, _, _⟩) ?_ 26 ?_ zeroP_info ?_); rfl; rfl; intro w5 hr5 hg5 hz5) | ((with_reducible refine wpList_storeB (o := ⟨none, .store 26 (.tmp 5) (.tmp 20), _, _, _, _⟩) ?_ 26 (.tmp 5) (.tmp 20) ?_ ?_ ?_ hr5 I4.out L4.out o4 ?_); rfl; rfl; rfl; rfl; intro w6 hr6 hg6 hz6; have hB6 := box_below hg5 hz5 hg6; have hr36 := hr34.below hB6; clear hz6) | ((with_reducible refine wpList_loadR (o := ⟨some 26, _, _, _, _, _⟩) ?_ 26 (.tmp 3) ?_ ?_ hr36 Try.underlying26 ?_ I1.out ?_); rfl; rfl; rfl; rfl) | ((with_reducible refine wpList_loadR (o := ⟨some 27, _, _, _, _, _⟩) ?_ 26 (.tmp 5) ?_ ?_ hr6 Try.underlying26 ?_ I4.out ?_); rfl; rfl; rfl; rfl))
      refine (SM.out w6 a1 c1 a4 c4 ((hr13.below hB4).below hB6) (hr4.below hB6)).mono ?_
      rintro e w7 ⟨rfl, hB7⟩
      have hr37 := hr36.below hB7
      clear hz5 hg5 hg6 hr5
      go_wp2_with ((with_reducible refine wpList_loadB (o := ⟨some 39, _, _, _, _, _⟩) ?_ 26 (.tmp 3) ?_ ?_ hr37 Try.underlying26 ?_ I1.out ?_); rfl; rfl; rfl; rfl)
      refine (PP.out w7 a1 c1 (((hr13.below hB4).below hB6).below hB7)).mono ?_
      rintro e w8 ⟨v8, rfl, hO8, hB8⟩
      obtain ⟨a8, c8, rfl⟩ := hO8.shape
      have hB08 := Bt (Bt (Bt (Bt hB13 hB4) hB6) hB7) hB8
      have HO := Lib.hid hO8
      clear hO8
      go_wp2_with fail
      refine (PU.out w8).mono ?_
      rintro e w9 ⟨rfl, hB9⟩
      have k8 := (HO.out.below hB9).rd.conv
      have k9 := (hr.below (Bt hB08 hB9)).conv
      clear HO hr
      generalize str l = sl at *
      go_wp2_with fail
      go_ret
      exact Yes6.mk (Bt hB08 hB9)
  · have hn' : (65536 : Int) < (n : Int) := by omega
    go_enter Try.func4, Try.ntmps4
    go_wp2_with fail
    go_ret
    exact Yes6.mk (Below.refl _ _)
end Go.Proofs.Ytmfnpjfhijmboaa
