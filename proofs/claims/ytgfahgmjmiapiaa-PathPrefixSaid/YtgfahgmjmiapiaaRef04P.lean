/-
  The walk of the reference's Prefix.
-/
import Derived.Test.YtgfahgmjmiapiaaRef04
namespace Go.Proofs.Ytgfahgmjmiapiaa
open Go.RowKit

set_option maxRecDepth 100000 in
set_option maxHeartbeats 1000000 in
theorem prefix_ref_no (w : World) (p : List UInt8) (n : Int) (hn : n < 0 ∨ 256 < n) :
    Calls Try.prog 13 #[.agg (bs p).toArray, .int .i64 n] w fun e w' => e = .returned (.tuple #[.agg (bs zero32).toArray, .int .i64 20]) ∧ Below w.heap.size w w' := by
  have H5 := Lib.hid (show (Try.prog.info? 23).map (·.size) = some (bs zero32).length by rw [info_digest, bs_length, zero32_length])
  have H7 := bs_one zero32
  have HBT := Lib.hid built0
  by_cases h0 : n < 0
  case' pos =>
    go_enter Try.func13, Try.ntmps13
  case' neg =>
    have h1 : 256 < n := by omega
    go_enter Try.func13, Try.ntmps13
  all_goals
    go_wp2_with (first | ((with_reducible refine wpList_allocB (o := ⟨some 4, _, _, _, _, _⟩) ?_ 23 ?_ zeroD_info ?_); rfl; rfl; intro w0 hr0 hg0 hz0; have hS := OneAt.start w p hr0 hg0; have hr := hS.b1) | ((with_reducible refine wpList_buildI (dst := some 15) HBT.out ?_ ?_); rfl) | ((with_reducible refine wpList_storeB (o := ⟨none, .store 23 (.tmp 4) (.tmp 15), _, _, _, _⟩) ?_ 23 (.tmp 4) (.tmp 15) ?_ ?_ ?_ hr H5.out rfl H7 ?_); rfl; rfl; rfl; rfl; intro w8 hb8 hg8 hz8))
    try simp only [Exit.inBlock, Exit.then]
    refine bodyPost_ret (results_digest2 rfl _ _ _ _ _ zero32_length rfl hb8.at_) rfl ⟨rfl, ?_⟩
    exact hS.bel.grown hg8 (by have := hS.bel.size; omega) (fun k e => by cases e; omega)

/-- the digest at work is replaced -/
theorem OneAt.stored {w W W' : World} {p q r : List UInt8} (h : OneAt w W p r) (hb : Blk W' w.heap.size 23 (bs q)) (hg : W.grownBy W' (some w.heap.size)) : OneAt w W' q r :=
  ⟨hb, h.b1.grown hg (by simp), h.bel.grown hg h.bel.size (fun k e => by cases e; exact Nat.le_refl _)⟩
theorem OneAt.other {w W W' : World} {p r : List UInt8} {g : Nat} (h : OneAt w W p r) (hg : W.grownBy W' (some g)) (h1 : w.heap.size + 1 < g) : OneAt w W' p r :=
  ⟨h.b0.grown hg (by simp; omega), h.b1.grown hg (by simp; omega), h.bel.grown hg h.bel.size (fun k e => by cases e; omega)⟩
theorem OneAt.new {w W W' : World} {p r : List UInt8} (h : OneAt w W p r) (hg : W.grownBy W' none) : OneAt w W' p r := h.below ((Below.refl _ _).grown hg (Nat.le_refl _) (fun k e => by cases e))

set_option maxRecDepth 100000 in
set_option maxHeartbeats 2000000 in
theorem prefix_ref (w : World) (p : List UInt8) (hp : p.length = 32) (n : Nat) (hn : n ≤ 256) :
    Calls Try.prog 13 #[.agg (bs p).toArray, .int .i64 (n : Int)] w fun e w' => e = .returned (.tuple #[.agg (bs (pref p n)).toArray, .int .i64 0]) ∧ Below w.heap.size w w' := by
  have h0 : ¬ (n : Int) < 0 := by omega
  have h1 : ¬ (256 : Int) < n := by omega
  go_enter Try.func13, Try.ntmps13
  go_wp2_with ((with_reducible refine wpList_allocB (o := ⟨some 4, _, _, _, _, _⟩) ?_ 23 ?_ zeroD_info ?_); rfl; rfl; intro w0 hr0 hg0 hz0; have hS := OneAt.start w p hr0 hg0)
  clear hr0 hg0 hz0
  go_loopw [6, 7, 8] (fun t _ _ wr => ∃ k : Nat, k ≤ 256 - n ∧ t = .int .i64 ((n + k : Nat) : Int) ∧ OneAt w wr (clr p n k) zero32) (fun t _ _ _ => 256 - (intOf t).toNat)
  case atStart => exact ⟨0, by omega, rfl, hS⟩
  case round =>
    obtain ⟨k, hk, rfl, hS⟩ := hrel
    have hq := clr_length p n k
    rw [hp] at hq
    have HQ := Lib.hid (show (Try.prog.info? 23).map (·.size) = some (bs (clr p n k)).length by rw [info_digest, bs_length, hq])
    by_cases hlt : n + k < 256
    · obtain ⟨m, hm⟩ : ∃ m, n + k = m := ⟨_, rfl⟩
      have HST := Lib.hid (show clr p n (k + 1) = withBit (clr p n k) m 0 by rw [← hm]; rfl)
      have hm1 : n + (k + 1) = m + 1 := by omega
      rw [hm] at hlt ⊢
      have hlt' : (m : Int) < 256 := by omega
      have hb0 := hS.b0
      have HW := Lib.hid (fun W : World => with_ref W (clr p n k) hq m hlt 0 (by decide))
      rw [show ((0 : Nat) : Int) = 0 from rfl, ← HST.out] at HW
      have hq1 := clr_length p n (k + 1)
      rw [hp] at hq1
      have H1 := Lib.hid (show (Try.prog.info? 23).map (·.size) = some (bs (clr p n (k + 1))).length by rw [info_digest, bs_length, hq1])
      have H2 := Lib.hid (show (bs zero32).length = (bs (clr p n (k + 1))).length by rw [bs_length, bs_length, zero32_length, hq1])
      have H4 := Lib.hid (show (bs (clr p n k)).length = (bs (clr p n (k + 1))).length by rw [bs_length, bs_length, hq, hq1])
      have H3 := bs_one (clr p n (k + 1))
      have HM := Lib.hid hm
      have HM1 := Lib.hid hm1
      clear hm hm1
      generalize hq1e : clr p n (k + 1) = q1 at *
      have HQ1 := Lib.hid hq1e
      clear hq1e
      generalize clr p n k = q at *
      go_wp2_with ((with_reducible refine wpList_loadB (o := ⟨some 22, _, _, _, _, _⟩) ?_ 23 (.tmp 2) ?_ ?_ hb0 Try.underlying23 ?_ HQ.out ?_); rfl; rfl; rfl; rfl)
      refine (HW.out wr).mono ?_
      rintro e w1 ⟨rfl, hB1⟩
      have hS1 := hS.below hB1
      have hs1 := hS1.b1.lt
      go_wp2_with (first | ((with_reducible refine wpList_allocB (o := ⟨some 7, _, _, _, _, _⟩) ?_ 23 ?_ zeroD_info ?_); rfl; rfl; intro w2 hr2 hg2 hz2; have hS2 := hS1.new hg2) | ((with_reducible refine wpList_storeB (o := ⟨none, .store 23 (.tmp 7) (.tmp 25), _, _, _, _⟩) ?_ 23 (.tmp 7) (.tmp 25) ?_ ?_ ?_ hr2 H1.out H2.out H3 ?_); rfl; rfl; rfl; rfl; intro w3 hr3 hg3 hz3; have hS3 := hS2.other hg3 hs1; have hb3 := hS3.b0) | ((with_reducible refine wpList_loadB (o := ⟨some 27, _, _, _, _, _⟩) ?_ 23 (.tmp 7) ?_ ?_ hr3 Try.underlying23 ?_ H1.out ?_); rfl; rfl; rfl; rfl) | ((with_reducible refine wpList_storeB (o := ⟨none, .store 23 (.tmp 2) (.tmp 27), _, _, _, _⟩) ?_ 23 (.tmp 2) (.tmp 27) ?_ ?_ ?_ hb3 H1.out H4.out H3 ?_); rfl; rfl; rfl; rfl; intro w4 hr4 hg4 hz4; have hS4 := hS3.stored hr4 hg4))
      refine ⟨⟨k + 1, by have := HM.out; omega, by rw [HM1.out]; rfl, by rw [HQ1.out]; exact hS4⟩, by simp [intOf]; omega⟩
    · obtain rfl : k = 256 - n := by omega
      have hnk : n + (256 - n) = 256 := by omega
      rw [show clr p n (256 - n) = pref p n from rfl] at hq HQ hS
      rw [hnk, show ((256 : Nat) : Int) = 256 from rfl]
      have HZ := Lib.hid (show (bs zero32).length = (bs (pref p n)).length by rw [bs_length, bs_length, zero32_length, hq])
      have H3 := bs_one (pref p n)
      generalize hpe : pref p n = q at *
      have HPE := Lib.hid hpe
      clear hpe
      have hb0 := hS.b0
      have hb1 := hS.b1
      go_wp2_with (first | ((with_reducible refine wpList_loadB (o := ⟨some 28, _, _, _, _, _⟩) ?_ 23 (.tmp 2) ?_ ?_ hb0 Try.underlying23 ?_ HQ.out ?_); rfl; rfl; rfl; rfl) | ((with_reducible refine wpList_storeB (o := ⟨none, .store 23 (.tmp 4) (.tmp 28), _, _, _, _⟩) ?_ 23 (.tmp 4) (.tmp 28) ?_ ?_ ?_ hb1 HQ.out HZ.out H3 ?_); rfl; rfl; rfl; rfl; intro w8 hb8 hg8 hz8))
      try simp only [Exit.inBlock, Exit.then]
      refine bodyPost_ret (results_digest2 rfl _ _ _ _ _ hq rfl hb8.at_) rfl ⟨by rw [HPE.out]; rfl, ?_⟩
      exact hS.bel.grown hg8 hS.bel.size (fun k e => by cases e; omega)
end Go.Proofs.Ytgfahgmjmiapiaa
