/-
  The walks of path's With.
-/
import Derived.Test.YtgfahgmjmiapiaaCon04A
namespace Go.Proofs.Ytgfahgmjmiapiaa
open Go.RowKit

set_option maxRecDepth 100000 in
set_option maxHeartbeats 1000000 in
theorem with_any_no (w : World) (p : List UInt8) (_hp : p.length = 32) (i b : Int) (hi : i < 0 ∨ 255 < i) :
    Calls Try.prog 21 #[.agg (bs p).toArray, .int .i64 i, .int .i64 b] w fun e w' => e = .returned (.tuple #[.agg (bs zero32).toArray, .int .i64 20]) ∧ Below w.heap.size w w' := by
  have H5 := Lib.hid (show (Try.prog.info? 23).map (·.size) = some (bs zero32).length by rw [info_digest, bs_length, zero32_length])
  have H7 := bs_one zero32
  have HBT := Lib.hid built0
  by_cases h0 : i < 0
  case' pos =>
    go_enter Try.func21, Try.ntmps21
  case' neg =>
    have h1 : 256 ≤ i := by omega
    go_enter Try.func21, Try.ntmps21
  all_goals
    go_wp2_with (first | ((with_reducible refine wpList_allocB (o := ⟨some 6, _, _, _, _, _⟩) ?_ 23 ?_ zeroD_info ?_); rfl; rfl; intro w0 hr0 hg0 hz0; have hS := OneAt.start w p hr0 hg0; have hr := hS.b1) | ((with_reducible refine wpList_buildI (dst := some 14) HBT.out ?_ ?_); rfl) | ((with_reducible refine wpList_storeB (o := ⟨none, .store 23 (.tmp 6) (.tmp 14), _, _, _, _⟩) ?_ 23 (.tmp 6) (.tmp 14) ?_ ?_ ?_ hr H5.out rfl H7 ?_); rfl; rfl; rfl; rfl; intro w8 hb8 hg8 hz8))
    try simp only [Exit.inBlock, Exit.then]
    refine bodyPost_ret (results_digest2 rfl _ _ _ _ _ zero32_length rfl hb8.at_) rfl ⟨rfl, ?_⟩
    exact hS.bel.grown hg8 (by have := hS.bel.size; omega) (fun k e => by cases e; omega)

set_option maxRecDepth 100000 in
set_option maxHeartbeats 1000000 in
theorem with_any_arg (w : World) (p : List UInt8) (_hp : p.length = 32) (i b : Int) (hi : 0 ≤ i ∧ i ≤ 255) (hb : b ≠ 0 ∧ b ≠ 1) :
    Calls Try.prog 21 #[.agg (bs p).toArray, .int .i64 i, .int .i64 b] w fun e w' => e = .returned (.tuple #[.agg (bs zero32).toArray, .int .i64 1]) ∧ Below w.heap.size w w' := by
  have H5 := Lib.hid (show (Try.prog.info? 23).map (·.size) = some (bs zero32).length by rw [info_digest, bs_length, zero32_length])
  have H7 := bs_one zero32
  have HBT := Lib.hid built0
  have h0 : ¬ i < 0 := by omega
  have h1 : ¬ 256 ≤ i := by omega
  have hb0 : ¬ b = 0 := hb.1
  have hb1 : ¬ b = 1 := hb.2
  clear hi hb
  go_enter Try.func21, Try.ntmps21
  go_wp2_with (first | ((with_reducible refine wpList_allocB (o := ⟨some 6, _, _, _, _, _⟩) ?_ 23 ?_ zeroD_info ?_); rfl; rfl; intro w0 hr0 hg0 hz0; have hS := OneAt.start w p hr0 hg0; have hr := hS.b1) | ((with_reducible refine wpList_buildI (dst := some 16) HBT.out ?_ ?_); rfl) | ((with_reducible refine wpList_storeB (o := ⟨none, .store 23 (.tmp 6) (.tmp 16), _, _, _, _⟩) ?_ 23 (.tmp 6) (.tmp 16) ?_ ?_ ?_ hr H5.out rfl H7 ?_); rfl; rfl; rfl; rfl; intro w8 hb8 hg8 hz8))
  try simp only [Exit.inBlock, Exit.then]
  refine bodyPost_ret (results_digest2 rfl _ _ _ _ _ zero32_length rfl hb8.at_) rfl ⟨rfl, ?_⟩
  exact hS.bel.grown hg8 (by have := hS.bel.size; omega) (fun k e => by cases e; omega)

theorem not_bit (p : List UInt8) (i : Nat) : bits .andNot .u8 ((p.getD (i / 8) 0).toNat : Int) (wt i : Int) = (((p.getD (i / 8) 0).toNat + 0 * wt i - bitAt p i * wt i : Nat) : Int) := by
  have hw := wt_le i
  rw [u8_andNot_nat _ _ (UInt8.toNat_lt _) (by omega)]
  have h := byte_not ⟨(p.getD (i / 8) 0).toNat, UInt8.toNat_lt _⟩ ⟨i % 8, Nat.mod_lt _ (by decide)⟩
  simp only at h
  unfold bitAt wt
  rw [h]
theorem or_bit (p : List UInt8) (i : Nat) : bits .or .u8 ((p.getD (i / 8) 0).toNat : Int) (wt i : Int) = (((p.getD (i / 8) 0).toNat + 1 * wt i - bitAt p i * wt i : Nat) : Int) := by
  have hw := wt_le i
  rw [u8_or_nat _ _ (UInt8.toNat_lt _) (by omega)]
  have h := byte_or ⟨(p.getD (i / 8) 0).toNat, UInt8.toNat_lt _⟩ ⟨i % 8, Nat.mod_lt _ (by decide)⟩
  simp only at h
  unfold bitAt wt
  rw [h]

set_option maxRecDepth 100000 in
set_option maxHeartbeats 2000000 in
theorem with_any (w : World) (p : List UInt8) (hp : p.length = 32) (i : Nat) (hi : i < 256) (b : Nat) (hb : b < 2) :
    Calls Try.prog 21 #[.agg (bs p).toArray, .int .i64 (i : Int), .int .i64 (b : Int)] w fun e w' => e = .returned (.tuple #[.agg (bs (withBit p i b)).toArray, .int .i64 0]) ∧ Below w.heap.size w w' := by
  have h0 : ¬ (i : Int) < 0 := by omega
  have h1 : ¬ (256 : Int) ≤ i := by omega
  have hW := Lib.hid (show withBit p i b = p.set (i / 8) (UInt8.ofNat ((p.getD (i / 8) 0).toNat + b * wt i - bitAt p i * wt i)) from rfl)
  obtain ⟨_, f2⟩ := with_fits p i b hb
  have HG := Lib.hid (fun W : World => (mask_any W i hi).mono fun _ _ h => (⟨h.1, h.2.symm⟩ : _ ∧ _))
  have H5 := Lib.hid (show (Try.prog.info? 23).map (·.size) = some (bs p).length by rw [info_digest, bs_length, hp])
  have HC := Lib.hid (bs_at p (i / 8) (by omega))
  have hN := not_bit p i
  have hO := or_bit p i
  obtain ⟨d, hd⟩ : ∃ d, i / 8 = d := ⟨_, rfl⟩
  have hd32 : (d : Int) < 32 := by omega
  have t1 : (i : Int).tdiv 8 = (d : Int) := by rw [← hd, Int.tdiv_eq_ediv_of_nonneg (by omega)]; rfl
  have t2 : (i : Int) / 8 = (d : Int) := by rw [← hd]; rfl
  rw [hd] at hW f2 HC hN hO
  clear hd
  have hwl2 := withBit_length p i b
  generalize hwb : withBit p i b = q at *
  have HWB := Lib.hid hwb
  clear hwb
  generalize bitAt p i = x at *
  generalize wt i = v at *
  generalize (p.getD d 0).toNat = X at *
  have hql : q.length = 32 := by rw [hwl2, hp]
  have w6 : IntKind.i64.wrap (d : Int) = (d : Int) := IntWalk.i64_in _ (by omega)
  have w7 : (0 : Int) ≤ (d : Int) := by omega
  have hSET := Lib.hid (fun (W : World) (h : OneAt w W p zero32) => h.set d _ f2)
  rw [← hW.out] at hSET
  have H6 := Lib.hid (show (Try.prog.info? 23).map (·.size) = some (bs q).length by rw [info_digest, bs_length, hql])
  have H8 := Lib.hid (show (bs zero32).length = (bs q).length by rw [bs_length, bs_length, zero32_length, hql])
  have H9 := bs_one q
  rcases (by omega : b = 0 ∨ b = 1) with rfl | rfl
  case' inl =>
    rw [show ((0 : Nat) : Int) = 0 from rfl]
    clear hO
    generalize X + 0 * v - x * v = r at *
  case' inr =>
    rw [show ((1 : Nat) : Int) = 1 from rfl]
    clear hN
    generalize X + 1 * v - x * v = r at *
  all_goals
    clear hb hwl2 hW f2
    go_enter Try.func21, Try.ntmps21
    go_wp2_with ((with_reducible refine wpList_allocB (o := ⟨some 6, _, _, _, _, _⟩) ?_ 23 ?_ zeroD_info ?_); rfl; rfl; intro w0 hr0 hg0 hz0; have hS := OneAt.start w p hr0 hg0; have hr := hS.b1)
    clear hr0 hg0 hz0 hr
    have c0 := hS.b0.cell HC.out
    have HS := Lib.hid hS
    clear hS
    refine wp_region_still_tail 8 (by kernel_rfl) (by kernel_rfl) ?_
    simp only [List.take_succ_cons, List.take_zero, List.drop_succ_cons, List.drop_zero]
    repeat still_step
    still_call (HG.out _)
    repeat still_step
    refine wpStill_nil ?_
    change wpList _ _ _ _ _ w0.drew
    have c1 := HS.out.drew.b0.cell HC.out
    have f1 := HS.out.drew.b0.free d
    have HS1 := Lib.hid HS.out.drew
    clear HS
    generalize w0.drew = wd at *
    have hQ := hSET.out _ HS1.out
    have hb0 := hQ.b0
    have hb1 := hQ.b1
    go_wp2_with (first | ((with_reducible refine wpList_loadB (o := ⟨some 37, _, _, _, _, _⟩) ?_ 23 (.tmp 3) ?_ ?_ hb0 Try.underlying23 ?_ H6.out ?_); rfl; rfl; rfl; rfl) | ((with_reducible refine wpList_storeB (o := ⟨none, .store 23 (.tmp 6) (.tmp 37), _, _, _, _⟩) ?_ 23 (.tmp 6) (.tmp 37) ?_ ?_ ?_ hb1 H6.out H8.out H9 ?_); rfl; rfl; rfl; rfl; intro w8 hb8 hg8 hz8))
    try simp only [Exit.inBlock, Exit.then]
    refine bodyPost_ret (results_digest2 rfl _ _ _ _ _ hql rfl hb8.at_) rfl ⟨rfl, ?_⟩
    exact hQ.bel.grown hg8 (by have := hQ.bel.size; omega) (fun k e => by cases e; omega)
end Go.Proofs.Ytgfahgmjmiapiaa
