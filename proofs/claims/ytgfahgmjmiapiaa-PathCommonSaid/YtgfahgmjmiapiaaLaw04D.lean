/-
  The walk of PathCommon.
-/
import Derived.Test.YtgfahgmjmiapiaaLaw04A
namespace Go.Proofs.Ytgfahgmjmiapiaa
open Go.RowKit

set_option maxRecDepth 100000 in
set_option maxHeartbeats 1000000 in
theorem walkPathCommon (w : World) (a : List UInt8) (ha : a.length = 32) (b : List UInt8) (hb : b.length = 32) (i : Int) (_wf : (Lit.int .i64 i).wf = true) :
    Calls Try.prog 5 #[.agg (bs a).toArray, .agg (bs b).toArray, .int .i64 i] w (Yes4 w) := by
  have hP := PairAt.start w a b
  have hz : ((w.alloc (.cells (bs a).toArray 23)).alloc (.cells (bs b).toArray 23)).heap.size = w.heap.size + 1 + 1 := by simp
  have hb0 := hP.b0
  have HA := Lib.hid (show (Try.prog.info? 23).map (·.size) = some (bs a).length by rw [info_digest, bs_length, ha])
  have HB := Lib.hid (show (Try.prog.info? 23).map (·.size) = some (bs b).length by rw [info_digest, bs_length, hb])
  have H6 := Lib.hid (show (bs zero32).length = (bs a).length by rw [bs_length, bs_length, zero32_length, ha])
  have H7 := bs_one a
  have C1 := Lib.hid (fun W : World => common_any W a b ha hb)
  have D1 := Lib.hid (fun W : World => common_ref W a b ha hb)
  have L1 := Lib.hid (fun W : World => less_any W a b ha hb)
  have M1 := Lib.hid (fun W : World => less_ref W a b ha hb)
  generalize comm a b = c1 at *
  generalize lessB a b = l1 at *
  by_cases h0 : 0 ≤ i
  case' pos => by_cases h1 : i < 256
  case' pos =>
    obtain ⟨k, rfl⟩ := Int.eq_ofNat_of_zero_le h0
    have hk : k < 256 := by omega
    have FA := Lib.hid (fun W : World => at_ref W a ha k hk)
    have hu := bitAt_lt a k
    have FW := Lib.hid (fun W : World => with_ref W a ha k hk (1 - bitAt a k) (by omega))
    have hwl : (withBit a k (1 - bitAt a k)).length = 32 := by rw [withBit_length, ha]
    generalize withBit a k (1 - bitAt a k) = y at *
    obtain ⟨v, hv⟩ : ∃ v, 1 - bitAt a k = v := ⟨_, rfl⟩
    rw [hv] at FW
    generalize bitAt a k = u at *
    have hvu : (1 : Int) - (u : Int) = (v : Int) := by omega
    have hwr : IntKind.i64.wrap ((1 : Int) - (u : Int)) = (v : Int) := by rw [hvu]; exact IntWalk.i64_in _ (by omega)
    have hwr2 : IntKind.i64.wrap (v : Int) = (v : Int) := IntWalk.i64_in _ (by omega)
    clear hv hu
    have HY := Lib.hid (show (Try.prog.info? 23).map (·.size) = some (bs y).length by rw [info_digest, bs_length, hwl])
    have HY7 := bs_one y
    have HYL := Lib.hid (show ∀ z : List UInt8, z.length = 32 → (bs z).length = (bs y).length from fun z hz => by rw [bs_length, bs_length, hz, hwl])
  all_goals
    go_enter Try.func5, Try.ntmps5
    go_wp2_with (first | ((with_reducible refine wpList_loadB (o := ⟨some 10, _, _, _, _, _⟩) ?_ 23 (.tmp 3) ?_ ?_ hb0 Try.underlying23 ?_ HA.out ?_); rfl; rfl; rfl; rfl) | ((with_reducible refine wpList_allocB (o := ⟨some 7, _, _, _, _, _⟩) ?_ 23 ?_ zeroD_info ?_); rfl; rfl; intro w2 hr2 hg2 hz2) | ((with_reducible refine wpList_storeB (o := ⟨none, .store 23 (.tmp 7) (.tmp 10), _, _, _, _⟩) ?_ 23 (.tmp 7) (.tmp 10) ?_ ?_ ?_ hr2 HA.out H6.out H7 ?_); rfl; rfl; rfl; rfl; intro w3 hr3 hg3 hz3; rw [hz] at hr3 hg3))
    have hS : TriAt w w3 a b a := ⟨(hb0.grown hg2 (by simp)).grown hg3 (by simp; omega), (hP.b1.grown hg2 (by simp)).grown hg3 (by simp), hr3, below4 (hP.bel.grown hg2 hP.bel.size (fun k e => by cases e)) hg3 (by omega)⟩
    clear hP hb0 hr2 hg2 hz2 hr3 hg3 hz3
  focus
    -- REGION 3 4
    refine wp_region_held_drew (S := fun W => ∃ z : List UInt8, z.length = 32 ∧ TriAt w W a b z) (by kernel_rfl) ⟨a, ha, hS.drew⟩ (fun hHeld => ?_)
    refine wpAnyH_take (i := 0) (oi := ⟨some 18, .load 23 (.tmp 3), _, _, _, none⟩) (v := .agg (bs a).toArray) rfl (by kernel_rfl) (by kernel_rfl) (by kernel_rfl) (fun _ _ _ h => h) (yieldsIf_load_mid (by rfl) _ _ rfl w.heap.size 0 rfl (bs a) _ (fun W h => let ⟨_, _, h2⟩ := h; h2.b0.allR) Try.underlying23 rfl HA.out) hHeld ?_
    try simp only [Act.put, List.setIfInBounds_toArray, List.set_cons_zero, List.set_cons_succ]
    refine wpAnyH_take (i := 1) (oi := ⟨some 19, .move (.tmp 2), _, _, _, none⟩) (v := ?_) rfl (by kernel_rfl) (by kernel_rfl) (by kernel_rfl) (fun _ _ _ h => h) (Or.inl ⟨by rfl, ?_⟩) hHeld ?_
    rotate_left
    · intro W _; go_simp; try with_reducible rfl
    try simp only [Act.put, List.setIfInBounds_toArray, List.set_cons_zero, List.set_cons_succ]
    refine wpAnyH_take (i := 2) (oi := ⟨some 20, .load 23 (.tmp 3), _, _, _, none⟩) (v := .agg (bs a).toArray) rfl (by kernel_rfl) (by kernel_rfl) (by kernel_rfl) (fun _ _ _ h => h) (yieldsIf_load_mid (by rfl) _ _ rfl w.heap.size 0 rfl (bs a) _ (fun W h => let ⟨_, _, h2⟩ := h; h2.b0.allR) Try.underlying23 rfl HA.out) hHeld ?_
    try simp only [Act.put, List.setIfInBounds_toArray, List.set_cons_zero, List.set_cons_succ]
    refine wpAnyH_take (i := 3) (oi := ⟨some 21, .move (.tmp 2), _, _, _, none⟩) (v := ?_) rfl (by kernel_rfl) (by kernel_rfl) (by kernel_rfl) (fun _ _ _ h => h) (Or.inl ⟨by rfl, ?_⟩) hHeld ?_
    rotate_left
    · intro W _; go_simp; try with_reducible rfl
    try simp only [Act.put, List.setIfInBounds_toArray, List.set_cons_zero, List.set_cons_succ]
    refine wpAnyH_ready (rs := [4]) (by kernel_rfl) (by simp) ?_
    refine AllReadyH.cons (o := ⟨some 22, .call { callee := .value (.func 16), args := #[.tmp 20, .tmp 21], argTypes := #[23, 3] }, _, _, _, none⟩) rfl (fun K hK => ?_) AllReadyH.nil
    refine step_ofR (by rfl) ?_
    go_simp
    refine (FA.out _).mono ?_
    rintro x W1 ⟨rfl, hb1⟩
    refine hK.out _ _ ((let ⟨z, hz, h2⟩ := hHeld; ⟨z, hz, h2.below hb1⟩)) (fun hHeld => ?_)
    clear hK K
    try simp only [Act.put, List.setIfInBounds_toArray, List.set_cons_zero, List.set_cons_succ]
    refine wpAnyH_take (i := 5) (oi := ⟨some 23, .binOp .sub 3 (.const (.int .i64 1)) (.tmp 22) 3, _, _, _, none⟩) (v := ?_) rfl (by kernel_rfl) (by kernel_rfl) (by kernel_rfl) (fun _ _ _ h => h) (Or.inl ⟨by rfl, ?_⟩) hHeld ?_
    rotate_left
    · intro W _; go_simp; try with_reducible rfl
    try simp only [Act.put, List.setIfInBounds_toArray, List.set_cons_zero, List.set_cons_succ]
    refine wpAnyH_ready (rs := [6]) (by kernel_rfl) (by simp) ?_
    refine AllReadyH.cons (o := ⟨some 24, .call { callee := .value (.func 15), args := #[.tmp 18, .tmp 19, .tmp 23], argTypes := #[23, 3, 3] }, _, _, _, none⟩) rfl (fun K hK => ?_) AllReadyH.nil
    refine step_ofR (by rfl) ?_
    go_simp
    refine (FW.out _).mono ?_
    rintro x W1 ⟨rfl, hb1⟩
    refine hK.out _ _ ((let ⟨z, hz, h2⟩ := hHeld; ⟨z, hz, h2.below hb1⟩)) (fun hHeld => ?_)
    clear hK K
    try simp only [Act.put, List.setIfInBounds_toArray, List.set_cons_zero, List.set_cons_succ]
    refine wpAnyH_take (i := 7) (oi := ⟨some 17, .move (.tmp 24), _, _, _, none⟩) (v := ?_) rfl (by kernel_rfl) (by kernel_rfl) (by kernel_rfl) (fun _ _ _ h => h) (Or.inl ⟨by rfl, ?_⟩) hHeld ?_
    rotate_left
    · intro W _; go_simp; try with_reducible rfl
    try simp only [Act.put, List.setIfInBounds_toArray, List.set_cons_zero, List.set_cons_succ]
    refine wpAnyH_take (i := 8) (oi := ⟨some 25, .extract (.tmp 17) 0, _, _, _, none⟩) (v := ?_) rfl (by kernel_rfl) (by kernel_rfl) (by kernel_rfl) (fun _ _ _ h => h) (Or.inl ⟨by rfl, ?_⟩) hHeld ?_
    rotate_left
    · intro W _; go_simp; try with_reducible rfl
    try simp only [Act.put, List.setIfInBounds_toArray, List.set_cons_zero, List.set_cons_succ]
    refine wpAnyH_take (i := 9) (oi := ⟨some 26, .extract (.tmp 17) 1, _, _, _, none⟩) (v := ?_) rfl (by kernel_rfl) (by kernel_rfl) (by kernel_rfl) (fun _ _ _ h => h) (Or.inl ⟨by rfl, ?_⟩) hHeld ?_
    rotate_left
    · intro W _; go_simp; try with_reducible rfl
    try simp only [Act.put, List.setIfInBounds_toArray, List.set_cons_zero, List.set_cons_succ]
    refine wpAnyH_ready (rs := [10]) (by kernel_rfl) (by simp) ?_
    refine AllReadyH.cons (o := ⟨none, .store 23 (.tmp 7) (.tmp 25), _, _, _, none⟩) rfl (fun K hK => ?_) AllReadyH.nil
    obtain ⟨z, hzl, hT⟩ := hHeld
    refine step_storeW (w.heap.size + 1 + 1) 23 (.tmp 7) (.tmp 25) (bs y) (bs z) _ hT.b2 HY.out (HYL.out z hzl) HY7 rfl rfl rfl rfl ?_
    intro w5 hr5 hg5 hz5
    refine hK.out _ _ (⟨y, hwl, hT.b0.grown hg5 (by simp; omega), hT.b1.grown hg5 (by simp), hr5, below4 hT.bel hg5 (by omega)⟩) (fun hHeld => ?_)
    clear hK K
    try simp only [Act.put]
    refine wpAnyH_done (by kernel_rfl) ?_ _
    -- END 3 4
    obtain ⟨z, hzl, hS4⟩ := hHeld
    clear HYL HY HY7 FW FA hwr hwr2
    go_wp2_with fail
  all_goals first | (have _h := hS4) | (obtain ⟨z, hzl, hS4⟩ : ∃ z : List UInt8, z.length = 32 ∧ TriAt w w3 a b z := ⟨a, ha, hS⟩)
  all_goals
    have HZ := Lib.hid (show (Try.prog.info? 23).map (·.size) = some (bs z).length by rw [info_digest, bs_length, hzl])
    have C2 := Lib.hid (fun W : World => common_any W a z ha hzl)
    have D2 := Lib.hid (fun W : World => common_ref W a z ha hzl)
    have L2 := Lib.hid (fun W : World => less_any W a z ha hzl)
    have M2 := Lib.hid (fun W : World => less_ref W a z ha hzl)
    generalize comm a z = c2 at *
    generalize lessB a z = l2 at *
    -- REGION 4 4
    refine wp_region_held_drew (S := fun W => TriAt w W a b z) (by kernel_rfl) hS4.drew (fun hHeld => ?_)
    refine wpAnyH_take (i := 0) (oi := ⟨some 27, .load 23 (.tmp 3), _, _, _, none⟩) (v := .agg (bs a).toArray) rfl (by kernel_rfl) (by kernel_rfl) (by kernel_rfl) (fun _ _ _ h => h) (yieldsIf_load_mid (by rfl) _ _ rfl w.heap.size 0 rfl (bs a) _ (fun W h => h.b0.allR) Try.underlying23 rfl HA.out) hHeld ?_
    try simp only [Act.put, List.setIfInBounds_toArray, List.set_cons_zero, List.set_cons_succ]
    refine wpAnyH_take (i := 1) (oi := ⟨some 28, .load 23 (.tmp 4), _, _, _, none⟩) (v := .agg (bs b).toArray) rfl (by kernel_rfl) (by kernel_rfl) (by kernel_rfl) (fun _ _ _ h => h) (yieldsIf_load_mid (by rfl) _ _ rfl (w.heap.size + 1) 0 rfl (bs b) _ (fun W h => h.b1.allR) Try.underlying23 rfl HB.out) hHeld ?_
    try simp only [Act.put, List.setIfInBounds_toArray, List.set_cons_zero, List.set_cons_succ]
    refine wpAnyH_take (i := 3) (oi := ⟨some 30, .load 23 (.tmp 3), _, _, _, none⟩) (v := .agg (bs a).toArray) rfl (by kernel_rfl) (by kernel_rfl) (by kernel_rfl) (fun _ _ _ h => h) (yieldsIf_load_mid (by rfl) _ _ rfl w.heap.size 0 rfl (bs a) _ (fun W h => h.b0.allR) Try.underlying23 rfl HA.out) hHeld ?_
    try simp only [Act.put, List.setIfInBounds_toArray, List.set_cons_zero, List.set_cons_succ]
    refine wpAnyH_take (i := 4) (oi := ⟨some 31, .load 23 (.tmp 4), _, _, _, none⟩) (v := .agg (bs b).toArray) rfl (by kernel_rfl) (by kernel_rfl) (by kernel_rfl) (fun _ _ _ h => h) (yieldsIf_load_mid (by rfl) _ _ rfl (w.heap.size + 1) 0 rfl (bs b) _ (fun W h => h.b1.allR) Try.underlying23 rfl HB.out) hHeld ?_
    try simp only [Act.put, List.setIfInBounds_toArray, List.set_cons_zero, List.set_cons_succ]
    refine wpAnyH_ready (rs := [2]) (by kernel_rfl) (by simp) ?_
    refine AllReadyH.cons (o := ⟨some 29, .call { callee := .value (.func 17), args := #[.tmp 27, .tmp 28], argTypes := #[23, 23] }, _, _, _, none⟩) rfl (fun K hK => ?_) AllReadyH.nil
    refine step_ofR (by rfl) ?_
    go_simp
    refine (C1.out _).mono ?_
    rintro x W1 ⟨rfl, hb1⟩
    refine hK.out _ _ (hHeld.below hb1) (fun hHeld => ?_)
    clear hK K
    try simp only [Act.put, List.setIfInBounds_toArray, List.set_cons_zero, List.set_cons_succ]
    refine wpAnyH_ready (rs := [5]) (by kernel_rfl) (by simp) ?_
    refine AllReadyH.cons (o := ⟨some 32, .call { callee := .value (.func 18), args := #[.tmp 30, .tmp 31], argTypes := #[23, 23] }, _, _, _, none⟩) rfl (fun K hK => ?_) AllReadyH.nil
    refine step_ofR (by rfl) ?_
    go_simp
    refine (D1.out _).mono ?_
    rintro x W1 ⟨rfl, hb1⟩
    refine hK.out _ _ (hHeld.below hb1) (fun hHeld => ?_)
    clear hK K
    try simp only [Act.put, List.setIfInBounds_toArray, List.set_cons_zero, List.set_cons_succ]
    refine wpAnyH_take (i := 6) (oi := ⟨some 33, .binOp .eql 3 (.tmp 29) (.tmp 32) 3, _, _, _, none⟩) (v := ?_) rfl (by kernel_rfl) (by kernel_rfl) (by kernel_rfl) (fun _ _ _ h => h) (Or.inl ⟨by rfl, ?_⟩) hHeld ?_
    rotate_left
    · intro W _; go_simp; try with_reducible rfl
    try simp only [Act.put, List.setIfInBounds_toArray, List.set_cons_zero, List.set_cons_succ]
    refine wpAnyH_take (i := 7) (oi := ⟨some 34, .move (.tmp 33), _, _, _, none⟩) (v := ?_) rfl (by kernel_rfl) (by kernel_rfl) (by kernel_rfl) (fun _ _ _ h => h) (Or.inl ⟨by rfl, ?_⟩) hHeld ?_
    rotate_left
    · intro W _; go_simp; try with_reducible rfl
    try simp only [Act.put, List.setIfInBounds_toArray, List.set_cons_zero, List.set_cons_succ]
    refine wpAnyH_take (i := 8) (oi := ⟨some 35, .load 23 (.tmp 3), _, _, _, some (7, true)⟩) (v := .agg (bs a).toArray) rfl (by kernel_rfl) (by kernel_rfl) (by kernel_rfl) (fun _ _ _ h => h) (yieldsIf_load_mid (by rfl) _ _ rfl w.heap.size 0 rfl (bs a) _ (fun W h => h.b0.allR) Try.underlying23 rfl HA.out) hHeld ?_
    try simp only [Act.put, List.setIfInBounds_toArray, List.set_cons_zero, List.set_cons_succ]
    refine wpAnyH_take (i := 9) (oi := ⟨some 36, .load 23 (.tmp 4), _, _, _, some (7, true)⟩) (v := .agg (bs b).toArray) rfl (by kernel_rfl) (by kernel_rfl) (by kernel_rfl) (fun _ _ _ h => h) (yieldsIf_load_mid (by rfl) _ _ rfl (w.heap.size + 1) 0 rfl (bs b) _ (fun W h => h.b1.allR) Try.underlying23 rfl HB.out) hHeld ?_
    try simp only [Act.put, List.setIfInBounds_toArray, List.set_cons_zero, List.set_cons_succ]
    refine wpAnyH_take (i := 11) (oi := ⟨some 38, .load 23 (.tmp 3), _, _, _, some (7, true)⟩) (v := .agg (bs a).toArray) rfl (by kernel_rfl) (by kernel_rfl) (by kernel_rfl) (fun _ _ _ h => h) (yieldsIf_load_mid (by rfl) _ _ rfl w.heap.size 0 rfl (bs a) _ (fun W h => h.b0.allR) Try.underlying23 rfl HA.out) hHeld ?_
    try simp only [Act.put, List.setIfInBounds_toArray, List.set_cons_zero, List.set_cons_succ]
    refine wpAnyH_take (i := 12) (oi := ⟨some 39, .load 23 (.tmp 4), _, _, _, some (7, true)⟩) (v := .agg (bs b).toArray) rfl (by kernel_rfl) (by kernel_rfl) (by kernel_rfl) (fun _ _ _ h => h) (yieldsIf_load_mid (by rfl) _ _ rfl (w.heap.size + 1) 0 rfl (bs b) _ (fun W h => h.b1.allR) Try.underlying23 rfl HB.out) hHeld ?_
    try simp only [Act.put, List.setIfInBounds_toArray, List.set_cons_zero, List.set_cons_succ]
    refine wpAnyH_ready (rs := [10]) (by kernel_rfl) (by simp) ?_
    refine AllReadyH.cons (o := ⟨some 37, .call { callee := .value (.func 19), args := #[.tmp 35, .tmp 36], argTypes := #[23, 23] }, _, _, _, some (7, true)⟩) rfl (fun K hK => ?_) AllReadyH.nil
    refine step_ofR (by rfl) ?_
    go_simp
    refine (L1.out _).mono ?_
    rintro x W1 ⟨rfl, hb1⟩
    refine hK.out _ _ (hHeld.below hb1) (fun hHeld => ?_)
    clear hK K
    try simp only [Act.put, List.setIfInBounds_toArray, List.set_cons_zero, List.set_cons_succ]
    refine wpAnyH_ready (rs := [13]) (by kernel_rfl) (by simp) ?_
    refine AllReadyH.cons (o := ⟨some 40, .call { callee := .value (.func 20), args := #[.tmp 38, .tmp 39], argTypes := #[23, 23] }, _, _, _, some (7, true)⟩) rfl (fun K hK => ?_) AllReadyH.nil
    refine step_ofR (by rfl) ?_
    go_simp
    refine (M1.out _).mono ?_
    rintro x W1 ⟨rfl, hb1⟩
    refine hK.out _ _ (hHeld.below hb1) (fun hHeld => ?_)
    clear hK K
    try simp only [Act.put, List.setIfInBounds_toArray, List.set_cons_zero, List.set_cons_succ]
    refine wpAnyH_take (i := 14) (oi := ⟨some 41, .binOp .eql 4 (.tmp 37) (.tmp 40) 4, _, _, _, some (7, true)⟩) (v := ?_) rfl (by kernel_rfl) (by kernel_rfl) (by kernel_rfl) (fun _ _ _ h => h) (Or.inl ⟨by rfl, ?_⟩) hHeld ?_
    rotate_left
    · intro W _; go_simp; try with_reducible rfl
    try simp only [Act.put, List.setIfInBounds_toArray, List.set_cons_zero, List.set_cons_succ]
    refine wpAnyH_take (i := 15) (oi := ⟨some 42, .pick (.tmp 34) (.tmp 41) (.const (.bool false)), _, _, _, none⟩) (v := ?_) rfl (by kernel_rfl) (by kernel_rfl) (by kernel_rfl) (fun _ _ _ h => h) (Or.inl ⟨by rfl, ?_⟩) hHeld ?_
    rotate_left
    · intro W _; go_simp; try with_reducible rfl
    try simp only [Act.put, List.setIfInBounds_toArray, List.set_cons_zero, List.set_cons_succ]
    refine wpAnyH_ready (rs := [16]) (by kernel_rfl) (by simp) ?_
    refine AllReadyH.cons (o := ⟨some 8, .assign (.tmp 42), _, _, _, none⟩) rfl (fun K hK => ?_) AllReadyH.nil
    refine step_ofR (by rfl) ?_
    go_simp
    refine hK.out _ _ (hHeld) (fun hHeld => ?_)
    clear hK K
    try simp only [Act.put, List.setIfInBounds_toArray, List.set_cons_zero, List.set_cons_succ]
    refine wpAnyH_done (by kernel_rfl) ?_ _
    -- END 4 4
    go_wp2_with fail
    have hS5 := hHeld
    -- REGION 5 4
    refine wp_region_held_drew (S := fun W => TriAt w W a b z) (by kernel_rfl) hS5.drew (fun hHeld => ?_)
    refine wpAnyH_take (i := 0) (oi := ⟨some 43, .load 23 (.tmp 3), _, _, _, none⟩) (v := .agg (bs a).toArray) rfl (by kernel_rfl) (by kernel_rfl) (by kernel_rfl) (fun _ _ _ h => h) (yieldsIf_load_mid (by rfl) _ _ rfl w.heap.size 0 rfl (bs a) _ (fun W h => h.b0.allR) Try.underlying23 rfl HA.out) hHeld ?_
    try simp only [Act.put, List.setIfInBounds_toArray, List.set_cons_zero, List.set_cons_succ]
    refine wpAnyH_take (i := 1) (oi := ⟨some 44, .load 23 (.tmp 7), _, _, _, none⟩) (v := .agg (bs z).toArray) rfl (by kernel_rfl) (by kernel_rfl) (by kernel_rfl) (fun _ _ _ h => h) (yieldsIf_load_mid (by rfl) _ _ rfl (w.heap.size + 1 + 1) 0 rfl (bs z) _ (fun W h => h.b2.allR) Try.underlying23 rfl HZ.out) hHeld ?_
    try simp only [Act.put, List.setIfInBounds_toArray, List.set_cons_zero, List.set_cons_succ]
    refine wpAnyH_take (i := 3) (oi := ⟨some 46, .load 23 (.tmp 3), _, _, _, none⟩) (v := .agg (bs a).toArray) rfl (by kernel_rfl) (by kernel_rfl) (by kernel_rfl) (fun _ _ _ h => h) (yieldsIf_load_mid (by rfl) _ _ rfl w.heap.size 0 rfl (bs a) _ (fun W h => h.b0.allR) Try.underlying23 rfl HA.out) hHeld ?_
    try simp only [Act.put, List.setIfInBounds_toArray, List.set_cons_zero, List.set_cons_succ]
    refine wpAnyH_take (i := 4) (oi := ⟨some 47, .load 23 (.tmp 7), _, _, _, none⟩) (v := .agg (bs z).toArray) rfl (by kernel_rfl) (by kernel_rfl) (by kernel_rfl) (fun _ _ _ h => h) (yieldsIf_load_mid (by rfl) _ _ rfl (w.heap.size + 1 + 1) 0 rfl (bs z) _ (fun W h => h.b2.allR) Try.underlying23 rfl HZ.out) hHeld ?_
    try simp only [Act.put, List.setIfInBounds_toArray, List.set_cons_zero, List.set_cons_succ]
    refine wpAnyH_ready (rs := [2]) (by kernel_rfl) (by simp) ?_
    refine AllReadyH.cons (o := ⟨some 45, .call { callee := .value (.func 17), args := #[.tmp 43, .tmp 44], argTypes := #[23, 23] }, _, _, _, none⟩) rfl (fun K hK => ?_) AllReadyH.nil
    refine step_ofR (by rfl) ?_
    go_simp
    refine (C2.out _).mono ?_
    rintro x W1 ⟨rfl, hb1⟩
    refine hK.out _ _ (hHeld.below hb1) (fun hHeld => ?_)
    clear hK K
    try simp only [Act.put, List.setIfInBounds_toArray, List.set_cons_zero, List.set_cons_succ]
    refine wpAnyH_ready (rs := [5]) (by kernel_rfl) (by simp) ?_
    refine AllReadyH.cons (o := ⟨some 48, .call { callee := .value (.func 18), args := #[.tmp 46, .tmp 47], argTypes := #[23, 23] }, _, _, _, none⟩) rfl (fun K hK => ?_) AllReadyH.nil
    refine step_ofR (by rfl) ?_
    go_simp
    refine (D2.out _).mono ?_
    rintro x W1 ⟨rfl, hb1⟩
    refine hK.out _ _ (hHeld.below hb1) (fun hHeld => ?_)
    clear hK K
    try simp only [Act.put, List.setIfInBounds_toArray, List.set_cons_zero, List.set_cons_succ]
    refine wpAnyH_take (i := 6) (oi := ⟨some 49, .binOp .eql 3 (.tmp 45) (.tmp 48) 3, _, _, _, none⟩) (v := ?_) rfl (by kernel_rfl) (by kernel_rfl) (by kernel_rfl) (fun _ _ _ h => h) (Or.inl ⟨by rfl, ?_⟩) hHeld ?_
    rotate_left
    · intro W _; go_simp; try with_reducible rfl
    try simp only [Act.put, List.setIfInBounds_toArray, List.set_cons_zero, List.set_cons_succ]
    refine wpAnyH_take (i := 7) (oi := ⟨some 50, .move (.tmp 49), _, _, _, none⟩) (v := ?_) rfl (by kernel_rfl) (by kernel_rfl) (by kernel_rfl) (fun _ _ _ h => h) (Or.inl ⟨by rfl, ?_⟩) hHeld ?_
    rotate_left
    · intro W _; go_simp; try with_reducible rfl
    try simp only [Act.put, List.setIfInBounds_toArray, List.set_cons_zero, List.set_cons_succ]
    refine wpAnyH_take (i := 8) (oi := ⟨some 51, .load 23 (.tmp 3), _, _, _, some (7, true)⟩) (v := .agg (bs a).toArray) rfl (by kernel_rfl) (by kernel_rfl) (by kernel_rfl) (fun _ _ _ h => h) (yieldsIf_load_mid (by rfl) _ _ rfl w.heap.size 0 rfl (bs a) _ (fun W h => h.b0.allR) Try.underlying23 rfl HA.out) hHeld ?_
    try simp only [Act.put, List.setIfInBounds_toArray, List.set_cons_zero, List.set_cons_succ]
    refine wpAnyH_take (i := 9) (oi := ⟨some 52, .load 23 (.tmp 7), _, _, _, some (7, true)⟩) (v := .agg (bs z).toArray) rfl (by kernel_rfl) (by kernel_rfl) (by kernel_rfl) (fun _ _ _ h => h) (yieldsIf_load_mid (by rfl) _ _ rfl (w.heap.size + 1 + 1) 0 rfl (bs z) _ (fun W h => h.b2.allR) Try.underlying23 rfl HZ.out) hHeld ?_
    try simp only [Act.put, List.setIfInBounds_toArray, List.set_cons_zero, List.set_cons_succ]
    refine wpAnyH_take (i := 11) (oi := ⟨some 54, .load 23 (.tmp 3), _, _, _, some (7, true)⟩) (v := .agg (bs a).toArray) rfl (by kernel_rfl) (by kernel_rfl) (by kernel_rfl) (fun _ _ _ h => h) (yieldsIf_load_mid (by rfl) _ _ rfl w.heap.size 0 rfl (bs a) _ (fun W h => h.b0.allR) Try.underlying23 rfl HA.out) hHeld ?_
    try simp only [Act.put, List.setIfInBounds_toArray, List.set_cons_zero, List.set_cons_succ]
    refine wpAnyH_take (i := 12) (oi := ⟨some 55, .load 23 (.tmp 7), _, _, _, some (7, true)⟩) (v := .agg (bs z).toArray) rfl (by kernel_rfl) (by kernel_rfl) (by kernel_rfl) (fun _ _ _ h => h) (yieldsIf_load_mid (by rfl) _ _ rfl (w.heap.size + 1 + 1) 0 rfl (bs z) _ (fun W h => h.b2.allR) Try.underlying23 rfl HZ.out) hHeld ?_
    try simp only [Act.put, List.setIfInBounds_toArray, List.set_cons_zero, List.set_cons_succ]
    refine wpAnyH_ready (rs := [10]) (by kernel_rfl) (by simp) ?_
    refine AllReadyH.cons (o := ⟨some 53, .call { callee := .value (.func 19), args := #[.tmp 51, .tmp 52], argTypes := #[23, 23] }, _, _, _, some (7, true)⟩) rfl (fun K hK => ?_) AllReadyH.nil
    refine step_ofR (by rfl) ?_
    go_simp
    refine (L2.out _).mono ?_
    rintro x W1 ⟨rfl, hb1⟩
    refine hK.out _ _ (hHeld.below hb1) (fun hHeld => ?_)
    clear hK K
    try simp only [Act.put, List.setIfInBounds_toArray, List.set_cons_zero, List.set_cons_succ]
    refine wpAnyH_ready (rs := [13]) (by kernel_rfl) (by simp) ?_
    refine AllReadyH.cons (o := ⟨some 56, .call { callee := .value (.func 20), args := #[.tmp 54, .tmp 55], argTypes := #[23, 23] }, _, _, _, some (7, true)⟩) rfl (fun K hK => ?_) AllReadyH.nil
    refine step_ofR (by rfl) ?_
    go_simp
    refine (M2.out _).mono ?_
    rintro x W1 ⟨rfl, hb1⟩
    refine hK.out _ _ (hHeld.below hb1) (fun hHeld => ?_)
    clear hK K
    try simp only [Act.put, List.setIfInBounds_toArray, List.set_cons_zero, List.set_cons_succ]
    refine wpAnyH_take (i := 14) (oi := ⟨some 57, .binOp .eql 4 (.tmp 53) (.tmp 56) 4, _, _, _, some (7, true)⟩) (v := ?_) rfl (by kernel_rfl) (by kernel_rfl) (by kernel_rfl) (fun _ _ _ h => h) (Or.inl ⟨by rfl, ?_⟩) hHeld ?_
    rotate_left
    · intro W _; go_simp; try with_reducible rfl
    try simp only [Act.put, List.setIfInBounds_toArray, List.set_cons_zero, List.set_cons_succ]
    refine wpAnyH_take (i := 15) (oi := ⟨some 58, .pick (.tmp 50) (.tmp 57) (.const (.bool false)), _, _, _, none⟩) (v := ?_) rfl (by kernel_rfl) (by kernel_rfl) (by kernel_rfl) (fun _ _ _ h => h) (Or.inl ⟨by rfl, ?_⟩) hHeld ?_
    rotate_left
    · intro W _; go_simp; try with_reducible rfl
    try simp only [Act.put, List.setIfInBounds_toArray, List.set_cons_zero, List.set_cons_succ]
    refine wpAnyH_ready (rs := [16]) (by kernel_rfl) (by simp) ?_
    refine AllReadyH.cons (o := ⟨some 9, .assign (.tmp 58), _, _, _, none⟩) rfl (fun K hK => ?_) AllReadyH.nil
    refine step_ofR (by rfl) ?_
    go_simp
    refine hK.out _ _ (hHeld) (fun hHeld => ?_)
    clear hK K
    try simp only [Act.put, List.setIfInBounds_toArray, List.set_cons_zero, List.set_cons_succ]
    refine wpAnyH_done (by kernel_rfl) ?_ _
    -- END 5 4
    go_wp2_with fail
    refine (commons_any _).mono ?_
    rintro e w9 ⟨rfl, hB9⟩
    have hB := Bt hHeld.bel hB9
    go_wp2_with fail
    go_ret
    exact Yes4.mk hB
end Go.Proofs.Ytgfahgmjmiapiaa
