/-
  The walk of PathPrefixes.
-/
import Derived.Test.YtgfahgmjmiapiaaLaw04A
namespace Go.Proofs.Ytgfahgmjmiapiaa
open Go.RowKit

/-- what the last region of PathPrefixes knows of a world: two paths, their prefixes -/
structure FourAt (w W : World) (a b p q : List UInt8) (gp gq : Nat) : Prop where
  b0 : Blk W w.heap.size 23 (bs a)
  b1 : Blk W (w.heap.size + 1) 23 (bs b)
  b2 : Blk W gp 23 (bs p)
  b3 : Blk W gq 23 (bs q)
  bel : Below w.heap.size w W
theorem FourAt.below {w W W' : World} {a b p q : List UInt8} {gp gq : Nat} (h : FourAt w W a b p q gp gq) (hb : Below W.heap.size W W') : FourAt w W' a b p q gp gq :=
  ⟨h.b0.below hb, h.b1.below hb, h.b2.below hb, h.b3.below hb, Bt h.bel hb⟩
theorem FourAt.drew {w W : World} {a b p q : List UInt8} {gp gq : Nat} (h : FourAt w W a b p q gp gq) : FourAt w W.drew a b p q gp gq := h.below ⟨rfl, rfl, rfl, Nat.le_refl _, fun _ _ => rfl⟩

set_option maxRecDepth 100000 in
set_option maxHeartbeats 1000000 in
theorem walkPathPrefixes (w : World) (a : List UInt8) (ha : a.length = 32) (b : List UInt8) (hb : b.length = 32) (n : Int) (_wf : (Lit.int .i64 n).wf = true) :
    Calls Try.prog 6 #[.agg (bs a).toArray, .agg (bs b).toArray, .int .i64 n] w (Yes4 w) := by
  have hP := PairAt.start w a b
  have ha0 := hP.b0
  have hb0 := hP.b1
  have HA := Lib.hid (show (Try.prog.info? 23).map (·.size) = some (bs a).length by rw [info_digest, bs_length, ha])
  have HB := Lib.hid (show (Try.prog.info? 23).map (·.size) = some (bs b).length by rw [info_digest, bs_length, hb])
  obtain ⟨p, q, e, hpl, hql, F1, F2, hcase⟩ : ∃ (p q : List UInt8) (e : Int), p.length = 32 ∧ q.length = 32 ∧ (∀ W : World, Calls Try.prog 12 #[.agg (bs a).toArray, .int .i64 n] W fun x W' => x = .returned (.tuple #[.agg (bs p).toArray, .int .i64 e]) ∧ Below W.heap.size W W') ∧
      (∀ W : World, Calls Try.prog 12 #[.agg (bs b).toArray, .int .i64 n] W fun x W' => x = .returned (.tuple #[.agg (bs q).toArray, .int .i64 e]) ∧ Below W.heap.size W W') ∧
      ((e = 20 ∧ (n < 0 ∨ 256 < n)) ∨ (e = 0 ∧ (p == q) = decide (n ≤ (comm a b : Int)) ∧ n ≤ (comm a p : Int))) := by
    by_cases hi : n < 0 ∨ 256 < n
    · exact ⟨zero32, zero32, 20, zero32_length, zero32_length, fun W => prefix_any_no W a ha n hi, fun W => prefix_any_no W b hb n hi, .inl ⟨rfl, hi⟩⟩
    · obtain ⟨k, rfl⟩ := Int.eq_ofNat_of_zero_le (show 0 ≤ n by omega)
      refine ⟨pref a k, pref b k, 0, by rw [pref_length, ha], by rw [pref_length, hb], fun W => prefix_any W a ha k (by omega), fun W => prefix_any W b hb k (by omega), .inr ⟨rfl, ?_, ?_⟩⟩
      · have h := pref_eq_iff a b ha hb k (by omega)
        rw [Bool.eq_iff_iff, beq_iff_eq, h]
        simp
      · have h := comm_pref a ha k (by omega)
        omega
  have G1 := Lib.hid F1
  have G2 := Lib.hid F2
  clear F1 F2
  have P5 := Lib.hid (show (Try.prog.info? 23).map (·.size) = some (bs p).length by rw [info_digest, bs_length, hpl])
  have P6 := Lib.hid (show (bs zero32).length = (bs p).length by rw [bs_length, bs_length, zero32_length, hpl])
  have P7 := bs_one p
  have Q5 := Lib.hid (show (Try.prog.info? 23).map (·.size) = some (bs q).length by rw [info_digest, bs_length, hql])
  have Q6 := Lib.hid (show (bs zero32).length = (bs q).length by rw [bs_length, bs_length, zero32_length, hql])
  have Q7 := bs_one q
  rcases hcase with ⟨rfl, hi⟩ | ⟨rfl, hpq, hap⟩
  all_goals
    go_enter Try.func6, Try.ntmps6
    go_wp2_with ((with_reducible refine wpList_loadB (o := ⟨some 12, _, _, _, _, _⟩) ?_ 23 (.tmp 3) ?_ ?_ ha0 Try.underlying23 ?_ HA.out ?_); rfl; rfl; rfl; rfl)
    refine (G1.out _).mono ?_
    rintro x w1 ⟨rfl, hB1⟩
    have ha1 := ha0.below hB1
    have hb1 := hb0.below hB1
    have hB1' := Bt hP.bel hB1
    go_wp2_with (first | ((with_reducible refine wpList_allocB (o := ⟨some 7, _, _, _, _, _⟩) ?_ 23 ?_ zeroD_info ?_); rfl; rfl; intro w2 hr2 hg2 hz2) | ((with_reducible refine wpList_storeB (o := ⟨none, .store 23 (.tmp 7) (.tmp 15), _, _, _, _⟩) ?_ 23 (.tmp 7) (.tmp 15) ?_ ?_ ?_ hr2 P5.out P6.out P7 ?_); rfl; rfl; rfl; rfl; intro w3 hr3 hg3 hz3; have hb3 := (hb1.grown hg2 (by simp)).grown hg3 (by have := hb1.lt; simp; omega)) | ((with_reducible refine wpList_loadB (o := ⟨some 18, _, _, _, _, _⟩) ?_ 23 (.tmp 4) ?_ ?_ hb3 Try.underlying23 ?_ HB.out ?_); rfl; rfl; rfl; rfl))
    have hB3 := below4 (hB1'.grown hg2 hB1'.size (fun k e => by cases e)) hg3 hB1'.size
    have ha3 := (ha1.grown hg2 (by simp)).grown hg3 (by have := ha1.lt; simp; omega)
    refine (G2.out _).mono ?_
    rintro x w4 ⟨rfl, hB4⟩
    have ha4 := ha3.below hB4
    have hb4 := hb3.below hB4
    have hr4 := hr3.below hB4
    have hB4' := Bt hB3 hB4
    go_wp2_with (first | ((with_reducible refine wpList_allocB (o := ⟨some 9, _, _, _, _, _⟩) ?_ 23 ?_ zeroD_info ?_); rfl; rfl; intro w5 hr5 hg5 hz5) | ((with_reducible refine wpList_storeB (o := ⟨none, .store 23 (.tmp 9) (.tmp 21), _, _, _, _⟩) ?_ 23 (.tmp 9) (.tmp 21) ?_ ?_ ?_ hr5 Q5.out Q6.out Q7 ?_); rfl; rfl; rfl; rfl; intro w6 hr6 hg6 hz6))
    have hS : FourAt w w6 a b p q w1.heap.size w4.heap.size := ⟨(ha4.grown hg5 (by simp)).grown hg6 (by have := ha4.lt; simp; omega), (hb4.grown hg5 (by simp)).grown hg6 (by have := hb4.lt; simp; omega), (hr4.grown hg5 (by simp)).grown hg6 (by have := hr4.lt; simp; omega), hr6, below4 (hB4'.grown hg5 hB4'.size (fun k e => by cases e)) hg6 hB4'.size⟩
    clear hP ha0 hb0 hB1 hr2 hg2 hz2 hr3 hg3 hz3 hB4 hr5 hg5 hz5 hr6 hg6 hz6 ha1 hb1 hB1' hB3 hb3 ha3 ha4 hb4 hr4 hB4'
  · refine (bits_any _).mono ?_
    rintro x w7 ⟨rfl, hB7⟩
    go_wp2_with fail
    refine (commons_any _).mono ?_
    rintro x w8 ⟨rfl, hB8⟩
    have hB := Bt (Bt hS.bel hB7) hB8
    by_cases h0 : n < 0
    · go_wp2_with fail
      go_ret
      exact Yes4.mk hB
    · have h1 : 256 < n := by omega
      go_wp2_with fail
      go_ret
      exact Yes4.mk hB
  · have e1 := Lib.hid (show ∀ W : World, (binOp .eql 23 (.agg (bs p).toArray) (.agg (bs q).toArray)).run Try.prog W = .ok (.bool (decide (n ≤ (comm a b : Int)))) W from fun W => by rw [eqD W _ _ hpl hql, hpq])
    have C1 := Lib.hid (fun W : World => common_any W a b ha hb)
    have C2 := Lib.hid (fun W : World => common_any W a p ha hpl)
    clear hpq
    generalize comm a b = c at *
    generalize comm a p = d at *
    generalize w1.heap.size = gp at *
    generalize w4.heap.size = gq at *
    -- REGION 5 4
    refine wp_region_held_drew (S := fun W => FourAt w W a b p q gp gq) (by kernel_rfl) hS.drew (fun hHeld => ?_)
    refine wpAnyH_ready (rs := [0]) (by kernel_rfl) (by simp) ?_
    refine AllReadyH.cons (o := ⟨some 50, .call { callee := .value (.func 11), args := #[], argTypes := #[] }, _, _, _, none⟩) rfl (fun K hK => ?_) AllReadyH.nil
    refine step_ofR (by rfl) ?_
    go_simp
    refine (bits_any _).mono ?_
    rintro x W1 ⟨rfl, hb1⟩
    refine hK.out _ _ (hHeld.below hb1) (fun hHeld => ?_)
    clear hK K
    try simp only [Act.put, List.setIfInBounds_toArray, List.set_cons_zero, List.set_cons_succ]
    refine wpAnyH_take (i := 1) (oi := ⟨some 51, .move (.tmp 50), _, _, _, none⟩) (v := ?_) rfl (by kernel_rfl) (by kernel_rfl) (by kernel_rfl) (fun _ _ _ h => h) (Or.inl ⟨by rfl, ?_⟩) hHeld ?_
    rotate_left
    · intro W _; go_simp; try with_reducible rfl
    try simp only [Act.put, List.setIfInBounds_toArray, List.set_cons_zero, List.set_cons_succ]
    refine wpAnyH_ready (rs := [2]) (by kernel_rfl) (by simp) ?_
    refine AllReadyH.cons (o := ⟨some 52, .call { callee := .value (.func 14), args := #[], argTypes := #[] }, _, _, _, some (1, true)⟩) rfl (fun K hK => ?_) AllReadyH.nil
    refine step_ofR (by rfl) ?_
    go_simp
    refine (commons_any _).mono ?_
    rintro x W1 ⟨rfl, hb1⟩
    refine hK.out _ _ (hHeld.below hb1) (fun hHeld => ?_)
    clear hK K
    try simp only [Act.put, List.setIfInBounds_toArray, List.set_cons_zero, List.set_cons_succ]
    refine wpAnyH_take (i := 3) (oi := ⟨some 53, .pick (.tmp 51) (.tmp 52) (.const (.bool false)), _, _, _, none⟩) (v := ?_) rfl (by kernel_rfl) (by kernel_rfl) (by kernel_rfl) (fun _ _ _ h => h) (Or.inl ⟨by rfl, ?_⟩) hHeld ?_
    rotate_left
    · intro W _; go_simp; try with_reducible rfl
    try simp only [Act.put, List.setIfInBounds_toArray, List.set_cons_zero, List.set_cons_succ]
    refine wpAnyH_take (i := 4) (oi := ⟨some 54, .move (.tmp 53), _, _, _, none⟩) (v := ?_) rfl (by kernel_rfl) (by kernel_rfl) (by kernel_rfl) (fun _ _ _ h => h) (Or.inl ⟨by rfl, ?_⟩) hHeld ?_
    rotate_left
    · intro W _; go_simp; try with_reducible rfl
    try simp only [Act.put, List.setIfInBounds_toArray, List.set_cons_zero, List.set_cons_succ]
    refine wpAnyH_take (i := 5) (oi := ⟨some 55, .load 23 (.tmp 7), _, _, _, some (4, true)⟩) (v := .agg (bs p).toArray) rfl (by kernel_rfl) (by kernel_rfl) (by kernel_rfl) (fun _ _ _ h => h) (yieldsIf_load_mid (by rfl) _ _ rfl gp 0 rfl (bs p) _ (fun W h => h.b2.allR) Try.underlying23 rfl P5.out) hHeld ?_
    try simp only [Act.put, List.setIfInBounds_toArray, List.set_cons_zero, List.set_cons_succ]
    refine wpAnyH_take (i := 6) (oi := ⟨some 56, .load 23 (.tmp 9), _, _, _, some (4, true)⟩) (v := .agg (bs q).toArray) rfl (by kernel_rfl) (by kernel_rfl) (by kernel_rfl) (fun _ _ _ h => h) (yieldsIf_load_mid (by rfl) _ _ rfl gq 0 rfl (bs q) _ (fun W h => h.b3.allR) Try.underlying23 rfl Q5.out) hHeld ?_
    try simp only [Act.put, List.setIfInBounds_toArray, List.set_cons_zero, List.set_cons_succ]
    refine wpAnyH_take (i := 7) (oi := ⟨some 57, .binOp .eql 23 (.tmp 55) (.tmp 56) 23, _, _, _, some (4, true)⟩) (v := .bool (decide (n ≤ (c : Int)))) rfl (by kernel_rfl) (by kernel_rfl) (by kernel_rfl) (fun _ _ _ h => h) (yieldsIf_eqH (by rfl) .eql 23 23 (.tmp 55) (.tmp 56) rfl _ _ rfl rfl guardH _ e1.out) hHeld ?_
    try simp only [Act.put, List.setIfInBounds_toArray, List.set_cons_zero, List.set_cons_succ]
    refine wpAnyH_take (i := 8) (oi := ⟨some 58, .move (.tmp 2), _, _, _, some (4, true)⟩) (v := ?_) rfl (by kernel_rfl) (by kernel_rfl) (by kernel_rfl) (fun _ _ _ h => h) (Or.inl ⟨by rfl, ?_⟩) hHeld ?_
    rotate_left
    · intro W _; go_simp; try with_reducible rfl
    try simp only [Act.put, List.setIfInBounds_toArray, List.set_cons_zero, List.set_cons_succ]
    refine wpAnyH_take (i := 9) (oi := ⟨some 59, .load 23 (.tmp 3), _, _, _, some (4, true)⟩) (v := .agg (bs a).toArray) rfl (by kernel_rfl) (by kernel_rfl) (by kernel_rfl) (fun _ _ _ h => h) (yieldsIf_load_mid (by rfl) _ _ rfl w.heap.size 0 rfl (bs a) _ (fun W h => h.b0.allR) Try.underlying23 rfl HA.out) hHeld ?_
    try simp only [Act.put, List.setIfInBounds_toArray, List.set_cons_zero, List.set_cons_succ]
    refine wpAnyH_take (i := 10) (oi := ⟨some 60, .load 23 (.tmp 4), _, _, _, some (4, true)⟩) (v := .agg (bs b).toArray) rfl (by kernel_rfl) (by kernel_rfl) (by kernel_rfl) (fun _ _ _ h => h) (yieldsIf_load_mid (by rfl) _ _ rfl (w.heap.size + 1) 0 rfl (bs b) _ (fun W h => h.b1.allR) Try.underlying23 rfl HB.out) hHeld ?_
    try simp only [Act.put, List.setIfInBounds_toArray, List.set_cons_zero, List.set_cons_succ]
    refine wpAnyH_ready (rs := [11]) (by kernel_rfl) (by simp) ?_
    refine AllReadyH.cons (o := ⟨some 61, .call { callee := .value (.func 17), args := #[.tmp 59, .tmp 60], argTypes := #[23, 23] }, _, _, _, some (4, true)⟩) rfl (fun K hK => ?_) AllReadyH.nil
    refine step_ofR (by rfl) ?_
    go_simp
    refine (C1.out _).mono ?_
    rintro x W1 ⟨rfl, hb1⟩
    refine hK.out _ _ (hHeld.below hb1) (fun hHeld => ?_)
    clear hK K
    try simp only [Act.put, List.setIfInBounds_toArray, List.set_cons_zero, List.set_cons_succ]
    refine wpAnyH_take (i := 12) (oi := ⟨some 62, .binOp .leq 3 (.tmp 58) (.tmp 61) 3, _, _, _, some (4, true)⟩) (v := ?_) rfl (by kernel_rfl) (by kernel_rfl) (by kernel_rfl) (fun _ _ _ h => h) (Or.inl ⟨by rfl, ?_⟩) hHeld ?_
    rotate_left
    · intro W _; go_simp; try with_reducible rfl
    try simp only [Act.put, List.setIfInBounds_toArray, List.set_cons_zero, List.set_cons_succ]
    refine wpAnyH_take (i := 13) (oi := ⟨some 63, .binOp .eql 4 (.tmp 57) (.tmp 62) 4, _, _, _, some (4, true)⟩) (v := ?_) rfl (by kernel_rfl) (by kernel_rfl) (by kernel_rfl) (fun _ _ _ h => h) (Or.inl ⟨by rfl, ?_⟩) hHeld ?_
    rotate_left
    · intro W _; go_simp; try with_reducible rfl
    try simp only [Act.put, List.setIfInBounds_toArray, List.set_cons_zero, List.set_cons_succ]
    refine wpAnyH_take (i := 14) (oi := ⟨some 64, .pick (.tmp 54) (.tmp 63) (.const (.bool false)), _, _, _, none⟩) (v := ?_) rfl (by kernel_rfl) (by kernel_rfl) (by kernel_rfl) (fun _ _ _ h => h) (Or.inl ⟨by rfl, ?_⟩) hHeld ?_
    rotate_left
    · intro W _; go_simp; try with_reducible rfl
    try simp only [Act.put, List.setIfInBounds_toArray, List.set_cons_zero, List.set_cons_succ]
    refine wpAnyH_take (i := 15) (oi := ⟨some 65, .move (.tmp 64), _, _, _, none⟩) (v := ?_) rfl (by kernel_rfl) (by kernel_rfl) (by kernel_rfl) (fun _ _ _ h => h) (Or.inl ⟨by rfl, ?_⟩) hHeld ?_
    rotate_left
    · intro W _; go_simp; try with_reducible rfl
    try simp only [Act.put, List.setIfInBounds_toArray, List.set_cons_zero, List.set_cons_succ]
    refine wpAnyH_take (i := 16) (oi := ⟨some 66, .load 23 (.tmp 3), _, _, _, some (15, true)⟩) (v := .agg (bs a).toArray) rfl (by kernel_rfl) (by kernel_rfl) (by kernel_rfl) (fun _ _ _ h => h) (yieldsIf_load_mid (by rfl) _ _ rfl w.heap.size 0 rfl (bs a) _ (fun W h => h.b0.allR) Try.underlying23 rfl HA.out) hHeld ?_
    try simp only [Act.put, List.setIfInBounds_toArray, List.set_cons_zero, List.set_cons_succ]
    refine wpAnyH_take (i := 17) (oi := ⟨some 67, .load 23 (.tmp 7), _, _, _, some (15, true)⟩) (v := .agg (bs p).toArray) rfl (by kernel_rfl) (by kernel_rfl) (by kernel_rfl) (fun _ _ _ h => h) (yieldsIf_load_mid (by rfl) _ _ rfl gp 0 rfl (bs p) _ (fun W h => h.b2.allR) Try.underlying23 rfl P5.out) hHeld ?_
    try simp only [Act.put, List.setIfInBounds_toArray, List.set_cons_zero, List.set_cons_succ]
    refine wpAnyH_take (i := 19) (oi := ⟨some 69, .move (.tmp 2), _, _, _, some (15, true)⟩) (v := ?_) rfl (by kernel_rfl) (by kernel_rfl) (by kernel_rfl) (fun _ _ _ h => h) (Or.inl ⟨by rfl, ?_⟩) hHeld ?_
    rotate_left
    · intro W _; go_simp; try with_reducible rfl
    try simp only [Act.put, List.setIfInBounds_toArray, List.set_cons_zero, List.set_cons_succ]
    refine wpAnyH_ready (rs := [18]) (by kernel_rfl) (by simp) ?_
    refine AllReadyH.cons (o := ⟨some 68, .call { callee := .value (.func 17), args := #[.tmp 66, .tmp 67], argTypes := #[23, 23] }, _, _, _, some (15, true)⟩) rfl (fun K hK => ?_) AllReadyH.nil
    refine step_ofR (by rfl) ?_
    go_simp
    refine (C2.out _).mono ?_
    rintro x W1 ⟨rfl, hb1⟩
    refine hK.out _ _ (hHeld.below hb1) (fun hHeld => ?_)
    clear hK K
    try simp only [Act.put, List.setIfInBounds_toArray, List.set_cons_zero, List.set_cons_succ]
    refine wpAnyH_take (i := 20) (oi := ⟨some 70, .binOp .geq 3 (.tmp 68) (.tmp 69) 3, _, _, _, some (15, true)⟩) (v := ?_) rfl (by kernel_rfl) (by kernel_rfl) (by kernel_rfl) (fun _ _ _ h => h) (Or.inl ⟨by rfl, ?_⟩) hHeld ?_
    rotate_left
    · intro W _; go_simp; try with_reducible rfl
    try simp only [Act.put, List.setIfInBounds_toArray, List.set_cons_zero, List.set_cons_succ]
    refine wpAnyH_take (i := 21) (oi := ⟨some 71, .pick (.tmp 65) (.tmp 70) (.const (.bool false)), _, _, _, none⟩) (v := ?_) rfl (by kernel_rfl) (by kernel_rfl) (by kernel_rfl) (fun _ _ _ h => h) (Or.inl ⟨by rfl, ?_⟩) hHeld ?_
    rotate_left
    · intro W _; go_simp; try with_reducible rfl
    try simp only [Act.put, List.setIfInBounds_toArray, List.set_cons_zero, List.set_cons_succ]
    refine wpAnyH_ready (rs := [22]) (by kernel_rfl) (by simp) ?_
    refine AllReadyH.cons (o := ⟨some 6, .assign (.tmp 71), _, _, _, none⟩) rfl (fun K hK => ?_) AllReadyH.nil
    refine step_ofR (by rfl) ?_
    go_simp
    refine hK.out _ _ (hHeld) (fun hHeld => ?_)
    clear hK K
    try simp only [Act.put, List.setIfInBounds_toArray, List.set_cons_zero, List.set_cons_succ]
    refine wpAnyH_done (by kernel_rfl) ?_ _
    -- END 5 4
    go_wp2_with fail
    go_ret
    exact Yes4.mk hHeld.bel
end Go.Proofs.Ytgfahgmjmiapiaa
