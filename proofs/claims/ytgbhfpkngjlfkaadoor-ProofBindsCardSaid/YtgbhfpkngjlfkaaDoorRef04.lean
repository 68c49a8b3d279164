/-
  The walks of the reference's layer 4: weight, At, Bit, Common, Less.
-/
import Derived.Test.YtgbhfpkngjlfkaaDoorLibO
import Derived.Test.YtgbhfpkngjlfkaaDoorPath0
import Derived.Deep.RegionHeld3
import Derived.BigQuiet
namespace Go.Proofs.YtgbhfpkngjlfkaaDoor
open Go.RowKit

theorem wt_step (k : Nat) : (128 / 2 ^ k) / 2 = 128 / 2 ^ (k + 1) := by
  rw [Nat.div_div_eq_div_mul, Nat.pow_succ]

set_option maxRecDepth 100000 in
theorem weight_any (w : World) (i : Nat) (hi : i ≤ 100000) :
    Calls Tryd.prog 71 #[.int .i64 (i : Int)] w fun e w' => e = .returned (.int .i64 (wt i : Int)) ∧ w = w' := by
  go_enter Tryd.func71, Tryd.ntmps71
  go_wp2_with fail
  go_loopw [3, 4] (fun v t wr => ∃ k : Nat, k ≤ i % 8 ∧ t = .int .i64 k ∧ v = .int .i64 ((128 / 2 ^ k : Nat) : Int) ∧ w = wr) (fun _ t _ => 8 - (intOf t).toNat)
  case atStart => exact ⟨0, by omega, rfl, rfl, rfl⟩
  case round =>
    obtain ⟨k, hk, rfl, rfl, rfl⟩ := hrel
    have m8 : i % 8 < 8 := Nat.mod_lt _ (by decide)
    have hw8 := Lib.hid (show wt i = 128 / 2 ^ (i % 8) from rfl)
    obtain ⟨r, hr⟩ : ∃ r, i % 8 = r := ⟨_, rfl⟩
    have t1 : (i : Int).tmod 8 = (r : Int) := by rw [← hr, Int.tmod_eq_emod_of_nonneg (by omega)]; rfl
    have t2 : (i : Int) % 8 = (r : Int) := by rw [← hr]; rfl
    rw [hr] at hk m8 hw8
    clear hr
    by_cases hlt : k < r
    · have h3 : (k : Int) < (r : Int) := by omega
      have hst := Lib.hid (wt_step k)
      have hle : 128 / 2 ^ k ≤ 128 := Nat.div_le_self _ _
      generalize 128 / 2 ^ k = v at *
      obtain ⟨v2, hv2⟩ : ∃ v2, v / 2 = v2 := ⟨_, rfl⟩
      have t3 : (v : Int).tdiv 2 = (v2 : Int) := by rw [← hv2, Int.tdiv_eq_ediv_of_nonneg (by omega)]; rfl
      have t4 : (v : Int) / 2 = (v2 : Int) := by rw [← hv2]; rfl
      rw [hv2] at hst
      clear hv2
      go_wp2_with fail
      exact ⟨⟨k + 1, by omega, by go_num, by rw [← hst.out], trivial⟩, by simp [intOf]; omega⟩
    · have h3 : ¬ (k : Int) < (r : Int) := by omega
      obtain rfl : k = r := by omega
      rw [← hw8.out]
      generalize hv : wt i = v at *
      have HV := Lib.hid hv
      clear hv
      go_wp2_with fail
      go_ret
      exact ⟨by rw [HV.out]; rfl, rfl⟩

theorem weight_q (w : World) (k i : Nat) (hi : i ≤ 100000) :
    Calls Tryd.prog 71 #[.int .i64 (i : Int)] (w.drewN k) fun e w'' => e = .returned (.int .i64 (wt i : Int)) ∧ ∃ j, w'' = w.drewN j :=
  (weight_any (w.drewN k) i hi).mono fun _ _ h => ⟨h.1, k, h.2.symm⟩

set_option maxRecDepth 100000 in
set_option maxHeartbeats 1000000 in
theorem at_ref (w : World) (p : List UInt8) (hp : p.length = 32) (i : Nat) (hi : i < 256) :
    Calls Tryd.prog 47 #[.agg (bs p).toArray, .int .i64 (i : Int)] w fun e w' => e = .returned (.int .i64 (bitAt p i : Int)) ∧ Below w.heap.size w w' := by
  have hb0 := Blk.new w 23 (bs p)
  have hB0 : Below w.heap.size w (w.alloc (.cells (bs p).toArray 23)) := (Below.refl _ w).alloc (Nat.le_refl _) _
  have c0 := hb0.cell (bs_at p (i / 8) (by omega))
  have hwt := weight_q (w.alloc (.cells (bs p).toArray 23))
  have hpos := wt_pos i
  have hle := wt_le i
  obtain ⟨d, hd⟩ : ∃ d, i / 8 = d := ⟨_, rfl⟩
  have hd32 : (d : Int) < 32 := by omega
  have t1 : (i : Int).tdiv 8 = (d : Int) := by rw [← hd, Int.tdiv_eq_ediv_of_nonneg (by omega)]; rfl
  have t2 : (i : Int) / 8 = (d : Int) := by rw [← hd]; rfl
  have hbit := Lib.hid (show bitAt p i = (p.getD (i / 8) 0).toNat / wt i % 2 from rfl)
  rw [hd] at c0 hbit
  clear hd
  have hx := (p.getD d 0).toNat_lt
  generalize (p.getD d 0).toNat = x at *
  go_enter Tryd.func47, Tryd.ntmps47
  go_wp2_with fail
  have HW := Lib.hid (fun k => hwt k i (by omega))
  clear hwt
  generalize wt i = v at *
  obtain ⟨y, hy⟩ : ∃ y, x / v = y := ⟨_, rfl⟩
  have hyl : y ≤ x := by rw [← hy]; exact Nat.div_le_self _ _
  have t3 : (x : Int).tdiv (v : Int) = (y : Int) := by rw [← hy, Int.tdiv_eq_ediv_of_nonneg (by omega)]; rfl
  have t4 : (x : Int) / (v : Int) = (y : Int) := by rw [← hy]; rfl
  have hv0 : ¬ (v : Int) = 0 := by omega
  rw [hy] at hbit
  clear hy
  obtain ⟨z, hz⟩ : ∃ z, y % 2 = z := ⟨_, rfl⟩
  have t5 : (y : Int).tmod 2 = (z : Int) := by rw [← hz, Int.tmod_eq_emod_of_nonneg (by omega)]; rfl
  have t6 : (y : Int) % 2 = (z : Int) := by rw [← hz]; rfl
  rw [hz] at hbit
  clear hz
  have w1 : IntKind.i64.wrap (x : Int) = (x : Int) := IntWalk.i64_in _ (by omega)
  go_quiet ((go_at_call 71; exact HW.out _))
  go_wp2_with fail
  go_ret
  exact ⟨by rw [hbit.out]; rfl, ⟨hB0.os, hB0.tape, hB0.output, hB0.size, hB0.block⟩⟩


set_option maxRecDepth 100000 in
set_option maxHeartbeats 1000000 in
theorem common_ref (w : World) (p q : List UInt8) (hp : p.length = 32) (hq : q.length = 32) :
    Calls Tryd.prog 44 #[.agg (bs p).toArray, .agg (bs q).toArray] w fun e w' => e = .returned (.int .i64 (comm p q : Int)) ∧ Below w.heap.size w w' := by
  have H5 := Lib.hid (show (Tryd.prog.info? 23).map (·.size) = some (bs p).length by rw [info_digest, bs_length, hp])
  have H6 := Lib.hid (show (Tryd.prog.info? 23).map (·.size) = some (bs q).length by rw [info_digest, bs_length, hq])
  have hP := PairAt.start w p q
  go_enter Tryd.func44, Tryd.ntmps44
  go_wp2_with fail
  generalize (w.alloc _).alloc _ = w1 at *
  go_loopw [5] (fun t wr => ∃ n : Nat, n ≤ 256 ∧ t = .int .i64 n ∧ (∀ i, i < n → bitAt p i = bitAt q i) ∧ PairAt w wr p q) (fun t _ => 256 - (intOf t).toNat)
  case atStart => exact ⟨0, by omega, rfl, fun i h => absurd h (Nat.not_lt_zero i), hP⟩
  case round =>
    obtain ⟨n, hn, rfl, hsame, hS⟩ := hrel
    by_cases hlt : n < 256
    · have hlt' : (n : Int) < 256 := by omega
      have F1 := Lib.hid (fun W : World => at_ref W p hp n hlt)
      have F2 := Lib.hid (fun W : World => at_ref W q hq n hlt)
      have hU := Lib.hid (fun h : bitAt p n ≠ bitAt q n => comm_unique p q n hn hsame (fun _ => h))
      have hN := Lib.hid (fun h : bitAt p n = bitAt q n => (show ∀ i, i < n + 1 → bitAt p i = bitAt q i from fun i hi => by
        by_cases e : i = n
        · rw [e]; exact h
        · exact hsame i (by omega)))
      clear hsame
      generalize bitAt p n = x at F1 hU hN
      generalize bitAt q n = y at F2 hU hN
      by_cases hxy : x = y
      · have hxy' : (x : Int) = y := by omega
        -- REGION 2 8
        go_wp2_with fail
        refine wp_region_held_drew (S := fun W => PairAt w W p q) (by kernel_rfl) hS.drew (fun hHeld => ?_)
        refine wpAnyH_take (i := 0) (oi := ⟨some 6, .move (.tmp 5), _, _, _, none⟩) (v := ?_) rfl (by kernel_rfl) (by kernel_rfl) (by kernel_rfl) (fun _ _ _ h => h) (Or.inl ⟨by rfl, ?_⟩) hHeld ?_
        rotate_left
        · intro W _; go_simp; try with_reducible rfl
        try simp only [Act.put, List.setIfInBounds_toArray, List.set_cons_zero, List.set_cons_succ]
        refine wpAnyH_take (i := 1) (oi := ⟨some 7, .binOp .lss 3 (.tmp 6) (.const (.int .i64 256)) 3, _, _, _, none⟩) (v := ?_) rfl (by kernel_rfl) (by kernel_rfl) (by kernel_rfl) (fun _ _ _ h => h) (Or.inl ⟨by rfl, ?_⟩) hHeld ?_
        rotate_left
        · intro W _; go_simp; try with_reducible rfl
        try simp only [Act.put, List.setIfInBounds_toArray, List.set_cons_zero, List.set_cons_succ]
        refine wpAnyH_take (i := 2) (oi := ⟨some 8, .move (.tmp 7), _, _, _, none⟩) (v := ?_) rfl (by kernel_rfl) (by kernel_rfl) (by kernel_rfl) (fun _ _ _ h => h) (Or.inl ⟨by rfl, ?_⟩) hHeld ?_
        rotate_left
        · intro W _; go_simp; try with_reducible rfl
        try simp only [Act.put, List.setIfInBounds_toArray, List.set_cons_zero, List.set_cons_succ]
        refine wpAnyH_take (i := 3) (oi := ⟨some 9, .load 23 (.tmp 2), _, _, _, some (2, true)⟩) (v := .agg (bs p).toArray) rfl (by kernel_rfl) (by kernel_rfl) (by kernel_rfl) (fun _ _ _ h => h) (yieldsIf_load_mid (by rfl) _ _ rfl w.heap.size 0 rfl (bs p) _ (fun W h => h.b0.allR) Tryd.underlying23 rfl H5.out) hHeld ?_
        try simp only [Act.put, List.setIfInBounds_toArray, List.set_cons_zero, List.set_cons_succ]
        refine wpAnyH_take (i := 4) (oi := ⟨some 10, .move (.tmp 5), _, _, _, some (2, true)⟩) (v := ?_) rfl (by kernel_rfl) (by kernel_rfl) (by kernel_rfl) (fun _ _ _ h => h) (Or.inl ⟨by rfl, ?_⟩) hHeld ?_
        rotate_left
        · intro W _; go_simp; try with_reducible rfl
        try simp only [Act.put, List.setIfInBounds_toArray, List.set_cons_zero, List.set_cons_succ]
        refine wpAnyH_take (i := 6) (oi := ⟨some 12, .load 23 (.tmp 3), _, _, _, some (2, true)⟩) (v := .agg (bs q).toArray) rfl (by kernel_rfl) (by kernel_rfl) (by kernel_rfl) (fun _ _ _ h => h) (yieldsIf_load_mid (by rfl) _ _ rfl (w.heap.size + 1) 0 rfl (bs q) _ (fun W h => h.b1.allR) Tryd.underlying23 rfl H6.out) hHeld ?_
        try simp only [Act.put, List.setIfInBounds_toArray, List.set_cons_zero, List.set_cons_succ]
        refine wpAnyH_take (i := 7) (oi := ⟨some 13, .move (.tmp 5), _, _, _, some (2, true)⟩) (v := ?_) rfl (by kernel_rfl) (by kernel_rfl) (by kernel_rfl) (fun _ _ _ h => h) (Or.inl ⟨by rfl, ?_⟩) hHeld ?_
        rotate_left
        · intro W _; go_simp; try with_reducible rfl
        try simp only [Act.put, List.setIfInBounds_toArray, List.set_cons_zero, List.set_cons_succ]
        refine wpAnyH_ready (rs := [5]) (by kernel_rfl) (by simp) ?_
        refine AllReadyH.cons (o := ⟨some 11, .call { callee := .value (.func 47), args := #[.tmp 9, .tmp 10], argTypes := #[23, 3] }, _, _, _, some (2, true)⟩) rfl (fun K hK => ?_) AllReadyH.nil
        refine step_ofR (by rfl) ?_
        go_simp
        refine (F1.out _).mono ?_
        rintro e W1 ⟨rfl, hb1⟩
        refine hK.out _ _ (hHeld.below hb1) (fun hHeld => ?_)
        clear hK K
        try simp only [Act.put, List.setIfInBounds_toArray, List.set_cons_zero, List.set_cons_succ]
        refine wpAnyH_ready (rs := [8]) (by kernel_rfl) (by simp) ?_
        refine AllReadyH.cons (o := ⟨some 14, .call { callee := .value (.func 47), args := #[.tmp 12, .tmp 13], argTypes := #[23, 3] }, _, _, _, some (2, true)⟩) rfl (fun K hK => ?_) AllReadyH.nil
        refine step_ofR (by rfl) ?_
        go_simp
        refine (F2.out _).mono ?_
        rintro e W2 ⟨rfl, hb2⟩
        refine hK.out _ _ (hHeld.below hb2) (fun hHeld => ?_)
        clear hK K
        try simp only [Act.put, List.setIfInBounds_toArray, List.set_cons_zero, List.set_cons_succ]
        refine wpAnyH_take (i := 9) (oi := ⟨some 15, .binOp .eql 3 (.tmp 11) (.tmp 14) 3, _, _, _, some (2, true)⟩) (v := ?_) rfl (by kernel_rfl) (by kernel_rfl) (by kernel_rfl) (fun _ _ _ h => h) (Or.inl ⟨by rfl, ?_⟩) hHeld ?_
        rotate_left
        · intro W _; go_simp; try with_reducible rfl
        try simp only [Act.put, List.setIfInBounds_toArray, List.set_cons_zero, List.set_cons_succ]
        refine wpAnyH_take (i := 10) (oi := ⟨some 16, .pick (.tmp 8) (.tmp 15) (.const (.bool false)), _, _, _, none⟩) (v := ?_) rfl (by kernel_rfl) (by kernel_rfl) (by kernel_rfl) (fun _ _ _ h => h) (Or.inl ⟨by rfl, ?_⟩) hHeld ?_
        rotate_left
        · intro W _; go_simp; try with_reducible rfl
        try simp only [Act.put, List.setIfInBounds_toArray, List.set_cons_zero, List.set_cons_succ]
        refine wpAnyH_done (by kernel_rfl) ?_ _
        -- END 2 8
        go_wp2_with fail
        exact ⟨⟨n + 1, by omega, by go_num, hN.out hxy, hHeld⟩, by simp [intOf]; omega⟩
      · have hxy' : ¬ (x : Int) = y := by omega
        -- REGION 2 8
        go_wp2_with fail
        refine wp_region_held_drew (S := fun W => PairAt w W p q) (by kernel_rfl) hS.drew (fun hHeld => ?_)
        refine wpAnyH_take (i := 0) (oi := ⟨some 6, .move (.tmp 5), _, _, _, none⟩) (v := ?_) rfl (by kernel_rfl) (by kernel_rfl) (by kernel_rfl) (fun _ _ _ h => h) (Or.inl ⟨by rfl, ?_⟩) hHeld ?_
        rotate_left
        · intro W _; go_simp; try with_reducible rfl
        try simp only [Act.put, List.setIfInBounds_toArray, List.set_cons_zero, List.set_cons_succ]
        refine wpAnyH_take (i := 1) (oi := ⟨some 7, .binOp .lss 3 (.tmp 6) (.const (.int .i64 256)) 3, _, _, _, none⟩) (v := ?_) rfl (by kernel_rfl) (by kernel_rfl) (by kernel_rfl) (fun _ _ _ h => h) (Or.inl ⟨by rfl, ?_⟩) hHeld ?_
        rotate_left
        · intro W _; go_simp; try with_reducible rfl
        try simp only [Act.put, List.setIfInBounds_toArray, List.set_cons_zero, List.set_cons_succ]
        refine wpAnyH_take (i := 2) (oi := ⟨some 8, .move (.tmp 7), _, _, _, none⟩) (v := ?_) rfl (by kernel_rfl) (by kernel_rfl) (by kernel_rfl) (fun _ _ _ h => h) (Or.inl ⟨by rfl, ?_⟩) hHeld ?_
        rotate_left
        · intro W _; go_simp; try with_reducible rfl
        try simp only [Act.put, List.setIfInBounds_toArray, List.set_cons_zero, List.set_cons_succ]
        refine wpAnyH_take (i := 3) (oi := ⟨some 9, .load 23 (.tmp 2), _, _, _, some (2, true)⟩) (v := .agg (bs p).toArray) rfl (by kernel_rfl) (by kernel_rfl) (by kernel_rfl) (fun _ _ _ h => h) (yieldsIf_load_mid (by rfl) _ _ rfl w.heap.size 0 rfl (bs p) _ (fun W h => h.b0.allR) Tryd.underlying23 rfl H5.out) hHeld ?_
        try simp only [Act.put, List.setIfInBounds_toArray, List.set_cons_zero, List.set_cons_succ]
        refine wpAnyH_take (i := 4) (oi := ⟨some 10, .move (.tmp 5), _, _, _, some (2, true)⟩) (v := ?_) rfl (by kernel_rfl) (by kernel_rfl) (by kernel_rfl) (fun _ _ _ h => h) (Or.inl ⟨by rfl, ?_⟩) hHeld ?_
        rotate_left
        · intro W _; go_simp; try with_reducible rfl
        try simp only [Act.put, List.setIfInBounds_toArray, List.set_cons_zero, List.set_cons_succ]
        refine wpAnyH_take (i := 6) (oi := ⟨some 12, .load 23 (.tmp 3), _, _, _, some (2, true)⟩) (v := .agg (bs q).toArray) rfl (by kernel_rfl) (by kernel_rfl) (by kernel_rfl) (fun _ _ _ h => h) (yieldsIf_load_mid (by rfl) _ _ rfl (w.heap.size + 1) 0 rfl (bs q) _ (fun W h => h.b1.allR) Tryd.underlying23 rfl H6.out) hHeld ?_
        try simp only [Act.put, List.setIfInBounds_toArray, List.set_cons_zero, List.set_cons_succ]
        refine wpAnyH_take (i := 7) (oi := ⟨some 13, .move (.tmp 5), _, _, _, some (2, true)⟩) (v := ?_) rfl (by kernel_rfl) (by kernel_rfl) (by kernel_rfl) (fun _ _ _ h => h) (Or.inl ⟨by rfl, ?_⟩) hHeld ?_
        rotate_left
        · intro W _; go_simp; try with_reducible rfl
        try simp only [Act.put, List.setIfInBounds_toArray, List.set_cons_zero, List.set_cons_succ]
        refine wpAnyH_ready (rs := [5]) (by kernel_rfl) (by simp) ?_
        refine AllReadyH.cons (o := ⟨some 11, .call { callee := .value (.func 47), args := #[.tmp 9, .tmp 10], argTypes := #[23, 3] }, _, _, _, some (2, true)⟩) rfl (fun K hK => ?_) AllReadyH.nil
        refine step_ofR (by rfl) ?_
        go_simp
        refine (F1.out _).mono ?_
        rintro e W1 ⟨rfl, hb1⟩
        refine hK.out _ _ (hHeld.below hb1) (fun hHeld => ?_)
        clear hK K
        try simp only [Act.put, List.setIfInBounds_toArray, List.set_cons_zero, List.set_cons_succ]
        refine wpAnyH_ready (rs := [8]) (by kernel_rfl) (by simp) ?_
        refine AllReadyH.cons (o := ⟨some 14, .call { callee := .value (.func 47), args := #[.tmp 12, .tmp 13], argTypes := #[23, 3] }, _, _, _, some (2, true)⟩) rfl (fun K hK => ?_) AllReadyH.nil
        refine step_ofR (by rfl) ?_
        go_simp
        refine (F2.out _).mono ?_
        rintro e W2 ⟨rfl, hb2⟩
        refine hK.out _ _ (hHeld.below hb2) (fun hHeld => ?_)
        clear hK K
        try simp only [Act.put, List.setIfInBounds_toArray, List.set_cons_zero, List.set_cons_succ]
        refine wpAnyH_take (i := 9) (oi := ⟨some 15, .binOp .eql 3 (.tmp 11) (.tmp 14) 3, _, _, _, some (2, true)⟩) (v := ?_) rfl (by kernel_rfl) (by kernel_rfl) (by kernel_rfl) (fun _ _ _ h => h) (Or.inl ⟨by rfl, ?_⟩) hHeld ?_
        rotate_left
        · intro W _; go_simp; try with_reducible rfl
        try simp only [Act.put, List.setIfInBounds_toArray, List.set_cons_zero, List.set_cons_succ]
        refine wpAnyH_take (i := 10) (oi := ⟨some 16, .pick (.tmp 8) (.tmp 15) (.const (.bool false)), _, _, _, none⟩) (v := ?_) rfl (by kernel_rfl) (by kernel_rfl) (by kernel_rfl) (fun _ _ _ h => h) (Or.inl ⟨by rfl, ?_⟩) hHeld ?_
        rotate_left
        · intro W _; go_simp; try with_reducible rfl
        try simp only [Act.put, List.setIfInBounds_toArray, List.set_cons_zero, List.set_cons_succ]
        refine wpAnyH_done (by kernel_rfl) ?_ _
        -- END 2 8
        go_wp2_with fail
        go_ret
        exact ⟨by rw [hU.out hxy]; rfl, hHeld.bel⟩
    · obtain rfl : n = 256 := by omega
      have hU := Lib.hid (comm_unique p q 256 hn hsame (fun h => absurd h (Nat.lt_irrefl _)))
      clear hsame
      rw [show ((256 : Nat) : Int) = 256 from rfl]
      go_wp2_with fail
      go_quiet (fail)
      go_wp2_with fail
      go_ret
      exact ⟨by rw [hU.out]; rfl, ⟨hS.bel.os, hS.bel.tape, hS.bel.output, hS.bel.size, hS.bel.block⟩⟩



end Go.Proofs.YtgbhfpkngjlfkaaDoor
