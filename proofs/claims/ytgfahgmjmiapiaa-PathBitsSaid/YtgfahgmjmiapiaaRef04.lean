/-
  The walks of the reference's layer 4: weight, At, Bit, Common, Less.
-/
import Derived.Test.YtgfahgmjmiapiaaLibO
import Derived.Test.YtgfahgmjmiapiaaPath0
import Derived.Deep.RegionHeld3
import Derived.BigQuiet
namespace Go.Proofs.Ytgfahgmjmiapiaa
open Go.RowKit

theorem wt_step (k : Nat) : (128 / 2 ^ k) / 2 = 128 / 2 ^ (k + 1) := by
  rw [Nat.div_div_eq_div_mul, Nat.pow_succ]

set_option maxRecDepth 100000 in
theorem weight_any (w : World) (i : Nat) (hi : i ≤ 100000) :
    Calls Try.prog 23 #[.int .i64 (i : Int)] w fun e w' => e = .returned (.int .i64 (wt i : Int)) ∧ w = w' := by
  go_enter Try.func23, Try.ntmps23
  go_wp2_with fail
  go_loopw [3, 4] (fun v t wr => ∃ k : Nat, k ≤ i % 8 ∧ t = .int .i64 k ∧ v = .int .i64 ((128 / 2 ^ k : Nat) : Int) ∧ w = wr) (fun _ t _ => 8 - (intOf t).toNat)
  case atStart => exact ⟨0, by omega, rfl, rfl, rfl⟩
  case round =>
    obtain ⟨k, hk, rfl, rfl, rfl⟩ := hrel
    have m8 : i % 8 < 8 := Nat.mod_lt _ (by decide)
    have hw8 := Lib.hid (show wt i = 128 / 2 ^ (i % 8) from rfl)
    obtain ⟨r, hr⟩ : ∃ r, i % 8 = r := ⟨_, rfl⟩
    have t1 : (i : Int).tmod 8 = (r : Int) := by rw [← hr, Int.tmod_eq_emod_of_nonneg (by omega)]; rfl
    have t2 : (i : Int) % 8 = (r : Int) := by rw [← hr]; rfl
    rw [hr] at hk m8 hw8
    clear hr
    by_cases hlt : k < r
    · have h3 : (k : Int) < (r : Int) := by omega
      have hst := Lib.hid (wt_step k)
      have hle : 128 / 2 ^ k ≤ 128 := Nat.div_le_self _ _
      generalize 128 / 2 ^ k = v at *
      obtain ⟨v2, hv2⟩ : ∃ v2, v / 2 = v2 := ⟨_, rfl⟩
      have t3 : (v : Int).tdiv 2 = (v2 : Int) := by rw [← hv2, Int.tdiv_eq_ediv_of_nonneg (by omega)]; rfl
      have t4 : (v : Int) / 2 = (v2 : Int) := by rw [← hv2]; rfl
      rw [hv2] at hst
      clear hv2
      go_wp2_with fail
      exact ⟨⟨k + 1, by omega, by go_num, by rw [← hst.out], trivial⟩, by simp [intOf]; omega⟩
    · have h3 : ¬ (k : Int) < (r : Int) := by omega
      obtain rfl : k = r := by omega
      rw [← hw8.out]
      generalize hv : wt i = v at *
      have HV := Lib.hid hv
      clear hv
      go_wp2_with fail
      go_ret
      exact ⟨by rw [HV.out]; rfl, rfl⟩

theorem weight_q (w : World) (k i : Nat) (hi : i ≤ 100000) :
    Calls Try.prog 23 #[.int .i64 (i : Int)] (w.drewN k) fun e w'' => e = .returned (.int .i64 (wt i : Int)) ∧ ∃ j, w'' = w.drewN j :=
  (weight_any (w.drewN k) i hi).mono fun _ _ h => ⟨h.1, k, h.2.symm⟩

set_option maxRecDepth 100000 in
set_option maxHeartbeats 1000000 in
theorem at_ref (w : World) (p : List UInt8) (hp : p.length = 32) (i : Nat) (hi : i < 256) :
    Calls Try.prog 16 #[.agg (bs p).toArray, .int .i64 (i : Int)] w fun e w' => e = .returned (.int .i64 (bitAt p i : Int)) ∧ Below w.heap.size w w' := by
  have hb0 := Blk.new w 23 (bs p)
  have hB0 : Below w.heap.size w (w.alloc (.cells (bs p).toArray 23)) := (Below.refl _ w).alloc (Nat.le_refl _) _
  have c0 := hb0.cell (bs_at p (i / 8) (by omega))
  have hwt := weight_q (w.alloc (.cells (bs p).toArray 23))
  have hpos := wt_pos i
  have hle := wt_le i
  obtain ⟨d, hd⟩ : ∃ d, i / 8 = d := ⟨_, rfl⟩
  have hd32 : (d : Int) < 32 := by omega
  have t1 : (i : Int).tdiv 8 = (d : Int) := by rw [← hd, Int.tdiv_eq_ediv_of_nonneg (by omega)]; rfl
  have t2 : (i : Int) / 8 = (d : Int) := by rw [← hd]; rfl
  have hbit := Lib.hid (show bitAt p i = (p.getD (i / 8) 0).toNat / wt i % 2 from rfl)
  rw [hd] at c0 hbit
  clear hd
  have hx := (p.getD d 0).toNat_lt
  generalize (p.getD d 0).toNat = x at *
  go_enter Try.func16, Try.ntmps16
  go_wp2_with fail
  have HW := Lib.hid (fun k => hwt k i (by omega))
  clear hwt
  generalize wt i = v at *
  obtain ⟨y, hy⟩ : ∃ y, x / v = y := ⟨_, rfl⟩
  have hyl : y ≤ x := by rw [← hy]; exact Nat.div_le_self _ _
  have t3 : (x : Int).tdiv (v : Int) = (y : Int) := by rw [← hy, Int.tdiv_eq_ediv_of_nonneg (by omega)]; rfl
  have t4 : (x : Int) / (v : Int) = (y : Int) := by rw [← hy]; rfl
  have hv0 : ¬ (v : Int) = 0 := by omega
  rw [hy] at hbit
  clear hy
  obtain ⟨z, hz⟩ : ∃ z, y % 2 = z := ⟨_, rfl⟩
  have t5 : (y : Int).tmod 2 = (z : Int) := by rw [← hz, Int.tmod_eq_emod_of_nonneg (by omega)]; rfl
  have t6 : (y : Int) % 2 = (z : Int) := by rw [← hz]; rfl
  rw [hz] at hbit
  clear hz
  have w1 : IntKind.i64.wrap (x : Int) = (x : Int) := IntWalk.i64_in _ (by omega)
  go_quiet ((go_at_call 23; exact HW.out _))
  go_wp2_with fail
  go_ret
  exact ⟨by rw [hbit.out]; rfl, ⟨hB0.os, hB0.tape, hB0.output, hB0.size, hB0.block⟩⟩

set_option maxRecDepth 100000 in
theorem bit_ref_no (w : World) (p : List UInt8) (i : Int) (hi : i < 0 ∨ 255 < i) :
    Calls Try.prog 10 #[.agg (bs p).toArray, .int .i64 i] w fun e w' => e = .returned (.tuple #[.int .i64 0, .int .i64 20]) ∧ Below w.heap.size w w' := by
  have hB0 : Below w.heap.size w (w.alloc (.cells (bs p).toArray 23)) := (Below.refl _ w).alloc (Nat.le_refl _) _
  by_cases h0 : i < 0
  · go_enter Try.func10, Try.ntmps10
    go_wp2_with fail
    go_ret2
    exact ⟨rfl, hB0⟩
  · have h1 : 255 < i := by omega
    go_enter Try.func10, Try.ntmps10
    go_wp2_with fail
    go_ret2
    exact ⟨rfl, hB0⟩

set_option maxRecDepth 100000 in
theorem bit_ref (w : World) (p : List UInt8) (hp : p.length = 32) (i : Nat) (hi : i < 256) :
    Calls Try.prog 10 #[.agg (bs p).toArray, .int .i64 (i : Int)] w fun e w' => e = .returned (.tuple #[.int .i64 (bitAt p i : Int), .int .i64 0]) ∧ Below w.heap.size w w' := by
  have hb0 := Blk.new w 23 (bs p)
  have hB0 : Below w.heap.size w (w.alloc (.cells (bs p).toArray 23)) := (Below.refl _ w).alloc (Nat.le_refl _) _
  have H5 := Lib.hid (show (Try.prog.info? 23).map (·.size) = some (bs p).length by rw [info_digest, bs_length, hp])
  have h0 : ¬ (i : Int) < 0 := by omega
  have h1 : ¬ (255 : Int) < i := by omega
  go_enter Try.func10, Try.ntmps10
  go_wp2_with ((with_reducible refine wpList_loadB (o := ⟨some 12, _, _, _, _, _⟩) ?_ 23 (.tmp 2) ?_ ?_ hb0 Try.underlying23 ?_ H5.out ?_); rfl; rfl; rfl; rfl)
  refine (at_ref _ p hp i hi).mono ?_
  rintro e w1 ⟨rfl, hB1⟩
  go_wp2_with fail
  go_ret2
  exact ⟨rfl, Bt hB0 hB1⟩

set_option maxRecDepth 100000 in
set_option maxHeartbeats 1000000 in
theorem common_ref (w : World) (p q : List UInt8) (hp : p.length = 32) (hq : q.length = 32) :
    Calls Try.prog 18 #[.agg (bs p).toArray, .agg (bs q).toArray] w fun e w' => e = .returned (.int .i64 (comm p q : Int)) ∧ Below w.heap.size w w' := by
  have H5 := Lib.hid (show (Try.prog.info? 23).map (·.size) = some (bs p).length by rw [info_digest, bs_length, hp])
  have H6 := Lib.hid (show (Try.prog.info? 23).map (·.size) = some (bs q).length by rw [info_digest, bs_length, hq])
  have hP := PairAt.start w p q
  go_enter Try.func18, Try.ntmps18
  go_wp2_with fail
  generalize (w.alloc _).alloc _ = w1 at *
  go_loopw [5] (fun t wr => ∃ n : Nat, n ≤ 256 ∧ t = .int .i64 n ∧ (∀ i, i < n → bitAt p i = bitAt q i) ∧ PairAt w wr p q) (fun t _ => 256 - (intOf t).toNat)
  case atStart => exact ⟨0, by omega, rfl, fun i h => absurd h (Nat.not_lt_zero i), hP⟩
  case round =>
    obtain ⟨n, hn, rfl, hsame, hS⟩ := hrel
    by_cases hlt : n < 256
    · have hlt' : (n : Int) < 256 := by omega
      have F1 := Lib.hid (fun W : World => at_ref W p hp n hlt)
      have F2 := Lib.hid (fun W : World => at_ref W q hq n hlt)
      have hU := Lib.hid (fun h : bitAt p n ≠ bitAt q n => comm_unique p q n hn hsame (fun _ => h))
      have hN := Lib.hid (fun h : bitAt p n = bitAt q n => (show ∀ i, i < n + 1 → bitAt p i = bitAt q i from fun i hi => by
        by_cases e : i = n
        · rw [e]; exact h
        · exact hsame i (by omega)))
      clear hsame
      generalize bitAt p n = x at F1 hU hN
      generalize bitAt q n = y at F2 hU hN
      by_cases hxy : x = y
      · have hxy' : (x : Int) = y := by omega
        -- REGION 2 8
        go_wp2_with fail
        refine wp_region_held_drew (S := fun W => PairAt w W p q) (by kernel_rfl) hS.drew (fun hHeld => ?_)
        refine wpAnyH_take (i := 0) (oi := ⟨some 6, .move (.tmp 5), _, _, _, none⟩) (v := ?_) rfl (by kernel_rfl) (by kernel_rfl) (by kernel_rfl) (fun _ _ _ h => h) (Or.inl ⟨by rfl, ?_⟩) hHeld ?_
        rotate_left
        · intro W _; go_simp; try with_reducible rfl
        try simp only [Act.put, List.setIfInBounds_toArray, List.set_cons_zero, List.set_cons_succ]
        refine wpAnyH_take (i := 1) (oi := ⟨some 7, .binOp .lss 3 (.tmp 6) (.const (.int .i64 256)) 3, _, _, _, none⟩) (v := ?_) rfl (by kernel_rfl) (by kernel_rfl) (by kernel_rfl) (fun _ _ _ h => h) (Or.inl ⟨by rfl, ?_⟩) hHeld ?_
        rotate_left
        · intro W _; go_simp; try with_reducible rfl
        try simp only [Act.put, List.setIfInBounds_toArray, List.set_cons_zero, List.set_cons_succ]
        refine wpAnyH_take (i := 2) (oi := ⟨some 8, .move (.tmp 7), _, _, _, none⟩) (v := ?_) rfl (by kernel_rfl) (by kernel_rfl) (by kernel_rfl) (fun _ _ _ h => h) (Or.inl ⟨by rfl, ?_⟩) hHeld ?_
        rotate_left
        · intro W _; go_simp; try with_reducible rfl
        try simp only [Act.put, List.setIfInBounds_toArray, List.set_cons_zero, List.set_cons_succ]
        refine wpAnyH_take (i := 3) (oi := ⟨some 9, .load 23 (.tmp 2), _, _, _, some (2, true)⟩) (v := .agg (bs p).toArray) rfl (by kernel_rfl) (by kernel_rfl) (by kernel_rfl) (fun _ _ _ h => h) (yieldsIf_load_mid (by rfl) _ _ rfl w.heap.size 0 rfl (bs p) _ (fun W h => h.b0.allR) Try.underlying23 rfl H5.out) hHeld ?_
        try simp only [Act.put, List.setIfInBounds_toArray, List.set_cons_zero, List.set_cons_succ]
        refine wpAnyH_take (i := 4) (oi := ⟨some 10, .move (.tmp 5), _, _, _, some (2, true)⟩) (v := ?_) rfl (by kernel_rfl) (by kernel_rfl) (by kernel_rfl) (fun _ _ _ h => h) (Or.inl ⟨by rfl, ?_⟩) hHeld ?_
        rotate_left
        · intro W _; go_simp; try with_reducible rfl
        try simp only [Act.put, List.setIfInBounds_toArray, List.set_cons_zero, List.set_cons_succ]
        refine wpAnyH_take (i := 6) (oi := ⟨some 12, .load 23 (.tmp 3), _, _, _, some (2, true)⟩) (v := .agg (bs q).toArray) rfl (by kernel_rfl) (by kernel_rfl) (by kernel_rfl) (fun _ _ _ h => h) (yieldsIf_load_mid (by rfl) _ _ rfl (w.heap.size + 1) 0 rfl (bs q) _ (fun W h => h.b1.allR) Try.underlying23 rfl H6.out) hHeld ?_
        try simp only [Act.put, List.setIfInBounds_toArray, List.set_cons_zero, List.set_cons_succ]
        refine wpAnyH_take (i := 7) (oi := ⟨some 13, .move (.tmp 5), _, _, _, some (2, true)⟩) (v := ?_) rfl (by kernel_rfl) (by kernel_rfl) (by kernel_rfl) (fun _ _ _ h => h) (Or.inl ⟨by rfl, ?_⟩) hHeld ?_
        rotate_left
        · intro W _; go_simp; try with_reducible rfl
        try simp only [Act.put, List.setIfInBounds_toArray, List.set_cons_zero, List.set_cons_succ]
        refine wpAnyH_ready (rs := [5]) (by kernel_rfl) (by simp) ?_
        refine AllReadyH.cons (o := ⟨some 11, .call { callee := .value (.func 16), args := #[.tmp 9, .tmp 10], argTypes := #[23, 3] }, _, _, _, some (2, true)⟩) rfl (fun K hK => ?_) AllReadyH.nil
        refine step_ofR (by rfl) ?_
        go_simp
        refine (F1.out _).mono ?_
        rintro e W1 ⟨rfl, hb1⟩
        refine hK.out _ _ (hHeld.below hb1) (fun hHeld => ?_)
        clear hK K
        try simp only [Act.put, List.setIfInBounds_toArray, List.set_cons_zero, List.set_cons_succ]
        refine wpAnyH_ready (rs := [8]) (by kernel_rfl) (by simp) ?_
        refine AllReadyH.cons (o := ⟨some 14, .call { callee := .value (.func 16), args := #[.tmp 12, .tmp 13], argTypes := #[23, 3] }, _, _, _, some (2, true)⟩) rfl (fun K hK => ?_) AllReadyH.nil
        refine step_ofR (by rfl) ?_
        go_simp
        refine (F2.out _).mono ?_
        rintro e W2 ⟨rfl, hb2⟩
        refine hK.out _ _ (hHeld.below hb2) (fun hHeld => ?_)
        clear hK K
        try simp only [Act.put, List.setIfInBounds_toArray, List.set_cons_zero, List.set_cons_succ]
        refine wpAnyH_take (i := 9) (oi := ⟨some 15, .binOp .eql 3 (.tmp 11) (.tmp 14) 3, _, _, _, some (2, true)⟩) (v := ?_) rfl (by kernel_rfl) (by kernel_rfl) (by kernel_rfl) (fun _ _ _ h => h) (Or.inl ⟨by rfl, ?_⟩) hHeld ?_
        rotate_left
        · intro W _; go_simp; try with_reducible rfl
        try simp only [Act.put, List.setIfInBounds_toArray, List.set_cons_zero, List.set_cons_succ]
        refine wpAnyH_take (i := 10) (oi := ⟨some 16, .pick (.tmp 8) (.tmp 15) (.const (.bool false)), _, _, _, none⟩) (v := ?_) rfl (by kernel_rfl) (by kernel_rfl) (by kernel_rfl) (fun _ _ _ h => h) (Or.inl ⟨by rfl, ?_⟩) hHeld ?_
        rotate_left
        · intro W _; go_simp; try with_reducible rfl
        try simp only [Act.put, List.setIfInBounds_toArray, List.set_cons_zero, List.set_cons_succ]
        refine wpAnyH_done (by kernel_rfl) ?_ _
        -- END 2 8
        go_wp2_with fail
        exact ⟨⟨n + 1, by omega, by go_num, hN.out hxy, hHeld⟩, by simp [intOf]; omega⟩
      · have hxy' : ¬ (x : Int) = y := by omega
        -- REGION 2 8
        go_wp2_with fail
        refine wp_region_held_drew (S := fun W => PairAt w W p q) (by kernel_rfl) hS.drew (fun hHeld => ?_)
        refine wpAnyH_take (i := 0) (oi := ⟨some 6, .move (.tmp 5), _, _, _, none⟩) (v := ?_) rfl (by kernel_rfl) (by kernel_rfl) (by kernel_rfl) (fun _ _ _ h => h) (Or.inl ⟨by rfl, ?_⟩) hHeld ?_
        rotate_left
        · intro W _; go_simp; try with_reducible rfl
        try simp only [Act.put, List.setIfInBounds_toArray, List.set_cons_zero, List.set_cons_succ]
        refine wpAnyH_take (i := 1) (oi := ⟨some 7, .binOp .lss 3 (.tmp 6) (.const (.int .i64 256)) 3, _, _, _, none⟩) (v := ?_) rfl (by kernel_rfl) (by kernel_rfl) (by kernel_rfl) (fun _ _ _ h => h) (Or.inl ⟨by rfl, ?_⟩) hHeld ?_
        rotate_left
        · intro W _; go_simp; try with_reducible rfl
        try simp only [Act.put, List.setIfInBounds_toArray, List.set_cons_zero, List.set_cons_succ]
        refine wpAnyH_take (i := 2) (oi := ⟨some 8, .move (.tmp 7), _, _, _, none⟩) (v := ?_) rfl (by kernel_rfl) (by kernel_rfl) (by kernel_rfl) (fun _ _ _ h => h) (Or.inl ⟨by rfl, ?_⟩) hHeld ?_
        rotate_left
        · intro W _; go_simp; try with_reducible rfl
        try simp only [Act.put, List.setIfInBounds_toArray, List.set_cons_zero, List.set_cons_succ]
        refine wpAnyH_take (i := 3) (oi := ⟨some 9, .load 23 (.tmp 2), _, _, _, some (2, true)⟩) (v := .agg (bs p).toArray) rfl (by kernel_rfl) (by kernel_rfl) (by kernel_rfl) (fun _ _ _ h => h) (yieldsIf_load_mid (by rfl) _ _ rfl w.heap.size 0 rfl (bs p) _ (fun W h => h.b0.allR) Try.underlying23 rfl H5.out) hHeld ?_
        try simp only [Act.put, List.setIfInBounds_toArray, List.set_cons_zero, List.set_cons_succ]
        refine wpAnyH_take (i := 4) (oi := ⟨some 10, .move (.tmp 5), _, _, _, some (2, true)⟩) (v := ?_) rfl (by kernel_rfl) (by kernel_rfl) (by kernel_rfl) (fun _ _ _ h => h) (Or.inl ⟨by rfl, ?_⟩) hHeld ?_
        rotate_left
        · intro W _; go_simp; try with_reducible rfl
        try simp only [Act.put, List.setIfInBounds_toArray, List.set_cons_zero, List.set_cons_succ]
        refine wpAnyH_take (i := 6) (oi := ⟨some 12, .load 23 (.tmp 3), _, _, _, some (2, true)⟩) (v := .agg (bs q).toArray) rfl (by kernel_rfl) (by kernel_rfl) (by kernel_rfl) (fun _ _ _ h => h) (yieldsIf_load_mid (by rfl) _ _ rfl (w.heap.size + 1) 0 rfl (bs q) _ (fun W h => h.b1.allR) Try.underlying23 rfl H6.out) hHeld ?_
        try simp only [Act.put, List.setIfInBounds_toArray, List.set_cons_zero, List.set_cons_succ]
        refine wpAnyH_take (i := 7) (oi := ⟨some 13, .move (.tmp 5), _, _, _, some (2, true)⟩) (v := ?_) rfl (by kernel_rfl) (by kernel_rfl) (by kernel_rfl) (fun _ _ _ h => h) (Or.inl ⟨by rfl, ?_⟩) hHeld ?_
        rotate_left
        · intro W _; go_simp; try with_reducible rfl
        try simp only [Act.put, List.setIfInBounds_toArray, List.set_cons_zero, List.set_cons_succ]
        refine wpAnyH_ready (rs := [5]) (by kernel_rfl) (by simp) ?_
        refine AllReadyH.cons (o := ⟨some 11, .call { callee := .value (.func 16), args := #[.tmp 9, .tmp 10], argTypes := #[23, 3] }, _, _, _, some (2, true)⟩) rfl (fun K hK => ?_) AllReadyH.nil
        refine step_ofR (by rfl) ?_
        go_simp
        refine (F1.out _).mono ?_
        rintro e W1 ⟨rfl, hb1⟩
        refine hK.out _ _ (hHeld.below hb1) (fun hHeld => ?_)
        clear hK K
        try simp only [Act.put, List.setIfInBounds_toArray, List.set_cons_zero, List.set_cons_succ]
        refine wpAnyH_ready (rs := [8]) (by kernel_rfl) (by simp) ?_
        refine AllReadyH.cons (o := ⟨some 14, .call { callee := .value (.func 16), args := #[.tmp 12, .tmp 13], argTypes := #[23, 3] }, _, _, _, some (2, true)⟩) rfl (fun K hK => ?_) AllReadyH.nil
        refine step_ofR (by rfl) ?_
        go_simp
        refine (F2.out _).mono ?_
        rintro e W2 ⟨rfl, hb2⟩
        refine hK.out _ _ (hHeld.below hb2) (fun hHeld => ?_)
        clear hK K
        try simp only [Act.put, List.setIfInBounds_toArray, List.set_cons_zero, List.set_cons_succ]
        refine wpAnyH_take (i := 9) (oi := ⟨some 15, .binOp .eql 3 (.tmp 11) (.tmp 14) 3, _, _, _, some (2, true)⟩) (v := ?_) rfl (by kernel_rfl) (by kernel_rfl) (by kernel_rfl) (fun _ _ _ h => h) (Or.inl ⟨by rfl, ?_⟩) hHeld ?_
        rotate_left
        · intro W _; go_simp; try with_reducible rfl
        try simp only [Act.put, List.setIfInBounds_toArray, List.set_cons_zero, List.set_cons_succ]
        refine wpAnyH_take (i := 10) (oi := ⟨some 16, .pick (.tmp 8) (.tmp 15) (.const (.bool false)), _, _, _, none⟩) (v := ?_) rfl (by kernel_rfl) (by kernel_rfl) (by kernel_rfl) (fun _ _ _ h => h) (Or.inl ⟨by rfl, ?_⟩) hHeld ?_
        rotate_left
        · intro W _; go_simp; try with_reducible rfl
        try simp only [Act.put, List.setIfInBounds_toArray, List.set_cons_zero, List.set_cons_succ]
        refine wpAnyH_done (by kernel_rfl) ?_ _
        -- END 2 8
        go_wp2_with fail
        go_ret
        exact ⟨by rw [hU.out hxy]; rfl, hHeld.bel⟩
    · obtain rfl : n = 256 := by omega
      have hU := Lib.hid (comm_unique p q 256 hn hsame (fun h => absurd h (Nat.lt_irrefl _)))
      clear hsame
      rw [show ((256 : Nat) : Int) = 256 from rfl]
      go_wp2_with fail
      go_quiet (fail)
      go_wp2_with fail
      go_ret
      exact ⟨by rw [hU.out]; rfl, ⟨hS.bel.os, hS.bel.tape, hS.bel.output, hS.bel.size, hS.bel.block⟩⟩

set_option maxRecDepth 100000 in
set_option maxHeartbeats 1000000 in
theorem less_ref (w : World) (p q : List UInt8) (hp : p.length = 32) (hq : q.length = 32) :
    Calls Try.prog 20 #[.agg (bs p).toArray, .agg (bs q).toArray] w fun e w' => e = .returned (.bool (lessB p q)) ∧ Below w.heap.size w w' := by
  have H5 := Lib.hid (show (Try.prog.info? 23).map (·.size) = some (bs p).length by rw [info_digest, bs_length, hp])
  have H6 := Lib.hid (show (Try.prog.info? 23).map (·.size) = some (bs q).length by rw [info_digest, bs_length, hq])
  have hP := PairAt.start w p q
  have hb0 := hP.b0
  have hb1 := hP.b1
  have HC := Lib.hid (fun W : World => common_ref W p q hp hq)
  have HL := Lib.hid (show lessB p q = (decide (comm p q < 256) && decide (bitAt p (comm p q) = 0)) from rfl)
  have hle := comm_le p q
  have HA := Lib.hid (fun (W : World) (h : comm p q < 256) => at_ref W p hp (comm p q) h)
  generalize hn : comm p q = n at *
  have HN := Lib.hid hn
  clear hn
  generalize bitAt p n = x at *
  go_enter Try.func20, Try.ntmps20
  by_cases hlt : n < 256
  · have hlt' : (n : Int) < 256 := by omega
    go_wp2_with (first | ((with_reducible refine wpList_loadB (o := ⟨some 6, _, _, _, _, _⟩) ?_ 23 (.tmp 2) ?_ ?_ hb0 Try.underlying23 ?_ H5.out ?_); rfl; rfl; rfl; rfl) | ((with_reducible refine wpList_loadB (o := ⟨some 7, _, _, _, _, _⟩) ?_ 23 (.tmp 3) ?_ ?_ hb1 Try.underlying23 ?_ H6.out ?_); rfl; rfl; rfl; rfl))
    refine (HC.out _).mono ?_
    rintro e w1 ⟨rfl, hB1⟩
    have hQ := hP.below hB1
    have hc0 := hQ.b0
    go_wp2_with ((with_reducible refine wpList_loadR (o := ⟨some 12, _, _, _, _, _⟩) ?_ 23 (.tmp 2) ?_ ?_ hc0 Try.underlying23 ?_ H5.out ?_); rfl; rfl; rfl; rfl)
    refine (HA.out _ hlt).mono ?_
    rintro e w2 ⟨rfl, hB2⟩
    by_cases hx0 : x = 0
    · subst hx0
      go_wp2_with fail
      go_ret
      exact ⟨by rw [HL.out]; simp [hlt], (hQ.below hB2).bel⟩
    · have hx1 : ¬ (x : Int) = 0 := by omega
      go_wp2_with fail
      go_ret
      exact ⟨by rw [HL.out]; simp [hlt, hx0], (hQ.below hB2).bel⟩
  · have hlt' : ¬ (n : Int) < 256 := by omega
    go_wp2_with (first | ((with_reducible refine wpList_loadB (o := ⟨some 6, _, _, _, _, _⟩) ?_ 23 (.tmp 2) ?_ ?_ hb0 Try.underlying23 ?_ H5.out ?_); rfl; rfl; rfl; rfl) | ((with_reducible refine wpList_loadB (o := ⟨some 7, _, _, _, _, _⟩) ?_ 23 (.tmp 3) ?_ ?_ hb1 Try.underlying23 ?_ H6.out ?_); rfl; rfl; rfl; rfl))
    refine (HC.out _).mono ?_
    rintro e w1 ⟨rfl, hB1⟩
    go_wp2_with fail
    go_ret
    exact ⟨by rw [HL.out]; simp [hlt], (hP.below hB1).bel⟩


set_option maxRecDepth 100000 in
set_option maxHeartbeats 1000000 in
theorem with_ref_no (w : World) (p : List UInt8) (i b : Int) (hi : i < 0 ∨ 255 < i) :
    Calls Try.prog 15 #[.agg (bs p).toArray, .int .i64 i, .int .i64 b] w fun e w' => e = .returned (.tuple #[.agg (bs zero32).toArray, .int .i64 20]) ∧ Below w.heap.size w w' := by
  have H5 := Lib.hid (show (Try.prog.info? 23).map (·.size) = some (bs zero32).length by rw [info_digest, bs_length, zero32_length])
  have H7 := bs_one zero32
  have HBT := Lib.hid built0
  have hd : (decide (i < 0) || decide (255 < i)) = true := by simp; omega
  by_cases h0 : i < 0
  case' pos =>
    go_enter Try.func15, Try.ntmps15
  case' neg =>
    have h1 : 255 < i := by omega
    go_enter Try.func15, Try.ntmps15
  all_goals
    go_wp2_with (first | ((with_reducible refine wpList_allocB (o := ⟨some 6, _, _, _, _, _⟩) ?_ 23 ?_ zeroD_info ?_); rfl; rfl; intro w0 hr0 hg0 hz0; have hS := OneAt.start w p hr0 hg0; have hr := hS.b1) | ((with_reducible refine wpList_buildI (dst := some 14) HBT.out ?_ ?_); rfl) | ((with_reducible refine wpList_storeB (o := ⟨none, .store 23 (.tmp 6) (.tmp 14), _, _, _, _⟩) ?_ 23 (.tmp 6) (.tmp 14) ?_ ?_ ?_ hr H5.out rfl H7 ?_); rfl; rfl; rfl; rfl; intro w8 hb8 hg8 hz8))
    try simp only [Exit.inBlock, Exit.then]
    refine bodyPost_ret (results_digest2 rfl _ _ _ _ _ zero32_length rfl hb8.at_) rfl ⟨rfl, ?_⟩
    exact hS.bel.grown hg8 (by have := hS.bel.size; omega) (fun k e => by cases e; omega)

set_option maxRecDepth 100000 in
set_option maxHeartbeats 1000000 in
theorem with_ref_arg (w : World) (p : List UInt8) (i b : Int) (hi : 0 ≤ i ∧ i ≤ 255) (hb : b ≠ 0 ∧ b ≠ 1) :
    Calls Try.prog 15 #[.agg (bs p).toArray, .int .i64 i, .int .i64 b] w fun e w' => e = .returned (.tuple #[.agg (bs zero32).toArray, .int .i64 1]) ∧ Below w.heap.size w w' := by
  have H5 := Lib.hid (show (Try.prog.info? 23).map (·.size) = some (bs zero32).length by rw [info_digest, bs_length, zero32_length])
  have H7 := bs_one zero32
  have HBT := Lib.hid built0
  have h0 : ¬ i < 0 := by omega
  have h1 : ¬ 255 < i := by omega
  have hb0 : (b != 0) = true := by simpa using hb.1
  have hb1 : (b != 1) = true := by simpa using hb.2
  clear hi hb
  go_enter Try.func15, Try.ntmps15
  go_wp2_with (first | ((with_reducible refine wpList_allocB (o := ⟨some 6, _, _, _, _, _⟩) ?_ 23 ?_ zeroD_info ?_); rfl; rfl; intro w0 hr0 hg0 hz0; have hS := OneAt.start w p hr0 hg0; have hr := hS.b1) | ((with_reducible refine wpList_buildI (dst := some 21) HBT.out ?_ ?_); rfl) | ((with_reducible refine wpList_storeB (o := ⟨none, .store 23 (.tmp 6) (.tmp 21), _, _, _, _⟩) ?_ 23 (.tmp 6) (.tmp 21) ?_ ?_ ?_ hr H5.out rfl H7 ?_); rfl; rfl; rfl; rfl; intro w8 hb8 hg8 hz8))
  try simp only [Exit.inBlock, Exit.then]
  refine bodyPost_ret (results_digest2 rfl _ _ _ _ _ zero32_length rfl hb8.at_) rfl ⟨rfl, ?_⟩
  exact hS.bel.grown hg8 (by have := hS.bel.size; omega) (fun k e => by cases e; omega)

set_option maxRecDepth 100000 in
set_option maxHeartbeats 2000000 in
theorem with_ref (w : World) (p : List UInt8) (hp : p.length = 32) (i : Nat) (hi : i < 256) (b : Nat) (hb : b < 2) :
    Calls Try.prog 15 #[.agg (bs p).toArray, .int .i64 (i : Int), .int .i64 (b : Int)] w fun e w' => e = .returned (.tuple #[.agg (bs (withBit p i b)).toArray, .int .i64 0]) ∧ Below w.heap.size w w' := by
  have h0 : ¬ (i : Int) < 0 := by omega
  have h1 : ¬ (255 : Int) < i := by omega
  have hW := Lib.hid (show withBit p i b = p.set (i / 8) (UInt8.ofNat ((p.getD (i / 8) 0).toNat + b * wt i - bitAt p i * wt i)) from rfl)
  obtain ⟨f1, f2⟩ := with_fits p i b hb
  have HA := Lib.hid (fun W : World => at_ref W p hp i hi)
  have HG := Lib.hid (fun W : World => weight_any W i (by omega))
  have H5 := Lib.hid (show (Try.prog.info? 23).map (·.size) = some (bs p).length by rw [info_digest, bs_length, hp])
  have HC := Lib.hid (bs_at p (i / 8) (by omega))
  have hxl := (p.getD (i / 8) 0).toNat_lt
  have hbl := bitAt_lt p i
  have hwl := wt_le i
  obtain ⟨d, hd⟩ : ∃ d, i / 8 = d := ⟨_, rfl⟩
  have hd32 : (d : Int) < 32 := by omega
  have t1 : (i : Int).tdiv 8 = (d : Int) := by rw [← hd, Int.tdiv_eq_ediv_of_nonneg (by omega)]; rfl
  have t2 : (i : Int) / 8 = (d : Int) := by rw [← hd]; rfl
  rw [hd] at hW f1 f2 HC hxl
  clear hd
  have hwl2 := withBit_length p i b
  generalize hwb : withBit p i b = q at *
  have HWB := Lib.hid hwb
  clear hwb
  generalize bitAt p i = x at *
  generalize wt i = v at *
  generalize (p.getD d 0).toNat = X at *
  obtain ⟨s, hs⟩ : ∃ s : Int, (b : Int) - (x : Int) = s := ⟨_, rfl⟩
  obtain ⟨m, hm⟩ : ∃ m : Int, s * (v : Int) = m := ⟨_, rfl⟩
  obtain ⟨r, hr⟩ : ∃ r : Nat, X + b * v - x * v = r := ⟨_, rfl⟩
  have hxv : x * v ≤ 128 := by
    rcases (by omega : x = 0 ∨ x = 1) with rfl | rfl <;> omega
  have hbv : b * v ≤ 128 := by
    rcases (by omega : b = 0 ∨ b = 1) with rfl | rfl <;> omega
  have hmE : m = ((b * v : Nat) : Int) - ((x * v : Nat) : Int) := by
    rw [← hm, ← hs, Int.sub_mul, Int.natCast_mul, Int.natCast_mul]
  have e3 : (X : Int) + m = (r : Int) := by rw [hmE]; omega
  have hr256 : r < 256 := by omega
  have w1 : IntKind.i64.wrap s = s := IntWalk.i64_in _ (by omega)
  have w2 : IntKind.i64.wrap m = m := IntWalk.i64_in _ (by omega)
  have w3 : IntKind.i64.wrap (r : Int) = (r : Int) := IntWalk.i64_in _ (by omega)
  have w4 : IntKind.u8.wrap (r : Int) = (r : Int) := by rw [IntKind.wrap_u8']; omega
  have w5 : IntKind.i64.wrap (X : Int) = (X : Int) := IntWalk.i64_in _ (by omega)
  have w6 : IntKind.i64.wrap (d : Int) = (d : Int) := IntWalk.i64_in _ (by omega)
  rw [hr] at hW f2
  clear hmE hr hxv hbv f1
  have hql : q.length = 32 := by rw [hwl2, hp]
  have hSET := Lib.hid (fun (W : World) (h : OneAt w W p zero32) => h.set d r (by omega))
  rw [← hW.out] at hSET
  clear f2 hr256
  have H6 := Lib.hid (show (Try.prog.info? 23).map (·.size) = some (bs q).length by rw [info_digest, bs_length, hql])
  have H8 := Lib.hid (show (bs zero32).length = (bs q).length by rw [bs_length, bs_length, zero32_length, hql])
  have H9 := bs_one q
  rcases (by omega : b = 0 ∨ b = 1) with rfl | rfl
  case' inl => rw [show ((0 : Nat) : Int) = 0 from rfl] at hs ⊢
  case' inr => rw [show ((1 : Nat) : Int) = 1 from rfl] at hs ⊢
  all_goals
    clear hb hwl2 hW
    go_enter Try.func15, Try.ntmps15
    go_wp2_with ((with_reducible refine wpList_allocB (o := ⟨some 6, _, _, _, _, _⟩) ?_ 23 ?_ zeroD_info ?_); rfl; rfl; intro w0 hr0 hg0 hz0; have hS := OneAt.start w p hr0 hg0; have hr := hS.b1)
    clear hr0 hg0 hz0 hr
    -- REGION 5 4
    replace hS := hS.drew
    refine wp_region_any (by kernel_rfl) ?_
    change wpAny _ _ _ _ _ _ _ (World.drew _)
    refine wpAny_take (i := 0) (oi := ⟨some 22, .move (.tmp 1), _, _, _, none⟩) (v := ?_) rfl (by kernel_rfl) (by kernel_rfl) (by kernel_rfl) (fun _ _ _ h => h) (Or.inl ⟨by rfl, ?_⟩) ?_
    rotate_left
    · intro W; go_simp; try with_reducible rfl
    try simp only [Act.put, List.setIfInBounds_toArray, List.set_cons_zero, List.set_cons_succ]
    refine wpAny_take (i := 1) (oi := ⟨some 23, .binOp .quo 3 (.tmp 22) (.const (.int .i64 8)) 3, _, _, _, none⟩) (v := ?_) rfl (by kernel_rfl) (by kernel_rfl) (by kernel_rfl) (fun _ _ _ h => h) (Or.inl ⟨by rfl, ?_⟩) ?_
    rotate_left
    · intro W; go_simp; try with_reducible rfl
    try simp only [Act.put, List.setIfInBounds_toArray, List.set_cons_zero, List.set_cons_succ]
    refine wpAny_take (i := 2) (oi := ⟨some 24, .move (.tmp 1), _, _, _, none⟩) (v := ?_) rfl (by kernel_rfl) (by kernel_rfl) (by kernel_rfl) (fun _ _ _ h => h) (Or.inl ⟨by rfl, ?_⟩) ?_
    rotate_left
    · intro W; go_simp; try with_reducible rfl
    try simp only [Act.put, List.setIfInBounds_toArray, List.set_cons_zero, List.set_cons_succ]
    refine wpAny_take (i := 3) (oi := ⟨some 25, .binOp .quo 3 (.tmp 24) (.const (.int .i64 8)) 3, _, _, _, none⟩) (v := ?_) rfl (by kernel_rfl) (by kernel_rfl) (by kernel_rfl) (fun _ _ _ h => h) (Or.inl ⟨by rfl, ?_⟩) ?_
    rotate_left
    · intro W; go_simp; try with_reducible rfl
    try simp only [Act.put, List.setIfInBounds_toArray, List.set_cons_zero, List.set_cons_succ]
    refine wpAny_take (i := 4) (oi := ⟨some 26, .indexAddr 23 (.tmp 3) (.tmp 25), _, _, _, none⟩) (v := ?_) rfl (by kernel_rfl) (by kernel_rfl) (by kernel_rfl) (fun _ _ _ h => h) (Or.inl ⟨by rfl, ?_⟩) ?_
    rotate_left
    · intro W; go_simp; try with_reducible rfl
    try simp only [Act.put, List.setIfInBounds_toArray, List.set_cons_zero, List.set_cons_succ]
    refine wpAny_take (i := 7) (oi := ⟨some 29, .move (.tmp 2), _, _, _, none⟩) (v := ?_) rfl (by kernel_rfl) (by kernel_rfl) (by kernel_rfl) (fun _ _ _ h => h) (Or.inl ⟨by rfl, ?_⟩) ?_
    rotate_left
    · intro W; go_simp; try with_reducible rfl
    try simp only [Act.put, List.setIfInBounds_toArray, List.set_cons_zero, List.set_cons_succ]
    refine wpAny_take (i := 9) (oi := ⟨some 31, .move (.tmp 1), _, _, _, none⟩) (v := ?_) rfl (by kernel_rfl) (by kernel_rfl) (by kernel_rfl) (fun _ _ _ h => h) (Or.inl ⟨by rfl, ?_⟩) ?_
    rotate_left
    · intro W; go_simp; try with_reducible rfl
    try simp only [Act.put, List.setIfInBounds_toArray, List.set_cons_zero, List.set_cons_succ]
    refine wpAny_take (i := 12) (oi := ⟨some 34, .move (.tmp 1), _, _, _, none⟩) (v := ?_) rfl (by kernel_rfl) (by kernel_rfl) (by kernel_rfl) (fun _ _ _ h => h) (Or.inl ⟨by rfl, ?_⟩) ?_
    rotate_left
    · intro W; go_simp; try with_reducible rfl
    try simp only [Act.put, List.setIfInBounds_toArray, List.set_cons_zero, List.set_cons_succ]
    refine wpAny_ready (rs := [5, 8]) (by kernel_rfl) (by simp) ?_
    refine AllReady.cons (o := ⟨some 27, .load 5 (.tmp 26), _, _, _, none⟩) rfl (fun K hK => ?_) (AllReady.cons (o := ⟨some 30, .load 23 (.tmp 3), _, _, _, none⟩) rfl (fun K hK => ?_) AllReady.nil)
    · refine step_ofR (by rfl) ?_
      have c0 := hS.b0.cell HC.out
      go_simp
      refine hK _ _ ?_
      clear hK K
      try simp only [Act.put, List.setIfInBounds_toArray, List.set_cons_zero, List.set_cons_succ]
      refine wpAny_take (i := 6) (oi := ⟨some 28, .convert 5 3 (.tmp 27), _, _, _, none⟩) (v := ?_) rfl (by kernel_rfl) (by kernel_rfl) (by kernel_rfl) (fun _ _ _ h => h) (Or.inl ⟨by rfl, ?_⟩) ?_
      rotate_left
      · intro W; go_simp; try with_reducible rfl
      try simp only [Act.put, List.setIfInBounds_toArray, List.set_cons_zero, List.set_cons_succ]
      refine wpAny_ready (rs := [8]) (by kernel_rfl) (by simp) ?_
      refine AllReady.cons (o := ⟨some 30, .load 23 (.tmp 3), _, _, _, none⟩) rfl (fun K hK => ?_) AllReady.nil
      refine step_ofR (by rfl) ?_
      refine wp_load_mid 23 (.tmp 3) rfl w.heap.size 0 rfl (bs p) _ hS.b0.allR Try.underlying23 rfl H5.out ?_
      refine hK _ _ ?_
      clear hK K
      try simp only [Act.put, List.setIfInBounds_toArray, List.set_cons_zero, List.set_cons_succ]
      refine wpAny_ready (rs := [10]) (by kernel_rfl) (by simp) ?_
      refine AllReady.cons (o := ⟨some 32, .call { callee := .value (.func 16), args := #[.tmp 30, .tmp 31], argTypes := #[23, 3] }, _, _, _, none⟩) rfl (fun K hK => ?_) AllReady.nil
      refine step_ofR (by rfl) ?_
      go_simp
      refine (HA.out _).mono ?_
      rintro e W1 ⟨rfl, hb1⟩
      replace hS := hS.below hb1
      refine hK _ _ ?_
      clear hK K
      try simp only [Act.put, List.setIfInBounds_toArray, List.set_cons_zero, List.set_cons_succ]
      refine wpAny_take (i := 11) (oi := ⟨some 33, .binOp .sub 3 (.tmp 29) (.tmp 32) 3, _, _, _, none⟩) (v := ?_) rfl (by kernel_rfl) (by kernel_rfl) (by kernel_rfl) (fun _ _ _ h => h) (Or.inl ⟨by rfl, ?_⟩) ?_
      rotate_left
      · intro W; go_simp; try with_reducible rfl
      try simp only [Act.put, List.setIfInBounds_toArray, List.set_cons_zero, List.set_cons_succ]
      refine wpAny_ready (rs := [13]) (by kernel_rfl) (by simp) ?_
      refine AllReady.cons (o := ⟨some 35, .call { callee := .value (.func 23), args := #[.tmp 34], argTypes := #[3] }, _, _, _, none⟩) rfl (fun K hK => ?_) AllReady.nil
      refine step_ofR (by rfl) ?_
      go_simp
      refine (HG.out _).mono ?_
      rintro e W2 ⟨rfl, rfl⟩
      refine hK _ _ ?_
      clear hK K
      try simp only [Act.put, List.setIfInBounds_toArray, List.set_cons_zero, List.set_cons_succ]
      refine wpAny_take (i := 14) (oi := ⟨some 36, .binOp .mul 3 (.tmp 33) (.tmp 35) 3, _, _, _, none⟩) (v := ?_) rfl (by kernel_rfl) (by kernel_rfl) (by kernel_rfl) (fun _ _ _ h => h) (Or.inl ⟨by rfl, ?_⟩) ?_
      rotate_left
      · intro W; go_simp; try with_reducible rfl
      try simp only [Act.put, List.setIfInBounds_toArray, List.set_cons_zero, List.set_cons_succ]
      refine wpAny_take (i := 15) (oi := ⟨some 37, .binOp .add 3 (.tmp 28) (.tmp 36) 3, _, _, _, none⟩) (v := ?_) rfl (by kernel_rfl) (by kernel_rfl) (by kernel_rfl) (fun _ _ _ h => h) (Or.inl ⟨by rfl, ?_⟩) ?_
      rotate_left
      · intro W; go_simp; try with_reducible rfl
      try simp only [Act.put, List.setIfInBounds_toArray, List.set_cons_zero, List.set_cons_succ]
      refine wpAny_take (i := 16) (oi := ⟨some 38, .convert 3 5 (.tmp 37), _, _, _, none⟩) (v := ?_) rfl (by kernel_rfl) (by kernel_rfl) (by kernel_rfl) (fun _ _ _ h => h) (Or.inl ⟨by rfl, ?_⟩) ?_
      rotate_left
      · intro W; go_simp; try with_reducible rfl
      try simp only [Act.put, List.setIfInBounds_toArray, List.set_cons_zero, List.set_cons_succ]
      refine wpAny_take (i := 17) (oi := ⟨some 39, .indexAddr 23 (.tmp 3) (.tmp 23), _, _, _, none⟩) (v := ?_) rfl (by kernel_rfl) (by kernel_rfl) (by kernel_rfl) (fun _ _ _ h => h) (Or.inl ⟨by rfl, ?_⟩) ?_
      rotate_left
      · intro W; go_simp; try with_reducible rfl
      try simp only [Act.put, List.setIfInBounds_toArray, List.set_cons_zero, List.set_cons_succ]
      refine wpAny_ready (rs := [18]) (by kernel_rfl) (by simp) ?_
      refine AllReady.cons (o := ⟨none, .store 5 (.tmp 39) (.tmp 38), _, _, _, none⟩) rfl (fun K hK => ?_) AllReady.nil
      refine step_ofR (by rfl) ?_
      have c0 := hS.b0.cell HC.out
      have f0 := hS.b0.free d
      have hQ := hSET.out _ hS
      go_simp
      refine hK _ _ ?_
      clear hK K
      try simp only [Act.put, List.setIfInBounds_toArray, List.set_cons_zero, List.set_cons_succ]
      refine wpAny_done (by kernel_rfl) ?_ _
      have hb0 := hQ.b0
      have hb1 := hQ.b1
      go_wp2_with (first | ((with_reducible refine wpList_loadB (o := ⟨some 40, _, _, _, _, _⟩) ?_ 23 (.tmp 3) ?_ ?_ hb0 Try.underlying23 ?_ H6.out ?_); rfl; rfl; rfl; rfl) | ((with_reducible refine wpList_storeB (o := ⟨none, .store 23 (.tmp 6) (.tmp 40), _, _, _, _⟩) ?_ 23 (.tmp 6) (.tmp 40) ?_ ?_ ?_ hb1 H6.out H8.out H9 ?_); rfl; rfl; rfl; rfl; intro w8 hb8 hg8 hz8))
      try simp only [Exit.inBlock, Exit.then]
      refine bodyPost_ret (results_digest2 rfl _ _ _ _ _ hql rfl hb8.at_) rfl ⟨rfl, ?_⟩
      exact hQ.bel.grown hg8 (by have := hQ.bel.size; omega) (fun k e => by cases e; omega)
    · refine step_ofR (by rfl) ?_
      refine wp_load_mid 23 (.tmp 3) rfl w.heap.size 0 rfl (bs p) _ hS.b0.allR Try.underlying23 rfl H5.out ?_
      refine hK _ _ ?_
      clear hK K
      try simp only [Act.put, List.setIfInBounds_toArray, List.set_cons_zero, List.set_cons_succ]
      refine wpAny_ready (rs := [5, 10]) (by kernel_rfl) (by simp) ?_
      refine AllReady.cons (o := ⟨some 27, .load 5 (.tmp 26), _, _, _, none⟩) rfl (fun K hK => ?_) (AllReady.cons (o := ⟨some 32, .call { callee := .value (.func 16), args := #[.tmp 30, .tmp 31], argTypes := #[23, 3] }, _, _, _, none⟩) rfl (fun K hK => ?_) AllReady.nil)
      · refine step_ofR (by rfl) ?_
        have c0 := hS.b0.cell HC.out
        go_simp
        refine hK _ _ ?_
        clear hK K
        try simp only [Act.put, List.setIfInBounds_toArray, List.set_cons_zero, List.set_cons_succ]
        refine wpAny_take (i := 6) (oi := ⟨some 28, .convert 5 3 (.tmp 27), _, _, _, none⟩) (v := ?_) rfl (by kernel_rfl) (by kernel_rfl) (by kernel_rfl) (fun _ _ _ h => h) (Or.inl ⟨by rfl, ?_⟩) ?_
        rotate_left
        · intro W; go_simp; try with_reducible rfl
        try simp only [Act.put, List.setIfInBounds_toArray, List.set_cons_zero, List.set_cons_succ]
        refine wpAny_ready (rs := [10]) (by kernel_rfl) (by simp) ?_
        refine AllReady.cons (o := ⟨some 32, .call { callee := .value (.func 16), args := #[.tmp 30, .tmp 31], argTypes := #[23, 3] }, _, _, _, none⟩) rfl (fun K hK => ?_) AllReady.nil
        refine step_ofR (by rfl) ?_
        go_simp
        refine (HA.out _).mono ?_
        rintro e W1 ⟨rfl, hb1⟩
        replace hS := hS.below hb1
        refine hK _ _ ?_
        clear hK K
        try simp only [Act.put, List.setIfInBounds_toArray, List.set_cons_zero, List.set_cons_succ]
        refine wpAny_take (i := 11) (oi := ⟨some 33, .binOp .sub 3 (.tmp 29) (.tmp 32) 3, _, _, _, none⟩) (v := ?_) rfl (by kernel_rfl) (by kernel_rfl) (by kernel_rfl) (fun _ _ _ h => h) (Or.inl ⟨by rfl, ?_⟩) ?_
        rotate_left
        · intro W; go_simp; try with_reducible rfl
        try simp only [Act.put, List.setIfInBounds_toArray, List.set_cons_zero, List.set_cons_succ]
        refine wpAny_ready (rs := [13]) (by kernel_rfl) (by simp) ?_
        refine AllReady.cons (o := ⟨some 35, .call { callee := .value (.func 23), args := #[.tmp 34], argTypes := #[3] }, _, _, _, none⟩) rfl (fun K hK => ?_) AllReady.nil
        refine step_ofR (by rfl) ?_
        go_simp
        refine (HG.out _).mono ?_
        rintro e W2 ⟨rfl, rfl⟩
        refine hK _ _ ?_
        clear hK K
        try simp only [Act.put, List.setIfInBounds_toArray, List.set_cons_zero, List.set_cons_succ]
        refine wpAny_take (i := 14) (oi := ⟨some 36, .binOp .mul 3 (.tmp 33) (.tmp 35) 3, _, _, _, none⟩) (v := ?_) rfl (by kernel_rfl) (by kernel_rfl) (by kernel_rfl) (fun _ _ _ h => h) (Or.inl ⟨by rfl, ?_⟩) ?_
        rotate_left
        · intro W; go_simp; try with_reducible rfl
        try simp only [Act.put, List.setIfInBounds_toArray, List.set_cons_zero, List.set_cons_succ]
        refine wpAny_take (i := 15) (oi := ⟨some 37, .binOp .add 3 (.tmp 28) (.tmp 36) 3, _, _, _, none⟩) (v := ?_) rfl (by kernel_rfl) (by kernel_rfl) (by kernel_rfl) (fun _ _ _ h => h) (Or.inl ⟨by rfl, ?_⟩) ?_
        rotate_left
        · intro W; go_simp; try with_reducible rfl
        try simp only [Act.put, List.setIfInBounds_toArray, List.set_cons_zero, List.set_cons_succ]
        refine wpAny_take (i := 16) (oi := ⟨some 38, .convert 3 5 (.tmp 37), _, _, _, none⟩) (v := ?_) rfl (by kernel_rfl) (by kernel_rfl) (by kernel_rfl) (fun _ _ _ h => h) (Or.inl ⟨by rfl, ?_⟩) ?_
        rotate_left
        · intro W; go_simp; try with_reducible rfl
        try simp only [Act.put, List.setIfInBounds_toArray, List.set_cons_zero, List.set_cons_succ]
        refine wpAny_take (i := 17) (oi := ⟨some 39, .indexAddr 23 (.tmp 3) (.tmp 23), _, _, _, none⟩) (v := ?_) rfl (by kernel_rfl) (by kernel_rfl) (by kernel_rfl) (fun _ _ _ h => h) (Or.inl ⟨by rfl, ?_⟩) ?_
        rotate_left
        · intro W; go_simp; try with_reducible rfl
        try simp only [Act.put, List.setIfInBounds_toArray, List.set_cons_zero, List.set_cons_succ]
        refine wpAny_ready (rs := [18]) (by kernel_rfl) (by simp) ?_
        refine AllReady.cons (o := ⟨none, .store 5 (.tmp 39) (.tmp 38), _, _, _, none⟩) rfl (fun K hK => ?_) AllReady.nil
        refine step_ofR (by rfl) ?_
        have c0 := hS.b0.cell HC.out
        have f0 := hS.b0.free d
        have hQ := hSET.out _ hS
        go_simp
        refine hK _ _ ?_
        clear hK K
        try simp only [Act.put, List.setIfInBounds_toArray, List.set_cons_zero, List.set_cons_succ]
        refine wpAny_done (by kernel_rfl) ?_ _
        have hb0 := hQ.b0
        have hb1 := hQ.b1
        go_wp2_with (first | ((with_reducible refine wpList_loadB (o := ⟨some 40, _, _, _, _, _⟩) ?_ 23 (.tmp 3) ?_ ?_ hb0 Try.underlying23 ?_ H6.out ?_); rfl; rfl; rfl; rfl) | ((with_reducible refine wpList_storeB (o := ⟨none, .store 23 (.tmp 6) (.tmp 40), _, _, _, _⟩) ?_ 23 (.tmp 6) (.tmp 40) ?_ ?_ ?_ hb1 H6.out H8.out H9 ?_); rfl; rfl; rfl; rfl; intro w8 hb8 hg8 hz8))
        try simp only [Exit.inBlock, Exit.then]
        refine bodyPost_ret (results_digest2 rfl _ _ _ _ _ hql rfl hb8.at_) rfl ⟨rfl, ?_⟩
        exact hQ.bel.grown hg8 (by have := hQ.bel.size; omega) (fun k e => by cases e; omega)
      · refine step_ofR (by rfl) ?_
        go_simp
        refine (HA.out _).mono ?_
        rintro e W1 ⟨rfl, hb1⟩
        replace hS := hS.below hb1
        refine hK _ _ ?_
        clear hK K
        try simp only [Act.put, List.setIfInBounds_toArray, List.set_cons_zero, List.set_cons_succ]
        refine wpAny_take (i := 11) (oi := ⟨some 33, .binOp .sub 3 (.tmp 29) (.tmp 32) 3, _, _, _, none⟩) (v := ?_) rfl (by kernel_rfl) (by kernel_rfl) (by kernel_rfl) (fun _ _ _ h => h) (Or.inl ⟨by rfl, ?_⟩) ?_
        rotate_left
        · intro W; go_simp; try with_reducible rfl
        try simp only [Act.put, List.setIfInBounds_toArray, List.set_cons_zero, List.set_cons_succ]
        refine wpAny_ready (rs := [5, 13]) (by kernel_rfl) (by simp) ?_
        refine AllReady.cons (o := ⟨some 27, .load 5 (.tmp 26), _, _, _, none⟩) rfl (fun K hK => ?_) (AllReady.cons (o := ⟨some 35, .call { callee := .value (.func 23), args := #[.tmp 34], argTypes := #[3] }, _, _, _, none⟩) rfl (fun K hK => ?_) AllReady.nil)
        · refine step_ofR (by rfl) ?_
          have c0 := hS.b0.cell HC.out
          go_simp
          refine hK _ _ ?_
          clear hK K
          try simp only [Act.put, List.setIfInBounds_toArray, List.set_cons_zero, List.set_cons_succ]
          refine wpAny_take (i := 6) (oi := ⟨some 28, .convert 5 3 (.tmp 27), _, _, _, none⟩) (v := ?_) rfl (by kernel_rfl) (by kernel_rfl) (by kernel_rfl) (fun _ _ _ h => h) (Or.inl ⟨by rfl, ?_⟩) ?_
          rotate_left
          · intro W; go_simp; try with_reducible rfl
          try simp only [Act.put, List.setIfInBounds_toArray, List.set_cons_zero, List.set_cons_succ]
          refine wpAny_ready (rs := [13]) (by kernel_rfl) (by simp) ?_
          refine AllReady.cons (o := ⟨some 35, .call { callee := .value (.func 23), args := #[.tmp 34], argTypes := #[3] }, _, _, _, none⟩) rfl (fun K hK => ?_) AllReady.nil
          refine step_ofR (by rfl) ?_
          go_simp
          refine (HG.out _).mono ?_
          rintro e W2 ⟨rfl, rfl⟩
          refine hK _ _ ?_
          clear hK K
          try simp only [Act.put, List.setIfInBounds_toArray, List.set_cons_zero, List.set_cons_succ]
          refine wpAny_take (i := 14) (oi := ⟨some 36, .binOp .mul 3 (.tmp 33) (.tmp 35) 3, _, _, _, none⟩) (v := ?_) rfl (by kernel_rfl) (by kernel_rfl) (by kernel_rfl) (fun _ _ _ h => h) (Or.inl ⟨by rfl, ?_⟩) ?_
          rotate_left
          · intro W; go_simp; try with_reducible rfl
          try simp only [Act.put, List.setIfInBounds_toArray, List.set_cons_zero, List.set_cons_succ]
          refine wpAny_take (i := 15) (oi := ⟨some 37, .binOp .add 3 (.tmp 28) (.tmp 36) 3, _, _, _, none⟩) (v := ?_) rfl (by kernel_rfl) (by kernel_rfl) (by kernel_rfl) (fun _ _ _ h => h) (Or.inl ⟨by rfl, ?_⟩) ?_
          rotate_left
          · intro W; go_simp; try with_reducible rfl
          try simp only [Act.put, List.setIfInBounds_toArray, List.set_cons_zero, List.set_cons_succ]
          refine wpAny_take (i := 16) (oi := ⟨some 38, .convert 3 5 (.tmp 37), _, _, _, none⟩) (v := ?_) rfl (by kernel_rfl) (by kernel_rfl) (by kernel_rfl) (fun _ _ _ h => h) (Or.inl ⟨by rfl, ?_⟩) ?_
          rotate_left
          · intro W; go_simp; try with_reducible rfl
          try simp only [Act.put, List.setIfInBounds_toArray, List.set_cons_zero, List.set_cons_succ]
          refine wpAny_take (i := 17) (oi := ⟨some 39, .indexAddr 23 (.tmp 3) (.tmp 23), _, _, _, none⟩) (v := ?_) rfl (by kernel_rfl) (by kernel_rfl) (by kernel_rfl) (fun _ _ _ h => h) (Or.inl ⟨by rfl, ?_⟩) ?_
          rotate_left
          · intro W; go_simp; try with_reducible rfl
          try simp only [Act.put, List.setIfInBounds_toArray, List.set_cons_zero, List.set_cons_succ]
          refine wpAny_ready (rs := [18]) (by kernel_rfl) (by simp) ?_
          refine AllReady.cons (o := ⟨none, .store 5 (.tmp 39) (.tmp 38), _, _, _, none⟩) rfl (fun K hK => ?_) AllReady.nil
          refine step_ofR (by rfl) ?_
          have c0 := hS.b0.cell HC.out
          have f0 := hS.b0.free d
          have hQ := hSET.out _ hS
          go_simp
          refine hK _ _ ?_
          clear hK K
          try simp only [Act.put, List.setIfInBounds_toArray, List.set_cons_zero, List.set_cons_succ]
          refine wpAny_done (by kernel_rfl) ?_ _
          have hb0 := hQ.b0
          have hb1 := hQ.b1
          go_wp2_with (first | ((with_reducible refine wpList_loadB (o := ⟨some 40, _, _, _, _, _⟩) ?_ 23 (.tmp 3) ?_ ?_ hb0 Try.underlying23 ?_ H6.out ?_); rfl; rfl; rfl; rfl) | ((with_reducible refine wpList_storeB (o := ⟨none, .store 23 (.tmp 6) (.tmp 40), _, _, _, _⟩) ?_ 23 (.tmp 6) (.tmp 40) ?_ ?_ ?_ hb1 H6.out H8.out H9 ?_); rfl; rfl; rfl; rfl; intro w8 hb8 hg8 hz8))
          try simp only [Exit.inBlock, Exit.then]
          refine bodyPost_ret (results_digest2 rfl _ _ _ _ _ hql rfl hb8.at_) rfl ⟨rfl, ?_⟩
          exact hQ.bel.grown hg8 (by have := hQ.bel.size; omega) (fun k e => by cases e; omega)
        · refine step_ofR (by rfl) ?_
          go_simp
          refine (HG.out _).mono ?_
          rintro e W2 ⟨rfl, rfl⟩
          refine hK _ _ ?_
          clear hK K
          try simp only [Act.put, List.setIfInBounds_toArray, List.set_cons_zero, List.set_cons_succ]
          refine wpAny_take (i := 14) (oi := ⟨some 36, .binOp .mul 3 (.tmp 33) (.tmp 35) 3, _, _, _, none⟩) (v := ?_) rfl (by kernel_rfl) (by kernel_rfl) (by kernel_rfl) (fun _ _ _ h => h) (Or.inl ⟨by rfl, ?_⟩) ?_
          rotate_left
          · intro W; go_simp; try with_reducible rfl
          try simp only [Act.put, List.setIfInBounds_toArray, List.set_cons_zero, List.set_cons_succ]
          refine wpAny_ready (rs := [5]) (by kernel_rfl) (by simp) ?_
          refine AllReady.cons (o := ⟨some 27, .load 5 (.tmp 26), _, _, _, none⟩) rfl (fun K hK => ?_) AllReady.nil
          refine step_ofR (by rfl) ?_
          have c0 := hS.b0.cell HC.out
          go_simp
          refine hK _ _ ?_
          clear hK K
          try simp only [Act.put, List.setIfInBounds_toArray, List.set_cons_zero, List.set_cons_succ]
          refine wpAny_take (i := 6) (oi := ⟨some 28, .convert 5 3 (.tmp 27), _, _, _, none⟩) (v := ?_) rfl (by kernel_rfl) (by kernel_rfl) (by kernel_rfl) (fun _ _ _ h => h) (Or.inl ⟨by rfl, ?_⟩) ?_
          rotate_left
          · intro W; go_simp; try with_reducible rfl
          try simp only [Act.put, List.setIfInBounds_toArray, List.set_cons_zero, List.set_cons_succ]
          refine wpAny_take (i := 15) (oi := ⟨some 37, .binOp .add 3 (.tmp 28) (.tmp 36) 3, _, _, _, none⟩) (v := ?_) rfl (by kernel_rfl) (by kernel_rfl) (by kernel_rfl) (fun _ _ _ h => h) (Or.inl ⟨by rfl, ?_⟩) ?_
          rotate_left
          · intro W; go_simp; try with_reducible rfl
          try simp only [Act.put, List.setIfInBounds_toArray, List.set_cons_zero, List.set_cons_succ]
          refine wpAny_take (i := 16) (oi := ⟨some 38, .convert 3 5 (.tmp 37), _, _, _, none⟩) (v := ?_) rfl (by kernel_rfl) (by kernel_rfl) (by kernel_rfl) (fun _ _ _ h => h) (Or.inl ⟨by rfl, ?_⟩) ?_
          rotate_left
          · intro W; go_simp; try with_reducible rfl
          try simp only [Act.put, List.setIfInBounds_toArray, List.set_cons_zero, List.set_cons_succ]
          refine wpAny_take (i := 17) (oi := ⟨some 39, .indexAddr 23 (.tmp 3) (.tmp 23), _, _, _, none⟩) (v := ?_) rfl (by kernel_rfl) (by kernel_rfl) (by kernel_rfl) (fun _ _ _ h => h) (Or.inl ⟨by rfl, ?_⟩) ?_
          rotate_left
          · intro W; go_simp; try with_reducible rfl
          try simp only [Act.put, List.setIfInBounds_toArray, List.set_cons_zero, List.set_cons_succ]
          refine wpAny_ready (rs := [18]) (by kernel_rfl) (by simp) ?_
          refine AllReady.cons (o := ⟨none, .store 5 (.tmp 39) (.tmp 38), _, _, _, none⟩) rfl (fun K hK => ?_) AllReady.nil
          refine step_ofR (by rfl) ?_
          have c0 := hS.b0.cell HC.out
          have f0 := hS.b0.free d
          have hQ := hSET.out _ hS
          go_simp
          refine hK _ _ ?_
          clear hK K
          try simp only [Act.put, List.setIfInBounds_toArray, List.set_cons_zero, List.set_cons_succ]
          refine wpAny_done (by kernel_rfl) ?_ _
          have hb0 := hQ.b0
          have hb1 := hQ.b1
          go_wp2_with (first | ((with_reducible refine wpList_loadB (o := ⟨some 40, _, _, _, _, _⟩) ?_ 23 (.tmp 3) ?_ ?_ hb0 Try.underlying23 ?_ H6.out ?_); rfl; rfl; rfl; rfl) | ((with_reducible refine wpList_storeB (o := ⟨none, .store 23 (.tmp 6) (.tmp 40), _, _, _, _⟩) ?_ 23 (.tmp 6) (.tmp 40) ?_ ?_ ?_ hb1 H6.out H8.out H9 ?_); rfl; rfl; rfl; rfl; intro w8 hb8 hg8 hz8))
          try simp only [Exit.inBlock, Exit.then]
          refine bodyPost_ret (results_digest2 rfl _ _ _ _ _ hql rfl hb8.at_) rfl ⟨rfl, ?_⟩
          exact hQ.bel.grown hg8 (by have := hQ.bel.size; omega) (fun k e => by cases e; omega)
    -- END 5 4
end Go.Proofs.Ytgfahgmjmiapiaa
