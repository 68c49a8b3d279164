/-
  Con04B Con04C, in one text.
-/
import Derived.Test.YtgbhfpkngjlfkaaDoorCon04A
namespace Go.Proofs.YtgbhfpkngjlfkaaDoor
/-! The walk of path's word. -/
section
open Go.RowKit

theorem bigF_lt (l : List UInt8) : ∀ x n : Nat, x < 256 ^ n → l.foldl (fun x b => x * 256 + b.toNat) x < 256 ^ (n + l.length) := by
  induction l with
  | nil => intro x n h; simpa using h
  | cons b l ih =>
    intro x n h
    have hb := b.toNat_lt
    have := ih (x * 256 + b.toNat) (n + 1) (by rw [Nat.pow_succ]; omega)
    rw [List.foldl_cons, List.length_cons, show n + (l.length + 1) = n + 1 + l.length by omega]
    exact this
theorem big_lt (l : List UInt8) : big l < 256 ^ l.length := by
  have := bigF_lt l 0 0 (by decide)
  rwa [Nat.zero_add] at this
/-- the number of a word's first j bytes -/
def wordTo (p : List UInt8) (k j : Nat) : Nat := big ((p.drop (8 * k)).take j)
theorem wordTo_zero (p : List UInt8) (k : Nat) : wordTo p k 0 = 0 := by simp [wordTo, big]
theorem wordTo_eight (p : List UInt8) (k : Nat) : wordTo p k 8 = wordAt p k := rfl
theorem wordTo_step (p : List UInt8) (hp : p.length = 32) (k j : Nat) (hk : k < 4) (hj : j < 8) : wordTo p k (j + 1) = wordTo p k j * 256 + (p.getD (8 * k + j) 0).toNat := by
  unfold wordTo
  have h : j < (p.drop (8 * k)).length := by simp [hp]; omega
  rw [List.take_succ_eq_append_getElem h, big_snoc]
  have h2 : 8 * k + j < p.length := by omega
  simp [List.getD, h2]
theorem wordTo_lt (p : List UInt8) (k j : Nat) (hj : j < 8) : wordTo p k j < 72057594037927936 := by
  have h := big_lt ((p.drop (8 * k)).take j)
  have h2 : ((p.drop (8 * k)).take j).length ≤ 7 := by simp; omega
  have h3 := Nat.pow_le_pow_right (show 0 < 256 by decide) h2
  unfold wordTo
  have h4 : (256 : Nat) ^ 7 = 72057594037927936 := by decide
  omega
theorem or_byte (x b : Nat) (hx : x < 72057594037927936) (hb : b < 256) : bits .or .u64 ((x : Int) * 256) (b : Int) = ((x * 256 + b : Nat) : Int) := by
  rw [show ((x : Int) * 256) = ((x * 256 : Nat) : Int) by simp, u64_or_nat _ _ (by omega) (by omega)]
  have h := Nat.two_pow_add_eq_or_of_lt (i := 8) (b := b) (by simpa using hb) x
  rw [Nat.mul_comm x 256]
  simp only [Nat.reducePow] at h
  rw [h]

set_option maxRecDepth 100000 in
set_option maxHeartbeats 1000000 in
theorem word_any (w : World) (p : List UInt8) (hp : p.length = 32) (k : Nat) (hk : k < 4) :
    Calls Tryd.prog 38 #[.agg (bs p).toArray, .int .i64 (k : Int)] w fun e w' => e = .returned (.int .u64 (wordAt p k : Int)) ∧ Below w.heap.size w w' := by
  have hb0 := Blk.new w 23 (bs p)
  have hB0 : Below w.heap.size w (w.alloc (.cells (bs p).toArray 23)) := (Below.refl _ w).alloc (Nat.le_refl _) _
  have hsl := Lib.hid (fun W : World => sliceD W w.heap.size (8 * k) (8 * k + 8) (8 * (k : Int)) (8 * ((k : Int) + 1)) (by omega) (by omega) (by omega) (by omega) (by omega))
  have e8 : 8 * k + 8 - 8 * k = 8 := by omega
  rw [e8] at hsl
  clear e8
  go_enter Tryd.func38, Tryd.ntmps38
  go_wp2_with (simp only [hsl.out])
  clear hsl
  have hW0 := wordTo_zero p k
  generalize w.alloc _ = w1 at *
  go_loopw [5, 15] (fun x t wr => ∃ j : Nat, j ≤ 8 ∧ t = .int .i64 j ∧ x = .int .u64 (wordTo p k j : Int) ∧ w1 = wr) (fun _ t _ => 8 - (intOf t).toNat)
  case atStart => exact ⟨0, by omega, rfl, by rw [hW0]; rfl, rfl⟩
  case round =>
    obtain ⟨j, hj, rfl, rfl, rfl⟩ := hrel
    clear hW0
    by_cases hlt : j < 8
    · have c0 := hb0.cell (bs_at p (8 * k + j) (by omega))
      have hst := Lib.hid (wordTo_step p hp k j hk hlt)
      have hxl := wordTo_lt p k j hlt
      have hbl := (p.getD (8 * k + j) 0).toNat_lt
      have h3 : (j : Int) < 8 := by omega
      generalize wordTo p k j = x at *
      generalize (p.getD (8 * k + j) 0).toNat = b at *
      have ho := Lib.hid (or_byte x b hxl (by omega))
      have s1 : IntKind.u64.wrap ((x : Int) * 256) = (x : Int) * 256 := by rw [IntKind.wrap_u64]; omega
      go_wp2_with fail
      exact ⟨⟨j + 1, by omega, by go_num, by rw [hst.out, ← ho.out], trivial⟩, by simp [intOf]; omega⟩
    · obtain rfl : j = 8 := by omega
      rw [wordTo_eight]
      have h3 : ¬ ((8 : Nat) : Int) < 8 := by omega
      generalize hv : wordAt p k = v at *
      have HV := Lib.hid hv
      clear hv
      go_wp2_with fail
      go_ret
      exact ⟨by rw [HV.out]; rfl, hB0⟩
end
/-! The walks of path's Common and Less. -/
section
open Go.RowKit

theorem xor_words (a b : Nat) (ha : a < 18446744073709551616) (hb : b < 18446744073709551616) : a ^^^ b < 18446744073709551616 := Nat.xor_lt_two_pow (n := 64) ha hb
theorem words_next (p q : List UInt8) (hp : p.length = 32) (hq : q.length = 32) (hne : p ≠ q) (k : Nat) (hk : k < 4) (hs : ∀ i, i < k → wordAt p i = wordAt q i) (he : wordAt p k = wordAt q k) : k + 1 < 4 ∧ ∀ i, i < k + 1 → wordAt p i = wordAt q i := by
  have h : ∀ i, i < k + 1 → wordAt p i = wordAt q i := fun i hi => by
    by_cases e : i = k
    · rw [e, he]
    · exact hs i (by omega)
  refine ⟨?_, h⟩
  rcases Nat.lt_or_ge (k + 1) 4 with h4 | h4
  · exact h4
  · exact absurd (words_ext p q hp hq fun i hi => h i (by omega)) hne

set_option maxRecDepth 100000 in
set_option maxHeartbeats 2000000 in
theorem common_any (w : World) (p q : List UInt8) (hp : p.length = 32) (hq : q.length = 32) :
    Calls Tryd.prog 18 #[.agg (bs p).toArray, .agg (bs q).toArray] w fun e w' => e = .returned (.int .i64 (comm p q : Int)) ∧ Below w.heap.size w w' := by
  have H5 := Lib.hid (show (Tryd.prog.info? 23).map (·.size) = some (bs p).length by rw [info_digest, bs_length, hp])
  have H6 := Lib.hid (show (Tryd.prog.info? 23).map (·.size) = some (bs q).length by rw [info_digest, bs_length, hq])
  have hP := PairAt.start w p q
  have hb0 := hP.b0
  have hb1 := hP.b1
  by_cases hpq : p = q
  · subst hpq
    have HC := Lib.hid (comm_self p)
    have HE := Lib.hid (show ∀ W : World, (binOp .eql 23 (.agg (bs p).toArray) (.agg (bs p).toArray)).run Tryd.prog W = .ok (.bool true) W from fun W => by rw [eqD W _ _ hp hp]; simp)
    go_enter Tryd.func18, Tryd.ntmps18
    go_wp2_with (first | ((with_reducible refine wpList_loadB (o := ⟨some 6, _, _, _, _, _⟩) ?_ 23 (.tmp 2) ?_ ?_ hb0 Tryd.underlying23 ?_ H5.out ?_); rfl; rfl; rfl; rfl) | ((with_reducible refine wpList_loadB (o := ⟨some 7, _, _, _, _, _⟩) ?_ 23 (.tmp 3) ?_ ?_ hb1 Tryd.underlying23 ?_ H6.out ?_); rfl; rfl; rfl; rfl) | ((with_reducible refine wpList_eqH (o := ⟨some 8, _, _, _, _, _⟩) ?_ .eql 23 23 (.tmp 6) (.tmp 7) ?_ (bs p).toArray (bs p).toArray ?_ ?_ guardH _ HE.out ?_); rfl; rfl; rfl; rfl))
    go_ret
    exact ⟨by rw [HC.out]; rfl, hP.bel⟩
  · have HE := Lib.hid (show ∀ W : World, (binOp .eql 23 (.agg (bs p).toArray) (.agg (bs q).toArray)).run Tryd.prog W = .ok (.bool false) W from fun W => by rw [eqD W _ _ hp hq]; simp [hpq])
    go_enter Tryd.func18, Tryd.ntmps18
    go_wp2_with (first | ((with_reducible refine wpList_loadB (o := ⟨some 6, _, _, _, _, _⟩) ?_ 23 (.tmp 2) ?_ ?_ hb0 Tryd.underlying23 ?_ H5.out ?_); rfl; rfl; rfl; rfl) | ((with_reducible refine wpList_loadB (o := ⟨some 7, _, _, _, _, _⟩) ?_ 23 (.tmp 3) ?_ ?_ hb1 Tryd.underlying23 ?_ H6.out ?_); rfl; rfl; rfl; rfl) | ((with_reducible refine wpList_eqH (o := ⟨some 8, _, _, _, _, _⟩) ?_ .eql 23 23 (.tmp 6) (.tmp 7) ?_ (bs p).toArray (bs q).toArray ?_ ?_ guardH _ HE.out ?_); rfl; rfl; rfl; rfl))
    clear hb0 hb1 HE
    generalize (w.alloc _).alloc _ = w1 at *
    go_loopw [5] (fun t wr => ∃ k : Nat, k < 4 ∧ t = .int .i64 k ∧ (∀ i, i < k → wordAt p i = wordAt q i) ∧ PairAt w wr p q) (fun t _ => 4 - (intOf t).toNat)
    case atStart => exact ⟨0, by omega, rfl, fun i h => absurd h (Nat.not_lt_zero i), hP⟩
    case round =>
      obtain ⟨k, hk, rfl, hsame, hS⟩ := hrel
      have F1 := Lib.hid (fun W : World => word_any W p hp k hk)
      have F2 := Lib.hid (fun W : World => word_any W q hq k hk)
      have hN := Lib.hid (fun h : wordAt p k = wordAt q k => words_next p q hp hq hpq k hk hsame h)
      have hU := Lib.hid (fun h : wordAt p k ≠ wordAt q k => comm_words p q hp hq k hk hsame h)
      have hlx := wordAt_lt p hp k hk
      have hly := wordAt_lt q hq k hk
      clear hsame hpq
      generalize wordAt p k = x at F1 hU hN hlx
      generalize wordAt q k = y at F2 hU hN hly
      have k1 : IntKind.i64.wrap (64 * (k : Int)) = 64 * (k : Int) := IntWalk.i64_in _ (by omega)
      by_cases hxy : x = y
      · have hxy' : (x : Int) = y := by omega
        -- REGION 4 8
        go_wp2_with fail
        refine wp_region_held_drew (S := fun W => PairAt w W p q) (by kernel_rfl) hS.drew (fun hHeld => ?_)
        refine wpAnyH_take (i := 0) (oi := ⟨some 9, .load 23 (.tmp 2), _, _, _, none⟩) (v := .agg (bs p).toArray) rfl (by kernel_rfl) (by kernel_rfl) (by kernel_rfl) (fun _ _ _ h => h) (yieldsIf_load_mid (by rfl) _ _ rfl w.heap.size 0 rfl (bs p) _ (fun W h => h.b0.allR) Tryd.underlying23 rfl H5.out) hHeld ?_
        try simp only [Act.put, List.setIfInBounds_toArray, List.set_cons_zero, List.set_cons_succ]
        refine wpAnyH_take (i := 1) (oi := ⟨some 10, .move (.tmp 5), _, _, _, none⟩) (v := ?_) rfl (by kernel_rfl) (by kernel_rfl) (by kernel_rfl) (fun _ _ _ h => h) (Or.inl ⟨by rfl, ?_⟩) hHeld ?_
        rotate_left
        · intro W _; go_simp; try with_reducible rfl
        try simp only [Act.put, List.setIfInBounds_toArray, List.set_cons_zero, List.set_cons_succ]
        refine wpAnyH_take (i := 3) (oi := ⟨some 12, .load 23 (.tmp 3), _, _, _, none⟩) (v := .agg (bs q).toArray) rfl (by kernel_rfl) (by kernel_rfl) (by kernel_rfl) (fun _ _ _ h => h) (yieldsIf_load_mid (by rfl) _ _ rfl (w.heap.size + 1) 0 rfl (bs q) _ (fun W h => h.b1.allR) Tryd.underlying23 rfl H6.out) hHeld ?_
        try simp only [Act.put, List.setIfInBounds_toArray, List.set_cons_zero, List.set_cons_succ]
        refine wpAnyH_take (i := 4) (oi := ⟨some 13, .move (.tmp 5), _, _, _, none⟩) (v := ?_) rfl (by kernel_rfl) (by kernel_rfl) (by kernel_rfl) (fun _ _ _ h => h) (Or.inl ⟨by rfl, ?_⟩) hHeld ?_
        rotate_left
        · intro W _; go_simp; try with_reducible rfl
        try simp only [Act.put, List.setIfInBounds_toArray, List.set_cons_zero, List.set_cons_succ]
        refine wpAnyH_ready (rs := [2]) (by kernel_rfl) (by simp) ?_
        refine AllReadyH.cons (o := ⟨some 11, .call { callee := .value (.func 38), args := #[.tmp 9, .tmp 10], argTypes := #[23, 3] }, _, _, _, none⟩) rfl (fun K hK => ?_) AllReadyH.nil
        refine step_ofR (by rfl) ?_
        go_simp
        refine (F1.out _).mono ?_
        rintro e W1 ⟨rfl, hb1⟩
        refine hK.out _ _ (hHeld.below hb1) (fun hHeld => ?_)
        clear hK K
        try simp only [Act.put, List.setIfInBounds_toArray, List.set_cons_zero, List.set_cons_succ]
        refine wpAnyH_ready (rs := [5]) (by kernel_rfl) (by simp) ?_
        refine AllReadyH.cons (o := ⟨some 14, .call { callee := .value (.func 38), args := #[.tmp 12, .tmp 13], argTypes := #[23, 3] }, _, _, _, none⟩) rfl (fun K hK => ?_) AllReadyH.nil
        refine step_ofR (by rfl) ?_
        go_simp
        refine (F2.out _).mono ?_
        rintro e W1 ⟨rfl, hb1⟩
        refine hK.out _ _ (hHeld.below hb1) (fun hHeld => ?_)
        clear hK K
        try simp only [Act.put, List.setIfInBounds_toArray, List.set_cons_zero, List.set_cons_succ]
        refine wpAnyH_take (i := 6) (oi := ⟨some 15, .binOp .eql 68 (.tmp 11) (.tmp 14) 68, _, _, _, none⟩) (v := ?_) rfl (by kernel_rfl) (by kernel_rfl) (by kernel_rfl) (fun _ _ _ h => h) (Or.inl ⟨by rfl, ?_⟩) hHeld ?_
        rotate_left
        · intro W _; go_simp; try with_reducible rfl
        try simp only [Act.put, List.setIfInBounds_toArray, List.set_cons_zero, List.set_cons_succ]
        refine wpAnyH_done (by kernel_rfl) ?_ _
        -- END 4 8
        go_wp2_with fail
        exact ⟨⟨k + 1, (hN.out hxy).1, by go_num, (hN.out hxy).2, hHeld⟩, by have := (hN.out hxy).1; simp [intOf]; omega⟩
      · have hxy' : ¬ (x : Int) = y := by omega
        have hX := u64_xor_nat x y hlx hly
        have hxl := xor_words x y hlx hly
        have hU2 := Lib.hid (hU.out hxy)
        have hLZ := Lib.hid (fun W : World => lead64 W (x ^^^ y) hxl)
        clear hU hN
        generalize x ^^^ y = z at *
        generalize hlz : 64 - Lib.bitLen z = L at *
        have hL64 : L ≤ 64 := by omega
        clear hlz
        have k2 : IntKind.i64.wrap (64 * (k : Int) + (L : Int)) = 64 * (k : Int) + (L : Int) := IntWalk.i64_in _ (by omega)
        -- REGION 4 8
        go_wp2_with fail
        refine wp_region_held_drew (S := fun W => PairAt w W p q) (by kernel_rfl) hS.drew (fun hHeld => ?_)
        refine wpAnyH_take (i := 0) (oi := ⟨some 9, .load 23 (.tmp 2), _, _, _, none⟩) (v := .agg (bs p).toArray) rfl (by kernel_rfl) (by kernel_rfl) (by kernel_rfl) (fun _ _ _ h => h) (yieldsIf_load_mid (by rfl) _ _ rfl w.heap.size 0 rfl (bs p) _ (fun W h => h.b0.allR) Tryd.underlying23 rfl H5.out) hHeld ?_
        try simp only [Act.put, List.setIfInBounds_toArray, List.set_cons_zero, List.set_cons_succ]
        refine wpAnyH_take (i := 1) (oi := ⟨some 10, .move (.tmp 5), _, _, _, none⟩) (v := ?_) rfl (by kernel_rfl) (by kernel_rfl) (by kernel_rfl) (fun _ _ _ h => h) (Or.inl ⟨by rfl, ?_⟩) hHeld ?_
        rotate_left
        · intro W _; go_simp; try with_reducible rfl
        try simp only [Act.put, List.setIfInBounds_toArray, List.set_cons_zero, List.set_cons_succ]
        refine wpAnyH_take (i := 3) (oi := ⟨some 12, .load 23 (.tmp 3), _, _, _, none⟩) (v := .agg (bs q).toArray) rfl (by kernel_rfl) (by kernel_rfl) (by kernel_rfl) (fun _ _ _ h => h) (yieldsIf_load_mid (by rfl) _ _ rfl (w.heap.size + 1) 0 rfl (bs q) _ (fun W h => h.b1.allR) Tryd.underlying23 rfl H6.out) hHeld ?_
        try simp only [Act.put, List.setIfInBounds_toArray, List.set_cons_zero, List.set_cons_succ]
        refine wpAnyH_take (i := 4) (oi := ⟨some 13, .move (.tmp 5), _, _, _, none⟩) (v := ?_) rfl (by kernel_rfl) (by kernel_rfl) (by kernel_rfl) (fun _ _ _ h => h) (Or.inl ⟨by rfl, ?_⟩) hHeld ?_
        rotate_left
        · intro W _; go_simp; try with_reducible rfl
        try simp only [Act.put, List.setIfInBounds_toArray, List.set_cons_zero, List.set_cons_succ]
        refine wpAnyH_ready (rs := [2]) (by kernel_rfl) (by simp) ?_
        refine AllReadyH.cons (o := ⟨some 11, .call { callee := .value (.func 38), args := #[.tmp 9, .tmp 10], argTypes := #[23, 3] }, _, _, _, none⟩) rfl (fun K hK => ?_) AllReadyH.nil
        refine step_ofR (by rfl) ?_
        go_simp
        refine (F1.out _).mono ?_
        rintro e W1 ⟨rfl, hb1⟩
        refine hK.out _ _ (hHeld.below hb1) (fun hHeld => ?_)
        clear hK K
        try simp only [Act.put, List.setIfInBounds_toArray, List.set_cons_zero, List.set_cons_succ]
        refine wpAnyH_ready (rs := [5]) (by kernel_rfl) (by simp) ?_
        refine AllReadyH.cons (o := ⟨some 14, .call { callee := .value (.func 38), args := #[.tmp 12, .tmp 13], argTypes := #[23, 3] }, _, _, _, none⟩) rfl (fun K hK => ?_) AllReadyH.nil
        refine step_ofR (by rfl) ?_
        go_simp
        refine (F2.out _).mono ?_
        rintro e W1 ⟨rfl, hb1⟩
        refine hK.out _ _ (hHeld.below hb1) (fun hHeld => ?_)
        clear hK K
        try simp only [Act.put, List.setIfInBounds_toArray, List.set_cons_zero, List.set_cons_succ]
        refine wpAnyH_take (i := 6) (oi := ⟨some 15, .binOp .eql 68 (.tmp 11) (.tmp 14) 68, _, _, _, none⟩) (v := ?_) rfl (by kernel_rfl) (by kernel_rfl) (by kernel_rfl) (fun _ _ _ h => h) (Or.inl ⟨by rfl, ?_⟩) hHeld ?_
        rotate_left
        · intro W _; go_simp; try with_reducible rfl
        try simp only [Act.put, List.setIfInBounds_toArray, List.set_cons_zero, List.set_cons_succ]
        refine wpAnyH_done (by kernel_rfl) ?_ _
        -- END 4 8
        clear hS
        have hS := hHeld
        clear hHeld
        go_wp2_with fail
        -- REGION 6 8
        refine wp_region_held_drew (S := fun W => PairAt w W p q) (by kernel_rfl) hS.drew (fun hHeld => ?_)
        refine wpAnyH_take (i := 0) (oi := ⟨some 18, .move (.tmp 5), _, _, _, none⟩) (v := ?_) rfl (by kernel_rfl) (by kernel_rfl) (by kernel_rfl) (fun _ _ _ h => h) (Or.inl ⟨by rfl, ?_⟩) hHeld ?_
        rotate_left
        · intro W _; go_simp; try with_reducible rfl
        try simp only [Act.put, List.setIfInBounds_toArray, List.set_cons_zero, List.set_cons_succ]
        refine wpAnyH_take (i := 1) (oi := ⟨some 19, .binOp .mul 3 (.const (.int .i64 64)) (.tmp 18) 3, _, _, _, none⟩) (v := ?_) rfl (by kernel_rfl) (by kernel_rfl) (by kernel_rfl) (fun _ _ _ h => h) (Or.inl ⟨by rfl, ?_⟩) hHeld ?_
        rotate_left
        · intro W _; go_simp; try with_reducible rfl
        try simp only [Act.put, List.setIfInBounds_toArray, List.set_cons_zero, List.set_cons_succ]
        refine wpAnyH_take (i := 2) (oi := ⟨some 20, .load 23 (.tmp 2), _, _, _, none⟩) (v := .agg (bs p).toArray) rfl (by kernel_rfl) (by kernel_rfl) (by kernel_rfl) (fun _ _ _ h => h) (yieldsIf_load_mid (by rfl) _ _ rfl w.heap.size 0 rfl (bs p) _ (fun W h => h.b0.allR) Tryd.underlying23 rfl H5.out) hHeld ?_
        try simp only [Act.put, List.setIfInBounds_toArray, List.set_cons_zero, List.set_cons_succ]
        refine wpAnyH_take (i := 3) (oi := ⟨some 21, .move (.tmp 5), _, _, _, none⟩) (v := ?_) rfl (by kernel_rfl) (by kernel_rfl) (by kernel_rfl) (fun _ _ _ h => h) (Or.inl ⟨by rfl, ?_⟩) hHeld ?_
        rotate_left
        · intro W _; go_simp; try with_reducible rfl
        try simp only [Act.put, List.setIfInBounds_toArray, List.set_cons_zero, List.set_cons_succ]
        refine wpAnyH_take (i := 5) (oi := ⟨some 23, .load 23 (.tmp 3), _, _, _, none⟩) (v := .agg (bs q).toArray) rfl (by kernel_rfl) (by kernel_rfl) (by kernel_rfl) (fun _ _ _ h => h) (yieldsIf_load_mid (by rfl) _ _ rfl (w.heap.size + 1) 0 rfl (bs q) _ (fun W h => h.b1.allR) Tryd.underlying23 rfl H6.out) hHeld ?_
        try simp only [Act.put, List.setIfInBounds_toArray, List.set_cons_zero, List.set_cons_succ]
        refine wpAnyH_take (i := 6) (oi := ⟨some 24, .move (.tmp 5), _, _, _, none⟩) (v := ?_) rfl (by kernel_rfl) (by kernel_rfl) (by kernel_rfl) (fun _ _ _ h => h) (Or.inl ⟨by rfl, ?_⟩) hHeld ?_
        rotate_left
        · intro W _; go_simp; try with_reducible rfl
        try simp only [Act.put, List.setIfInBounds_toArray, List.set_cons_zero, List.set_cons_succ]
        refine wpAnyH_ready (rs := [4]) (by kernel_rfl) (by simp) ?_
        refine AllReadyH.cons (o := ⟨some 22, .call { callee := .value (.func 38), args := #[.tmp 20, .tmp 21], argTypes := #[23, 3] }, _, _, _, none⟩) rfl (fun K hK => ?_) AllReadyH.nil
        refine step_ofR (by rfl) ?_
        go_simp
        refine (F1.out _).mono ?_
        rintro e W1 ⟨rfl, hb1⟩
        refine hK.out _ _ (hHeld.below hb1) (fun hHeld => ?_)
        clear hK K
        try simp only [Act.put, List.setIfInBounds_toArray, List.set_cons_zero, List.set_cons_succ]
        refine wpAnyH_ready (rs := [7]) (by kernel_rfl) (by simp) ?_
        refine AllReadyH.cons (o := ⟨some 25, .call { callee := .value (.func 38), args := #[.tmp 23, .tmp 24], argTypes := #[23, 3] }, _, _, _, none⟩) rfl (fun K hK => ?_) AllReadyH.nil
        refine step_ofR (by rfl) ?_
        go_simp
        refine (F2.out _).mono ?_
        rintro e W1 ⟨rfl, hb1⟩
        refine hK.out _ _ (hHeld.below hb1) (fun hHeld => ?_)
        clear hK K
        try simp only [Act.put, List.setIfInBounds_toArray, List.set_cons_zero, List.set_cons_succ]
        refine wpAnyH_take (i := 8) (oi := ⟨some 26, .binOp .xor 68 (.tmp 22) (.tmp 25) 68, _, _, _, none⟩) (v := ?_) rfl (by kernel_rfl) (by kernel_rfl) (by kernel_rfl) (fun _ _ _ h => h) (Or.inl ⟨by rfl, ?_⟩) hHeld ?_
        rotate_left
        · intro W _; go_simp; try with_reducible rfl
        try simp only [Act.put, List.setIfInBounds_toArray, List.set_cons_zero, List.set_cons_succ]
        refine wpAnyH_ready (rs := [9]) (by kernel_rfl) (by simp) ?_
        refine AllReadyH.cons (o := ⟨some 27, .call { callee := .value (.func 39), args := #[.tmp 26], argTypes := #[68] }, _, _, _, none⟩) rfl (fun K hK => ?_) AllReadyH.nil
        refine step_ofR (by rfl) ?_
        go_simp
        refine (hLZ.out _).mono ?_
        rintro e W1 ⟨rfl, rfl⟩
        refine hK.out _ _ (hHeld) (fun hHeld => ?_)
        clear hK K
        try simp only [Act.put, List.setIfInBounds_toArray, List.set_cons_zero, List.set_cons_succ]
        refine wpAnyH_take (i := 10) (oi := ⟨some 28, .binOp .add 3 (.tmp 19) (.tmp 27) 3, _, _, _, none⟩) (v := ?_) rfl (by kernel_rfl) (by kernel_rfl) (by kernel_rfl) (fun _ _ _ h => h) (Or.inl ⟨by rfl, ?_⟩) hHeld ?_
        rotate_left
        · intro W _; go_simp; try with_reducible rfl
        try simp only [Act.put, List.setIfInBounds_toArray, List.set_cons_zero, List.set_cons_succ]
        refine wpAnyH_ready (rs := [11]) (by kernel_rfl) (by simp) ?_
        refine AllReadyH.cons (o := ⟨some 4, .assign (.tmp 28), _, _, _, none⟩) rfl (fun K hK => ?_) AllReadyH.nil
        refine step_ofR (by rfl) ?_
        go_simp
        refine hK.out _ _ (hHeld) (fun hHeld => ?_)
        clear hK K
        try simp only [Act.put, List.setIfInBounds_toArray, List.set_cons_zero, List.set_cons_succ]
        refine wpAnyH_done (by kernel_rfl) ?_ _
        -- END 6 8
        go_wp2_with fail
        go_ret
        exact ⟨by rw [hU2.out]; rfl, hHeld.bel⟩

set_option maxRecDepth 100000 in
set_option maxHeartbeats 1000000 in
theorem less_any (w : World) (p q : List UInt8) (hp : p.length = 32) (hq : q.length = 32) :
    Calls Tryd.prog 77 #[.agg (bs p).toArray, .agg (bs q).toArray] w fun e w' => e = .returned (.bool (lessB p q)) ∧ Below w.heap.size w w' := by
  have H5 := Lib.hid (show (Tryd.prog.info? 23).map (·.size) = some (bs p).length by rw [info_digest, bs_length, hp])
  have H6 := Lib.hid (show (Tryd.prog.info? 23).map (·.size) = some (bs q).length by rw [info_digest, bs_length, hq])
  have hS := PairAt.start w p q
  have HC := Lib.hid (fun W : World => common_any W p q hp hq)
  have HL := Lib.hid (show lessB p q = (decide (comm p q < 256) && decide (bitAt p (comm p q) = 0)) from rfl)
  have hle := comm_le p q
  have HA := Lib.hid (fun (W : World) (h : comm p q < 256) => bit_any W p hp (comm p q) h)
  have HO := Lib.hid (fun (W : World) (h : 255 < ((comm p q : Nat) : Int)) => bit_any_no W p hp ((comm p q : Nat) : Int) (.inr h))
  have hbl := bitAt_lt p (comm p q)
  generalize hn : comm p q = n at *
  have HN := Lib.hid hn
  clear hn
  generalize bitAt p n = x at *
  go_enter Tryd.func77, Tryd.ntmps77
  go_wp2_with fail
  generalize (w.alloc _).alloc _ = w1 at *
  by_cases hlt : n < 256
  · have F2 := Lib.hid (fun W : World => HA.out W hlt)
    -- REGION 1 4
    refine wp_region_held_drew (S := fun W => PairAt w W p q) (by kernel_rfl) hS.drew (fun hHeld => ?_)
    refine wpAnyH_take (i := 0) (oi := ⟨some 8, .load 23 (.tmp 2), _, _, _, none⟩) (v := .agg (bs p).toArray) rfl (by kernel_rfl) (by kernel_rfl) (by kernel_rfl) (fun _ _ _ h => h) (yieldsIf_load_mid (by rfl) _ _ rfl w.heap.size 0 rfl (bs p) _ (fun W h => h.b0.allR) Tryd.underlying23 rfl H5.out) hHeld ?_
    try simp only [Act.put, List.setIfInBounds_toArray, List.set_cons_zero, List.set_cons_succ]
    refine wpAnyH_take (i := 1) (oi := ⟨some 9, .load 23 (.tmp 2), _, _, _, none⟩) (v := .agg (bs p).toArray) rfl (by kernel_rfl) (by kernel_rfl) (by kernel_rfl) (fun _ _ _ h => h) (yieldsIf_load_mid (by rfl) _ _ rfl w.heap.size 0 rfl (bs p) _ (fun W h => h.b0.allR) Tryd.underlying23 rfl H5.out) hHeld ?_
    try simp only [Act.put, List.setIfInBounds_toArray, List.set_cons_zero, List.set_cons_succ]
    refine wpAnyH_take (i := 2) (oi := ⟨some 10, .load 23 (.tmp 3), _, _, _, none⟩) (v := .agg (bs q).toArray) rfl (by kernel_rfl) (by kernel_rfl) (by kernel_rfl) (fun _ _ _ h => h) (yieldsIf_load_mid (by rfl) _ _ rfl (w.heap.size + 1) 0 rfl (bs q) _ (fun W h => h.b1.allR) Tryd.underlying23 rfl H6.out) hHeld ?_
    try simp only [Act.put, List.setIfInBounds_toArray, List.set_cons_zero, List.set_cons_succ]
    refine wpAnyH_ready (rs := [3]) (by kernel_rfl) (by simp) ?_
    refine AllReadyH.cons (o := ⟨some 11, .call { callee := .value (.func 18), args := #[.tmp 9, .tmp 10], argTypes := #[23, 23] }, _, _, _, none⟩) rfl (fun K hK => ?_) AllReadyH.nil
    refine step_ofR (by rfl) ?_
    go_simp
    refine (HC.out _).mono ?_
    rintro e W1 ⟨rfl, hb1⟩
    refine hK.out _ _ (hHeld.below hb1) (fun hHeld => ?_)
    clear hK K
    try simp only [Act.put, List.setIfInBounds_toArray, List.set_cons_zero, List.set_cons_succ]
    refine wpAnyH_ready (rs := [4]) (by kernel_rfl) (by simp) ?_
    refine AllReadyH.cons (o := ⟨some 12, .call { callee := .value (.func 83), args := #[.tmp 8, .tmp 11], argTypes := #[23, 3] }, _, _, _, none⟩) rfl (fun K hK => ?_) AllReadyH.nil
    refine step_ofR (by rfl) ?_
    go_simp
    refine (F2.out _).mono ?_
    rintro e W1 ⟨rfl, hb1⟩
    refine hK.out _ _ (hHeld.below hb1) (fun hHeld => ?_)
    clear hK K
    try simp only [Act.put, List.setIfInBounds_toArray, List.set_cons_zero, List.set_cons_succ]
    refine wpAnyH_take (i := 5) (oi := ⟨some 7, .move (.tmp 12), _, _, _, none⟩) (v := ?_) rfl (by kernel_rfl) (by kernel_rfl) (by kernel_rfl) (fun _ _ _ h => h) (Or.inl ⟨by rfl, ?_⟩) hHeld ?_
    rotate_left
    · intro W _; go_simp; try with_reducible rfl
    try simp only [Act.put, List.setIfInBounds_toArray, List.set_cons_zero, List.set_cons_succ]
    refine wpAnyH_take (i := 6) (oi := ⟨some 13, .extract (.tmp 7) 0, _, _, _, none⟩) (v := ?_) rfl (by kernel_rfl) (by kernel_rfl) (by kernel_rfl) (fun _ _ _ h => h) (Or.inl ⟨by rfl, ?_⟩) hHeld ?_
    rotate_left
    · intro W _; go_simp; try with_reducible rfl
    try simp only [Act.put, List.setIfInBounds_toArray, List.set_cons_zero, List.set_cons_succ]
    refine wpAnyH_take (i := 7) (oi := ⟨some 14, .extract (.tmp 7) 1, _, _, _, none⟩) (v := ?_) rfl (by kernel_rfl) (by kernel_rfl) (by kernel_rfl) (fun _ _ _ h => h) (Or.inl ⟨by rfl, ?_⟩) hHeld ?_
    rotate_left
    · intro W _; go_simp; try with_reducible rfl
    try simp only [Act.put, List.setIfInBounds_toArray, List.set_cons_zero, List.set_cons_succ]
    refine wpAnyH_ready (rs := [8]) (by kernel_rfl) (by simp) ?_
    refine AllReadyH.cons (o := ⟨some 5, .assign (.tmp 13), _, _, _, none⟩) rfl (fun K hK => ?_) AllReadyH.nil
    refine step_ofR (by rfl) ?_
    go_simp
    refine hK.out _ _ (hHeld) (fun hHeld => ?_)
    clear hK K
    try simp only [Act.put, List.setIfInBounds_toArray, List.set_cons_zero, List.set_cons_succ]
    refine wpAnyH_ready (rs := [9]) (by kernel_rfl) (by simp) ?_
    refine AllReadyH.cons (o := ⟨some 6, .assign (.tmp 14), _, _, _, none⟩) rfl (fun K hK => ?_) AllReadyH.nil
    refine step_ofR (by rfl) ?_
    go_simp
    refine hK.out _ _ (hHeld) (fun hHeld => ?_)
    clear hK K
    try simp only [Act.put, List.setIfInBounds_toArray, List.set_cons_zero, List.set_cons_succ]
    refine wpAnyH_done (by kernel_rfl) ?_ _
    -- END 1 4
    rcases (by omega : x = 0 ∨ x = 1) with rfl | rfl
    · go_wp2_with fail
      go_ret
      exact ⟨by rw [HL.out]; simp [hlt], hHeld.bel⟩
    · go_wp2_with fail
      go_ret
      exact ⟨by rw [HL.out]; simp, hHeld.bel⟩
  · have F2 := Lib.hid (fun W : World => HO.out W (by omega))
    -- REGION 1 4
    refine wp_region_held_drew (S := fun W => PairAt w W p q) (by kernel_rfl) hS.drew (fun hHeld => ?_)
    refine wpAnyH_take (i := 0) (oi := ⟨some 8, .load 23 (.tmp 2), _, _, _, none⟩) (v := .agg (bs p).toArray) rfl (by kernel_rfl) (by kernel_rfl) (by kernel_rfl) (fun _ _ _ h => h) (yieldsIf_load_mid (by rfl) _ _ rfl w.heap.size 0 rfl (bs p) _ (fun W h => h.b0.allR) Tryd.underlying23 rfl H5.out) hHeld ?_
    try simp only [Act.put, List.setIfInBounds_toArray, List.set_cons_zero, List.set_cons_succ]
    refine wpAnyH_take (i := 1) (oi := ⟨some 9, .load 23 (.tmp 2), _, _, _, none⟩) (v := .agg (bs p).toArray) rfl (by kernel_rfl) (by kernel_rfl) (by kernel_rfl) (fun _ _ _ h => h) (yieldsIf_load_mid (by rfl) _ _ rfl w.heap.size 0 rfl (bs p) _ (fun W h => h.b0.allR) Tryd.underlying23 rfl H5.out) hHeld ?_
    try simp only [Act.put, List.setIfInBounds_toArray, List.set_cons_zero, List.set_cons_succ]
    refine wpAnyH_take (i := 2) (oi := ⟨some 10, .load 23 (.tmp 3), _, _, _, none⟩) (v := .agg (bs q).toArray) rfl (by kernel_rfl) (by kernel_rfl) (by kernel_rfl) (fun _ _ _ h => h) (yieldsIf_load_mid (by rfl) _ _ rfl (w.heap.size + 1) 0 rfl (bs q) _ (fun W h => h.b1.allR) Tryd.underlying23 rfl H6.out) hHeld ?_
    try simp only [Act.put, List.setIfInBounds_toArray, List.set_cons_zero, List.set_cons_succ]
    refine wpAnyH_ready (rs := [3]) (by kernel_rfl) (by simp) ?_
    refine AllReadyH.cons (o := ⟨some 11, .call { callee := .value (.func 18), args := #[.tmp 9, .tmp 10], argTypes := #[23, 23] }, _, _, _, none⟩) rfl (fun K hK => ?_) AllReadyH.nil
    refine step_ofR (by rfl) ?_
    go_simp
    refine (HC.out _).mono ?_
    rintro e W1 ⟨rfl, hb1⟩
    refine hK.out _ _ (hHeld.below hb1) (fun hHeld => ?_)
    clear hK K
    try simp only [Act.put, List.setIfInBounds_toArray, List.set_cons_zero, List.set_cons_succ]
    refine wpAnyH_ready (rs := [4]) (by kernel_rfl) (by simp) ?_
    refine AllReadyH.cons (o := ⟨some 12, .call { callee := .value (.func 83), args := #[.tmp 8, .tmp 11], argTypes := #[23, 3] }, _, _, _, none⟩) rfl (fun K hK => ?_) AllReadyH.nil
    refine step_ofR (by rfl) ?_
    go_simp
    refine (F2.out _).mono ?_
    rintro e W1 ⟨rfl, hb1⟩
    refine hK.out _ _ (hHeld.below hb1) (fun hHeld => ?_)
    clear hK K
    try simp only [Act.put, List.setIfInBounds_toArray, List.set_cons_zero, List.set_cons_succ]
    refine wpAnyH_take (i := 5) (oi := ⟨some 7, .move (.tmp 12), _, _, _, none⟩) (v := ?_) rfl (by kernel_rfl) (by kernel_rfl) (by kernel_rfl) (fun _ _ _ h => h) (Or.inl ⟨by rfl, ?_⟩) hHeld ?_
    rotate_left
    · intro W _; go_simp; try with_reducible rfl
    try simp only [Act.put, List.setIfInBounds_toArray, List.set_cons_zero, List.set_cons_succ]
    refine wpAnyH_take (i := 6) (oi := ⟨some 13, .extract (.tmp 7) 0, _, _, _, none⟩) (v := ?_) rfl (by kernel_rfl) (by kernel_rfl) (by kernel_rfl) (fun _ _ _ h => h) (Or.inl ⟨by rfl, ?_⟩) hHeld ?_
    rotate_left
    · intro W _; go_simp; try with_reducible rfl
    try simp only [Act.put, List.setIfInBounds_toArray, List.set_cons_zero, List.set_cons_succ]
    refine wpAnyH_take (i := 7) (oi := ⟨some 14, .extract (.tmp 7) 1, _, _, _, none⟩) (v := ?_) rfl (by kernel_rfl) (by kernel_rfl) (by kernel_rfl) (fun _ _ _ h => h) (Or.inl ⟨by rfl, ?_⟩) hHeld ?_
    rotate_left
    · intro W _; go_simp; try with_reducible rfl
    try simp only [Act.put, List.setIfInBounds_toArray, List.set_cons_zero, List.set_cons_succ]
    refine wpAnyH_ready (rs := [8]) (by kernel_rfl) (by simp) ?_
    refine AllReadyH.cons (o := ⟨some 5, .assign (.tmp 13), _, _, _, none⟩) rfl (fun K hK => ?_) AllReadyH.nil
    refine step_ofR (by rfl) ?_
    go_simp
    refine hK.out _ _ (hHeld) (fun hHeld => ?_)
    clear hK K
    try simp only [Act.put, List.setIfInBounds_toArray, List.set_cons_zero, List.set_cons_succ]
    refine wpAnyH_ready (rs := [9]) (by kernel_rfl) (by simp) ?_
    refine AllReadyH.cons (o := ⟨some 6, .assign (.tmp 14), _, _, _, none⟩) rfl (fun K hK => ?_) AllReadyH.nil
    refine step_ofR (by rfl) ?_
    go_simp
    refine hK.out _ _ (hHeld) (fun hHeld => ?_)
    clear hK K
    try simp only [Act.put, List.setIfInBounds_toArray, List.set_cons_zero, List.set_cons_succ]
    refine wpAnyH_done (by kernel_rfl) ?_ _
    -- END 1 4
    go_wp2_with fail
    go_ret
    exact ⟨by rw [HL.out]; simp [hlt], hHeld.bel⟩
end
end Go.Proofs.YtgbhfpkngjlfkaaDoor
