/-
  The walks of package version: copied, Active, Next, At.
-/
import Derived.Test.YtbbckjpgmpfkgaaVer1
namespace Go.Proofs.Ytbbckjpgmpfkgaa
open Go.RowKit

def VsPost (w : World) (l : List Vn) (e : Ending) (w' : World) : Prop := ∃ a m c, Hid (m = l.length) ∧ e = .returned (.slice a m c) ∧ OwnV w' w.heap.size (.slice a m c) l ∧ Below w.heap.size w w'

set_option maxRecDepth 100000 in
theorem copied_any (w : World) (a : Option Addr) (n c : Nat) (l : List Vn) (hr : RdV w a n c l) (hn : n ≤ 1000) : Calls Try.prog 31 #[.slice a n c] w (VsPost w l) := by
  have hlen := Lib.hid hr.len
  have hO := OwnG.nil0 (R := verR) w w.heap.size
  have hsz : ([] : List Vn).length + n ≤ 1000000 := by simp; omega
  go_enter Try.func31, Try.ntmps31
  go_wp2_with ((with_reducible refine wpList_appV (o := ⟨some 4, _, _, _, _, _⟩) ?_ (.const (.slice none 0 0)) (.tmp 3) ?_ ?_ hO ?_ hr hsz (Nat.le_refl _) ?_); rfl; rfl; rfl; rfl; intro a1 c1 w1 hO1 hg1 hx1)
  go_ret
  have e : ([] : List Vn).length + n = l.length := by rw [hlen.out]; simp
  rw [e, hlen.out] at hO1
  exact ⟨a1, n, c1, Lib.hid hlen.out.symm, rfl, by simpa using hO1, (Below.refl _ w).grown hg1 (Nat.le_refl _) (fun k e => by cases e)⟩

def actK (l : List Vn) : ByteArray × Bool := if isB l then ((prevV l l.length).key, !(prevV l l.length).key.toList.isEmpty) else (ByteArray.empty, false)

set_option maxRecDepth 100000 in
theorem active_any (w : World) (a : Option Addr) (n c : Nat) (l : List Vn) (hr : RdV w a n c l) : Calls Try.prog 10 #[.slice a n c] w fun e w' => e = .returned (.tuple #[.string (actK l).1, .bool (actK l).2]) ∧ Below w.heap.size w w' := by
  have CK := Lib.hid (fun W : World => check_any W a n c l)
  have NW := Lib.hid (fun (W : World) (h : RdV W a n c l) => newest_any W a n c l h)
  have hA : actK l = if isB l then ((prevV l n).key, !(prevV l n).key.toList.isEmpty) else (ByteArray.empty, false) := by rw [actK, hr.len]
  have HA := Lib.hid hA
  clear hA
  cases hi : isB l with
  | false =>
    rw [show chkI l = 50 by rw [chkI, hi]; rfl] at CK
    rw [hi] at HA
    go_enter Try.func10, Try.ntmps10
    go_wp2_with fail
    refine (CK.out _ hr).mono ?_
    rintro e w1 ⟨rfl, hB1⟩
    go_wp2_with fail
    go_ret2
    exact ⟨by rw [HA.out]; rfl, hB1⟩
  | true =>
    rw [show chkI l = 0 by rw [chkI, hi]; rfl] at CK
    rw [hi] at HA
    go_enter Try.func10, Try.ntmps10
    go_wp2_with fail
    refine (CK.out _ hr).mono ?_
    rintro e w1 ⟨rfl, hB1⟩
    go_wp2_with fail
    refine (NW.out _ (hr.below hB1)).mono ?_
    rintro e w2 ⟨rfl, hB2⟩
    have hB02 := Bt hB1 hB2
    clear NW CK
    generalize prevV l n = x at *
    go_wp2_with (first | ((with_reducible refine wpList_allocV (o := ⟨some 4, _, _, _, _, _⟩) ?_ ?_ ?_); rfl; rfl; intro w4 hr4 hg4 hz4) | ((with_reducible refine wpList_storeV (o := ⟨none, _, _, _, _, _⟩) ?_ (.tmp 4) (.tmp 9) ?_ x ?_ ?_ hr4 ?_); rfl; rfl; rfl; rfl; intro w5 hr5 hg5 hz5))
    have hB5 : Below w2.heap.size w2 w5 := ((Below.refl _ w2).grown hg4 (Nat.le_refl _) (fun k e => by cases e)).grown hg5 (by omega) (fun k e => by cases e; omega)
    have hB05 := Bt hB02 hB5
    generalize w2.heap.size = B4 at *
    -- REGION active 4
    refine wp_region_held_drew (S := fun W => Below w5.heap.size w5 W) (by kernel_rfl) ((Below.refl _ w5).drew) (fun hHeld => ?_)
    refine wpAnyH_take (i := 0) (oi := ⟨some 10, .fieldAddr 33 (.tmp 4) 2, _, _, _, none⟩) (v := ?_) rfl (by kernel_rfl) (by kernel_rfl) (by kernel_rfl) (fun _ _ _ h => h) (Or.inl ⟨by rfl, ?_⟩) hHeld ?_
    rotate_left
    · intro W _; go_simp; try with_reducible rfl
    try simp only [Act.put, List.setIfInBounds_toArray, List.set_cons_zero, List.set_cons_succ]
    refine wpAnyH_take (i := 1) (oi := ⟨some 11, .load 9 (.tmp 10), _, _, _, none⟩) (v := ?_) rfl (by kernel_rfl) (by kernel_rfl) (by kernel_rfl) (fun _ _ _ h => h) (Or.inl ⟨by rfl, ?_⟩) hHeld ?_
    rotate_left
    · intro W hS; have q0 := (hr5.below hS).v2; go_simp; try with_reducible rfl
    try simp only [Act.put, List.setIfInBounds_toArray, List.set_cons_zero, List.set_cons_succ]
    refine wpAnyH_take (i := 2) (oi := ⟨some 12, .fieldAddr 33 (.tmp 4) 2, _, _, _, none⟩) (v := ?_) rfl (by kernel_rfl) (by kernel_rfl) (by kernel_rfl) (fun _ _ _ h => h) (Or.inl ⟨by rfl, ?_⟩) hHeld ?_
    rotate_left
    · intro W _; go_simp; try with_reducible rfl
    try simp only [Act.put, List.setIfInBounds_toArray, List.set_cons_zero, List.set_cons_succ]
    refine wpAnyH_take (i := 3) (oi := ⟨some 13, .load 9 (.tmp 12), _, _, _, none⟩) (v := ?_) rfl (by kernel_rfl) (by kernel_rfl) (by kernel_rfl) (fun _ _ _ h => h) (Or.inl ⟨by rfl, ?_⟩) hHeld ?_
    rotate_left
    · intro W hS; have q0 := (hr5.below hS).v2; go_simp; try with_reducible rfl
    try simp only [Act.put, List.setIfInBounds_toArray, List.set_cons_zero, List.set_cons_succ]
    refine wpAnyH_take (i := 4) (oi := ⟨some 14, .binOp .neq 9 (.tmp 13) (.const (.string { data := #[] })) 9, _, _, _, none⟩) (v := ?_) rfl (by kernel_rfl) (by kernel_rfl) (by kernel_rfl) (fun _ _ _ h => h) (Or.inl ⟨by rfl, ?_⟩) hHeld ?_
    rotate_left
    · intro W _; go_simp; try with_reducible rfl
    try simp only [Act.put, List.setIfInBounds_toArray, List.set_cons_zero, List.set_cons_succ]
    refine wpAnyH_take (i := 5) (oi := ⟨some 2, .assign (.tmp 11), _, _, _, none⟩) (v := ?_) rfl (by kernel_rfl) (by kernel_rfl) (by kernel_rfl) (fun _ _ _ h => h) (Or.inl ⟨by rfl, ?_⟩) hHeld ?_
    rotate_left
    · intro W _; go_simp; try with_reducible rfl
    try simp only [Act.put, List.setIfInBounds_toArray, List.set_cons_zero, List.set_cons_succ]
    refine wpAnyH_take (i := 6) (oi := ⟨some 3, .assign (.tmp 14), _, _, _, none⟩) (v := ?_) rfl (by kernel_rfl) (by kernel_rfl) (by kernel_rfl) (fun _ _ _ h => h) (Or.inl ⟨by rfl, ?_⟩) hHeld ?_
    rotate_left
    · intro W _; go_simp; try with_reducible rfl
    try simp only [Act.put, List.setIfInBounds_toArray, List.set_cons_zero, List.set_cons_succ]
    refine wpAnyH_done (by kernel_rfl) ?_ _
    -- END active
    go_wp2_with fail
    go_ret2
    exact ⟨by rw [HA.out]; simp, Bt hB05 hHeld⟩

/-- what Next answers beside the list -/
def nextI (l : List Vn) (v : Vn) : Int := if isB l = false then 50 else if refI (prevV l l.length) v ≠ 0 then refI (prevV l l.length) v else if l.length = 16 then 2 else 0
def NxPost (w : World) (l : List Vn) (v : Vn) (e : Ending) (w' : World) : Prop :=
  (nextI l v = 0 ∧ ∃ a c, e = .returned (.tuple #[.slice a (l.length + 1) c, .int .i64 0]) ∧ OwnV w' w.heap.size (.slice a (l.length + 1) c) (l ++ [v]) ∧ Below w.heap.size w w') ∨
  (nextI l v ≠ 0 ∧ e = .returned (.tuple #[.slice none 0 0, .int .i64 (nextI l v)]) ∧ Below w.heap.size w w')
theorem isB_len {l : List Vn} (h : isB l = true) : l.length ≤ 16 := by
  simp only [isB, Bool.and_eq_true, decide_eq_true_eq] at h
  exact h.1

set_option maxRecDepth 100000 in
set_option maxHeartbeats 1000000 in
theorem next_any (w : World) (a : Option Addr) (n c : Nat) (l : List Vn) (hr : RdV w a n c l) (v : Vn) : Calls Try.prog 15 #[.slice a n c, .agg (vc v).toArray] w (NxPost w l v) := by
  have CK := Lib.hid (fun W : World => check_any W a n c l)
  have NW := Lib.hid (fun (W : World) (h : RdV W a n c l) => newest_any W a n c l h)
  have RF := Lib.hid (fun (W : World) => refusal_any W (prevV l n) v)
  have hA : nextI l v = if isB l = false then 50 else if refI (prevV l n) v ≠ 0 then refI (prevV l n) v else if n = 16 then 2 else 0 := by rw [nextI, hr.len]
  have HA := Lib.hid hA
  clear hA
  have hlen := Lib.hid hr.len
  have FN : Hid (∀ (W : World) (e : Ending) (i : Int), nextI l v = i → i ≠ 0 → e = .returned (.tuple #[.slice none 0 0, .int .i64 i]) → Below w.heap.size w W → NxPost w l v e W) := Lib.hid (fun W e i h1 h2 h3 h4 => .inr ⟨by rw [h1]; exact h2, by rw [h1]; exact h3, h4⟩)
  have FY : Hid (∀ (W : World) (e : Ending) a c, nextI l v = 0 → e = .returned (.tuple #[.slice a (n + 1) c, .int .i64 0]) → OwnV W w.heap.size (.slice a (n + 1) c) (l ++ [v]) → Below w.heap.size w W → NxPost w l v e W) := Lib.hid (fun W e a c h1 h2 h3 h4 => by rw [← hlen.out] at h2 h3; exact .inl ⟨h1, a, c, h2, h3, h4⟩)
  have hS := VAt.start w v
  generalize NxPost w l v = RP at *
  cases hi : isB l with
  | false =>
    rw [show chkI l = 50 by rw [chkI, hi]; rfl] at CK
    have HN : Hid (nextI l v = 50) := Lib.hid (by rw [HA.out, hi]; rfl)
    have hB0 := hS.bel
    clear hS
    generalize vc v = vs at *
    go_enter Try.func15, Try.ntmps15
    go_wp2_with fail
    refine (CK.out _ (hr.below hB0)).mono ?_
    rintro e w1 ⟨rfl, hB1⟩
    go_wp2_with fail
    exact FN.out _ _ 50 HN.out (by decide) rfl (Bt hB0 hB1)
  | true =>
    have h16 := isB_len hi
    rw [hlen.out] at h16
    rw [show chkI l = 0 by rw [chkI, hi]; rfl] at CK
    have HA2 : Hid (nextI l v = if refI (prevV l n) v ≠ 0 then refI (prevV l n) v else if n = 16 then 2 else 0) := Lib.hid (by rw [HA.out, hi, if_neg (by simp)])
    have CP := Lib.hid (fun (W : World) (h : RdV W a n c l) => copied_any W a n c l h (by omega))
    clear HA
    have hB0 := hS.bel
    have hb0 := hS.blk
    clear hS
    generalize refI (prevV l n) v = r at *
    go_enter Try.func15, Try.ntmps15
    go_wp2_with fail
    refine (CK.out _ (hr.below hB0)).mono ?_
    rintro e w1 ⟨rfl, hB1⟩
    have hb1 := hb0.below hB1
    have hB01 := Bt hB0 hB1
    have NW1 := Lib.hid (fun (W : World) (h : Below w1.heap.size w1 W) => NW.out W (hr.below (Bt hB01 h)))
    generalize hB3 : w.heap.size = B3 at *
    clear NW CK hb0
    by_cases hr0 : r = 0
    · subst hr0
      go_wp2_with fail
      -- REGION next4 6
      refine wp_region_held_drew (S := fun W => Below w1.heap.size w1 W) (by kernel_rfl) ((Below.refl _ w1).drew) (fun hHeld => ?_)
      refine wpAnyH_take (i := 0) (oi := ⟨some 13, .move (.tmp 0), _, _, _, none⟩) (v := ?_) rfl (by kernel_rfl) (by kernel_rfl) (by kernel_rfl) (fun _ _ _ h => h) (Or.inl ⟨by rfl, ?_⟩) hHeld ?_
      rotate_left
      · intro W _; go_simp; try with_reducible rfl
      try simp only [Act.put, List.setIfInBounds_toArray, List.set_cons_zero, List.set_cons_succ]
      refine wpAnyH_take (i := 2) (oi := ⟨some 15, .load 33 (.tmp 3), _, _, _, none⟩) (v := .agg (vc v).toArray) rfl (by kernel_rfl) (by kernel_rfl) (by kernel_rfl) (fun _ _ _ h => h) (yieldsIf_loadV (by rfl) B3 0 _ rfl rfl (fun W hS => (hb1.below hS).vr)) hHeld ?_
      try simp only [Act.put, List.setIfInBounds_toArray, List.set_cons_zero, List.set_cons_succ]
      refine wpAnyH_ready (rs := [1]) (by kernel_rfl) (by simp) ?_
      refine AllReadyH.cons (o := ⟨some 14, .call { callee := .value (.func 27), args := #[.tmp 13], argTypes := #[22] }, _, _, _, none⟩) rfl (fun K hK => ?_) AllReadyH.nil
      refine step_ofR (by rfl) ?_
      go_simp
      refine (NW1.out _ hHeld).mono ?_
      rintro x W1 ⟨rfl, hB2⟩
      refine hK.out _ _ (Bt hHeld hB2) (fun hHeld => ?_)
      clear hK K
      try simp only [Act.put, List.setIfInBounds_toArray, List.set_cons_zero, List.set_cons_succ]
      refine wpAnyH_ready (rs := [3]) (by kernel_rfl) (by simp) ?_
      refine AllReadyH.cons (o := ⟨some 16, .call { callee := .value (.func 26), args := #[.tmp 14, .tmp 15], argTypes := #[33, 33] }, _, _, _, none⟩) rfl (fun K hK => ?_) AllReadyH.nil
      refine step_ofR (by rfl) ?_
      go_simp
      refine (RF.out _).mono ?_
      rintro x W1 ⟨rfl, hB2⟩
      refine hK.out _ _ (Bt hHeld hB2) (fun hHeld => ?_)
      clear hK K
      try simp only [Act.put, List.setIfInBounds_toArray, List.set_cons_zero, List.set_cons_succ]
      refine wpAnyH_take (i := 4) (oi := ⟨some 7, .assign (.tmp 16), _, _, _, none⟩) (v := ?_) rfl (by kernel_rfl) (by kernel_rfl) (by kernel_rfl) (fun _ _ _ h => h) (Or.inl ⟨by rfl, ?_⟩) hHeld ?_
      rotate_left
      · intro W _; go_simp; try with_reducible rfl
      try simp only [Act.put, List.setIfInBounds_toArray, List.set_cons_zero, List.set_cons_succ]
      refine wpAnyH_done (by kernel_rfl) ?_ _
      -- END next4
      have hb6 := hb1.below hHeld
      have hr6 := hr.below (show Below w.heap.size w W1 by rw [← hB3] at hB01; exact Bt hB01 hHeld)
      have hB6 : Below B3 w W1 := by rw [← hB3] at hB01 ⊢; exact Bt hB01 hHeld
      have hs6 : B3 ≤ W1.heap.size := by have := hB6.size; omega
      have CP1 := Lib.hid (fun (W : World) (h : Below W1.heap.size W1 W) => CP.out W (hr6.below h))
      clear NW1 RF CP hB0 hB1 hB01 hb1 hHeld hB2
      by_cases h17 : n = 16
      · have hn1 : ((n : Int) == 16) = true := by simp; omega
        have HN : Hid (nextI l v = 2) := Lib.hid (by rw [HA2.out, if_neg (by simp), if_pos h17])
        go_wp2_with fail
        exact FN.out _ _ 2 HN.out (by decide) rfl hB6
      · have hn1 : ((n : Int) == 16) = false := by simp; omega
        have HN : Hid (nextI l v = 0) := Lib.hid (by rw [HA2.out, if_neg (by simp), if_neg h17])
        have hln : l.length + 1 ≤ 1000000 := by have := hlen.out; omega
        go_wp2_with fail
        -- REGION next9 8
        refine wp_region_held_drew (S := fun W => Below W1.heap.size W1 W) (by kernel_rfl) ((Below.refl _ W1).drew) (fun hHeld => ?_)
        refine wpAnyH_take (i := 0) (oi := ⟨some 23, .move (.tmp 0), _, _, _, none⟩) (v := ?_) rfl (by kernel_rfl) (by kernel_rfl) (by kernel_rfl) (fun _ _ _ h => h) (Or.inl ⟨by rfl, ?_⟩) hHeld ?_
        rotate_left
        · intro W _; go_simp; try with_reducible rfl
        try simp only [Act.put, List.setIfInBounds_toArray, List.set_cons_zero, List.set_cons_succ]
        refine wpAnyH_take (i := 2) (oi := ⟨some 25, .load 33 (.tmp 3), _, _, _, none⟩) (v := .agg (vc v).toArray) rfl (by kernel_rfl) (by kernel_rfl) (by kernel_rfl) (fun _ _ _ h => h) (yieldsIf_loadV (by rfl) B3 0 _ rfl rfl (fun W hS => (hb6.below hS).vr)) hHeld ?_
        try simp only [Act.put, List.setIfInBounds_toArray, List.set_cons_zero, List.set_cons_succ]
        refine wpAnyH_ready (rs := [1, 3]) (by kernel_rfl) (by simp) ?_
        refine AllReadyH.cons (o := ⟨some 24, .call { callee := .value (.func 31), args := #[.tmp 23], argTypes := #[22] }, _, _, _, none⟩) rfl (fun K hK => ?_) (AllReadyH.cons (o := ⟨some 26, .buildSlice 22 1 #[(0, .tmp 25)], _, _, _, none⟩) rfl (fun K hK => ?_) AllReadyH.nil)
        · refine step_ofR (by rfl) ?_
          go_simp
          refine (CP1.out _ hHeld).mono ?_
          rintro x W2 ⟨a2, m2, c2, hm2, rfl, hO2, hB2⟩
          obtain rfl := hm2.out
          have hb0 := hHeld.size
          refine hK.out _ _ (Bt hHeld hB2) (fun hHeld => ?_)
          clear hK K
          try simp only [Act.put, List.setIfInBounds_toArray, List.set_cons_zero, List.set_cons_succ]
          refine wpAnyH_ready (rs := [3]) (by kernel_rfl) (by simp) ?_
          refine AllReadyH.cons (o := ⟨some 26, .buildSlice 22 1 #[(0, .tmp 25)], _, _, _, none⟩) rfl (fun K hK => ?_) AllReadyH.nil
          refine step_ofR (by rfl) ?_
          refine wp_oneV (.tmp 25) rfl v rfl ?_
          intro W3 hR3 hB3 hz3
          refine hK.out _ _ (Bt hHeld hB3) (fun hHeld => ?_)
          clear hK K
          try simp only [Act.put, List.setIfInBounds_toArray, List.set_cons_zero, List.set_cons_succ]
          have hO3 := (hO2.below hB3).lower hb0
          have hb3 := hHeld.size
          refine wpAnyH_ready (rs := [4]) (by kernel_rfl) (by simp) ?_
          refine AllReadyH.cons (o := ⟨some 27, .call { callee := .builtin .append, args := #[.tmp 24, .tmp 26], argTypes := #[22, 22] }, _, _, _, none⟩) rfl (fun K hK => ?_) AllReadyH.nil
          refine step_ofR (by rfl) ?_
          refine wp_appV (.tmp 24) (.tmp 26) rfl rfl hO3 rfl hR3 hln hb3 ?_
          intro a4 c4 W4 hO4 hg4 hx4
          refine hK.out _ _ (hHeld.grown hg4 hb3 (fun k e => (hO3.lt e).1)) (fun hHeld => ?_)
          clear hK K
          try simp only [Act.put, List.setIfInBounds_toArray, List.set_cons_zero, List.set_cons_succ]
          refine wpAnyH_take (i := 5) (oi := ⟨some 4, .assign (.tmp 27), _, _, _, none⟩) (v := ?_) rfl (by kernel_rfl) (by kernel_rfl) (by kernel_rfl) (fun _ _ _ h => h) (Or.inl ⟨by rfl, ?_⟩) hHeld ?_
          rotate_left
          · intro W _; go_simp; try with_reducible rfl
          try simp only [Act.put, List.setIfInBounds_toArray, List.set_cons_zero, List.set_cons_succ]
          refine wpAnyH_take (i := 6) (oi := ⟨some 5, .assign (.const (.int .i64 0)), _, _, _, none⟩) (v := ?_) rfl (by kernel_rfl) (by kernel_rfl) (by kernel_rfl) (fun _ _ _ h => h) (Or.inl ⟨by rfl, ?_⟩) hHeld ?_
          rotate_left
          · intro W _; go_simp; try with_reducible rfl
          try simp only [Act.put, List.setIfInBounds_toArray, List.set_cons_zero, List.set_cons_succ]
          refine wpAnyH_done (by kernel_rfl) ?_ _
          go_wp2_with fail
          exact FY.out _ _ a4 c4 HN.out (by rw [hlen.out]) (by rw [hlen.out] at hO4; exact hO4.lower hs6) (hB6.trans (hHeld.mono hs6))
        · refine step_ofR (by rfl) ?_
          refine wp_oneV (.tmp 25) rfl v rfl ?_
          intro W2 hR2 hB2 hz2
          refine hK.out _ _ (Bt hHeld hB2) (fun hHeld => ?_)
          clear hK K
          try simp only [Act.put, List.setIfInBounds_toArray, List.set_cons_zero, List.set_cons_succ]
          refine wpAnyH_ready (rs := [1]) (by kernel_rfl) (by simp) ?_
          refine AllReadyH.cons (o := ⟨some 24, .call { callee := .value (.func 31), args := #[.tmp 23], argTypes := #[22] }, _, _, _, none⟩) rfl (fun K hK => ?_) AllReadyH.nil
          refine step_ofR (by rfl) ?_
          go_simp
          have hb0 := hHeld.size
          refine (CP1.out _ hHeld).mono ?_
          rintro x W3 ⟨a2, m2, c2, hm2, rfl, hO2, hB3⟩
          obtain rfl := hm2.out
          refine hK.out _ _ (Bt hHeld hB3) (fun hHeld => ?_)
          clear hK K
          try simp only [Act.put, List.setIfInBounds_toArray, List.set_cons_zero, List.set_cons_succ]
          have hO3 := hO2.lower hb0
          have hR3 := hR2.below hB3
          have hb3 := hHeld.size
          refine wpAnyH_ready (rs := [4]) (by kernel_rfl) (by simp) ?_
          refine AllReadyH.cons (o := ⟨some 27, .call { callee := .builtin .append, args := #[.tmp 24, .tmp 26], argTypes := #[22, 22] }, _, _, _, none⟩) rfl (fun K hK => ?_) AllReadyH.nil
          refine step_ofR (by rfl) ?_
          refine wp_appV (.tmp 24) (.tmp 26) rfl rfl hO3 rfl hR3 hln hb3 ?_
          intro a4 c4 W4 hO4 hg4 hx4
          refine hK.out _ _ (hHeld.grown hg4 hb3 (fun k e => (hO3.lt e).1)) (fun hHeld => ?_)
          clear hK K
          try simp only [Act.put, List.setIfInBounds_toArray, List.set_cons_zero, List.set_cons_succ]
          refine wpAnyH_take (i := 5) (oi := ⟨some 4, .assign (.tmp 27), _, _, _, none⟩) (v := ?_) rfl (by kernel_rfl) (by kernel_rfl) (by kernel_rfl) (fun _ _ _ h => h) (Or.inl ⟨by rfl, ?_⟩) hHeld ?_
          rotate_left
          · intro W _; go_simp; try with_reducible rfl
          try simp only [Act.put, List.setIfInBounds_toArray, List.set_cons_zero, List.set_cons_succ]
          refine wpAnyH_take (i := 6) (oi := ⟨some 5, .assign (.const (.int .i64 0)), _, _, _, none⟩) (v := ?_) rfl (by kernel_rfl) (by kernel_rfl) (by kernel_rfl) (fun _ _ _ h => h) (Or.inl ⟨by rfl, ?_⟩) hHeld ?_
          rotate_left
          · intro W _; go_simp; try with_reducible rfl
          try simp only [Act.put, List.setIfInBounds_toArray, List.set_cons_zero, List.set_cons_succ]
          refine wpAnyH_done (by kernel_rfl) ?_ _
          go_wp2_with fail
          exact FY.out _ _ a4 c4 HN.out (by rw [hlen.out]) (by rw [hlen.out] at hO4; exact hO4.lower hs6) (hB6.trans (hHeld.mono hs6))
        -- END next9
    · have hr1 : (r != 0) = true := by simpa using hr0
      have HN : Hid (nextI l v = r) := Lib.hid (by rw [HA2.out, if_pos hr0])
      go_wp2_with fail
      -- REGION next4 6
      refine wp_region_held_drew (S := fun W => Below w1.heap.size w1 W) (by kernel_rfl) ((Below.refl _ w1).drew) (fun hHeld => ?_)
      refine wpAnyH_take (i := 0) (oi := ⟨some 13, .move (.tmp 0), _, _, _, none⟩) (v := ?_) rfl (by kernel_rfl) (by kernel_rfl) (by kernel_rfl) (fun _ _ _ h => h) (Or.inl ⟨by rfl, ?_⟩) hHeld ?_
      rotate_left
      · intro W _; go_simp; try with_reducible rfl
      try simp only [Act.put, List.setIfInBounds_toArray, List.set_cons_zero, List.set_cons_succ]
      refine wpAnyH_take (i := 2) (oi := ⟨some 15, .load 33 (.tmp 3), _, _, _, none⟩) (v := .agg (vc v).toArray) rfl (by kernel_rfl) (by kernel_rfl) (by kernel_rfl) (fun _ _ _ h => h) (yieldsIf_loadV (by rfl) B3 0 _ rfl rfl (fun W hS => (hb1.below hS).vr)) hHeld ?_
      try simp only [Act.put, List.setIfInBounds_toArray, List.set_cons_zero, List.set_cons_succ]
      refine wpAnyH_ready (rs := [1]) (by kernel_rfl) (by simp) ?_
      refine AllReadyH.cons (o := ⟨some 14, .call { callee := .value (.func 27), args := #[.tmp 13], argTypes := #[22] }, _, _, _, none⟩) rfl (fun K hK => ?_) AllReadyH.nil
      refine step_ofR (by rfl) ?_
      go_simp
      refine (NW1.out _ hHeld).mono ?_
      rintro x W1 ⟨rfl, hB2⟩
      refine hK.out _ _ (Bt hHeld hB2) (fun hHeld => ?_)
      clear hK K
      try simp only [Act.put, List.setIfInBounds_toArray, List.set_cons_zero, List.set_cons_succ]
      refine wpAnyH_ready (rs := [3]) (by kernel_rfl) (by simp) ?_
      refine AllReadyH.cons (o := ⟨some 16, .call { callee := .value (.func 26), args := #[.tmp 14, .tmp 15], argTypes := #[33, 33] }, _, _, _, none⟩) rfl (fun K hK => ?_) AllReadyH.nil
      refine step_ofR (by rfl) ?_
      go_simp
      refine (RF.out _).mono ?_
      rintro x W1 ⟨rfl, hB2⟩
      refine hK.out _ _ (Bt hHeld hB2) (fun hHeld => ?_)
      clear hK K
      try simp only [Act.put, List.setIfInBounds_toArray, List.set_cons_zero, List.set_cons_succ]
      refine wpAnyH_take (i := 4) (oi := ⟨some 7, .assign (.tmp 16), _, _, _, none⟩) (v := ?_) rfl (by kernel_rfl) (by kernel_rfl) (by kernel_rfl) (fun _ _ _ h => h) (Or.inl ⟨by rfl, ?_⟩) hHeld ?_
      rotate_left
      · intro W _; go_simp; try with_reducible rfl
      try simp only [Act.put, List.setIfInBounds_toArray, List.set_cons_zero, List.set_cons_succ]
      refine wpAnyH_done (by kernel_rfl) ?_ _
      -- END next4
      go_wp2_with fail
      exact FN.out _ _ r HN.out hr0 rfl (by rw [← hB3] at hB01 ⊢; exact Bt hB01 hHeld)

/-- so many of the list lie no later than the epoch, from the beginning on -/
def upto (l : List Vn) (ep : Int) : List Vn := l.takeWhile fun v => decide (v.ep ≤ ep)
def atL (l : List Vn) (ep : Int) : List Vn := if isB l then upto l ep else []
def early (l : List Vn) (ep : Int) (k : Nat) : Prop := ∀ x ∈ l.take k, decide (x.ep ≤ ep) = true
theorem early_step {l : List Vn} {ep : Int} {k : Nat} (hk : k < l.length) (h : early l ep k) (hx : (l.getD k vn0).ep ≤ ep) : early l ep (k + 1) := by
  have e : l.getD k vn0 = l[k] := by simp [List.getD, hk]
  rw [e] at hx
  intro x hm
  rw [List.take_succ_eq_append_getElem hk] at hm
  rcases List.mem_append.1 hm with h1 | h1
  · exact h x h1
  · obtain rfl : x = l[k] := by simpa using h1
    simpa using hx
theorem upto_stop {l : List Vn} {ep : Int} {k : Nat} (hk : k < l.length) (h : early l ep k) (hx : ¬ (l.getD k vn0).ep ≤ ep) : upto l ep = l.take k := by
  have e : l.getD k vn0 = l[k] := by simp [List.getD, hk]
  rw [e] at hx
  have e2 : l = l.take k ++ l[k] :: l.drop (k + 1) := by rw [← List.drop_eq_getElem_cons hk, List.take_append_drop]
  have e3 : upto (l.take k ++ l[k] :: l.drop (k + 1)) ep = l.take k := by
    unfold upto
    rw [List.takeWhile_append_of_pos h, List.takeWhile_cons_of_neg (by simpa using hx), List.append_nil]
  rwa [← e2] at e3
theorem upto_all {l : List Vn} {ep : Int} (h : early l ep l.length) : upto l ep = l := by
  unfold early at h
  rw [List.take_length] at h
  have := List.takeWhile_append_of_pos (l₂ := []) h
  simpa [upto] using this

set_option maxRecDepth 100000 in
set_option maxHeartbeats 1000000 in
theorem at_any (w : World) (a : Option Addr) (n c : Nat) (l : List Vn) (hr : RdV w a n c l) (ep : Int) : Calls Try.prog 18 #[.slice a n c, .int .i64 ep] w (VsPost w (atL l ep)) := by
  have CK := Lib.hid (fun W : World => check_any W a n c l)
  have hlen := Lib.hid hr.len
  cases hi : isB l with
  | false =>
    rw [show chkI l = 50 by rw [chkI, hi]; rfl] at CK
    have HN : Hid (atL l ep = []) := Lib.hid (by rw [atL, hi]; rfl)
    go_enter Try.func18, Try.ntmps18
    go_wp2_with fail
    refine (CK.out _ hr).mono ?_
    rintro e w1 ⟨rfl, hB1⟩
    go_wp2_with fail
    go_ret
    exact ⟨none, 0, 0, Lib.hid (by rw [HN.out]; rfl), rfl, by rw [HN.out]; exact OwnG.nil0 _ _, hB1⟩
  | true =>
    rw [show chkI l = 0 by rw [chkI, hi]; rfl] at CK
    have h16 := isB_len hi
    rw [hlen.out] at h16
    have HN : Hid (atL l ep = upto l ep) := Lib.hid (by rw [atL, hi]; rfl)
    have hS : ∀ i : Nat, i < n → ∃ b off, a = some ⟨b, off, none⟩ ∧ ∀ W, Below w.heap.size w W → W.cell? ⟨b, off + i * 3, none⟩ = some (.int .i64 (l.getD i vn0).ep) := fun i h => by
      obtain ⟨b, off, h1, h2, h3⟩ := RdV.elems hr (by omega)
      exact ⟨b, off, h1, fun W hB => vr_ep (range_below hB (h3 i h))⟩
    have HS := Lib.hid hS
    have HR := Lib.hid hr
    have hcap := hr.cap
    have hm := hr.max
    clear hS
    go_enter Try.func18, Try.ntmps18
    go_wp2_with fail
    refine (CK.out _ hr).mono ?_
    rintro e w1 ⟨rfl, hB1⟩
    clear CK
    go_wp2_with fail
    go_loopw [5] (fun i wr => ∃ k : Nat, k ≤ n ∧ i = .int .i64 (k : Int) ∧ Hid (early l ep k) ∧ wr = w1) (fun i _ => n - (intOf i).toNat)
    case atStart => exact ⟨0, by omega, rfl, Lib.hid (fun x hx => by simp at hx), rfl⟩
    case round =>
      obtain ⟨k, hk, rfl, HA, rfl⟩ := hrel
      by_cases hlt : k < n
      · obtain ⟨b, off, rfl, h3⟩ := HS.out k hlt
        have hc := h3 _ hB1
        have hkl : (k : Int) < (n : Int) := by omega
        by_cases hx : (l.getD k vn0).ep ≤ ep
        · have HX := Lib.hid (early_step (by rw [hlen.out]; exact hlt) HA.out hx)
          generalize (l.getD k vn0).ep = y at *
          clear h3
          go_wp2_with fail
          go_roundw
          case rel => exact ⟨k + 1, by omega, by go_num, HX, by first | exact trivial | rfl⟩
          case measure => simp [intOf]; omega
        · have HX := Lib.hid (upto_stop (by rw [hlen.out]; exact hlt) HA.out hx)
          have CP := Lib.hid (fun (W : World) (h : RdV W (some ⟨b, off, none⟩) k c (l.take k)) => copied_any W (some ⟨b, off, none⟩) k c (l.take k) h (by omega))
          have hkc : k ≤ c := by omega
          have hR := (HR.out.below hB1).take k hk
          generalize (l.getD k vn0).ep = y at *
          clear h3
          go_wp2_with fail
          refine (CP.out _ hR).mono ?_
          rintro e w2 ⟨a2, m2, c2, hm2, rfl, hO2, hB2⟩
          go_wp2_with fail
          go_ret
          have hB := Bt hB1 hB2
          exact ⟨a2, m2, c2, Lib.hid (by rw [HN.out, HX.out]; exact hm2.out), rfl, by rw [HN.out, HX.out]; exact hO2.lower hB1.size, hB⟩
      · obtain rfl : k = n := by omega
        have hkl : ¬ (k : Int) < (k : Int) := by omega
        have HX : Hid (upto l ep = l) := Lib.hid (upto_all (by rw [hlen.out]; exact HA.out))
        have hR := HR.out.below hB1
        have CP := Lib.hid (fun (W : World) (h : RdV W a k c l) => copied_any W a k c l h (by omega))
        go_wp2_with fail
        refine (CP.out _ hR).mono ?_
        rintro e w2 ⟨a2, m2, c2, hm2, rfl, hO2, hB2⟩
        go_wp2_with fail
        go_ret
        have hB := Bt hB1 hB2
        exact ⟨a2, m2, c2, Lib.hid (by rw [HN.out, HX.out]; exact hm2.out), rfl, by rw [HN.out, HX.out]; exact hO2.lower hB1.size, hB⟩
end Go.Proofs.Ytbbckjpgmpfkgaa
