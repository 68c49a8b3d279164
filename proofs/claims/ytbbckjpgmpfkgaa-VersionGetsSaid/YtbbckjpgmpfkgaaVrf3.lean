/-
  The walks of the document's answers for package version: Next.
-/
import Derived.Test.YtbbckjpgmpfkgaaVrf2
namespace Go.Proofs.Ytbbckjpgmpfkgaa
open Go.RowKit

set_option maxRecDepth 100000 in
set_option maxHeartbeats 2000000 in
theorem nextR_any (w : World) (a : Option Addr) (n c : Nat) (l : List Vn) (hr : RdV w a n c l) (hn : n ≤ 1000) (v : Vn) : Calls Try.prog 16 #[.slice a n c, .agg (vc v).toArray] w (NxPost w l v) := by
  have IS := Lib.hid (fun W : World => fun h => isR_any W a n c l h hn)
  have AC := Lib.hid (fun W : World => fun h => activeR_any W a n c l h hn)
  have MY := Lib.hid (fun (W : World) => may_any W v)
  have hlen := Lib.hid hr.len
  have FN : Hid (∀ (W : World) (e : Ending) (i : Int), nextI l v = i → i ≠ 0 → e = .returned (.tuple #[.slice none 0 0, .int .i64 i]) → Below w.heap.size w W → NxPost w l v e W) := Lib.hid (fun W e i h1 h2 h3 h4 => .inr ⟨by rw [h1]; exact h2, by rw [h1]; exact h3, h4⟩)
  have FY : Hid (∀ (W : World) (e : Ending) a c, nextI l v = 0 → e = .returned (.tuple #[.slice a (n + 1) c, .int .i64 0]) → OwnV W w.heap.size (.slice a (n + 1) c) (l ++ [v]) → Below w.heap.size w W → NxPost w l v e W) := Lib.hid (fun W e a c h1 h2 h3 h4 => by rw [← hlen.out] at h2 h3; exact .inl ⟨h1, a, c, h2, h3, h4⟩)
  have HNO : Hid (isB l = false ∨ mayB v = false ∨ v.ep < (prevV l n).ep → nextI l v = 50) := Lib.hid (fun h => nextI_no (by rw [hlen.out]; exact h))
  have HXX : Hid (isB l = true → mayB v = true → (prevV l n).ep ≤ v.ep → (((actK l).2 = true → v.kd = 1 → nextI l v = 51) ∧ ((actK l).2 = false → v.kd = 1 → nextI l v = if n = 16 then 2 else 0) ∧ ((actK l).2 = false → ¬ v.kd = 1 → nextI l v = 52) ∧ ((actK l).2 = true → ¬ v.kd = 1 → nextI l v = if n = 16 then 2 else 0))) := Lib.hid (fun h1 h2 h3 => by have := NextX.mk' h1 h2 (by rw [hlen.out]; omega); rwa [hlen.out] at this)
  have hS := VAt.start w v
  have hB00 := hS.bel
  have hb00 := hS.blk
  clear hS
  have HL16 : Hid (isB l = true → n ≤ 16) := Lib.hid (fun h => by rw [← hlen.out]; exact isB_len h)
  generalize NxPost w l v = RP at *
  generalize (actK l).2 = act at *
  generalize (actK l).1 = key at *
  go_enter Try.func16, Try.ntmps16
  go_wp2_with fail
  refine (AC.out _ (hr.below hB00)).mono ?_
  rintro e w1 ⟨rfl, hB1⟩
  have hb0 := hb00.below hB1
  have hB01 := Bt hB00 hB1
  have hs01 : w.heap.size ≤ w1.heap.size := hB01.size
  have IS1 := Lib.hid (fun (W : World) (h : Below w1.heap.size w1 W) => IS.out W (hr.below (Bt hB01 h)))
  clear IS AC hB00 hb00 hB1
  cases hi : isB l with
  | false =>
    rw [hi] at IS1
    have HE := Lib.hid (HNO.out (.inl hi))
    go_wp2_with fail
    -- REGION nextA 4
    refine wp_region_held_drew (S := fun W => Below w1.heap.size w1 W) (by kernel_rfl) ((Below.refl _ w1).drew) (fun hHeld => ?_)
    refine wpAnyH_take (i := 0) (oi := ⟨some 15, .move (.tmp 0), _, _, _, none⟩) (v := ?_) rfl (by kernel_rfl) (by kernel_rfl) (by kernel_rfl) (fun _ _ _ h => h) (Or.inl ⟨by rfl, ?_⟩) hHeld ?_
    rotate_left
    · intro W _; go_simp; try with_reducible rfl
    try simp only [Act.put, List.setIfInBounds_toArray, List.set_cons_zero, List.set_cons_succ]
    refine wpAnyH_ready (rs := [1]) (by kernel_rfl) (by simp) ?_
    refine AllReadyH.cons (o := ⟨some 16, .call { callee := .value (.func 13), args := #[.tmp 15], argTypes := #[22] }, _, _, _, none⟩) rfl (fun K hK => ?_) AllReadyH.nil
    refine step_ofR (by rfl) ?_
    go_simp
    refine (IS1.out _ hHeld).mono ?_
    rintro x W1 ⟨rfl, hB2⟩
    refine hK.out _ _ (Bt hHeld hB2) (fun hHeld => ?_)
    clear hK K
    try simp only [Act.put, List.setIfInBounds_toArray, List.set_cons_zero, List.set_cons_succ]
    refine wpAnyH_take (i := 2) (oi := ⟨some 17, .unOp .not 4 (.tmp 16), _, _, _, none⟩) (v := ?_) rfl (by kernel_rfl) (by kernel_rfl) (by kernel_rfl) (fun _ _ _ h => h) (Or.inl ⟨by rfl, ?_⟩) hHeld ?_
    rotate_left
    · intro W _; go_simp; try with_reducible rfl
    try simp only [Act.put, List.setIfInBounds_toArray, List.set_cons_zero, List.set_cons_succ]
    refine wpAnyH_take (i := 3) (oi := ⟨some 18, .move (.tmp 17), _, _, _, none⟩) (v := ?_) rfl (by kernel_rfl) (by kernel_rfl) (by kernel_rfl) (fun _ _ _ h => h) (Or.inl ⟨by rfl, ?_⟩) hHeld ?_
    rotate_left
    · intro W _; go_simp; try with_reducible rfl
    try simp only [Act.put, List.setIfInBounds_toArray, List.set_cons_zero, List.set_cons_succ]
    refine wpAnyH_take (i := 4) (oi := ⟨some 19, .load 33 (.tmp 3), _, _, _, some (3, false)⟩) (v := undef) rfl (by kernel_rfl) (by kernel_rfl) (by kernel_rfl) (fun _ _ _ h => h) (Or.inr ⟨by rfl, rfl⟩) hHeld ?_
    try simp only [Act.put, List.setIfInBounds_toArray, List.set_cons_zero, List.set_cons_succ]
    refine wpAnyH_ready (rs := [5]) (by kernel_rfl) (by simp) ?_
    refine AllReadyH.cons (o := ⟨some 20, .call { callee := .value (.func 29), args := #[.tmp 19], argTypes := #[33] }, _, _, _, some (3, false)⟩) rfl (fun K hK => ?_) AllReadyH.nil
    refine step_skipR (by rfl) ?_
    refine hK.out _ _ (hHeld) (fun hHeld => ?_)
    clear hK K
    try simp only [Act.put, List.setIfInBounds_toArray, List.set_cons_zero, List.set_cons_succ]
    refine wpAnyH_take (i := 6) (oi := ⟨some 21, .unOp .not 4 (.tmp 20), _, _, _, some (3, false)⟩) (v := undef) rfl (by kernel_rfl) (by kernel_rfl) (by kernel_rfl) (fun _ _ _ h => h) (Or.inr ⟨by rfl, rfl⟩) hHeld ?_
    try simp only [Act.put, List.setIfInBounds_toArray, List.set_cons_zero, List.set_cons_succ]
    refine wpAnyH_take (i := 7) (oi := ⟨some 22, .pick (.tmp 18) (.const (.bool true)) (.tmp 21), _, _, _, none⟩) (v := ?_) rfl (by kernel_rfl) (by kernel_rfl) (by kernel_rfl) (fun _ _ _ h => h) (Or.inl ⟨by rfl, ?_⟩) hHeld ?_
    rotate_left
    · intro W _; go_simp; try with_reducible rfl
    try simp only [Act.put, List.setIfInBounds_toArray, List.set_cons_zero, List.set_cons_succ]
    refine wpAnyH_take (i := 8) (oi := ⟨some 23, .move (.tmp 22), _, _, _, none⟩) (v := ?_) rfl (by kernel_rfl) (by kernel_rfl) (by kernel_rfl) (fun _ _ _ h => h) (Or.inl ⟨by rfl, ?_⟩) hHeld ?_
    rotate_left
    · intro W _; go_simp; try with_reducible rfl
    try simp only [Act.put, List.setIfInBounds_toArray, List.set_cons_zero, List.set_cons_succ]
    refine wpAnyH_take (i := 9) (oi := ⟨some 24, .move (.tmp 0), _, _, _, some (8, false)⟩) (v := undef) rfl (by kernel_rfl) (by kernel_rfl) (by kernel_rfl) (fun _ _ _ h => h) (Or.inr ⟨by rfl, rfl⟩) hHeld ?_
    try simp only [Act.put, List.setIfInBounds_toArray, List.set_cons_zero, List.set_cons_succ]
    refine wpAnyH_take (i := 10) (oi := ⟨some 25, .call { callee := .builtin .len, args := #[.tmp 24], argTypes := #[22] }, _, _, _, some (8, false)⟩) (v := undef) rfl (by kernel_rfl) (by kernel_rfl) (by kernel_rfl) (fun _ _ _ h => h) (Or.inr ⟨by rfl, rfl⟩) hHeld ?_
    try simp only [Act.put, List.setIfInBounds_toArray, List.set_cons_zero, List.set_cons_succ]
    refine wpAnyH_take (i := 11) (oi := ⟨some 26, .binOp .gtr 3 (.tmp 25) (.const (.int .i64 0)) 3, _, _, _, some (8, false)⟩) (v := undef) rfl (by kernel_rfl) (by kernel_rfl) (by kernel_rfl) (fun _ _ _ h => h) (Or.inr ⟨by rfl, rfl⟩) hHeld ?_
    try simp only [Act.put, List.setIfInBounds_toArray, List.set_cons_zero, List.set_cons_succ]
    refine wpAnyH_take (i := 12) (oi := ⟨some 27, .move (.tmp 26), _, _, _, some (8, false)⟩) (v := undef) rfl (by kernel_rfl) (by kernel_rfl) (by kernel_rfl) (fun _ _ _ h => h) (Or.inr ⟨by rfl, rfl⟩) hHeld ?_
    try simp only [Act.put, List.setIfInBounds_toArray, List.set_cons_zero, List.set_cons_succ]
    refine wpAnyH_take (i := 13) (oi := ⟨some 28, .fieldAddr 33 (.tmp 3) 0, _, _, _, some (12, true)⟩) (v := undef) rfl (by kernel_rfl) (by kernel_rfl) (by kernel_rfl) (fun _ _ _ h => h) (Or.inr ⟨by rfl, rfl⟩) hHeld ?_
    try simp only [Act.put, List.setIfInBounds_toArray, List.set_cons_zero, List.set_cons_succ]
    refine wpAnyH_take (i := 14) (oi := ⟨some 29, .load 3 (.tmp 28), _, _, _, some (12, true)⟩) (v := undef) rfl (by kernel_rfl) (by kernel_rfl) (by kernel_rfl) (fun _ _ _ h => h) (Or.inr ⟨by rfl, rfl⟩) hHeld ?_
    try simp only [Act.put, List.setIfInBounds_toArray, List.set_cons_zero, List.set_cons_succ]
    refine wpAnyH_take (i := 15) (oi := ⟨some 30, .move (.tmp 0), _, _, _, some (12, true)⟩) (v := undef) rfl (by kernel_rfl) (by kernel_rfl) (by kernel_rfl) (fun _ _ _ h => h) (Or.inr ⟨by rfl, rfl⟩) hHeld ?_
    try simp only [Act.put, List.setIfInBounds_toArray, List.set_cons_zero, List.set_cons_succ]
    refine wpAnyH_take (i := 16) (oi := ⟨some 31, .move (.tmp 0), _, _, _, some (12, true)⟩) (v := undef) rfl (by kernel_rfl) (by kernel_rfl) (by kernel_rfl) (fun _ _ _ h => h) (Or.inr ⟨by rfl, rfl⟩) hHeld ?_
    try simp only [Act.put, List.setIfInBounds_toArray, List.set_cons_zero, List.set_cons_succ]
    refine wpAnyH_take (i := 17) (oi := ⟨some 32, .call { callee := .builtin .len, args := #[.tmp 31], argTypes := #[22] }, _, _, _, some (12, true)⟩) (v := undef) rfl (by kernel_rfl) (by kernel_rfl) (by kernel_rfl) (fun _ _ _ h => h) (Or.inr ⟨by rfl, rfl⟩) hHeld ?_
    try simp only [Act.put, List.setIfInBounds_toArray, List.set_cons_zero, List.set_cons_succ]
    refine wpAnyH_take (i := 18) (oi := ⟨some 33, .binOp .sub 3 (.tmp 32) (.const (.int .i64 1)) 3, _, _, _, some (12, true)⟩) (v := undef) rfl (by kernel_rfl) (by kernel_rfl) (by kernel_rfl) (fun _ _ _ h => h) (Or.inr ⟨by rfl, rfl⟩) hHeld ?_
    try simp only [Act.put, List.setIfInBounds_toArray, List.set_cons_zero, List.set_cons_succ]
    refine wpAnyH_take (i := 19) (oi := ⟨some 34, .indexAddr 22 (.tmp 30) (.tmp 33), _, _, _, some (12, true)⟩) (v := undef) rfl (by kernel_rfl) (by kernel_rfl) (by kernel_rfl) (fun _ _ _ h => h) (Or.inr ⟨by rfl, rfl⟩) hHeld ?_
    try simp only [Act.put, List.setIfInBounds_toArray, List.set_cons_zero, List.set_cons_succ]
    refine wpAnyH_take (i := 20) (oi := ⟨some 35, .fieldAddr 33 (.tmp 34) 0, _, _, _, some (12, true)⟩) (v := undef) rfl (by kernel_rfl) (by kernel_rfl) (by kernel_rfl) (fun _ _ _ h => h) (Or.inr ⟨by rfl, rfl⟩) hHeld ?_
    try simp only [Act.put, List.setIfInBounds_toArray, List.set_cons_zero, List.set_cons_succ]
    refine wpAnyH_take (i := 21) (oi := ⟨some 36, .load 3 (.tmp 35), _, _, _, some (12, true)⟩) (v := undef) rfl (by kernel_rfl) (by kernel_rfl) (by kernel_rfl) (fun _ _ _ h => h) (Or.inr ⟨by rfl, rfl⟩) hHeld ?_
    try simp only [Act.put, List.setIfInBounds_toArray, List.set_cons_zero, List.set_cons_succ]
    refine wpAnyH_take (i := 22) (oi := ⟨some 37, .binOp .lss 3 (.tmp 29) (.tmp 36) 3, _, _, _, some (12, true)⟩) (v := undef) rfl (by kernel_rfl) (by kernel_rfl) (by kernel_rfl) (fun _ _ _ h => h) (Or.inr ⟨by rfl, rfl⟩) hHeld ?_
    try simp only [Act.put, List.setIfInBounds_toArray, List.set_cons_zero, List.set_cons_succ]
    refine wpAnyH_take (i := 23) (oi := ⟨some 38, .pick (.tmp 27) (.tmp 37) (.const (.bool false)), _, _, _, some (8, false)⟩) (v := undef) rfl (by kernel_rfl) (by kernel_rfl) (by kernel_rfl) (fun _ _ _ h => h) (Or.inr ⟨by rfl, rfl⟩) hHeld ?_
    try simp only [Act.put, List.setIfInBounds_toArray, List.set_cons_zero, List.set_cons_succ]
    refine wpAnyH_take (i := 24) (oi := ⟨some 39, .pick (.tmp 23) (.const (.bool true)) (.tmp 38), _, _, _, none⟩) (v := ?_) rfl (by kernel_rfl) (by kernel_rfl) (by kernel_rfl) (fun _ _ _ h => h) (Or.inl ⟨by rfl, ?_⟩) hHeld ?_
    rotate_left
    · intro W _; go_simp; try with_reducible rfl
    try simp only [Act.put, List.setIfInBounds_toArray, List.set_cons_zero, List.set_cons_succ]
    refine wpAnyH_take (i := 25) (oi := ⟨some 14, .assign (.tmp 39), _, _, _, none⟩) (v := ?_) rfl (by kernel_rfl) (by kernel_rfl) (by kernel_rfl) (fun _ _ _ h => h) (Or.inl ⟨by rfl, ?_⟩) hHeld ?_
    rotate_left
    · intro W _; go_simp; try with_reducible rfl
    try simp only [Act.put, List.setIfInBounds_toArray, List.set_cons_zero, List.set_cons_succ]
    refine wpAnyH_done (by kernel_rfl) ?_ _
    -- END nextA
    go_wp2_with fail
    exact FN.out _ _ 50 HE.out (by decide) rfl (hB01.trans (hHeld.mono hs01))
  | true =>
    have h16 := HL16.out hi
    rw [hi] at IS1
    cases hm : mayB v with
    | false =>
      rw [hm] at MY
      have HE := Lib.hid (HNO.out (.inr (.inl hm)))
      go_wp2_with fail
      -- REGION nextB 6
      refine wp_region_held_drew (S := fun W => Below w1.heap.size w1 W) (by kernel_rfl) ((Below.refl _ w1).drew) (fun hHeld => ?_)
      refine wpAnyH_take (i := 0) (oi := ⟨some 15, .move (.tmp 0), _, _, _, none⟩) (v := ?_) rfl (by kernel_rfl) (by kernel_rfl) (by kernel_rfl) (fun _ _ _ h => h) (Or.inl ⟨by rfl, ?_⟩) hHeld ?_
      rotate_left
      · intro W _; go_simp; try with_reducible rfl
      try simp only [Act.put, List.setIfInBounds_toArray, List.set_cons_zero, List.set_cons_succ]
      refine wpAnyH_ready (rs := [1]) (by kernel_rfl) (by simp) ?_
      refine AllReadyH.cons (o := ⟨some 16, .call { callee := .value (.func 13), args := #[.tmp 15], argTypes := #[22] }, _, _, _, none⟩) rfl (fun K hK => ?_) AllReadyH.nil
      refine step_ofR (by rfl) ?_
      go_simp
      refine (IS1.out _ hHeld).mono ?_
      rintro x W1 ⟨rfl, hB2⟩
      refine hK.out _ _ (Bt hHeld hB2) (fun hHeld => ?_)
      clear hK K
      try simp only [Act.put, List.setIfInBounds_toArray, List.set_cons_zero, List.set_cons_succ]
      refine wpAnyH_take (i := 2) (oi := ⟨some 17, .unOp .not 4 (.tmp 16), _, _, _, none⟩) (v := ?_) rfl (by kernel_rfl) (by kernel_rfl) (by kernel_rfl) (fun _ _ _ h => h) (Or.inl ⟨by rfl, ?_⟩) hHeld ?_
      rotate_left
      · intro W _; go_simp; try with_reducible rfl
      try simp only [Act.put, List.setIfInBounds_toArray, List.set_cons_zero, List.set_cons_succ]
      refine wpAnyH_take (i := 3) (oi := ⟨some 18, .move (.tmp 17), _, _, _, none⟩) (v := ?_) rfl (by kernel_rfl) (by kernel_rfl) (by kernel_rfl) (fun _ _ _ h => h) (Or.inl ⟨by rfl, ?_⟩) hHeld ?_
      rotate_left
      · intro W _; go_simp; try with_reducible rfl
      try simp only [Act.put, List.setIfInBounds_toArray, List.set_cons_zero, List.set_cons_succ]
      refine wpAnyH_take (i := 4) (oi := ⟨some 19, .load 33 (.tmp 3), _, _, _, some (3, false)⟩) (v := .agg (vc v).toArray) rfl (by kernel_rfl) (by kernel_rfl) (by kernel_rfl) (fun _ _ _ h => h) (yieldsIf_loadV (by rfl) w.heap.size 0 _ rfl rfl (fun W hS => (hb0.below hS).vr)) hHeld ?_
      try simp only [Act.put, List.setIfInBounds_toArray, List.set_cons_zero, List.set_cons_succ]
      refine wpAnyH_ready (rs := [5]) (by kernel_rfl) (by simp) ?_
      refine AllReadyH.cons (o := ⟨some 20, .call { callee := .value (.func 29), args := #[.tmp 19], argTypes := #[33] }, _, _, _, some (3, false)⟩) rfl (fun K hK => ?_) AllReadyH.nil
      refine step_ofR (by rfl) ?_
      go_simp
      refine (MY.out _).mono ?_
      rintro x W1 ⟨rfl, hB3⟩
      refine hK.out _ _ (Bt hHeld hB3) (fun hHeld => ?_)
      clear hK K
      try simp only [Act.put, List.setIfInBounds_toArray, List.set_cons_zero, List.set_cons_succ]
      refine wpAnyH_take (i := 6) (oi := ⟨some 21, .unOp .not 4 (.tmp 20), _, _, _, some (3, false)⟩) (v := ?_) rfl (by kernel_rfl) (by kernel_rfl) (by kernel_rfl) (fun _ _ _ h => h) (Or.inl ⟨by rfl, ?_⟩) hHeld ?_
      rotate_left
      · intro W _; go_simp; try with_reducible rfl
      try simp only [Act.put, List.setIfInBounds_toArray, List.set_cons_zero, List.set_cons_succ]
      refine wpAnyH_take (i := 7) (oi := ⟨some 22, .pick (.tmp 18) (.const (.bool true)) (.tmp 21), _, _, _, none⟩) (v := ?_) rfl (by kernel_rfl) (by kernel_rfl) (by kernel_rfl) (fun _ _ _ h => h) (Or.inl ⟨by rfl, ?_⟩) hHeld ?_
      rotate_left
      · intro W _; go_simp; try with_reducible rfl
      try simp only [Act.put, List.setIfInBounds_toArray, List.set_cons_zero, List.set_cons_succ]
      refine wpAnyH_take (i := 8) (oi := ⟨some 23, .move (.tmp 22), _, _, _, none⟩) (v := ?_) rfl (by kernel_rfl) (by kernel_rfl) (by kernel_rfl) (fun _ _ _ h => h) (Or.inl ⟨by rfl, ?_⟩) hHeld ?_
      rotate_left
      · intro W _; go_simp; try with_reducible rfl
      try simp only [Act.put, List.setIfInBounds_toArray, List.set_cons_zero, List.set_cons_succ]
      refine wpAnyH_take (i := 9) (oi := ⟨some 24, .move (.tmp 0), _, _, _, some (8, false)⟩) (v := undef) rfl (by kernel_rfl) (by kernel_rfl) (by kernel_rfl) (fun _ _ _ h => h) (Or.inr ⟨by rfl, rfl⟩) hHeld ?_
      try simp only [Act.put, List.setIfInBounds_toArray, List.set_cons_zero, List.set_cons_succ]
      refine wpAnyH_take (i := 10) (oi := ⟨some 25, .call { callee := .builtin .len, args := #[.tmp 24], argTypes := #[22] }, _, _, _, some (8, false)⟩) (v := undef) rfl (by kernel_rfl) (by kernel_rfl) (by kernel_rfl) (fun _ _ _ h => h) (Or.inr ⟨by rfl, rfl⟩) hHeld ?_
      try simp only [Act.put, List.setIfInBounds_toArray, List.set_cons_zero, List.set_cons_succ]
      refine wpAnyH_take (i := 11) (oi := ⟨some 26, .binOp .gtr 3 (.tmp 25) (.const (.int .i64 0)) 3, _, _, _, some (8, false)⟩) (v := undef) rfl (by kernel_rfl) (by kernel_rfl) (by kernel_rfl) (fun _ _ _ h => h) (Or.inr ⟨by rfl, rfl⟩) hHeld ?_
      try simp only [Act.put, List.setIfInBounds_toArray, List.set_cons_zero, List.set_cons_succ]
      refine wpAnyH_take (i := 12) (oi := ⟨some 27, .move (.tmp 26), _, _, _, some (8, false)⟩) (v := undef) rfl (by kernel_rfl) (by kernel_rfl) (by kernel_rfl) (fun _ _ _ h => h) (Or.inr ⟨by rfl, rfl⟩) hHeld ?_
      try simp only [Act.put, List.setIfInBounds_toArray, List.set_cons_zero, List.set_cons_succ]
      refine wpAnyH_take (i := 13) (oi := ⟨some 28, .fieldAddr 33 (.tmp 3) 0, _, _, _, some (12, true)⟩) (v := undef) rfl (by kernel_rfl) (by kernel_rfl) (by kernel_rfl) (fun _ _ _ h => h) (Or.inr ⟨by rfl, rfl⟩) hHeld ?_
      try simp only [Act.put, List.setIfInBounds_toArray, List.set_cons_zero, List.set_cons_succ]
      refine wpAnyH_take (i := 14) (oi := ⟨some 29, .load 3 (.tmp 28), _, _, _, some (12, true)⟩) (v := undef) rfl (by kernel_rfl) (by kernel_rfl) (by kernel_rfl) (fun _ _ _ h => h) (Or.inr ⟨by rfl, rfl⟩) hHeld ?_
      try simp only [Act.put, List.setIfInBounds_toArray, List.set_cons_zero, List.set_cons_succ]
      refine wpAnyH_take (i := 15) (oi := ⟨some 30, .move (.tmp 0), _, _, _, some (12, true)⟩) (v := undef) rfl (by kernel_rfl) (by kernel_rfl) (by kernel_rfl) (fun _ _ _ h => h) (Or.inr ⟨by rfl, rfl⟩) hHeld ?_
      try simp only [Act.put, List.setIfInBounds_toArray, List.set_cons_zero, List.set_cons_succ]
      refine wpAnyH_take (i := 16) (oi := ⟨some 31, .move (.tmp 0), _, _, _, some (12, true)⟩) (v := undef) rfl (by kernel_rfl) (by kernel_rfl) (by kernel_rfl) (fun _ _ _ h => h) (Or.inr ⟨by rfl, rfl⟩) hHeld ?_
      try simp only [Act.put, List.setIfInBounds_toArray, List.set_cons_zero, List.set_cons_succ]
      refine wpAnyH_take (i := 17) (oi := ⟨some 32, .call { callee := .builtin .len, args := #[.tmp 31], argTypes := #[22] }, _, _, _, some (12, true)⟩) (v := undef) rfl (by kernel_rfl) (by kernel_rfl) (by kernel_rfl) (fun _ _ _ h => h) (Or.inr ⟨by rfl, rfl⟩) hHeld ?_
      try simp only [Act.put, List.setIfInBounds_toArray, List.set_cons_zero, List.set_cons_succ]
      refine wpAnyH_take (i := 18) (oi := ⟨some 33, .binOp .sub 3 (.tmp 32) (.const (.int .i64 1)) 3, _, _, _, some (12, true)⟩) (v := undef) rfl (by kernel_rfl) (by kernel_rfl) (by kernel_rfl) (fun _ _ _ h => h) (Or.inr ⟨by rfl, rfl⟩) hHeld ?_
      try simp only [Act.put, List.setIfInBounds_toArray, List.set_cons_zero, List.set_cons_succ]
      refine wpAnyH_take (i := 19) (oi := ⟨some 34, .indexAddr 22 (.tmp 30) (.tmp 33), _, _, _, some (12, true)⟩) (v := undef) rfl (by kernel_rfl) (by kernel_rfl) (by kernel_rfl) (fun _ _ _ h => h) (Or.inr ⟨by rfl, rfl⟩) hHeld ?_
      try simp only [Act.put, List.setIfInBounds_toArray, List.set_cons_zero, List.set_cons_succ]
      refine wpAnyH_take (i := 20) (oi := ⟨some 35, .fieldAddr 33 (.tmp 34) 0, _, _, _, some (12, true)⟩) (v := undef) rfl (by kernel_rfl) (by kernel_rfl) (by kernel_rfl) (fun _ _ _ h => h) (Or.inr ⟨by rfl, rfl⟩) hHeld ?_
      try simp only [Act.put, List.setIfInBounds_toArray, List.set_cons_zero, List.set_cons_succ]
      refine wpAnyH_take (i := 21) (oi := ⟨some 36, .load 3 (.tmp 35), _, _, _, some (12, true)⟩) (v := undef) rfl (by kernel_rfl) (by kernel_rfl) (by kernel_rfl) (fun _ _ _ h => h) (Or.inr ⟨by rfl, rfl⟩) hHeld ?_
      try simp only [Act.put, List.setIfInBounds_toArray, List.set_cons_zero, List.set_cons_succ]
      refine wpAnyH_take (i := 22) (oi := ⟨some 37, .binOp .lss 3 (.tmp 29) (.tmp 36) 3, _, _, _, some (12, true)⟩) (v := undef) rfl (by kernel_rfl) (by kernel_rfl) (by kernel_rfl) (fun _ _ _ h => h) (Or.inr ⟨by rfl, rfl⟩) hHeld ?_
      try simp only [Act.put, List.setIfInBounds_toArray, List.set_cons_zero, List.set_cons_succ]
      refine wpAnyH_take (i := 23) (oi := ⟨some 38, .pick (.tmp 27) (.tmp 37) (.const (.bool false)), _, _, _, some (8, false)⟩) (v := undef) rfl (by kernel_rfl) (by kernel_rfl) (by kernel_rfl) (fun _ _ _ h => h) (Or.inr ⟨by rfl, rfl⟩) hHeld ?_
      try simp only [Act.put, List.setIfInBounds_toArray, List.set_cons_zero, List.set_cons_succ]
      refine wpAnyH_take (i := 24) (oi := ⟨some 39, .pick (.tmp 23) (.const (.bool true)) (.tmp 38), _, _, _, none⟩) (v := ?_) rfl (by kernel_rfl) (by kernel_rfl) (by kernel_rfl) (fun _ _ _ h => h) (Or.inl ⟨by rfl, ?_⟩) hHeld ?_
      rotate_left
      · intro W _; go_simp; try with_reducible rfl
      try simp only [Act.put, List.setIfInBounds_toArray, List.set_cons_zero, List.set_cons_succ]
      refine wpAnyH_take (i := 25) (oi := ⟨some 14, .assign (.tmp 39), _, _, _, none⟩) (v := ?_) rfl (by kernel_rfl) (by kernel_rfl) (by kernel_rfl) (fun _ _ _ h => h) (Or.inl ⟨by rfl, ?_⟩) hHeld ?_
      rotate_left
      · intro W _; go_simp; try with_reducible rfl
      try simp only [Act.put, List.setIfInBounds_toArray, List.set_cons_zero, List.set_cons_succ]
      refine wpAnyH_done (by kernel_rfl) ?_ _
      -- END nextB
      go_wp2_with fail
      exact FN.out _ _ 50 HE.out (by decide) rfl (hB01.trans (hHeld.mono hs01))
    | true =>
      rw [hm] at MY
      have hme := hm
      by_cases h0 : n = 0
      · have hep : ¬ v.ep < (prevV l n).ep := by
          rw [h0]
          simp only [mayB, Bool.and_eq_true, decide_eq_true_eq] at hme
          show ¬ v.ep < 0
          omega
        have HX := Lib.hid (HXX.out hi hm (Int.not_lt.1 hep))
        have hgt : decide (0 < n) = false := by simp; omega
        clear h0 hep hme
        go_wp2_with fail
        -- REGION nextC 8
        refine wp_region_held_drew (S := fun W => Below w1.heap.size w1 W) (by kernel_rfl) ((Below.refl _ w1).drew) (fun hHeld => ?_)
        refine wpAnyH_take (i := 0) (oi := ⟨some 15, .move (.tmp 0), _, _, _, none⟩) (v := ?_) rfl (by kernel_rfl) (by kernel_rfl) (by kernel_rfl) (fun _ _ _ h => h) (Or.inl ⟨by rfl, ?_⟩) hHeld ?_
        rotate_left
        · intro W _; go_simp; try with_reducible rfl
        try simp only [Act.put, List.setIfInBounds_toArray, List.set_cons_zero, List.set_cons_succ]
        refine wpAnyH_ready (rs := [1]) (by kernel_rfl) (by simp) ?_
        refine AllReadyH.cons (o := ⟨some 16, .call { callee := .value (.func 13), args := #[.tmp 15], argTypes := #[22] }, _, _, _, none⟩) rfl (fun K hK => ?_) AllReadyH.nil
        refine step_ofR (by rfl) ?_
        go_simp
        refine (IS1.out _ hHeld).mono ?_
        rintro x W1 ⟨rfl, hB2⟩
        refine hK.out _ _ (Bt hHeld hB2) (fun hHeld => ?_)
        clear hK K
        try simp only [Act.put, List.setIfInBounds_toArray, List.set_cons_zero, List.set_cons_succ]
        refine wpAnyH_take (i := 2) (oi := ⟨some 17, .unOp .not 4 (.tmp 16), _, _, _, none⟩) (v := ?_) rfl (by kernel_rfl) (by kernel_rfl) (by kernel_rfl) (fun _ _ _ h => h) (Or.inl ⟨by rfl, ?_⟩) hHeld ?_
        rotate_left
        · intro W _; go_simp; try with_reducible rfl
        try simp only [Act.put, List.setIfInBounds_toArray, List.set_cons_zero, List.set_cons_succ]
        refine wpAnyH_take (i := 3) (oi := ⟨some 18, .move (.tmp 17), _, _, _, none⟩) (v := ?_) rfl (by kernel_rfl) (by kernel_rfl) (by kernel_rfl) (fun _ _ _ h => h) (Or.inl ⟨by rfl, ?_⟩) hHeld ?_
        rotate_left
        · intro W _; go_simp; try with_reducible rfl
        try simp only [Act.put, List.setIfInBounds_toArray, List.set_cons_zero, List.set_cons_succ]
        refine wpAnyH_take (i := 4) (oi := ⟨some 19, .load 33 (.tmp 3), _, _, _, some (3, false)⟩) (v := .agg (vc v).toArray) rfl (by kernel_rfl) (by kernel_rfl) (by kernel_rfl) (fun _ _ _ h => h) (yieldsIf_loadV (by rfl) w.heap.size 0 _ rfl rfl (fun W hS => (hb0.below hS).vr)) hHeld ?_
        try simp only [Act.put, List.setIfInBounds_toArray, List.set_cons_zero, List.set_cons_succ]
        refine wpAnyH_ready (rs := [5]) (by kernel_rfl) (by simp) ?_
        refine AllReadyH.cons (o := ⟨some 20, .call { callee := .value (.func 29), args := #[.tmp 19], argTypes := #[33] }, _, _, _, some (3, false)⟩) rfl (fun K hK => ?_) AllReadyH.nil
        refine step_ofR (by rfl) ?_
        go_simp
        refine (MY.out _).mono ?_
        rintro x W1 ⟨rfl, hB3⟩
        refine hK.out _ _ (Bt hHeld hB3) (fun hHeld => ?_)
        clear hK K
        try simp only [Act.put, List.setIfInBounds_toArray, List.set_cons_zero, List.set_cons_succ]
        refine wpAnyH_take (i := 6) (oi := ⟨some 21, .unOp .not 4 (.tmp 20), _, _, _, some (3, false)⟩) (v := ?_) rfl (by kernel_rfl) (by kernel_rfl) (by kernel_rfl) (fun _ _ _ h => h) (Or.inl ⟨by rfl, ?_⟩) hHeld ?_
        rotate_left
        · intro W _; go_simp; try with_reducible rfl
        try simp only [Act.put, List.setIfInBounds_toArray, List.set_cons_zero, List.set_cons_succ]
        refine wpAnyH_take (i := 7) (oi := ⟨some 22, .pick (.tmp 18) (.const (.bool true)) (.tmp 21), _, _, _, none⟩) (v := ?_) rfl (by kernel_rfl) (by kernel_rfl) (by kernel_rfl) (fun _ _ _ h => h) (Or.inl ⟨by rfl, ?_⟩) hHeld ?_
        rotate_left
        · intro W _; go_simp; try with_reducible rfl
        try simp only [Act.put, List.setIfInBounds_toArray, List.set_cons_zero, List.set_cons_succ]
        refine wpAnyH_take (i := 8) (oi := ⟨some 23, .move (.tmp 22), _, _, _, none⟩) (v := ?_) rfl (by kernel_rfl) (by kernel_rfl) (by kernel_rfl) (fun _ _ _ h => h) (Or.inl ⟨by rfl, ?_⟩) hHeld ?_
        rotate_left
        · intro W _; go_simp; try with_reducible rfl
        try simp only [Act.put, List.setIfInBounds_toArray, List.set_cons_zero, List.set_cons_succ]
        refine wpAnyH_take (i := 9) (oi := ⟨some 24, .move (.tmp 0), _, _, _, some (8, false)⟩) (v := ?_) rfl (by kernel_rfl) (by kernel_rfl) (by kernel_rfl) (fun _ _ _ h => h) (Or.inl ⟨by rfl, ?_⟩) hHeld ?_
        rotate_left
        · intro W _; go_simp; try with_reducible rfl
        try simp only [Act.put, List.setIfInBounds_toArray, List.set_cons_zero, List.set_cons_succ]
        refine wpAnyH_take (i := 10) (oi := ⟨some 25, .call { callee := .builtin .len, args := #[.tmp 24], argTypes := #[22] }, _, _, _, some (8, false)⟩) (v := ?_) rfl (by kernel_rfl) (by kernel_rfl) (by kernel_rfl) (fun _ _ _ h => h) (Or.inl ⟨by rfl, ?_⟩) hHeld ?_
        rotate_left
        · intro W _; go_simp; try with_reducible rfl
        try simp only [Act.put, List.setIfInBounds_toArray, List.set_cons_zero, List.set_cons_succ]
        refine wpAnyH_take (i := 11) (oi := ⟨some 26, .binOp .gtr 3 (.tmp 25) (.const (.int .i64 0)) 3, _, _, _, some (8, false)⟩) (v := ?_) rfl (by kernel_rfl) (by kernel_rfl) (by kernel_rfl) (fun _ _ _ h => h) (Or.inl ⟨by rfl, ?_⟩) hHeld ?_
        rotate_left
        · intro W _; go_simp; try with_reducible rfl
        try simp only [Act.put, List.setIfInBounds_toArray, List.set_cons_zero, List.set_cons_succ]
        refine wpAnyH_take (i := 12) (oi := ⟨some 27, .move (.tmp 26), _, _, _, some (8, false)⟩) (v := ?_) rfl (by kernel_rfl) (by kernel_rfl) (by kernel_rfl) (fun _ _ _ h => h) (Or.inl ⟨by rfl, ?_⟩) hHeld ?_
        rotate_left
        · intro W _; go_simp; try with_reducible rfl
        try simp only [Act.put, List.setIfInBounds_toArray, List.set_cons_zero, List.set_cons_succ]
        refine wpAnyH_take (i := 13) (oi := ⟨some 28, .fieldAddr 33 (.tmp 3) 0, _, _, _, some (12, true)⟩) (v := undef) rfl (by kernel_rfl) (by kernel_rfl) (by kernel_rfl) (fun _ _ _ h => h) (Or.inr ⟨by rfl, rfl⟩) hHeld ?_
        try simp only [Act.put, List.setIfInBounds_toArray, List.set_cons_zero, List.set_cons_succ]
        refine wpAnyH_take (i := 14) (oi := ⟨some 29, .load 3 (.tmp 28), _, _, _, some (12, true)⟩) (v := undef) rfl (by kernel_rfl) (by kernel_rfl) (by kernel_rfl) (fun _ _ _ h => h) (Or.inr ⟨by rfl, rfl⟩) hHeld ?_
        try simp only [Act.put, List.setIfInBounds_toArray, List.set_cons_zero, List.set_cons_succ]
        refine wpAnyH_take (i := 15) (oi := ⟨some 30, .move (.tmp 0), _, _, _, some (12, true)⟩) (v := undef) rfl (by kernel_rfl) (by kernel_rfl) (by kernel_rfl) (fun _ _ _ h => h) (Or.inr ⟨by rfl, rfl⟩) hHeld ?_
        try simp only [Act.put, List.setIfInBounds_toArray, List.set_cons_zero, List.set_cons_succ]
        refine wpAnyH_take (i := 16) (oi := ⟨some 31, .move (.tmp 0), _, _, _, some (12, true)⟩) (v := undef) rfl (by kernel_rfl) (by kernel_rfl) (by kernel_rfl) (fun _ _ _ h => h) (Or.inr ⟨by rfl, rfl⟩) hHeld ?_
        try simp only [Act.put, List.setIfInBounds_toArray, List.set_cons_zero, List.set_cons_succ]
        refine wpAnyH_take (i := 17) (oi := ⟨some 32, .call { callee := .builtin .len, args := #[.tmp 31], argTypes := #[22] }, _, _, _, some (12, true)⟩) (v := undef) rfl (by kernel_rfl) (by kernel_rfl) (by kernel_rfl) (fun _ _ _ h => h) (Or.inr ⟨by rfl, rfl⟩) hHeld ?_
        try simp only [Act.put, List.setIfInBounds_toArray, List.set_cons_zero, List.set_cons_succ]
        refine wpAnyH_take (i := 18) (oi := ⟨some 33, .binOp .sub 3 (.tmp 32) (.const (.int .i64 1)) 3, _, _, _, some (12, true)⟩) (v := undef) rfl (by kernel_rfl) (by kernel_rfl) (by kernel_rfl) (fun _ _ _ h => h) (Or.inr ⟨by rfl, rfl⟩) hHeld ?_
        try simp only [Act.put, List.setIfInBounds_toArray, List.set_cons_zero, List.set_cons_succ]
        refine wpAnyH_take (i := 19) (oi := ⟨some 34, .indexAddr 22 (.tmp 30) (.tmp 33), _, _, _, some (12, true)⟩) (v := undef) rfl (by kernel_rfl) (by kernel_rfl) (by kernel_rfl) (fun _ _ _ h => h) (Or.inr ⟨by rfl, rfl⟩) hHeld ?_
        try simp only [Act.put, List.setIfInBounds_toArray, List.set_cons_zero, List.set_cons_succ]
        refine wpAnyH_take (i := 20) (oi := ⟨some 35, .fieldAddr 33 (.tmp 34) 0, _, _, _, some (12, true)⟩) (v := undef) rfl (by kernel_rfl) (by kernel_rfl) (by kernel_rfl) (fun _ _ _ h => h) (Or.inr ⟨by rfl, rfl⟩) hHeld ?_
        try simp only [Act.put, List.setIfInBounds_toArray, List.set_cons_zero, List.set_cons_succ]
        refine wpAnyH_take (i := 21) (oi := ⟨some 36, .load 3 (.tmp 35), _, _, _, some (12, true)⟩) (v := undef) rfl (by kernel_rfl) (by kernel_rfl) (by kernel_rfl) (fun _ _ _ h => h) (Or.inr ⟨by rfl, rfl⟩) hHeld ?_
        try simp only [Act.put, List.setIfInBounds_toArray, List.set_cons_zero, List.set_cons_succ]
        refine wpAnyH_take (i := 22) (oi := ⟨some 37, .binOp .lss 3 (.tmp 29) (.tmp 36) 3, _, _, _, some (12, true)⟩) (v := undef) rfl (by kernel_rfl) (by kernel_rfl) (by kernel_rfl) (fun _ _ _ h => h) (Or.inr ⟨by rfl, rfl⟩) hHeld ?_
        try simp only [Act.put, List.setIfInBounds_toArray, List.set_cons_zero, List.set_cons_succ]
        refine wpAnyH_take (i := 23) (oi := ⟨some 38, .pick (.tmp 27) (.tmp 37) (.const (.bool false)), _, _, _, some (8, false)⟩) (v := ?_) rfl (by kernel_rfl) (by kernel_rfl) (by kernel_rfl) (fun _ _ _ h => h) (Or.inl ⟨by rfl, ?_⟩) hHeld ?_
        rotate_left
        · intro W _; go_simp; try with_reducible rfl
        try simp only [Act.put, List.setIfInBounds_toArray, List.set_cons_zero, List.set_cons_succ]
        refine wpAnyH_take (i := 24) (oi := ⟨some 39, .pick (.tmp 23) (.const (.bool true)) (.tmp 38), _, _, _, none⟩) (v := ?_) rfl (by kernel_rfl) (by kernel_rfl) (by kernel_rfl) (fun _ _ _ h => h) (Or.inl ⟨by rfl, ?_⟩) hHeld ?_
        rotate_left
        · intro W _; go_simp; try with_reducible rfl
        try simp only [Act.put, List.setIfInBounds_toArray, List.set_cons_zero, List.set_cons_succ]
        refine wpAnyH_take (i := 25) (oi := ⟨some 14, .assign (.tmp 39), _, _, _, none⟩) (v := ?_) rfl (by kernel_rfl) (by kernel_rfl) (by kernel_rfl) (fun _ _ _ h => h) (Or.inl ⟨by rfl, ?_⟩) hHeld ?_
        rotate_left
        · intro W _; go_simp; try with_reducible rfl
        try simp only [Act.put, List.setIfInBounds_toArray, List.set_cons_zero, List.set_cons_succ]
        refine wpAnyH_done (by kernel_rfl) ?_ _
        -- END nextC
        have hb6 := hb0.below hHeld
        have hB6 : Below w.heap.size w W1 := hB01.trans (hHeld.mono hs01)
        have hs6 : w.heap.size ≤ W1.heap.size := hB6.size
        have hr6 := hr.below hB6
        clear hHeld
        by_cases hk1 : v.kd = 1
        · have hk1' : (v.kd == 1) = true := by simpa using hk1
          have hk2' : (v.kd != 1) = false := by simpa using hk1
          have hc1 := hb6.v1
          rw [hk1] at hc1
          cases hact : act with
          | true =>
            have HE : Hid (nextI l v = 51) := Lib.hid (HX.out.1 hact hk1)
            go_wp2_with fail
            exact FN.out _ _ 51 HE.out (by decide) rfl hB6
          | false =>
            have HE : Hid (nextI l v = if n = 16 then 2 else 0) := Lib.hid (HX.out.2.1 hact hk1)
            clear hk1 hk1' hk2'
            by_cases h17 : n = 16
            · have h18 : (16 : Int) ≤ (n : Int) := by omega
              go_wp2_with fail
              exact FN.out _ _ 2 (by rw [HE.out, if_pos h17]) (by decide) rfl hB6
            · have h18 : ¬ (16 : Int) ≤ (n : Int) := by omega
              have hO0 := OwnG.nil0 (R := verR) W1 W1.heap.size
              have hsz : ([] : List Vn).length + n ≤ 1000000 := by simp; omega
              have hln : l.length + 1 ≤ 1000000 := by have := hlen.out; omega
              have hen : ([] : List Vn).length + n = n := by simp
              go_wp2_with (first | ((with_reducible refine wpList_appV (o := ⟨some 61, _, _, _, _, _⟩) ?_ (.tmp 59) (.tmp 60) ?_ ?_ hO0 ?_ hr6 hsz (Nat.le_refl _) ?_); rfl; rfl; rfl; rfl; intro a7 c7 w7 hO7 hg7 hx7; rw [hen, List.nil_append] at hO7; have hB7 : Below W1.heap.size W1 w7 := (Below.refl _ W1).grown hg7 (Nat.le_refl _) (fun k e => by cases e); have hv7 := (hb6.below hB7).vr) | ((with_reducible refine wpList_loadV (o := ⟨some 63, _, _, _, _, _⟩) ?_ w.heap.size 0 (.tmp 3) ?_ ?_ hv7 ?_); rfl; rfl; rfl) | ((with_reducible refine wpList_oneV (o := ⟨some 64, _, _, _, _, _⟩) ?_ (.tmp 63) ?_ v ?_ ?_); rfl; rfl; rfl; intro w8 hR8 hB8 hz8; have hO8 := hO7.below hB8; have hb8 : W1.heap.size ≤ w8.heap.size := (Bt hB7 hB8).size) | ((with_reducible refine wpList_appV (o := ⟨some 65, _, _, _, _, _⟩) ?_ (.tmp 62) (.tmp 64) ?_ ?_ hO8 ?_ hR8 hln hb8 ?_); rfl; rfl; rfl; rfl; intro a9 c9 w9 hO9 hg9 hx9))
              rw [hlen.out] at hO9
              refine FY.out _ _ a9 c9 (by rw [HE.out, if_neg h17]) (by rw [hlen.out]) (hO9.lower hs6) (hB6.trans (((Bt hB7 hB8).grown hg9 hb8 (fun k e => (hO8.lt e).1)).mono hs6))
        · have hk1' : (v.kd == 1) = false := by simpa using hk1
          have hk2' : (v.kd != 1) = true := by simpa using hk1
          have hc1 := hb6.v1
          cases hact : act with
          | false =>
            have HE : Hid (nextI l v = 52) := Lib.hid (HX.out.2.2.1 hact hk1)
            go_wp2_with fail
            exact FN.out _ _ 52 HE.out (by decide) rfl hB6
          | true =>
            have HE : Hid (nextI l v = if n = 16 then 2 else 0) := Lib.hid (HX.out.2.2.2 hact hk1)
            by_cases h17 : n = 16
            · have h18 : (16 : Int) ≤ (n : Int) := by omega
              go_wp2_with fail
              exact FN.out _ _ 2 (by rw [HE.out, if_pos h17]) (by decide) rfl hB6
            · have h18 : ¬ (16 : Int) ≤ (n : Int) := by omega
              have hO0 := OwnG.nil0 (R := verR) W1 W1.heap.size
              have hsz : ([] : List Vn).length + n ≤ 1000000 := by simp; omega
              have hln : l.length + 1 ≤ 1000000 := by have := hlen.out; omega
              have hen : ([] : List Vn).length + n = n := by simp
              go_wp2_with (first | ((with_reducible refine wpList_appV (o := ⟨some 61, _, _, _, _, _⟩) ?_ (.tmp 59) (.tmp 60) ?_ ?_ hO0 ?_ hr6 hsz (Nat.le_refl _) ?_); rfl; rfl; rfl; rfl; intro a7 c7 w7 hO7 hg7 hx7; rw [hen, List.nil_append] at hO7; have hB7 : Below W1.heap.size W1 w7 := (Below.refl _ W1).grown hg7 (Nat.le_refl _) (fun k e => by cases e); have hv7 := (hb6.below hB7).vr) | ((with_reducible refine wpList_loadV (o := ⟨some 63, _, _, _, _, _⟩) ?_ w.heap.size 0 (.tmp 3) ?_ ?_ hv7 ?_); rfl; rfl; rfl) | ((with_reducible refine wpList_oneV (o := ⟨some 64, _, _, _, _, _⟩) ?_ (.tmp 63) ?_ v ?_ ?_); rfl; rfl; rfl; intro w8 hR8 hB8 hz8; have hO8 := hO7.below hB8; have hb8 : W1.heap.size ≤ w8.heap.size := (Bt hB7 hB8).size) | ((with_reducible refine wpList_appV (o := ⟨some 65, _, _, _, _, _⟩) ?_ (.tmp 62) (.tmp 64) ?_ ?_ hO8 ?_ hR8 hln hb8 ?_); rfl; rfl; rfl; rfl; intro a9 c9 w9 hO9 hg9 hx9))
              rw [hlen.out] at hO9
              refine FY.out _ _ a9 c9 (by rw [HE.out, if_neg h17]) (by rw [hlen.out]) (hO9.lower hs6) (hB6.trans (((Bt hB7 hB8).grown hg9 hb8 (fun k e => (hO8.lt e).1)).mono hs6))
      · obtain ⟨b, off, rfl, hbl, hel⟩ := RdV.elems hr (by omega)
        have hx0 := hel (n - 1) (by omega)
        rw [show l.getD (n - 1) vn0 = prevV l n by rw [prevV, if_neg h0]] at hx0
        have hx := range_below hB01 hx0
        have hgt : decide (0 < n) = true := by simp; omega
        have hsub : IntKind.i64.wrap ((n : Int) - 1) = ((n - 1 : Nat) : Int) := by rw [IntWalk.i64_in _ (by omega)]; omega
        have hsub2 : (n : Int) - 1 = ((n - 1 : Nat) : Int) := by omega
        have hsub3 : IntKind.i64.wrap ((n - 1 : Nat) : Int) = ((n - 1 : Nat) : Int) := IntWalk.i64_in _ (by omega)
        have hlt : n - 1 < n := by omega
        have hlt3 : ((n - 1 : Nat) : Int) < (n : Int) := by omega
        clear hel hx0 h0
        generalize prevV l n = p at *
        by_cases hep : v.ep < p.ep
        · have hd : decide (v.ep < p.ep) = true := by simpa using hep
          have HE := Lib.hid (HNO.out (.inr (.inr hep)))
          go_wp2_with fail
          -- REGION nextD 10
          refine wp_region_held_drew (S := fun W => Below w1.heap.size w1 W) (by kernel_rfl) ((Below.refl _ w1).drew) (fun hHeld => ?_)
          refine wpAnyH_take (i := 0) (oi := ⟨some 15, .move (.tmp 0), _, _, _, none⟩) (v := ?_) rfl (by kernel_rfl) (by kernel_rfl) (by kernel_rfl) (fun _ _ _ h => h) (Or.inl ⟨by rfl, ?_⟩) hHeld ?_
          rotate_left
          · intro W _; go_simp; try with_reducible rfl
          try simp only [Act.put, List.setIfInBounds_toArray, List.set_cons_zero, List.set_cons_succ]
          refine wpAnyH_ready (rs := [1]) (by kernel_rfl) (by simp) ?_
          refine AllReadyH.cons (o := ⟨some 16, .call { callee := .value (.func 13), args := #[.tmp 15], argTypes := #[22] }, _, _, _, none⟩) rfl (fun K hK => ?_) AllReadyH.nil
          refine step_ofR (by rfl) ?_
          go_simp
          refine (IS1.out _ hHeld).mono ?_
          rintro x W1 ⟨rfl, hB2⟩
          refine hK.out _ _ (Bt hHeld hB2) (fun hHeld => ?_)
          clear hK K
          try simp only [Act.put, List.setIfInBounds_toArray, List.set_cons_zero, List.set_cons_succ]
          refine wpAnyH_take (i := 2) (oi := ⟨some 17, .unOp .not 4 (.tmp 16), _, _, _, none⟩) (v := ?_) rfl (by kernel_rfl) (by kernel_rfl) (by kernel_rfl) (fun _ _ _ h => h) (Or.inl ⟨by rfl, ?_⟩) hHeld ?_
          rotate_left
          · intro W _; go_simp; try with_reducible rfl
          try simp only [Act.put, List.setIfInBounds_toArray, List.set_cons_zero, List.set_cons_succ]
          refine wpAnyH_take (i := 3) (oi := ⟨some 18, .move (.tmp 17), _, _, _, none⟩) (v := ?_) rfl (by kernel_rfl) (by kernel_rfl) (by kernel_rfl) (fun _ _ _ h => h) (Or.inl ⟨by rfl, ?_⟩) hHeld ?_
          rotate_left
          · intro W _; go_simp; try with_reducible rfl
          try simp only [Act.put, List.setIfInBounds_toArray, List.set_cons_zero, List.set_cons_succ]
          refine wpAnyH_take (i := 4) (oi := ⟨some 19, .load 33 (.tmp 3), _, _, _, some (3, false)⟩) (v := .agg (vc v).toArray) rfl (by kernel_rfl) (by kernel_rfl) (by kernel_rfl) (fun _ _ _ h => h) (yieldsIf_loadV (by rfl) w.heap.size 0 _ rfl rfl (fun W hS => (hb0.below hS).vr)) hHeld ?_
          try simp only [Act.put, List.setIfInBounds_toArray, List.set_cons_zero, List.set_cons_succ]
          refine wpAnyH_ready (rs := [5]) (by kernel_rfl) (by simp) ?_
          refine AllReadyH.cons (o := ⟨some 20, .call { callee := .value (.func 29), args := #[.tmp 19], argTypes := #[33] }, _, _, _, some (3, false)⟩) rfl (fun K hK => ?_) AllReadyH.nil
          refine step_ofR (by rfl) ?_
          go_simp
          refine (MY.out _).mono ?_
          rintro x W1 ⟨rfl, hB3⟩
          refine hK.out _ _ (Bt hHeld hB3) (fun hHeld => ?_)
          clear hK K
          try simp only [Act.put, List.setIfInBounds_toArray, List.set_cons_zero, List.set_cons_succ]
          refine wpAnyH_take (i := 6) (oi := ⟨some 21, .unOp .not 4 (.tmp 20), _, _, _, some (3, false)⟩) (v := ?_) rfl (by kernel_rfl) (by kernel_rfl) (by kernel_rfl) (fun _ _ _ h => h) (Or.inl ⟨by rfl, ?_⟩) hHeld ?_
          rotate_left
          · intro W _; go_simp; try with_reducible rfl
          try simp only [Act.put, List.setIfInBounds_toArray, List.set_cons_zero, List.set_cons_succ]
          refine wpAnyH_take (i := 7) (oi := ⟨some 22, .pick (.tmp 18) (.const (.bool true)) (.tmp 21), _, _, _, none⟩) (v := ?_) rfl (by kernel_rfl) (by kernel_rfl) (by kernel_rfl) (fun _ _ _ h => h) (Or.inl ⟨by rfl, ?_⟩) hHeld ?_
          rotate_left
          · intro W _; go_simp; try with_reducible rfl
          try simp only [Act.put, List.setIfInBounds_toArray, List.set_cons_zero, List.set_cons_succ]
          refine wpAnyH_take (i := 8) (oi := ⟨some 23, .move (.tmp 22), _, _, _, none⟩) (v := ?_) rfl (by kernel_rfl) (by kernel_rfl) (by kernel_rfl) (fun _ _ _ h => h) (Or.inl ⟨by rfl, ?_⟩) hHeld ?_
          rotate_left
          · intro W _; go_simp; try with_reducible rfl
          try simp only [Act.put, List.setIfInBounds_toArray, List.set_cons_zero, List.set_cons_succ]
          refine wpAnyH_take (i := 9) (oi := ⟨some 24, .move (.tmp 0), _, _, _, some (8, false)⟩) (v := ?_) rfl (by kernel_rfl) (by kernel_rfl) (by kernel_rfl) (fun _ _ _ h => h) (Or.inl ⟨by rfl, ?_⟩) hHeld ?_
          rotate_left
          · intro W _; go_simp; try with_reducible rfl
          try simp only [Act.put, List.setIfInBounds_toArray, List.set_cons_zero, List.set_cons_succ]
          refine wpAnyH_take (i := 10) (oi := ⟨some 25, .call { callee := .builtin .len, args := #[.tmp 24], argTypes := #[22] }, _, _, _, some (8, false)⟩) (v := ?_) rfl (by kernel_rfl) (by kernel_rfl) (by kernel_rfl) (fun _ _ _ h => h) (Or.inl ⟨by rfl, ?_⟩) hHeld ?_
          rotate_left
          · intro W _; go_simp; try with_reducible rfl
          try simp only [Act.put, List.setIfInBounds_toArray, List.set_cons_zero, List.set_cons_succ]
          refine wpAnyH_take (i := 11) (oi := ⟨some 26, .binOp .gtr 3 (.tmp 25) (.const (.int .i64 0)) 3, _, _, _, some (8, false)⟩) (v := ?_) rfl (by kernel_rfl) (by kernel_rfl) (by kernel_rfl) (fun _ _ _ h => h) (Or.inl ⟨by rfl, ?_⟩) hHeld ?_
          rotate_left
          · intro W _; go_simp; try with_reducible rfl
          try simp only [Act.put, List.setIfInBounds_toArray, List.set_cons_zero, List.set_cons_succ]
          refine wpAnyH_take (i := 12) (oi := ⟨some 27, .move (.tmp 26), _, _, _, some (8, false)⟩) (v := ?_) rfl (by kernel_rfl) (by kernel_rfl) (by kernel_rfl) (fun _ _ _ h => h) (Or.inl ⟨by rfl, ?_⟩) hHeld ?_
          rotate_left
          · intro W _; go_simp; try with_reducible rfl
          try simp only [Act.put, List.setIfInBounds_toArray, List.set_cons_zero, List.set_cons_succ]
          refine wpAnyH_take (i := 13) (oi := ⟨some 28, .fieldAddr 33 (.tmp 3) 0, _, _, _, some (12, true)⟩) (v := ?_) rfl (by kernel_rfl) (by kernel_rfl) (by kernel_rfl) (fun _ _ _ h => h) (Or.inl ⟨by rfl, ?_⟩) hHeld ?_
          rotate_left
          · intro W _; go_simp; try with_reducible rfl
          try simp only [Act.put, List.setIfInBounds_toArray, List.set_cons_zero, List.set_cons_succ]
          refine wpAnyH_take (i := 14) (oi := ⟨some 29, .load 3 (.tmp 28), _, _, _, some (12, true)⟩) (v := ?_) rfl (by kernel_rfl) (by kernel_rfl) (by kernel_rfl) (fun _ _ _ h => h) (Or.inl ⟨by rfl, ?_⟩) hHeld ?_
          rotate_left
          · intro W hS; have q0 := (hb0.below hS).v0; go_simp; try with_reducible rfl
          try simp only [Act.put, List.setIfInBounds_toArray, List.set_cons_zero, List.set_cons_succ]
          refine wpAnyH_take (i := 15) (oi := ⟨some 30, .move (.tmp 0), _, _, _, some (12, true)⟩) (v := ?_) rfl (by kernel_rfl) (by kernel_rfl) (by kernel_rfl) (fun _ _ _ h => h) (Or.inl ⟨by rfl, ?_⟩) hHeld ?_
          rotate_left
          · intro W _; go_simp; try with_reducible rfl
          try simp only [Act.put, List.setIfInBounds_toArray, List.set_cons_zero, List.set_cons_succ]
          refine wpAnyH_take (i := 16) (oi := ⟨some 31, .move (.tmp 0), _, _, _, some (12, true)⟩) (v := ?_) rfl (by kernel_rfl) (by kernel_rfl) (by kernel_rfl) (fun _ _ _ h => h) (Or.inl ⟨by rfl, ?_⟩) hHeld ?_
          rotate_left
          · intro W _; go_simp; try with_reducible rfl
          try simp only [Act.put, List.setIfInBounds_toArray, List.set_cons_zero, List.set_cons_succ]
          refine wpAnyH_take (i := 17) (oi := ⟨some 32, .call { callee := .builtin .len, args := #[.tmp 31], argTypes := #[22] }, _, _, _, some (12, true)⟩) (v := ?_) rfl (by kernel_rfl) (by kernel_rfl) (by kernel_rfl) (fun _ _ _ h => h) (Or.inl ⟨by rfl, ?_⟩) hHeld ?_
          rotate_left
          · intro W _; go_simp; try with_reducible rfl
          try simp only [Act.put, List.setIfInBounds_toArray, List.set_cons_zero, List.set_cons_succ]
          refine wpAnyH_take (i := 18) (oi := ⟨some 33, .binOp .sub 3 (.tmp 32) (.const (.int .i64 1)) 3, _, _, _, some (12, true)⟩) (v := ?_) rfl (by kernel_rfl) (by kernel_rfl) (by kernel_rfl) (fun _ _ _ h => h) (Or.inl ⟨by rfl, ?_⟩) hHeld ?_
          rotate_left
          · intro W _; go_simp; try with_reducible rfl
          try simp only [Act.put, List.setIfInBounds_toArray, List.set_cons_zero, List.set_cons_succ]
          refine wpAnyH_take (i := 19) (oi := ⟨some 34, .indexAddr 22 (.tmp 30) (.tmp 33), _, _, _, some (12, true)⟩) (v := ?_) rfl (by kernel_rfl) (by kernel_rfl) (by kernel_rfl) (fun _ _ _ h => h) (Or.inl ⟨by rfl, ?_⟩) hHeld ?_
          rotate_left
          · intro W _; go_simp; try with_reducible rfl
          try simp only [Act.put, List.setIfInBounds_toArray, List.set_cons_zero, List.set_cons_succ]
          refine wpAnyH_take (i := 20) (oi := ⟨some 35, .fieldAddr 33 (.tmp 34) 0, _, _, _, some (12, true)⟩) (v := ?_) rfl (by kernel_rfl) (by kernel_rfl) (by kernel_rfl) (fun _ _ _ h => h) (Or.inl ⟨by rfl, ?_⟩) hHeld ?_
          rotate_left
          · intro W _; go_simp; try with_reducible rfl
          try simp only [Act.put, List.setIfInBounds_toArray, List.set_cons_zero, List.set_cons_succ]
          refine wpAnyH_take (i := 21) (oi := ⟨some 36, .load 3 (.tmp 35), _, _, _, some (12, true)⟩) (v := ?_) rfl (by kernel_rfl) (by kernel_rfl) (by kernel_rfl) (fun _ _ _ h => h) (Or.inl ⟨by rfl, ?_⟩) hHeld ?_
          rotate_left
          · intro W hS; have q0 := vr_ep (range_below hS hx); go_simp; try with_reducible rfl
          try simp only [Act.put, List.setIfInBounds_toArray, List.set_cons_zero, List.set_cons_succ]
          refine wpAnyH_take (i := 22) (oi := ⟨some 37, .binOp .lss 3 (.tmp 29) (.tmp 36) 3, _, _, _, some (12, true)⟩) (v := ?_) rfl (by kernel_rfl) (by kernel_rfl) (by kernel_rfl) (fun _ _ _ h => h) (Or.inl ⟨by rfl, ?_⟩) hHeld ?_
          rotate_left
          · intro W _; go_simp; try with_reducible rfl
          try simp only [Act.put, List.setIfInBounds_toArray, List.set_cons_zero, List.set_cons_succ]
          refine wpAnyH_take (i := 23) (oi := ⟨some 38, .pick (.tmp 27) (.tmp 37) (.const (.bool false)), _, _, _, some (8, false)⟩) (v := ?_) rfl (by kernel_rfl) (by kernel_rfl) (by kernel_rfl) (fun _ _ _ h => h) (Or.inl ⟨by rfl, ?_⟩) hHeld ?_
          rotate_left
          · intro W _; go_simp; try with_reducible rfl
          try simp only [Act.put, List.setIfInBounds_toArray, List.set_cons_zero, List.set_cons_succ]
          refine wpAnyH_take (i := 24) (oi := ⟨some 39, .pick (.tmp 23) (.const (.bool true)) (.tmp 38), _, _, _, none⟩) (v := ?_) rfl (by kernel_rfl) (by kernel_rfl) (by kernel_rfl) (fun _ _ _ h => h) (Or.inl ⟨by rfl, ?_⟩) hHeld ?_
          rotate_left
          · intro W _; go_simp; try with_reducible rfl
          try simp only [Act.put, List.setIfInBounds_toArray, List.set_cons_zero, List.set_cons_succ]
          refine wpAnyH_take (i := 25) (oi := ⟨some 14, .assign (.tmp 39), _, _, _, none⟩) (v := ?_) rfl (by kernel_rfl) (by kernel_rfl) (by kernel_rfl) (fun _ _ _ h => h) (Or.inl ⟨by rfl, ?_⟩) hHeld ?_
          rotate_left
          · intro W _; go_simp; try with_reducible rfl
          try simp only [Act.put, List.setIfInBounds_toArray, List.set_cons_zero, List.set_cons_succ]
          refine wpAnyH_done (by kernel_rfl) ?_ _
          -- END nextD
          go_wp2_with fail
          exact FN.out _ _ 50 HE.out (by decide) rfl (hB01.trans (hHeld.mono hs01))
        · have hd : decide (v.ep < p.ep) = false := by simpa using hep
          have HX := Lib.hid (HXX.out hi hm (Int.not_lt.1 hep))
          go_wp2_with fail
          -- REGION nextD 10
          refine wp_region_held_drew (S := fun W => Below w1.heap.size w1 W) (by kernel_rfl) ((Below.refl _ w1).drew) (fun hHeld => ?_)
          refine wpAnyH_take (i := 0) (oi := ⟨some 15, .move (.tmp 0), _, _, _, none⟩) (v := ?_) rfl (by kernel_rfl) (by kernel_rfl) (by kernel_rfl) (fun _ _ _ h => h) (Or.inl ⟨by rfl, ?_⟩) hHeld ?_
          rotate_left
          · intro W _; go_simp; try with_reducible rfl
          try simp only [Act.put, List.setIfInBounds_toArray, List.set_cons_zero, List.set_cons_succ]
          refine wpAnyH_ready (rs := [1]) (by kernel_rfl) (by simp) ?_
          refine AllReadyH.cons (o := ⟨some 16, .call { callee := .value (.func 13), args := #[.tmp 15], argTypes := #[22] }, _, _, _, none⟩) rfl (fun K hK => ?_) AllReadyH.nil
          refine step_ofR (by rfl) ?_
          go_simp
          refine (IS1.out _ hHeld).mono ?_
          rintro x W1 ⟨rfl, hB2⟩
          refine hK.out _ _ (Bt hHeld hB2) (fun hHeld => ?_)
          clear hK K
          try simp only [Act.put, List.setIfInBounds_toArray, List.set_cons_zero, List.set_cons_succ]
          refine wpAnyH_take (i := 2) (oi := ⟨some 17, .unOp .not 4 (.tmp 16), _, _, _, none⟩) (v := ?_) rfl (by kernel_rfl) (by kernel_rfl) (by kernel_rfl) (fun _ _ _ h => h) (Or.inl ⟨by rfl, ?_⟩) hHeld ?_
          rotate_left
          · intro W _; go_simp; try with_reducible rfl
          try simp only [Act.put, List.setIfInBounds_toArray, List.set_cons_zero, List.set_cons_succ]
          refine wpAnyH_take (i := 3) (oi := ⟨some 18, .move (.tmp 17), _, _, _, none⟩) (v := ?_) rfl (by kernel_rfl) (by kernel_rfl) (by kernel_rfl) (fun _ _ _ h => h) (Or.inl ⟨by rfl, ?_⟩) hHeld ?_
          rotate_left
          · intro W _; go_simp; try with_reducible rfl
          try simp only [Act.put, List.setIfInBounds_toArray, List.set_cons_zero, List.set_cons_succ]
          refine wpAnyH_take (i := 4) (oi := ⟨some 19, .load 33 (.tmp 3), _, _, _, some (3, false)⟩) (v := .agg (vc v).toArray) rfl (by kernel_rfl) (by kernel_rfl) (by kernel_rfl) (fun _ _ _ h => h) (yieldsIf_loadV (by rfl) w.heap.size 0 _ rfl rfl (fun W hS => (hb0.below hS).vr)) hHeld ?_
          try simp only [Act.put, List.setIfInBounds_toArray, List.set_cons_zero, List.set_cons_succ]
          refine wpAnyH_ready (rs := [5]) (by kernel_rfl) (by simp) ?_
          refine AllReadyH.cons (o := ⟨some 20, .call { callee := .value (.func 29), args := #[.tmp 19], argTypes := #[33] }, _, _, _, some (3, false)⟩) rfl (fun K hK => ?_) AllReadyH.nil
          refine step_ofR (by rfl) ?_
          go_simp
          refine (MY.out _).mono ?_
          rintro x W1 ⟨rfl, hB3⟩
          refine hK.out _ _ (Bt hHeld hB3) (fun hHeld => ?_)
          clear hK K
          try simp only [Act.put, List.setIfInBounds_toArray, List.set_cons_zero, List.set_cons_succ]
          refine wpAnyH_take (i := 6) (oi := ⟨some 21, .unOp .not 4 (.tmp 20), _, _, _, some (3, false)⟩) (v := ?_) rfl (by kernel_rfl) (by kernel_rfl) (by kernel_rfl) (fun _ _ _ h => h) (Or.inl ⟨by rfl, ?_⟩) hHeld ?_
          rotate_left
          · intro W _; go_simp; try with_reducible rfl
          try simp only [Act.put, List.setIfInBounds_toArray, List.set_cons_zero, List.set_cons_succ]
          refine wpAnyH_take (i := 7) (oi := ⟨some 22, .pick (.tmp 18) (.const (.bool true)) (.tmp 21), _, _, _, none⟩) (v := ?_) rfl (by kernel_rfl) (by kernel_rfl) (by kernel_rfl) (fun _ _ _ h => h) (Or.inl ⟨by rfl, ?_⟩) hHeld ?_
          rotate_left
          · intro W _; go_simp; try with_reducible rfl
          try simp only [Act.put, List.setIfInBounds_toArray, List.set_cons_zero, List.set_cons_succ]
          refine wpAnyH_take (i := 8) (oi := ⟨some 23, .move (.tmp 22), _, _, _, none⟩) (v := ?_) rfl (by kernel_rfl) (by kernel_rfl) (by kernel_rfl) (fun _ _ _ h => h) (Or.inl ⟨by rfl, ?_⟩) hHeld ?_
          rotate_left
          · intro W _; go_simp; try with_reducible rfl
          try simp only [Act.put, List.setIfInBounds_toArray, List.set_cons_zero, List.set_cons_succ]
          refine wpAnyH_take (i := 9) (oi := ⟨some 24, .move (.tmp 0), _, _, _, some (8, false)⟩) (v := ?_) rfl (by kernel_rfl) (by kernel_rfl) (by kernel_rfl) (fun _ _ _ h => h) (Or.inl ⟨by rfl, ?_⟩) hHeld ?_
          rotate_left
          · intro W _; go_simp; try with_reducible rfl
          try simp only [Act.put, List.setIfInBounds_toArray, List.set_cons_zero, List.set_cons_succ]
          refine wpAnyH_take (i := 10) (oi := ⟨some 25, .call { callee := .builtin .len, args := #[.tmp 24], argTypes := #[22] }, _, _, _, some (8, false)⟩) (v := ?_) rfl (by kernel_rfl) (by kernel_rfl) (by kernel_rfl) (fun _ _ _ h => h) (Or.inl ⟨by rfl, ?_⟩) hHeld ?_
          rotate_left
          · intro W _; go_simp; try with_reducible rfl
          try simp only [Act.put, List.setIfInBounds_toArray, List.set_cons_zero, List.set_cons_succ]
          refine wpAnyH_take (i := 11) (oi := ⟨some 26, .binOp .gtr 3 (.tmp 25) (.const (.int .i64 0)) 3, _, _, _, some (8, false)⟩) (v := ?_) rfl (by kernel_rfl) (by kernel_rfl) (by kernel_rfl) (fun _ _ _ h => h) (Or.inl ⟨by rfl, ?_⟩) hHeld ?_
          rotate_left
          · intro W _; go_simp; try with_reducible rfl
          try simp only [Act.put, List.setIfInBounds_toArray, List.set_cons_zero, List.set_cons_succ]
          refine wpAnyH_take (i := 12) (oi := ⟨some 27, .move (.tmp 26), _, _, _, some (8, false)⟩) (v := ?_) rfl (by kernel_rfl) (by kernel_rfl) (by kernel_rfl) (fun _ _ _ h => h) (Or.inl ⟨by rfl, ?_⟩) hHeld ?_
          rotate_left
          · intro W _; go_simp; try with_reducible rfl
          try simp only [Act.put, List.setIfInBounds_toArray, List.set_cons_zero, List.set_cons_succ]
          refine wpAnyH_take (i := 13) (oi := ⟨some 28, .fieldAddr 33 (.tmp 3) 0, _, _, _, some (12, true)⟩) (v := ?_) rfl (by kernel_rfl) (by kernel_rfl) (by kernel_rfl) (fun _ _ _ h => h) (Or.inl ⟨by rfl, ?_⟩) hHeld ?_
          rotate_left
          · intro W _; go_simp; try with_reducible rfl
          try simp only [Act.put, List.setIfInBounds_toArray, List.set_cons_zero, List.set_cons_succ]
          refine wpAnyH_take (i := 14) (oi := ⟨some 29, .load 3 (.tmp 28), _, _, _, some (12, true)⟩) (v := ?_) rfl (by kernel_rfl) (by kernel_rfl) (by kernel_rfl) (fun _ _ _ h => h) (Or.inl ⟨by rfl, ?_⟩) hHeld ?_
          rotate_left
          · intro W hS; have q0 := (hb0.below hS).v0; go_simp; try with_reducible rfl
          try simp only [Act.put, List.setIfInBounds_toArray, List.set_cons_zero, List.set_cons_succ]
          refine wpAnyH_take (i := 15) (oi := ⟨some 30, .move (.tmp 0), _, _, _, some (12, true)⟩) (v := ?_) rfl (by kernel_rfl) (by kernel_rfl) (by kernel_rfl) (fun _ _ _ h => h) (Or.inl ⟨by rfl, ?_⟩) hHeld ?_
          rotate_left
          · intro W _; go_simp; try with_reducible rfl
          try simp only [Act.put, List.setIfInBounds_toArray, List.set_cons_zero, List.set_cons_succ]
          refine wpAnyH_take (i := 16) (oi := ⟨some 31, .move (.tmp 0), _, _, _, some (12, true)⟩) (v := ?_) rfl (by kernel_rfl) (by kernel_rfl) (by kernel_rfl) (fun _ _ _ h => h) (Or.inl ⟨by rfl, ?_⟩) hHeld ?_
          rotate_left
          · intro W _; go_simp; try with_reducible rfl
          try simp only [Act.put, List.setIfInBounds_toArray, List.set_cons_zero, List.set_cons_succ]
          refine wpAnyH_take (i := 17) (oi := ⟨some 32, .call { callee := .builtin .len, args := #[.tmp 31], argTypes := #[22] }, _, _, _, some (12, true)⟩) (v := ?_) rfl (by kernel_rfl) (by kernel_rfl) (by kernel_rfl) (fun _ _ _ h => h) (Or.inl ⟨by rfl, ?_⟩) hHeld ?_
          rotate_left
          · intro W _; go_simp; try with_reducible rfl
          try simp only [Act.put, List.setIfInBounds_toArray, List.set_cons_zero, List.set_cons_succ]
          refine wpAnyH_take (i := 18) (oi := ⟨some 33, .binOp .sub 3 (.tmp 32) (.const (.int .i64 1)) 3, _, _, _, some (12, true)⟩) (v := ?_) rfl (by kernel_rfl) (by kernel_rfl) (by kernel_rfl) (fun _ _ _ h => h) (Or.inl ⟨by rfl, ?_⟩) hHeld ?_
          rotate_left
          · intro W _; go_simp; try with_reducible rfl
          try simp only [Act.put, List.setIfInBounds_toArray, List.set_cons_zero, List.set_cons_succ]
          refine wpAnyH_take (i := 19) (oi := ⟨some 34, .indexAddr 22 (.tmp 30) (.tmp 33), _, _, _, some (12, true)⟩) (v := ?_) rfl (by kernel_rfl) (by kernel_rfl) (by kernel_rfl) (fun _ _ _ h => h) (Or.inl ⟨by rfl, ?_⟩) hHeld ?_
          rotate_left
          · intro W _; go_simp; try with_reducible rfl
          try simp only [Act.put, List.setIfInBounds_toArray, List.set_cons_zero, List.set_cons_succ]
          refine wpAnyH_take (i := 20) (oi := ⟨some 35, .fieldAddr 33 (.tmp 34) 0, _, _, _, some (12, true)⟩) (v := ?_) rfl (by kernel_rfl) (by kernel_rfl) (by kernel_rfl) (fun _ _ _ h => h) (Or.inl ⟨by rfl, ?_⟩) hHeld ?_
          rotate_left
          · intro W _; go_simp; try with_reducible rfl
          try simp only [Act.put, List.setIfInBounds_toArray, List.set_cons_zero, List.set_cons_succ]
          refine wpAnyH_take (i := 21) (oi := ⟨some 36, .load 3 (.tmp 35), _, _, _, some (12, true)⟩) (v := ?_) rfl (by kernel_rfl) (by kernel_rfl) (by kernel_rfl) (fun _ _ _ h => h) (Or.inl ⟨by rfl, ?_⟩) hHeld ?_
          rotate_left
          · intro W hS; have q0 := vr_ep (range_below hS hx); go_simp; try with_reducible rfl
          try simp only [Act.put, List.setIfInBounds_toArray, List.set_cons_zero, List.set_cons_succ]
          refine wpAnyH_take (i := 22) (oi := ⟨some 37, .binOp .lss 3 (.tmp 29) (.tmp 36) 3, _, _, _, some (12, true)⟩) (v := ?_) rfl (by kernel_rfl) (by kernel_rfl) (by kernel_rfl) (fun _ _ _ h => h) (Or.inl ⟨by rfl, ?_⟩) hHeld ?_
          rotate_left
          · intro W _; go_simp; try with_reducible rfl
          try simp only [Act.put, List.setIfInBounds_toArray, List.set_cons_zero, List.set_cons_succ]
          refine wpAnyH_take (i := 23) (oi := ⟨some 38, .pick (.tmp 27) (.tmp 37) (.const (.bool false)), _, _, _, some (8, false)⟩) (v := ?_) rfl (by kernel_rfl) (by kernel_rfl) (by kernel_rfl) (fun _ _ _ h => h) (Or.inl ⟨by rfl, ?_⟩) hHeld ?_
          rotate_left
          · intro W _; go_simp; try with_reducible rfl
          try simp only [Act.put, List.setIfInBounds_toArray, List.set_cons_zero, List.set_cons_succ]
          refine wpAnyH_take (i := 24) (oi := ⟨some 39, .pick (.tmp 23) (.const (.bool true)) (.tmp 38), _, _, _, none⟩) (v := ?_) rfl (by kernel_rfl) (by kernel_rfl) (by kernel_rfl) (fun _ _ _ h => h) (Or.inl ⟨by rfl, ?_⟩) hHeld ?_
          rotate_left
          · intro W _; go_simp; try with_reducible rfl
          try simp only [Act.put, List.setIfInBounds_toArray, List.set_cons_zero, List.set_cons_succ]
          refine wpAnyH_take (i := 25) (oi := ⟨some 14, .assign (.tmp 39), _, _, _, none⟩) (v := ?_) rfl (by kernel_rfl) (by kernel_rfl) (by kernel_rfl) (fun _ _ _ h => h) (Or.inl ⟨by rfl, ?_⟩) hHeld ?_
          rotate_left
          · intro W _; go_simp; try with_reducible rfl
          try simp only [Act.put, List.setIfInBounds_toArray, List.set_cons_zero, List.set_cons_succ]
          refine wpAnyH_done (by kernel_rfl) ?_ _
          -- END nextD
          have hb6 := hb0.below hHeld
          have hB6 : Below w.heap.size w W1 := hB01.trans (hHeld.mono hs01)
          have hs6 : w.heap.size ≤ W1.heap.size := hB6.size
          have hr6 := hr.below hB6
          clear hHeld
          by_cases hk1 : v.kd = 1
          · have hk1' : (v.kd == 1) = true := by simpa using hk1
            have hk2' : (v.kd != 1) = false := by simpa using hk1
            have hc1 := hb6.v1
            rw [hk1] at hc1
            cases hact : act with
            | true =>
              have HE : Hid (nextI l v = 51) := Lib.hid (HX.out.1 hact hk1)
              go_wp2_with fail
              exact FN.out _ _ 51 HE.out (by decide) rfl hB6
            | false =>
              have HE : Hid (nextI l v = if n = 16 then 2 else 0) := Lib.hid (HX.out.2.1 hact hk1)
              clear hk1 hk1' hk2'
              by_cases h17 : n = 16
              · have h18 : (16 : Int) ≤ (n : Int) := by omega
                go_wp2_with fail
                exact FN.out _ _ 2 (by rw [HE.out, if_pos h17]) (by decide) rfl hB6
              · have h18 : ¬ (16 : Int) ≤ (n : Int) := by omega
                have hO0 := OwnG.nil0 (R := verR) W1 W1.heap.size
                have hsz : ([] : List Vn).length + n ≤ 1000000 := by simp; omega
                have hln : l.length + 1 ≤ 1000000 := by have := hlen.out; omega
                have hen : ([] : List Vn).length + n = n := by simp
                go_wp2_with (first | ((with_reducible refine wpList_appV (o := ⟨some 61, _, _, _, _, _⟩) ?_ (.tmp 59) (.tmp 60) ?_ ?_ hO0 ?_ hr6 hsz (Nat.le_refl _) ?_); rfl; rfl; rfl; rfl; intro a7 c7 w7 hO7 hg7 hx7; rw [hen, List.nil_append] at hO7; have hB7 : Below W1.heap.size W1 w7 := (Below.refl _ W1).grown hg7 (Nat.le_refl _) (fun k e => by cases e); have hv7 := (hb6.below hB7).vr) | ((with_reducible refine wpList_loadV (o := ⟨some 63, _, _, _, _, _⟩) ?_ w.heap.size 0 (.tmp 3) ?_ ?_ hv7 ?_); rfl; rfl; rfl) | ((with_reducible refine wpList_oneV (o := ⟨some 64, _, _, _, _, _⟩) ?_ (.tmp 63) ?_ v ?_ ?_); rfl; rfl; rfl; intro w8 hR8 hB8 hz8; have hO8 := hO7.below hB8; have hb8 : W1.heap.size ≤ w8.heap.size := (Bt hB7 hB8).size) | ((with_reducible refine wpList_appV (o := ⟨some 65, _, _, _, _, _⟩) ?_ (.tmp 62) (.tmp 64) ?_ ?_ hO8 ?_ hR8 hln hb8 ?_); rfl; rfl; rfl; rfl; intro a9 c9 w9 hO9 hg9 hx9))
                rw [hlen.out] at hO9
                refine FY.out _ _ a9 c9 (by rw [HE.out, if_neg h17]) (by rw [hlen.out]) (hO9.lower hs6) (hB6.trans (((Bt hB7 hB8).grown hg9 hb8 (fun k e => (hO8.lt e).1)).mono hs6))
          · have hk1' : (v.kd == 1) = false := by simpa using hk1
            have hk2' : (v.kd != 1) = true := by simpa using hk1
            have hc1 := hb6.v1
            cases hact : act with
            | false =>
              have HE : Hid (nextI l v = 52) := Lib.hid (HX.out.2.2.1 hact hk1)
              go_wp2_with fail
              exact FN.out _ _ 52 HE.out (by decide) rfl hB6
            | true =>
              have HE : Hid (nextI l v = if n = 16 then 2 else 0) := Lib.hid (HX.out.2.2.2 hact hk1)
              by_cases h17 : n = 16
              · have h18 : (16 : Int) ≤ (n : Int) := by omega
                go_wp2_with fail
                exact FN.out _ _ 2 (by rw [HE.out, if_pos h17]) (by decide) rfl hB6
              · have h18 : ¬ (16 : Int) ≤ (n : Int) := by omega
                have hO0 := OwnG.nil0 (R := verR) W1 W1.heap.size
                have hsz : ([] : List Vn).length + n ≤ 1000000 := by simp; omega
                have hln : l.length + 1 ≤ 1000000 := by have := hlen.out; omega
                have hen : ([] : List Vn).length + n = n := by simp
                go_wp2_with (first | ((with_reducible refine wpList_appV (o := ⟨some 61, _, _, _, _, _⟩) ?_ (.tmp 59) (.tmp 60) ?_ ?_ hO0 ?_ hr6 hsz (Nat.le_refl _) ?_); rfl; rfl; rfl; rfl; intro a7 c7 w7 hO7 hg7 hx7; rw [hen, List.nil_append] at hO7; have hB7 : Below W1.heap.size W1 w7 := (Below.refl _ W1).grown hg7 (Nat.le_refl _) (fun k e => by cases e); have hv7 := (hb6.below hB7).vr) | ((with_reducible refine wpList_loadV (o := ⟨some 63, _, _, _, _, _⟩) ?_ w.heap.size 0 (.tmp 3) ?_ ?_ hv7 ?_); rfl; rfl; rfl) | ((with_reducible refine wpList_oneV (o := ⟨some 64, _, _, _, _, _⟩) ?_ (.tmp 63) ?_ v ?_ ?_); rfl; rfl; rfl; intro w8 hR8 hB8 hz8; have hO8 := hO7.below hB8; have hb8 : W1.heap.size ≤ w8.heap.size := (Bt hB7 hB8).size) | ((with_reducible refine wpList_appV (o := ⟨some 65, _, _, _, _, _⟩) ?_ (.tmp 62) (.tmp 64) ?_ ?_ hO8 ?_ hR8 hln hb8 ?_); rfl; rfl; rfl; rfl; intro a9 c9 w9 hO9 hg9 hx9))
                rw [hlen.out] at hO9
                refine FY.out _ _ a9 c9 (by rw [HE.out, if_neg h17]) (by rw [hlen.out]) (hO9.lower hs6) (hB6.trans (((Bt hB7 hB8).grown hg9 hb8 (fun k e => (hO8.lt e).1)).mono hs6))
end Go.Proofs.Ytbbckjpgmpfkgaa
