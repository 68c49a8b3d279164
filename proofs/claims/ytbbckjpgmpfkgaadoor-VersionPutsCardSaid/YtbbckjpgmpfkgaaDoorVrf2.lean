/-
  The walks of the document's answers for package version: Own, Same, Next, At.
-/
import Derived.Test.YtbbckjpgmpfkgaaDoorVrf1
namespace Go.Proofs.YtbbckjpgmpfkgaaDoor
open Go.RowKit
set_option maxRecDepth 100000

instance : DecidableEq Vn := fun x y => decidable_of_iff _ (sameVn_iff x y)
theorem sameVn_eq (x y : Vn) : sameVn x y = decide (x = y) := by
  cases h : sameVn x y with
  | true => exact (decide_eq_true ((sameVn_iff x y).1 h)).symm
  | false => exact (decide_eq_false (fun e => by rw [(sameVn_iff x y).2 e] at h; cases h)).symm
theorem take_step {l m : List Vn} {k : Nat} (hl : k < l.length) (hm : k < m.length) (h : l.take k = m.take k) (e : l.getD k vn0 = m.getD k vn0) : l.take (k + 1) = m.take (k + 1) := by
  have e1 : l.getD k vn0 = l[k] := by simp [List.getD, hl]
  have e2 : m.getD k vn0 = m[k] := by simp [List.getD, hm]
  rw [List.take_succ_eq_append_getElem hl, List.take_succ_eq_append_getElem hm, h, ← e1, ← e2, e]

set_option maxRecDepth 100000 in
set_option maxHeartbeats 1000000 in
theorem sameV_any (w : World) (a : Option Addr) (n c : Nat) (l : List Vn) (hr : RdV w a n c l) (a' : Option Addr) (n' c' : Nat) (m : List Vn) (hr' : RdV w a' n' c' m) :
    Calls Tryd.prog 26 #[.slice a n c, .slice a' n' c'] w fun e w' => e = .returned (.bool (decide (l = m))) ∧ Below w.heap.size w w' := by
  have hlen := Lib.hid hr.len
  have hlen' := Lib.hid hr'.len
  have hB0 := Below.refl w.heap.size w
  by_cases hne : n = n'
  · subst hne
    have hnn : ((n : Int) != (n : Int)) = false := by simp
    have HEL : Hid (∀ i : Nat, i < n → ∃ b off b' off', a = some ⟨b, off, none⟩ ∧ a' = some ⟨b', off', none⟩ ∧ w.rangeAt b (off + i * 3) (vc (l.getD i vn0)) ∧ w.rangeAt b' (off' + i * 3) (vc (m.getD i vn0))) := Lib.hid (fun i h => by
      obtain ⟨b, off, h1, h2, h3⟩ := RdV.elems hr (by omega)
      obtain ⟨b', off', g1, g2, g3⟩ := RdV.elems hr' (by omega)
      exact ⟨b, off, b', off', h1, g1, h3 i h, g3 i h⟩)
    have hcap := hr.max
    have hn63 : n ≤ 9223372036854775807 := by have := hr.cap; unfold maxLen at hcap; omega
    clear hr hr' hcap
    go_enter Tryd.func26, Tryd.ntmps26
    go_wp2_with fail
    go_loopw [5] (fun i wr => ∃ k : Nat, k ≤ n ∧ i = .int .i64 (k : Int) ∧ Hid (l.take k = m.take k) ∧ Below w.heap.size w wr) (fun i _ => n - (intOf i).toNat)
    case atStart => exact ⟨0, by omega, rfl, Lib.hid rfl, Below.refl _ w⟩
    case round =>
      obtain ⟨k, hk, rfl, HA, hB⟩ := hrel
      by_cases hlt : k < n
      · obtain ⟨b, off, b', off', rfl, rfl, hx0, hy0⟩ := HEL.out k hlt
        have hx := range_below hB hx0
        have hy := range_below hB hy0
        have hkl : (k : Int) < (n : Int) := by omega
        have HSX := Lib.hid (fun e : l.getD k vn0 = m.getD k vn0 => take_step (by rw [hlen.out]; exact hlt) (by rw [hlen'.out]; exact hlt) HA.out e)
        have HSN : Hid (l = m → l.getD k vn0 = m.getD k vn0) := Lib.hid (fun e => by rw [e])
        have RN := Lib.hid (fun W : World => neqV W (l.getD k vn0) (m.getD k vn0))
        clear hx0 hy0 HEL
        generalize l.getD k vn0 = x at *
        generalize m.getD k vn0 = y at *
        cases hs : sameVn x y with
        | true =>
          rw [hs] at RN
          have HT := Lib.hid (HSX.out ((sameVn_iff x y).1 hs))
          go_wp2_with fail
          -- REGION sameT 10
          refine wp_region_held_drew (S := fun W => Below wr.heap.size wr W) (by kernel_rfl) ((Below.refl _ wr).drew) (fun hHeld => ?_)
          refine wpAnyH_take (i := 0) (oi := ⟨some 17, .move (.tmp 0), _, _, _, none⟩) (v := ?_) rfl (by kernel_rfl) (by kernel_rfl) (by kernel_rfl) (fun _ _ _ h => h) (Or.inl ⟨by rfl, ?_⟩) hHeld ?_
          rotate_left
          · intro W _; go_simp; try with_reducible rfl
          try simp only [Act.put, List.setIfInBounds_toArray, List.set_cons_zero, List.set_cons_succ]
          refine wpAnyH_take (i := 1) (oi := ⟨some 18, .move (.tmp 5), _, _, _, none⟩) (v := ?_) rfl (by kernel_rfl) (by kernel_rfl) (by kernel_rfl) (fun _ _ _ h => h) (Or.inl ⟨by rfl, ?_⟩) hHeld ?_
          rotate_left
          · intro W _; go_simp; try with_reducible rfl
          try simp only [Act.put, List.setIfInBounds_toArray, List.set_cons_zero, List.set_cons_succ]
          refine wpAnyH_take (i := 2) (oi := ⟨some 19, .indexAddr 48 (.tmp 17) (.tmp 18), _, _, _, none⟩) (v := ?_) rfl (by kernel_rfl) (by kernel_rfl) (by kernel_rfl) (fun _ _ _ h => h) (Or.inl ⟨by rfl, ?_⟩) hHeld ?_
          rotate_left
          · intro W _; go_simp; try with_reducible rfl
          try simp only [Act.put, List.setIfInBounds_toArray, List.set_cons_zero, List.set_cons_succ]
          refine wpAnyH_take (i := 3) (oi := ⟨some 20, .load 87 (.tmp 19), _, _, _, none⟩) (v := .agg (vc x).toArray) rfl (by kernel_rfl) (by kernel_rfl) (by kernel_rfl) (fun _ _ _ h => h) (yieldsIf_loadV (by rfl) b (off + k * 3) _ rfl rfl (fun W hS => range_below hS hx)) hHeld ?_
          try simp only [Act.put, List.setIfInBounds_toArray, List.set_cons_zero, List.set_cons_succ]
          refine wpAnyH_take (i := 4) (oi := ⟨some 21, .move (.tmp 1), _, _, _, none⟩) (v := ?_) rfl (by kernel_rfl) (by kernel_rfl) (by kernel_rfl) (fun _ _ _ h => h) (Or.inl ⟨by rfl, ?_⟩) hHeld ?_
          rotate_left
          · intro W _; go_simp; try with_reducible rfl
          try simp only [Act.put, List.setIfInBounds_toArray, List.set_cons_zero, List.set_cons_succ]
          refine wpAnyH_take (i := 5) (oi := ⟨some 22, .move (.tmp 5), _, _, _, none⟩) (v := ?_) rfl (by kernel_rfl) (by kernel_rfl) (by kernel_rfl) (fun _ _ _ h => h) (Or.inl ⟨by rfl, ?_⟩) hHeld ?_
          rotate_left
          · intro W _; go_simp; try with_reducible rfl
          try simp only [Act.put, List.setIfInBounds_toArray, List.set_cons_zero, List.set_cons_succ]
          refine wpAnyH_take (i := 6) (oi := ⟨some 23, .indexAddr 48 (.tmp 21) (.tmp 22), _, _, _, none⟩) (v := ?_) rfl (by kernel_rfl) (by kernel_rfl) (by kernel_rfl) (fun _ _ _ h => h) (Or.inl ⟨by rfl, ?_⟩) hHeld ?_
          rotate_left
          · intro W _; go_simp; try with_reducible rfl
          try simp only [Act.put, List.setIfInBounds_toArray, List.set_cons_zero, List.set_cons_succ]
          refine wpAnyH_take (i := 7) (oi := ⟨some 24, .load 87 (.tmp 23), _, _, _, none⟩) (v := .agg (vc y).toArray) rfl (by kernel_rfl) (by kernel_rfl) (by kernel_rfl) (fun _ _ _ h => h) (yieldsIf_loadV (by rfl) b' (off' + k * 3) _ rfl rfl (fun W hS => range_below hS hy)) hHeld ?_
          try simp only [Act.put, List.setIfInBounds_toArray, List.set_cons_zero, List.set_cons_succ]
          refine wpAnyH_take (i := 8) (oi := ⟨some 25, .binOp .neq 87 (.tmp 20) (.tmp 24) 87, _, _, _, none⟩) (v := .bool false) rfl (by kernel_rfl) (by kernel_rfl) (by kernel_rfl) (fun _ _ _ h => h) (yieldsIf_eqH (by rfl) .neq 87 87 (.tmp 20) (.tmp 24) rfl _ _ rfl rfl guardV _ RN.out) hHeld ?_
          try simp only [Act.put, List.setIfInBounds_toArray, List.set_cons_zero, List.set_cons_succ]
          refine wpAnyH_done (by kernel_rfl) ?_ _
          -- END sameT
          go_wp2_with fail
          go_roundw
          case rel => exact ⟨k + 1, by omega, by go_num, HT, Bt hB hHeld⟩
          case measure => simp [intOf]; omega
        | false =>
          rw [hs] at RN
          have HF : Hid (decide (l = m) = false) := Lib.hid (decide_eq_false (fun e => by have := (sameVn_iff x y).2 (HSN.out e); rw [hs] at this; cases this))
          go_wp2_with fail
          -- REGION sameF 10
          refine wp_region_held_drew (S := fun W => Below wr.heap.size wr W) (by kernel_rfl) ((Below.refl _ wr).drew) (fun hHeld => ?_)
          refine wpAnyH_take (i := 0) (oi := ⟨some 17, .move (.tmp 0), _, _, _, none⟩) (v := ?_) rfl (by kernel_rfl) (by kernel_rfl) (by kernel_rfl) (fun _ _ _ h => h) (Or.inl ⟨by rfl, ?_⟩) hHeld ?_
          rotate_left
          · intro W _; go_simp; try with_reducible rfl
          try simp only [Act.put, List.setIfInBounds_toArray, List.set_cons_zero, List.set_cons_succ]
          refine wpAnyH_take (i := 1) (oi := ⟨some 18, .move (.tmp 5), _, _, _, none⟩) (v := ?_) rfl (by kernel_rfl) (by kernel_rfl) (by kernel_rfl) (fun _ _ _ h => h) (Or.inl ⟨by rfl, ?_⟩) hHeld ?_
          rotate_left
          · intro W _; go_simp; try with_reducible rfl
          try simp only [Act.put, List.setIfInBounds_toArray, List.set_cons_zero, List.set_cons_succ]
          refine wpAnyH_take (i := 2) (oi := ⟨some 19, .indexAddr 48 (.tmp 17) (.tmp 18), _, _, _, none⟩) (v := ?_) rfl (by kernel_rfl) (by kernel_rfl) (by kernel_rfl) (fun _ _ _ h => h) (Or.inl ⟨by rfl, ?_⟩) hHeld ?_
          rotate_left
          · intro W _; go_simp; try with_reducible rfl
          try simp only [Act.put, List.setIfInBounds_toArray, List.set_cons_zero, List.set_cons_succ]
          refine wpAnyH_take (i := 3) (oi := ⟨some 20, .load 87 (.tmp 19), _, _, _, none⟩) (v := .agg (vc x).toArray) rfl (by kernel_rfl) (by kernel_rfl) (by kernel_rfl) (fun _ _ _ h => h) (yieldsIf_loadV (by rfl) b (off + k * 3) _ rfl rfl (fun W hS => range_below hS hx)) hHeld ?_
          try simp only [Act.put, List.setIfInBounds_toArray, List.set_cons_zero, List.set_cons_succ]
          refine wpAnyH_take (i := 4) (oi := ⟨some 21, .move (.tmp 1), _, _, _, none⟩) (v := ?_) rfl (by kernel_rfl) (by kernel_rfl) (by kernel_rfl) (fun _ _ _ h => h) (Or.inl ⟨by rfl, ?_⟩) hHeld ?_
          rotate_left
          · intro W _; go_simp; try with_reducible rfl
          try simp only [Act.put, List.setIfInBounds_toArray, List.set_cons_zero, List.set_cons_succ]
          refine wpAnyH_take (i := 5) (oi := ⟨some 22, .move (.tmp 5), _, _, _, none⟩) (v := ?_) rfl (by kernel_rfl) (by kernel_rfl) (by kernel_rfl) (fun _ _ _ h => h) (Or.inl ⟨by rfl, ?_⟩) hHeld ?_
          rotate_left
          · intro W _; go_simp; try with_reducible rfl
          try simp only [Act.put, List.setIfInBounds_toArray, List.set_cons_zero, List.set_cons_succ]
          refine wpAnyH_take (i := 6) (oi := ⟨some 23, .indexAddr 48 (.tmp 21) (.tmp 22), _, _, _, none⟩) (v := ?_) rfl (by kernel_rfl) (by kernel_rfl) (by kernel_rfl) (fun _ _ _ h => h) (Or.inl ⟨by rfl, ?_⟩) hHeld ?_
          rotate_left
          · intro W _; go_simp; try with_reducible rfl
          try simp only [Act.put, List.setIfInBounds_toArray, List.set_cons_zero, List.set_cons_succ]
          refine wpAnyH_take (i := 7) (oi := ⟨some 24, .load 87 (.tmp 23), _, _, _, none⟩) (v := .agg (vc y).toArray) rfl (by kernel_rfl) (by kernel_rfl) (by kernel_rfl) (fun _ _ _ h => h) (yieldsIf_loadV (by rfl) b' (off' + k * 3) _ rfl rfl (fun W hS => range_below hS hy)) hHeld ?_
          try simp only [Act.put, List.setIfInBounds_toArray, List.set_cons_zero, List.set_cons_succ]
          refine wpAnyH_take (i := 8) (oi := ⟨some 25, .binOp .neq 87 (.tmp 20) (.tmp 24) 87, _, _, _, none⟩) (v := .bool true) rfl (by kernel_rfl) (by kernel_rfl) (by kernel_rfl) (fun _ _ _ h => h) (yieldsIf_eqH (by rfl) .neq 87 87 (.tmp 20) (.tmp 24) rfl _ _ rfl rfl guardV _ RN.out) hHeld ?_
          try simp only [Act.put, List.setIfInBounds_toArray, List.set_cons_zero, List.set_cons_succ]
          refine wpAnyH_done (by kernel_rfl) ?_ _
          -- END sameF
          go_wp2_with fail
          go_ret
          exact ⟨by rw [HF.out]; rfl, Bt hB hHeld⟩
      · obtain rfl : k = n := by omega
        have hkl : ¬ (k : Int) < (k : Int) := by omega
        have HT : Hid (decide (l = m) = true) := Lib.hid (decide_eq_true (by have := HA.out; rwa [List.take_of_length_le (by rw [hlen.out]; omega), List.take_of_length_le (by rw [hlen'.out]; omega)] at this))
        go_wp2_with fail
        go_ret
        exact ⟨by rw [HT.out]; rfl, hB⟩
  · have hnn : ((n : Int) != (n' : Int)) = true := by simp; omega
    have HF : Hid (decide (l = m) = false) := Lib.hid (decide_eq_false (fun e => hne (by rw [← hlen.out, ← hlen'.out, e])))
    go_enter Tryd.func26, Tryd.ntmps26
    go_wp2_with fail
    go_ret
    exact ⟨by rw [HF.out]; rfl, hB0⟩

theorem act_flag {l : List Vn} (h : isB l = true) : (actK l).2 = decide ((prevV l l.length).kd = 1 ∨ (prevV l l.length).kd = 2) := by
  rw [actK_eq h]
  have ha := isB_last h
  have hk := prev_kd ha
  by_cases h0 : l.length = 0
  · rw [if_pos (.inl h0), h0]
    rfl
  · have hm : mayB (prevV l l.length) = true := by
      obtain ⟨k, hk⟩ : ∃ k, l.length = k + 1 := ⟨l.length - 1, by omega⟩
      rw [hk, allB_succ] at ha
      simp only [Bool.and_eq_true, stepB] at ha
      rw [hk]
      exact (refI_zero ha.2).1
    have hk2 := mayB_kd hm
    by_cases h3 : (prevV l l.length).kd = 3
    · rw [if_pos (.inr h3)]
      simp [h3]
    · rw [if_neg (by omega)]
      simp
      omega
/-- what Next answers, by the active key -/
structure NextX (l : List Vn) (v : Vn) (n : Nat) (act : Bool) : Prop where
  a : act = true → v.kd = 1 → nextI l v = 51
  b : act = false → v.kd = 1 → nextI l v = if n = 16 then 2 else 0
  c : act = false → ¬ v.kd = 1 → nextI l v = 52
  d : act = true → ¬ v.kd = 1 → nextI l v = if n = 16 then 2 else 0
theorem NextX.mk' {l : List Vn} {v : Vn} (h : isB l = true) (hm : mayB v = true) (he : ¬ v.ep < (prevV l l.length).ep) : (((actK l).2 = true → v.kd = 1 → nextI l v = 51) ∧ ((actK l).2 = false → v.kd = 1 → nextI l v = if l.length = 16 then 2 else 0) ∧ ((actK l).2 = false → ¬ v.kd = 1 → nextI l v = 52) ∧ ((actK l).2 = true → ¬ v.kd = 1 → nextI l v = if l.length = 16 then 2 else 0)) := by
  rw [act_flag h]
  unfold nextI refI
  rw [if_neg (by simp [h]), if_neg (show ¬ (mayB v = false ∨ v.ep < (prevV l l.length).ep) by simp [hm]; omega)]
  by_cases h1 : (prevV l l.length).kd = 1 ∨ (prevV l l.length).kd = 2
  · simp only [h1, if_true, decide_true]
    refine ⟨fun _ hv => ?_, fun h => by simp at h, fun h => by simp at h, fun _ hv => ?_⟩
    · simp [hv]
    · simp [hv]
  · simp only [h1, if_false, decide_false]
    refine ⟨fun h => by simp at h, fun _ hv => ?_, fun _ hv => ?_, fun h => by simp at h⟩
    · simp [hv]
    · simp [hv]
theorem nextI_no {l : List Vn} {v : Vn} (h : isB l = false ∨ mayB v = false ∨ v.ep < (prevV l l.length).ep) : nextI l v = 50 := by
  unfold nextI
  rcases h with h | h
  · rw [if_pos h]
  · by_cases h2 : isB l = false
    · rw [if_pos h2]
    · rw [if_neg h2]
      have : refI (prevV l l.length) v = 50 := by unfold refI; rw [if_pos h]
      rw [this]
      rfl

end Go.Proofs.YtbbckjpgmpfkgaaDoor
