/-
  The walks of the document's answers for package version: Own, Same, Next, At.
-/
import Derived.Test.YtbbckjpgmpfkgabVrf1
namespace Go.Proofs.Ytbbckjpgmpfkgab
open Go.RowKit

instance : DecidableEq Vn := fun x y => decidable_of_iff _ (sameVn_iff x y)
theorem sameVn_eq (x y : Vn) : sameVn x y = decide (x = y) := by
  cases h : sameVn x y with
  | true => exact (decide_eq_true ((sameVn_iff x y).1 h)).symm
  | false => exact (decide_eq_false (fun e => by rw [(sameVn_iff x y).2 e] at h; cases h)).symm
theorem take_step {l m : List Vn} {k : Nat} (hl : k < l.length) (hm : k < m.length) (h : l.take k = m.take k) (e : l.getD k vn0 = m.getD k vn0) : l.take (k + 1) = m.take (k + 1) := by
  have e1 : l.getD k vn0 = l[k] := by simp [List.getD, hl]
  have e2 : m.getD k vn0 = m[k] := by simp [List.getD, hm]
  rw [List.take_succ_eq_append_getElem hl, List.take_succ_eq_append_getElem hm, h, ← e1, ← e2, e]

theorem act_flag {l : List Vn} (h : isB l = true) : (actK l).2 = decide ((prevV l l.length).kd = 1 ∨ (prevV l l.length).kd = 2) := by
  rw [actK_eq h]
  have ha := isB_last h
  have hk := prev_kd ha
  by_cases h0 : l.length = 0
  · rw [if_pos (.inl h0), h0]
    rfl
  · have hm : mayB (prevV l l.length) = true := by
      obtain ⟨k, hk⟩ : ∃ k, l.length = k + 1 := ⟨l.length - 1, by omega⟩
      rw [hk, allB_succ] at ha
      simp only [Bool.and_eq_true, stepB] at ha
      rw [hk]
      exact (refI_zero ha.2).1
    have hk2 := mayB_kd hm
    by_cases h3 : (prevV l l.length).kd = 3
    · rw [if_pos (.inr h3)]
      simp [h3]
    · rw [if_neg (by omega)]
      simp
      omega
/-- what Next answers, by the active key -/
structure NextX (l : List Vn) (v : Vn) (n : Nat) (act : Bool) : Prop where
  a : act = true → v.kd = 1 → nextI l v = 51
  b : act = false → v.kd = 1 → nextI l v = if n = 16 then 2 else 0
  c : act = false → ¬ v.kd = 1 → nextI l v = 52
  d : act = true → ¬ v.kd = 1 → nextI l v = if n = 16 then 2 else 0
theorem NextX.mk' {l : List Vn} {v : Vn} (h : isB l = true) (hm : mayB v = true) (he : ¬ v.ep < (prevV l l.length).ep) : (((actK l).2 = true → v.kd = 1 → nextI l v = 51) ∧ ((actK l).2 = false → v.kd = 1 → nextI l v = if l.length = 16 then 2 else 0) ∧ ((actK l).2 = false → ¬ v.kd = 1 → nextI l v = 52) ∧ ((actK l).2 = true → ¬ v.kd = 1 → nextI l v = if l.length = 16 then 2 else 0)) := by
  rw [act_flag h]
  unfold nextI refI
  rw [if_neg (by simp [h]), if_neg (show ¬ (mayB v = false ∨ v.ep < (prevV l l.length).ep) by simp [hm]; omega)]
  by_cases h1 : (prevV l l.length).kd = 1 ∨ (prevV l l.length).kd = 2
  · simp only [h1, if_true, decide_true]
    refine ⟨fun _ hv => ?_, fun h => by simp at h, fun h => by simp at h, fun _ hv => ?_⟩
    · simp [hv]
    · simp [hv]
  · simp only [h1, if_false, decide_false]
    refine ⟨fun h => by simp at h, fun _ hv => ?_, fun _ hv => ?_, fun h => by simp at h⟩
    · simp [hv]
    · simp [hv]
theorem nextI_no {l : List Vn} {v : Vn} (h : isB l = false ∨ mayB v = false ∨ v.ep < (prevV l l.length).ep) : nextI l v = 50 := by
  unfold nextI
  rcases h with h | h
  · rw [if_pos h]
  · by_cases h2 : isB l = false
    · rw [if_pos h2]
    · rw [if_neg h2]
      have : refI (prevV l l.length) v = 50 := by unfold refI; rw [if_pos h]
      rw [this]
      rfl

end Go.Proofs.Ytbbckjpgmpfkgab
