/-
  Histories, of lists alone: what comes of a version is one; its beginnings are.
-/
import Derived.Test.YtbbckjpgmpfkgaaDoorVrf2
namespace Go.Proofs.YtbbckjpgmpfkgaaDoor
open Go.RowKit
set_option maxRecDepth 100000

theorem getD_take {l : List Vn} {i k : Nat} (h : i < k) : (l.take k).getD i vn0 = l.getD i vn0 := by
  rw [List.getD_eq_getElem?_getD, List.getD_eq_getElem?_getD, List.getElem?_take, if_pos h]
theorem stepB_take {l : List Vn} {i k : Nat} (h : i < k) : stepB (l.take k) i = stepB l i := by
  have e : prevV (l.take k) i = prevV l i := by
    unfold prevV
    split
    · rfl
    · exact getD_take (by omega)
  rw [stepB, stepB, e, getD_take h]
theorem allB_take {l : List Vn} {k m : Nat} (h : m ≤ k) : allB (l.take k) m = allB l m := by
  induction m with
  | zero => rfl
  | succ m ih => rw [allB_succ, allB_succ, ih (by omega), stepB_take (by omega)]
theorem isB_take {l : List Vn} (h : isB l = true) (k : Nat) : isB (l.take k) = true := by
  simp only [isB, Bool.and_eq_true, decide_eq_true_eq] at h ⊢
  refine ⟨by simp; omega, ?_⟩
  rw [allB_take (by simp; omega)]
  exact allB_le h.2 (by simp; omega)
theorem upto_take (l : List Vn) (ep : Int) : ∃ k, upto l ep = l.take k := by
  have h := List.takeWhile_prefix (l := l) (fun v => decide (v.ep ≤ ep))
  exact ⟨_, List.prefix_iff_eq_take.1 h⟩
theorem isB_at (l : List Vn) (ep : Int) : isB (atL l ep) = true := by
  unfold atL
  cases h : isB l with
  | false => rfl
  | true =>
    obtain ⟨k, hk⟩ := upto_take l ep
    rw [if_pos rfl, hk]
    exact isB_take h k
theorem nextI_yes {l : List Vn} {v : Vn} (h : nextI l v = 0) : isB l = true ∧ refI (prevV l l.length) v = 0 ∧ l.length < 16 := by
  unfold nextI at h
  cases hi : isB l with
  | false => rw [hi] at h; simp at h
  | true =>
    have h16 := isB_len hi
    rw [hi, if_neg (by simp)] at h
    by_cases hr : refI (prevV l l.length) v = 0
    · rw [if_neg (by simp [hr])] at h
      refine ⟨rfl, hr, ?_⟩
      by_cases h2 : l.length = 16
      · rw [if_pos h2] at h; simp at h
      · omega
    · rw [if_pos hr] at h
      exact absurd h hr
theorem getD_end (l : List Vn) (v : Vn) : (l ++ [v]).getD l.length vn0 = v := by simp
theorem prevV_app (l : List Vn) (v : Vn) : prevV (l ++ [v]) l.length = prevV l l.length := by
  have h := prevV_take (l ++ [v]) l.length (by simp)
  rw [← h, List.take_left]
theorem isB_next {l : List Vn} {v : Vn} (h : nextI l v = 0) : isB (l ++ [v]) = true := by
  obtain ⟨h1, h2, h3⟩ := nextI_yes h
  have ha := isB_last h1
  have e : allB (l ++ [v]) l.length = allB l l.length := by
    have := allB_take (l := l ++ [v]) (k := l.length) (m := l.length) (Nat.le_refl _)
    rw [← this, List.take_left]
  have e2 : (l ++ [v]).length = l.length + 1 := by simp
  simp only [isB, Bool.and_eq_true, decide_eq_true_eq]
  refine ⟨by omega, ?_⟩
  rw [e2, allB_succ, e, ha, stepB, getD_end, prevV_app, h2]
  rfl
theorem at_next {l : List Vn} {v : Vn} {ep : Int} (h : nextI l v = 0) (he : ¬ v.ep ≤ ep) : atL (l ++ [v]) ep = atL l ep := by
  have h1 := isB_next h
  have h2 := (nextI_yes h).1
  rw [atL, atL, h1, h2, if_pos rfl, if_pos rfl]
  unfold upto
  rw [List.takeWhile_append]
  split
  · rename_i hh
    have e : List.takeWhile (fun v => decide (v.ep ≤ ep)) [v] = [] := by simp [he]
    rw [e, List.append_nil]
    have hp := List.takeWhile_prefix (l := l) (fun v => decide (v.ep ≤ ep))
    exact (List.IsPrefix.eq_of_length hp hh).symm
  · rfl
theorem last_next (l : List Vn) (v : Vn) : prevV (l ++ [v]) (l ++ [v]).length = v := by
  rw [prevV, if_neg (by simp)]
  simp
theorem act_next {l : List Vn} {v : Vn} (h : nextI l v = 0) : actK (l ++ [v]) = (v.key, !decide (v.kd = 3)) ∧ (actK l).2 = !decide (v.kd = 1) := by
  obtain ⟨h1, h2, h3⟩ := nextI_yes h
  have hz := refI_zero (p := prevV l l.length) (v := v) (by rw [h2]; rfl)
  have hk := mayB_kd hz.1
  constructor
  · rw [actK, isB_next h, if_pos rfl, last_next, mayB_key hz.1]
  · rw [act_flag h1]
    unfold refI at h2
    rw [if_neg (by simp [hz.1]; omega)] at h2
    by_cases h4 : (prevV l l.length).kd = 1 ∨ (prevV l l.length).kd = 2
    · rw [if_pos h4] at h2
      have h5 : ¬ v.kd = 1 := fun e => by rw [if_pos e] at h2; simp at h2
      simp [h4, h5]
    · rw [if_neg h4] at h2
      have h5 : v.kd = 1 := by
        by_cases h6 : v.kd = 1
        · exact h6
        · rw [if_neg h6] at h2; simp at h2
      simp [h4, h5]
end Go.Proofs.YtbbckjpgmpfkgaaDoor
