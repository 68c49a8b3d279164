/-
  The walks of the document's answers for package version: May, follows, Is, Active, Next, At, Same, Own.
-/
import Derived.Test.YtbbckjpgmpfkgabVer2
namespace Go.Proofs.Ytbbckjpgmpfkgab
open Go.RowKit

def folB (p v : Int) : Bool := if p = 0 ∨ p = 3 then v == 1 else (v == 2 || v == 3)
theorem mayB_kd {v : Vn} (h : mayB v = true) : v.kd = 1 ∨ v.kd = 2 ∨ v.kd = 3 := by
  simp only [mayB, Bool.and_eq_true] at h
  have h2 := h.2
  split at h2
  · omega
  · simp at h2; omega
theorem refI_zero {p v : Vn} (h : (refI p v == 0) = true) : mayB v = true ∧ p.ep ≤ v.ep := by
  unfold refI at h
  split at h
  · simp at h
  · rename_i hh
    simp only [not_or, Bool.not_eq_false, Int.not_lt] at hh
    exact hh
theorem prev_kd {l : List Vn} {k : Nat} (h : allB l k = true) : (prevV l k).kd = 0 ∨ (prevV l k).kd = 1 ∨ (prevV l k).kd = 2 ∨ (prevV l k).kd = 3 := by
  cases k with
  | zero => left; rfl
  | succ k =>
    rw [allB_succ] at h
    simp only [Bool.and_eq_true, stepB] at h
    right
    exact mayB_kd (refI_zero h.2).1
theorem stepR {l : List Vn} {k : Nat} (h : allB l k = true) : stepB l k = (mayB (l.getD k vn0) && !decide ((l.getD k vn0).ep < (prevV l k).ep) && folB (prevV l k).kd (l.getD k vn0).kd) := by
  have hk := prev_kd h
  unfold stepB
  generalize prevV l k = p at *
  generalize l.getD k vn0 = x at *
  unfold refI folB
  cases hm : mayB x with
  | false => simp
  | true =>
    have hx := mayB_kd hm
    by_cases he : x.ep < p.ep
    · simp [he]
    · rcases hk with hk | hk | hk | hk <;> rcases hx with hx | hx | hx <;> simp [hk, hx, he]

theorem isB_last {l : List Vn} (h : isB l = true) : allB l l.length = true := by
  simp only [isB, Bool.and_eq_true] at h
  exact h.2
theorem mayB_key {v : Vn} (h : mayB v = true) : v.key.toList.isEmpty = decide (v.kd = 3) := by
  have hk := mayB_kd h
  simp only [mayB, Bool.and_eq_true] at h
  have h2 := h.2
  split at h2
  · rename_i hh
    have h3 : ¬ v.kd = 3 := by omega
    have h4 : 0 < v.key.toList.length := by
      simp at h2
      have : v.key.toList.length = v.key.size := by rw [ByteArray.toList_eq]; exact Array.length_toList
      omega
    rw [decide_eq_false h3]
    cases he : v.key.toList with
    | nil => rw [he] at h4; simp at h4
    | cons _ _ => rfl
  · simp only [Bool.and_eq_true, decide_eq_true_eq] at h2
    rw [h2.2, decide_eq_true h2.1]
/-- the active key, as the document has it -/
theorem actK_eq {l : List Vn} (h : isB l = true) : actK l = if l.length = 0 ∨ (prevV l l.length).kd = 3 then (ByteArray.empty, false) else ((prevV l l.length).key, true) := by
  unfold actK
  rw [if_pos h]
  have ha := isB_last h
  by_cases h0 : l.length = 0
  · rw [if_pos (.inl h0), h0]
    show (ByteArray.empty, !ByteArray.empty.toList.isEmpty) = (ByteArray.empty, false)
    rw [ByteArray.toList_eq]
    rfl
  · have hm : mayB (prevV l l.length) = true := by
      obtain ⟨k, hk⟩ : ∃ k, l.length = k + 1 := ⟨l.length - 1, by omega⟩
      rw [hk, allB_succ] at ha
      simp only [Bool.and_eq_true, stepB] at ha
      rw [hk]
      exact (refI_zero ha.2).1
    rw [mayB_key hm]
    by_cases h3 : (prevV l l.length).kd = 3
    · rw [if_pos (.inr h3)]
      have := mayB_key hm
      rw [h3] at this
      simp [h3]
      simp at this
      have e : (prevV l l.length).key.toList = [] := by simpa using this
      have e2 : (prevV l l.length).key.data.toList = [] := by rwa [ByteArray.toList_eq] at e
      cases hh : (prevV l l.length).key with
      | mk d => rw [hh] at e2; have : d = #[] := by simpa using e2
                rw [this]; rfl
    · rw [if_neg (by omega)]
      simp [h3]

end Go.Proofs.Ytbbckjpgmpfkgab
