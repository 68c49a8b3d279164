/-
  The walks of the reference's layer 5: Twice, Root, Get, Drop, Same.
-/
import Derived.Test.YtgbhfpkngjlfkaaDoorRef05D
import Derived.Test.YtgbhfpkngjlfkaaDoorLibE
namespace Go.Proofs.YtgbhfpkngjlfkaaDoor
open Go.RowKit

theorem below_drew {w W : World} (h : Below w.heap.size w W) : Below w.heap.size w W.drew := ⟨h.os, h.tape, h.output, h.size, h.block⟩

/-- are two paths of a list the same? -/
def twiceB : List Lf → Bool
  | [] => false
  | x :: l => l.any (fun y => x.path == y.path) || twiceB l
theorem twiceB_iff : ∀ l : List Lf, twiceB l = false ↔ unlike l
  | [] => by simp [twiceB, unlike]
  | x :: l => by
    have ih := twiceB_iff l
    rw [twiceB, Bool.or_eq_false_iff, ih, unlike, unlike, List.pairwise_cons]
    simp
theorem twiceB_false {l : List Lf} (h : unlike l) : twiceB l = false := (twiceB_iff l).2 h
theorem twiceB_true {l : List Lf} (h : ¬ unlike l) : twiceB l = true := by
  cases e : twiceB l
  · exact absurd ((twiceB_iff l).1 e) h
  · rfl
theorem unlike_take {l : List Lf} (i : Nat) (hi : i < l.length) (h : unlike (l.take i)) (hk : ∀ k, k < i → (l.getD k lf0).path ≠ (l.getD i lf0).path) : unlike (l.take (i + 1)) := by
  rw [take_succ_lf l i hi, unlike, List.pairwise_append]
  refine ⟨h, by simp, fun x hx y hy => ?_⟩
  obtain rfl : y = l.getD i lf0 := by simpa using hy
  obtain ⟨k, hk1, hk2⟩ := List.getElem_of_mem hx
  have hki : k < i := by simp at hk1; omega
  have := hk k hki
  rw [← hk2]
  simpa [List.getD, show k < l.length by omega] using this
theorem not_unlike {l : List Lf} {i k : Nat} (hk : k < i) (hi : i < l.length) (h : (l.getD k lf0).path = (l.getD i lf0).path) : ¬ unlike l := fun hu => by
  have := List.pairwise_iff_getElem.1 hu k i (by omega) hi hk
  simp [List.getD, hi, show k < l.length by omega] at h
  exact this h

/-- what Root answers -/
def rootI (x : Int) (l : List Lf) : List UInt8 := if 0 ≤ x ∧ x ≤ 32 then (if l.length ≤ 4096 then (if twiceB l then zero32 else rootL x.toNat l) else zero32) else zero32
def rootE (x : Int) (l : List Lf) : Int := if 0 ≤ x ∧ x ≤ 32 then (if l.length ≤ 4096 then (if twiceB l then 30 else 0) else 2) else 1
theorem rootI_length (x : Int) (l : List Lf) : (rootI x l).length = 32 := by
  unfold rootI
  split
  · split
    · split
      · rfl
      · exact digestF_length _ (by omega) _ _ _
    · rfl
  · rfl

end Go.Proofs.YtgbhfpkngjlfkaaDoor
