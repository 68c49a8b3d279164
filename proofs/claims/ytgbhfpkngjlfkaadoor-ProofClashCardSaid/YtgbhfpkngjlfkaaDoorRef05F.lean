/-
  The walks of the reference's layer 5: Get, Drop, Same.
-/
import Derived.Test.YtgbhfpkngjlfkaaDoorRef05E
namespace Go.Proofs.YtgbhfpkngjlfkaaDoor
open Go.RowKit

def findL (l : List Lf) (p : List UInt8) : Option Lf := l.find? fun x => x.path == p
def dropL (l : List Lf) (p : List UInt8) : List Lf := l.filter fun x => !(x.path == p)
def sameLL : List Lf → List Lf → Bool
  | [], [] => true
  | x :: l, y :: m => sameLf x y && sameLL l m
  | _, _ => false
theorem sameLf_iff (x y : Lf) : sameLf x y = true ↔ x = y := by
  obtain ⟨a, b⟩ := x
  obtain ⟨c, d⟩ := y
  simp [sameLf]
theorem sameLL_iff : ∀ l m : List Lf, sameLL l m = true ↔ l = m
  | [], [] => by simp [sameLL]
  | [], _ :: _ => by simp [sameLL]
  | _ :: _, [] => by simp [sameLL]
  | x :: l, y :: m => by
    rw [sameLL, Bool.and_eq_true, sameLf_iff, sameLL_iff l m]
    simp
theorem findL_some {l : List Lf} {p : List UInt8} {k : Nat} (hk : k < l.length) (h1 : ∀ j, j < k → (l.getD j lf0).path ≠ p) (h2 : (l.getD k lf0).path = p) : findL l p = some (l.getD k lf0) := by
  have e : l.getD k lf0 = l[k] := by simp [List.getD, hk]
  rw [e] at h2 ⊢
  rw [findL, List.find?_eq_some_iff_getElem]
  refine ⟨by simpa using h2, k, hk, rfl, fun j hj => ?_⟩
  have := h1 j hj
  simpa [List.getD, show j < l.length by omega] using this
theorem findL_none {l : List Lf} {p : List UInt8} (h1 : ∀ j, j < l.length → (l.getD j lf0).path ≠ p) : findL l p = none := by
  rw [findL, List.find?_eq_none]
  intro x hx
  obtain ⟨j, hj, rfl⟩ := List.getElem_of_mem hx
  have := h1 j hj
  simpa [List.getD, hj] using this
theorem drop_step (l : List Lf) (p : List UInt8) (k : Nat) (h : k < l.length) : dropL (l.take (k + 1)) p = dropL (l.take k) p ++ (if (l.getD k lf0).path = p then [] else [l.getD k lf0]) := by
  rw [take_succ_lf l k h, dropL, dropL, List.filter_append]
  congr 1
  generalize l.getD k lf0 = x
  by_cases hb : x.path = p
  · rw [if_pos hb]; simp [hb]
  · rw [if_neg hb]; simp [hb]
theorem dropL_ok {l : List Lf} (h : oks l) (p : List UInt8) : oks (dropL l p) := fun x hx => h x (List.mem_filter.1 hx).1

/-- what the walk of Drop knows of a world: the path, the row that grows -/
structure BoxL (w W : World) (p : List UInt8) : Prop where
  box : Blk W w.heap.size 23 (bs p)
  bel : Below w.heap.size w W
theorem BoxL.below {w W W' : World} {p : List UInt8} (h : BoxL w W p) (hb : Below W.heap.size W W') : BoxL w W' p := ⟨h.box.below hb, Bt h.bel hb⟩
theorem BoxL.drew {w W : World} {p : List UInt8} (h : BoxL w W p) : BoxL w W.drew p := h.below ⟨rfl, rfl, rfl, Nat.le_refl _, fun _ _ => rfl⟩

theorem sameLL_ne {l m : List Lf} {k : Nat} (_hk : k < l.length) (h : sameLf (l.getD k lf0) (m.getD k lf0) = false) : sameLL l m = false := by
  cases e : sameLL l m
  · rfl
  · rw [(sameLL_iff l m).1 e] at h
    rw [(sameLf_iff _ _).2 rfl] at h
    cases h
theorem sameLL_all {l m : List Lf} (hl : l.length = m.length) (h : ∀ j, j < l.length → sameLf (l.getD j lf0) (m.getD j lf0) = true) : sameLL l m = true := by
  refine (sameLL_iff l m).2 (List.ext_getElem hl fun j h1 h2 => ?_)
  have := (sameLf_iff _ _).1 (h j h1)
  simpa [List.getD, h1, h2] using this

end Go.Proofs.YtgbhfpkngjlfkaaDoor
