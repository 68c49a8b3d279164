/-
  The walk of the reference's Sorted.
-/
import Derived.Test.YtgbhfpkngjlfkaaDoorRef05F
namespace Go.Proofs.YtgbhfpkngjlfkaaDoor
open Go.RowKit

def insAt (p : List UInt8) (out : List Lf) : Nat := out.findIdx fun y => lessB p y.path
def insL (out : List Lf) (x : Lf) : List Lf := out.take (insAt x.path out) ++ [x] ++ out.drop (insAt x.path out)
def sortedL (l : List Lf) : List Lf := l.foldl insL []
theorem sortedL_snoc (l : List Lf) (x : Lf) : sortedL (l ++ [x]) = insL (sortedL l) x := by simp [sortedL]
theorem insL_ok {out : List Lf} {x : Lf} (h : oks out) (hx : x.ok) : oks (insL out x) :=
  (oks.append (oks.append (fun y hy => h y (List.mem_of_mem_take hy)) (oks.single hx)) (fun y hy => h y (List.mem_of_mem_drop hy)))
theorem insL_len (out : List Lf) (x : Lf) : (insL out x).length = out.length + 1 := by
  simp [insL]; omega
theorem insAt_here {p : List UInt8} {out : List Lf} {k : Nat} (hk : k < out.length) (h1 : ∀ j, j < k → lessB p (out.getD j lf0).path = false) (h2 : lessB p (out.getD k lf0).path = true) : insAt p out = k := by
  rw [insAt, List.findIdx_eq hk]
  refine ⟨by simpa [List.getD, hk] using h2, fun j hj => ?_⟩
  have := h1 j hj
  simpa [List.getD, show j < out.length by omega] using this
theorem insAt_end {p : List UInt8} {out : List Lf} (h1 : ∀ j, j < out.length → lessB p (out.getD j lf0).path = false) : insAt p out = out.length := by
  rw [insAt, List.findIdx_eq_length]
  intro x hx
  obtain ⟨j, hj, rfl⟩ := List.getElem_of_mem hx
  have := h1 j hj
  simpa [List.getD, hj] using this

theorem lcs_take {l : List Lf} (h : oks l) (k : Nat) (hk : k ≤ l.length) : lcs (l.take k) = (lcs l).take (k * 64) := by
  have e : lcs l = lcs (l.take k) ++ lcs (l.drop k) := by rw [← lcs_append, List.take_append_drop]
  have hl : (lcs (l.take k)).length = k * 64 := by
    rw [lcs_length (fun x hx => h x (List.mem_of_mem_take hx)), List.length_take, Nat.min_eq_left hk]
  rw [e, List.take_left' hl]
theorem lcs_drop {l : List Lf} (h : oks l) (k : Nat) (hk : k ≤ l.length) : lcs (l.drop k) = (lcs l).drop (k * 64) := by
  have e : lcs l = lcs (l.take k) ++ lcs (l.drop k) := by rw [← lcs_append, List.take_append_drop]
  have hl : (lcs (l.take k)).length = k * 64 := by
    rw [lcs_length (fun x hx => h x (List.mem_of_mem_take hx)), List.length_take, Nat.min_eq_left hk]
  rw [e, List.drop_left' hl]
theorem RdL.take {w : World} {a : Option Addr} {n c : Nat} {l : List Lf} (h : RdL w a n c l) (k : Nat) (hk : k ≤ n) : RdL w a k c (l.take k) := by
  have hl := h.len
  have hc := h.cap
  refine ⟨by simp; omega, fun x hx => h.ok x (List.mem_of_mem_take hx), by omega, h.max, fun e => by have := h.nil e; omega, fun ad e j u hu => h.cell ad e j u ?_⟩
  rw [lcs_take h.ok k (by omega), List.getElem?_take] at hu
  split at hu
  · exact hu
  · cases hu
theorem RdL.tail {w : World} {a : Option Addr} {n c : Nat} {l : List Lf} (h : RdL w a n c l) (k : Nat) (hk : k ≤ n) : RdL w (a.map fun x => x.add (k * 64)) (n - k) (c - k) (l.drop k) := by
  have hl := h.len
  have hc := h.cap
  have hm := h.max
  refine ⟨by simp; omega, fun x hx => h.ok x (List.mem_of_mem_drop hx), by omega, by omega, fun e => ?_, fun ad e j u hu => ?_⟩
  · cases a with
    | none => have := h.nil rfl; omega
    | some a => simp at e
  · rw [lcs_drop h.ok k (by omega), List.getElem?_drop] at hu
    have hn : 0 < n := by
      rcases Nat.eq_zero_or_pos n with h0 | h0
      · rw [List.eq_nil_of_length_eq_zero (hl.trans h0)] at hu
        simp [lcs] at hu
      · exact h0
    obtain ⟨b, off, rfl, _, _⟩ := h.elems hn
    simp only [Option.map_some, Option.some.injEq, Addr.add_lit] at e
    subst e
    have := h.cell _ rfl (k * 64 + j) u hu
    rw [Addr.add_lit] at this ⊢
    rw [Nat.add_assoc]
    exact this

theorem RdL.none0 (w : World) (a : Option Addr) (c : Nat := 0) (h : a = none → c = 0 := by intros; rfl) (hm : c ≤ maxLen := by decide) : RdL w a 0 c [] := ⟨rfl, fun _ h => (by simp at h), Nat.zero_le _, hm, fun e => ⟨rfl, h e⟩, fun _ _ j u hu => (by simp [lcs] at hu)⟩

end Go.Proofs.YtgbhfpkngjlfkaaDoor
