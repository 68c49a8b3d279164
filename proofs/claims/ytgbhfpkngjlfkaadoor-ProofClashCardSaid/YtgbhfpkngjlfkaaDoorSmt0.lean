/-
  What layer 5 speaks of, on lists: short digests, the digest of leaves, what sets and drops make of leaves.
-/
import Derived.Test.YtgbhfpkngjlfkaaDoorLibL
import Derived.Test.YtgbhfpkngjlfkaaDoorPath0
import Derived.Test.YtgbhfpkngjlfkaaDoorShaC
namespace Go.Proofs.YtgbhfpkngjlfkaaDoor

def shortL (w : Nat) (d : List UInt8) : List UInt8 := d.take w ++ List.replicate (32 - w) 0
def shortB (w : Nat) (b : List UInt8) : List UInt8 := shortL w (sha b)
def emptyD (w : Nat) : List UInt8 := shortB w [2]
def leafD (w : Nat) (x : Lf) : List UInt8 := shortB w ([0] ++ x.path ++ x.val)
def nodeD (w : Nat) (l r : List UInt8) : List UInt8 := shortB w ([1] ++ l ++ r)
def half (l : List Lf) (n bit : Nat) : List Lf := l.filter fun x => decide (bitAt x.path n = bit)
/-- the digest of leaves at depth n, k depths to go -/
def digestF (w : Nat) : Nat → List Lf → Nat → List UInt8
  | _, [], _ => emptyD w
  | _, [x], _ => leafD w x
  | 0, _ :: _ :: _, _ => emptyD w
  | k + 1, x :: y :: l, n => nodeD w (digestF w k (half (x :: y :: l) n 0) (n + 1)) (digestF w k (half (x :: y :: l) n 1) (n + 1))
def rootL (w : Nat) (l : List Lf) : List UInt8 := digestF w 256 l 0

theorem shortL_length (w : Nat) (d : List UInt8) (hd : d.length = 32) (hw : w ≤ 32) : (shortL w d).length = 32 := by
  simp [shortL]; omega
theorem shortB_length (w : Nat) (b : List UInt8) (hw : w ≤ 32) : (shortB w b).length = 32 := shortL_length _ _ (sha_length _) hw
theorem digestF_length (w : Nat) (hw : w ≤ 32) : ∀ (k : Nat) (l : List Lf) (n : Nat), (digestF w k l n).length = 32
  | _, [], _ => by rw [digestF]; exact shortB_length _ _ hw
  | _, [x], _ => by rw [digestF]; exact shortB_length _ _ hw
  | 0, _ :: _ :: _, _ => by rw [digestF]; exact shortB_length _ _ hw
  | k + 1, x :: y :: l, n => by rw [digestF]; exact shortB_length _ _ hw
theorem half_ok {l : List Lf} (h : oks l) (n b : Nat) : oks (half l n b) := fun x hx => h x (List.mem_filter.1 hx).1

/-- the paths of leaves are unlike -/
def unlike (l : List Lf) : Prop := l.Pairwise fun x y => x.path ≠ y.path
/-- the leaves agree on their first n bits -/
def agree (l : List Lf) (n : Nat) : Prop := ∀ x ∈ l, ∀ y ∈ l, ∀ i, i < n → bitAt x.path i = bitAt y.path i
theorem half_unlike {l : List Lf} (h : unlike l) (n b : Nat) : unlike (half l n b) := List.Pairwise.sublist List.filter_sublist h
theorem half_agree {l : List Lf} {n : Nat} (h : agree l n) (b : Nat) : agree (half l n b) (n + 1) := fun x hx y hy i hi => by
  have h1 := List.mem_filter.1 hx
  have h2 := List.mem_filter.1 hy
  by_cases hin : i = n
  · subst hin
    have e1 := of_decide_eq_true h1.2
    have e2 := of_decide_eq_true h2.2
    rw [e1, e2]
  · exact h x h1.1 y h2.1 i (by omega)
theorem unlike_agree {l : List Lf} (hk : oks l) (h : unlike l) {n : Nat} (ha : agree l n) (hn : 256 ≤ n) : l.length ≤ 1 := by
  match l, hk, h, ha with
  | [], _, _, _ => exact Nat.zero_le _
  | [_], _, _, _ => exact Nat.le_refl _
  | x :: y :: l, hk, h, ha =>
    have hne : x.path ≠ y.path := (List.pairwise_cons.1 h).1 y (by simp)
    exact absurd (bits_ext x.path y.path (hk x (by simp)).1 (hk y (by simp)).1 fun i hi => ha x (by simp) y (by simp) i (by omega)) hne

/-- while the shortened digest is filled -/
def shAt (d : List UInt8) (k : Nat) : List UInt8 := d.take k ++ List.replicate (32 - k) 0
theorem shAt_length (d : List UInt8) (k : Nat) (hd : d.length = 32) (h : k ≤ 32) : (shAt d k).length = 32 := by simp [shAt]; omega
theorem shAt_step (d : List UInt8) (k : Nat) (hd : d.length = 32) (h : k < 32) : (shAt d k).set k (d.getD k 0) = shAt d (k + 1) := by
  have e2 : d.take (k + 1) = d.take k ++ [d.getD k 0] := by rw [List.take_succ_eq_append_getElem (by omega)]; simp [List.getD, show k < d.length by omega]
  have e1 : List.replicate (32 - k) (0 : UInt8) = 0 :: List.replicate (32 - (k + 1)) 0 := by rw [show 32 - k = (32 - (k + 1)) + 1 by omega, List.replicate_succ]
  have e3 : k = (d.take k).length := by rw [List.length_take]; omega
  rw [shAt, shAt, e1, e2]
  conv => lhs; arg 2; rw [e3]
  rw [List.set_append_right _ _ (Nat.le_refl _)]
  simp
theorem shAt_zero (d : List UInt8) : shAt d 0 = zero32 := by simp [shAt, zero32]
end Go.Proofs.YtgbhfpkngjlfkaaDoor
