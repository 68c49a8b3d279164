/-
  The walks of package version: copied, Active, Next, At.
-/
import Derived.Test.YtbbckjpgmpfkgaaDoorVer1
namespace Go.Proofs.YtbbckjpgmpfkgaaDoor
open Go.RowKit
set_option maxRecDepth 100000

def VsPost (w : World) (l : List Vn) (e : Ending) (w' : World) : Prop := ∃ a m c, Hid (m = l.length) ∧ e = .returned (.slice a m c) ∧ OwnV w' w.heap.size (.slice a m c) l ∧ Below w.heap.size w w'

def actK (l : List Vn) : ByteArray × Bool := if isB l then ((prevV l l.length).key, !(prevV l l.length).key.toList.isEmpty) else (ByteArray.empty, false)

/-- what Next answers beside the list -/
def nextI (l : List Vn) (v : Vn) : Int := if isB l = false then 50 else if refI (prevV l l.length) v ≠ 0 then refI (prevV l l.length) v else if l.length = 16 then 2 else 0
def NxPost (w : World) (l : List Vn) (v : Vn) (e : Ending) (w' : World) : Prop :=
  (nextI l v = 0 ∧ ∃ a c, e = .returned (.tuple #[.slice a (l.length + 1) c, .int .i64 0]) ∧ OwnV w' w.heap.size (.slice a (l.length + 1) c) (l ++ [v]) ∧ Below w.heap.size w w') ∨
  (nextI l v ≠ 0 ∧ e = .returned (.tuple #[.slice none 0 0, .int .i64 (nextI l v)]) ∧ Below w.heap.size w w')
theorem isB_len {l : List Vn} (h : isB l = true) : l.length ≤ 16 := by
  simp only [isB, Bool.and_eq_true, decide_eq_true_eq] at h
  exact h.1

/-- so many of the list lie no later than the epoch, from the beginning on -/
def upto (l : List Vn) (ep : Int) : List Vn := l.takeWhile fun v => decide (v.ep ≤ ep)
def atL (l : List Vn) (ep : Int) : List Vn := if isB l then upto l ep else []
def early (l : List Vn) (ep : Int) (k : Nat) : Prop := ∀ x ∈ l.take k, decide (x.ep ≤ ep) = true
theorem early_step {l : List Vn} {ep : Int} {k : Nat} (hk : k < l.length) (h : early l ep k) (hx : (l.getD k vn0).ep ≤ ep) : early l ep (k + 1) := by
  have e : l.getD k vn0 = l[k] := by simp [List.getD, hk]
  rw [e] at hx
  intro x hm
  rw [List.take_succ_eq_append_getElem hk] at hm
  rcases List.mem_append.1 hm with h1 | h1
  · exact h x h1
  · obtain rfl : x = l[k] := by simpa using h1
    simpa using hx
theorem upto_stop {l : List Vn} {ep : Int} {k : Nat} (hk : k < l.length) (h : early l ep k) (hx : ¬ (l.getD k vn0).ep ≤ ep) : upto l ep = l.take k := by
  have e : l.getD k vn0 = l[k] := by simp [List.getD, hk]
  rw [e] at hx
  have e2 : l = l.take k ++ l[k] :: l.drop (k + 1) := by rw [← List.drop_eq_getElem_cons hk, List.take_append_drop]
  have e3 : upto (l.take k ++ l[k] :: l.drop (k + 1)) ep = l.take k := by
    unfold upto
    rw [List.takeWhile_append_of_pos h, List.takeWhile_cons_of_neg (by simpa using hx), List.append_nil]
  rwa [← e2] at e3
theorem upto_all {l : List Vn} {ep : Int} (h : early l ep l.length) : upto l ep = l := by
  unfold early at h
  rw [List.take_length] at h
  have := List.takeWhile_append_of_pos (l₂ := []) h
  simpa [upto] using this

end Go.Proofs.YtbbckjpgmpfkgaaDoor
