/-
  Reader's calls once more: where the rest lies then.
-/
import Derived.Test.YtbbckjpgmpfkgaaDoorOctD
namespace Go.Proofs.YtbbckjpgmpfkgaaDoor
open Go.RowKit
set_option maxRecDepth 100000

def CountAt (w : World) (r : Nat) (l : List UInt8) (a : Option Addr) (n c : Nat) (e : Ending) (w' : World) : Prop :=
  e = .returned (.tuple #[.int .i64 ((cnt 0 0 l).1 : Int), .int .i64 ((cnt 0 0 l).2.2 : Int)]) ∧ (∃ a' n' c', w'.heap[r]? = some (.cells #[.slice a' n' c'] 150 (0, 0)) ∧ ∀ W, Rd W a n c l → Rd W a' n' c' (l.drop (cnt 0 0 l).2.1)) ∧ w.grownBy w' (some r)
set_option maxRecDepth 100000 in
set_option maxHeartbeats 1000000 in
theorem count_at (w : World) (r : Nat) (l : List UInt8) (a : Option Addr) (n c : Nat) (h1 : w.heap[r]? = some (.cells #[.slice a n c] 150 (0, 0))) (h2 : Rd w a n c l) :
    Calls Tryd.prog 88 #[.pointer (some ⟨r, 0, none⟩)] w (CountAt w r l a n c) := by
  have hr' : Rdr w r l := ⟨a, n, c, h1, h2⟩
  have hc := cell_of_one h1
  have hf := free_of_one h1
  have hl := Lib.hid h2.len
  obtain ⟨b1, b2, b3, b4, b5⟩ := cnt_le l 0 0 (by omega)
  obtain ⟨x, y, z, hcnt⟩ : ∃ x y z, cnt 0 0 l = (x, y, z) := ⟨_, _, _, rfl⟩
  rw [hcnt] at b1 b2 b3 b4 b5
  have HC := Lib.hid hcnt
  clear hcnt
  have fin : ∀ w', (∃ a' n' c', w'.heap[r]? = some (.cells #[.slice a' n' c'] 150 (0, 0)) ∧ ∀ W, Rd W a n c l → Rd W a' n' c' (l.drop y)) → w.grownBy w' (some r) → CountAt w r l a n c (.returned (.tuple #[.int .i64 x, .int .i64 z])) w' := fun w' q1 q2 => by
    unfold CountAt; rw [HC.out]; exact ⟨rfl, q1, q2⟩
  have HF := Lib.hid fin
  have H4 := Lib.hid b4
  clear fin b4
  by_cases hz : z = 0
  · subst hz
    go_enter Tryd.func88, Tryd.ntmps88
    go_wp2_with fail
    refine (frontCount_any w a n c l h2).mono ?_
    rintro e w' ⟨rfl, rfl⟩
    rw [HC.out]
    go_wp2_with fail
    refine (after_any w a n c y l h2 (by omega) (by have := hl.out; omega)).mono ?_
    rintro e w' ⟨a', rfl, hd0, rfl⟩
    have hd := hd0 _ h2
    have HD0 := Lib.hid hd0
    have H1 := Lib.hid h1
    clear hd0
    go_wp2_with fail
    go_ret2
    have hs := Rdr.set hr' hd
    exact HF.out _ ⟨_, _, _, one_setCell H1.out, HD0.out⟩ hs.2
  · have hzz : ((z : Int) != 0) = true := by simp; omega
    have h0 := H4.out hz
    simp only at h0
    obtain ⟨rfl, rfl⟩ := h0
    go_enter Tryd.func88, Tryd.ntmps88
    go_wp2_with fail
    refine (frontCount_any w a n c l h2).mono ?_
    rintro e w' ⟨rfl, rfl⟩
    rw [HC.out]
    go_wp2_with fail
    go_ret2
    exact HF.out _ ⟨a, n, c, h1, fun W h => h⟩ (World.grownBy.refl _ _)

/-- a reader that was handed in at w, as it stands in W -/
structure Rdq (w W : World) (r : Nat) (l : List UInt8) : Prop where
  ex : ∃ a n c, W.heap[r]? = some (.cells #[.slice a n c] 150 (0, 0)) ∧ Rd w a n c l
  was : ∃ a n c, w.heap[r]? = some (.cells #[.slice a n c] 150 (0, 0))
  grown : w.grownBy W (some r)
section
variable {w W W' : World} {r : Nat} {l : List UInt8}
theorem Rdq.start (h : Rdr w r l) : Rdq w w r l := by
  obtain ⟨a, n, c, h1, h2⟩ := h
  exact ⟨⟨a, n, c, h1, h2⟩, ⟨a, n, c, h1⟩, World.grownBy.refl _ _⟩
theorem Rdq.lt (h : Rdq w W r l) : r < w.heap.size := by
  obtain ⟨a, n, c, h1⟩ := h.was
  exact lt_of_block h1
theorem Rdq.rdr (h : Rdq w W r l) : Rdr W r l := by
  obtain ⟨a, n, c, h1, h2⟩ := h.ex
  obtain ⟨a', n', c', h3⟩ := h.was
  exact ⟨a, n, c, h1, h2.kept h.grown h3 (by simp)⟩
/-- something else turns, behind w -/
theorem Rdq.other (h : Rdq w W r l) {row : Option Nat} (hg : W.grownBy W' row) (hr : ∀ k, row = some k → w.heap.size ≤ k) : Rdq w W' r l := by
  have hlt := h.lt
  have hs := h.grown.size
  obtain ⟨a, n, c, h1, h2⟩ := h.ex
  refine ⟨⟨a, n, c, (hg.block r (by omega) (fun e => by have := hr r e.symm; omega)).trans h1, h2⟩, h.was, hg.os.trans h.grown.os, hg.tape.trans h.grown.tape, hg.output.trans h.grown.output, by have := hg.size; omega, fun k hk hne => ?_⟩
  exact (hg.block k (by omega) (fun e => by have := hr k e.symm; omega)).trans (h.grown.block k hk hne)
theorem Rdq.below (h : Rdq w W r l) (hb : Below W.heap.size W W') : Rdq w W' r l := h.other (row := none) ⟨hb.os, hb.tape, hb.output, hb.size, fun k hk _ => hb.block k hk⟩ (fun k e => by cases e)
theorem grown_trans {a b c : World} {r : Nat} (h : a.grownBy b (some r)) (k : b.grownBy c (some r)) : a.grownBy c (some r) :=
  ⟨k.os.trans h.os, k.tape.trans h.tape, k.output.trans h.output, by have := h.size; have := k.size; omega, fun i hi hne => (k.block i (by have := h.size; omega) hne).trans (h.block i hi hne)⟩
theorem rdq_count (h : Rdq w W r l) :
    Calls Tryd.prog 88 #[.pointer (some ⟨r, 0, none⟩)] W fun e w' => e = .returned (.tuple #[.int .i64 ((cnt 0 0 l).1 : Int), .int .i64 ((cnt 0 0 l).2.2 : Int)]) ∧ Rdq w w' r (l.drop (cnt 0 0 l).2.1) ∧ W.grownBy w' (some r) := by
  obtain ⟨a, n, c, h1, h2⟩ := h.ex
  obtain ⟨a0, n0, c0, h3⟩ := h.was
  refine (count_at W r l a n c h1 (h2.kept h.grown h3 (by simp))).mono ?_
  rintro e w' ⟨rfl, ⟨a', n', c', q1, q2⟩, hg⟩
  exact ⟨rfl, ⟨⟨a', n', c', q1, q2 _ h2⟩, h.was, grown_trans h.grown hg⟩, hg⟩
end
theorem grown_below {a b c : World} {r : Nat} {row : Option Nat} (h : a.grownBy b (some r)) (hg : b.grownBy c row) (hr : ∀ k, row = some k → a.heap.size ≤ k ∨ k = r) : a.grownBy c (some r) :=
  ⟨hg.os.trans h.os, hg.tape.trans h.tape, hg.output.trans h.output, by have := h.size; have := hg.size; omega, fun i hi hne => (hg.block i (by have := h.size; omega) (fun e => by
    rcases hr i e.symm with h1 | h1
    · omega
    · subst h1; exact hne rfl)).trans (h.block i hi hne)⟩
theorem grown_none {a b : World} (hb : Below a.heap.size a b) : a.grownBy b none := ⟨hb.os, hb.tape, hb.output, hb.size, fun k hk _ => hb.block k hk⟩
theorem grown_end {w W W' : World} {r g : Nat} (h : w.grownBy W (some r)) (hg : W.grownBy W' (some g)) (hb : w.heap.size ≤ g) : w.grownBy W' (some r) := grown_below h hg (fun k e => by cases e; exact .inl hb)
theorem grown_to_below {w w1 w2 : World} {r : Nat} (h : Below w.heap.size w w1) (hg : w1.grownBy w2 (some r)) (hr : w.heap.size ≤ r) : Below w.heap.size w w2 := h.grown hg h.size (fun k e => by cases e; exact hr)

end Go.Proofs.YtbbckjpgmpfkgaaDoor
