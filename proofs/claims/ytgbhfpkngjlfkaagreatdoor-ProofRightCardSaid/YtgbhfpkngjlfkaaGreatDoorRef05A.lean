/-
  The walks of the reference's layer 5: Width, Short, the bytes, Empty, Leaf, Node.
-/
import Derived.Test.YtgbhfpkngjlfkaaGreatDoorSmt0
namespace Go.Proofs.YtgbhfpkngjlfkaaGreatDoor
open Go.RowKit

/-- a part of a block as a slice of bytes -/
theorem Rd.part {w : World} {g o n : Nat} {l : List UInt8} (h : w.rangeAt g o (bs l)) (hn : l.length = n) (hm : n ≤ maxLen) : Rd w (some ⟨g, o, none⟩) n n l := by
  refine ⟨hn, Nat.le_refl _, hm, (fun e => by cases e), fun ad e j u hu => ?_⟩
  cases e
  rw [Addr.add_lit]
  exact h j u hu
theorem below_of_grown' {w w1 w' : World} {r : Nat} (h1 : Below w.heap.size w w1) (h2 : w1.grownBy w' (some r)) (hr : w.heap.size ≤ r) : Below w.heap.size w w' :=
  h1.grown h2 h1.size (fun k e => by cases e; exact hr)
theorem Own.lit (w : World) (base : Nat) (l : List UInt8) (n : Nat) (hn : l.length = n) (hm : n ≤ maxLen) (hb : base ≤ w.heap.size) : Own (w.alloc (.cells (bs l).toArray 5)) base (.slice (some ⟨w.heap.size, 0, none⟩) n n) l := by
  subst hn
  refine ⟨by simp [bs_length], .inr ⟨w.heap.size, l.length, (bs l).toArray, rfl, hb, World.alloc_heap_new w _, Nat.le_refl _, hm, by simp [bs_length], ?_⟩⟩
  simp [List.take_of_length_le, bs_length]

/-- what the walk of Short knows of a world -/
structure ShAt (w W : World) (D d : List UInt8) (k g : Nat) : Prop where
  res : Blk W w.heap.size 24 (bs zero32)
  out : Blk W (w.heap.size + 1) 24 (bs (shAt D k))
  sum : Blk W g 24 (bs D)
  bel : Below w.heap.size w W
  gt : w.heap.size + 1 < g
theorem ShAt.step {w W : World} {D d : List UInt8} {k g : Nat} (h : ShAt w W D d k g) (hD : D.length = 32) (hk : k < 32) : ShAt w (W.setCell ⟨w.heap.size + 1, k, none⟩ (.int .u8 ((D.getD k 0).toNat : Int))) D d (k + 1) g := by
  have hg := h.gt
  refine ⟨h.res.setOther _ _ (by simp), ?_, h.sum.setOther _ _ (by simp; omega), h.bel.setCell (by simp) _, h.gt⟩
  have hs := h.out.set k (.int .u8 ((D.getD k 0).toNat : Int))
  rwa [bs_set _ _ _ (UInt8.toNat_lt _), UInt8.ofNat_toNat, shAt_step _ _ hD hk] at hs

end Go.Proofs.YtgbhfpkngjlfkaaGreatDoor
