/-
  Two rows of the call's own, side by side, that grow in turn.
-/
import Derived.Test.YtbbckjpgmpfkgabLibA
import Derived.Maps.AppendAt
namespace Go.Proofs.Ytbbckjpgmpfkgab
open Go.RowKit

theorem Own.kept {w w' : World} {base : Nat} {v : Value} {l : List UInt8} {row : Option Nat} (h : Own w base v l) (hg : w.grownBy w' row) (hne : ∀ x, v.ownBlock = some x → row ≠ some x) : Own w' base v l := by
  refine ⟨h.1, ?_⟩
  rcases h.2 with h2 | ⟨g, cap, cur, hv, hb, hh, r⟩
  · exact .inl h2
  · refine .inr ⟨g, cap, cur, hv, hb, (hg.block g (lt_of_block hh) (fun e => hne g (by rw [hv]; rfl) e.symm)).trans hh, r⟩
theorem Own.lt {w : World} {base : Nat} {v : Value} {l : List UInt8} (h : Own w base v l) {x : Nat} (e : v.ownBlock = some x) : base ≤ x ∧ x < w.heap.size := World.ownsRow.lt h x e

/-- two rows of the call's own, in blocks of their own -/
structure Two (w W : World) (u v : Value) (p q : List UInt8) : Prop where
  fst : Own W w.heap.size u p
  snd : Own W w.heap.size v q
  apart : ∀ x, u.ownBlock = some x → v.ownBlock ≠ some x
  bel : Below w.heap.size w W

theorem Two.start (w : World) : Two w w (.slice none 0 0) (.slice none 0 0) [] [] := ⟨Own.nil0 _ _, Own.nil0 _ _, (fun _ e => by cases e), Below.refl _ _⟩
theorem Two.symm {w W : World} {u v : Value} {p q : List UInt8} (h : Two w W u v p q) : Two w W v u q p := ⟨h.snd, h.fst, fun x e e' => h.apart x e' e, h.bel⟩
theorem Two.below {w W W' : World} {u v : Value} {p q : List UInt8} (h : Two w W u v p q) (hb : Below W.heap.size W W') : Two w W' u v p q := ⟨h.fst.below hb, h.snd.below hb, h.apart, Bt h.bel hb⟩
theorem Two.alloc {w W : World} {u v : Value} {p q : List UInt8} (h : Two w W u v p q) (o : Obj) : Two w (W.alloc o) u v p q := h.below ((Below.refl _ _).alloc (Nat.le_refl _) _)
/-- the first one grows -/
theorem Two.app {w W W' : World} {u v u' : Value} {p q p' : List UInt8} (h : Two w W u v p q) (hO : Own W' w.heap.size u' p') (hg : W.grownBy W' u.ownBlock) (hx : u'.ownBlock = u.ownBlock ∨ u'.ownBlock = some W.heap.size) : Two w W' u' v p' q := by
  refine ⟨hO, h.snd.kept hg (fun x e e' => h.apart x e' e), fun x e e' => ?_, h.bel.grown hg h.bel.size (fun k e => (h.fst.lt e).1)⟩
  rcases hx with hx | hx
  · exact h.apart x (hx ▸ e) e'
  · have h1 := (h.snd.lt e').2
    rw [hx] at e
    cases e
    omega
theorem Two.size {w W : World} {u v : Value} {p q : List UInt8} (h : Two w W u v p q) : w.heap.size ≤ W.heap.size := h.bel.size

/-- a byte of a slice that reads as l -/
theorem Rd.byte {w : World} {a : Option Addr} {n c : Nat} {l : List UInt8} (h : Rd w a n c l) (hn : 0 < n) : ∃ b off, a = some ⟨b, off, none⟩ ∧ ∀ i, i < n → w.cell? ⟨b, off + i, none⟩ = some (.int .u8 ((l.getD i 0).toNat : Int)) := by
  have hl := h.len
  obtain ⟨b, off, rfl, _, hc⟩ := h.at hn
  refine ⟨b, off, rfl, fun i hi => ?_⟩
  rw [hc i hi]
  simp [List.getD, show i < l.length by omega]
end Go.Proofs.Ytbbckjpgmpfkgab
