/-
  Two rows of the call's own, side by side, that grow in turn.
-/
import Derived.Test.YtoclahcibilbhaaDoorLibA
import Derived.Maps.AppendAt
import Derived.Great.BuildSlice
namespace Go.Proofs.YtoclahcibilbhaaDoor
open Go.RowKit
set_option maxRecDepth 100000

/-- append(s, x...) onto a row of the call's own: and where the row lies then -/
theorem wpList_app2 {w : World} {ops : Array Oper} {rest : List Oper} {o : Oper} {a : Act} {Q : Exit → Act → World → Prop} (hgd : o.guard = none) (s x : Operand)
    (ho : o.op = Op.call { callee := Callee.builtin Builtin.append, args := #[s, x], argTypes := #[26, 26] })
    {base : Nat} {v : Value} {q l : List UInt8} {ao : Option Addr} {n c : Nat} (hs : a.eval s = v) (hO : Own w base v q) (hx : a.eval x = .slice ao n c) (hR : Rd w ao n c l)
    (hsz : q.length + n ≤ 140737488355328) (hbase : base ≤ w.heap.size)
    (hK : ∀ ao' c' w', Own w' base (.slice ao' (q.length + n) c') (q ++ l) → w.grownBy w' v.ownBlock → ((Value.slice ao' (q.length + n) c').ownBlock = v.ownBlock ∨ (Value.slice ao' (q.length + n) c').ownBlock = some w.heap.size) → wpList Tryd.prog ops Q rest (a.put o.dst (.slice ao' (q.length + n) c')) w') :
    wpList Tryd.prog ops Q (o :: rest) a w := by
  obtain ⟨i, hi, hz0, hz1, hz2⟩ := info_parts info5
  have hl := hR.len
  cases ao with
  | none =>
    obtain ⟨rfl, rfl⟩ := hR.nil rfl
    obtain rfl : l = [] := List.eq_nil_of_length_eq_zero hl
    obtain ⟨a', c', rfl⟩ := hO.shape
    refine wpList_plain hgd fun K hK' => ?_
    have hrun := run_append_owned_none (P := Tryd.prog) w base 26 o.type 5 i 1 Tryd.underlying26 hi _ _ _ hO
    unfold Oper.wp
    simp [execOp, ho, resolve, invoke, builtin, hs, hx, hrun, Result.andThen]
    exact hK' _ _ (hK a' c' w (by simpa using hO) (World.grownBy.refl _ _) (.inl rfl))
  | some ad =>
    refine wpList_append_own_at w hgd s x 26 ho base 5 i _ 1 1 Tryd.underlying26 hi hz0 hz1 hz2 rfl (by decide) v q.length (bs q) hs hO ad n c (bs l) hx (by rw [bs_length, hl]; omega) (hR.cell ad rfl) (bs_one l) (by unfold maxLen; omega) (by omega) hbase ?_
    intro v' w' h1 h2 _ h4
    have hO' : Own w' base v' (q ++ l) := by unfold Own; rw [List.length_append, hl, bs_append]; exact h1
    obtain ⟨a', c', rfl⟩ := hO'.shape
    have e : (q ++ l).length = q.length + n := by rw [List.length_append, hl]
    rw [e] at hO' h4 ⊢
    exact hK a' c' w' hO' h2 h4

theorem Own.kept {w w' : World} {base : Nat} {v : Value} {l : List UInt8} {row : Option Nat} (h : Own w base v l) (hg : w.grownBy w' row) (hne : ∀ x, v.ownBlock = some x → row ≠ some x) : Own w' base v l := by
  refine ⟨h.1, ?_⟩
  rcases h.2 with h2 | ⟨g, cap, cur, hv, hb, hh, r⟩
  · exact .inl h2
  · refine .inr ⟨g, cap, cur, hv, hb, (hg.block g (lt_of_block hh) (fun e => hne g (by rw [hv]; rfl) e.symm)).trans hh, r⟩
theorem Own.lt {w : World} {base : Nat} {v : Value} {l : List UInt8} (h : Own w base v l) {x : Nat} (e : v.ownBlock = some x) : base ≤ x ∧ x < w.heap.size := World.ownsRow.lt h x e

/-- two rows of the call's own, in blocks of their own -/
structure Two (w W : World) (u v : Value) (p q : List UInt8) : Prop where
  fst : Own W w.heap.size u p
  snd : Own W w.heap.size v q
  apart : ∀ x, u.ownBlock = some x → v.ownBlock ≠ some x
  bel : Below w.heap.size w W

theorem Two.start (w : World) : Two w w (.slice none 0 0) (.slice none 0 0) [] [] := ⟨Own.nil0 _ _, Own.nil0 _ _, (fun _ e => by cases e), Below.refl _ _⟩
theorem Two.symm {w W : World} {u v : Value} {p q : List UInt8} (h : Two w W u v p q) : Two w W v u q p := ⟨h.snd, h.fst, fun x e e' => h.apart x e' e, h.bel⟩
theorem Two.below {w W W' : World} {u v : Value} {p q : List UInt8} (h : Two w W u v p q) (hb : Below W.heap.size W W') : Two w W' u v p q := ⟨h.fst.below hb, h.snd.below hb, h.apart, Bt h.bel hb⟩
theorem Two.alloc {w W : World} {u v : Value} {p q : List UInt8} (h : Two w W u v p q) (o : Obj) : Two w (W.alloc o) u v p q := h.below ((Below.refl _ _).alloc (Nat.le_refl _) _)
/-- the first one grows -/
theorem Two.app {w W W' : World} {u v u' : Value} {p q p' : List UInt8} (h : Two w W u v p q) (hO : Own W' w.heap.size u' p') (hg : W.grownBy W' u.ownBlock) (hx : u'.ownBlock = u.ownBlock ∨ u'.ownBlock = some W.heap.size) : Two w W' u' v p' q := by
  refine ⟨hO, h.snd.kept hg (fun x e e' => h.apart x e' e), fun x e e' => ?_, h.bel.grown hg h.bel.size (fun k e => (h.fst.lt e).1)⟩
  rcases hx with hx | hx
  · exact h.apart x (hx ▸ e) e'
  · have h1 := (h.snd.lt e').2
    rw [hx] at e
    cases e
    omega
theorem Two.size {w W : World} {u v : Value} {p q : List UInt8} (h : Two w W u v p q) : w.heap.size ≤ W.heap.size := h.bel.size

/-- a byte of a slice that reads as l -/
theorem Rd.byte {w : World} {a : Option Addr} {n c : Nat} {l : List UInt8} (h : Rd w a n c l) (hn : 0 < n) : ∃ b off, a = some ⟨b, off, none⟩ ∧ ∀ i, i < n → w.cell? ⟨b, off + i, none⟩ = some (.int .u8 ((l.getD i 0).toNat : Int)) := by
  have hl := h.len
  obtain ⟨b, off, rfl, _, hc⟩ := h.at hn
  refine ⟨b, off, rfl, fun i hi => ?_⟩
  rw [hc i hi]
  simp [List.getD, show i < l.length by omega]
theorem putLit {W : World} (q : List UInt8) (base : Nat) (hb : base ≤ W.heap.size) (n : Nat) (hn : q.length = n) (hm : n ≤ maxLen) : Own (W.alloc (.cells (bs q).toArray 5)) base (.slice (some ⟨W.heap.size, 0, none⟩) n n) q :=
  ⟨by simp [bs_length], .inr ⟨W.heap.size, n, (bs q).toArray, by rw [hn], hb, World.alloc_heap_new W _, by omega, hm, by simp [bs_length, hn], by rw [Nat.mul_one, ← bs_length q]; simp⟩⟩
theorem fill_bytes (z : Array Value) (q : List UInt8) (hz : z.size = q.length) :
    Instr.fill (fun i => some (i * 1, 1)) z (((bs q).zipIdx 0).map fun x => (x.2, x.1)) = some (bs q).toArray := by
  obtain ⟨r, hr, hsz, hc⟩ := Go.Great.fill_dense (s := 1) (by decide) (bs q) 0 z (fun v hv => by
    obtain ⟨y, hy, rfl⟩ := List.mem_map.1 hv
    rfl) (by simp [hz, bs_length])
  rw [hr]
  congr 1
  refine Array.ext_getElem? fun k => ?_
  rw [hc k]
  by_cases h : k < q.length
  · rw [if_pos (by simp [bs_length]; omega)]
    simp [bs, h, Value.cells, Nat.mod_one]
  · have hz' : z[k]? = none := Array.getElem?_eq_none (by omega)
    have hb' : (bs q)[k]? = none := List.getElem?_eq_none (by rw [bs_length]; omega)
    rw [if_neg (by simp [bs_length]; omega), hz', List.getElem?_toArray, hb']
/-- []byte{k, ..} -/
theorem wpList_manyU {w : World} {ops : Array Oper} {rest : List Oper} {o : Oper} {a : Act} {Q : Exit → Act → World → Prop} (hgd : o.guard = none) (n : Nat) (parts : Array (Nat × Operand)) (ho : o.op = .buildSlice 26 n parts)
    {q : List UInt8} (hn : q.length = n) (hnn : n ≤ 4096) (hpos : 0 < n) (hx : (parts.map fun (i, x) => (i, a.eval x)).toList = ((bs q).zipIdx 0).map fun x => (x.2, x.1)) (base : Nat) (hb : base ≤ w.heap.size)
    (h : ∀ w', Own w' base (.slice (some ⟨w.heap.size, 0, none⟩) n n) q → Below w.heap.size w w' → w'.heap.size = w.heap.size + 1 → wpList Tryd.prog ops Q rest (a.put o.dst (.slice (some ⟨w.heap.size, 0, none⟩) n n)) w') : wpList Tryd.prog ops Q (o :: rest) a w := by
  obtain ⟨i, hi, hz0, hz1, hz2⟩ := info_parts info5
  refine wpList_buildSlice hgd 26 5 n parts ho (bs q).toArray i _ Tryd.underlying26 hi hz0 (by rw [hz1]; omega) (by rw [hz1]; omega) ?_ (h _ (putLit q base hb n hn (by unfold maxLen; omega)) ((Below.refl _ w).alloc (Nat.le_refl _) _) (by simp))
  rw [hz1, hx]
  exact fill_bytes _ q (by simp [hn])
theorem wpList_oneU {w : World} {ops : Array Oper} {rest : List Oper} {o : Oper} {a : Act} {Q : Exit → Act → World → Prop} (hgd : o.guard = none) (x : Operand) (ho : o.op = .buildSlice 26 1 #[(0, x)])
    {k : UInt8} (hx : a.eval x = .int .u8 (k.toNat : Int)) (base : Nat) (hb : base ≤ w.heap.size)
    (h : ∀ w', Own w' base (.slice (some ⟨w.heap.size, 0, none⟩) 1 1) [k] → Below w.heap.size w w' → w'.heap.size = w.heap.size + 1 → wpList Tryd.prog ops Q rest (a.put o.dst (.slice (some ⟨w.heap.size, 0, none⟩) 1 1)) w') : wpList Tryd.prog ops Q (o :: rest) a w :=
  wpList_manyU hgd 1 _ ho rfl (by decide) (by decide) (by simp [hx, bs]) base hb h
end Go.Proofs.YtoclahcibilbhaaDoor
