/-
  The nodes of trees in memory: what is known of them all; how the world turns around them.
-/
import Derived.Test.YtmfnpjfhijmboaaGreatDoorSmt1
import Derived.Test.YtmfnpjfhijmboaaGreatDoorLibO
namespace Go.Proofs.YtmfnpjfhijmboaaGreatDoor
open Go.RowKit

/-- a node's cells -/
def nc (lk dn : Int) (sum : List UInt8) (x sz : Nat) (lf le ri : Option Addr) : List Value :=
  .int .u32 dn :: .int .i32 lk :: .int .u32 0 :: (bs sum ++ [.int .i64 (x : Int), .int .i64 (sz : Int), .pointer lf, .pointer le, .pointer ri])
theorem nc_length (lk dn : Int) {sum : List UInt8} (hs : sum.length = 32) (x sz : Nat) (lf le ri : Option Addr) : (nc lk dn sum x sz lf le ri).length = 40 := by
  simp [nc, bs_length, hs]
theorem nc_done (lk dn : Int) (sum : List UInt8) (x sz : Nat) (lf le ri : Option Addr) : (nc lk dn sum x sz lf le ri)[0]? = some (.int .u32 dn) := rfl
theorem nc_lock (lk dn : Int) (sum : List UInt8) (x sz : Nat) (lf le ri : Option Addr) : (nc lk dn sum x sz lf le ri)[1]? = some (.int .i32 lk) := rfl
theorem nc_sum (lk dn : Int) (sum : List UInt8) (x sz : Nat) (lf le ri : Option Addr) (j : Nat) (hj : j < (bs sum).length) : (nc lk dn sum x sz lf le ri)[3 + j]? = (bs sum)[j]? := by
  unfold nc
  rw [show 3 + j = j + 1 + 1 + 1 by omega, List.getElem?_cons_succ, List.getElem?_cons_succ, List.getElem?_cons_succ, List.getElem?_append_left hj]
theorem nc_tail (lk dn : Int) {sum : List UInt8} (hs : sum.length = 32) (x sz : Nat) (lf le ri : Option Addr) (j : Nat) :
    (nc lk dn sum x sz lf le ri)[35 + j]? = [Value.int .i64 (x : Int), .int .i64 (sz : Int), .pointer lf, .pointer le, .pointer ri][j]? := by
  unfold nc
  rw [show 35 + j = 32 + j + 1 + 1 + 1 by omega, List.getElem?_cons_succ, List.getElem?_cons_succ, List.getElem?_cons_succ, List.getElem?_append_right (by rw [bs_length]; omega), bs_length, hs, Nat.add_sub_cancel_left]
theorem nc_one (lk dn : Int) (sum : List UInt8) (x sz : Nat) (lf le ri : Option Addr) : ∀ u ∈ nc lk dn sum x sz lf le ri, u.oneCell' = true := by
  intro u hu
  simp only [nc, List.mem_cons, List.mem_append, List.not_mem_nil, or_false] at hu
  rcases hu with rfl | rfl | rfl | hu | rfl | rfl | rfl | rfl | rfl
  iterate 3 rfl
  · exact bs_one sum u hu
  all_goals rfl

/-- what is known of all nodes: which tree each stands for -/
abbrev Tag := Nat → Option T
/-- the sealed part of a node -/
structure Sealed (x : Nat) (lk : Bool) (dn : Int) (sum : List UInt8) (t : T) : Prop where
  len : sum.length = 32
  say : dn = 0 ∨ (dn = 1 ∧ lk = false ∧ sum = t.dig x)
def Kids (base : Nat) (G : Tag) (W : World) : T → Option Addr → Option Addr → Option Addr → Prop
  | .none, _, _, _ => True
  | .one y, lf, _, _ => ∃ q, lf = some ⟨q, 0, none⟩ ∧ base ≤ q ∧ Blk W q 50 (lc y)
  | .two l r, _, le, ri => ∃ p q, le = some ⟨p, 0, none⟩ ∧ ri = some ⟨q, 0, none⟩ ∧ G p = some l ∧ G q = some r
def lkI (b : Bool) : Int := if b then 1 else 0
def NodeOk (base x : Nat) (G : Tag) (W : World) (lk : Bool) (p : Nat) (t : T) : Prop :=
  ∃ dn sum lf le ri, Blk W p 86 (nc (lkI lk) dn sum x t.lvs.length lf le ri) ∧ Sealed x lk dn sum t ∧ Kids base G W t lf le ri
/-- all nodes stand -/
structure Inv (base x : Nat) (G : Tag) (L : Nat → Bool) (W : World) : Prop where
  node : ∀ p t, G p = some t → base ≤ p ∧ NodeOk base x G W (L p) p t
/-- of what isn't a node nothing turns -/
structure Fr (G : Tag) (W W' : World) : Prop where
  os : W'.os = W.os
  tape : W'.tape = W.tape
  output : W'.output = W.output
  size : W.heap.size ≤ W'.heap.size
  block : ∀ k, k < W.heap.size → G k = none → W'.heap[k]? = W.heap[k]?
  fix : ∀ k j, k < W.heap.size → 35 ≤ j → W'.cell? ⟨k, j, none⟩ = W.cell? ⟨k, j, none⟩
/-- more nodes are known -/
def More (n : Nat) (G G' : Tag) : Prop := (∀ k t, G k = some t → G' k = some t) ∧ ∀ k, k < n → G' k = G k

theorem Fr.refl (G : Tag) (W : World) : Fr G W W := ⟨rfl, rfl, rfl, Nat.le_refl _, fun _ _ _ => rfl, fun _ _ _ _ => rfl⟩
theorem Fr.trans {G : Tag} {a b c : World} (h : Fr G a b) (k : Fr G b c) : Fr G a c :=
  ⟨k.os.trans h.os, k.tape.trans h.tape, k.output.trans h.output, Nat.le_trans h.size k.size, fun i hi hn => (k.block i (Nat.lt_of_lt_of_le hi h.size) hn).trans (h.block i hi hn),
    fun i j hi hj => (k.fix i j (Nat.lt_of_lt_of_le hi h.size) hj).trans (h.fix i j hi hj)⟩
theorem Fr.more {G G' : Tag} {a b c : World} (h : Fr G a b) (m : More a.heap.size G G') (k : Fr G' b c) : Fr G a c :=
  ⟨k.os.trans h.os, k.tape.trans h.tape, k.output.trans h.output, Nat.le_trans h.size k.size, fun i hi hn => (k.block i (Nat.lt_of_lt_of_le hi h.size) (by rw [m.2 i hi]; exact hn)).trans (h.block i hi hn),
    fun i j hi hj => (k.fix i j (Nat.lt_of_lt_of_le hi h.size) hj).trans (h.fix i j hi hj)⟩
theorem Fr.of {G : Tag} {a b : World} (h : Below a.heap.size a b) : Fr G a b := ⟨h.os, h.tape, h.output, h.size, fun k hk _ => h.block k hk, fun k _ hk _ => World.cell?_of_block (w := a) (h.block k hk)⟩
theorem Fr.below {G : Tag} {a b : World} {base : Nat} (h : Fr G a b) (hb : ∀ k t, G k = some t → base ≤ k) (hs : base ≤ a.heap.size) : Below base a b :=
  ⟨h.os, h.tape, h.output, h.size, fun k hk => h.block k (by omega) (by
    cases e : G k with
    | none => rfl
    | some t => have := hb k t e; omega)⟩
theorem Inv.low {base x : Nat} {G : Tag} {L : Nat → Bool} {W : World} (h : Inv base x G L W) : ∀ k t, G k = some t → base ≤ k := fun k t e => (h.node k t e).1
theorem More.refl (n : Nat) (G : Tag) : More n G G := ⟨fun _ _ h => h, fun _ _ => rfl⟩
theorem More.trans {n m : Nat} {a b c : Tag} (h : More n a b) (k : More m b c) (hnm : n ≤ m) : More n a c :=
  ⟨fun p t e => k.1 p t (h.1 p t e), fun i hi => (k.2 i (by omega)).trans (h.2 i hi)⟩
/-- no block is of two kinds -/
theorem Blk.kind {W : World} {g : Nat} {t u : TypeId} {vs us : List Value} (h : Blk W g t vs) (k : Blk W g u us) : t = u ∧ vs = us := by
  have e := h.at_.symm.trans k.at_
  simp only [Option.some.injEq, Obj.cells.injEq] at e
  refine ⟨e.2.1, ?_⟩
  have := congrArg Array.toList e.1
  simpa using this
theorem Kids.turn {base : Nat} {G : Tag} {W W' : World} {t : T} {lf le ri : Option Addr} (h : Kids base G W t lf le ri) (hl : ∀ q ys, Blk W q 50 ys → Blk W' q 50 ys) : Kids base G W' t lf le ri := by
  match t, h with
  | .none, _ => exact trivial
  | .one y, ⟨q, h1, h2, h3⟩ => exact ⟨q, h1, h2, hl q _ h3⟩
  | .two l r, h => exact h
theorem Kids.more {base : Nat} {G G' : Tag} {W : World} {t : T} {lf le ri : Option Addr} (h : Kids base G W t lf le ri) (hm : ∀ k t, G k = some t → G' k = some t) : Kids base G' W t lf le ri := by
  match t, h with
  | .none, _ => exact trivial
  | .one y, h => exact h
  | .two l r, ⟨p, q, h1, h2, h3, h4⟩ => exact ⟨p, q, h1, h2, hm _ _ h3, hm _ _ h4⟩
theorem NodeOk.turn {base x : Nat} {G : Tag} {W W' : World} {lk : Bool} {p : Nat} {t : T} (h : NodeOk base x G W lk p t) (hn : ∀ vs, Blk W p 86 vs → Blk W' p 86 vs) (hl : ∀ q ys, Blk W q 50 ys → Blk W' q 50 ys) : NodeOk base x G W' lk p t := by
  obtain ⟨dn, sum, lf, le, ri, h1, h2, h3⟩ := h
  exact ⟨dn, sum, lf, le, ri, hn _ h1, h2, h3.turn hl⟩
theorem NodeOk.more {base x : Nat} {G G' : Tag} {W : World} {lk : Bool} {p : Nat} {t : T} (h : NodeOk base x G W lk p t) (hm : ∀ k t, G k = some t → G' k = some t) : NodeOk base x G' W lk p t := by
  obtain ⟨dn, sum, lf, le, ri, h1, h2, h3⟩ := h
  exact ⟨dn, sum, lf, le, ri, h1, h2, h3.more hm⟩
theorem Inv.blk {base x : Nat} {G : Tag} {L : Nat → Bool} {W : World} (h : Inv base x G L W) {p : Nat} {t : T} (hp : G p = some t) : ∃ vs, Blk W p 86 vs := by
  obtain ⟨_, dn, sum, lf, le, ri, h1, _⟩ := h.node p t hp
  exact ⟨_, h1⟩
theorem Inv.lt {base x : Nat} {G : Tag} {L : Nat → Bool} {W : World} (h : Inv base x G L W) {p : Nat} {t : T} (hp : G p = some t) : p < W.heap.size := by
  obtain ⟨_, hb⟩ := h.blk hp
  exact hb.lt
theorem Inv.below {base x : Nat} {G : Tag} {L : Nat → Bool} {W W' : World} (h : Inv base x G L W) (hb : Below W.heap.size W W') : Inv base x G L W' :=
  ⟨fun p t e => ⟨(h.node p t e).1, (h.node p t e).2.turn (fun _ k => k.below hb) (fun _ _ k => k.below hb)⟩⟩
/-- a block of another kind is written -/
theorem Inv.grown {base x : Nat} {G : Tag} {L : Nat → Bool} {W W' : World} (h : Inv base x G L W) {g : Nat} (hg : W.grownBy W' (some g)) (hn : ∀ vs, ¬ Blk W g 86 vs) (hl : ∀ vs, ¬ Blk W g 50 vs) : Inv base x G L W' :=
  ⟨fun p t e => ⟨(h.node p t e).1, (h.node p t e).2.turn (fun _ k => k.grown hg (fun e => by cases e; exact hn _ k)) (fun _ _ k => k.grown hg (fun e => by cases e; exact hl _ k))⟩⟩
theorem Blk.not {W : World} {g : Nat} {t u : TypeId} {vs : List Value} (h : Blk W g t vs) (hne : t ≠ u) : ∀ us, ¬ Blk W g u us := fun _ k => hne (h.kind k).1
/-- one node is turned -/
theorem Inv.turn {base x : Nat} {G : Tag} {L L' : Nat → Bool} {W W' : World} (h : Inv base x G L W) {p : Nat} {t : T} (hp : G p = some t) (hg : W.grownBy W' (some p)) (hL : ∀ k, k ≠ p → L' k = L k)
    {dn : Int} {sum : List UInt8} {lf le ri : Option Addr} (hb : Blk W' p 86 (nc (lkI (L' p)) dn sum x t.lvs.length lf le ri)) (hs : Sealed x (L' p) dn sum t) (hk : Kids base G W t lf le ri) : Inv base x G L' W' := by
  obtain ⟨vp, hvp⟩ := h.blk hp
  have hl : ∀ q ys, Blk W q 50 ys → Blk W' q 50 ys := fun q ys k => k.grown hg (fun e => by
    cases e
    exact absurd (k.kind hvp).1 (by decide))
  refine ⟨fun q u hq => ?_⟩
  by_cases e : q = p
  · subst e
    obtain rfl : t = u := by rw [hp] at hq; exact Option.some.inj hq
    exact ⟨(h.node q t hp).1, dn, sum, lf, le, ri, hb, hs, hk.turn hl⟩
  · rw [hL q e]
    exact ⟨(h.node q u hq).1, (h.node q u hq).2.turn (fun _ k => k.grown hg (fun e' => e (by cases e'; rfl))) hl⟩
/-- one node more is known -/
def Tag.add (G : Tag) (p : Nat) (t : T) : Tag := fun k => if k = p then some t else G k
theorem Tag.add_same (G : Tag) (p : Nat) (t : T) : G.add p t p = some t := by simp [Tag.add]
theorem Tag.add_keeps {G : Tag} {p : Nat} (t : T) (hp : G p = none) : ∀ k u, G k = some u → G.add p t k = some u := fun k u h => by
  unfold Tag.add
  rw [if_neg (fun e => by subst e; rw [hp] at h; cases h)]
  exact h
theorem Tag.add_more {G : Tag} {n p : Nat} (t : T) (hp : G p = none) (hn : n ≤ p) : More n G (G.add p t) :=
  ⟨Tag.add_keeps t hp, fun k hk => by unfold Tag.add; rw [if_neg (by omega)]⟩
theorem Inv.free {base x : Nat} {G : Tag} {L : Nat → Bool} {W : World} (h : Inv base x G L W) {p : Nat} (hp : W.heap.size ≤ p) : G p = none := by
  cases e : G p with
  | none => rfl
  | some t => have := h.lt e; omega
theorem Inv.add {base x : Nat} {G : Tag} {L : Nat → Bool} {W : World} (h : Inv base x G L W) {p : Nat} {t : T} (hp : G p = none) (hb : base ≤ p) (hn : NodeOk base x G W (L p) p t) : Inv base x (G.add p t) L W := by
  refine ⟨fun q u hq => ?_⟩
  by_cases e : q = p
  · subst e
    obtain rfl : t = u := by rw [Tag.add_same] at hq; exact Option.some.inj hq
    exact ⟨hb, hn.more (Tag.add_keeps t hp)⟩
  · have hq' : G q = some u := by unfold Tag.add at hq; rwa [if_neg e] at hq
    exact ⟨(h.node q u hq').1, (h.node q u hq').2.more (Tag.add_keeps t hp)⟩
theorem Inv.start (base x : Nat) (L : Nat → Bool) (W : World) : Inv base x (fun _ => none) L W := ⟨fun p t h => by cases h⟩
/-- what a call knows of one node -/
structure Nd (base x : Nat) (G : Tag) (W : World) (lk : Bool) (p : Nat) (t : T) (dn : Int) (sum : List UInt8) (lf le ri : Option Addr) : Prop where
  blk : Blk W p 86 (nc (lkI lk) dn sum x t.lvs.length lf le ri)
  part : Sealed x lk dn sum t
  kids : Kids base G W t lf le ri
theorem Inv.nd {base x : Nat} {G : Tag} {L : Nat → Bool} {W : World} (h : Inv base x G L W) {p : Nat} {t : T} (hp : G p = some t) : ∃ dn sum lf le ri, Nd base x G W (L p) p t dn sum lf le ri := by
  obtain ⟨_, dn, sum, lf, le, ri, h1, h2, h3⟩ := h.node p t hp
  exact ⟨dn, sum, lf, le, ri, h1, h2, h3⟩
section
variable {base x : Nat} {G : Tag} {W : World} {lk : Bool} {p : Nat} {t : T} {dn : Int} {sum : List UInt8} {lf le ri : Option Addr}
theorem Nd.width (h : Nd base x G W lk p t dn sum lf le ri) : W.cell? ⟨p, 35, none⟩ = some (.int .i64 (x : Int)) := h.blk.cell (nc_tail _ _ h.part.len _ _ _ _ _ 0)
theorem Nd.size (h : Nd base x G W lk p t dn sum lf le ri) : W.cell? ⟨p, 36, none⟩ = some (.int .i64 (t.lvs.length : Int)) := h.blk.cell (nc_tail _ _ h.part.len _ _ _ _ _ 1)
theorem Nd.leaf (h : Nd base x G W lk p t dn sum lf le ri) : W.cell? ⟨p, 37, none⟩ = some (.pointer lf) := h.blk.cell (nc_tail _ _ h.part.len _ _ _ _ _ 2)
theorem Nd.left (h : Nd base x G W lk p t dn sum lf le ri) : W.cell? ⟨p, 38, none⟩ = some (.pointer le) := h.blk.cell (nc_tail _ _ h.part.len _ _ _ _ _ 3)
theorem Nd.right (h : Nd base x G W lk p t dn sum lf le ri) : W.cell? ⟨p, 39, none⟩ = some (.pointer ri) := h.blk.cell (nc_tail _ _ h.part.len _ _ _ _ _ 4)
theorem Nd.done (h : Nd base x G W lk p t dn sum lf le ri) : W.cell? ⟨p, 0, none⟩ = some (.int .u32 dn) := h.blk.cell (nc_done _ _ _ _ _ _ _ _)
theorem Nd.lock (h : Nd base x G W lk p t dn sum lf le ri) : W.cell? ⟨p, 1, none⟩ = some (.int .i32 (lkI lk)) := h.blk.cell (nc_lock _ _ _ _ _ _ _ _)
theorem Nd.sums (h : Nd base x G W lk p t dn sum lf le ri) : W.rangeAt p 3 (bs sum) := h.blk.range 3 (fun j hj => nc_sum _ _ _ _ _ _ _ _ j hj)
end
end Go.Proofs.YtmfnpjfhijmboaaGreatDoor
