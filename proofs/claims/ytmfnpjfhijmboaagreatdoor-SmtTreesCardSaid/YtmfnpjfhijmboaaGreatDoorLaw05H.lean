/-
  LibOp FrameO Law05H, in one text.
-/
import Derived.Test.YtmfnpjfhijmboaaGreatDoorLibL
import Derived.Test.YtmfnpjfhijmboaaGreatDoorFrameL
import Derived.Test.YtmfnpjfhijmboaaGreatDoorLaw05E
namespace Go.Proofs.YtmfnpjfhijmboaaGreatDoor
/-! Slices of calls upon a tree (layer 5's script). -/
section
open Go.RowKit

structure Opv where
  kind : Int
  a : Option Addr
  n : Nat
  c : Nat
  l : List Lf
  path : List UInt8
def op0 : Opv := ⟨0, none, 0, 0, [], []⟩
/-- a call's cells -/
def oc (o : Opv) : List Value := .int .i64 o.kind :: .slice o.a o.n o.c :: bs o.path
theorem oc_length {o : Opv} (h : o.path.length = 32) : (oc o).length = 34 := by simp [oc, bs_length, h]
theorem oc_one (o : Opv) : ∀ u ∈ oc o, u.oneCell' = true := by
  intro u hu
  simp only [oc, List.mem_cons] at hu
  rcases hu with rfl | rfl | h
  · rfl
  · rfl
  · exact bs_one _ u h
/-- a slice of calls reads as os -/
structure RdO (w : World) (a : Option Addr) (n c : Nat) (os : List Opv) : Prop where
  len : os.length = n
  cap : n ≤ c
  nil : a = none → n = 0
  elem : ∀ ad, a = some ad → ∀ i, i < n → (os.getD i op0).path.length = 32 ∧ RdL w (os.getD i op0).a (os.getD i op0).n (os.getD i op0).c (os.getD i op0).l ∧ ∀ j u, (oc (os.getD i op0))[j]? = some u → w.cell? (ad.add (i * 34 + j)) = some u
theorem RdO.below {w w' : World} {a : Option Addr} {n c : Nat} {os : List Opv} (h : RdO w a n c os) (hb : Below w.heap.size w w') : RdO w' a n c os :=
  ⟨h.len, h.cap, h.nil, fun ad e i hi => by
    obtain ⟨h1, h2, h3⟩ := h.elem ad e i hi
    exact ⟨h1, h2.below hb, fun j u hu => cell_later hb (h3 j u hu)⟩⟩
/-- where the calls lie -/
theorem RdO.elems {w : World} {a : Option Addr} {n c : Nat} {os : List Opv} (h : RdO w a n c os) (hn : 0 < n) :
    ∃ b off, a = some ⟨b, off, none⟩ ∧ b < w.heap.size ∧ ∀ i, i < n → (os.getD i op0).path.length = 32 ∧ RdL w (os.getD i op0).a (os.getD i op0).n (os.getD i op0).c (os.getD i op0).l ∧ w.rangeAt b (off + i * 34) (oc (os.getD i op0)) := by
  cases a with
  | none => have := h.nil rfl; omega
  | some ad =>
    obtain ⟨b, off, sp⟩ := ad
    have h0 := (h.elem _ rfl 0 hn).2.2 0 _ rfl
    obtain rfl : sp = none := by simpa [Addr.add] using World.cell?_spot h0
    refine ⟨b, off, rfl, World.block_lt_of_cell? _ _ (by simpa [Addr.add] using h0), fun i hi => ?_⟩
    obtain ⟨h1, h2, h3⟩ := h.elem _ rfl i hi
    refine ⟨h1, h2, fun j v hv => ?_⟩
    have := h3 j v hv
    rw [Addr.add_lit, ← Nat.add_assoc] at this
    exact this
end
/-! Calls upon a tree that come in. -/
section
open Go.ChangeShapes Go.WideShapes Go.RowKit
set_option maxRecDepth 100000

theorem trod_leaves {H : Type} {enc : TypeId × Value → H} {W : World} {base : Nat} {spare : Nat → Bool} {fuel : Nat} {cs : List Value} {x : DataW H × List MemPlace}
    (hf : DataW.trod enc Tryz.prog W base spare true fuel 23 cs = some x) : ∃ a n c l, cs = [.slice a n c] ∧ RdL W a n c l := by
  rcases DataW.trod_slice Tryz.underlying23 hf with ⟨hcs, _⟩ | ⟨x, len, cap, elems, rest, n, _, hcs, _, _, hl, hm, hlen, hel, _, _⟩
  · exact ⟨none, 0, 0, [], hcs, RdL.nil0 W⟩
  · have each : ∀ i, i < len → ∃ y : Lf, y.ok ∧ ∀ j u, (lc y)[j]? = some u → W.cell? (x.add (i * 64 + j)) = some u := by
      intro i hi
      have h := hel i hi
      obtain ⟨z, hz⟩ : ∃ z, elems[i]? = some z := ⟨elems[i], by simp [hlen, hi]⟩
      rw [hz, cells_leaf, Option.bind_eq_some_iff] at h
      obtain ⟨cs', hc, ht⟩ := h
      obtain ⟨y, hy, rfl⟩ := trod_leaf ht
      refine ⟨y, hy, fun j u hu => ?_⟩
      have hj : j < 64 := by
        have := (List.getElem?_eq_some_iff.1 hu).1
        rwa [lc_length hy] at this
      have h3 := (World.cells?_some hc).2.2 j hj
      rw [hu] at h3
      rw [← h3, Addr.add_add x (i * 64) j]
    let f : Nat → Lf := fun i => if h : i < len then Classical.choose (each i h) else lf0
    have hf : ∀ i, i < len → (f i).ok ∧ ∀ j u, (lc (f i))[j]? = some u → W.cell? (x.add (i * 64 + j)) = some u := fun i hi => by
      have h := Classical.choose_spec (each i hi)
      have e : f i = Classical.choose (each i hi) := dif_pos hi
      rw [e]
      exact h
    have hok : oks ((List.range len).map f) := fun y hy => by
      obtain ⟨i, hi, rfl⟩ := List.mem_map.1 hy
      exact (hf i (List.mem_range.1 hi)).1
    refine ⟨some x, len, cap, (List.range len).map f, hcs, by simp, hok, hl, hm, (fun e => by cases e), fun ad e j u hu => ?_⟩
    cases e
    have hj : j < len * 64 := by
      have := (List.getElem?_eq_some_iff.1 hu).1
      rw [lcs_length hok] at this
      simpa using this
    have hi : j / 64 < len := by omega
    have h1 := lcs_at hok (j / 64) (j % 64) (by simpa using hi) (Nat.mod_lt _ (by decide))
    rw [show j / 64 * 64 + j % 64 = j by omega, hu] at h1
    have e2 : ((List.range len).map f).getD (j / 64) lf0 = f (j / 64) := by simp [List.getD, hi]
    rw [e2] at h1
    have h2 := (hf _ hi).2 _ _ h1.symm
    rwa [show j / 64 * 64 + j % 64 = j by omega] at h2

theorem op_under : Tryz.prog.underlying 27 = some (.struct (Tryz.prog.fieldsOf 27)) := by kernel_rfl
theorem op_f0 : (Tryz.prog.fieldsOf 27)[0]?.map (fun f => (f.type, f.offset)) = some (3, 0) := by kernel_rfl
theorem op_f1 : (Tryz.prog.fieldsOf 27)[1]?.map (fun f => (f.type, f.offset)) = some (23, 1) := by kernel_rfl
theorem op_f2 : (Tryz.prog.fieldsOf 27)[2]?.map (fun f => (f.type, f.offset)) = some (25, 2) := by kernel_rfl
theorem op_fs : (Tryz.prog.fieldsOf 27).size = 3 := by kernel_rfl
theorem cells_op : Tryz.prog.cellsOf 27 = 34 := by kernel_rfl
theorem cells_int : Tryz.prog.cellsOf 3 = 1 := by kernel_rfl
theorem cells_lvs : Tryz.prog.cellsOf 23 = 1 := by kernel_rfl

theorem trod_op {H : Type} {enc : TypeId × Value → H} {W : World} {base : Nat} {spare : Nat → Bool} {fuel : Nat} {cs : List Value} {x : DataW H × List MemPlace}
    (hf : DataW.trod enc Tryz.prog W base spare true fuel 27 cs = some x) : ∃ o : Opv, o.path.length = 32 ∧ RdL W o.a o.n o.c o.l ∧ cs = oc o := by
  obtain ⟨xs, n, rfl, -, hl, hlen, hfs⟩ := DataW.trod_struct op_under hf
  rw [cells_op] at hl
  rw [op_fs] at hlen
  have get : ∀ k t o, (Tryz.prog.fieldsOf 27)[k]?.map (fun f => (f.type, f.offset)) = some (t, o) → k < 3 → ∃ y, DataW.trod enc Tryz.prog W base spare true n t ((cs.drop o).take (Tryz.prog.cellsOf t)) = some y := by
    intro k t o hk hk2
    obtain ⟨f, hfk, hfe⟩ := Option.map_eq_some_iff.1 hk
    have h := hfs k f hfk
    rw [(Prod.mk.inj hfe).1, (Prod.mk.inj hfe).2] at h
    obtain ⟨y, hy⟩ : ∃ y, xs[k]? = some y := ⟨xs[k], by simp [hlen, hk2]⟩
    exact ⟨y, by rw [h, hy]⟩
  obtain ⟨_, g0⟩ := get 0 _ 0 op_f0 (by decide)
  obtain ⟨_, g1⟩ := get 1 _ 1 op_f1 (by decide)
  obtain ⟨_, g2⟩ := get 2 _ 2 op_f2 (by decide)
  obtain ⟨z, e0, _, _⟩ := DataW.trod_int Tryz.underlying3 g0
  obtain ⟨a, m, c, l, e1, hr⟩ := trod_leaves g1
  obtain ⟨q, e2, hq⟩ := trod_digest g2
  rw [cells_int] at e0
  rw [cells_lvs] at e1
  rw [cells_digest] at e2
  refine ⟨⟨z, a, m, c, l, q⟩, hq, hr, ?_⟩
  have s2 : (cs.drop 2).take 32 = cs.drop 2 := List.take_of_length_le (by rw [List.length_drop]; omega)
  rw [s2] at e2
  have t1 : cs.drop 1 = .slice a m c :: bs q := by
    rw [← List.take_append_drop 1 (cs.drop 1), e1, List.drop_drop, e2]
    rfl
  rw [← List.take_append_drop 1 cs, ← List.drop_zero (l := cs), e0, List.drop_zero, t1]
  rfl

/-- a slice of calls that came in -/
theorem open_ops {H : Type} {enc : TypeId × Value → H} {W : World} {v : Value} {d : DataW H} {p : List MemPlace} {r : Reach} {b0 : Nat} (hval : Value.okWide Tryz.prog W r b0 22 v)
    (h : DataW.Trod enc Tryz.prog W 0 (fun _ => true) true 22 v d p) : ∃ a n c l, v = .slice a n c ∧ RdO W a n c l := by
  obtain ⟨a0, len0, cap0, rfl⟩ := okWide_slice Tryz.underlying22 hval
  obtain ⟨fuel, hf⟩ := h
  rcases DataW.trod_slice Tryz.underlying22 hf with ⟨hcs, _⟩ | ⟨x, len, cap, elems, rest, n, _, hcs, _, _, hl, hm, hlen, hel, _, _⟩
  · simp [Value.cells] at hcs
    obtain ⟨rfl, rfl, rfl⟩ := hcs
    exact ⟨none, 0, 0, [], rfl, rfl, Nat.le_refl _, fun _ => rfl, fun _ e => by cases e⟩
  · simp [Value.cells] at hcs
    obtain ⟨rfl, rfl, rfl⟩ := hcs
    have each : ∀ i, i < len0 → ∃ o : Opv, o.path.length = 32 ∧ RdL W o.a o.n o.c o.l ∧ ∀ j u, (oc o)[j]? = some u → W.cell? (x.add (i * 34 + j)) = some u := by
      intro i hi
      have h := hel i hi
      obtain ⟨z, hz⟩ : ∃ z, elems[i]? = some z := ⟨elems[i], by simp [hlen, hi]⟩
      rw [hz, cells_op, Option.bind_eq_some_iff] at h
      obtain ⟨cs, hc, ht⟩ := h
      obtain ⟨o, h1, h2, rfl⟩ := trod_op ht
      refine ⟨o, h1, h2, fun j u hu => ?_⟩
      have hj : j < 34 := by
        have := (List.getElem?_eq_some_iff.1 hu).1
        rwa [oc_length h1] at this
      have h3 := (World.cells?_some hc).2.2 j hj
      rw [hu] at h3
      rw [← h3, Addr.add_add x (i * 34) j]
    let f : Nat → Opv := fun i => if h : i < len0 then Classical.choose (each i h) else op0
    have hf : ∀ i, i < len0 → (f i).path.length = 32 ∧ RdL W (f i).a (f i).n (f i).c (f i).l ∧ ∀ j u, (oc (f i))[j]? = some u → W.cell? (x.add (i * 34 + j)) = some u := fun i hi => by
      have h := Classical.choose_spec (each i hi)
      have e : f i = Classical.choose (each i hi) := dif_pos hi
      rw [e]
      exact h
    refine ⟨some x, len0, cap0, (List.range len0).map f, rfl, by simp, hl, (fun e => by cases e), fun ad e i hi => ?_⟩
    cases e
    have e2 : ((List.range len0).map f).getD i op0 = f i := by simp [List.getD, hi]
    rw [e2]
    exact hf i hi
end
/-! Slices of leaves beside a tree; a row that no tree holds; the walk of SmtTrees. -/
section
open Go.RowKit

theorem lcs_int : ∀ (l : List Lf), ∀ u ∈ lcs l, ∃ z, u = .int .u8 z := fun l u hu => by
  simp only [lcs, lc, bs, List.mem_flatMap, List.mem_append, List.mem_map] at hu
  obtain ⟨y, -, ⟨b, -, rfl⟩ | ⟨b, -, rfl⟩⟩ := hu <;> exact ⟨_, rfl⟩
/-- the cells of a slice of leaves, wherever its blocks stay -/
theorem RdL.stay {W W' : World} {a : Option Addr} {n c : Nat} {l : List Lf} (h : RdL W a n c l)
    (hs : ∀ b off, a = some ⟨b, off, none⟩ → b < W.heap.size → (∀ j, j < (lcs l).length → W.cell? ⟨b, off + j, none⟩ = (lcs l)[j]?) → 0 < (lcs l).length → W'.heap[b]? = W.heap[b]?) : RdL W' a n c l := by
  refine ⟨h.len, h.ok, h.cap, h.max, h.nil, fun ad e j u hu => ?_⟩
  obtain ⟨b, off, sp⟩ := ad
  have h0 := h.cell _ e j u hu
  have hj := (List.getElem?_eq_some_iff.1 hu).1
  have h00 := h.cell _ e 0 _ (List.getElem?_eq_getElem (show 0 < (lcs l).length by omega))
  obtain rfl : sp = none := by simpa [Addr.add] using World.cell?_spot h00
  rw [Addr.add_lit] at h0
  have hb : b < W.heap.size := World.block_lt_of_cell? _ _ h0
  have h2 := hs b off e hb (fun i hi => by
    have := h.cell _ e i _ (List.getElem?_eq_getElem hi)
    rw [Addr.add_lit] at this
    rw [this, List.getElem?_eq_getElem hi]) (by omega)
  rw [Addr.add_lit]
  rw [← h0]
  exact World.cell?_of_block h2
/-- the tree's own variable is no row of leaves -/
theorem RdL.beside {W W' : World} {a : Option Addr} {n c : Nat} {l : List Lf} (h : RdL W a n c l) {tp : Nat} {p q : Option Addr} (hb : Blk W tp 88 [.pointer p, .pointer q]) (hg : W.grownBy W' (some tp)) : RdL W' a n c l :=
  h.stay fun b off _ hlt hc hpos => hg.block b hlt (fun e => by
    obtain rfl : tp = b := by cases e; rfl
    have h1 := hc 0 hpos
    rw [Nat.add_zero, List.getElem?_eq_getElem hpos] at h1
    obtain ⟨z, hz⟩ := lcs_int l _ (List.getElem_mem hpos)
    rw [hz, cell_of_row W tp off _ _ _ hb.at_] at h1
    match off, h1 with
    | 0, h1 => simp at h1
    | 1, h1 => simp at h1
    | k + 2, h1 => simp at h1)
/-- no node is a row of leaves -/
theorem RdL.fr {base x : Nat} {G : Tag} {L : Nat → Bool} {W W' : World} {a : Option Addr} {n c : Nat} {l : List Lf} (h : RdL W a n c l) (hI : Inv base x G L W) (hF : Fr G W W') : RdL W' a n c l :=
  h.stay fun b off _ hlt hc hpos => hF.block b hlt (by
    cases e : G b with
    | none => rfl
    | some t =>
      exfalso
      obtain ⟨dn, sum, lf, le, ri, hN⟩ := hI.nd e
      have hlen := lcs_length h.ok
      have h1 := hc 63 (by omega)
      rw [List.getElem?_eq_getElem (show 63 < (lcs l).length by omega), cell_of_row W b (off + 63) _ _ _ hN.blk.at_] at h1
      have h2 := nc_length (lkI (L b)) dn hN.part.len x t.lvs.length lf le ri
      rw [Array.getElem?_eq_none (by simp [h2])] at h1
      cases h1)
section
variable {w0 W W' : World} {x tp : Nat} {L : List Lf}
theorem Sm.beside (h : Sm w0 x tp L W) {a : Option Addr} {n c : Nat} {l : List Lf} (hr : RdL W a n c l) (hg : W.grownBy W' (some tp)) : RdL W' a n c l := by
  obtain ⟨⟨G, pn, pt, t, h1, h2, h3, h4⟩, h5, h6, h7⟩ := h
  exact hr.beside h2.blk hg
end

/-- a tree that doesn't hold block g -/
def NoLf (G : Tag) (W : World) (g : Nat) : Prop := ∀ p y, G p = some (.one y) → ∀ q, W.cell? ⟨p, 37, none⟩ = some (.pointer (some ⟨q, 0, none⟩)) → q ≠ g
structure SmG (w0 : World) (x tp : Nat) (L : List Lf) (g : Nat) (W : World) : Prop where
  out : ∃ G pn pt t, Inv w0.heap.size x G noL W ∧ Tr w0.heap.size G W tp pn pt t ∧ t.wf 0 ∧ (∀ y, y ∈ t.lvs ↔ y ∈ L) ∧ NoLf G W g
  bel : Below w0.heap.size w0 W
  unl : unlike L
  few : L.length ≤ 4096
section
variable {w0 W W' : World} {x tp g : Nat} {L : List Lf}
theorem SmG.sm (h : SmG w0 x tp L g W) : Sm w0 x tp L W := by
  obtain ⟨⟨G, pn, pt, t, h1, h2, h3, h4, h8⟩, h5, h6, h7⟩ := h
  exact ⟨⟨G, pn, pt, t, h1, h2, h3, h4⟩, h5, h6, h7⟩
theorem Sm.out_of (h : Sm w0 x tp L W) (hg : W.heap.size ≤ g) : SmG w0 x tp L g W := by
  obtain ⟨⟨G, pn, pt, t, h1, h2, h3, h4⟩, h5, h6, h7⟩ := h
  refine ⟨⟨G, pn, pt, t, h1, h2, h3, h4, fun p y hp q hq => ?_⟩, h5, h6, h7⟩
  obtain ⟨dn, sum, lf, le, ri, hN⟩ := h1.nd hp
  obtain ⟨q', rfl, _, hb⟩ := hN.kids
  have h9 := hN.leaf.symm.trans hq
  simp only [Option.some.injEq, Value.pointer.injEq, Addr.mk.injEq] at h9
  have := hb.lt
  omega
theorem SmG.below (h : SmG w0 x tp L g W) (hb : Below W.heap.size W W') : SmG w0 x tp L g W' := by
  obtain ⟨⟨G, pn, pt, t, h1, h2, h3, h4, h8⟩, h5, h6, h7⟩ := h
  refine ⟨⟨G, pn, pt, t, h1.below hb, h2.later (fun _ _ h => h) hb, h3, h4, fun p y hp q hq => h8 p y hp q ?_⟩, Bt h5 hb, h6, h7⟩
  rw [← World.cell?_of_block (w := W) (hb.block p (h1.lt hp))]
  exact hq
/-- Root: of rows of leaves nothing turns -/
theorem smg_root (h : SmG w0 x tp L g W) (hx : x ≤ 32) (hT : Tab w0 1) :
    Calls Tryz.prog 23 #[.pointer (some ⟨tp, 0, none⟩)] W fun e w' => e = .returned (.agg (bs (rootL x L)).toArray) ∧ SmG w0 x tp L g w' ∧ Below w0.heap.size W w' ∧ Keeps W w' ∧ ∀ a n c l, RdL W a n c l → RdL w' a n c l := by
  obtain ⟨⟨G, pn, pt, t, q1, q2, q3, q4, q8⟩, h5, h6, h7⟩ := h
  have hG : G 1 = none := by
    cases e : G 1 with
    | none => rfl
    | some u => have := q1.low _ _ e; have := hT.lt; omega
  have hp := whole_perm q3 h6 q4
  refine (troot_any w0.heap.size x hx G W tp pn pt t q1 q2 q3 hG (hT.below h5)).mono ?_
  rintro e w' ⟨rfl, r1, r2⟩
  have hB := r2.below q1.low h5.size
  have hGt : G tp = none := q1.tree q2.blk (by decide)
  exact ⟨by rw [T.root_eq x q3, rootL_perm x hp], ⟨⟨G, pn, pt, t, r1, ⟨Blk.fr r2 hGt q2.blk, q2.low, q2.no, q2.top⟩, q3, q4, fun p y hp q hq => q8 p y hp q ((r2.fix p 37 (q1.lt hp) (by decide)).symm.trans hq)⟩, h5.trans hB, h6, h7⟩, hB,
    fun k ty vs hb ht => Blk.fr r2 (q1.tree hb ht) hb, fun a n c l hr => hr.fr q1 r2⟩
/-- the row that it doesn't hold is written -/
theorem SmG.put (h : SmG w0 x tp L g W) {vs : List Value} (hg : W.grownBy W' (some g)) (hk : Blk W g 50 vs) (h0 : w0.heap.size ≤ g) : SmG w0 x tp L g W' := by
  obtain ⟨⟨G, pn, pt, t, q1, q2, q3, q4, q8⟩, h5, h6, h7⟩ := h
  have hne : g ≠ tp := fun e => by subst e; exact absurd (hk.kind q2.blk).1 (by decide)
  have hnode : ∀ p u, G p = some u → p ≠ g := fun p u hp e => by
    subst e
    obtain ⟨us, hu⟩ := q1.blk hp
    exact absurd (hk.kind hu).1 (by decide)
  refine ⟨⟨G, pn, pt, t, ⟨fun p u hp => ⟨(q1.node p u hp).1, ?_⟩⟩, ⟨q2.blk.grown hg (by simpa using hne), q2.low, q2.no, q2.top⟩, q3, q4, fun p y hp q hq => q8 p y hp q ?_⟩, h5.grown hg h5.size (fun k e => by cases e; exact h0), h6, h7⟩
  · obtain ⟨dn, sum, lf, le, ri, hN⟩ := q1.nd hp
    refine ⟨dn, sum, lf, le, ri, hN.blk.grown hg (fun e => hnode p u hp (by cases e; rfl)), hN.part, ?_⟩
    match u, hp, hN with
    | .none, _, _ => exact trivial
    | .one y, hp, hN =>
      obtain ⟨q, rfl, h1, h2⟩ := hN.kids
      exact ⟨q, rfl, h1, h2.grown hg (fun e => q8 p y hp q hN.leaf (by cases e; rfl))⟩
    | .two l r, _, hN => exact hN.kids
  · rw [← World.cell?_of_block (w := W) (hg.block p (q1.lt hp) (fun e => hnode p _ hp (by cases e; rfl)))]
    exact hq
end
/-- the block of a row of the call's own -/
theorem OwnL.blk {W : World} {base n c : Nat} {a : Option Addr} {l : List Lf} (h : OwnL W base (.slice a n c) l) (hn : 0 < n) : ∃ g vs, a = some ⟨g, 0, none⟩ ∧ base ≤ g ∧ Blk W g 50 vs ∧ n * 64 ≤ vs.length := by
  have hr := h.rd
  rcases h.2.2 with ⟨hv, h2⟩ | ⟨g, cap, cur, hv, hb, hg, hnc, hcm, hcs, htake⟩
  · cases hv; omega
  · cases hv
    refine ⟨g, cur.toList, rfl, hb, ⟨by simpa using hg⟩, ?_⟩
    have := Nat.mul_le_mul_right 64 hnc
    simp at hcs ⊢
    omega

theorem drop_few : ∀ {L : List Lf} {p : List UInt8}, unlike L → (findL L p).isSome = true → (dropL L p).length + 1 = L.length
  | [], _, _, h => by simp [findL] at h
  | x :: L, p, hu, h => by
    by_cases hx : x.path = p
    · have h1 : dropL L p = L := List.filter_eq_self.2 fun y hy => by
        have := (List.pairwise_cons.1 hu).1 y hy
        rw [← hx]
        simpa using Ne.symm this
      have h2 : dropL (x :: L) p = dropL L p := by simp [dropL, hx]
      rw [h2, h1]; rfl
    · have h2 : dropL (x :: L) p = x :: dropL L p := by simp [dropL, hx]
      have h3 : (findL L p).isSome = true := by simpa [findL, hx] using h
      rw [h2, List.length_cons, drop_few (List.pairwise_cons.1 hu).2 h3]; rfl
theorem drop_was {L : List Lf} (hu : unlike L) (p : List UInt8) : decide ((dropL L p).length < L.length) = (findL L p).isSome := by
  cases h : (findL L p).isSome with
  | true => have := drop_few hu h; simp; omega
  | false => rw [drop_same h]; simp
theorem get_ref2 (w : World) (a : Option Addr) (n c : Nat) (l : List Lf) (hr : RdL w a n c l) (hn : n ≤ 100000) (p : List UInt8) (hp : p.length = 32) :
    Calls Tryz.prog 19 #[.slice a n c, .agg (bs p).toArray] w fun e w' => e = .returned (.tuple #[.agg (bs (valOf (findL l p))).toArray, .bool (findL l p).isSome]) ∧ Below w.heap.size w w' := by
  refine (get_ref w a n c l hr hn p hp).mono ?_
  rintro e w' ⟨⟨x, ⟨h1, rfl⟩ | ⟨h1, rfl⟩⟩, hB⟩
  · rw [h1]; exact ⟨rfl, hB⟩
  · rw [h1]; exact ⟨rfl, hB⟩

-- WALK (wip/gen05H.py)
def opZ : Opv := ⟨0, none, 0, 0, [], zero32⟩
theorem zeroO_info : (Tryz.prog.info? 27).map (fun i => (i.zero, i.size)) = some (some (.agg (oc opZ).toArray), 34) := by kernel_rfl
theorem sizeO : (Tryz.prog.info? 27).map (·.size) = some 34 := by kernel_rfl
theorem nq5 {d : List UInt8} (h : d.length = 32) : ∀ W : World, (binOp .neq 25 (.agg (bs d).toArray) (.agg (bs d).toArray)).run Tryz.prog W = .ok (.bool false) W := fun W => by rw [neqD W _ _ h h]; simp

set_option maxRecDepth 100000 in
set_option maxHeartbeats 8000000 in
theorem walkSmtTrees (w : World) (hT : Tab w 1) (hK : Tab w 0) (x : Int) (_wf : (Lit.int .i64 x).wf = true) (a : Option Addr) (n c : Nat) (os : List Opv) (hr : RdO w a n c os) :
    Calls Tryz.prog 3 #[.int .i64 x, .slice a n c] w (Yes5 w) := by
  have GR := Lib.hid (fun (W : World) (h : Below w.heap.size w W) => grows_any W (hT.below h))
  by_cases h60 : 60 < n
  · have h60' : (60 : Int) < (n : Int) := by omega
    go_enter Tryz.func3, Tryz.ntmps3
    go_wp2_with fail
    go_ret
    exact Yes5.mk (Below.refl _ _)
  have h60' : ¬ (60 : Int) < (n : Int) := by omega
  have WI := Lib.hid (fun (W : World) => width_ref W x)
  go_enter Tryz.func3, Tryz.ntmps3
  go_wp2_with fail
  go_loopw [5, 6] (fun r t wr => ∃ i z : Nat, i ≤ n ∧ z ≤ 200 ∧ r = .int .i64 (z : Int) ∧ t = .int .i64 (i : Int) ∧ (∀ j, j < i → (os.getD j op0).n ≤ 200) ∧ Below w.heap.size w wr) (fun _ t _ => n - (intOf t).toNat)
  case atStart => exact ⟨0, 0, by omega, by omega, rfl, rfl, fun j h => absurd h (Nat.not_lt_zero j), Below.refl _ _⟩
  case round =>
    obtain ⟨i, z, hi, hz, rfl, rfl, hall, hB⟩ := hrel
    by_cases hlt : i < n
    · have hil : (i : Int) < (n : Int) := by omega
      obtain ⟨b, off, rfl, hbl, hel⟩ := (hr.below hB).elems (by omega)
      obtain ⟨hp, hrl, hrg⟩ := hel i hlt
      have hc1 : wr.cell? ⟨b, off + i * 34 + 1, none⟩ = some (.slice (os.getD i op0).a (os.getD i op0).n (os.getD i op0).c) := hrg 1 _ rfl
      have hnew : ∀ m, m = (os.getD i op0).n → m ≤ 200 → ∀ j, j < i + 1 → (os.getD j op0).n ≤ 200 := fun m hm h2 j hj => by
        by_cases e : j = i
        · subst e; omega
        · exact hall j (by omega)
      generalize hon : (os.getD i op0).n = on at *
      generalize (os.getD i op0).a = oa at *
      generalize (os.getD i op0).c = oq at *
      have HN := Lib.hid (hnew on rfl)
      clear hel hrg hrl hp hnew hon hall
      by_cases hbig : 200 - z < on
      · have hbig' : (200 : Int) - (z : Int) < (on : Int) := by omega
        go_wp2_with fail
        go_ret
        exact Yes5.mk hB
      · have hbig' : ¬ (200 : Int) - (z : Int) < (on : Int) := by omega
        go_wp2_with fail
        go_roundw
        case rel => exact ⟨i + 1, z + on, by omega, by omega, by go_num, by go_num, HN.out (by omega), hB⟩
        case measure => simp [intOf]; omega
    · obtain rfl : i = n := by omega
      have hil : ¬ (i : Int) < (i : Int) := by omega
      by_cases hx : 0 ≤ x ∧ x ≤ 32
      case neg =>
        have hd : (decide (0 ≤ x) && decide (x ≤ 32)) = false := by simp; omega
        rw [hd] at WI
        go_wp2_with fail
        refine (new_no _ x (by omega)).mono ?_
        rintro e w1 ⟨rfl, rfl⟩
        go_wp2_with fail
        refine (GR.out _ hB).mono ?_
        rintro e w2 ⟨rfl, hB2⟩
        go_wp2_with fail
        refine (WI.out _).mono ?_
        rintro e w3 ⟨rfl, rfl⟩
        go_wp2_with fail
        go_ret
        exact Yes5.mk (Bt hB hB2)
      case pos =>
        have hd : (decide (0 ≤ x) && decide (x ≤ 32)) = true := by simp; omega
        rw [hd] at WI
        obtain ⟨k, rfl⟩ := Int.eq_ofNat_of_zero_le hx.1
        have hk : k ≤ 32 := by omega
        have NW := Lib.hid (sm_new w wr k hk hB)
        go_wp2_with fail
        refine NW.out.mono ?_
        rintro e w1 ⟨tp, rfl, hS1, -⟩
        go_wp2_with fail
        go_loopw [9, 10] (fun r t wr => ∃ (j : Nat) (aL : Option Addr) (cL : Nat) (L : List Lf), j ≤ i ∧ t = .int .i64 (j : Int) ∧ r = .slice aL L.length cL ∧ RdL wr aL L.length cL L ∧ Sm w k tp L wr) (fun _ t _ => i - (intOf t).toNat)
        case atStart => exact ⟨0, none, 0, [], by omega, rfl, rfl, RdL.nil0 _, hS1⟩
        case round =>
          clear NW hS1 hd hB hil hi hz
          obtain ⟨n', rfl⟩ : ∃ n', n' = i := ⟨_, rfl⟩
          obtain ⟨i, aL, cL, L, hi, rfl, rfl, hR, hS⟩ := hrel
          by_cases hlt : i < n'
          · have hil : (i : Int) < (n' : Int) := by omega
            obtain ⟨b, off, rfl, hbl, hel⟩ := (hr.below hS.bel).elems (by omega)
            obtain ⟨hp, hrl, hrg⟩ := hel i hlt
            have hon := hall i hlt
            generalize os.getD i op0 = o at *
            obtain ⟨kd, oa, on, oq, ol, p⟩ := o
            dsimp only at hp hrl hon
            generalize hV : oc ⟨kd, oa, on, oq, ol, p⟩ = V at *
            have v0 : V[0]? = some (.int .i64 kd) := by rw [← hV]; rfl
            have v1 : V[1]? = some (.slice oa on oq) := by rw [← hV]; rfl
            have v2 : ∀ j, j < (bs p).length → V[2 + j]? = (bs p)[j]? := fun j _ => by rw [← hV, Nat.add_comm]; rfl
            have hVl : V.length = 34 := by rw [← hV]; exact oc_length hp
            have hV1 : ∀ u ∈ V, u.oneCell' = true := by rw [← hV]; exact oc_one _
            have HO := Lib.hid (show (Tryz.prog.info? 27).map (·.size) = some V.length by rw [hVl]; exact sizeO)
            have HZ := Lib.hid (show (oc opZ).length = V.length by rw [hVl]; exact oc_length rfl)
            have HP := Lib.hid (show (Tryz.prog.info? 25).map (·.size) = some (bs p).length by rw [info_digest, bs_length, hp])
            have HA := Lib.hid hall
            clear hV hVl hel hall hbl
            by_cases k1 : kd = 1
            · subst k1
              go_wp2_with (first | ((with_reducible refine wpList_loadM (o := ⟨some 83, _, _, _, _, _⟩) ?_ b (off + i * 34) 27 (.tmp 82) ?_ ?_ hrg Tryz.underlying27 ?_ HO.out ?_); rfl; rfl; rfl; rfl) | ((with_reducible refine wpList_allocB (o := ⟨some 11, _, _, _, _, _⟩) ?_ 27 ?_ zeroO_info ?_); rfl; rfl; intro w2 hr2 hg2 hz2) | ((with_reducible refine wpList_storeB (o := ⟨none, .store 27 (.tmp 11) (.tmp 83), _, _, _, _⟩) ?_ 27 (.tmp 11) (.tmp 83) ?_ ?_ ?_ hr2 HO.out HZ.out hV1 ?_); rfl; rfl; rfl; rfl; intro w3 hr3 hg3 hz3; have kc0 := hr3.cell v0; have kc1 := hr3.cell v1; have kp := hr3.range 2 v2))
              have hB3 : Below wr.heap.size wr w3 := ((Below.refl _ wr).grown hg2 (Nat.le_refl _) (fun k e => by cases e)).grown hg3 (by omega) (fun k e => by cases e; omega)
              have hS3 := hS.below hB3
              have hR3 := hR.below hB3
              have hl3 := hrl.below hB3
              clear hr2 hg2 hz2 hg3 hz3
              refine (own_ref w3 oa on oq ol hl3 (by omega)).mono ?_
              rintro e w4 ⟨a1, c1, rfl, hO4, hB4⟩
              have hr4 := hr3.below hB4
              have hR4 := hR3.below hB4
              have hS4 := hS3.below hB4
              have hl4 := hl3.below hB4
              have hfw4 := hS4.few
              go_wp2_with fail
              refine (set_ref w4 aL L.length cL L hR4 (by omega) a1 on c1 ol hO4.rd (by omega)).mono ?_
              rintro e w5 ⟨a2, c2, rfl, hR5, hB5⟩
              have hr5 := hr4.below hB5
              have hS5 := hS4.below hB5
              have hl5 := hl4.below hB5
              have hO5 := hO4.rd.below hB5
              have kd1 := hr5.cell v1
              have ST := Lib.hid (sm_set hS5 oa on oq ol hl5 (fun _ => sorts_all on (by omega)))
              have SL1 := Lib.hid (fun (W : World) (h1 : RdL W oa on oq ol) (h2 : RdL W a1 on c1 ol) => same_law W oa on oq ol h1 (by omega) a1 on c1 ol h2)
              rw [(sameLL_iff ol ol).2 rfl] at SL1
              generalize setE L ol = er at *
              generalize setI L ol = X at *
              go_wp2_with fail
              refine ST.out.mono ?_
              rintro e w6 ⟨rfl, hS6, hg6⟩
              have hR6 := hS5.beside hR5 hg6
              have hl6 := hS5.beside hl5 hg6
              have hO6 := hS5.beside hO5 hg6
              have hr6 := hr5.grown hg6 (by simpa using hS5.ne hr5 (by decide))
              have ke1 := hr6.cell v1
              go_wp2_with fail
              refine (SL1.out w6 hl6 hO6).mono ?_
              rintro e w7 ⟨rfl, hB7⟩
              have hS7 := hS6.below hB7
              have hR7 := hR6.below hB7
              clear hr3 hr4 hr5 hr6 kc0 kc1 kd1 ke1 kp hS3 hS4 hS5 hS6 hR3 hR4 hR5 hR6 hl3 hl4 hl5 hl6 hO4 hO5 hO6 hg6 hrg
              have hlow : ∀ b off, a2 = some (⟨b, off, none⟩ : Addr) → 0 < X.length → b < w7.heap.size := fun b off e hp => by
                obtain ⟨b', off', e', hb', -⟩ := hR7.elems hp
                rw [e] at e'
                cases e'
                exact hb'
              have hun := hS7.unl
              have hfw := hS7.few
              have LV := Lib.hid (sm_leaves hS7)
              have hdl : (rootL k X).length = 32 := digestF_length k hk 256 X 0
              have DG := Lib.hid (fun (W : World) (h1 : RdL W a2 X.length c2 X) (h2 : Tab W 0) => digest_ref k hk 256 W a2 X.length c2 X 0 rfl h1 hun (fun _ _ _ _ i hi => absurd hi (Nat.not_lt_zero i)) h2 (by omega))
              have RO := Lib.hid (fun (W : World) (g : Nat) (h : SmG w k tp X g W) => smg_root h hk hT)
              rw [show digestF k 256 X 0 = rootL k X from rfl] at DG
              have SL := Lib.hid (fun (W : World) (a1 : Option Addr) (c1 : Nat) (h1 : RdL W a1 X.length c1 (sortedL X)) (a2 : Option Addr) (c2 : Nat) (h2 : RdL W a2 X.length c2 (sortedL X)) => same_law W a1 X.length c1 (sortedL X) h1 (by omega) a2 X.length c2 (sortedL X) h2)
              rw [(sameLL_iff (sortedL X) (sortedL X)).2 rfl] at SL
              generalize rootL k X = dd at *
              have N5 := Lib.hid (nq5 hdl)
              go_wp2_with fail
              refine LV.out.mono ?_
              rintro e wa ⟨ga, gc, rfl, hOa, hBa⟩
              have hSa := hS7.below hBa
              have hRa := hR7.below hBa
              have LE := Lib.hid (sm_len hSa)
              have hG : ∃ g, w7.heap.size ≤ g ∧ (0 < X.length → ga = some ⟨g, 0, none⟩ ∧ ∃ vs, Blk wa g 50 vs ∧ X.length * 64 ≤ vs.length) := by
                by_cases hp : 0 < X.length
                · obtain ⟨g, vs, e1, e2, e3, e4⟩ := OwnL.blk hOa hp
                  exact ⟨g, e2, fun _ => ⟨e1, vs, e3, e4⟩⟩
                · exact ⟨_, Nat.le_refl _, fun h => absurd h hp⟩
              obtain ⟨g, hg1, hg2⟩ := hG
              go_wp2_with fail
              refine LE.out.mono ?_
              rintro e wb ⟨rfl, rfl⟩
              go_wp2_with fail
              refine (sorted_ref _ a2 X.length c2 X hRa (by omega)).mono ?_
              rintro e wc ⟨a4, c4, rfl, hR4, hBc⟩
              go_wp2_with fail
              refine (SL.out wc _ _ (hOa.rd.below hBc) _ _ hR4).mono ?_
              rintro e wd ⟨rfl, hBd⟩
              have hSd := (((hS7.out_of hg1).below hBa).below hBc).below hBd
              have hRd := (hRa.below hBc).below hBd
              go_wp2_with fail
              refine (RO.out wd g hSd).mono ?_
              rintro e we ⟨rfl, hSe, hBe, hKe, hRe⟩
              have hRe' := hRe _ _ _ _ hRd
              go_wp2_with fail
              refine (DG.out we hRe' (hK.below hSe.bel)).mono ?_
              rintro e wf ⟨rfl, hBf⟩
              have hSf := hSe.below hBf
              have hRf := hRe'.below hBf
              have hgf : 0 < X.length → ga = some ⟨g, 0, none⟩ ∧ ∃ vs, Blk wf g 50 vs ∧ X.length * 64 ≤ vs.length := fun hp => by
                obtain ⟨e1, vs, hb, hl⟩ := hg2 hp
                exact ⟨e1, vs, (hKe _ _ _ ((hb.below hBc).below hBd) (by decide)).below hBf, hl⟩
              clear hg2 hRe' hRe hKe hSe hSd hRd hR4 hRa hSa hOa
              go_wp2_with ((with_reducible refine wpList_eqF (o := ⟨some 171, _, _, _, _, _⟩) ?_ .neq 25 25 (.tmp 167) (.tmp 170) ?_ (bs dd).toArray (bs dd).toArray ?_ ?_ guardR _ N5.out ?_); rfl; rfl; rfl; rfl)
              go_loopw [22] (fun t wr => ∃ j : Nat, j ≤ X.length ∧ t = .int .i64 (j : Int) ∧ SmG w k tp X g wr ∧ RdL wr a2 X.length c2 X ∧ (0 < X.length → ga = some ⟨g, 0, none⟩ ∧ ∃ vs, Blk wr g 50 vs ∧ X.length * 64 ≤ vs.length)) (fun t _ => X.length - (intOf t).toNat)
              case atStart => exact ⟨0, by omega, rfl, hSf, hRf, hgf⟩
              case round =>
                obtain ⟨j, hj, rfl, hSj, hRj, hgj⟩ := hrel
                by_cases hjt : j < X.length
                · have hjl : (j : Int) < (X.length : Int) := by omega
                  obtain ⟨rfl, vs, hb, hvl⟩ := hgj (by omega)
                  have hcj := hb.cell (j := j * 64 + 32) (List.getElem?_eq_getElem (show j * 64 + 32 < vs.length by omega))
                  have hfj := hb.free (j * 64 + 32)
                  have hgr := set_grown wr g (j * 64 + 32) (.int .u8 77)
                  have hb2 := hb.set (j * 64 + 32) (.int .u8 77)
                  have hS2 := hSj.put hgr hb (Nat.le_trans hS7.bel.size hg1)
                  have hR2 := hRj.stay (W' := wr.setCell ⟨g, j * 64 + 32, none⟩ (.int .u8 77)) (fun b off e hlt _ _ => hgr.block b hlt (fun e' => by cases e'; have := hlow _ off e (by omega); omega))
                  generalize vs[j * 64 + 32]'(by omega) = vj at *
                  go_wp2_with fail
                  go_roundw
                  case rel => exact ⟨j + 1, by omega, by go_num, hS2, hR2, fun _ => ⟨by first | exact trivial | rfl, _, hb2, by rw [List.length_set]; exact hvl⟩⟩
                  case measure => simp [intOf]; omega
                · obtain rfl : j = X.length := by omega
                  have hjl : ¬ (X.length : Int) < (X.length : Int) := by omega
                  go_wp2_with fail
                  go_roundw
                  case rel => exact ⟨i + 1, a2, c2, X, by omega, by go_num, rfl, hRj, hSj.sm⟩
                  case measure => simp [intOf]; omega
            by_cases k2 : kd = 2
            · subst k2
              go_wp2_with (first | ((with_reducible refine wpList_loadM (o := ⟨some 83, _, _, _, _, _⟩) ?_ b (off + i * 34) 27 (.tmp 82) ?_ ?_ hrg Tryz.underlying27 ?_ HO.out ?_); rfl; rfl; rfl; rfl) | ((with_reducible refine wpList_allocB (o := ⟨some 11, _, _, _, _, _⟩) ?_ 27 ?_ zeroO_info ?_); rfl; rfl; intro w2 hr2 hg2 hz2) | ((with_reducible refine wpList_storeB (o := ⟨none, .store 27 (.tmp 11) (.tmp 83), _, _, _, _⟩) ?_ 27 (.tmp 11) (.tmp 83) ?_ ?_ ?_ hr2 HO.out HZ.out hV1 ?_); rfl; rfl; rfl; rfl; intro w3 hr3 hg3 hz3; have kc0 := hr3.cell v0; have kc1 := hr3.cell v1; have kp := hr3.range 2 v2) | ((with_reducible refine wpList_loadM (o := ⟨some 116, _, _, _, _, _⟩) ?_ wr.heap.size 2 25 (.tmp 115) ?_ ?_ kp Tryz.underlying25 ?_ HP.out ?_); rfl; rfl; rfl; rfl))
              have hB3 : Below wr.heap.size wr w3 := ((Below.refl _ wr).grown hg2 (Nat.le_refl _) (fun k e => by cases e)).grown hg3 (by omega) (fun k e => by cases e; omega)
              have hS3 := hS.below hB3
              have hR3 := hR.below hB3
              have hl3 := hrl.below hB3
              clear hr2 hg2 hz2 hg3 hz3
              have hfw3 := hS3.few
              have DR := Lib.hid (drop_ref w3 aL L.length cL L hR3 (by omega) p hp)
              rw [drop_was hS3.unl p] at DR
              refine DR.out.mono ?_
              rintro e w4 ⟨a2, c2, rfl, hO4, hB4⟩
              have hr4 := hr3.below hB4
              have hS4 := hS3.below hB4
              have kp4 := hr4.range 2 v2
              have hR4 := hO4.rd
              have DT := Lib.hid (sm_drop hS4 p hp)
              generalize (findL L p).isSome = fb at *
              generalize dropL L p = X at *
              clear DR
              go_wp2_with (((with_reducible refine wpList_loadM (o := ⟨some 122, _, _, _, _, _⟩) ?_ wr.heap.size 2 25 (.tmp 121) ?_ ?_ kp4 Tryz.underlying25 ?_ HP.out ?_); rfl; rfl; rfl; rfl))
              refine DT.out.mono ?_
              rintro e w7 ⟨rfl, hS7, hg7⟩
              have hR7 := hS4.beside hR4 hg7
              clear hr3 hr4 kc0 kc1 kp kp4 hS3 hS4 hR3 hR4 hl3 hO4 hg7 hrg
              have hlow : ∀ b off, a2 = some (⟨b, off, none⟩ : Addr) → 0 < X.length → b < w7.heap.size := fun b off e hp => by
                obtain ⟨b', off', e', hb', -⟩ := hR7.elems hp
                rw [e] at e'
                cases e'
                exact hb'
              have hun := hS7.unl
              have hfw := hS7.few
              have LV := Lib.hid (sm_leaves hS7)
              have hdl : (rootL k X).length = 32 := digestF_length k hk 256 X 0
              have DG := Lib.hid (fun (W : World) (h1 : RdL W a2 X.length c2 X) (h2 : Tab W 0) => digest_ref k hk 256 W a2 X.length c2 X 0 rfl h1 hun (fun _ _ _ _ i hi => absurd hi (Nat.not_lt_zero i)) h2 (by omega))
              have RO := Lib.hid (fun (W : World) (g : Nat) (h : SmG w k tp X g W) => smg_root h hk hT)
              rw [show digestF k 256 X 0 = rootL k X from rfl] at DG
              have SL := Lib.hid (fun (W : World) (a1 : Option Addr) (c1 : Nat) (h1 : RdL W a1 X.length c1 (sortedL X)) (a2 : Option Addr) (c2 : Nat) (h2 : RdL W a2 X.length c2 (sortedL X)) => same_law W a1 X.length c1 (sortedL X) h1 (by omega) a2 X.length c2 (sortedL X) h2)
              rw [(sameLL_iff (sortedL X) (sortedL X)).2 rfl] at SL
              generalize rootL k X = dd at *
              have N5 := Lib.hid (nq5 hdl)
              go_wp2_with fail
              refine LV.out.mono ?_
              rintro e wa ⟨ga, gc, rfl, hOa, hBa⟩
              have hSa := hS7.below hBa
              have hRa := hR7.below hBa
              have LE := Lib.hid (sm_len hSa)
              have hG : ∃ g, w7.heap.size ≤ g ∧ (0 < X.length → ga = some ⟨g, 0, none⟩ ∧ ∃ vs, Blk wa g 50 vs ∧ X.length * 64 ≤ vs.length) := by
                by_cases hp : 0 < X.length
                · obtain ⟨g, vs, e1, e2, e3, e4⟩ := OwnL.blk hOa hp
                  exact ⟨g, e2, fun _ => ⟨e1, vs, e3, e4⟩⟩
                · exact ⟨_, Nat.le_refl _, fun h => absurd h hp⟩
              obtain ⟨g, hg1, hg2⟩ := hG
              go_wp2_with fail
              refine LE.out.mono ?_
              rintro e wb ⟨rfl, rfl⟩
              go_wp2_with fail
              refine (sorted_ref _ a2 X.length c2 X hRa (by omega)).mono ?_
              rintro e wc ⟨a4, c4, rfl, hR4, hBc⟩
              go_wp2_with fail
              refine (SL.out wc _ _ (hOa.rd.below hBc) _ _ hR4).mono ?_
              rintro e wd ⟨rfl, hBd⟩
              have hSd := (((hS7.out_of hg1).below hBa).below hBc).below hBd
              have hRd := (hRa.below hBc).below hBd
              go_wp2_with fail
              refine (RO.out wd g hSd).mono ?_
              rintro e we ⟨rfl, hSe, hBe, hKe, hRe⟩
              have hRe' := hRe _ _ _ _ hRd
              go_wp2_with fail
              refine (DG.out we hRe' (hK.below hSe.bel)).mono ?_
              rintro e wf ⟨rfl, hBf⟩
              have hSf := hSe.below hBf
              have hRf := hRe'.below hBf
              have hgf : 0 < X.length → ga = some ⟨g, 0, none⟩ ∧ ∃ vs, Blk wf g 50 vs ∧ X.length * 64 ≤ vs.length := fun hp => by
                obtain ⟨e1, vs, hb, hl⟩ := hg2 hp
                exact ⟨e1, vs, (hKe _ _ _ ((hb.below hBc).below hBd) (by decide)).below hBf, hl⟩
              clear hg2 hRe' hRe hKe hSe hSd hRd hR4 hRa hSa hOa
              go_wp2_with ((with_reducible refine wpList_eqF (o := ⟨some 171, _, _, _, _, _⟩) ?_ .neq 25 25 (.tmp 167) (.tmp 170) ?_ (bs dd).toArray (bs dd).toArray ?_ ?_ guardR _ N5.out ?_); rfl; rfl; rfl; rfl)
              go_loopw [22] (fun t wr => ∃ j : Nat, j ≤ X.length ∧ t = .int .i64 (j : Int) ∧ SmG w k tp X g wr ∧ RdL wr a2 X.length c2 X ∧ (0 < X.length → ga = some ⟨g, 0, none⟩ ∧ ∃ vs, Blk wr g 50 vs ∧ X.length * 64 ≤ vs.length)) (fun t _ => X.length - (intOf t).toNat)
              case atStart => exact ⟨0, by omega, rfl, hSf, hRf, hgf⟩
              case round =>
                obtain ⟨j, hj, rfl, hSj, hRj, hgj⟩ := hrel
                by_cases hjt : j < X.length
                · have hjl : (j : Int) < (X.length : Int) := by omega
                  obtain ⟨rfl, vs, hb, hvl⟩ := hgj (by omega)
                  have hcj := hb.cell (j := j * 64 + 32) (List.getElem?_eq_getElem (show j * 64 + 32 < vs.length by omega))
                  have hfj := hb.free (j * 64 + 32)
                  have hgr := set_grown wr g (j * 64 + 32) (.int .u8 77)
                  have hb2 := hb.set (j * 64 + 32) (.int .u8 77)
                  have hS2 := hSj.put hgr hb (Nat.le_trans hS7.bel.size hg1)
                  have hR2 := hRj.stay (W' := wr.setCell ⟨g, j * 64 + 32, none⟩ (.int .u8 77)) (fun b off e hlt _ _ => hgr.block b hlt (fun e' => by cases e'; have := hlow _ off e (by omega); omega))
                  generalize vs[j * 64 + 32]'(by omega) = vj at *
                  go_wp2_with fail
                  go_roundw
                  case rel => exact ⟨j + 1, by omega, by go_num, hS2, hR2, fun _ => ⟨by first | exact trivial | rfl, _, hb2, by rw [List.length_set]; exact hvl⟩⟩
                  case measure => simp [intOf]; omega
                · obtain rfl : j = X.length := by omega
                  have hjl : ¬ (X.length : Int) < (X.length : Int) := by omega
                  go_wp2_with fail
                  go_roundw
                  case rel => exact ⟨i + 1, a2, c2, X, by omega, by go_num, rfl, hRj, hSj.sm⟩
                  case measure => simp [intOf]; omega
            by_cases k3 : kd = 3
            · subst k3
              go_wp2_with (first | ((with_reducible refine wpList_loadM (o := ⟨some 83, _, _, _, _, _⟩) ?_ b (off + i * 34) 27 (.tmp 82) ?_ ?_ hrg Tryz.underlying27 ?_ HO.out ?_); rfl; rfl; rfl; rfl) | ((with_reducible refine wpList_allocB (o := ⟨some 11, _, _, _, _, _⟩) ?_ 27 ?_ zeroO_info ?_); rfl; rfl; intro w2 hr2 hg2 hz2) | ((with_reducible refine wpList_storeB (o := ⟨none, .store 27 (.tmp 11) (.tmp 83), _, _, _, _⟩) ?_ 27 (.tmp 11) (.tmp 83) ?_ ?_ ?_ hr2 HO.out HZ.out hV1 ?_); rfl; rfl; rfl; rfl; intro w3 hr3 hg3 hz3; have kc0 := hr3.cell v0; have kc1 := hr3.cell v1; have kp := hr3.range 2 v2) | ((with_reducible refine wpList_loadM (o := ⟨some 132, _, _, _, _, _⟩) ?_ wr.heap.size 2 25 (.tmp 131) ?_ ?_ kp Tryz.underlying25 ?_ HP.out ?_); rfl; rfl; rfl; rfl))
              have hB3 : Below wr.heap.size wr w3 := ((Below.refl _ wr).grown hg2 (Nat.le_refl _) (fun k e => by cases e)).grown hg3 (by omega) (fun k e => by cases e; omega)
              have hS3 := hS.below hB3
              have hR3 := hR.below hB3
              have hl3 := hrl.below hB3
              clear hr2 hg2 hz2 hg3 hz3
              have hfw3 := hS3.few
              have hvl := hS3.val p
              have GT := Lib.hid (sm_get hS3 p hp)
              have GF := Lib.hid (fun (W : World) (h : RdL W aL L.length cL L) => get_ref2 W aL L.length cL L h (by omega) p hp)
              generalize (findL L p).isSome = fb at *
              generalize valOf (findL L p) = v at *
              have i1 := Lib.hid (dig5 hvl).1
              have j1 := Lib.hid (dig5 hvl).2
              have o1 := bs_one v
              have N1 := Lib.hid (nq5 hvl)
              refine GT.out.mono ?_
              rintro e w4 ⟨rfl, hB4⟩
              have hr4 := hr3.below hB4
              have hl4 := hr4.lt
              go_wp2_with (first | ((with_reducible refine wpList_allocB (o := ⟨some 17, _, _, _, _, _⟩) ?_ 25 ?_ zeroD_info ?_); rfl; rfl; intro w5 hrw5 hgw5 hzw5) | ((with_reducible refine wpList_storeB (o := ⟨none, .store 25 (.tmp 17) (.tmp 134), _, _, _, _⟩) ?_ 25 (.tmp 17) (.tmp 134) ?_ ?_ ?_ hrw5 i1.out j1.out o1 ?_); rfl; rfl; rfl; rfl; intro w6 hrw6 hgw6 hzw6; have hr7 := (hr4.grown hgw5 (by simp)).grown hgw6 (by simp; omega); have kp7 := hr7.range 2 v2) | ((with_reducible refine wpList_loadM (o := ⟨some 139, _, _, _, _, _⟩) ?_ wr.heap.size 2 25 (.tmp 138) ?_ ?_ kp7 Tryz.underlying25 ?_ HP.out ?_); rfl; rfl; rfl; rfl))
              have hB6 : Below w4.heap.size w4 w6 := ((Below.refl _ w4).grown hgw5 (Nat.le_refl _) (fun k e => by cases e)).grown hgw6 (by omega) (fun k e => by cases e; omega)
              have hS6 := (hS3.below hB4).below hB6
              have hR6 := (hR3.below hB4).below hB6
              have hd6 : Blk w6 w4.heap.size 25 (bs v) := hrw6
              refine (GF.out w6 hR6).mono ?_
              rintro e w8 ⟨rfl, hB8⟩
              have hd8 := hd6.below hB8
              have hlt8 := hd8.lt
              go_wp2_with (first | ((with_reducible refine wpList_allocB (o := ⟨some 19, _, _, _, _, _⟩) ?_ 25 ?_ zeroD_info ?_); rfl; rfl; intro w9 hrw9 hgw9 hzw9) | ((with_reducible refine wpList_storeB (o := ⟨none, .store 25 (.tmp 19) (.tmp 141), _, _, _, _⟩) ?_ 25 (.tmp 19) (.tmp 141) ?_ ?_ ?_ hrw9 i1.out j1.out o1 ?_); rfl; rfl; rfl; rfl; intro w10 hrw10 hgw10 hzw10; have hd10 := (hd8.grown hgw9 (by simp)).grown hgw10 (by simp; omega); have rk1 := hd10.allR; have rk2 := hrw10.allR) | ((with_reducible refine wpList_loadM (o := ⟨some 143, _, _, _, _, _⟩) ?_ w4.heap.size 0 25 (.tmp 17) ?_ ?_ rk1 Tryz.underlying25 ?_ i1.out ?_); rfl; rfl; rfl; rfl) | ((with_reducible refine wpList_loadM (o := ⟨some 144, _, _, _, _, _⟩) ?_ w8.heap.size 0 25 (.tmp 19) ?_ ?_ rk2 Tryz.underlying25 ?_ i1.out ?_); rfl; rfl; rfl; rfl) | ((with_reducible refine wpList_eqF (o := ⟨some 145, _, _, _, _, _⟩) ?_ .neq 25 25 (.tmp 143) (.tmp 144) ?_ (bs v).toArray (bs v).toArray ?_ ?_ guardR _ N1.out ?_); rfl; rfl; rfl; rfl))
              have hB10 : Below w8.heap.size w8 w10 := ((Below.refl _ w8).grown hgw9 (Nat.le_refl _) (fun k e => by cases e)).grown hgw10 (by omega) (fun k e => by cases e; omega)
              have hS7 := (hS6.below hB8).below hB10
              have hR7 := (hR6.below hB8).below hB10
              clear hr3 hr4 hr7 kc0 kc1 kp kp7 hS3 hS6 hR3 hR6 hl3 hrg hd6 hd8 hd10 rk1 rk2 hrw5 hrw6 hrw9 hrw10 hgw5 hgw6 hgw9 hgw10 hzw5 hzw6 hzw9 hzw10
              have hlow : ∀ b off, aL = some (⟨b, off, none⟩ : Addr) → 0 < L.length → b < w10.heap.size := fun b off e hp => by
                obtain ⟨b', off', e', hb', -⟩ := hR7.elems hp
                rw [e] at e'
                cases e'
                exact hb'
              have hun := hS7.unl
              have hfw := hS7.few
              have LV := Lib.hid (sm_leaves hS7)
              have hdl : (rootL k L).length = 32 := digestF_length k hk 256 L 0
              have DG := Lib.hid (fun (W : World) (h1 : RdL W aL L.length cL L) (h2 : Tab W 0) => digest_ref k hk 256 W aL L.length cL L 0 rfl h1 hun (fun _ _ _ _ i hi => absurd hi (Nat.not_lt_zero i)) h2 (by omega))
              have RO := Lib.hid (fun (W : World) (g : Nat) (h : SmG w k tp L g W) => smg_root h hk hT)
              rw [show digestF k 256 L 0 = rootL k L from rfl] at DG
              have SL := Lib.hid (fun (W : World) (a1 : Option Addr) (c1 : Nat) (h1 : RdL W a1 L.length c1 (sortedL L)) (a2 : Option Addr) (c2 : Nat) (h2 : RdL W a2 L.length c2 (sortedL L)) => same_law W a1 L.length c1 (sortedL L) h1 (by omega) a2 L.length c2 (sortedL L) h2)
              rw [(sameLL_iff (sortedL L) (sortedL L)).2 rfl] at SL
              generalize rootL k L = dd at *
              have N5 := Lib.hid (nq5 hdl)
              go_wp2_with fail
              refine LV.out.mono ?_
              rintro e wa ⟨ga, gc, rfl, hOa, hBa⟩
              have hSa := hS7.below hBa
              have hRa := hR7.below hBa
              have LE := Lib.hid (sm_len hSa)
              have hG : ∃ g, w10.heap.size ≤ g ∧ (0 < L.length → ga = some ⟨g, 0, none⟩ ∧ ∃ vs, Blk wa g 50 vs ∧ L.length * 64 ≤ vs.length) := by
                by_cases hp : 0 < L.length
                · obtain ⟨g, vs, e1, e2, e3, e4⟩ := OwnL.blk hOa hp
                  exact ⟨g, e2, fun _ => ⟨e1, vs, e3, e4⟩⟩
                · exact ⟨_, Nat.le_refl _, fun h => absurd h hp⟩
              obtain ⟨g, hg1, hg2⟩ := hG
              go_wp2_with fail
              refine LE.out.mono ?_
              rintro e wb ⟨rfl, rfl⟩
              go_wp2_with fail
              refine (sorted_ref _ aL L.length cL L hRa (by omega)).mono ?_
              rintro e wc ⟨a4, c4, rfl, hR4, hBc⟩
              go_wp2_with fail
              refine (SL.out wc _ _ (hOa.rd.below hBc) _ _ hR4).mono ?_
              rintro e wd ⟨rfl, hBd⟩
              have hSd := (((hS7.out_of hg1).below hBa).below hBc).below hBd
              have hRd := (hRa.below hBc).below hBd
              go_wp2_with fail
              refine (RO.out wd g hSd).mono ?_
              rintro e we ⟨rfl, hSe, hBe, hKe, hRe⟩
              have hRe' := hRe _ _ _ _ hRd
              go_wp2_with fail
              refine (DG.out we hRe' (hK.below hSe.bel)).mono ?_
              rintro e wf ⟨rfl, hBf⟩
              have hSf := hSe.below hBf
              have hRf := hRe'.below hBf
              have hgf : 0 < L.length → ga = some ⟨g, 0, none⟩ ∧ ∃ vs, Blk wf g 50 vs ∧ L.length * 64 ≤ vs.length := fun hp => by
                obtain ⟨e1, vs, hb, hl⟩ := hg2 hp
                exact ⟨e1, vs, (hKe _ _ _ ((hb.below hBc).below hBd) (by decide)).below hBf, hl⟩
              clear hg2 hRe' hRe hKe hSe hSd hRd hR4 hRa hSa hOa
              go_wp2_with ((with_reducible refine wpList_eqF (o := ⟨some 171, _, _, _, _, _⟩) ?_ .neq 25 25 (.tmp 167) (.tmp 170) ?_ (bs dd).toArray (bs dd).toArray ?_ ?_ guardR _ N5.out ?_); rfl; rfl; rfl; rfl)
              go_loopw [22] (fun t wr => ∃ j : Nat, j ≤ L.length ∧ t = .int .i64 (j : Int) ∧ SmG w k tp L g wr ∧ RdL wr aL L.length cL L ∧ (0 < L.length → ga = some ⟨g, 0, none⟩ ∧ ∃ vs, Blk wr g 50 vs ∧ L.length * 64 ≤ vs.length)) (fun t _ => L.length - (intOf t).toNat)
              case atStart => exact ⟨0, by omega, rfl, hSf, hRf, hgf⟩
              case round =>
                obtain ⟨j, hj, rfl, hSj, hRj, hgj⟩ := hrel
                by_cases hjt : j < L.length
                · have hjl : (j : Int) < (L.length : Int) := by omega
                  obtain ⟨rfl, vs, hb, hvl⟩ := hgj (by omega)
                  have hcj := hb.cell (j := j * 64 + 32) (List.getElem?_eq_getElem (show j * 64 + 32 < vs.length by omega))
                  have hfj := hb.free (j * 64 + 32)
                  have hgr := set_grown wr g (j * 64 + 32) (.int .u8 77)
                  have hb2 := hb.set (j * 64 + 32) (.int .u8 77)
                  have hS2 := hSj.put hgr hb (Nat.le_trans hS7.bel.size hg1)
                  have hR2 := hRj.stay (W' := wr.setCell ⟨g, j * 64 + 32, none⟩ (.int .u8 77)) (fun b off e hlt _ _ => hgr.block b hlt (fun e' => by cases e'; have := hlow _ off e (by omega); omega))
                  generalize vs[j * 64 + 32]'(by omega) = vj at *
                  go_wp2_with fail
                  go_roundw
                  case rel => exact ⟨j + 1, by omega, by go_num, hS2, hR2, fun _ => ⟨by first | exact trivial | rfl, _, hb2, by rw [List.length_set]; exact hvl⟩⟩
                  case measure => simp [intOf]; omega
                · obtain rfl : j = L.length := by omega
                  have hjl : ¬ (L.length : Int) < (L.length : Int) := by omega
                  go_wp2_with fail
                  go_roundw
                  case rel => exact ⟨i + 1, aL, cL, L, by omega, by go_num, rfl, hRj, hSj.sm⟩
                  case measure => simp [intOf]; omega
            · skip
              go_wp2_with (first | ((with_reducible refine wpList_loadM (o := ⟨some 83, _, _, _, _, _⟩) ?_ b (off + i * 34) 27 (.tmp 82) ?_ ?_ hrg Tryz.underlying27 ?_ HO.out ?_); rfl; rfl; rfl; rfl) | ((with_reducible refine wpList_allocB (o := ⟨some 11, _, _, _, _, _⟩) ?_ 27 ?_ zeroO_info ?_); rfl; rfl; intro w2 hr2 hg2 hz2) | ((with_reducible refine wpList_storeB (o := ⟨none, .store 27 (.tmp 11) (.tmp 83), _, _, _, _⟩) ?_ 27 (.tmp 11) (.tmp 83) ?_ ?_ ?_ hr2 HO.out HZ.out hV1 ?_); rfl; rfl; rfl; rfl; intro w3 hr3 hg3 hz3; have kc0 := hr3.cell v0; have kc1 := hr3.cell v1; have kp := hr3.range 2 v2))
              have hB3 : Below wr.heap.size wr w3 := ((Below.refl _ wr).grown hg2 (Nat.le_refl _) (fun k e => by cases e)).grown hg3 (by omega) (fun k e => by cases e; omega)
              have hS3 := hS.below hB3
              have hR3 := hR.below hB3
              have hl3 := hrl.below hB3
              clear hr2 hg2 hz2 hg3 hz3
              clear hr3 kc0 kc1 kp hl3 hrg
              have hlow : ∀ b off, aL = some (⟨b, off, none⟩ : Addr) → 0 < L.length → b < w3.heap.size := fun b off e hp => by
                obtain ⟨b', off', e', hb', -⟩ := hR3.elems hp
                rw [e] at e'
                cases e'
                exact hb'
              have hun := hS3.unl
              have hfw := hS3.few
              have LV := Lib.hid (sm_leaves hS3)
              have hdl : (rootL k L).length = 32 := digestF_length k hk 256 L 0
              have DG := Lib.hid (fun (W : World) (h1 : RdL W aL L.length cL L) (h2 : Tab W 0) => digest_ref k hk 256 W aL L.length cL L 0 rfl h1 hun (fun _ _ _ _ i hi => absurd hi (Nat.not_lt_zero i)) h2 (by omega))
              have RO := Lib.hid (fun (W : World) (g : Nat) (h : SmG w k tp L g W) => smg_root h hk hT)
              rw [show digestF k 256 L 0 = rootL k L from rfl] at DG
              have SL := Lib.hid (fun (W : World) (a1 : Option Addr) (c1 : Nat) (h1 : RdL W a1 L.length c1 (sortedL L)) (a2 : Option Addr) (c2 : Nat) (h2 : RdL W a2 L.length c2 (sortedL L)) => same_law W a1 L.length c1 (sortedL L) h1 (by omega) a2 L.length c2 (sortedL L) h2)
              rw [(sameLL_iff (sortedL L) (sortedL L)).2 rfl] at SL
              generalize rootL k L = dd at *
              have N5 := Lib.hid (nq5 hdl)
              go_wp2_with fail
              refine LV.out.mono ?_
              rintro e wa ⟨ga, gc, rfl, hOa, hBa⟩
              have hSa := hS3.below hBa
              have hRa := hR3.below hBa
              have LE := Lib.hid (sm_len hSa)
              have hG : ∃ g, w3.heap.size ≤ g ∧ (0 < L.length → ga = some ⟨g, 0, none⟩ ∧ ∃ vs, Blk wa g 50 vs ∧ L.length * 64 ≤ vs.length) := by
                by_cases hp : 0 < L.length
                · obtain ⟨g, vs, e1, e2, e3, e4⟩ := OwnL.blk hOa hp
                  exact ⟨g, e2, fun _ => ⟨e1, vs, e3, e4⟩⟩
                · exact ⟨_, Nat.le_refl _, fun h => absurd h hp⟩
              obtain ⟨g, hg1, hg2⟩ := hG
              go_wp2_with fail
              refine LE.out.mono ?_
              rintro e wb ⟨rfl, rfl⟩
              go_wp2_with fail
              refine (sorted_ref _ aL L.length cL L hRa (by omega)).mono ?_
              rintro e wc ⟨a4, c4, rfl, hR4, hBc⟩
              go_wp2_with fail
              refine (SL.out wc _ _ (hOa.rd.below hBc) _ _ hR4).mono ?_
              rintro e wd ⟨rfl, hBd⟩
              have hSd := (((hS3.out_of hg1).below hBa).below hBc).below hBd
              have hRd := (hRa.below hBc).below hBd
              go_wp2_with fail
              refine (RO.out wd g hSd).mono ?_
              rintro e we ⟨rfl, hSe, hBe, hKe, hRe⟩
              have hRe' := hRe _ _ _ _ hRd
              go_wp2_with fail
              refine (DG.out we hRe' (hK.below hSe.bel)).mono ?_
              rintro e wf ⟨rfl, hBf⟩
              have hSf := hSe.below hBf
              have hRf := hRe'.below hBf
              have hgf : 0 < L.length → ga = some ⟨g, 0, none⟩ ∧ ∃ vs, Blk wf g 50 vs ∧ L.length * 64 ≤ vs.length := fun hp => by
                obtain ⟨e1, vs, hb, hl⟩ := hg2 hp
                exact ⟨e1, vs, (hKe _ _ _ ((hb.below hBc).below hBd) (by decide)).below hBf, hl⟩
              clear hg2 hRe' hRe hKe hSe hSd hRd hR4 hRa hSa hOa
              go_wp2_with ((with_reducible refine wpList_eqF (o := ⟨some 171, _, _, _, _, _⟩) ?_ .neq 25 25 (.tmp 167) (.tmp 170) ?_ (bs dd).toArray (bs dd).toArray ?_ ?_ guardR _ N5.out ?_); rfl; rfl; rfl; rfl)
              go_loopw [22] (fun t wr => ∃ j : Nat, j ≤ L.length ∧ t = .int .i64 (j : Int) ∧ SmG w k tp L g wr ∧ RdL wr aL L.length cL L ∧ (0 < L.length → ga = some ⟨g, 0, none⟩ ∧ ∃ vs, Blk wr g 50 vs ∧ L.length * 64 ≤ vs.length)) (fun t _ => L.length - (intOf t).toNat)
              case atStart => exact ⟨0, by omega, rfl, hSf, hRf, hgf⟩
              case round =>
                obtain ⟨j, hj, rfl, hSj, hRj, hgj⟩ := hrel
                by_cases hjt : j < L.length
                · have hjl : (j : Int) < (L.length : Int) := by omega
                  obtain ⟨rfl, vs, hb, hvl⟩ := hgj (by omega)
                  have hcj := hb.cell (j := j * 64 + 32) (List.getElem?_eq_getElem (show j * 64 + 32 < vs.length by omega))
                  have hfj := hb.free (j * 64 + 32)
                  have hgr := set_grown wr g (j * 64 + 32) (.int .u8 77)
                  have hb2 := hb.set (j * 64 + 32) (.int .u8 77)
                  have hS2 := hSj.put hgr hb (Nat.le_trans hS3.bel.size hg1)
                  have hR2 := hRj.stay (W' := wr.setCell ⟨g, j * 64 + 32, none⟩ (.int .u8 77)) (fun b off e hlt _ _ => hgr.block b hlt (fun e' => by cases e'; have := hlow _ off e (by omega); omega))
                  generalize vs[j * 64 + 32]'(by omega) = vj at *
                  go_wp2_with fail
                  go_roundw
                  case rel => exact ⟨j + 1, by omega, by go_num, hS2, hR2, fun _ => ⟨by first | exact trivial | rfl, _, hb2, by rw [List.length_set]; exact hvl⟩⟩
                  case measure => simp [intOf]; omega
                · obtain rfl : j = L.length := by omega
                  have hjl : ¬ (L.length : Int) < (L.length : Int) := by omega
                  go_wp2_with fail
                  go_roundw
                  case rel => exact ⟨i + 1, aL, cL, L, by omega, by go_num, rfl, hRj, hSj.sm⟩
                  case measure => simp [intOf]; omega
          · obtain rfl : i = n' := by omega
            have hil : ¬ (i : Int) < (i : Int) := by omega
            go_wp2_with fail
            refine (GR.out _ hS.bel).mono ?_
            rintro e w2 ⟨rfl, hB2⟩
            go_wp2_with fail
            refine (WI.out _).mono ?_
            rintro e w3 ⟨rfl, rfl⟩
            go_wp2_with fail
            go_ret
            exact Yes5.mk (Bt hS.bel hB2)
end
end Go.Proofs.YtmfnpjfhijmboaaGreatDoor
