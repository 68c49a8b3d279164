/-
  Con05T Con05W Con05X, in one text.
-/
import Derived.Test.YtmfnpjfhijmboaaGreatDoorCon05B
import Derived.Test.YtmfnpjfhijmboaaGreatDoorCon04A
import Derived.Test.YtmfnpjfhijmboaaGreatDoorLibE
namespace Go.Proofs.YtmfnpjfhijmboaaGreatDoor
/-! The walks of package smt: bitIs1, New, single, joined, sides, has. (gen05C.py writes the regions that draw.) -/
section
open Go.RowKit

set_option maxRecDepth 100000 in
theorem bitIs1_any (w : World) (p : List UInt8) (hp : p.length = 32) (i : Nat) (hi : i < 256) :
    Calls Tryz.prog 44 #[.agg (bs p).toArray, .int .i64 (i : Int)] w fun e w' => e = .returned (.bool (bitAt p i == 1)) ∧ Below w.heap.size w w' := by
  have H5 := Lib.hid (show (Tryz.prog.info? 25).map (·.size) = some (bs p).length by rw [info_digest, bs_length, hp])
  have hb0 := Blk.new w 25 (bs p)
  have hB0 : Below w.heap.size w (w.alloc (.cells (bs p).toArray 25)) := (Below.refl _ w).alloc (Nat.le_refl _) _
  have HB := Lib.hid (fun W : World => bit_any W p hp i hi)
  have h2 : bitAt p i = 0 ∨ bitAt p i = 1 := by have := bitAt_lt p i; omega
  generalize bitAt p i = b at *
  go_enter Tryz.func44, Tryz.ntmps44
  go_wp2_with ((with_reducible refine wpList_loadB (o := ⟨some 8, _, _, _, _, _⟩) ?_ 25 (.tmp 2) ?_ ?_ hb0 Tryz.underlying25 ?_ H5.out ?_); rfl; rfl; rfl; rfl)
  generalize w.alloc _ = w0 at *
  refine (HB.out w0).mono ?_
  rintro e w1 ⟨rfl, hB1⟩
  have hC := Bt hB0 hB1
  rcases h2 with rfl | rfl
  · go_wp2_with fail
    go_ret
    exact ⟨rfl, hC⟩
  · go_wp2_with fail
    go_ret
    exact ⟨rfl, hC⟩

/-- a part of a block loaded, behind a guard that says yes -/
theorem wpList_loadG {w : World} {ops : Array Oper} {rest : List Oper} {o : Oper} {a : Act} {Q : Exit → Act → World → Prop} (hw : Region.wanted o (yielded ops a.tmps) = true) (b off : Nat) (ty : TypeId) (x : Operand) (ho : o.op = .load ty x)
    (hx : a.eval x = .pointer (some ⟨b, off, none⟩)) {cs : List Value} {d : TypeDesc} (hc : w.rangeAt b off cs) (hu : Tryz.prog.underlying ty = some d) (hd : d.isRow = true)
    (hi : (Tryz.prog.info? ty).map (·.size) = some cs.length)
    (h : wpList Tryz.prog ops Q rest (a.put o.dst (.agg cs.toArray)) w) : wpList Tryz.prog ops Q (o :: rest) a w :=
  wpList_step fun K hK => by
    rw [if_pos hw]
    exact wp_load_mid ty x ho b off hx cs d hc hu hd hi (hK _ _ h)

/-- no node is locked -/
def noL : Nat → Bool := fun _ => false
theorem built_node0 (x : Nat) : Tryz.prog.built 86 [(1, .int .i64 (x : Int))] = some (nc 0 0 zero32 x 0 none none none).toArray := by kernel_rfl
theorem built_node1 (x : Nat) (q : Option Addr) : Tryz.prog.built 86 [(1, .int .i64 (x : Int)), (2, .int .i64 1), (3, .pointer q)] = some (nc 0 0 zero32 x 1 q none none).toArray := by kernel_rfl
theorem built_node2 (x m : Nat) (p q : Option Addr) : Tryz.prog.built 86 [(1, .int .i64 (x : Int)), (2, .int .i64 (m : Int)), (4, .pointer p), (5, .pointer q)] = some (nc 0 0 zero32 x m none p q).toArray := by kernel_rfl
theorem built_tree (p q : Option Addr) : Tryz.prog.built 88 [(0, .pointer p), (1, .pointer q)] = some ([Value.pointer p, .pointer q]).toArray := by kernel_rfl

/-- a tree's own cells -/
structure Tr (base : Nat) (G : Tag) (W : World) (tp pn pt : Nat) (t : T) : Prop where
  blk : Blk W tp 88 [.pointer (some ⟨pn, 0, none⟩), .pointer (some ⟨pt, 0, none⟩)]
  low : base ≤ tp
  no : G pn = some .none
  top : G pt = some t
theorem Tr.c0 {base : Nat} {G : Tag} {W : World} {tp pn pt : Nat} {t : T} (h : Tr base G W tp pn pt t) : W.cell? ⟨tp, 0, none⟩ = some (.pointer (some ⟨pn, 0, none⟩)) := h.blk.cell rfl
theorem Tr.c1 {base : Nat} {G : Tag} {W : World} {tp pn pt : Nat} {t : T} (h : Tr base G W tp pn pt t) : W.cell? ⟨tp, 1, none⟩ = some (.pointer (some ⟨pt, 0, none⟩)) := h.blk.cell rfl
theorem Inv.tree {base x : Nat} {G : Tag} {L : Nat → Bool} {W : World} (h : Inv base x G L W) {g : Nat} {t : TypeId} {vs : List Value} (hb : Blk W g t vs) (ht : t ≠ 86) : G g = none := by
  cases e : G g with
  | none => rfl
  | some u =>
    obtain ⟨us, hu⟩ := h.blk e
    exact absurd (hb.kind hu).1 ht
theorem Tr.fr {base : Nat} {G G' : Tag} {W W' : World} {tp pn pt : Nat} {t : T} (h : Tr base G W tp pn pt t) (hf : Fr G W W') (hg : G tp = none) (hm : ∀ k t, G k = some t → G' k = some t) : Tr base G' W' tp pn pt t :=
  ⟨Blk.fr hf hg h.blk, h.low, hm _ _ h.no, hm _ _ h.top⟩

set_option maxRecDepth 100000 in
set_option maxHeartbeats 1000000 in
/-- New, of no width -/
theorem new_no (w : World) (x : Int) (hx : x < 0 ∨ 32 < x) :
    Calls Tryz.prog 9 #[.int .i64 x] w fun e w' => e = .returned (.tuple #[.pointer none, .int .i64 1]) ∧ w = w' := by
  have hd : (decide (0 ≤ x) && decide (x ≤ 32)) = false := by simp; omega
  go_enter Tryz.func9, Tryz.ntmps9
  go_wp2_with fail
  refine (swidth_any w x).mono ?_
  rintro e w2 ⟨rfl, rfl⟩
  rw [hd]
  go_wp2_with fail
  go_ret2
  exact ⟨rfl, rfl⟩

set_option maxRecDepth 100000 in
set_option maxHeartbeats 1000000 in
/-- New: a tree without leaves -/
theorem snew_any (w : World) (x : Nat) (hx : x ≤ 32) (base : Nat) (hb : base ≤ w.heap.size) (G : Tag) (hI : Inv base x G noL w) :
    Calls Tryz.prog 9 #[.int .i64 (x : Int)] w fun e w' => ∃ tp pn G', e = .returned (.tuple #[.pointer (some ⟨tp, 0, none⟩), .int .i64 0]) ∧ Tr base G' w' tp pn pn .none ∧ Inv base x G' noL w' ∧ More w.heap.size G G' ∧ w.heap.size ≤ tp ∧ Below w.heap.size w w' := by
  have hd : (decide (0 ≤ (x : Int)) && decide ((x : Int) ≤ 32)) = true := by simp; omega
  have B0 := Lib.hid (built_node0 x)
  have hb1 := Blk.new w 86 (nc 0 0 zero32 x 0 none none none)
  have hB1 : Below w.heap.size w (w.alloc (.cells (nc 0 0 zero32 x 0 none none none).toArray 86)) := (Below.refl _ w).alloc (Nat.le_refl _) _
  have hz1 : (w.alloc (.cells (nc 0 0 zero32 x 0 none none none).toArray 86)).heap.size = w.heap.size + 1 := by simp
  have hf := hI.free (p := w.heap.size) (Nat.le_refl _)
  have hI1 : Inv base x (G.add w.heap.size .none) noL (w.alloc (.cells (nc 0 0 zero32 x 0 none none none).toArray 86)) :=
    (hI.below hB1).add hf hb ⟨0, zero32, none, none, none, hb1, ⟨zero32_length, .inl rfl⟩, trivial⟩
  have hm := Tag.add_more (G := G) (n := w.heap.size) T.none hf (Nat.le_refl _)
  have BT := Lib.hid (built_tree (some ⟨w.heap.size, 0, none⟩) (some ⟨w.heap.size, 0, none⟩))
  generalize hNC : nc 0 0 zero32 x 0 none none none = N at *
  have HN := Lib.hid hNC
  clear hNC
  go_enter Tryz.func9, Tryz.ntmps9
  go_wp2_with fail
  refine (swidth_any w x).mono ?_
  rintro e w2 ⟨rfl, rfl⟩
  rw [hd]
  go_wp2_with (first | ((with_reducible refine wpList_buildI (dst := some 9) B0.out ?_ ?_); rfl) | ((with_reducible refine wpList_buildI (dst := some 13) BT.out ?_ ?_); rfl))
  go_ret2
  have hb2 := Blk.new (w.alloc (.cells N.toArray 86)) 88 [.pointer (some ⟨w.heap.size, 0, none⟩), .pointer (some ⟨w.heap.size, 0, none⟩)]
  have hB2 : Below (w.alloc (.cells N.toArray 86)).heap.size (w.alloc (.cells N.toArray 86)) ((w.alloc (.cells N.toArray 86)).alloc (.cells [Value.pointer (some ⟨w.heap.size, 0, none⟩), .pointer (some ⟨w.heap.size, 0, none⟩)].toArray 88)) := (Below.refl _ _).alloc (Nat.le_refl _) _
  refine ⟨_, w.heap.size, G.add w.heap.size .none, rfl, ⟨?_, ?_, Tag.add_same _ _ _, Tag.add_same _ _ _⟩, hI1.below hB2, hm, ?_, Bt hB1 hB2⟩
  · rw [← hz1]; exact hb2
  · omega
  · omega


set_option maxRecDepth 100000 in
set_option maxHeartbeats 1000000 in
theorem single_any (w : World) (base x : Nat) (hb : base ≤ w.heap.size) (G : Tag) (hI : Inv base x G noL w) (tp pn : Nat) (hc : w.cell? ⟨tp, 0, none⟩ = some (.pointer (some ⟨pn, 0, none⟩))) (hn : G pn = some .none) (y : Lf) :
    Calls Tryz.prog 67 #[.pointer (some ⟨tp, 0, none⟩), .agg (lc y).toArray] w fun e w' => ∃ p, e = .returned (.pointer (some ⟨p, 0, none⟩)) ∧ Inv base x (G.add p (.one y)) noL w' ∧ w.heap.size ≤ p ∧ Below w.heap.size w w' := by
  obtain ⟨dn, sum, lf, le, ri, hN⟩ := hI.nd hn
  have hb1 := Blk.new w 50 (lc y)
  have hB1 : Below w.heap.size w (w.alloc (.cells (lc y).toArray 50)) := (Below.refl _ w).alloc (Nat.le_refl _) _
  have hz1 : (w.alloc (.cells (lc y).toArray 50)).heap.size = w.heap.size + 1 := by simp
  have c0 := cell_later hB1 hc
  have c1 := cell_later hB1 hN.width
  have BN := Lib.hid (built_node1 x (some ⟨w.heap.size, 0, none⟩))
  have hI1 := hI.below hB1
  have hb2 := Blk.new (w.alloc (.cells (lc y).toArray 50)) 86 (nc 0 0 zero32 x 1 (some ⟨w.heap.size, 0, none⟩) none none)
  have hB2 : Below (w.alloc (.cells (lc y).toArray 50)).heap.size (w.alloc (.cells (lc y).toArray 50)) ((w.alloc (.cells (lc y).toArray 50)).alloc (.cells (nc 0 0 zero32 x 1 (some ⟨w.heap.size, 0, none⟩) none none).toArray 86)) := (Below.refl _ _).alloc (Nat.le_refl _) _
  have hI2 := (hI1.below hB2).add (p := w.heap.size + 1) (t := .one y) (hI.free (by omega)) (by omega) ⟨0, zero32, some ⟨w.heap.size, 0, none⟩, none, none, by rw [← hz1]; exact hb2, ⟨zero32_length, .inl rfl⟩, w.heap.size, rfl, hb, hb1.below hB2⟩
  have HX := Lib.hid (And.intro hI2 (Bt hB1 hB2))
  clear hI2 hB2 hb2 hI1
  generalize nc 0 0 zero32 x 1 (some ⟨w.heap.size, 0, none⟩) none none = N at *
  go_enter Tryz.func67, Tryz.ntmps67
  go_wp2_with ((with_reducible refine wpList_buildI (dst := some 12) BN.out ?_ ?_); rfl)
  go_ret
  exact ⟨w.heap.size + 1, rfl, HX.out.1, by omega, HX.out.2⟩

theorem lens_int {l r : T} (h : l.lvs.length + r.lvs.length ≤ 1000000) : IntKind.i64.wrap ((l.lvs.length : Int) + (r.lvs.length : Int)) = ((l.lvs.length + r.lvs.length : Nat) : Int) := by
  rw [IntKind.wrap_i64]; omega

set_option maxRecDepth 100000 in
set_option maxHeartbeats 1000000 in
theorem joined_any (w : World) (base x : Nat) (hb : base ≤ w.heap.size) (G : Tag) (hI : Inv base x G noL w) (tp pn : Nat) (hc : w.cell? ⟨tp, 0, none⟩ = some (.pointer (some ⟨pn, 0, none⟩))) (hn : G pn = some .none) (p q : Nat) (l r : T) (hp : G p = some l) (hq : G q = some r)
    (hsz : l.lvs.length + r.lvs.length ≤ 1000000) :
    Calls Tryz.prog 71 #[.pointer (some ⟨tp, 0, none⟩), .pointer (some ⟨p, 0, none⟩), .pointer (some ⟨q, 0, none⟩)] w fun e w' => ∃ s G', e = .returned (.pointer (some ⟨s, 0, none⟩)) ∧ G' s = some (T.joined l r) ∧ Inv base x G' noL w' ∧ More w.heap.size G G' ∧ Below w.heap.size w w' := by
  obtain ⟨dn, sum, lf, le, ri, hN⟩ := hI.nd hn
  obtain ⟨dn1, sum1, lf1, le1, ri1, hP⟩ := hI.nd hp
  obtain ⟨dn2, sum2, lf2, le2, ri2, hQ⟩ := hI.nd hq
  have c1 := hN.width
  have c2 := hP.size
  have c3 := hQ.size
  have hw := lens_int hsz
  have hJ : T.joined l r = if 1 < l.lvs.length + r.lvs.length then .two l r else if l.lvs.length = 1 then l else r := rfl
  have HJ := Lib.hid hJ
  clear hJ
  generalize hm : l.lvs.length = m at *
  generalize hk : r.lvs.length = k at *
  have HM := Lib.hid hm
  have HK := Lib.hid hk
  clear hm hk
  generalize hs : m + k = s at *
  have HS := Lib.hid hs
  clear hs
  by_cases h1 : 1 < s
  · have h1' : (1 : Int) < (s : Int) := by omega
    have BN := Lib.hid (built_node2 x s (some ⟨p, 0, none⟩) (some ⟨q, 0, none⟩))
    have FI := Lib.hid (fun (W : World) (h : Below w.heap.size w W) => (show Inv base x (G.add W.heap.size (.two l r)) noL (W.alloc (.cells (nc 0 0 zero32 x s none (some ⟨p, 0, none⟩) (some ⟨q, 0, none⟩)).toArray 86)) from by
      have hI1 := hI.below h
      have hB2 : Below W.heap.size W (W.alloc (.cells (nc 0 0 zero32 x s none (some ⟨p, 0, none⟩) (some ⟨q, 0, none⟩)).toArray 86)) := (Below.refl _ W).alloc (Nat.le_refl _) _
      refine (hI1.below hB2).add (hI1.free (Nat.le_refl _)) (by have := h.size; omega) ⟨0, zero32, none, some ⟨p, 0, none⟩, some ⟨q, 0, none⟩, ?_, ⟨zero32_length, .inl rfl⟩, p, q, rfl, rfl, hp, hq⟩
      have hl : (T.two l r).lvs.length = s := by rw [← HS.out, ← HM.out, ← HK.out]; simp [T.lvs]
      rw [hl]
      exact Blk.new W 86 _))
    generalize nc 0 0 zero32 x s none (some ⟨p, 0, none⟩) (some ⟨q, 0, none⟩) = N at *
    go_enter Tryz.func71, Tryz.ntmps71
    go_wp2_with fail
    go_quiet (fail)
    go_wp2_with ((with_reducible refine wpList_buildI (dst := some 29) BN.out ?_ ?_); rfl)
    go_ret
    have hB : Below w.heap.size w (w.drewN nq) := ⟨rfl, rfl, rfl, Nat.le_refl _, fun _ _ => rfl⟩
    exact ⟨w.heap.size, G.add w.heap.size (.two l r), rfl, by rw [Tag.add_same, HJ.out, if_pos h1], FI.out _ hB, Tag.add_more _ (hI.free (Nat.le_refl _)) (Nat.le_refl _), hB.alloc (Nat.le_refl _) _⟩
  · have h1' : ¬ (1 : Int) < (s : Int) := by omega
    by_cases h2 : m = 1
    · subst h2
      obtain rfl : k = 0 := by have := HS.out; omega
      obtain rfl : s = 1 := HS.out.symm
      clear hw h1'
      go_enter Tryz.func71, Tryz.ntmps71
      go_wp2_with fail
      go_quiet (fail)
      go_wp2_with fail
      go_ret
      have hB : Below w.heap.size w (w.drewN nq) := ⟨rfl, rfl, rfl, Nat.le_refl _, fun _ _ => rfl⟩
      exact ⟨p, G, rfl, by rw [HJ.out]; simpa using hp, hI.below hB, More.refl _ _, hB⟩
    · have h2' : ¬ (m : Int) = 1 := by omega
      go_enter Tryz.func71, Tryz.ntmps71
      go_wp2_with fail
      go_quiet (fail)
      go_wp2_with fail
      go_ret
      have hB : Below w.heap.size w (w.drewN nq) := ⟨rfl, rfl, rfl, Nat.le_refl _, fun _ _ => rfl⟩
      exact ⟨q, G, rfl, by rw [HJ.out, if_neg h1, if_neg h2]; exact hq, hI.below hB, More.refl _ _, hB⟩

set_option maxRecDepth 100000 in
set_option maxHeartbeats 1000000 in
theorem sides_any (w : World) (base x : Nat) (G : Tag) (hI : Inv base x G noL w) (tp pn : Nat) (hc : w.cell? ⟨tp, 0, none⟩ = some (.pointer (some ⟨pn, 0, none⟩))) (hn : G pn = some .none) (p : Nat) (t : T) (hp : G p = some t) (n : Nat) (ht : t.wf n) (hn256 : n < 256) :
    Calls Tryz.prog 68 #[.pointer (some ⟨tp, 0, none⟩), .pointer (some ⟨p, 0, none⟩), .int .i64 (n : Int)] w fun e w' => ∃ l r, e = .returned (.tuple #[.pointer (some ⟨l, 0, none⟩), .pointer (some ⟨r, 0, none⟩)]) ∧ G l = some (t.left n) ∧ G r = some (t.right n) ∧ Below w.heap.size w w' := by
  obtain ⟨dn1, sum1, lf1, le1, ri1, hP⟩ := hI.nd hp
  have c2 := hP.size
  have c3 := hP.leaf
  have c4 := hP.left
  have c5 := hP.right
  have hk := hP.kids
  cases t with
  | none =>
    have c6 : w.cell? ⟨p, 36, none⟩ = some (.int .i64 0) := c2
    clear c2
    go_enter Tryz.func68, Tryz.ntmps68
    go_wp2_with fail
    go_quiet (fail)
    go_wp2_with fail
    go_ret2
    exact ⟨p, pn, rfl, hp, hn, ⟨rfl, rfl, rfl, Nat.le_refl _, fun _ _ => rfl⟩⟩
  | one y =>
    have c6 : w.cell? ⟨p, 36, none⟩ = some (.int .i64 1) := c2
    clear c2
    obtain ⟨q, rfl, hq2, hq3⟩ := hk
    have hr := hq3.range 0 (cs := bs y.path) (fun j hj => by rw [Nat.zero_add, lc, List.getElem?_append_left hj])
    have H5 := Lib.hid (show (Tryz.prog.info? 25).map (·.size) = some (bs y.path).length by rw [info_digest, bs_length, ht.1])
    have HB := Lib.hid (fun W : World => bitIs1_any W y.path ht.1 n hn256)
    have HL : T.left (.one y) n = if bitAt y.path n = 1 then .none else .one y := rfl
    have HR : T.right (.one y) n = if bitAt y.path n = 1 then .one y else .none := rfl
    by_cases hbit : bitAt y.path n = 1
    · rw [show (bitAt y.path n == 1) = true by simp [hbit]] at HB
      rw [if_pos hbit] at HL HR
      have HLR := Lib.hid (And.intro HL HR)
      clear HL HR hbit
      go_enter Tryz.func68, Tryz.ntmps68
      go_wp2_with ((with_reducible refine wpList_loadG (o := ⟨some 35, _, _, _, _, _⟩) ?_ q 0 25 (.tmp 34) ?_ ?_ hr Tryz.underlying25 ?_ H5.out ?_); rfl; rfl; rfl; rfl)
      refine (HB.out w).mono ?_
      rintro e w1 ⟨rfl, hB1⟩
      have d0 := cell_later hB1 hc
      go_wp2_with fail
      go_ret2
      exact ⟨pn, p, rfl, by rw [HLR.out.1]; exact hn, by rw [HLR.out.2]; exact hp, hB1⟩
    · rw [show (bitAt y.path n == 1) = false by simp [hbit]] at HB
      rw [if_neg hbit] at HL HR
      have HLR := Lib.hid (And.intro HL HR)
      clear HL HR hbit
      go_enter Tryz.func68, Tryz.ntmps68
      go_wp2_with ((with_reducible refine wpList_loadG (o := ⟨some 35, _, _, _, _, _⟩) ?_ q 0 25 (.tmp 34) ?_ ?_ hr Tryz.underlying25 ?_ H5.out ?_); rfl; rfl; rfl; rfl)
      refine (HB.out w).mono ?_
      rintro e w1 ⟨rfl, hB1⟩
      have d0 := cell_later hB1 hc
      go_wp2_with fail
      go_quiet (fail)
      go_wp2_with fail
      go_ret2
      exact ⟨p, pn, rfl, by rw [HLR.out.1]; exact hp, by rw [HLR.out.2]; exact hn, Bt hB1 ⟨rfl, rfl, rfl, Nat.le_refl _, fun _ _ => rfl⟩⟩
  | two l r =>
    have hm2 := T.size_two ht
    generalize (T.two l r).lvs.length = m at *
    obtain ⟨pl, pr, rfl, rfl, hpl, hpr⟩ := hk
    have h1 : (1 : Int) < (m : Int) := by omega
    go_enter Tryz.func68, Tryz.ntmps68
    go_wp2_with fail
    go_quiet (fail)
    go_wp2_with fail
    go_ret2
    exact ⟨pl, pr, rfl, hpl, hpr, ⟨rfl, rfl, rfl, Nat.le_refl _, fun _ _ => rfl⟩⟩

def T.hasB : T → List UInt8 → Bool
  | .one y, d => y.path == d
  | _, _ => false
/-- what has knows of a world -/
structure HasAt (w W : World) (p q : Nat) (y : Lf) (d : List UInt8) : Prop where
  size : W.cell? ⟨p, 36, none⟩ = some (.int .i64 1)
  ptr : W.cell? ⟨p, 37, none⟩ = some (.pointer (some ⟨q, 0, none⟩))
  leaf : Blk W q 50 (lc y)
  box : Blk W w.heap.size 25 (bs d)
  bel : Below w.heap.size w W
theorem HasAt.drew {w W : World} {p q : Nat} {y : Lf} {d : List UInt8} (h : HasAt w W p q y d) : HasAt w W.drew p q y d := ⟨h.size, h.ptr, h.leaf.drew, h.box.drew, h.bel.drew⟩

set_option maxRecDepth 100000 in
set_option maxHeartbeats 1000000 in
theorem has_any (w : World) (base x : Nat) (G : Tag) (hI : Inv base x G noL w) (p : Nat) (t : T) (hp : G p = some t) (n : Nat) (ht : t.wf n) (d : List UInt8) (hd : d.length = 32) :
    Calls Tryz.prog 45 #[.pointer (some ⟨p, 0, none⟩), .agg (bs d).toArray] w fun e w' => e = .returned (.bool (t.hasB d)) ∧ Below w.heap.size w w' := by
  obtain ⟨dn1, sum1, lf1, le1, ri1, hP⟩ := hI.nd hp
  have hB0 : Below w.heap.size w (w.alloc (.cells (bs d).toArray 25)) := (Below.refl _ w).alloc (Nat.le_refl _) _
  have c2 := cell_later hB0 hP.size
  have hk := hP.kids
  cases t with
  | none =>
    have c6 : (w.alloc (.cells (bs d).toArray 25)).cell? ⟨p, 36, none⟩ = some (.int .i64 0) := c2
    clear c2
    go_enter Tryz.func45, Tryz.ntmps45
    go_wp2_with fail
    go_quiet (fail)
    go_wp2_with fail
    go_ret
    exact ⟨rfl, Bt hB0 ⟨rfl, rfl, rfl, Nat.le_refl _, fun _ _ => rfl⟩⟩
  | one y =>
    obtain ⟨q, rfl, hq2, hq3⟩ := hk
    have hS : HasAt w (w.alloc (.cells (bs d).toArray 25)) p q y d := ⟨c2, cell_later hB0 hP.leaf, hq3.alloc _, Blk.new w _ _, hB0⟩
    have H5 := Lib.hid (show (Tryz.prog.info? 25).map (·.size) = some (bs y.path).length by rw [info_digest, bs_length, ht.1])
    have H6 := Lib.hid (show (Tryz.prog.info? 25).map (·.size) = some (bs d).length by rw [info_digest, bs_length, hd])
    have EQ := Lib.hid (show ∀ W : World, (binOp .eql 25 (.agg (bs y.path).toArray) (.agg (bs d).toArray)).run Tryz.prog W = .ok (.bool (y.path == d)) W from fun W => eqD W _ _ ht.1 hd)
    have hr : T.hasB (.one y) d = (y.path == d) := rfl
    rw [hr]
    generalize (y.path == d) = b at *
    clear c2 hr hP hB0
    go_enter Tryz.func45, Tryz.ntmps45
    go_wp2_with fail
    -- REGION has 4
    refine wp_region_held_drew (S := fun W => HasAt w W p q y d) (by kernel_rfl) hS.drew (fun hHeld => ?_)
    refine wpAnyH_take (i := 0) (oi := ⟨some 5, .move (.tmp 0), _, _, _, none⟩) (v := ?_) rfl (by kernel_rfl) (by kernel_rfl) (by kernel_rfl) (fun _ _ _ h => h) (Or.inl ⟨by rfl, ?_⟩) hHeld ?_
    rotate_left
    · intro W _; go_simp; try with_reducible rfl
    try simp only [Act.put, List.setIfInBounds_toArray, List.set_cons_zero, List.set_cons_succ]
    refine wpAnyH_take (i := 1) (oi := ⟨some 6, .nilCheck (.tmp 5), _, _, _, none⟩) (v := ?_) rfl (by kernel_rfl) (by kernel_rfl) (by kernel_rfl) (fun _ _ _ h => h) (Or.inl ⟨by rfl, ?_⟩) hHeld ?_
    rotate_left
    · intro W _; go_simp; try with_reducible rfl
    try simp only [Act.put, List.setIfInBounds_toArray, List.set_cons_zero, List.set_cons_succ]
    refine wpAnyH_take (i := 2) (oi := ⟨some 7, .fieldAddr 86 (.tmp 6) 2, _, _, _, none⟩) (v := ?_) rfl (by kernel_rfl) (by kernel_rfl) (by kernel_rfl) (fun _ _ _ h => h) (Or.inl ⟨by rfl, ?_⟩) hHeld ?_
    rotate_left
    · intro W _; go_simp; try with_reducible rfl
    try simp only [Act.put, List.setIfInBounds_toArray, List.set_cons_zero, List.set_cons_succ]
    refine wpAnyH_take (i := 3) (oi := ⟨some 8, .load 3 (.tmp 7), _, _, _, none⟩) (v := ?_) rfl (by kernel_rfl) (by kernel_rfl) (by kernel_rfl) (fun _ _ _ h => h) (Or.inl ⟨by rfl, ?_⟩) hHeld ?_
    rotate_left
    · intro W hS; have h0 := hS.size; go_simp; try with_reducible rfl
    try simp only [Act.put, List.setIfInBounds_toArray, List.set_cons_zero, List.set_cons_succ]
    refine wpAnyH_take (i := 4) (oi := ⟨some 9, .binOp .eql 3 (.tmp 8) (.const (.int .i64 1)) 3, _, _, _, none⟩) (v := ?_) rfl (by kernel_rfl) (by kernel_rfl) (by kernel_rfl) (fun _ _ _ h => h) (Or.inl ⟨by rfl, ?_⟩) hHeld ?_
    rotate_left
    · intro W _; go_simp; try with_reducible rfl
    try simp only [Act.put, List.setIfInBounds_toArray, List.set_cons_zero, List.set_cons_succ]
    refine wpAnyH_take (i := 5) (oi := ⟨some 10, .move (.tmp 9), _, _, _, none⟩) (v := ?_) rfl (by kernel_rfl) (by kernel_rfl) (by kernel_rfl) (fun _ _ _ h => h) (Or.inl ⟨by rfl, ?_⟩) hHeld ?_
    rotate_left
    · intro W _; go_simp; try with_reducible rfl
    try simp only [Act.put, List.setIfInBounds_toArray, List.set_cons_zero, List.set_cons_succ]
    refine wpAnyH_take (i := 6) (oi := ⟨some 11, .move (.tmp 0), _, _, _, some (5, true)⟩) (v := ?_) rfl (by kernel_rfl) (by kernel_rfl) (by kernel_rfl) (fun _ _ _ h => h) (Or.inl ⟨by rfl, ?_⟩) hHeld ?_
    rotate_left
    · intro W _; go_simp; try with_reducible rfl
    try simp only [Act.put, List.setIfInBounds_toArray, List.set_cons_zero, List.set_cons_succ]
    refine wpAnyH_take (i := 7) (oi := ⟨some 12, .nilCheck (.tmp 11), _, _, _, some (5, true)⟩) (v := ?_) rfl (by kernel_rfl) (by kernel_rfl) (by kernel_rfl) (fun _ _ _ h => h) (Or.inl ⟨by rfl, ?_⟩) hHeld ?_
    rotate_left
    · intro W _; go_simp; try with_reducible rfl
    try simp only [Act.put, List.setIfInBounds_toArray, List.set_cons_zero, List.set_cons_succ]
    refine wpAnyH_take (i := 8) (oi := ⟨some 13, .fieldAddr 86 (.tmp 12) 3, _, _, _, some (5, true)⟩) (v := ?_) rfl (by kernel_rfl) (by kernel_rfl) (by kernel_rfl) (fun _ _ _ h => h) (Or.inl ⟨by rfl, ?_⟩) hHeld ?_
    rotate_left
    · intro W _; go_simp; try with_reducible rfl
    try simp only [Act.put, List.setIfInBounds_toArray, List.set_cons_zero, List.set_cons_succ]
    refine wpAnyH_take (i := 9) (oi := ⟨some 14, .load 84 (.tmp 13), _, _, _, some (5, true)⟩) (v := ?_) rfl (by kernel_rfl) (by kernel_rfl) (by kernel_rfl) (fun _ _ _ h => h) (Or.inl ⟨by rfl, ?_⟩) hHeld ?_
    rotate_left
    · intro W hS; have h0 := hS.ptr; go_simp; try with_reducible rfl
    try simp only [Act.put, List.setIfInBounds_toArray, List.set_cons_zero, List.set_cons_succ]
    refine wpAnyH_take (i := 10) (oi := ⟨some 15, .nilCheck (.tmp 14), _, _, _, some (5, true)⟩) (v := ?_) rfl (by kernel_rfl) (by kernel_rfl) (by kernel_rfl) (fun _ _ _ h => h) (Or.inl ⟨by rfl, ?_⟩) hHeld ?_
    rotate_left
    · intro W _; go_simp; try with_reducible rfl
    try simp only [Act.put, List.setIfInBounds_toArray, List.set_cons_zero, List.set_cons_succ]
    refine wpAnyH_take (i := 11) (oi := ⟨some 16, .fieldAddr 50 (.tmp 15) 0, _, _, _, some (5, true)⟩) (v := ?_) rfl (by kernel_rfl) (by kernel_rfl) (by kernel_rfl) (fun _ _ _ h => h) (Or.inl ⟨by rfl, ?_⟩) hHeld ?_
    rotate_left
    · intro W _; go_simp; try with_reducible rfl
    try simp only [Act.put, List.setIfInBounds_toArray, List.set_cons_zero, List.set_cons_succ]
    refine wpAnyH_take (i := 12) (oi := ⟨some 17, .load 25 (.tmp 16), _, _, _, some (5, true)⟩) (v := .agg (bs y.path).toArray) rfl (by kernel_rfl) (by kernel_rfl) (by kernel_rfl) (fun _ _ _ h => h) (yieldsIf_load_mid (by rfl) _ _ rfl q 0 rfl (bs y.path) _ (fun W h => (h.leaf.range 0 (fun j hj => by rw [Nat.zero_add, lc, List.getElem?_append_left hj]))) Tryz.underlying25 rfl H5.out) hHeld ?_
    try simp only [Act.put, List.setIfInBounds_toArray, List.set_cons_zero, List.set_cons_succ]
    refine wpAnyH_take (i := 13) (oi := ⟨some 18, .load 25 (.tmp 3), _, _, _, some (5, true)⟩) (v := .agg (bs d).toArray) rfl (by kernel_rfl) (by kernel_rfl) (by kernel_rfl) (fun _ _ _ h => h) (yieldsIf_load_mid (by rfl) _ _ rfl w.heap.size 0 rfl (bs d) _ (fun W h => h.box.allR) Tryz.underlying25 rfl H6.out) hHeld ?_
    try simp only [Act.put, List.setIfInBounds_toArray, List.set_cons_zero, List.set_cons_succ]
    refine wpAnyH_take (i := 14) (oi := ⟨some 19, .binOp .eql 25 (.tmp 17) (.tmp 18) 25, _, _, _, some (5, true)⟩) (v := .bool b) rfl (by kernel_rfl) (by kernel_rfl) (by kernel_rfl) (fun _ _ _ h => h) (yieldsIf_eqE (by rfl) .eql 25 25 (.tmp 17) (.tmp 18) rfl _ _ rfl rfl guardR _ EQ.out) hHeld ?_
    try simp only [Act.put, List.setIfInBounds_toArray, List.set_cons_zero, List.set_cons_succ]
    refine wpAnyH_take (i := 15) (oi := ⟨some 20, .pick (.tmp 10) (.tmp 19) (.const (.bool false)), _, _, _, none⟩) (v := ?_) rfl (by kernel_rfl) (by kernel_rfl) (by kernel_rfl) (fun _ _ _ h => h) (Or.inl ⟨by rfl, ?_⟩) hHeld ?_
    rotate_left
    · intro W _; go_simp; try with_reducible rfl
    try simp only [Act.put, List.setIfInBounds_toArray, List.set_cons_zero, List.set_cons_succ]
    refine wpAnyH_ready (rs := [16]) (by kernel_rfl) (by simp) ?_
    refine AllReadyH.cons (o := ⟨some 4, .assign (.tmp 20), _, _, _, none⟩) rfl (fun K hK => ?_) AllReadyH.nil
    refine step_ofR (by rfl) ?_
    go_simp
    refine hK.out _ _ (hHeld) (fun hHeld => ?_)
    clear hK K
    try simp only [Act.put, List.setIfInBounds_toArray, List.set_cons_zero, List.set_cons_succ]
    refine wpAnyH_done (by kernel_rfl) ?_ _
    -- END has
    go_wp2_with fail
    go_ret
    exact ⟨rfl, hHeld.bel⟩
  | two l r =>
    have hm2 := T.size_two ht
    have hr : T.hasB (.two l r) d = false := rfl
    rw [hr]
    generalize (T.two l r).lvs.length = m at *
    have h1 : ¬ (m : Int) = 1 := by omega
    go_enter Tryz.func45, Tryz.ntmps45
    go_wp2_with fail
    go_quiet (fail)
    go_wp2_with fail
    go_ret
    exact ⟨rfl, Bt hB0 ⟨rfl, rfl, rfl, Nat.le_refl _, fun _ _ => rfl⟩⟩
end
/-! The walks of package smt: the function that with hands to Search; of the library: Search. (gen05C.py writes the regions that draw.) -/
section
open Go.RowKit

/-- what the function knows of a world: its two variables, the path at the place -/
structure PickAt (W : World) (b6 b7 bl off m c i d : Nat) (y : Lf) : Prop where
  row : W.cell? ⟨b6, 0, none⟩ = some (.slice (some ⟨bl, off, none⟩) m c)
  dep : W.cell? ⟨b7, 0, none⟩ = some (.int .i64 (d : Int))
  rng : W.rangeAt bl (off + i * 64) (bs y.path)
theorem PickAt.below {W W' : World} {b6 b7 bl off m c i d : Nat} {y : Lf} (h : PickAt W b6 b7 bl off m c i d y) (hb : Below W.heap.size W W') : PickAt W' b6 b7 bl off m c i d y :=
  ⟨cell_later hb h.row, cell_later hb h.dep, rangeAt_below hb h.rng⟩
theorem PickAt.drew {W : World} {b6 b7 bl off m c i d : Nat} {y : Lf} (h : PickAt W b6 b7 bl off m c i d y) : PickAt W.drew b6 b7 bl off m c i d y := ⟨h.row, h.dep, h.rng⟩

set_option maxRecDepth 100000 in
set_option maxHeartbeats 1000000 in
theorem pick_any (w : World) (b6 b7 bl off m c i d : Nat) (y : Lf) (hy : y.ok) (hS : PickAt w b6 b7 bl off m c i d y) (hi : i < m) (hd : d < 256) :
    Calls Tryz.prog 70 #[.int .i64 (i : Int), .pointer (some ⟨b6, 0, none⟩), .pointer (some ⟨b7, 0, none⟩)] w fun e w' => e = .returned (.bool (bitAt y.path d == 1)) ∧ Below w.heap.size w w' := by
  have H5 := Lib.hid (show (Tryz.prog.info? 25).map (·.size) = some (bs y.path).length by rw [info_digest, bs_length, hy.1])
  have HB := Lib.hid (fun W : World => bitIs1_any W y.path hy.1 d hd)
  have hi' : (i : Int) < (m : Int) := by omega
  generalize (bitAt y.path d == 1) = b at *
  go_enter Tryz.func70, Tryz.ntmps70
  go_wp2_with fail
  -- REGION pick 2
  refine wp_region_held_drew (S := fun W => PickAt W b6 b7 bl off m c i d y) (by kernel_rfl) hS.drew (fun hHeld => ?_)
  refine wpAnyH_take (i := 0) (oi := ⟨some 5, .load 23 (.tmp 1), _, _, _, none⟩) (v := ?_) rfl (by kernel_rfl) (by kernel_rfl) (by kernel_rfl) (fun _ _ _ h => h) (Or.inl ⟨by rfl, ?_⟩) hHeld ?_
  rotate_left
  · intro W hS; have h0 := hS.row; go_simp; try with_reducible rfl
  try simp only [Act.put, List.setIfInBounds_toArray, List.set_cons_zero, List.set_cons_succ]
  refine wpAnyH_take (i := 1) (oi := ⟨some 6, .move (.tmp 0), _, _, _, none⟩) (v := ?_) rfl (by kernel_rfl) (by kernel_rfl) (by kernel_rfl) (fun _ _ _ h => h) (Or.inl ⟨by rfl, ?_⟩) hHeld ?_
  rotate_left
  · intro W _; go_simp; try with_reducible rfl
  try simp only [Act.put, List.setIfInBounds_toArray, List.set_cons_zero, List.set_cons_succ]
  refine wpAnyH_take (i := 2) (oi := ⟨some 7, .indexAddr 23 (.tmp 5) (.tmp 6), _, _, _, none⟩) (v := ?_) rfl (by kernel_rfl) (by kernel_rfl) (by kernel_rfl) (fun _ _ _ h => h) (Or.inl ⟨by rfl, ?_⟩) hHeld ?_
  rotate_left
  · intro W _; go_simp; try with_reducible rfl
  try simp only [Act.put, List.setIfInBounds_toArray, List.set_cons_zero, List.set_cons_succ]
  refine wpAnyH_take (i := 3) (oi := ⟨some 8, .fieldAddr 50 (.tmp 7) 0, _, _, _, none⟩) (v := ?_) rfl (by kernel_rfl) (by kernel_rfl) (by kernel_rfl) (fun _ _ _ h => h) (Or.inl ⟨by rfl, ?_⟩) hHeld ?_
  rotate_left
  · intro W _; go_simp; try with_reducible rfl
  try simp only [Act.put, List.setIfInBounds_toArray, List.set_cons_zero, List.set_cons_succ]
  refine wpAnyH_take (i := 4) (oi := ⟨some 9, .load 25 (.tmp 8), _, _, _, none⟩) (v := .agg (bs y.path).toArray) rfl (by kernel_rfl) (by kernel_rfl) (by kernel_rfl) (fun _ _ _ h => h) (yieldsIf_load_mid (by rfl) _ _ rfl bl (off + i * 64) rfl (bs y.path) _ (fun W h => h.rng) Tryz.underlying25 rfl H5.out) hHeld ?_
  try simp only [Act.put, List.setIfInBounds_toArray, List.set_cons_zero, List.set_cons_succ]
  refine wpAnyH_take (i := 5) (oi := ⟨some 10, .load 3 (.tmp 2), _, _, _, none⟩) (v := ?_) rfl (by kernel_rfl) (by kernel_rfl) (by kernel_rfl) (fun _ _ _ h => h) (Or.inl ⟨by rfl, ?_⟩) hHeld ?_
  rotate_left
  · intro W hS; have h0 := hS.dep; go_simp; try with_reducible rfl
  try simp only [Act.put, List.setIfInBounds_toArray, List.set_cons_zero, List.set_cons_succ]
  refine wpAnyH_ready (rs := [6]) (by kernel_rfl) (by simp) ?_
  refine AllReadyH.cons (o := ⟨some 11, .call { callee := .value (.func 44), args := #[.tmp 9, .tmp 10], argTypes := #[25, 3] }, _, _, _, none⟩) rfl (fun K hK => ?_) AllReadyH.nil
  refine step_ofR (by rfl) ?_
  go_simp
  refine (HB.out _).mono ?_
  rintro x W1 ⟨rfl, hb1⟩
  refine hK.out _ _ (hHeld.below hb1) (fun hHeld => ?_)
  clear hK K
  try simp only [Act.put, List.setIfInBounds_toArray, List.set_cons_zero, List.set_cons_succ]
  refine wpAnyH_ready (rs := [7]) (by kernel_rfl) (by simp) ?_
  refine AllReadyH.cons (o := ⟨some 4, .assign (.tmp 11), _, _, _, none⟩) rfl (fun K hK => ?_) AllReadyH.nil
  refine step_ofR (by rfl) ?_
  go_simp
  refine hK.out _ _ (hHeld) (fun hHeld => ?_)
  clear hK K
  try simp only [Act.put, List.setIfInBounds_toArray, List.set_cons_zero, List.set_cons_succ]
  refine wpAnyH_done (by kernel_rfl) ?_ _
  -- END pick
  go_wp2_with fail
  go_ret
  exact ⟨rfl, Bt (below_drew (Below.refl _ _)) hb1⟩

set_option maxRecDepth 100000 in
set_option maxHeartbeats 1000000 in
/-- Search: the first place at which the function says yes -/
theorem search_any (g : Nat) (cb : Array Value) (n c : Nat) (p : Nat → Bool) (w : World) (hn : n ≤ 1000000)
    (hf : ∀ W i, Below w.heap.size w W → i < n → Calls Tryz.prog g (#[.int .i64 (i : Int)] ++ cb) W fun e w' => e = .returned (.bool (p i)) ∧ Below W.heap.size W w')
    (eg : ∀ args w, (callFunc g args).run Tryz.prog w = .ok (.enter g args) w) (hc : c ≤ n) (h1 : ∀ t, t < c → p t = false) (h2 : ∀ t, c ≤ t → t < n → p t = true) :
    Calls Tryz.prog 69 #[.int .i64 (n : Int), .func (.func g) #[] cb] w fun e w' => e = .returned (.int .i64 (c : Int)) ∧ Below w.heap.size w w' := by
  have HF := Lib.hid hf
  have H1 := Lib.hid h1
  have H2 := Lib.hid h2
  have hnot : ∀ (x : Bool) (w : World), (Op.unary .not (.bool x)).run Tryz.prog w = .ok (.bool (!x)) w := fun _ _ => rfl
  clear hf h1 h2
  go_enter Tryz.func69, Tryz.ntmps69
  go_wp2_with fail
  go_loopw [5, 6, 7] (fun s t _ wr => ∃ (lo hi : Nat), s = .int .i64 lo ∧ t = .int .i64 hi ∧ lo ≤ c ∧ c ≤ hi ∧ hi ≤ n ∧ Below w.heap.size w wr) (fun s t _ _ => (intOf t - intOf s).toNat)
  case atStart => exact ⟨0, n, rfl, rfl, by omega, hc, Nat.le_refl _, Below.refl _ _⟩
  case round =>
    obtain ⟨lo, hi, rfl, rfl, hl, hh, hhn, hB⟩ := hrel
    by_cases hlt : lo < hi
    · have hlt' : (lo : Int) < (hi : Int) := by omega
      go_wp2_with fail
      obtain ⟨h, hh2⟩ : ∃ h, h = (lo + hi) / 2 := ⟨_, rfl⟩
      have e : ((lo : Int) + (hi : Int)) / 2 = (h : Int) := by omega
      rw [e]
      have h3 : lo ≤ h := by omega
      have h4 : h < hi := by omega
      have hc := HF.out wr h hB (by omega)
      clear hh2 e
      cases hp : p h with
      | true =>
        rw [hp] at hc
        have hch : c ≤ h := by
          rcases Nat.lt_or_ge h c with h5 | h5
          · rw [H1.out h h5] at hp; cases hp
          · exact h5
        refine hc.mono ?_
        rintro e w1 ⟨rfl, hB1⟩
        go_wp2_with fail
        refine ⟨⟨lo, h, rfl, rfl, hl, hch, by omega, Bt hB hB1⟩, by simp [intOf]; omega⟩
      | false =>
        rw [hp] at hc
        have hch : h + 1 ≤ c := by
          rcases Nat.lt_or_ge h c with h5 | h5
          · exact h5
          · rw [H2.out h h5 (by omega)] at hp; cases hp
        refine hc.mono ?_
        rintro e w1 ⟨rfl, hB1⟩
        go_wp2_with fail
        refine ⟨⟨h + 1, hi, by go_num, rfl, hch, hh, hhn, Bt hB hB1⟩, by simp [intOf]; omega⟩
    · obtain rfl : lo = hi := by omega
      obtain rfl : c = lo := by omega
      have hlt' : ¬ (c : Int) < (c : Int) := by omega
      go_wp2_with fail
      go_ret
      exact ⟨rfl, hB⟩
end
/-! The walk of package smt: with. (gen05C.py writes the region that draws.) -/
section
open Go.RowKit

theorem elemL : Tryz.prog.elem 23 = 50 := by kernel_rfl
theorem underL : Tryz.prog.underlying 23 = some (.slice (Tryz.prog.elem 23)) := by kernel_rfl
theorem sizeLf (w : World) : (sizeOf 50).run Tryz.prog w = .ok 64 w := by kernel_rfl
/-- s[:k] -/
theorem cutHi (W : World) (a : Option Addr) (n c k : Nat) (hk : k ≤ c) :
    (Instr.slice 23 (.slice a n c) none (some (.int .i64 (k : Int))) none).run Tryz.prog W = .ok (.slice a k c) W ∧
    (Instr.sliceAt 23 (.slice a n c) none (some (.int .i64 (k : Int))) none).run Tryz.prog W = .ok (.slice a k c) W := by
  have h : (Instr.slice 23 (.slice a n c) none (some (.int .i64 (k : Int))) none).run Tryz.prog W = .ok (.slice a k c) W := by
    rw [run_slice_h W 23 a n c underL .i64 (k : Int) (by omega) (by omega), elemL, sizeLf]
    cases a <;> simp [sliced, Result.andThen, Addr.add]
  exact ⟨h, by rw [run_sliceAt_slice W 23 _ _ _ _ underL]; exact h⟩
/-- where s[k:] begins -/
def tailA (a : Option Addr) (c k : Nat) : Option Addr := if c = k then a else a.map fun x => x.add (k * 64)
theorem cutLo (W : World) (a : Option Addr) (n c k : Nat) (hk : k ≤ n) :
    (Instr.slice 23 (.slice a n c) (some (.int .i64 (k : Int))) none none).run Tryz.prog W = .ok (.slice (tailA a c k) (n - k) (c - k)) W ∧
    (Instr.sliceAt 23 (.slice a n c) (some (.int .i64 (k : Int))) none none).run Tryz.prog W = .ok (.slice (tailA a c k) (n - k) (c - k)) W := by
  have h : (Instr.slice 23 (.slice a n c) (some (.int .i64 (k : Int))) none none).run Tryz.prog W = .ok (.slice (tailA a c k) (n - k) (c - k)) W := by
    rw [run_slice_l W 23 a n c underL .i64 (k : Int) (by omega) (by omega), elemL, sizeLf]
    simp [sliced, Result.andThen, tailA]
  exact ⟨h, by rw [run_sliceAt_slice W 23 _ _ _ _ underL]; exact h⟩
theorem RdL.tailA {w : World} {a : Option Addr} {n c : Nat} {l : List Lf} (h : RdL w a n c l) (k : Nat) (hk : k ≤ n) : RdL w (tailA a c k) (n - k) (c - k) (l.drop k) := by
  have hc := h.cap
  by_cases e : c = k
  · have hn : n = k := by omega
    have hl := h.len
    have hd : l.drop k = [] := List.drop_eq_nil_of_le (by omega)
    unfold Go.Proofs.YtmfnpjfhijmboaaGreatDoor.tailA
    rw [if_pos e, hd]
    refine ⟨by simp; omega, fun _ h => (by simp at h), by omega, by have := h.max; omega, fun _ => ⟨by omega, by omega⟩, fun _ _ j u hu => (by simp [lcs] at hu)⟩
  · unfold Go.Proofs.YtmfnpjfhijmboaaGreatDoor.tailA
    rw [if_neg e]
    exact h.tail k hk
theorem More.mono {n m : Nat} {G G' : Tag} (h : More m G G') (hnm : n ≤ m) : More n G G' := ⟨h.1, fun k hk => h.2 k (by omega)⟩

/-- s[lo:hi] in a region that draws its order -/
theorem yields_slice {ops : Array Oper} {S : World → Prop} {o : Oper} {a : Act} (hw : Region.wanted o (yielded ops a.tmps) = true) (t : TypeId) (x : Operand) (lo hi : Option Operand) (ho : o.op = .slice t x lo hi none) (v : Value)
    (hrun : ∀ W : World, (Instr.sliceAt t (a.eval x) (lo.map a.eval) (hi.map a.eval) none).run Tryz.prog W = .ok v W) : YieldsIf Tryz.prog ops S o v a :=
  .inl ⟨hw, fun W _ => by simp [execOp, ho, hrun]⟩
/-- what with knows of a world: its two variables -/
structure TwoBox (W : World) (b6 b7 : Nat) (a : Option Addr) (m c n : Nat) : Prop where
  row : W.cell? ⟨b6, 0, none⟩ = some (.slice a m c)
  dep : W.cell? ⟨b7, 0, none⟩ = some (.int .i64 (n : Int))
theorem TwoBox.below {W W' : World} {b6 b7 : Nat} {a : Option Addr} {m c n : Nat} (h : TwoBox W b6 b7 a m c n) (hb : Below W.heap.size W W') : TwoBox W' b6 b7 a m c n := ⟨cell_later hb h.row, cell_later hb h.dep⟩
theorem TwoBox.drew {W : World} {b6 b7 : Nat} {a : Option Addr} {m c n : Nat} (h : TwoBox W b6 b7 a m c n) : TwoBox W.drew b6 b7 a m c n := ⟨h.row, h.dep⟩
theorem TwoBox.start (w : World) (a : Option Addr) (m c n : Nat) : TwoBox ((w.alloc (.cells #[.slice a m c] 23)).alloc (.cells #[.int .i64 (n : Int)] 3)) w.heap.size (w.heap.size + 1) a m c n := by
  have h0 := (Blk.new w 23 [.slice a m c]).alloc (.cells #[.int .i64 (n : Int)] 3)
  have h1 := Blk.new (w.alloc (.cells #[.slice a m c] 23)) 3 [.int .i64 (n : Int)]
  rw [show (w.alloc (.cells #[.slice a m c] 23)).heap.size = w.heap.size + 1 by simp] at h1
  exact ⟨h0.cell rfl, h1.cell rfl⟩

theorem enter_with1 (args : Array Value) (w : World) : (callFunc 70 args).run Tryz.prog w = .ok (.enter 70 args) w := by go_simp
theorem getD_take {l : List Lf} {t k : Nat} (h : t < k) (hk : k ≤ l.length) : l.getD t lf0 ∈ l.take k := by
  refine List.mem_of_getElem? (i := t) ?_
  rw [List.getElem?_take, if_pos h]
  simp [List.getD, show t < l.length by omega]
theorem getD_drop {l : List Lf} {t k : Nat} (h : k ≤ t) (ht : t < l.length) : l.getD t lf0 ∈ l.drop k := by
  refine List.mem_of_getElem? (i := t - k) ?_
  rw [List.getElem?_drop, show k + (t - k) = t by omega]
  simp [List.getD, ht]

/-- what a call of with gives -/
def WithPost (base x : Nat) (G : Tag) (t : T) (w : World) (e : Ending) (w' : World) : Prop :=
  ∃ s G', e = .returned (.pointer (some ⟨s, 0, none⟩)) ∧ G' s = some t ∧ Inv base x G' noL w' ∧ More w.heap.size G G' ∧ Below w.heap.size w w'

set_option maxRecDepth 100000 in
set_option maxHeartbeats 3000000 in
/-- the leaves parted, and both parts done -/
theorem with_any (base x : Nat) : ∀ (k : Nat) (G : Tag) (w : World) (tp pn p : Nat) (t : T) (n : Nat) (a : Option Addr) (m c : Nat) (l : List Lf) (ni : Int), ni = (n : Int) → n + k = 257 → n ≤ 256 → base ≤ w.heap.size → Inv base x G noL w →
    w.cell? ⟨tp, 0, none⟩ = some (.pointer (some ⟨pn, 0, none⟩)) → G pn = some .none → G p = some t → t.wf n → RdL w a m c l → unlike l → inOrder l → agree (t.lvs ++ l) n → t.lvs.length + m ≤ 100000 →
    Calls Tryz.prog 41 #[.pointer (some ⟨tp, 0, none⟩), .pointer (some ⟨p, 0, none⟩), .slice a m c, .int .i64 ni] w (WithPost base x G (T.put k t l n) w) := by
  intro k
  induction k with
  | zero => intro _ _ _ _ _ _ n _ _ _ _ _ _ h1 h2; omega
  | succ k ih =>
    intro G w tp pn p t n a m c l ni hni hk hn hb hI hc hpn hp ht hr hu ho ha hsz
    subst hni
    have hS0 := TwoBox.start w a m c n
    have hB0 : Below w.heap.size w ((w.alloc (.cells #[.slice a m c] 23)).alloc (.cells #[.int .i64 (n : Int)] 3)) := ((Below.refl _ w).alloc (Nat.le_refl _) _).alloc (by simp) _
    have hmf : ∀ (fn : Fn) (first cap : Array Value) (w : World), (Instr.makeFunc fn first cap).run Tryz.prog w = .ok (.func fn first cap) w := fun _ _ _ _ => rfl
    have hl := hr.len
    cases l with
    | nil =>
      obtain rfl : m = 0 := hl.symm
      have hr0 := hS0.row
      go_enter Tryz.func41, Tryz.ntmps41
      go_wp2_with fail
      go_ret
      exact ⟨p, G, rfl, hp, hI.below hB0, More.refl _ _, hB0⟩
    | cons y l =>
      have hy : y.ok := hr.ok y (by simp)
      have hm : m = l.length + 1 := by simpa using hl.symm
      obtain ⟨bl, off, rfl, hbl, hel⟩ := hr.elems (by omega)
      have r0 := rangeAt_below hB0 (hel 0 (by omega))
      rw [Nat.zero_mul, Nat.add_zero] at r0
      replace r0 : ((w.alloc (.cells #[.slice (some ⟨bl, off, none⟩) m c] 23)).alloc (.cells #[.int .i64 (n : Int)] 3)).rangeAt bl off (lc y) := r0
      have r1 := range_path r0
      have H5 := Lib.hid (show (Tryz.prog.info? 25).map (·.size) = some (bs y.path).length by rw [info_digest, bs_length, hy.1])
      have HY := Lib.hid (show (Tryz.prog.info? 50).map (·.size) = some (lc y).length by rw [lc_length hy]; exact infoLeafS)
      obtain ⟨dn1, sum1, lf1, le1, ri1, hP⟩ := hI.nd hp
      have c36 := cell_later hB0 hP.size
      have d0 := hS0.row
      have d1 := hS0.dep
      have HPUT := Lib.hid (show T.put (k + 1) t (y :: l) n = if l.length = 0 ∧ t.fits y = true then .one y else T.joined (T.put k (t.left n) ((y :: l).take (onesAt (y :: l) n)) (n + 1)) (T.put k (t.right n) ((y :: l).drop (onesAt (y :: l) n)) (n + 1)) from rfl)
      have HAS := Lib.hid (fun (W : World) (h : Below w.heap.size w W) => has_any W base x G (hI.below h) p t hp n ht y.path hy.1)
      have SG := Lib.hid (fun (W : World) (h : Below w.heap.size w W) => single_any W base x (Nat.le_trans hb h.size) G (hI.below h) tp pn (cell_later h hc) hpn y)
      have hm0 : (0 : Int) < (m : Int) := by omega
      by_cases hfit : l.length = 0 ∧ t.fits y = true
      · rw [if_pos hfit] at HPUT
        obtain ⟨h0, hf⟩ := hfit
        obtain rfl : l = [] := List.eq_nil_of_length_eq_zero h0
        obtain rfl : m = 1 := hm
        clear hel hl hm0
        cases t with
        | none =>
          replace c36 : ((w.alloc (.cells #[.slice (some ⟨bl, off, none⟩) 1 c] 23)).alloc (.cells #[.int .i64 (n : Int)] 3)).cell? ⟨p, 36, none⟩ = some (.int .i64 0) := c36
          go_enter Tryz.func41, Tryz.ntmps41
          go_wp2_with ((with_reducible refine wpList_loadM (o := ⟨some 39, _, _, _, _, _⟩) ?_ bl off 50 (.tmp 38) ?_ ?_ r0 Tryz.underlying50 ?_ HY.out ?_); rfl; rfl; rfl; rfl)
          generalize (w.alloc _).alloc _ = w0 at *
          refine (SG.out w0 hB0).mono ?_
          rintro e w1 ⟨q, rfl, hI1, hq, hB1⟩
          have hsz0 := hB0.size
          go_wp2_with fail
          go_ret
          exact ⟨q, G.add q (.one y), rfl, by rw [HPUT.out]; exact Tag.add_same _ _ _, hI1, Tag.add_more _ (hI.free (by omega)) (by omega), Bt hB0 hB1⟩
        | one z =>
          replace c36 : ((w.alloc (.cells #[.slice (some ⟨bl, off, none⟩) 1 c] 23)).alloc (.cells #[.int .i64 (n : Int)] 3)).cell? ⟨p, 36, none⟩ = some (.int .i64 1) := c36
          rw [show T.hasB (.one z) y.path = true from hf] at HAS
          go_enter Tryz.func41, Tryz.ntmps41
          go_wp2_with ((with_reducible refine wpList_loadG (o := ⟨some 32, _, _, _, _, _⟩) ?_ bl off 25 (.tmp 31) ?_ ?_ r1 Tryz.underlying25 ?_ H5.out ?_); rfl; rfl; rfl; rfl)
          generalize (w.alloc _).alloc _ = w0 at *
          refine (HAS.out w0 hB0).mono ?_
          rintro e w2 ⟨rfl, hB2⟩
          have hB3 := Bt hB0 hB2
          have e0 := cell_later hB2 d0
          have q0 := rangeAt_below hB2 r0
          go_wp2_with ((with_reducible refine wpList_loadM (o := ⟨some 39, _, _, _, _, _⟩) ?_ bl off 50 (.tmp 38) ?_ ?_ q0 Tryz.underlying50 ?_ HY.out ?_); rfl; rfl; rfl; rfl)
          refine (SG.out w2 hB3).mono ?_
          rintro e w1 ⟨q, rfl, hI1, hq, hB1⟩
          have hsz0 := hB3.size
          go_wp2_with fail
          go_ret
          exact ⟨q, G.add q (.one y), rfl, by rw [HPUT.out]; exact Tag.add_same _ _ _, hI1, Tag.add_more _ (hI.free (by omega)) (by omega), Bt hB3 hB1⟩
        | two l1 r1 => cases hf
      · have hn256 : n < 256 := by
          rcases Nat.lt_or_ge n 256 with h' | h'
          · exact h'
          · exfalso
            have h1 : (y :: l).length ≤ 1 := unlike_agree hr.ok hu (agree_sub ha (fun z hz => List.mem_append.2 (.inr hz))) h'
            obtain rfl : l = [] := List.eq_nil_of_length_eq_zero (by simpa using h1)
            exact hfit ⟨rfl, fits_deep ht hy ha h'⟩
        rw [if_neg hfit] at HPUT
        obtain ⟨uL, oL, aL⟩ := put_left ht hr.ok hu ho ha
        obtain ⟨uR, oR, aR⟩ := put_right ht hr.ok hu ho ha
        obtain ⟨z0, z1⟩ := split_bits (bits_rise hr.ok ho (agree_sub ha (fun z hz => List.mem_append.2 (.inr hz))))
        have hkk := onesAt_le (y :: l) n
        have hpl0 := put_len k (t.left n) ((y :: l).take (onesAt (y :: l) n)) (n + 1)
        have hpr0 := put_len k (t.right n) ((y :: l).drop (onesAt (y :: l) n)) (n + 1)
        have hparts := parts_len t n
        rw [List.length_take] at hpl0
        rw [List.length_drop] at hpr0
        rw [hl] at hkk hpl0 hpr0
        have HNF := Lib.hid hfit
        clear hfit
        generalize onesAt (y :: l) n = kk at *
        have CUTHI := Lib.hid (fun W : World => cutHi W (some ⟨bl, off, none⟩) m c kk (by have := hr.cap; omega))
        have CUTLO := Lib.hid (fun W : World => cutLo W (some ⟨bl, off, none⟩) m c kk hkk)
        have SD := Lib.hid (fun (W : World) (h : Below w.heap.size w W) => sides_any W base x G (hI.below h) tp pn (cell_later h hc) hpn p t hp n ht hn256)
        have SE := Lib.hid (fun (W : World) (h : Below w.heap.size w W) (hb : TwoBox W w.heap.size (w.heap.size + 1) (some ⟨bl, off, none⟩) m c n) =>
          search_any 70 #[.pointer (some ⟨w.heap.size, 0, none⟩), .pointer (some ⟨w.heap.size + 1, 0, none⟩)] m kk (fun i => bitAt ((y :: l).getD i lf0).path n == 1) W (by omega)
            (fun W' i hW hi => pick_any W' w.heap.size (w.heap.size + 1) bl off m c i n ((y :: l).getD i lf0) (hr.ok.at (by rw [hl]; exact hi))
              ⟨cell_later hW hb.row, cell_later hW hb.dep, rangeAt_below (Bt h hW) (range_path (hel i hi))⟩ hi hn256)
            enter_with1 hkk (fun i hi => by show (bitAt ((y :: l).getD i lf0).path n == 1) = false; rw [z0 _ (getD_take hi (by rw [hl]; exact hkk))]; rfl) (fun i h1 h2 => by show (bitAt ((y :: l).getD i lf0).path n == 1) = true; rw [z1 _ (getD_drop h1 (by rw [hl]; exact h2))]; rfl))
        have WA := Lib.hid (fun (pl : Nat) (hpl : G pl = some (t.left n)) (W : World) (hi : Inv base x G noL W) (h : Below w.heap.size w W) =>
          ih G W tp pn pl (t.left n) (n + 1) (some ⟨bl, off, none⟩) kk c ((y :: l).take kk) ((n : Int) + 1) (by omega) (by omega) (by omega) (Nat.le_trans hb h.size) hi (cell_later h hc) hpn hpl (T.left_wf ht).1 ((hr.below h).take kk hkk) uL oL aL (by omega))
        have WB := Lib.hid (fun (pr : Nat) (hpr : G pr = some (t.right n)) (W : World) (G1 : Tag) (hm1 : ∀ k u, G k = some u → G1 k = some u) (hi : Inv base x G1 noL W) (h : Below w.heap.size w W) =>
          ih G1 W tp pn pr (t.right n) (n + 1) _ (m - kk) (c - kk) ((y :: l).drop kk) ((n : Int) + 1) (by omega) (by omega) (by omega) (Nat.le_trans hb h.size) hi (cell_later h hc) (hm1 _ _ hpn) (hm1 _ _ hpr) (T.right_wf ht).1 ((hr.below h).tailA kk hkk) uR oR aR (by omega))
        generalize T.put k (t.left n) ((y :: l).take kk) (n + 1) = TL at *
        generalize T.put k (t.right n) ((y :: l).drop kk) (n + 1) = TR at *
        have JO := Lib.hid (fun (W : World) (G2 : Tag) (s1 s2 : Nat) (hm2 : ∀ k u, G k = some u → G2 k = some u) (h1 : G2 s1 = some TL) (h2 : G2 s2 = some TR) (hi : Inv base x G2 noL W) (h : Below w.heap.size w W) =>
          joined_any W base x (Nat.le_trans hb h.size) G2 hi tp pn (cell_later h hc) (hm2 _ _ hpn) s1 s2 TL TR h1 h2 (by omega))
        have HB := Lib.hid hB0
        have HSS := Lib.hid hS0
        have HI := Lib.hid hI
        clear ih
        have hwr : IntKind.i64.wrap ((n : Int) + 1) = (n : Int) + 1 := IntWalk.i64_in _ (by omega)
        by_cases hm1 : m = 1
        case' pos =>
          subst hm1
          obtain rfl : l = [] := List.eq_nil_of_length_eq_zero (by omega)
          have hnf : t.fits y = false := by
            cases e : t.fits y
            · rfl
            · exact absurd ⟨rfl, e⟩ HNF.out
          have HTL := Lib.hid (show T.hasB t y.path = false from by
            cases t with
            | none => rfl
            | one z => exact hnf
            | two l1 r1 => rfl)
          have hsz0 : (t.lvs.length : Int) ≠ 0 := by
            cases t with
            | none => cases hnf
            | one z => simp [T.lvs]
            | two l1 r1 => have := T.size_two ht; omega
          rw [HTL.out] at HAS
          have hsz1 : ((t.lvs.length : Int) == 0) = false := by simpa using hsz0
          generalize hsl : t.lvs.length = sl at *
          clear hl hm hm0 hsl hel HTL
          go_enter Tryz.func41, Tryz.ntmps41
          go_wp2_with ((with_reducible refine wpList_loadG (o := ⟨some 32, _, _, _, _, _⟩) ?_ bl off 25 (.tmp 31) ?_ ?_ r1 Tryz.underlying25 ?_ H5.out ?_); rfl; rfl; rfl; rfl)
          generalize (w.alloc _).alloc _ = w0 at *
          refine (HAS.out w0 hB0).mono ?_
          rintro e w1 ⟨rfl, hB01⟩
          have hB1 := Bt hB0 hB01
          have hS1 := hS0.below hB01
          have f0 := hS1.row
          have f1 := hS1.dep
          clear d0 d1 c36 r0 r1 hS0 HSS HB
          go_wp2_with fail
        case' neg =>
          have hm1' : ¬ (m : Int) = 1 := by omega
          have HM := Lib.hid hm
          clear hm hl
          go_enter Tryz.func41, Tryz.ntmps41
          go_wp2_with fail
          generalize (w.alloc _).alloc _ = w1 at *
          have hB1 := hB0
          have hS1 := hS0
        all_goals
          refine (SD.out w1 hB1).mono ?_
          rintro e w2 ⟨pl, pr, rfl, hpl, hpr, hB2⟩
          have hB12 := Bt hB1 hB2
          have hS2 := hS1.below hB2
          have f2 := hS2.row
          have f3 := hS2.dep
          go_wp2_with fail
          refine (SE.out w2 hB12 hS2).mono ?_
          rintro e w5 ⟨rfl, hB25⟩
          have hB5 := Bt hB12 hB25
          have hS := hS2.below hB25
          have hI5 := hI.below hB5
          have f4 := hS.row
          have f5 := hS.dep
          replace WA := Lib.hid (WA.out pl hpl)
          replace WB := Lib.hid (WB.out pr hpr)
          clear f2 f3
          go_wp2_with fail
          -- REGION with 10
          refine wp_region_held_drew (S := fun W => TwoBox W w.heap.size (w.heap.size + 1) (some ⟨bl, off, none⟩) _ c n) (by kernel_rfl) hS.drew (fun hHeld => ?_)
          refine wpAnyH_take (i := 0) (oi := ⟨some 52, .move (.tmp 0), _, _, _, none⟩) (v := ?_) rfl (by kernel_rfl) (by kernel_rfl) (by kernel_rfl) (fun _ _ _ h => h) (Or.inl ⟨by rfl, ?_⟩) hHeld ?_
          rotate_left
          · intro W _; go_simp; try with_reducible rfl
          try simp only [Act.put, List.setIfInBounds_toArray, List.set_cons_zero, List.set_cons_succ]
          refine wpAnyH_take (i := 1) (oi := ⟨some 53, .move (.tmp 0), _, _, _, none⟩) (v := ?_) rfl (by kernel_rfl) (by kernel_rfl) (by kernel_rfl) (fun _ _ _ h => h) (Or.inl ⟨by rfl, ?_⟩) hHeld ?_
          rotate_left
          · intro W _; go_simp; try with_reducible rfl
          try simp only [Act.put, List.setIfInBounds_toArray, List.set_cons_zero, List.set_cons_succ]
          refine wpAnyH_take (i := 2) (oi := ⟨some 54, .move (.tmp 9), _, _, _, none⟩) (v := ?_) rfl (by kernel_rfl) (by kernel_rfl) (by kernel_rfl) (fun _ _ _ h => h) (Or.inl ⟨by rfl, ?_⟩) hHeld ?_
          rotate_left
          · intro W _; go_simp; try with_reducible rfl
          try simp only [Act.put, List.setIfInBounds_toArray, List.set_cons_zero, List.set_cons_succ]
          refine wpAnyH_take (i := 3) (oi := ⟨some 55, .load 23 (.tmp 6), _, _, _, none⟩) (v := ?_) rfl (by kernel_rfl) (by kernel_rfl) (by kernel_rfl) (fun _ _ _ h => h) (Or.inl ⟨by rfl, ?_⟩) hHeld ?_
          rotate_left
          · intro W hS; have h0 := hS.row; go_simp; try with_reducible rfl
          try simp only [Act.put, List.setIfInBounds_toArray, List.set_cons_zero, List.set_cons_succ]
          refine wpAnyH_take (i := 4) (oi := ⟨some 56, .move (.tmp 11), _, _, _, none⟩) (v := ?_) rfl (by kernel_rfl) (by kernel_rfl) (by kernel_rfl) (fun _ _ _ h => h) (Or.inl ⟨by rfl, ?_⟩) hHeld ?_
          rotate_left
          · intro W _; go_simp; try with_reducible rfl
          try simp only [Act.put, List.setIfInBounds_toArray, List.set_cons_zero, List.set_cons_succ]
          refine wpAnyH_take (i := 5) (oi := ⟨some 57, .slice 23 (.tmp 55) none (some (.tmp 56)) none, _, _, _, none⟩) (v := _) rfl (by kernel_rfl) (by kernel_rfl) (by kernel_rfl) (fun _ _ _ h => h) (yields_slice (by rfl) _ _ _ _ rfl _ (fun W => (CUTHI.out W).2)) hHeld ?_
          try simp only [Act.put, List.setIfInBounds_toArray, List.set_cons_zero, List.set_cons_succ]
          refine wpAnyH_take (i := 6) (oi := ⟨some 58, .load 3 (.tmp 7), _, _, _, none⟩) (v := ?_) rfl (by kernel_rfl) (by kernel_rfl) (by kernel_rfl) (fun _ _ _ h => h) (Or.inl ⟨by rfl, ?_⟩) hHeld ?_
          rotate_left
          · intro W hS; have h0 := hS.dep; go_simp; try with_reducible rfl
          try simp only [Act.put, List.setIfInBounds_toArray, List.set_cons_zero, List.set_cons_succ]
          refine wpAnyH_take (i := 7) (oi := ⟨some 59, .binOp .add 3 (.tmp 58) (.const (.int .i64 1)) 3, _, _, _, none⟩) (v := ?_) rfl (by kernel_rfl) (by kernel_rfl) (by kernel_rfl) (fun _ _ _ h => h) (Or.inl ⟨by rfl, ?_⟩) hHeld ?_
          rotate_left
          · intro W _; go_simp; try with_reducible rfl
          try simp only [Act.put, List.setIfInBounds_toArray, List.set_cons_zero, List.set_cons_succ]
          refine wpAnyH_take (i := 9) (oi := ⟨some 61, .move (.tmp 0), _, _, _, none⟩) (v := ?_) rfl (by kernel_rfl) (by kernel_rfl) (by kernel_rfl) (fun _ _ _ h => h) (Or.inl ⟨by rfl, ?_⟩) hHeld ?_
          rotate_left
          · intro W _; go_simp; try with_reducible rfl
          try simp only [Act.put, List.setIfInBounds_toArray, List.set_cons_zero, List.set_cons_succ]
          refine wpAnyH_take (i := 10) (oi := ⟨some 62, .move (.tmp 10), _, _, _, none⟩) (v := ?_) rfl (by kernel_rfl) (by kernel_rfl) (by kernel_rfl) (fun _ _ _ h => h) (Or.inl ⟨by rfl, ?_⟩) hHeld ?_
          rotate_left
          · intro W _; go_simp; try with_reducible rfl
          try simp only [Act.put, List.setIfInBounds_toArray, List.set_cons_zero, List.set_cons_succ]
          refine wpAnyH_take (i := 11) (oi := ⟨some 63, .load 23 (.tmp 6), _, _, _, none⟩) (v := ?_) rfl (by kernel_rfl) (by kernel_rfl) (by kernel_rfl) (fun _ _ _ h => h) (Or.inl ⟨by rfl, ?_⟩) hHeld ?_
          rotate_left
          · intro W hS; have h0 := hS.row; go_simp; try with_reducible rfl
          try simp only [Act.put, List.setIfInBounds_toArray, List.set_cons_zero, List.set_cons_succ]
          refine wpAnyH_take (i := 12) (oi := ⟨some 64, .move (.tmp 11), _, _, _, none⟩) (v := ?_) rfl (by kernel_rfl) (by kernel_rfl) (by kernel_rfl) (fun _ _ _ h => h) (Or.inl ⟨by rfl, ?_⟩) hHeld ?_
          rotate_left
          · intro W _; go_simp; try with_reducible rfl
          try simp only [Act.put, List.setIfInBounds_toArray, List.set_cons_zero, List.set_cons_succ]
          refine wpAnyH_take (i := 13) (oi := ⟨some 65, .slice 23 (.tmp 63) (some (.tmp 64)) none none, _, _, _, none⟩) (v := _) rfl (by kernel_rfl) (by kernel_rfl) (by kernel_rfl) (fun _ _ _ h => h) (yields_slice (by rfl) _ _ _ _ rfl _ (fun W => (CUTLO.out W).2)) hHeld ?_
          try simp only [Act.put, List.setIfInBounds_toArray, List.set_cons_zero, List.set_cons_succ]
          refine wpAnyH_take (i := 14) (oi := ⟨some 66, .load 3 (.tmp 7), _, _, _, none⟩) (v := ?_) rfl (by kernel_rfl) (by kernel_rfl) (by kernel_rfl) (fun _ _ _ h => h) (Or.inl ⟨by rfl, ?_⟩) hHeld ?_
          rotate_left
          · intro W hS; have h0 := hS.dep; go_simp; try with_reducible rfl
          try simp only [Act.put, List.setIfInBounds_toArray, List.set_cons_zero, List.set_cons_succ]
          refine wpAnyH_take (i := 15) (oi := ⟨some 67, .binOp .add 3 (.tmp 66) (.const (.int .i64 1)) 3, _, _, _, none⟩) (v := ?_) rfl (by kernel_rfl) (by kernel_rfl) (by kernel_rfl) (fun _ _ _ h => h) (Or.inl ⟨by rfl, ?_⟩) hHeld ?_
          rotate_left
          · intro W _; go_simp; try with_reducible rfl
          try simp only [Act.put, List.setIfInBounds_toArray, List.set_cons_zero, List.set_cons_succ]
          refine wpAnyH_ready (rs := [8]) (by kernel_rfl) (by simp) ?_
          refine AllReadyH.cons (o := ⟨some 60, .call { callee := .value (.func 41), args := #[.tmp 53, .tmp 54, .tmp 57, .tmp 59], argTypes := #[28, 69, 23, 3] }, _, _, _, none⟩) rfl (fun K hK => ?_) AllReadyH.nil
          refine step_ofR (by rfl) ?_
          go_simp
          refine (WA.out _ hI5.drew (below_drew hB5)).mono ?_
          rintro x W1 ⟨s1, G1, rfl, hG1, hI6, hM6, hB6⟩
          refine hK.out _ _ (hHeld.below hB6) (fun hHeld => ?_)
          clear hK K
          try simp only [Act.put, List.setIfInBounds_toArray, List.set_cons_zero, List.set_cons_succ]
          refine wpAnyH_ready (rs := [16]) (by kernel_rfl) (by simp) ?_
          refine AllReadyH.cons (o := ⟨some 68, .call { callee := .value (.func 41), args := #[.tmp 61, .tmp 62, .tmp 65, .tmp 67], argTypes := #[28, 69, 23, 3] }, _, _, _, none⟩) rfl (fun K hK => ?_) AllReadyH.nil
          refine step_ofR (by rfl) ?_
          go_simp
          refine (WB.out _ G1 hM6.1 hI6 (Bt (below_drew hB5) hB6)).mono ?_
          rintro x W1 ⟨s2, G2, rfl, hG2, hI7, hM7, hB7⟩
          refine hK.out _ _ (hHeld.below hB7) (fun hHeld => ?_)
          clear hK K
          try simp only [Act.put, List.setIfInBounds_toArray, List.set_cons_zero, List.set_cons_succ]
          refine wpAnyH_ready (rs := [17]) (by kernel_rfl) (by simp) ?_
          refine AllReadyH.cons (o := ⟨some 69, .call { callee := .value (.func 71), args := #[.tmp 52, .tmp 60, .tmp 68], argTypes := #[28, 69, 69] }, _, _, _, none⟩) rfl (fun K hK => ?_) AllReadyH.nil
          refine step_ofR (by rfl) ?_
          go_simp
          refine (JO.out _ G2 s1 s2 (fun k u h => hM7.1 k u (hM6.1 k u h)) (hM7.1 _ _ hG1) hG2 hI7 (Bt (Bt (below_drew hB5) hB6) hB7)).mono ?_
          rintro x W1 ⟨s3, G3, rfl, hG3, hI8, hM8, hB8⟩
          refine hK.out _ _ (hHeld.below hB8) (fun hHeld => ?_)
          clear hK K
          try simp only [Act.put, List.setIfInBounds_toArray, List.set_cons_zero, List.set_cons_succ]
          refine wpAnyH_ready (rs := [18]) (by kernel_rfl) (by simp) ?_
          refine AllReadyH.cons (o := ⟨some 8, .assign (.tmp 69), _, _, _, none⟩) rfl (fun K hK => ?_) AllReadyH.nil
          refine step_ofR (by rfl) ?_
          go_simp
          refine hK.out _ _ (hHeld) (fun hHeld => ?_)
          clear hK K
          try simp only [Act.put, List.setIfInBounds_toArray, List.set_cons_zero, List.set_cons_succ]
          refine wpAnyH_done (by kernel_rfl) ?_ _
          -- END with
          go_wp2_with fail
          go_ret
          have hB56 := Bt (below_drew hB5) hB6
          have hB57 := Bt hB56 hB7
          exact ⟨s3, G3, rfl, by rw [HPUT.out]; exact hG3, hI8, ((hM6.mono (below_drew hB5).size).trans (hM7.mono hB56.size) (Nat.le_refl _)).trans (hM8.mono hB57.size) (Nat.le_refl _), Bt hB57 hB8⟩
end
end Go.Proofs.YtmfnpjfhijmboaaGreatDoor
