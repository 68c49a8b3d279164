/-
  Prf0 Prf1 Clm, in one text.
-/
import Derived.Test.YtgbhfpkngjlfkaaDoorLibG
import Derived.Test.YtgbhfpkngjlfkaaDoorLibO
import Derived.Test.YtgbhfpkngjlfkaaDoorOctAB
import Derived.Lib.SliceRun
import Derived.Lib.AppendZerosOnto
namespace Go.Proofs.YtgbhfpkngjlfkaaDoor
/-! Proofs of claims: their cells; the walks of package proof that ask nothing of a tree: hasForm, followed; of the library: Grow. -/
section
open Go.RowKit

/-- a proof of a claim -/
structure Pf where
  sibs : List (List UInt8)
  other : Bool
  op : List UInt8
  ov : List UInt8
structure Pf.ok (x : Pf) : Prop where
  d : okd x.sibs
  p : x.op.length = 32
  v : x.ov.length = 32
/-- a proof's cells; its list of siblings lies at a -/
def pc (a : Option Addr) (n c : Nat) (x : Pf) : List Value := .slice a n c :: .bool x.other :: (bs x.op ++ bs x.ov)
/-- a proof that came in, or that a call handed back -/
structure RdP6 (w : World) (a : Option Addr) (n c : Nat) (x : Pf) : Prop where
  sib : RdD w a n c x.sibs
  p : x.op.length = 32
  v : x.ov.length = 32
theorem RdP6.ok {w : World} {a : Option Addr} {n c : Nat} {x : Pf} (h : RdP6 w a n c x) : x.ok := ⟨h.sib.ok, h.p, h.v⟩
theorem RdP6.below {w w' : World} {a : Option Addr} {n c : Nat} {x : Pf} (h : RdP6 w a n c x) (hb : Below w.heap.size w w') : RdP6 w' a n c x := ⟨h.sib.below hb, h.p, h.v⟩

section
variable (a : Option Addr) (n c : Nat) (x : Pf)
theorem pc_0 : (pc a n c x)[0]? = some (.slice a n c) := rfl
theorem pc_1 : (pc a n c x)[1]? = some (.bool x.other) := rfl
theorem pc_op (j : Nat) (hj : j < (bs x.op).length) : (pc a n c x)[2 + j]? = (bs x.op)[j]? := by
  unfold pc
  rw [show 2 + j = j + 1 + 1 by omega, List.getElem?_cons_succ, List.getElem?_cons_succ, List.getElem?_append_left hj]
theorem pc_ov (hp : x.op.length = 32) (j : Nat) : (pc a n c x)[34 + j]? = (bs x.ov)[j]? := by
  unfold pc
  rw [show 34 + j = 32 + j + 1 + 1 by omega, List.getElem?_cons_succ, List.getElem?_cons_succ, List.getElem?_append_right (by rw [bs_length]; omega), bs_length, hp, Nat.add_sub_cancel_left]
theorem pc_length (hp : x.op.length = 32) (hv : x.ov.length = 32) : (pc a n c x).length = 66 := by simp [pc, bs_length, hp, hv]
theorem pc_one : ∀ u ∈ pc a n c x, u.oneCell' = true := by
  intro u hu
  simp only [pc, List.mem_cons, List.mem_append] at hu
  rcases hu with rfl | rfl | hu | hu
  · rfl
  · rfl
  · exact bs_one _ u hu
  · exact bs_one _ u hu
end
theorem sizeP : (Tryd.prog.info? 28).map (·.size) = some 66 := by kernel_rfl
theorem underP : Tryd.prog.underlying 28 = some (.struct (Tryd.prog.fieldsOf 28)) := by kernel_rfl

/-- a composite literal whose cells are known, under a guard -/
theorem wpList_buildP {w : World} {ops : Array Oper} {rest : List Oper} {o : Oper} {a : Act} {Q : Exit → Act → World → Prop} (hw : Region.wanted o (yielded ops a.tmps) = true) (T : TypeId) (parts : Array (Nat × Operand)) (ho : o.op = .build T parts)
    {vs : List Value} {ps : List (Nat × Value)} (hp : parts.toList.map (fun p => (p.1, a.eval p.2)) = ps) (hb : Tryd.prog.built T ps = some vs.toArray)
    (h : wpList Tryd.prog ops Q rest (a.put o.dst (.agg vs.toArray)) w) : wpList Tryd.prog ops Q (o :: rest) a w := by
  have hb : Tryd.prog.built T (parts.map fun (i, x) => (i, a.eval x)).toList = some vs.toArray := by rw [Array.toList_map]; rw [← hb, ← hp]
  refine wpList_step fun K hK => ?_
  rw [if_pos hw]
  refine wp_build T parts ho (by rw [hb]; rfl) ?_
  rw [hb]
  exact hK _ _ h
/-- a part of a block loaded, behind a guard that says yes -/
theorem wpList_loadP {w : World} {ops : Array Oper} {rest : List Oper} {o : Oper} {a : Act} {Q : Exit → Act → World → Prop} (hw : Region.wanted o (yielded ops a.tmps) = true) (b off : Nat) (ty : TypeId) (x : Operand) (ho : o.op = .load ty x)
    (hx : a.eval x = .pointer (some ⟨b, off, none⟩)) {cs : List Value} {d : TypeDesc} (hc : w.rangeAt b off cs) (hu : Tryd.prog.underlying ty = some d) (hd : d.isRow = true)
    (hi : (Tryd.prog.info? ty).map (·.size) = some cs.length)
    (h : wpList Tryd.prog ops Q rest (a.put o.dst (.agg cs.toArray)) w) : wpList Tryd.prog ops Q (o :: rest) a w :=
  wpList_step fun K hK => by
    rw [if_pos hw]
    exact wp_load_mid ty x ho b off hx cs d hc hu hd hi (hK _ _ h)

/-- a proof has just the fields that it may have -/
def plainB (x : Pf) : Bool := x.other || (x.op == zero32 && x.ov == zero32)
def formB (x : Pf) : Bool := decide (x.sibs.length ≤ 256) && plainB x

/-- what a call knows of its own proof -/
structure PAt (w W : World) (S : Nat) (a : Option Addr) (n c : Nat) (x : Pf) : Prop where
  blk : Blk W S 28 (pc a n c x)
  bel : Below w.heap.size w W
theorem PAt.start (w : World) (a : Option Addr) (n c : Nat) (x : Pf) : PAt w (w.alloc (.cells (pc a n c x).toArray 28)) w.heap.size a n c x :=
  ⟨Blk.new w _ _, (Below.refl _ w).alloc (Nat.le_refl _) _⟩
theorem PAt.below {w W W' : World} {S : Nat} {a : Option Addr} {n c : Nat} {x : Pf} (h : PAt w W S a n c x) (hb : Below W.heap.size W W') : PAt w W' S a n c x := ⟨h.blk.below hb, Bt h.bel hb⟩
theorem PAt.c0 {w W : World} {S : Nat} {a : Option Addr} {n c : Nat} {x : Pf} (h : PAt w W S a n c x) : W.cell? ⟨S, 0, none⟩ = some (.slice a n c) := h.blk.cell rfl
theorem PAt.c1 {w W : World} {S : Nat} {a : Option Addr} {n c : Nat} {x : Pf} (h : PAt w W S a n c x) : W.cell? ⟨S, 1, none⟩ = some (.bool x.other) := h.blk.cell rfl
theorem PAt.rp {w W : World} {S : Nat} {a : Option Addr} {n c : Nat} {x : Pf} (h : PAt w W S a n c x) : W.rangeAt S 2 (bs x.op) := h.blk.range 2 (fun j hj => pc_op _ _ _ _ j hj)
theorem PAt.rv {w W : World} {S : Nat} {a : Option Addr} {n c : Nat} {x : Pf} (h : PAt w W S a n c x) (hp : x.op.length = 32) : W.rangeAt S 34 (bs x.ov) := h.blk.range 34 (fun j _ => pc_ov _ _ _ _ hp j)
theorem digP {d : List UInt8} (h : d.length = 32) : (Tryd.prog.info? 23).map (·.size) = some (bs d).length := by rw [info_digest, bs_length, h]

def pf0 : Pf := ⟨[], false, zero32, zero32⟩
theorem pf0_ok : pf0.ok := ⟨okd.nil, zero32_length, zero32_length⟩
theorem zeroP_info : (Tryd.prog.info? 28).map (fun i => (i.zero, i.size)) = some (some (.agg (pc none 0 0 pf0).toArray), 66) := by kernel_rfl
theorem cells_len {a a' : Option Addr} {n c n' c' : Nat} {x y : Pf} (hx : x.ok) (hy : y.ok) : (pc a n c x).length = (pc a' n' c' y).length := by
  rw [pc_length _ _ _ _ hx.p hx.v, pc_length _ _ _ _ hy.p hy.v]
theorem size_of {a : Option Addr} {n c : Nat} {x : Pf} (hx : x.ok) : (Tryd.prog.info? 28).map (·.size) = some (pc a n c x).length := by rw [sizeP, pc_length _ _ _ _ hx.p hx.v]
/-- what Put knows of a world: its own proof, and the siblings that came in -/
structure PutAt (w W : World) (a : Option Addr) (n c : Nat) (x : Pf) : Prop where
  own : PAt w W w.heap.size a n c x
  rd : RdP6 W a n c x
theorem PutAt.below {w W W' : World} {a : Option Addr} {n c : Nat} {x : Pf} (h : PutAt w W a n c x) (hb : Below W.heap.size W W') : PutAt w W' a n c x := ⟨h.own.below hb, h.rd.below hb⟩

set_option maxRecDepth 100000 in
set_option maxHeartbeats 1000000 in
theorem hasForm_any (w : World) (a : Option Addr) (n c : Nat) (x : Pf) (hx : x.ok) (hn : x.sibs.length = n) :
    Calls Tryd.prog 40 #[.agg (pc a n c x).toArray] w fun e w' => e = .returned (.bool (formB x)) ∧ Below w.heap.size w w' := by
  have hS := PAt.start w a n c x
  have c0 := hS.c0
  have c1 := hS.c1
  have r2 := hS.rp
  have r3 := hS.rv hx.p
  have hB := hS.bel
  have hF : formB x = (decide (n ≤ 256) && (x.other || (x.op == zero32 && x.ov == zero32))) := by rw [formB, plainB, hn]
  have HF := Lib.hid hF
  have H5 := Lib.hid (digP hx.p)
  have H6 := Lib.hid (digP hx.v)
  have HBT := Lib.hid built0
  have E1 := fun W : World => eqInD W x.op zero32 hx.p zero32_length
  have E2 := fun W : World => eqInD W x.ov zero32 hx.v zero32_length
  clear hF hS hn hx
  generalize hP : pc a n c x = P at *
  clear hP
  generalize x.op = p at *
  generalize x.ov = v at *
  generalize x.other = o at *
  generalize formB x = F at *
  generalize (p == zero32) = b1 at *
  generalize (v == zero32) = b2 at *
  by_cases hn : n ≤ 256
  · have hn' : ¬ (256 : Int) < (n : Int) := by omega
    have hnb : decide (n ≤ 256) = true := by simpa using hn
    rw [hnb] at HF
    clear hn hnb
    cases o with
    | true =>
      clear E1 E2
      go_enter Tryd.func40, Tryd.ntmps40
      go_wp2_with fail
      go_ret
      exact ⟨by rw [HF.out]; rfl, hB⟩
    | false =>
      cases b1 with
      | false =>
        go_enter Tryd.func40, Tryd.ntmps40
        have E1' := E1 (w.alloc (.cells P.toArray 28))
        clear E1 E2
        go_wp2_with (first | ((with_reducible refine wpList_loadP (o := ⟨some 11, _, _, _, _, _⟩) ?_ w.heap.size 2 23 (.tmp 10) ?_ ?_ r2 Tryd.underlying23 ?_ H5.out ?_); rfl; rfl; rfl; rfl) | ((with_reducible refine wpList_buildP (o := ⟨some 12, _, _, _, _, _⟩) ?_ 23 #[] ?_ (ps := []) ?_ HBT.out ?_); rfl; rfl; rfl))
        go_ret
        exact ⟨by rw [HF.out]; rfl, hB⟩
      | true =>
        go_enter Tryd.func40, Tryd.ntmps40
        have E1' := E1 (w.alloc (.cells P.toArray 28))
        have E2' := E2 (w.alloc (.cells P.toArray 28))
        clear E1 E2
        go_wp2_with (first | ((with_reducible refine wpList_loadP (o := ⟨some 11, _, _, _, _, _⟩) ?_ w.heap.size 2 23 (.tmp 10) ?_ ?_ r2 Tryd.underlying23 ?_ H5.out ?_); rfl; rfl; rfl; rfl) | ((with_reducible refine wpList_buildP (o := ⟨some 12, _, _, _, _, _⟩) ?_ 23 #[] ?_ (ps := []) ?_ HBT.out ?_); rfl; rfl; rfl) | ((with_reducible refine wpList_loadP (o := ⟨some 16, _, _, _, _, _⟩) ?_ w.heap.size 34 23 (.tmp 15) ?_ ?_ r3 Tryd.underlying23 ?_ H6.out ?_); rfl; rfl; rfl; rfl) | ((with_reducible refine wpList_buildP (o := ⟨some 17, _, _, _, _, _⟩) ?_ 23 #[] ?_ (ps := []) ?_ HBT.out ?_); rfl; rfl; rfl))
        go_ret
        exact ⟨by rw [HF.out]; simp, hB⟩
  · have hn' : (256 : Int) < (n : Int) := by omega
    have hnb : decide (n ≤ 256) = false := by simpa using hn
    rw [hnb] at HF
    clear hn hnb E1 E2
    go_enter Tryd.func40, Tryd.ntmps40
    go_wp2_with fail
    go_ret
    exact ⟨by rw [HF.out]; rfl, hB⟩
end
/-! The walks of package proof: followed; of the library: Grow on a row of the call's own. -/
section
open Go.RowKit

/-- append(s, make([]byte, m)...) onto a row that is full -/
theorem wpList_zerosU {w : World} {ops : Array Oper} {rest : List Oper} {o : Oper} {a : Act} {Q : Exit → Act → World → Prop} (hgd : o.guard = none) (s x : Operand)
    (ho : o.op = Op.call { callee := Callee.builtin Builtin.append, args := #[s, x], argTypes := #[35, 3] })
    {g cap m : Nat} {cur : Array Value} (hs : a.eval s = .slice (some ⟨g, 0, none⟩) cap cap) (hg : w.heap[g]? = some (.cells cur 5 (0, 0))) (hcur : cur.size = cap) (hx : a.eval x = .int .i64 (m : Int)) (hm : 0 < m) (hsz : cap + m ≤ 100000000)
    (h : ∀ C w', cap + m ≤ C → (∀ q : List UInt8, q.length ≤ cap → cur.toList.take q.length = bs q → Own w' w.heap.size (.slice (some ⟨w.heap.size, 0, none⟩) q.length C) q) → Below w.heap.size w w' →
      wpList Tryd.prog ops Q rest (a.put o.dst (.slice (some ⟨w.heap.size, 0, none⟩) (cap + m) C)) w') :
    wpList Tryd.prog ops Q (o :: rest) a w := by
  obtain ⟨i, hi, hz0, hz1, hz2⟩ := info_parts info5
  have hold : (Builtin.firstCells i.size cap (.slice (some ⟨g, 0, none⟩) cap cap)).run Tryd.prog w.drew = .ok cur.toList.toArray w.drew :=
    run_firstCells_some w.drew i.size cap ⟨g, 0, none⟩ cap cap cur.toList (by rw [hz1]; simpa using hcur) (fun j v hj => by
      rw [Addr.add_lit, Nat.zero_add]
      have hB : Blk w g 5 cur.toList := ⟨by simpa using hg⟩
      exact (hB.drew).cell hj)
  have hrun := Lib.run_append_grow_zeros (P := Tryd.prog) w 35 3 o.type 5 i (.int .u8 0) .i64 .i64 Tryd.underlying35 Tryd.underlying3 hi hz0 (some ⟨g, 0, none⟩) cap cap cur.toList hold m hm (by rw [hz1]; decide) (by omega) (by omega) (by rw [hz2]; omega)
    (by rw [hz2]; exact growslice_fits (by omega) (by omega))
  have hG1 := grownCap_ge w (cap + m) cap 5
  have hG2 := grownCap_le_maxLen w (cap + m) cap 5 (by unfold maxLen; omega)
  have hW : ∀ q : List UInt8, q.length ≤ cap → cur.toList.take q.length = bs q → Own (w.drew.alloc (.cells (cur.toList.toArray ++ Builtin.zeroCells (Value.int .u8 0).cells m ++ Builtin.zeroCells (Value.int .u8 0).cells (grownCap w (cap + m) cap 5 - (cap + m))) 5)) w.heap.size (.slice (some ⟨w.heap.size, 0, none⟩) q.length (grownCap w (cap + m) cap 5)) q := fun q hq ht => by
    refine ⟨by simp [bs_length], .inr ⟨w.heap.size, grownCap w (cap + m) cap 5, _, rfl, Nat.le_refl _, World.alloc_heap_new w.drew _, by omega, hG2, ?_, ?_⟩⟩
    · simp [Builtin.zeroCells, hcur, Value.cells]
      omega
    · simp only [Array.toList_append, Nat.mul_one, List.append_assoc]
      rw [List.take_append_of_le_length (by simp; omega)]
      exact ht
  have h' := h (grownCap w (cap + m) cap 5) _ hG1 hW ((Below.refl _ w).drew.alloc (Nat.le_refl _) _)
  clear hW
  generalize w.drew.alloc _ = W1 at hrun h'
  refine wpList_plain hgd fun K hK' => ?_
  unfold Oper.wp
  simp [execOp, ho, resolve, invoke, builtin, hs, hx, hrun, Result.andThen]
  exact hK' _ _ h'

set_option maxRecDepth 100000 in
theorem sgrow_own (w : World) (base : Nat) (a : Option Addr) (m c n : Nat) (q : List UInt8) (hO : Own w base (.slice a m c) q) (hm : q.length = m) (hq : 0 < m) (hb : base ≤ w.heap.size) (hsz : m + n ≤ 1000000) :
    Calls Tryd.prog 87 #[.slice a m c, .int .i64 (n : Int)] w fun e w' => ∃ a' c', e = .returned (.slice a' m c') ∧ Own w' base (.slice a' m c') q ∧ Below w.heap.size w w' ∧ ((Value.slice a' m c').ownBlock = (Value.slice a m c).ownBlock ∨ (Value.slice a' m c').ownBlock = some w.heap.size) := by
  obtain ⟨g, rfl, hg, cur, hcur, hmc, hcm, hcs, htk⟩ : ∃ g, a = some ⟨g, 0, none⟩ ∧ base ≤ g ∧ ∃ cur : Array Value, w.heap[g]? = some (.cells cur 5 (0, 0)) ∧ m ≤ c ∧ c ≤ maxLen ∧ cur.size = c ∧ cur.toList.take m = bs q := by
    rcases hO.2 with ⟨hv, h2⟩ | ⟨g, cap, cur, hv, hg, hh, h1, h2, h3, h4⟩
    · omega
    · cases hv
      exact ⟨g, rfl, hg, cur, hh, h1, h2, by omega, by rw [Nat.mul_one, hm] at h4; exact h4⟩
  have h1 : ¬ ((n : Int) < 0) := by omega
  have hc : c ≤ 9223372036854775807 := by unfold maxLen at hcm; omega
  have hmc' : (m : Int) ≤ (c : Int) := by omega
  have HM := Lib.hid hm
  have HO := Lib.hid hO
  clear hm hO
  by_cases h2 : c - m < n
  · obtain ⟨k, hk⟩ : ∃ k, k = n - (c - m) := ⟨_, rfl⟩
    have e1 : IntKind.i64.wrap ((c : Int) - (m : Int)) = (c : Int) - (m : Int) := IntWalk.i64_in _ (by omega)
    have e2 : IntKind.i64.wrap ((n : Int) - ((c : Int) - (m : Int))) = (k : Int) := by rw [show (n : Int) - ((c : Int) - (m : Int)) = (k : Int) by omega]; exact IntWalk.i64_in _ (by omega)
    have e3 : (n : Int) - ((c : Int) - (m : Int)) = (k : Int) := by omega
    have h3 : (0 : Int) < (k : Int) := by omega
    have hks : c + k ≤ 100000000 := by omega
    have hk0 : 0 < k := by omega
    have hck : m ≤ c + k := by omega
    clear h2 hk
    have HCUR := Lib.hid hcur
    have HTK := Lib.hid htk
    have HCS := Lib.hid hcs
    clear hcur htk hcs
    go_enter Tryd.func87, Tryd.ntmps87
    go_wp2_with ((with_reducible refine wpList_zerosU (o := ⟨some 22, _, _, _, _, _⟩) ?_ (.tmp 20) (.tmp 21) ?_ ?_ HCUR.out HCS.out ?_ hk0 hks ?_); rfl; rfl; rfl; rfl; intro C w1 hC hOw hB1; have hmC : (m : Int) ≤ (C : Int) := by omega)
    go_ret
    have hO' := hOw q (by rw [HM.out]; omega) (by rw [HM.out]; exact HTK.out)
    rw [HM.out] at hO'
    exact ⟨_, _, rfl, Own.lower hO' hb, hB1, .inr rfl⟩
  · have e1 : IntKind.i64.wrap ((c : Int) - (m : Int)) = (c : Int) - (m : Int) := IntWalk.i64_in _ (by omega)
    have h3 : ¬ (0 : Int) < (n : Int) - ((c : Int) - (m : Int)) := by omega
    clear h2 hcur htk hcs
    go_enter Tryd.func87, Tryd.ntmps87
    go_wp2_with fail
    go_ret
    exact ⟨_, _, rfl, HO.out, Below.refl _ _, .inl rfl⟩


theorem fol_take (ps : List (List UInt8)) (k : Nat) (h : k < ps.length) : (ps.take (k + 1)).flatten = (ps.take k).flatten ++ ps.getD k [] := by
  have e : ps.getD k [] = ps[k] := by simp [List.getD, h]
  rw [e, List.take_succ_eq_append_getElem h, List.flatten_append]
  simp only [List.flatten_cons, List.flatten_nil, List.append_nil]

/-- what followed knows in its rounds -/
structure Fol (w wr : World) (base b off n : Nat) (l : List (List UInt8)) (q : List UInt8) (k : Nat) (v : Value) (q' : List UInt8) : Prop where
  own : Own wr base v q'
  eq : q' = q ++ (l.take k).flatten
  rng : ∀ i, i < n → wr.rangeAt b (off + i * 32) (bs (l.getD i []))
  apart : v.ownBlock ≠ some b
  lt : b < wr.heap.size
  bel : Below base w wr
theorem Fol.step {w wr w2 w3 : World} {base b off n : Nat} {l : List (List UInt8)} {q : List UInt8} {k : Nat} {v v3 : Value} {q' : List UInt8} (h : Fol w wr base b off n l q k v q') (hbase : base ≤ w.heap.size) (hk : k < l.length)
    (hB : Below wr.heap.size wr w2) (hO : Own w3 base v3 (q' ++ l.getD k [])) (hg : w2.grownBy w3 v.ownBlock) (hx : v3.ownBlock = v.ownBlock ∨ v3.ownBlock = some w2.heap.size) : Fol w w3 base b off n l q (k + 1) v3 (q' ++ l.getD k []) := by
  have h1 := h.bel.size
  have h2 := hB.size
  have h3 := hg.size
  have h4 := h.lt
  refine ⟨hO, ?_, fun i hi => range_kept (range_below hB (h.rng i hi)) hg h.apart, ?_, by omega, (h.bel.trans (hB.mono (by omega))).grown hg (by omega) (fun x e => (h.own.lt e).1)⟩
  · rw [fol_take l k hk, h.eq, List.append_assoc]
  · rcases hx with hx | hx
    · rw [hx]; exact h.apart
    · rw [hx]
      simp only [ne_eq, Option.some.injEq]
      omega

set_option maxRecDepth 100000 in
set_option maxHeartbeats 1000000 in
theorem followed_any (w : World) (base : Nat) (a : Option Addr) (m c : Nat) (q : List UInt8) (hO : Own w base (.slice a m c) q) (hm : q.length = m) (hq : 0 < m) (hb : base ≤ w.heap.size)
    (ad : Option Addr) (n cd : Nat) (l : List (List UInt8)) (hr : RdD w ad n cd l) (hne : 0 < n → ∀ x, ad = some x → (Value.slice a m c).ownBlock ≠ some x.block) (hsz : m + n * 32 ≤ 1000000) :
    Calls Tryd.prog 86 #[.slice a m c, .slice ad n cd] w fun e w' => ∃ a' c', e = .returned (.slice a' (m + n * 32) c') ∧ Own w' base (.slice a' (m + n * 32) c') (q ++ l.flatten) ∧ Below base w w' := by
  have hlen := Lib.hid hr.len
  by_cases h0 : n = 0
  · subst h0
    have hl : l = [] := List.eq_nil_of_length_eq_zero hlen.out
    have HL := Lib.hid hl
    clear hl
    go_enter Tryd.func86, Tryd.ntmps86
    go_wp2_with fail
    refine (sgrow_own w base a m c 0 q hO hm hq hb (by omega)).mono ?_
    rintro e w1 ⟨a1, c1, rfl, hO1, hB1, -⟩
    have hB2 : Below base w w1 := hB1.mono hb
    go_wp2_with fail
    go_loopw [0, 14] (fun v i wr => i = .int .i64 0 ∧ v = .slice a1 m c1 ∧ wr = w1) (fun _ i _ => 0)
    case atStart => exact ⟨rfl, rfl, rfl⟩
    case round =>
      obtain ⟨rfl, rfl, rfl⟩ := hrel
      go_wp2_with fail
      go_ret
      exact ⟨a1, c1, rfl, by rw [HL.out]; simpa using hO1, hB2⟩
  · obtain ⟨b, off, rfl, hlt, hel⟩ := hr.elems (by omega)
    have hne' := hne (by omega) _ rfl
    have hok := hr.ok
    have hoff := hr.max
    clear hne h0
    have HEL := Lib.hid hel
    clear hel
    go_enter Tryd.func86, Tryd.ntmps86
    go_wp2_with fail
    rw [show (n : Int) * 32 = ((n * 32 : Nat) : Int) by omega]
    refine (sgrow_own w base a m c (n * 32) q hO hm hq hb (by omega)).mono ?_
    rintro e w1 ⟨a1, c1, rfl, hO1, hB1, hx1⟩
    have hF1 : Fol w w1 base b off n l q 0 (.slice a1 m c1) q := ⟨hO1, by simp, fun i hi => range_below hB1 (HEL.out i hi), by
      rcases hx1 with hx | hx
      · rw [hx]; exact hne'
      · rw [hx]; simp only [ne_eq, Option.some.injEq]; omega, Nat.lt_of_lt_of_le hlt hB1.size, hB1.mono hb⟩
    have HQ := Lib.hid hm
    clear hO1 hB1 hx1 hne' hm
    go_wp2_with fail
    go_loopw [0, 14] (fun v i wr => ∃ (k m' : Nat) (a' : Option Addr) (c' : Nat) (q' : List UInt8), k ≤ n ∧ i = .int .i64 (k : Int) ∧ v = .slice a' m' c' ∧ Hid (q'.length = m' ∧ m' = m + k * 32) ∧ Fol w wr base b off n l q k (.slice a' m' c') q') (fun _ i _ => n - (intOf i).toNat)
    case atStart => exact ⟨0, m, a1, c1, q, by omega, rfl, rfl, Lib.hid ⟨HQ.out, by omega⟩, hF1⟩
    case round =>
      obtain ⟨k, m', a', c', q', hk, rfl, rfl, HM, hF⟩ := hrel
      by_cases hlt : k < n
      · have hd := hok.at (show k < l.length by rw [hlen.out]; exact hlt)
        have hrg := hF.rng k hlt
        have hkl : (k : Int) < (n : Int) := by omega
        have H5 := Lib.hid (show (Tryd.prog.info? 23).map (·.size) = some (bs (l.getD k [])).length from digP hd)
        have H6 := Lib.hid (show (bs zero32).length = (bs (l.getD k [])).length by rw [bs_length, bs_length, zero32_length, hd])
        have H7 := bs_one (l.getD k [])
        have hFS := Lib.hid (fun (w2 w3 : World) (v3 : Value) => hF.step (w2 := w2) (w3 := w3) (v3 := v3) hb (show k < l.length by rw [hlen.out]; exact hlt))
        have hO := hF.own
        have hq' : q'.length ≤ 1000000 := by have := HM.out; omega
        have hm' : q'.length + 32 ≤ 1000064 := by omega
        have hbs := hF.bel.size
        have hdl : Hid ((l.getD k []).length = 32) := Lib.hid hd
        clear hd
        have HQL : Hid (q'.length = m') := Lib.hid HM.out.1
        generalize l.getD k [] = d at *
        go_wp2_with (first | ((with_reducible refine wpList_loadP (o := ⟨some 17, _, _, _, _, _⟩) ?_ b (off + k * 32) 23 (.tmp 16) ?_ ?_ hrg Tryd.underlying23 ?_ H5.out ?_); rfl; rfl; rfl; rfl) | ((with_reducible refine wpList_allocB (o := ⟨some 6, _, _, _, _, _⟩) ?_ 23 ?_ zeroD_info ?_); rfl; rfl; intro w1 hr1 hg1 hz1) | ((with_reducible refine wpList_storeB (o := ⟨none, .store 23 (.tmp 6) (.tmp 17), _, _, _, _⟩) ?_ 23 (.tmp 6) (.tmp 17) ?_ ?_ ?_ hr1 H5.out H6.out H7 ?_); rfl; rfl; rfl; rfl; intro w2 hr2 hg2 hz2; have hB2 : Below wr.heap.size wr w2 := ((Below.refl _ wr).grown hg1 (Nat.le_refl _) (fun k e => by cases e)).grown hg2 (by omega) (fun k e => by cases e; omega); have hR2 : Rd w2 (some ⟨wr.heap.size, 0, none⟩) 32 32 d := Rd.block hr2.at_ hdl.out (by decide); have hO2 := hO.below hB2; have hbs2 : base ≤ w2.heap.size := by omega) | ((with_reducible refine wpList_app2 (o := ⟨some 20, _, _, _, _, _⟩) ?_ (.tmp 18) (.tmp 19) ?_ ?_ hO2 ?_ hR2 ?_ hbs2 ?_); rfl; rfl; rfl; rfl; omega; intro a3 c3 w3 hO3 hg3 hx3; rw [HQL.out] at hO3 hx3))
        go_roundw
        case rel =>
          have hst := hFS.out w2 w3 _ hB2 hO3 hg3 hx3
          exact ⟨k + 1, m' + 32, a3, c3, q' ++ d, by omega, by go_num, by rw [HQL.out], Lib.hid ⟨by rw [List.length_append, HQL.out, hdl.out], by have := HM.out; omega⟩, hst⟩
        case measure => simp [intOf]; omega
      · obtain rfl : k = n := by omega
        have hkl : ¬ (k : Int) < (k : Int) := by omega
        obtain ⟨h1, h2⟩ := HM.out
        have hO := hF.own
        have hE := hF.eq
        rw [List.take_of_length_le (by rw [hlen.out]; omega)] at hE
        have HE := Lib.hid hE
        clear hE h1
        subst h2
        have hbel := hF.bel
        go_wp2_with fail
        go_ret
        exact ⟨a', c', rfl, by rw [← HE.out]; exact hO, hbel⟩
end
/-! Claims: their cells; a path, a claim and a proof that a call keeps. -/
section
open Go.RowKit
set_option maxRecDepth 100000

/-- a claim's cells -/
def clc (b : Bool) (v : List UInt8) : List Value := .bool b :: bs v
theorem built_clc0 (b : Bool) (f : Fin 32 → UInt8) : Tryd.prog.built 25 [(0, .bool b), (1, .agg (bs (List.ofFn f)).toArray)] = some (Value.bool b :: bs (List.ofFn f)).toArray := by kernel_rfl
theorem built_clc (b : Bool) {v : List UInt8} (hv : v.length = 32) : Tryd.prog.built 25 [(0, .bool b), (1, .agg (bs v).toArray)] = some (clc b v).toArray := by
  obtain ⟨f, rfl⟩ := as_ofFn hv
  exact built_clc0 b f
theorem built_clcZ : Tryd.prog.built 25 [] = some (clc false zero32).toArray := by kernel_rfl
theorem zeroClc_info : (Tryd.prog.info? 25).map (fun i => (i.zero, i.size)) = some (some (.agg (clc false zero32).toArray), 33) := by kernel_rfl
theorem clc_one (b : Bool) (v : List UInt8) : ∀ u ∈ clc b v, u.oneCell' = true := by
  intro u hu
  simp only [clc, List.mem_cons] at hu
  rcases hu with rfl | h
  · rfl
  · exact bs_one _ u h
theorem sizeClc : (Tryd.prog.info? 25).map (·.size) = some 33 := by kernel_rfl
theorem clcZ_len : (clc false zero32).length = 33 := by simp [clc, bs_length, zero32_length]
theorem clc_len {b : Bool} {v : List UInt8} (hv : v.length = 32) : (clc b v).length = 33 := by simp [clc, bs_length, hv]

/-- a call's own path, claim and proof, one behind the other from block B on -/
structure Bx3 (w W : World) (B : Nat) (p : List UInt8) (b : Bool) (v : List UInt8) (P : List Value) : Prop where
  p : Blk W B 23 (bs p)
  c : Blk W (B + 1) 25 (clc b v)
  x : Blk W (B + 2) 28 P
  bel : Below w.heap.size w W
section
variable {w W W' : World} {B : Nat} {p : List UInt8} {b : Bool} {v : List UInt8} {P : List Value}
theorem Bx3.below (h : Bx3 w W B p b v P) (hb : Below W.heap.size W W') : Bx3 w W' B p b v P := ⟨h.p.below hb, h.c.below hb, h.x.below hb, Bt h.bel hb⟩
theorem Bx3.drew (h : Bx3 w W B p b v P) : Bx3 w W.drew B p b v P := h.below ⟨rfl, rfl, rfl, Nat.le_refl _, fun _ _ => rfl⟩
theorem Bx3.start (w0 w : World) (hb : Below w0.heap.size w0 w) (p : List UInt8) (b : Bool) (v : List UInt8) (P : List Value) :
    Bx3 w0 (((w.alloc (.cells (bs p).toArray 23)).alloc (.cells (clc b v).toArray 25)).alloc (.cells P.toArray 28)) w.heap.size p b v P := by
  have h1 := Blk.new (w.alloc (.cells (bs p).toArray 23)) 25 (clc b v)
  have h2 := Blk.new ((w.alloc (.cells (bs p).toArray 23)).alloc (.cells (clc b v).toArray 25)) 28 P
  rw [show (w.alloc (.cells (bs p).toArray 23)).heap.size = w.heap.size + 1 by simp] at h1
  rw [show ((w.alloc (.cells (bs p).toArray 23)).alloc (.cells (clc b v).toArray 25)).heap.size = w.heap.size + 2 by simp] at h2
  have hs := hb.size
  exact ⟨((Blk.new w _ _).alloc _).alloc _, h1.alloc _, h2, ((hb.alloc hs _).alloc (by simp; omega) _).alloc (by simp; omega) _⟩
theorem Bx3.c0 (h : Bx3 w W B p b v P) : W.cell? ⟨B + 1, 0, none⟩ = some (.bool b) := h.c.cell rfl
theorem Bx3.cv (h : Bx3 w W B p b v P) : W.rangeAt (B + 1) 1 (bs v) := h.c.range 1 (fun j _ => by unfold clc; rw [show 1 + j = j + 1 by omega, List.getElem?_cons_succ])
theorem Bx3.pr (h : Bx3 w W B p b v P) : W.rangeAt B 0 (bs p) := h.p.allR
end
section
variable {w W : World} {B : Nat} {p : List UInt8} {b : Bool} {v : List UInt8} {a : Option Addr} {n c : Nat} {x : Pf}
theorem Bx3.x0 (h : Bx3 w W B p b v (pc a n c x)) : W.cell? ⟨B + 2, 0, none⟩ = some (.slice a n c) := h.x.cell rfl
theorem Bx3.x1 (h : Bx3 w W B p b v (pc a n c x)) : W.cell? ⟨B + 2, 1, none⟩ = some (.bool x.other) := h.x.cell rfl
theorem Bx3.xp (h : Bx3 w W B p b v (pc a n c x)) : W.rangeAt (B + 2) 2 (bs x.op) := h.x.range 2 (fun j hj => pc_op _ _ _ _ j hj)
theorem Bx3.xv (h : Bx3 w W B p b v (pc a n c x)) (hp : x.op.length = 32) : W.rangeAt (B + 2) 34 (bs x.ov) := h.x.range 34 (fun j _ => pc_ov _ _ _ _ hp j)
end
theorem infoClc {b : Bool} {v : List UInt8} (hv : v.length = 32) : (Tryd.prog.info? 25).map (·.size) = some (clc b v).length := by rw [clc_len hv]; exact sizeClc
end
end Go.Proofs.YtgbhfpkngjlfkaaDoor
