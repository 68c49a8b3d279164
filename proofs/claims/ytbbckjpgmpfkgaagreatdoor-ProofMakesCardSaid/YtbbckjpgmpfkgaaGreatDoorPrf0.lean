/-
  Proofs of claims: their cells; the walks of package proof that ask nothing of a tree: hasForm, followed; of the library: Grow.
-/
import Derived.Test.YtbbckjpgmpfkgaaGreatDoorLibG
import Derived.Test.YtbbckjpgmpfkgaaGreatDoorLibO
import Derived.Test.YtbbckjpgmpfkgaaGreatDoorOctAB
import Derived.Lib.SliceRun
import Derived.Lib.AppendZerosOnto
namespace Go.Proofs.YtbbckjpgmpfkgaaGreatDoor
open Go.RowKit

/-- a proof of a claim -/
structure Pf where
  sibs : List (List UInt8)
  other : Bool
  op : List UInt8
  ov : List UInt8
structure Pf.ok (x : Pf) : Prop where
  d : okd x.sibs
  p : x.op.length = 32
  v : x.ov.length = 32
/-- a proof's cells; its list of siblings lies at a -/
def pc (a : Option Addr) (n c : Nat) (x : Pf) : List Value := .slice a n c :: .bool x.other :: (bs x.op ++ bs x.ov)
/-- a proof that came in, or that a call handed back -/
structure RdP6 (w : World) (a : Option Addr) (n c : Nat) (x : Pf) : Prop where
  sib : RdD w a n c x.sibs
  p : x.op.length = 32
  v : x.ov.length = 32
theorem RdP6.ok {w : World} {a : Option Addr} {n c : Nat} {x : Pf} (h : RdP6 w a n c x) : x.ok := ⟨h.sib.ok, h.p, h.v⟩
theorem RdP6.below {w w' : World} {a : Option Addr} {n c : Nat} {x : Pf} (h : RdP6 w a n c x) (hb : Below w.heap.size w w') : RdP6 w' a n c x := ⟨h.sib.below hb, h.p, h.v⟩

section
variable (a : Option Addr) (n c : Nat) (x : Pf)
theorem pc_0 : (pc a n c x)[0]? = some (.slice a n c) := rfl
theorem pc_1 : (pc a n c x)[1]? = some (.bool x.other) := rfl
theorem pc_op (j : Nat) (hj : j < (bs x.op).length) : (pc a n c x)[2 + j]? = (bs x.op)[j]? := by
  unfold pc
  rw [show 2 + j = j + 1 + 1 by omega, List.getElem?_cons_succ, List.getElem?_cons_succ, List.getElem?_append_left hj]
theorem pc_ov (hp : x.op.length = 32) (j : Nat) : (pc a n c x)[34 + j]? = (bs x.ov)[j]? := by
  unfold pc
  rw [show 34 + j = 32 + j + 1 + 1 by omega, List.getElem?_cons_succ, List.getElem?_cons_succ, List.getElem?_append_right (by rw [bs_length]; omega), bs_length, hp, Nat.add_sub_cancel_left]
theorem pc_length (hp : x.op.length = 32) (hv : x.ov.length = 32) : (pc a n c x).length = 66 := by simp [pc, bs_length, hp, hv]
theorem pc_one : ∀ u ∈ pc a n c x, u.oneCell' = true := by
  intro u hu
  simp only [pc, List.mem_cons, List.mem_append] at hu
  rcases hu with rfl | rfl | hu | hu
  · rfl
  · rfl
  · exact bs_one _ u hu
  · exact bs_one _ u hu
end
theorem sizeP : (Tryz.prog.info? 29).map (·.size) = some 66 := by kernel_rfl
theorem underP : Tryz.prog.underlying 29 = some (.struct (Tryz.prog.fieldsOf 29)) := by kernel_rfl

/-- a composite literal whose cells are known, under a guard -/
theorem wpList_buildP {w : World} {ops : Array Oper} {rest : List Oper} {o : Oper} {a : Act} {Q : Exit → Act → World → Prop} (hw : Region.wanted o (yielded ops a.tmps) = true) (T : TypeId) (parts : Array (Nat × Operand)) (ho : o.op = .build T parts)
    {vs : List Value} {ps : List (Nat × Value)} (hp : parts.toList.map (fun p => (p.1, a.eval p.2)) = ps) (hb : Tryz.prog.built T ps = some vs.toArray)
    (h : wpList Tryz.prog ops Q rest (a.put o.dst (.agg vs.toArray)) w) : wpList Tryz.prog ops Q (o :: rest) a w := by
  have hb : Tryz.prog.built T (parts.map fun (i, x) => (i, a.eval x)).toList = some vs.toArray := by rw [Array.toList_map]; rw [← hb, ← hp]
  refine wpList_step fun K hK => ?_
  rw [if_pos hw]
  refine wp_build T parts ho (by rw [hb]; rfl) ?_
  rw [hb]
  exact hK _ _ h
/-- a part of a block loaded, behind a guard that says yes -/
theorem wpList_loadP {w : World} {ops : Array Oper} {rest : List Oper} {o : Oper} {a : Act} {Q : Exit → Act → World → Prop} (hw : Region.wanted o (yielded ops a.tmps) = true) (b off : Nat) (ty : TypeId) (x : Operand) (ho : o.op = .load ty x)
    (hx : a.eval x = .pointer (some ⟨b, off, none⟩)) {cs : List Value} {d : TypeDesc} (hc : w.rangeAt b off cs) (hu : Tryz.prog.underlying ty = some d) (hd : d.isRow = true)
    (hi : (Tryz.prog.info? ty).map (·.size) = some cs.length)
    (h : wpList Tryz.prog ops Q rest (a.put o.dst (.agg cs.toArray)) w) : wpList Tryz.prog ops Q (o :: rest) a w :=
  wpList_step fun K hK => by
    rw [if_pos hw]
    exact wp_load_mid ty x ho b off hx cs d hc hu hd hi (hK _ _ h)

/-- a proof has just the fields that it may have -/
def plainB (x : Pf) : Bool := x.other || (x.op == zero32 && x.ov == zero32)
def formB (x : Pf) : Bool := decide (x.sibs.length ≤ 256) && plainB x

/-- what a call knows of its own proof -/
structure PAt (w W : World) (S : Nat) (a : Option Addr) (n c : Nat) (x : Pf) : Prop where
  blk : Blk W S 29 (pc a n c x)
  bel : Below w.heap.size w W
theorem PAt.start (w : World) (a : Option Addr) (n c : Nat) (x : Pf) : PAt w (w.alloc (.cells (pc a n c x).toArray 29)) w.heap.size a n c x :=
  ⟨Blk.new w _ _, (Below.refl _ w).alloc (Nat.le_refl _) _⟩
theorem PAt.below {w W W' : World} {S : Nat} {a : Option Addr} {n c : Nat} {x : Pf} (h : PAt w W S a n c x) (hb : Below W.heap.size W W') : PAt w W' S a n c x := ⟨h.blk.below hb, Bt h.bel hb⟩
theorem PAt.c0 {w W : World} {S : Nat} {a : Option Addr} {n c : Nat} {x : Pf} (h : PAt w W S a n c x) : W.cell? ⟨S, 0, none⟩ = some (.slice a n c) := h.blk.cell rfl
theorem PAt.c1 {w W : World} {S : Nat} {a : Option Addr} {n c : Nat} {x : Pf} (h : PAt w W S a n c x) : W.cell? ⟨S, 1, none⟩ = some (.bool x.other) := h.blk.cell rfl
theorem PAt.rp {w W : World} {S : Nat} {a : Option Addr} {n c : Nat} {x : Pf} (h : PAt w W S a n c x) : W.rangeAt S 2 (bs x.op) := h.blk.range 2 (fun j hj => pc_op _ _ _ _ j hj)
theorem PAt.rv {w W : World} {S : Nat} {a : Option Addr} {n c : Nat} {x : Pf} (h : PAt w W S a n c x) (hp : x.op.length = 32) : W.rangeAt S 34 (bs x.ov) := h.blk.range 34 (fun j _ => pc_ov _ _ _ _ hp j)
theorem digP {d : List UInt8} (h : d.length = 32) : (Tryz.prog.info? 24).map (·.size) = some (bs d).length := by rw [info_digest, bs_length, h]

def pf0 : Pf := ⟨[], false, zero32, zero32⟩
theorem pf0_ok : pf0.ok := ⟨okd.nil, zero32_length, zero32_length⟩
theorem zeroP_info : (Tryz.prog.info? 29).map (fun i => (i.zero, i.size)) = some (some (.agg (pc none 0 0 pf0).toArray), 66) := by kernel_rfl
theorem cells_len {a a' : Option Addr} {n c n' c' : Nat} {x y : Pf} (hx : x.ok) (hy : y.ok) : (pc a n c x).length = (pc a' n' c' y).length := by
  rw [pc_length _ _ _ _ hx.p hx.v, pc_length _ _ _ _ hy.p hy.v]
theorem size_of {a : Option Addr} {n c : Nat} {x : Pf} (hx : x.ok) : (Tryz.prog.info? 29).map (·.size) = some (pc a n c x).length := by rw [sizeP, pc_length _ _ _ _ hx.p hx.v]
/-- what Put knows of a world: its own proof, and the siblings that came in -/
structure PutAt (w W : World) (a : Option Addr) (n c : Nat) (x : Pf) : Prop where
  own : PAt w W w.heap.size a n c x
  rd : RdP6 W a n c x
theorem PutAt.below {w W W' : World} {a : Option Addr} {n c : Nat} {x : Pf} (h : PutAt w W a n c x) (hb : Below W.heap.size W W') : PutAt w W' a n c x := ⟨h.own.below hb, h.rd.below hb⟩

set_option maxRecDepth 100000 in
set_option maxHeartbeats 1000000 in
theorem hasForm_any (w : World) (a : Option Addr) (n c : Nat) (x : Pf) (hx : x.ok) (hn : x.sibs.length = n) :
    Calls Tryz.prog 47 #[.agg (pc a n c x).toArray] w fun e w' => e = .returned (.bool (formB x)) ∧ Below w.heap.size w w' := by
  have hS := PAt.start w a n c x
  have c0 := hS.c0
  have c1 := hS.c1
  have r2 := hS.rp
  have r3 := hS.rv hx.p
  have hB := hS.bel
  have hF : formB x = (decide (n ≤ 256) && (x.other || (x.op == zero32 && x.ov == zero32))) := by rw [formB, plainB, hn]
  have HF := Lib.hid hF
  have H5 := Lib.hid (digP hx.p)
  have H6 := Lib.hid (digP hx.v)
  have HBT := Lib.hid built0
  have E1 := fun W : World => eqInD W x.op zero32 hx.p zero32_length
  have E2 := fun W : World => eqInD W x.ov zero32 hx.v zero32_length
  clear hF hS hn hx
  generalize hP : pc a n c x = P at *
  clear hP
  generalize x.op = p at *
  generalize x.ov = v at *
  generalize x.other = o at *
  generalize formB x = F at *
  generalize (p == zero32) = b1 at *
  generalize (v == zero32) = b2 at *
  by_cases hn : n ≤ 256
  · have hn' : ¬ (256 : Int) < (n : Int) := by omega
    have hnb : decide (n ≤ 256) = true := by simpa using hn
    rw [hnb] at HF
    clear hn hnb
    cases o with
    | true =>
      clear E1 E2
      go_enter Tryz.func47, Tryz.ntmps47
      go_wp2_with fail
      go_ret
      exact ⟨by rw [HF.out]; rfl, hB⟩
    | false =>
      cases b1 with
      | false =>
        go_enter Tryz.func47, Tryz.ntmps47
        have E1' := E1 (w.alloc (.cells P.toArray 29))
        clear E1 E2
        go_wp2_with (first | ((with_reducible refine wpList_loadP (o := ⟨some 11, _, _, _, _, _⟩) ?_ w.heap.size 2 24 (.tmp 10) ?_ ?_ r2 Tryz.underlying24 ?_ H5.out ?_); rfl; rfl; rfl; rfl) | ((with_reducible refine wpList_buildP (o := ⟨some 12, _, _, _, _, _⟩) ?_ 24 #[] ?_ (ps := []) ?_ HBT.out ?_); rfl; rfl; rfl))
        go_ret
        exact ⟨by rw [HF.out]; rfl, hB⟩
      | true =>
        go_enter Tryz.func47, Tryz.ntmps47
        have E1' := E1 (w.alloc (.cells P.toArray 29))
        have E2' := E2 (w.alloc (.cells P.toArray 29))
        clear E1 E2
        go_wp2_with (first | ((with_reducible refine wpList_loadP (o := ⟨some 11, _, _, _, _, _⟩) ?_ w.heap.size 2 24 (.tmp 10) ?_ ?_ r2 Tryz.underlying24 ?_ H5.out ?_); rfl; rfl; rfl; rfl) | ((with_reducible refine wpList_buildP (o := ⟨some 12, _, _, _, _, _⟩) ?_ 24 #[] ?_ (ps := []) ?_ HBT.out ?_); rfl; rfl; rfl) | ((with_reducible refine wpList_loadP (o := ⟨some 16, _, _, _, _, _⟩) ?_ w.heap.size 34 24 (.tmp 15) ?_ ?_ r3 Tryz.underlying24 ?_ H6.out ?_); rfl; rfl; rfl; rfl) | ((with_reducible refine wpList_buildP (o := ⟨some 17, _, _, _, _, _⟩) ?_ 24 #[] ?_ (ps := []) ?_ HBT.out ?_); rfl; rfl; rfl))
        go_ret
        exact ⟨by rw [HF.out]; simp, hB⟩
  · have hn' : (256 : Int) < (n : Int) := by omega
    have hnb : decide (n ≤ 256) = false := by simpa using hn
    rw [hnb] at HF
    clear hn hnb E1 E2
    go_enter Tryz.func47, Tryz.ntmps47
    go_wp2_with fail
    go_ret
    exact ⟨by rw [HF.out]; rfl, hB⟩
end Go.Proofs.YtbbckjpgmpfkgaaGreatDoor
