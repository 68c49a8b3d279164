/-
  Versions: their cells; slices of them; two held against each other.
-/
import Derived.Test.YtoclahcibilbhaaGreatLibR
import Derived.ChangeKeysEq
namespace Go.Proofs.YtoclahcibilbhaaGreat
open Go.RowKit
set_option maxRecDepth 100000

structure Vn where
  ep : Int
  kd : Int
  key : ByteArray
def vn0 : Vn := ⟨0, 0, ByteArray.empty⟩
def vc (x : Vn) : List Value := [.int .i64 x.ep, .int .i64 x.kd, .string x.key]
theorem vc_one (x : Vn) : ∀ u ∈ vc x, u.oneCell' = true := by
  intro u hu
  simp only [vc, List.mem_cons, List.not_mem_nil, or_false] at hu
  rcases hu with rfl | rfl | rfl <;> rfl
theorem underV : Tryz.prog.underlying 103 = some (.struct (Tryz.prog.fieldsOf 103)) := by kernel_rfl
theorem infoV : (Tryz.prog.info? 103).map (fun i => (i.zero, i.size, i.bytes)) = some (some (.agg (vc vn0).toArray), 3, 32) := by kernel_rfl
theorem underVs : Tryz.prog.underlying 95 = some (.slice 103) := by kernel_rfl
noncomputable def verR : Row Vn where
  T := 103
  S := 95
  k := 3
  b := 32
  cs := vc
  ok := fun _ => True
  x0 := vn0
  z := .agg (vc vn0).toArray
  pos := by decide
  klt := by decide
  small := by decide
  len := fun _ _ => rfl
  one := vc_one
  und := underVs
  info := infoV
  zc := rfl
abbrev RdV := RdG verR
abbrev OwnV := OwnG verR
noncomputable abbrev vcs (l : List Vn) : List Value := verR.cells l
theorem okv (l : List Vn) : verR.all l := fun _ _ => trivial
theorem RdV.elems {w : World} {a : Option Addr} {n c : Nat} {l : List Vn} (h : RdV w a n c l) (hn : 0 < n) : ∃ b off, a = some ⟨b, off, none⟩ ∧ b < w.heap.size ∧ ∀ i, i < n → w.rangeAt b (off + i * 3) (vc (l.getD i vn0)) := RdG.elems h hn
theorem vc_built : Tryz.prog.built 103 [] = some (vc vn0).toArray := by kernel_rfl
section
variable {w : World} {b o : Nat} {x : Vn} (h : w.rangeAt b o (vc x))
include h
theorem vr_ep : w.cell? ⟨b, o, none⟩ = some (.int .i64 x.ep) := h 0 _ rfl
theorem vr_kd : w.cell? ⟨b, o + 1, none⟩ = some (.int .i64 x.kd) := h 1 _ rfl
theorem vr_key : w.cell? ⟨b, o + 2, none⟩ = some (.string x.key) := h 2 _ rfl
end

/-- a call's own version -/
structure VAt (w W : World) (S : Nat) (x : Vn) : Prop where
  blk : Blk W S 103 (vc x)
  bel : Below w.heap.size w W
section
variable {w W W' : World} {S : Nat} {x : Vn}
theorem VAt.start (w : World) (x : Vn) : VAt w (w.alloc (.cells (vc x).toArray 103)) w.heap.size x := ⟨Blk.new w _ _, (Below.refl _ w).alloc (Nat.le_refl _) _⟩
theorem VAt.below (h : VAt w W S x) (hb : Below W.heap.size W W') : VAt w W' S x := ⟨h.blk.below hb, Bt h.bel hb⟩
theorem Blk.v0 (h : Blk W S 103 (vc x)) : W.cell? ⟨S, 0, none⟩ = some (.int .i64 x.ep) := h.cell rfl
theorem Blk.v1 (h : Blk W S 103 (vc x)) : W.cell? ⟨S, 1, none⟩ = some (.int .i64 x.kd) := h.cell rfl
theorem Blk.v2 (h : Blk W S 103 (vc x)) : W.cell? ⟨S, 2, none⟩ = some (.string x.key) := h.cell rfl
theorem Blk.vr (h : Blk W S 103 (vc x)) : W.rangeAt S 0 (vc x) := h.range 0 (fun j hj => by simp)
end

/-! the arms of walks over versions, types written out -/
section
variable {w : World} {ops : Array Oper} {rest : List Oper} {o : Oper} {a : Act} {Q : Exit → Act → World → Prop}
theorem wpList_allocV (hgd : o.guard = none) (ho : o.op = .alloc 103)
    (h : ∀ w', Blk w' w.heap.size 103 (vc vn0) → w.grownBy w' none → w'.heap.size = w.heap.size + 1 → wpList Tryz.prog ops Q rest (a.put o.dst (.pointer (some ⟨w.heap.size, 0, none⟩))) w') : wpList Tryz.prog ops Q (o :: rest) a w :=
  wpList_allocG verR hgd ho rfl h
theorem wpList_storeV (hgd : o.guard = none) (x y : Operand) (ho : o.op = .store 103 x y) (e : Vn)
    {g : Nat} {old : Vn} {t : TypeId} (hx : a.eval x = .pointer (some ⟨g, 0, none⟩)) (hy : a.eval y = .agg (vc e).toArray) (hg : Blk w g t (vc old))
    (h : ∀ w', Blk w' g t (vc e) → w.grownBy w' (some g) → w'.heap.size = w.heap.size → wpList Tryz.prog ops Q rest (a.put o.dst undef) w') : wpList Tryz.prog ops Q (o :: rest) a w :=
  wpList_storeG verR hgd x y ho (e := e) hx hy hg trivial rfl h
theorem wpList_loadV (hw : Region.wanted o (yielded ops a.tmps) = true) (b off : Nat) (x : Operand) (ho : o.op = .load 103 x)
    (hx : a.eval x = .pointer (some ⟨b, off, none⟩)) {y : Vn} (hc : w.rangeAt b off (vc y))
    (h : wpList Tryz.prog ops Q rest (a.put o.dst (.agg (vc y).toArray)) w) : wpList Tryz.prog ops Q (o :: rest) a w :=
  wpList_loadGR verR hw b off x ho hx trivial hc underV rfl h
theorem wpList_oneV (hgd : o.guard = none) (x1 : Operand) (ho : o.op = .buildSlice 95 1 #[(0, x1)])
    (y1 : Vn) (hx1 : a.eval x1 = .agg (vc y1).toArray)
    (h : ∀ w', RdV w' (some ⟨w.heap.size, 0, none⟩) 1 1 [y1] → Below w.heap.size w w' → w'.heap.size = w.heap.size + 1 → wpList Tryz.prog ops Q rest (a.put o.dst (.slice (some ⟨w.heap.size, 0, none⟩) 1 1)) w') : wpList Tryz.prog ops Q (o :: rest) a w :=
  wpList_oneG verR hgd x1 ho trivial hx1 (h _ (RdG.many w (okv _) rfl (by decide)) ((Below.refl _ w).alloc (Nat.le_refl _) _) (by simp))
theorem wpList_oneVg (hw : Region.wanted o (yielded ops a.tmps) = true) (x1 : Operand) (ho : o.op = .buildSlice 95 1 #[(0, x1)])
    (y1 : Vn) (hx1 : a.eval x1 = .agg (vc y1).toArray)
    (h : ∀ w', RdV w' (some ⟨w.heap.size, 0, none⟩) 1 1 [y1] → Below w.heap.size w w' → w'.heap.size = w.heap.size + 1 → wpList Tryz.prog ops Q rest (a.put o.dst (.slice (some ⟨w.heap.size, 0, none⟩) 1 1)) w') : wpList Tryz.prog ops Q (o :: rest) a w :=
  wpList_step fun K hK => by
    rw [if_pos hw]
    exact wp_manyG verR 1 _ ho (Row.all.single trivial) rfl (by decide) (by decide) (by simp [hx1]; rfl) (hK _ _ (h _ (RdG.many w (okv _) rfl (by decide)) ((Below.refl _ w).alloc (Nat.le_refl _) _) (by simp)))
theorem wpList_twoV (hgd : o.guard = none) (x1 x2 : Operand) (ho : o.op = .buildSlice 95 2 #[(0, x1), (1, x2)])
    (y1 y2 : Vn) (hx1 : a.eval x1 = .agg (vc y1).toArray) (hx2 : a.eval x2 = .agg (vc y2).toArray)
    (h : ∀ w', RdV w' (some ⟨w.heap.size, 0, none⟩) 2 2 [y1, y2] → Below w.heap.size w w' → w'.heap.size = w.heap.size + 1 → wpList Tryz.prog ops Q rest (a.put o.dst (.slice (some ⟨w.heap.size, 0, none⟩) 2 2)) w') : wpList Tryz.prog ops Q (o :: rest) a w :=
  wpList_twoG verR hgd x1 x2 ho (okv _) hx1 hx2 (h _ (RdG.many w (okv _) rfl (by decide)) ((Below.refl _ w).alloc (Nat.le_refl _) _) (by simp))
theorem wpList_appV (hgd : o.guard = none) (s x : Operand)
    (ho : o.op = Op.call { callee := Callee.builtin Builtin.append, args := #[s, x], argTypes := #[95, 95] })
    {base : Nat} {v : Value} {q l : List Vn} {ao : Option Addr} {n c : Nat} (hs : a.eval s = v) (hO : OwnV w base v q) (hx : a.eval x = .slice ao n c) (hR : RdV w ao n c l)
    (hsz : q.length + n ≤ 1000000) (hbase : base ≤ w.heap.size)
    (hK : ∀ ao' c' w', OwnV w' base (.slice ao' (q.length + n) c') (q ++ l) → w.grownBy w' v.ownBlock → ((Value.slice ao' (q.length + n) c').ownBlock = v.ownBlock ∨ (Value.slice ao' (q.length + n) c').ownBlock = some w.heap.size) → wpList Tryz.prog ops Q rest (a.put o.dst (.slice ao' (q.length + n) c')) w') :
    wpList Tryz.prog ops Q (o :: rest) a w := wpList_appG verR hgd s x ho hs hO hx hR hsz hbase hK
theorem wp_appV {K : Act → World → Prop} (s x : Operand)
    (ho : o.op = Op.call { callee := Callee.builtin Builtin.append, args := #[s, x], argTypes := #[95, 95] })
    {base : Nat} {v : Value} {q l : List Vn} {ao : Option Addr} {n c : Nat} (hs : a.eval s = v) (hO : OwnV w base v q) (hx : a.eval x = .slice ao n c) (hR : RdV w ao n c l)
    (hsz : q.length + n ≤ 1000000) (hbase : base ≤ w.heap.size)
    (hK : ∀ ao' c' w', OwnV w' base (.slice ao' (q.length + n) c') (q ++ l) → w.grownBy w' v.ownBlock → ((Value.slice ao' (q.length + n) c').ownBlock = v.ownBlock ∨ (Value.slice ao' (q.length + n) c').ownBlock = some w.heap.size) → K (a.put o.dst (.slice ao' (q.length + n) c')) w') :
    Oper.wp Tryz.prog o a w K Q := wp_appG verR s x ho hs hO hx hR hsz hbase hK
theorem wp_oneV {K : Act → World → Prop} (x1 : Operand) (ho : o.op = .buildSlice 95 1 #[(0, x1)]) (y1 : Vn) (hx1 : a.eval x1 = .agg (vc y1).toArray)
    (h : ∀ w', RdV w' (some ⟨w.heap.size, 0, none⟩) 1 1 [y1] → Below w.heap.size w w' → w'.heap.size = w.heap.size + 1 → K (a.put o.dst (.slice (some ⟨w.heap.size, 0, none⟩) 1 1)) w') : Oper.wp Tryz.prog o a w K Q :=
  wp_manyG verR 1 _ ho (Row.all.single trivial) rfl (by decide) (by decide) (by simp [hx1]; rfl) (h _ (RdG.many w (okv _) rfl (by decide)) ((Below.refl _ w).alloc (Nat.le_refl _) _) (by simp))
theorem yieldsIf_loadV {S : World → Prop} (hw : Region.wanted o (yielded ops a.tmps) = true) (b off : Nat) (x : Operand) (ho : o.op = .load 103 x)
    (hx : a.eval x = .pointer (some ⟨b, off, none⟩)) {y : Vn} (hc : ∀ W, S W → W.rangeAt b off (vc y)) : YieldsIf Tryz.prog ops S o (.agg (vc y).toArray) a :=
  yieldsIf_loadG verR hw b off x ho hx trivial hc underV rfl
theorem bodyPost_V {fn : Func} {R : Ending → World → Prop} {p : Tmp} {g : Nat} {t : TypeId} {x : Vn} (hg : Blk w g t (vc x)) (h : fn.results = #[.cell p 103]) (hp : a.tmps.getD p undef = .pointer (some ⟨g, 0, none⟩)) (hdef : a.defers = [])
    (hR : R (.returned (.agg (vc x).toArray)) w) : bodyPost Tryz.prog fn R .ret a w :=
  bodyPost_blk hg underV (by kernel_rfl) h hp rfl hdef hR
end

/-! two versions held against each other -/
def sameVn (x y : Vn) : Bool := x.ep == y.ep && x.kd == y.kd && x.key.toList == y.key.toList
theorem sameVn_iff (x y : Vn) : sameVn x y = true ↔ x = y := by
  obtain ⟨a, b, c⟩ := x
  obtain ⟨a', b', c'⟩ := y
  simp only [sameVn, Bool.and_eq_true, beq_iff_eq, Vn.mk.injEq, ByteArray.toList_eq]
  constructor
  · rintro ⟨⟨h1, h2⟩, h3⟩
    exact ⟨h1, h2, by cases c; cases c'; simp at h3; rw [h3]⟩
  · rintro ⟨h1, h2, h3⟩
    exact ⟨⟨h1, h2⟩, by rw [h3]⟩
theorem sameVn_refl (x : Vn) : sameVn x x = true := (sameVn_iff x x).2 rfl
theorem ver_fields : (Tryz.prog.fieldsOf 103).toList.map (fun f => (f.name, f.type, f.offset)) = [("Epoch", 3, 0), ("Kind", 101, 1), ("Key", 9, 2)] := by kernel_rfl
theorem ver_free : Tryz.prog.stoodInHeld 103 = false := by kernel_rfl
theorem guardV : Tryz.prog.eqGuardType Tryz.prog.depth 103 = false := by kernel_rfl
theorem partV (w : World) (x : Vn) : (part 3 (vc x).toArray 0).run Tryz.prog w = .ok (.int .i64 x.ep) w ∧ (part 101 (vc x).toArray 1).run Tryz.prog w = .ok (.int .i64 x.kd) w ∧ (part 9 (vc x).toArray 2).run Tryz.prog w = .ok (.string x.key) w :=
  ⟨run_part_plain w (by kernel_rfl) rfl, run_part_plain w (by kernel_rfl) rfl, run_part_plain w (by kernel_rfl) rfl⟩
theorem eqInV (w : World) (x y : Vn) : (Op.equalIn 10000 103 (.agg (vc x).toArray) (.agg (vc y).toArray)).run Tryz.prog w = .ok (sameVn x y) w := by
  rw [run_equalIn_struct (P := Tryz.prog) w 9999 103 _ _ underV ver_free]
  have hf := ver_fields
  generalize (Tryz.prog.fieldsOf 103).toList = fs at hf
  obtain ⟨f, g, h, rfl⟩ : ∃ f g h, fs = [f, g, h] := by
    match fs with
    | [f, g, h] => exact ⟨f, g, h, rfl⟩
    | [] => simp at hf
    | [_] => simp at hf
    | [_, _] => simp at hf
    | _ :: _ :: _ :: _ :: _ => simp at hf
  simp only [List.map_cons, List.map_nil, List.cons.injEq, Prod.mk.injEq, and_true] at hf
  obtain ⟨⟨f1, f2, f3⟩, ⟨g1, g2, g3⟩, h1, h2, h3⟩ := hf
  have e1 : (Op.equalIn 9999 3 (.int .i64 x.ep) (.int .i64 y.ep)).run Tryz.prog w = .ok (x.ep == y.ep) w := run_equalIn_int w _ _ _ _ _ _ Tryz.underlying3
  have e2 : (Op.equalIn 9999 101 (.int .i64 x.kd) (.int .i64 y.kd)).run Tryz.prog w = .ok (x.kd == y.kd) w := run_equalIn_int w _ _ _ _ _ _ Tryz.underlying101
  have e3 : (Op.equalIn 9999 9 (.string x.key) (.string y.key)).run Tryz.prog w = .ok (x.key.toList == y.key.toList) w := run_equalIn_string w _ _ _ _ Tryz.underlying9
  obtain ⟨p1, p2, p3⟩ := partV w x
  obtain ⟨q1, q2, q3⟩ := partV w y
  have d1 : ("Epoch" : String) ≠ "_" := by decide
  have d2 : ("Kind" : String) ≠ "_" := by decide
  have d3 : ("Key" : String) ≠ "_" := by decide
  unfold Op.eqFields
  rw [f1, f2, f3, if_pos d1]
  simp only [Sem.run_bind, p1, q1, Result.andThen_ok, e1]
  unfold Op.eqFields
  rw [g1, g2, g3, if_pos d2]
  unfold sameVn
  cases k1 : (x.ep == y.ep)
  · simp
  · simp only [Bool.not_true, Bool.false_eq_true, if_false, Sem.run_bind, p2, q2, Result.andThen_ok, e2]
    unfold Op.eqFields
    rw [h1, h2, h3, if_pos d3]
    cases k2 : (x.kd == y.kd)
    · simp
    · simp only [Bool.not_true, Bool.false_eq_true, if_false, Sem.run_bind, p3, q3, Result.andThen_ok, e3]
      cases k3 : (x.key.toList == y.key.toList)
      · simp
      · simp [Op.eqFields]
theorem neqV (w : World) (x y : Vn) : (binOp .neq 103 (.agg (vc x).toArray) (.agg (vc y).toArray)).run Tryz.prog w = .ok (.bool (!sameVn x y)) w := by
  rw [run_neq_struct, eqInV w x y]
  rfl
end Go.Proofs.YtoclahcibilbhaaGreat
