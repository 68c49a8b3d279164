/-
  Leaves held against each other; loads of parts of blocks in regions that draw.
-/
import Derived.Test.YtgbhfpkngjlfkaaDoorLibL
import Derived.Deep.RegionHeld3
namespace Go.Proofs.YtgbhfpkngjlfkaaDoor
open Go.RowKit

theorem leaf_fields : (Tryd.prog.fieldsOf 46).toList.map (fun f => (f.name, f.type, f.offset)) = [("Path", 23, 0), ("Value", 23, 32)] := by kernel_rfl
theorem leaf_under : Tryd.prog.underlying 46 = some (.struct (Tryd.prog.fieldsOf 46)) := by kernel_rfl
theorem leaf_free : Tryd.prog.stoodInHeld 46 = false := by kernel_rfl
theorem guardL : Tryd.prog.eqGuardType Tryd.prog.depth 46 = false := by kernel_rfl
theorem guardR : Tryd.prog.eqGuardType Tryd.prog.depth 23 = false := by kernel_rfl

theorem part_digest (w : World) (cs : List Value) (o : Nat) : (part 23 cs.toArray o).run Tryd.prog w = .ok (.agg (cs.toArray.extract o (o + 32))) w := by
  have hagg : (isAgg 23).run Tryd.prog w = .ok true w := by
    unfold isAgg
    rw [Sem.run_bind, run_underlying Tryd.underlying23 w]
    rfl
  simp [part, hagg]
theorem lc_path {x : Lf} (h : x.ok) : (lc x).toArray.extract 0 (0 + 32) = (bs x.path).toArray := by
  simp [lc, bs_length, h.1]
theorem lc_val {x : Lf} (h : x.ok) : (lc x).toArray.extract 32 (32 + 32) = (bs x.val).toArray := by
  have hv : List.take 32 (bs x.val) = bs x.val := List.take_of_length_le (by simp [bs_length, h.2])
  simp [lc, bs_length, h.1, hv]

/-- two leaves held against each other -/
def sameLf (x y : Lf) : Bool := x.path == y.path && x.val == y.val
theorem eqInL (w : World) (x y : Lf) (hx : x.ok) (hy : y.ok) : (Op.equalIn 10000 46 (.agg (lc x).toArray) (.agg (lc y).toArray)).run Tryd.prog w = .ok (sameLf x y) w := by
  rw [run_equalIn_struct (P := Tryd.prog) w 9999 46 _ _ leaf_under leaf_free]
  have hf := leaf_fields
  generalize (Tryd.prog.fieldsOf 46).toList = fs at hf
  obtain ⟨f, g, rfl⟩ : ∃ f g, fs = [f, g] := by
    match fs with
    | [f, g] => exact ⟨f, g, rfl⟩
    | [] => simp at hf
    | [_] => simp at hf
    | _ :: _ :: _ :: _ => simp at hf
  simp only [List.map_cons, List.map_nil, List.cons.injEq, Prod.mk.injEq, and_true] at hf
  obtain ⟨⟨f1, f2, f3⟩, g1, g2, g3⟩ := hf
  have e1 : (Op.equalIn 9999 23 (.agg (bs x.path).toArray) (.agg (bs y.path).toArray)).run Tryd.prog w = .ok (x.path == y.path) w :=
    run_equalIn_bytes (P := Tryd.prog) w 9997 23 5 32 Tryd.underlying23 Tryd.underlying5 sizeU8 x.path y.path hx.1 hy.1
  have e2 : (Op.equalIn 9999 23 (.agg (bs x.val).toArray) (.agg (bs y.val).toArray)).run Tryd.prog w = .ok (x.val == y.val) w :=
    run_equalIn_bytes (P := Tryd.prog) w 9997 23 5 32 Tryd.underlying23 Tryd.underlying5 sizeU8 x.val y.val hx.2 hy.2
  have d1 : ("Path" : String) ≠ "_" := by decide
  have d2 : ("Value" : String) ≠ "_" := by decide
  unfold Op.eqFields
  rw [f1, f2, f3, if_pos d1]
  simp only [Sem.run_bind, part_digest, Result.andThen_ok, lc_path hx, lc_path hy, e1]
  unfold Op.eqFields
  rw [g1, g2, g3, if_pos d2]
  unfold sameLf
  cases h1 : (x.path == y.path)
  · simp
  · simp only [Bool.not_true, Bool.false_eq_true, if_false, Sem.run_bind, part_digest, Result.andThen_ok, lc_val hx, lc_val hy, e2]
    cases h2 : (x.val == y.val)
    · simp
    · simp [Op.eqFields]
theorem neqL (w : World) (x y : Lf) (hx : x.ok) (hy : y.ok) : (binOp .neq 46 (.agg (lc x).toArray) (.agg (lc y).toArray)).run Tryd.prog w = .ok (.bool (!sameLf x y)) w := by
  rw [run_neq_struct, eqInL w x y hx hy]
  rfl
theorem eqL (w : World) (x y : Lf) (hx : x.ok) (hy : y.ok) : (binOp .eql 46 (.agg (lc x).toArray) (.agg (lc y).toArray)).run Tryd.prog w = .ok (.bool (sameLf x y)) w := by
  rw [run_eql_struct, eqInL w x y hx hy]
  rfl

/-- two arrays held against each other, in whatever world -/
theorem yieldsIf_eqE {ops : Array Oper} {S : World → Prop} {o : Oper} {a : Act} (hw : Region.wanted o (yielded ops a.tmps) = true) (op : BinOp) (t t' : TypeId) (x y : Operand) (ho : o.op = .binOp op t x y t')
    (xs ys : Array Value) (hx : a.eval x = .agg xs) (hy : a.eval y = .agg ys) (hm : Tryd.prog.eqGuardType Tryd.prog.depth t = false) (v : Value) (hrun : ∀ W : World, (binOp op t (.agg xs) (.agg ys)).run Tryd.prog W = .ok v W) :
    YieldsIf Tryd.prog ops S o v a :=
  .inl ⟨hw, fun W _ => by simp [execOp, ho, hx, hy, run_eqGuard_agg W op t x y xs ys hm, hrun]⟩
end Go.Proofs.YtgbhfpkngjlfkaaDoor
