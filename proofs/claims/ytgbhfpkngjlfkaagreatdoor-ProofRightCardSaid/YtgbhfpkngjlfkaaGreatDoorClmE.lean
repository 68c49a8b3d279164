/-
  Claims held against each other.
-/
import Derived.Test.YtgbhfpkngjlfkaaGreatDoorPrfC
import Derived.Test.YtgbhfpkngjlfkaaGreatDoorLibE
namespace Go.Proofs.YtgbhfpkngjlfkaaGreatDoor
open Go.RowKit
set_option maxRecDepth 100000

theorem claim_fields : (Tryz.prog.fieldsOf 26).toList.map (fun f => (f.name, f.type, f.offset)) = [("Present", 4, 0), ("Value", 24, 1)] := by kernel_rfl
theorem claim_under : Tryz.prog.underlying 26 = some (.struct (Tryz.prog.fieldsOf 26)) := by kernel_rfl
theorem claim_free : Tryz.prog.stoodInHeld 26 = false := by kernel_rfl
theorem guardC : Tryz.prog.eqGuardType Tryz.prog.depth 26 = false := by kernel_rfl
theorem part_bool (w : World) (b : Bool) (cs : List Value) : (part 4 (Value.bool b :: cs).toArray 0).run Tryz.prog w = .ok (.bool b) w := by
  have hagg : (isAgg 4).run Tryz.prog w = .ok false w := by
    unfold isAgg
    rw [Sem.run_bind, run_underlying Tryz.underlying4 w]
    rfl
  simp [part, hagg]
theorem clc_val {b : Bool} {v : List UInt8} (h : v.length = 32) : (clc b v).toArray.extract 1 (1 + 32) = (bs v).toArray := by
  have hv : List.take 32 (bs v) = bs v := List.take_of_length_le (by simp [bs_length, h])
  simp [clc, hv]
def sameCl (b : Bool) (v : List UInt8) (b' : Bool) (v' : List UInt8) : Bool := b == b' && v == v'
theorem eqInC (w : World) (b b' : Bool) (v v' : List UInt8) (h : v.length = 32) (h' : v'.length = 32) : (Op.equalIn 10000 26 (.agg (clc b v).toArray) (.agg (clc b' v').toArray)).run Tryz.prog w = .ok (sameCl b v b' v') w := by
  rw [run_equalIn_struct (P := Tryz.prog) w 9999 26 _ _ claim_under claim_free]
  have hf := claim_fields
  generalize (Tryz.prog.fieldsOf 26).toList = fs at hf
  obtain ⟨f, g, rfl⟩ : ∃ f g, fs = [f, g] := by
    match fs with
    | [f, g] => exact ⟨f, g, rfl⟩
    | [] => simp at hf
    | [_] => simp at hf
    | _ :: _ :: _ :: _ => simp at hf
  simp only [List.map_cons, List.map_nil, List.cons.injEq, Prod.mk.injEq, and_true] at hf
  obtain ⟨⟨f1, f2, f3⟩, g1, g2, g3⟩ := hf
  have e1 : (Op.equalIn 9999 4 (.bool b) (.bool b')).run Tryz.prog w = .ok (b == b') w := run_equalIn_bool (P := Tryz.prog) w 9998 4 b b' Tryz.underlying4
  have e2 : (Op.equalIn 9999 24 (.agg (bs v).toArray) (.agg (bs v').toArray)).run Tryz.prog w = .ok (v == v') w :=
    run_equalIn_bytes (P := Tryz.prog) w 9997 24 5 32 Tryz.underlying24 Tryz.underlying5 sizeU8 v v' h h'
  have d1 : ("Present" : String) ≠ "_" := by decide
  have d2 : ("Value" : String) ≠ "_" := by decide
  have p1 : (part 4 (clc b v).toArray 0).run Tryz.prog w = .ok (.bool b) w := part_bool w b (bs v)
  have p2 : (part 4 (clc b' v').toArray 0).run Tryz.prog w = .ok (.bool b') w := part_bool w b' (bs v')
  unfold Op.eqFields
  rw [f1, f2, f3, if_pos d1]
  simp only [Sem.run_bind, p1, p2, Result.andThen_ok, e1]
  unfold Op.eqFields
  rw [g1, g2, g3, if_pos d2]
  unfold sameCl
  cases h1 : (b == b')
  · simp
  · simp only [Bool.not_true, Bool.false_eq_true, if_false, Sem.run_bind, part_digest, Result.andThen_ok, clc_val h, clc_val h', e2]
    cases h2 : (v == v')
    · simp
    · simp [Op.eqFields]
theorem eqC (w : World) (b b' : Bool) (v v' : List UInt8) (h : v.length = 32) (h' : v'.length = 32) : (binOp .eql 26 (.agg (clc b v).toArray) (.agg (clc b' v').toArray)).run Tryz.prog w = .ok (.bool (sameCl b v b' v')) w := by
  rw [run_eql_struct, eqInC w b b' v v' h h']
  rfl
theorem sameCl_self (b : Bool) (v : List UInt8) : sameCl b v b v = true := by simp [sameCl]
end Go.Proofs.YtgbhfpkngjlfkaaGreatDoor
