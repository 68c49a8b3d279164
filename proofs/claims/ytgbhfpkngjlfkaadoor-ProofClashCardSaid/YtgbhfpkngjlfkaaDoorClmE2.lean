/-
  Prf6 ClmE, in one text.
-/
import Derived.Test.YtgbhfpkngjlfkaaDoorCon04A
import Derived.Test.YtgbhfpkngjlfkaaDoorPrfC
import Derived.Test.YtgbhfpkngjlfkaaDoorLibE
namespace Go.Proofs.YtgbhfpkngjlfkaaDoor
/-! The walks of package proof: bitIs1. -/
section
open Go.RowKit

set_option maxRecDepth 100000 in
set_option maxHeartbeats 1000000 in
theorem pbit_any (w : World) (p : List UInt8) (hp : p.length = 32) (i : Nat) (hi : i < 256) :
    Calls Tryd.prog 59 #[.agg (bs p).toArray, .int .i64 (i : Int)] w fun e w' => e = .returned (.bool (bitAt p i == 1)) ∧ Below w.heap.size w w' := by
  have H5 := Lib.hid (show (Tryd.prog.info? 23).map (·.size) = some (bs p).length by rw [info_digest, bs_length, hp])
  have hb0 := Blk.new w 23 (bs p)
  have hB0 : Below w.heap.size w (w.alloc (.cells (bs p).toArray 23)) := (Below.refl _ w).alloc (Nat.le_refl _) _
  have HB := Lib.hid (fun W : World => bit_any W p hp i hi)
  have h2 : bitAt p i = 0 ∨ bitAt p i = 1 := by have := bitAt_lt p i; omega
  generalize bitAt p i = b at *
  go_enter Tryd.func59, Tryd.ntmps59
  go_wp2_with ((with_reducible refine wpList_loadB (o := ⟨some 8, _, _, _, _, _⟩) ?_ 23 (.tmp 2) ?_ ?_ hb0 Tryd.underlying23 ?_ H5.out ?_); rfl; rfl; rfl; rfl)
  generalize w.alloc _ = w0 at *
  refine (HB.out w0).mono ?_
  rintro e w1 ⟨rfl, hB1⟩
  have hC := Bt hB0 hB1
  rcases h2 with rfl | rfl
  · go_wp2_with fail
    go_ret
    exact ⟨rfl, hC⟩
  · go_wp2_with fail
    go_ret
    exact ⟨rfl, hC⟩
end
/-! Claims held against each other. -/
section
open Go.RowKit
set_option maxRecDepth 100000

theorem claim_fields : (Tryd.prog.fieldsOf 25).toList.map (fun f => (f.name, f.type, f.offset)) = [("Present", 4, 0), ("Value", 23, 1)] := by kernel_rfl
theorem claim_under : Tryd.prog.underlying 25 = some (.struct (Tryd.prog.fieldsOf 25)) := by kernel_rfl
theorem claim_free : Tryd.prog.stoodInHeld 25 = false := by kernel_rfl
theorem guardC : Tryd.prog.eqGuardType Tryd.prog.depth 25 = false := by kernel_rfl
theorem part_bool (w : World) (b : Bool) (cs : List Value) : (part 4 (Value.bool b :: cs).toArray 0).run Tryd.prog w = .ok (.bool b) w := by
  have hagg : (isAgg 4).run Tryd.prog w = .ok false w := by
    unfold isAgg
    rw [Sem.run_bind, run_underlying Tryd.underlying4 w]
    rfl
  simp [part, hagg]
theorem clc_val {b : Bool} {v : List UInt8} (h : v.length = 32) : (clc b v).toArray.extract 1 (1 + 32) = (bs v).toArray := by
  have hv : List.take 32 (bs v) = bs v := List.take_of_length_le (by simp [bs_length, h])
  simp [clc, hv]
def sameCl (b : Bool) (v : List UInt8) (b' : Bool) (v' : List UInt8) : Bool := b == b' && v == v'
theorem eqInC (w : World) (b b' : Bool) (v v' : List UInt8) (h : v.length = 32) (h' : v'.length = 32) : (Op.equalIn 10000 25 (.agg (clc b v).toArray) (.agg (clc b' v').toArray)).run Tryd.prog w = .ok (sameCl b v b' v') w := by
  rw [run_equalIn_struct (P := Tryd.prog) w 9999 25 _ _ claim_under claim_free]
  have hf := claim_fields
  generalize (Tryd.prog.fieldsOf 25).toList = fs at hf
  obtain ⟨f, g, rfl⟩ : ∃ f g, fs = [f, g] := by
    match fs with
    | [f, g] => exact ⟨f, g, rfl⟩
    | [] => simp at hf
    | [_] => simp at hf
    | _ :: _ :: _ :: _ => simp at hf
  simp only [List.map_cons, List.map_nil, List.cons.injEq, Prod.mk.injEq, and_true] at hf
  obtain ⟨⟨f1, f2, f3⟩, g1, g2, g3⟩ := hf
  have e1 : (Op.equalIn 9999 4 (.bool b) (.bool b')).run Tryd.prog w = .ok (b == b') w := run_equalIn_bool (P := Tryd.prog) w 9998 4 b b' Tryd.underlying4
  have e2 : (Op.equalIn 9999 23 (.agg (bs v).toArray) (.agg (bs v').toArray)).run Tryd.prog w = .ok (v == v') w :=
    run_equalIn_bytes (P := Tryd.prog) w 9997 23 5 32 Tryd.underlying23 Tryd.underlying5 sizeU8 v v' h h'
  have d1 : ("Present" : String) ≠ "_" := by decide
  have d2 : ("Value" : String) ≠ "_" := by decide
  have p1 : (part 4 (clc b v).toArray 0).run Tryd.prog w = .ok (.bool b) w := part_bool w b (bs v)
  have p2 : (part 4 (clc b' v').toArray 0).run Tryd.prog w = .ok (.bool b') w := part_bool w b' (bs v')
  unfold Op.eqFields
  rw [f1, f2, f3, if_pos d1]
  simp only [Sem.run_bind, p1, p2, Result.andThen_ok, e1]
  unfold Op.eqFields
  rw [g1, g2, g3, if_pos d2]
  unfold sameCl
  cases h1 : (b == b')
  · simp
  · simp only [Bool.not_true, Bool.false_eq_true, if_false, Sem.run_bind, part_digest, Result.andThen_ok, clc_val h, clc_val h', e2]
    cases h2 : (v == v')
    · simp
    · simp [Op.eqFields]
theorem eqC (w : World) (b b' : Bool) (v v' : List UInt8) (h : v.length = 32) (h' : v'.length = 32) : (binOp .eql 25 (.agg (clc b v).toArray) (.agg (clc b' v').toArray)).run Tryd.prog w = .ok (.bool (sameCl b v b' v')) w := by
  rw [run_eql_struct, eqInC w b b' v v' h h']
  rfl
theorem sameCl_self (b : Bool) (v : List UInt8) : sameCl b v b v = true := by simp [sameCl]
end
end Go.Proofs.YtgbhfpkngjlfkaaDoor
