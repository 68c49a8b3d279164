/-
  WireSigned.
-/
import Derived.Test.YteeefehbfamfiaaWirR
import Derived.Test.YteeefehbfamfiaaPure01
import Derived.Laws.StructEq
import Derived.Laws.Small
namespace Go.Proofs.Yteeefehbfamfiaa
open Go.RowKit
set_option maxRecDepth 100000

theorem gN_enc (m : Int) (t : List UInt8) (h0 : 0 ≤ m) (h1 : m ≤ 2147483647) : gN (encC m.toNat ++ t) = some (m, t) := by
  unfold gN
  rw [cnt_enc0 _ _ (by omega)]
  simp
  omega
theorem gD_app (d t : List UInt8) (h : d.length = 32) : gD (d ++ t) = some (d, t) := by
  unfold gD
  rw [if_pos (by simp; omega), List.take_left' h, List.drop_left' h]
theorem gS_lo (x : Sg) (hx : x.ok) (h : (loS x (0, [])).1 = 0) : gSg (loS x (0, [])).2 = (x, 0) := by
  by_cases hm : 0 ≤ x.hd.ep ∧ x.hd.ep ≤ 2147483647
  · have e : (loS x (0, [])).2 = encC x.hd.ep.toNat ++ (x.hd.root ++ (x.hd.prev ++ (x.sign ++ []))) := by
      rw [loS, loH, loN_ok [] hm.1 hm.2, loD_ok, loD_ok, loD_ok]; simp
    rw [e]
    unfold gSg gS gH
    rw [gN_enc _ _ hm.1 hm.2]
    simp only [Option.bind_some]
    rw [gD_app _ _ hx.1.1]
    simp only [Option.bind_some]
    rw [gD_app _ _ hx.1.2]
    simp only [Option.bind_some]
    rw [gD_app _ _ hx.2]
    simp only [Option.bind_some]
  · have hm' : x.hd.ep < 0 ∨ 2147483647 < x.hd.ep := by omega
    rw [loS, loH, loN_no [] hm'] at h
    simp [loD] at h

theorem laid_same (w : World) (a : Option Addr) (n c : Nat) (a' : Option Addr) (n' c' : Nat) (l : List UInt8) (e : Int) (h : Rd w a n c l) (h' : Rd w a' n' c' l) :
    Calls Try.prog 10 #[.slice a n c, .int .i64 e, .slice a' n' c', .int .i64 e] w fun f w' => f = .returned (.bool true) ∧ Below w.heap.size w w' := by
  have k1 := h.conv
  have k2 := h'.conv
  go_enter Try.func10, Try.ntmps10
  go_wp2
  go_ret
  exact ⟨rfl, Below.refl _ _⟩

theorem partD (w : World) (cs : List Value) (o : Nat) : (part 25 cs.toArray o).run Try.prog w = .ok (.agg (cs.toArray.extract o (o + 32))) w := by
  have hagg : (isAgg 25).run Try.prog w = .ok true w := by
    unfold isAgg
    rw [Sem.run_bind, run_underlying Try.underlying25 w]
    rfl
  simp [part, hagg]
theorem partH (w : World) (cs : List Value) (o : Nat) : (part 48 cs.toArray o).run Try.prog w = .ok (.agg (cs.toArray.extract o (o + 65))) w := by
  have hagg : (isAgg 48).run Try.prog w = .ok true w := by
    unfold isAgg
    rw [Sem.run_bind, run_underlying Try.underlying48 w]
    rfl
  simp [part, hagg]
theorem partI (w : World) (v : Int) (cs : List Value) : (part 3 (Value.int .i64 v :: cs).toArray 0).run Try.prog w = .ok (.int .i64 v) w := by
  have hagg : (isAgg 3).run Try.prog w = .ok false w := by
    unfold isAgg
    rw [Sem.run_bind, run_underlying Try.underlying3 w]
    rfl
  simp [part, hagg]
theorem hd_root {x : Hd} (h : x.ok) : (hdc x).toArray.extract 1 (1 + 32) = (bs x.root).toArray := by
  have hl : (bs x.root).length = 32 := by rw [bs_length, h.1]
  simp [hdc, hl]
theorem hd_prev {x : Hd} (h : x.ok) : (hdc x).toArray.extract 33 (33 + 32) = (bs x.prev).toArray := by
  have hl : (bs x.root).length = 32 := by rw [bs_length, h.1]
  have hv : List.take 32 (bs x.prev) = bs x.prev := List.take_of_length_le (by simp [bs_length, h.2])
  simp [hdc, hl, hv]
theorem sg_hd {x : Sg} (h : x.ok) : (sgc x).toArray.extract 0 (0 + 65) = (hdc x.hd).toArray := by
  simp [sgc, hdc_length h.1]
theorem sg_sign {x : Sg} (h : x.ok) : (sgc x).toArray.extract 65 (65 + 32) = (bs x.sign).toArray := by
  have hv : List.take 32 (bs x.sign) = bs x.sign := List.take_of_length_le (by simp [bs_length, h.2])
  simp [sgc, hdc_length h.1, hv]

theorem head_fields : (Try.prog.fieldsOf 48).toList.map (fun f => (f.name, f.type, f.offset)) = [("Epoch", 3, 0), ("Root", 25, 1), ("Prev", 25, 33)] := by kernel_rfl
theorem head_under : Try.prog.underlying 48 = some (.struct (Try.prog.fieldsOf 48)) := by kernel_rfl
theorem head_free : Try.prog.stoodInHeld 48 = false := by kernel_rfl
theorem sig_fields : (Try.prog.fieldsOf 50).toList.map (fun f => (f.name, f.type, f.offset)) = [("Head", 48, 0), ("Sign", 25, 65)] := by kernel_rfl
theorem sig_under : Try.prog.underlying 50 = some (.struct (Try.prog.fieldsOf 50)) := by kernel_rfl
theorem sig_free : Try.prog.stoodInHeld 50 = false := by kernel_rfl

theorem eqInH (w : World) (x : Hd) (h : x.ok) : (Op.equalIn 9999 48 (.agg (hdc x).toArray) (.agg (hdc x).toArray)).run Try.prog w = .ok true w := by
  rw [run_equalIn_struct (P := Try.prog) w 9998 48 _ _ head_under head_free]
  have hf := head_fields
  generalize (Try.prog.fieldsOf 48).toList = fs at hf
  obtain ⟨f, g, k, rfl⟩ : ∃ f g k, fs = [f, g, k] := by
    match fs with
    | [f, g, k] => exact ⟨f, g, k, rfl⟩
    | [] => simp at hf
    | [_] => simp at hf
    | [_, _] => simp at hf
    | _ :: _ :: _ :: _ :: _ => simp at hf
  simp only [List.map_cons, List.map_nil, List.cons.injEq, Prod.mk.injEq, and_true] at hf
  obtain ⟨⟨f1, f2, f3⟩, ⟨g1, g2, g3⟩, k1, k2, k3⟩ := hf
  have e1 : (Op.equalIn 9998 3 (.int .i64 x.ep) (.int .i64 x.ep)).run Try.prog w = .ok (x.ep == x.ep) w := run_equalIn_int w _ _ _ _ _ _ Try.underlying3
  have e2 : ∀ v : List UInt8, v.length = 32 → (Op.equalIn 9998 25 (.agg (bs v).toArray) (.agg (bs v).toArray)).run Try.prog w = .ok (v == v) w := fun v hv =>
    run_equalIn_bytes (P := Try.prog) w 9996 25 5 32 Try.underlying25 Try.underlying5 sizeU8 v v hv hv
  have d1 : ("Epoch" : String) ≠ "_" := by decide
  have d2 : ("Root" : String) ≠ "_" := by decide
  have d3 : ("Prev" : String) ≠ "_" := by decide
  have p1 : (part 3 (hdc x).toArray 0).run Try.prog w = .ok (.int .i64 x.ep) w := partI w x.ep _
  unfold Op.eqFields
  rw [f1, f2, f3, if_pos d1]
  simp only [Sem.run_bind, p1, Result.andThen_ok, e1, beq_self_eq_true]
  unfold Op.eqFields
  rw [g1, g2, g3, if_pos d2]
  simp only [Bool.not_true, Bool.false_eq_true, if_false, Sem.run_bind, partD, Result.andThen_ok, hd_root h, e2 _ h.1, beq_self_eq_true]
  unfold Op.eqFields
  rw [k1, k2, k3, if_pos d3]
  simp only [Bool.not_true, Bool.false_eq_true, if_false, Sem.run_bind, partD, Result.andThen_ok, hd_prev h, e2 _ h.2, beq_self_eq_true]
  simp [Op.eqFields]
theorem eqS (w : World) (x : Sg) (h : x.ok) : (binOp .eql 50 (.agg (sgc x).toArray) (.agg (sgc x).toArray)).run Try.prog w = .ok (.bool true) w := by
  have hin : (Op.equalIn 10000 50 (.agg (sgc x).toArray) (.agg (sgc x).toArray)).run Try.prog w = .ok true w := by
    rw [run_equalIn_struct (P := Try.prog) w 9999 50 _ _ sig_under sig_free]
    have hf := sig_fields
    generalize (Try.prog.fieldsOf 50).toList = fs at hf
    obtain ⟨f, g, rfl⟩ : ∃ f g, fs = [f, g] := by
      match fs with
      | [f, g] => exact ⟨f, g, rfl⟩
      | [] => simp at hf
      | [_] => simp at hf
      | _ :: _ :: _ :: _ => simp at hf
    simp only [List.map_cons, List.map_nil, List.cons.injEq, Prod.mk.injEq, and_true] at hf
    obtain ⟨⟨f1, f2, f3⟩, g1, g2, g3⟩ := hf
    have e2 : (Op.equalIn 9999 25 (.agg (bs x.sign).toArray) (.agg (bs x.sign).toArray)).run Try.prog w = .ok (x.sign == x.sign) w :=
      run_equalIn_bytes (P := Try.prog) w 9997 25 5 32 Try.underlying25 Try.underlying5 sizeU8 x.sign x.sign h.2 h.2
    have d1 : ("Head" : String) ≠ "_" := by decide
    have d2 : ("Sign" : String) ≠ "_" := by decide
    unfold Op.eqFields
    rw [f1, f2, f3, if_pos d1]
    simp only [Sem.run_bind, partH, Result.andThen_ok, sg_hd h, eqInH w x.hd h.1]
    unfold Op.eqFields
    rw [g1, g2, g3, if_pos d2]
    simp only [Bool.not_true, Bool.false_eq_true, if_false, Sem.run_bind, partD, Result.andThen_ok, sg_sign h, e2, beq_self_eq_true]
    simp [Op.eqFields]
  rw [run_eql_struct, hin]
  rfl

def d7 : List UInt8 := 7 :: List.replicate 31 0
def sx : Sg := ⟨⟨1, zero32, zero32⟩, d7⟩
theorem sx_ok : sx.ok := by unfold Sg.ok Hd.ok sx; exact ⟨⟨zero32_length, zero32_length⟩, by decide⟩
theorem built_h1 : Try.prog.built 48 [(0, .int .i64 1)] = some (hdc sx.hd).toArray := by kernel_rfl
theorem built_d7 : Try.prog.built 25 [(0, .int .u8 7)] = some (bs d7).toArray := by kernel_rfl
theorem built_sx : Try.prog.built 50 [(0, .agg (hdc sx.hd).toArray), (1, .agg (bs d7).toArray)] = some (sgc sx).toArray := by kernel_rfl
theorem lo_sx : (loS sx (0, [])).1 = 0 ∧ (loS sx (0, [])).2.length = 97 := by
  rw [loS, loH, loN_ok [] (by decide) (by decide), loD_ok, loD_ok, loD_ok]
  refine ⟨rfl, ?_⟩
  have : encC (Int.toNat sx.hd.ep) = [1] := encC_lt (by decide)
  rw [this]
  decide
theorem gSg_nil : gSg [] = (sg0, 60) := by
  simp [gSg, gS, gH, gN, cnt]

end Go.Proofs.Yteeefehbfamfiaa
