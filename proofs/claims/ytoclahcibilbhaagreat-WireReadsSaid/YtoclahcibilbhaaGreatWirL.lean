/-
  WireSigned.
-/
import Derived.Test.YtoclahcibilbhaaGreatWirR
import Derived.Test.YtoclahcibilbhaaGreatPure01
import Derived.Laws.StructEq
import Derived.Laws.Small
namespace Go.Proofs.YtoclahcibilbhaaGreat
open Go.RowKit
set_option maxRecDepth 100000

theorem gN_enc (m : Int) (t : List UInt8) (h0 : 0 ≤ m) (h1 : m ≤ 2147483647) : gN (encC m.toNat ++ t) = some (m, t) := by
  unfold gN
  rw [cnt_enc0 _ _ (by omega)]
  simp
  omega
theorem gD_app (d t : List UInt8) (h : d.length = 32) : gD (d ++ t) = some (d, t) := by
  unfold gD
  rw [if_pos (by simp; omega), List.take_left' h, List.drop_left' h]
theorem gS_lo (x : Sg) (hx : x.ok) (h : (loS x (0, [])).1 = 0) : gSg (loS x (0, [])).2 = (x, 0) := by
  by_cases hm : 0 ≤ x.hd.ep ∧ x.hd.ep ≤ 2147483647
  · have e : (loS x (0, [])).2 = encC x.hd.ep.toNat ++ (x.hd.root ++ (x.hd.prev ++ (x.sign ++ []))) := by
      rw [loS, loH, loN_ok [] hm.1 hm.2, loD_ok, loD_ok, loD_ok]; simp
    rw [e]
    unfold gSg gS gH
    rw [gN_enc _ _ hm.1 hm.2]
    simp only [Option.bind_some]
    rw [gD_app _ _ hx.1.1]
    simp only [Option.bind_some]
    rw [gD_app _ _ hx.1.2]
    simp only [Option.bind_some]
    rw [gD_app _ _ hx.2]
    simp only [Option.bind_some]
  · have hm' : x.hd.ep < 0 ∨ 2147483647 < x.hd.ep := by omega
    rw [loS, loH, loN_no [] hm'] at h
    simp [loD] at h

theorem partD (w : World) (cs : List Value) (o : Nat) : (part 25 cs.toArray o).run Tryz.prog w = .ok (.agg (cs.toArray.extract o (o + 32))) w := by
  have hagg : (isAgg 25).run Tryz.prog w = .ok true w := by
    unfold isAgg
    rw [Sem.run_bind, run_underlying Tryz.underlying25 w]
    rfl
  simp [part, hagg]
theorem partH (w : World) (cs : List Value) (o : Nat) : (part 47 cs.toArray o).run Tryz.prog w = .ok (.agg (cs.toArray.extract o (o + 65))) w := by
  have hagg : (isAgg 47).run Tryz.prog w = .ok true w := by
    unfold isAgg
    rw [Sem.run_bind, run_underlying Tryz.underlying47 w]
    rfl
  simp [part, hagg]
theorem partI (w : World) (v : Int) (cs : List Value) : (part 3 (Value.int .i64 v :: cs).toArray 0).run Tryz.prog w = .ok (.int .i64 v) w := by
  have hagg : (isAgg 3).run Tryz.prog w = .ok false w := by
    unfold isAgg
    rw [Sem.run_bind, run_underlying Tryz.underlying3 w]
    rfl
  simp [part, hagg]
theorem hd_root {x : Hd} (h : x.ok) : (hdc x).toArray.extract 1 (1 + 32) = (bs x.root).toArray := by
  have hl : (bs x.root).length = 32 := by rw [bs_length, h.1]
  simp [hdc, hl]
theorem hd_prev {x : Hd} (h : x.ok) : (hdc x).toArray.extract 33 (33 + 32) = (bs x.prev).toArray := by
  have hl : (bs x.root).length = 32 := by rw [bs_length, h.1]
  have hv : List.take 32 (bs x.prev) = bs x.prev := List.take_of_length_le (by simp [bs_length, h.2])
  simp [hdc, hl, hv]
theorem sg_hd {x : Sg} (h : x.ok) : (sgc x).toArray.extract 0 (0 + 65) = (hdc x.hd).toArray := by
  simp [sgc, hdc_length h.1]
theorem sg_sign {x : Sg} (h : x.ok) : (sgc x).toArray.extract 65 (65 + 32) = (bs x.sign).toArray := by
  have hv : List.take 32 (bs x.sign) = bs x.sign := List.take_of_length_le (by simp [bs_length, h.2])
  simp [sgc, hdc_length h.1, hv]

theorem head_fields : (Tryz.prog.fieldsOf 47).toList.map (fun f => (f.name, f.type, f.offset)) = [("Epoch", 3, 0), ("Root", 25, 1), ("Prev", 25, 33)] := by kernel_rfl
theorem head_under : Tryz.prog.underlying 47 = some (.struct (Tryz.prog.fieldsOf 47)) := by kernel_rfl
theorem head_free : Tryz.prog.stoodInHeld 47 = false := by kernel_rfl
theorem sig_fields : (Tryz.prog.fieldsOf 49).toList.map (fun f => (f.name, f.type, f.offset)) = [("Head", 47, 0), ("Sign", 25, 65)] := by kernel_rfl
theorem sig_under : Tryz.prog.underlying 49 = some (.struct (Tryz.prog.fieldsOf 49)) := by kernel_rfl
theorem sig_free : Tryz.prog.stoodInHeld 49 = false := by kernel_rfl

theorem eqInH (w : World) (x : Hd) (h : x.ok) : (Op.equalIn 9999 47 (.agg (hdc x).toArray) (.agg (hdc x).toArray)).run Tryz.prog w = .ok true w := by
  rw [run_equalIn_struct (P := Tryz.prog) w 9998 47 _ _ head_under head_free]
  have hf := head_fields
  generalize (Tryz.prog.fieldsOf 47).toList = fs at hf
  obtain ⟨f, g, k, rfl⟩ : ∃ f g k, fs = [f, g, k] := by
    match fs with
    | [f, g, k] => exact ⟨f, g, k, rfl⟩
    | [] => simp at hf
    | [_] => simp at hf
    | [_, _] => simp at hf
    | _ :: _ :: _ :: _ :: _ => simp at hf
  simp only [List.map_cons, List.map_nil, List.cons.injEq, Prod.mk.injEq, and_true] at hf
  obtain ⟨⟨f1, f2, f3⟩, ⟨g1, g2, g3⟩, k1, k2, k3⟩ := hf
  have e1 : (Op.equalIn 9998 3 (.int .i64 x.ep) (.int .i64 x.ep)).run Tryz.prog w = .ok (x.ep == x.ep) w := run_equalIn_int w _ _ _ _ _ _ Tryz.underlying3
  have e2 : ∀ v : List UInt8, v.length = 32 → (Op.equalIn 9998 25 (.agg (bs v).toArray) (.agg (bs v).toArray)).run Tryz.prog w = .ok (v == v) w := fun v hv =>
    run_equalIn_bytes (P := Tryz.prog) w 9996 25 5 32 Tryz.underlying25 Tryz.underlying5 sizeU8 v v hv hv
  have d1 : ("Epoch" : String) ≠ "_" := by decide
  have d2 : ("Root" : String) ≠ "_" := by decide
  have d3 : ("Prev" : String) ≠ "_" := by decide
  have p1 : (part 3 (hdc x).toArray 0).run Tryz.prog w = .ok (.int .i64 x.ep) w := partI w x.ep _
  unfold Op.eqFields
  rw [f1, f2, f3, if_pos d1]
  simp only [Sem.run_bind, p1, Result.andThen_ok, e1, beq_self_eq_true]
  unfold Op.eqFields
  rw [g1, g2, g3, if_pos d2]
  simp only [Bool.not_true, Bool.false_eq_true, if_false, Sem.run_bind, partD, Result.andThen_ok, hd_root h, e2 _ h.1, beq_self_eq_true]
  unfold Op.eqFields
  rw [k1, k2, k3, if_pos d3]
  simp only [Bool.not_true, Bool.false_eq_true, if_false, Sem.run_bind, partD, Result.andThen_ok, hd_prev h, e2 _ h.2, beq_self_eq_true]
  simp [Op.eqFields]
theorem eqS (w : World) (x : Sg) (h : x.ok) : (binOp .eql 49 (.agg (sgc x).toArray) (.agg (sgc x).toArray)).run Tryz.prog w = .ok (.bool true) w := by
  have hin : (Op.equalIn 10000 49 (.agg (sgc x).toArray) (.agg (sgc x).toArray)).run Tryz.prog w = .ok true w := by
    rw [run_equalIn_struct (P := Tryz.prog) w 9999 49 _ _ sig_under sig_free]
    have hf := sig_fields
    generalize (Tryz.prog.fieldsOf 49).toList = fs at hf
    obtain ⟨f, g, rfl⟩ : ∃ f g, fs = [f, g] := by
      match fs with
      | [f, g] => exact ⟨f, g, rfl⟩
      | [] => simp at hf
      | [_] => simp at hf
      | _ :: _ :: _ :: _ => simp at hf
    simp only [List.map_cons, List.map_nil, List.cons.injEq, Prod.mk.injEq, and_true] at hf
    obtain ⟨⟨f1, f2, f3⟩, g1, g2, g3⟩ := hf
    have e2 : (Op.equalIn 9999 25 (.agg (bs x.sign).toArray) (.agg (bs x.sign).toArray)).run Tryz.prog w = .ok (x.sign == x.sign) w :=
      run_equalIn_bytes (P := Tryz.prog) w 9997 25 5 32 Tryz.underlying25 Tryz.underlying5 sizeU8 x.sign x.sign h.2 h.2
    have d1 : ("Head" : String) ≠ "_" := by decide
    have d2 : ("Sign" : String) ≠ "_" := by decide
    unfold Op.eqFields
    rw [f1, f2, f3, if_pos d1]
    simp only [Sem.run_bind, partH, Result.andThen_ok, sg_hd h, eqInH w x.hd h.1]
    unfold Op.eqFields
    rw [g1, g2, g3, if_pos d2]
    simp only [Bool.not_true, Bool.false_eq_true, if_false, Sem.run_bind, partD, Result.andThen_ok, sg_sign h, e2, beq_self_eq_true]
    simp [Op.eqFields]
  rw [run_eql_struct, hin]
  rfl

def d7 : List UInt8 := 7 :: List.replicate 31 0
def sx : Sg := ⟨⟨1, zero32, zero32⟩, d7⟩
theorem sx_ok : sx.ok := by unfold Sg.ok Hd.ok sx; exact ⟨⟨zero32_length, zero32_length⟩, by decide⟩
theorem built_h1 : Tryz.prog.built 47 [(0, .int .i64 1)] = some (hdc sx.hd).toArray := by kernel_rfl
theorem built_d7 : Tryz.prog.built 25 [(0, .int .u8 7)] = some (bs d7).toArray := by kernel_rfl
theorem built_sx : Tryz.prog.built 49 [(0, .agg (hdc sx.hd).toArray), (1, .agg (bs d7).toArray)] = some (sgc sx).toArray := by kernel_rfl
theorem lo_sx : (loS sx (0, [])).1 = 0 ∧ (loS sx (0, [])).2.length = 97 := by
  rw [loS, loH, loN_ok [] (by decide) (by decide), loD_ok, loD_ok, loD_ok]
  refine ⟨rfl, ?_⟩
  have : encC (Int.toNat sx.hd.ep) = [1] := encC_lt (by decide)
  rw [this]
  decide
theorem gSg_nil : gSg [] = (sg0, 60) := by
  simp [gSg, gS, gH, gN, cnt]

set_option maxHeartbeats 1000000 in
theorem signed_law (w : World) :
    Calls Tryz.prog 25 #[] w fun f w' => f = .returned (.bool true) ∧ Below w.heap.size w w' := by
  have B1 := Lib.hid built_h1
  have B2 := Lib.hid built_d7
  have B3 := Lib.hid built_sx
  go_enter Tryz.func25, Tryz.ntmps25
  go_wp2_with (first | ((with_reducible refine wpList_buildI (dst := some 8) B1.out ?_ ?_); rfl) | ((with_reducible refine wpList_buildI (dst := some 9) B2.out ?_ ?_); rfl) | ((with_reducible refine wpList_buildI (dst := some 10) B3.out ?_ ?_); rfl))
  refine (putSigned_any w sx sx_ok).mono ?_
  rintro e w1 ⟨v, rfl, hO, hB1⟩
  rw [if_pos lo_sx.1] at hO
  obtain ⟨a1, c1, rfl⟩ := hO.shape
  have hr := hO.rd
  have hgs := gS_lo sx sx_ok lo_sx.1
  rw [lo_sx.1]
  rw [lo_sx.2] at hr ⊢
  generalize (loS sx (0, [])).2 = q at hr hgs
  clear hO B1 B2 B3
  go_wp2_with fail
  refine (getSigned_any w1 a1 97 c1 q hr (by decide)).mono ?_
  rintro e w2 ⟨rfl, hB2⟩
  rw [hgs]
  have IS : Hid ((Tryz.prog.info? 49).map (·.size) = some (sgc sx).length) := Lib.hid (by rw [sgc_length sx_ok]; exact info_signed)
  have IS0 : Hid ((Tryz.prog.info? 49).map (·.size) = some (sgc sg0).length) := Lib.hid (by rw [sgc_length sg0_ok]; exact info_signed)
  have HL : Hid ((sgc sg0).length = (sgc sx).length) := Lib.hid (by rw [sgc_length sx_ok, sgc_length sg0_ok])
  have HONE : Hid (∀ v ∈ sgc sx, v.oneCell' = true) := Lib.hid (sgc_one _)
  have HONE0 : Hid (∀ v ∈ sgc sg0, v.oneCell' = true) := Lib.hid (sgc_one _)
  have HB2 := Lib.hid (Bt hB1 hB2)
  clear hB1 hB2 hgs hr
  go_wp2_with (first | ((with_reducible refine wpList_allocB (o := ⟨some 3, _, _, _, _, _⟩) ?_ 49 ?_ sg0_info ?_); rfl; rfl; intro w3 hb3 hg3 hz3) | ((with_reducible refine wpList_storeB (o := ⟨none, .store 49 (.tmp 3) (.tmp 17), _, _, _, _⟩) ?_ 49 (.tmp 3) (.tmp 17) ?_ ?_ ?_ hb3 IS.out HL.out HONE.out ?_); rfl; rfl; rfl; rfl; intro w4 hb4 hg4 hz4))
  have hB4 : Below w.heap.size w w4 := (HB2.out.grown hg3 HB2.out.size (by simp)).grown hg4 (by have := HB2.out.size; omega) (fun k e => by cases e; exact HB2.out.size)
  clear hb3 hg3 hg4 hz3 hz4
  refine (getSigned_any w4 none 0 0 [] (Rd.nil0 w4) (by decide)).mono ?_
  rintro e w5 ⟨rfl, hB5⟩
  rw [gSg_nil]
  have hb5 := hb4.below hB5
  have HB5 := Lib.hid (Bt hB4 hB5)
  have hw2 := hb5.lt
  clear hb4 hB4 hB5
  go_wp2_with (first | ((with_reducible refine wpList_allocB (o := ⟨some 5, _, _, _, _, _⟩) ?_ 49 ?_ sg0_info ?_); rfl; rfl; intro w6 hb6 hg6 hz6) | (((with_reducible refine wpList_storeB (o := ⟨none, .store 49 (.tmp 5) (.tmp 21), _, _, _, _⟩) ?_ 49 (.tmp 5) (.tmp 21) ?_ ?_ ?_ hb6 IS0.out rfl HONE0.out ?_); rfl; rfl; rfl; rfl; intro w7 hb7 hg7 hz7); have hb8 := (hb5.grown hg6 (by simp)).grown hg7 (by simp; omega); have hc0 := hb8.cell (j := 0) (v := .int .i64 1) rfl; have hc65 := hb8.cell (j := 65) (v := .int .u8 7) rfl))
  go_ret
  exact ⟨rfl, (HB5.out.grown hg6 HB5.out.size (by simp)).grown hg7 (by have := HB5.out.size; omega) (fun k e => by cases e; exact HB5.out.size)⟩

end Go.Proofs.YtoclahcibilbhaaGreat
