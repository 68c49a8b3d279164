/-
  WireSigned.
-/
import Derived.Test.YtgbhfpkngjlfkaaWirR
import Derived.Test.YtgbhfpkngjlfkaaPure01
import Derived.Laws.StructEq
import Derived.Laws.Small
namespace Go.Proofs.Ytgbhfpkngjlfkaa
open Go.RowKit
set_option maxRecDepth 100000

theorem gN_enc (m : Int) (t : List UInt8) (h0 : 0 ≤ m) (h1 : m ≤ 2147483647) : gN (encC m.toNat ++ t) = some (m, t) := by
  unfold gN
  rw [cnt_enc0 _ _ (by omega)]
  simp
  omega
theorem gD_app (d t : List UInt8) (h : d.length = 32) : gD (d ++ t) = some (d, t) := by
  unfold gD
  rw [if_pos (by simp; omega), List.take_left' h, List.drop_left' h]
theorem gS_lo (x : Sg) (hx : x.ok) (h : (loS x (0, [])).1 = 0) : gSg (loS x (0, [])).2 = (x, 0) := by
  by_cases hm : 0 ≤ x.hd.ep ∧ x.hd.ep ≤ 2147483647
  · have e : (loS x (0, [])).2 = encC x.hd.ep.toNat ++ (x.hd.root ++ (x.hd.prev ++ (x.sign ++ []))) := by
      rw [loS, loH, loN_ok [] hm.1 hm.2, loD_ok, loD_ok, loD_ok]; simp
    rw [e]
    unfold gSg gS gH
    rw [gN_enc _ _ hm.1 hm.2]
    simp only [Option.bind_some]
    rw [gD_app _ _ hx.1.1]
    simp only [Option.bind_some]
    rw [gD_app _ _ hx.1.2]
    simp only [Option.bind_some]
    rw [gD_app _ _ hx.2]
    simp only [Option.bind_some]
  · have hm' : x.hd.ep < 0 ∨ 2147483647 < x.hd.ep := by omega
    rw [loS, loH, loN_no [] hm'] at h
    simp [loD] at h

theorem laid_same (w : World) (a : Option Addr) (n c : Nat) (a' : Option Addr) (n' c' : Nat) (l : List UInt8) (e : Int) (h : Rd w a n c l) (h' : Rd w a' n' c' l) :
    Calls Try.prog 11 #[.slice a n c, .int .i64 e, .slice a' n' c', .int .i64 e] w fun f w' => f = .returned (.bool true) ∧ Below w.heap.size w w' := by
  have k1 := h.conv
  have k2 := h'.conv
  go_enter Try.func11, Try.ntmps11
  go_wp2
  go_ret
  exact ⟨rfl, Below.refl _ _⟩

theorem partD (w : World) (cs : List Value) (o : Nat) : (part 24 cs.toArray o).run Try.prog w = .ok (.agg (cs.toArray.extract o (o + 32))) w := by
  have hagg : (isAgg 24).run Try.prog w = .ok true w := by
    unfold isAgg
    rw [Sem.run_bind, run_underlying Try.underlying24 w]
    rfl
  simp [part, hagg]
theorem partH (w : World) (cs : List Value) (o : Nat) : (part 52 cs.toArray o).run Try.prog w = .ok (.agg (cs.toArray.extract o (o + 65))) w := by
  have hagg : (isAgg 52).run Try.prog w = .ok true w := by
    unfold isAgg
    rw [Sem.run_bind, run_underlying Try.underlying52 w]
    rfl
  simp [part, hagg]
theorem partI (w : World) (v : Int) (cs : List Value) : (part 3 (Value.int .i64 v :: cs).toArray 0).run Try.prog w = .ok (.int .i64 v) w := by
  have hagg : (isAgg 3).run Try.prog w = .ok false w := by
    unfold isAgg
    rw [Sem.run_bind, run_underlying Try.underlying3 w]
    rfl
  simp [part, hagg]
theorem hd_root {x : Hd} (h : x.ok) : (hdc x).toArray.extract 1 (1 + 32) = (bs x.root).toArray := by
  have hl : (bs x.root).length = 32 := by rw [bs_length, h.1]
  simp [hdc, hl]
theorem hd_prev {x : Hd} (h : x.ok) : (hdc x).toArray.extract 33 (33 + 32) = (bs x.prev).toArray := by
  have hl : (bs x.root).length = 32 := by rw [bs_length, h.1]
  have hv : List.take 32 (bs x.prev) = bs x.prev := List.take_of_length_le (by simp [bs_length, h.2])
  simp [hdc, hl, hv]
theorem sg_hd {x : Sg} (h : x.ok) : (sgc x).toArray.extract 0 (0 + 65) = (hdc x.hd).toArray := by
  simp [sgc, hdc_length h.1]
theorem sg_sign {x : Sg} (h : x.ok) : (sgc x).toArray.extract 65 (65 + 32) = (bs x.sign).toArray := by
  have hv : List.take 32 (bs x.sign) = bs x.sign := List.take_of_length_le (by simp [bs_length, h.2])
  simp [sgc, hdc_length h.1, hv]

theorem head_fields : (Try.prog.fieldsOf 52).toList.map (fun f => (f.name, f.type, f.offset)) = [("Epoch", 3, 0), ("Root", 24, 1), ("Prev", 24, 33)] := by kernel_rfl
theorem head_under : Try.prog.underlying 52 = some (.struct (Try.prog.fieldsOf 52)) := by kernel_rfl
theorem head_free : Try.prog.stoodInHeld 52 = false := by kernel_rfl
theorem sig_fields : (Try.prog.fieldsOf 54).toList.map (fun f => (f.name, f.type, f.offset)) = [("Head", 52, 0), ("Sign", 24, 65)] := by kernel_rfl
theorem sig_under : Try.prog.underlying 54 = some (.struct (Try.prog.fieldsOf 54)) := by kernel_rfl
theorem sig_free : Try.prog.stoodInHeld 54 = false := by kernel_rfl

theorem eqInH (w : World) (x : Hd) (h : x.ok) : (Op.equalIn 9999 52 (.agg (hdc x).toArray) (.agg (hdc x).toArray)).run Try.prog w = .ok true w := by
  rw [run_equalIn_struct (P := Try.prog) w 9998 52 _ _ head_under head_free]
  have hf := head_fields
  generalize (Try.prog.fieldsOf 52).toList = fs at hf
  obtain ⟨f, g, k, rfl⟩ : ∃ f g k, fs = [f, g, k] := by
    match fs with
    | [f, g, k] => exact ⟨f, g, k, rfl⟩
    | [] => simp at hf
    | [_] => simp at hf
    | [_, _] => simp at hf
    | _ :: _ :: _ :: _ :: _ => simp at hf
  simp only [List.map_cons, List.map_nil, List.cons.injEq, Prod.mk.injEq, and_true] at hf
  obtain ⟨⟨f1, f2, f3⟩, ⟨g1, g2, g3⟩, k1, k2, k3⟩ := hf
  have e1 : (Op.equalIn 9998 3 (.int .i64 x.ep) (.int .i64 x.ep)).run Try.prog w = .ok (x.ep == x.ep) w := run_equalIn_int w _ _ _ _ _ _ Try.underlying3
  have e2 : ∀ v : List UInt8, v.length = 32 → (Op.equalIn 9998 24 (.agg (bs v).toArray) (.agg (bs v).toArray)).run Try.prog w = .ok (v == v) w := fun v hv =>
    run_equalIn_bytes (P := Try.prog) w 9996 24 5 32 Try.underlying24 Try.underlying5 sizeU8 v v hv hv
  have d1 : ("Epoch" : String) ≠ "_" := by decide
  have d2 : ("Root" : String) ≠ "_" := by decide
  have d3 : ("Prev" : String) ≠ "_" := by decide
  have p1 : (part 3 (hdc x).toArray 0).run Try.prog w = .ok (.int .i64 x.ep) w := partI w x.ep _
  unfold Op.eqFields
  rw [f1, f2, f3, if_pos d1]
  simp only [Sem.run_bind, p1, Result.andThen_ok, e1, beq_self_eq_true]
  unfold Op.eqFields
  rw [g1, g2, g3, if_pos d2]
  simp only [Bool.not_true, Bool.false_eq_true, if_false, Sem.run_bind, partD, Result.andThen_ok, hd_root h, e2 _ h.1, beq_self_eq_true]
  unfold Op.eqFields
  rw [k1, k2, k3, if_pos d3]
  simp only [Bool.not_true, Bool.false_eq_true, if_false, Sem.run_bind, partD, Result.andThen_ok, hd_prev h, e2 _ h.2, beq_self_eq_true]
  simp [Op.eqFields]
theorem eqS (w : World) (x : Sg) (h : x.ok) : (binOp .eql 54 (.agg (sgc x).toArray) (.agg (sgc x).toArray)).run Try.prog w = .ok (.bool true) w := by
  have hin : (Op.equalIn 10000 54 (.agg (sgc x).toArray) (.agg (sgc x).toArray)).run Try.prog w = .ok true w := by
    rw [run_equalIn_struct (P := Try.prog) w 9999 54 _ _ sig_under sig_free]
    have hf := sig_fields
    generalize (Try.prog.fieldsOf 54).toList = fs at hf
    obtain ⟨f, g, rfl⟩ : ∃ f g, fs = [f, g] := by
      match fs with
      | [f, g] => exact ⟨f, g, rfl⟩
      | [] => simp at hf
      | [_] => simp at hf
      | _ :: _ :: _ :: _ => simp at hf
    simp only [List.map_cons, List.map_nil, List.cons.injEq, Prod.mk.injEq, and_true] at hf
    obtain ⟨⟨f1, f2, f3⟩, g1, g2, g3⟩ := hf
    have e2 : (Op.equalIn 9999 24 (.agg (bs x.sign).toArray) (.agg (bs x.sign).toArray)).run Try.prog w = .ok (x.sign == x.sign) w :=
      run_equalIn_bytes (P := Try.prog) w 9997 24 5 32 Try.underlying24 Try.underlying5 sizeU8 x.sign x.sign h.2 h.2
    have d1 : ("Head" : String) ≠ "_" := by decide
    have d2 : ("Sign" : String) ≠ "_" := by decide
    unfold Op.eqFields
    rw [f1, f2, f3, if_pos d1]
    simp only [Sem.run_bind, partH, Result.andThen_ok, sg_hd h, eqInH w x.hd h.1]
    unfold Op.eqFields
    rw [g1, g2, g3, if_pos d2]
    simp only [Bool.not_true, Bool.false_eq_true, if_false, Sem.run_bind, partD, Result.andThen_ok, sg_sign h, e2, beq_self_eq_true]
    simp [Op.eqFields]
  rw [run_eql_struct, hin]
  rfl

def d7 : List UInt8 := 7 :: List.replicate 31 0
def sx : Sg := ⟨⟨1, zero32, zero32⟩, d7⟩
theorem sx_ok : sx.ok := by unfold Sg.ok Hd.ok sx; exact ⟨⟨zero32_length, zero32_length⟩, by decide⟩
theorem built_h1 : Try.prog.built 52 [(0, .int .i64 1)] = some (hdc sx.hd).toArray := by kernel_rfl
theorem built_d7 : Try.prog.built 24 [(0, .int .u8 7)] = some (bs d7).toArray := by kernel_rfl
theorem built_sx : Try.prog.built 54 [(0, .agg (hdc sx.hd).toArray), (1, .agg (bs d7).toArray)] = some (sgc sx).toArray := by kernel_rfl
theorem lo_sx : (loS sx (0, [])).1 = 0 ∧ (loS sx (0, [])).2.length = 97 := by
  rw [loS, loH, loN_ok [] (by decide) (by decide), loD_ok, loD_ok, loD_ok]
  refine ⟨rfl, ?_⟩
  have : encC (Int.toNat sx.hd.ep) = [1] := encC_lt (by decide)
  rw [this]
  decide
theorem gSg_nil : gSg [] = (sg0, 60) := by
  simp [gSg, gS, gH, gN, cnt]

set_option maxHeartbeats 1000000 in
theorem signed_law (w : World) :
    Calls Try.prog 28 #[] w fun f w' => f = .returned (.bool true) ∧ Below w.heap.size w w' := by
  have B1 := Lib.hid built_h1
  have B2 := Lib.hid built_d7
  have B3 := Lib.hid built_sx
  go_enter Try.func28, Try.ntmps28
  go_wp2_with (first | ((with_reducible refine wpList_buildI (dst := some 8) B1.out ?_ ?_); rfl) | ((with_reducible refine wpList_buildI (dst := some 9) B2.out ?_ ?_); rfl) | ((with_reducible refine wpList_buildI (dst := some 10) B3.out ?_ ?_); rfl))
  refine (putSigned_any w sx sx_ok).mono ?_
  rintro e w1 ⟨v, rfl, hO, hB1⟩
  rw [if_pos lo_sx.1] at hO
  obtain ⟨a1, c1, rfl⟩ := hO.shape
  have hr := hO.rd
  have hgs := gS_lo sx sx_ok lo_sx.1
  rw [lo_sx.1]
  rw [lo_sx.2] at hr ⊢
  generalize (loS sx (0, [])).2 = q at hr hgs
  clear hO B1 B2 B3
  go_wp2_with fail
  refine (getSigned_any w1 a1 97 c1 q hr (by decide)).mono ?_
  rintro e w2 ⟨rfl, hB2⟩
  rw [hgs]
  have IS : Hid ((Try.prog.info? 54).map (·.size) = some (sgc sx).length) := Lib.hid (by rw [sgc_length sx_ok]; exact info_sg)
  have IS0 : Hid ((Try.prog.info? 54).map (·.size) = some (sgc sg0).length) := Lib.hid (by rw [sgc_length sg0_ok]; exact info_sg)
  have HL : Hid ((sgc sg0).length = (sgc sx).length) := Lib.hid (by rw [sgc_length sx_ok, sgc_length sg0_ok])
  have HONE : Hid (∀ v ∈ sgc sx, v.oneCell' = true) := Lib.hid (sgc_one _)
  have HONE0 : Hid (∀ v ∈ sgc sg0, v.oneCell' = true) := Lib.hid (sgc_one _)
  have HB2 := Lib.hid (Bt hB1 hB2)
  clear hB1 hB2 hgs hr
  go_wp2_with (first | ((with_reducible refine wpList_allocB (o := ⟨some 3, _, _, _, _, _⟩) ?_ 54 ?_ sg0_info ?_); rfl; rfl; intro w3 hb3 hg3 hz3) | ((with_reducible refine wpList_storeB (o := ⟨none, .store 54 (.tmp 3) (.tmp 17), _, _, _, _⟩) ?_ 54 (.tmp 3) (.tmp 17) ?_ ?_ ?_ hb3 IS.out HL.out HONE.out ?_); rfl; rfl; rfl; rfl; intro w4 hb4 hg4 hz4))
  have hB4 : Below w.heap.size w w4 := (HB2.out.grown hg3 HB2.out.size (by simp)).grown hg4 (by have := HB2.out.size; omega) (fun k e => by cases e; exact HB2.out.size)
  clear hb3 hg3 hg4 hz3 hz4
  refine (getSigned_any w4 none 0 0 [] (Rd.nil0 w4) (by decide)).mono ?_
  rintro e w5 ⟨rfl, hB5⟩
  rw [gSg_nil]
  have hb5 := hb4.below hB5
  have HB5 := Lib.hid (Bt hB4 hB5)
  have hw2 := hb5.lt
  clear hb4 hB4 hB5
  go_wp2_with (first | ((with_reducible refine wpList_allocB (o := ⟨some 5, _, _, _, _, _⟩) ?_ 54 ?_ sg0_info ?_); rfl; rfl; intro w6 hb6 hg6 hz6) | (((with_reducible refine wpList_storeB (o := ⟨none, .store 54 (.tmp 5) (.tmp 21), _, _, _, _⟩) ?_ 54 (.tmp 5) (.tmp 21) ?_ ?_ ?_ hb6 IS0.out rfl HONE0.out ?_); rfl; rfl; rfl; rfl; intro w7 hb7 hg7 hz7); have hb8 := (hb5.grown hg6 (by simp)).grown hg7 (by simp; omega); have hc0 := hb8.cell (j := 0) (v := .int .i64 1) rfl; have hc65 := hb8.cell (j := 65) (v := .int .u8 7) rfl))
  go_ret
  exact ⟨rfl, (HB5.out.grown hg6 HB5.out.size (by simp)).grown hg7 (by have := HB5.out.size; omega) (fun k e => by cases e; exact HB5.out.size)⟩

set_option maxHeartbeats 1000000 in
theorem walkWireSigned (w : World) (x : Sg) (hx : x.ok) :
    Calls Try.prog 6 #[.agg (sgc x).toArray] w fun f w' => f = .returned (.bool true) ∧ Below w.heap.size w w' := by
  have IS : Hid ((Try.prog.info? 54).map (·.size) = some (sgc x).length) := Lib.hid (by rw [sgc_length hx]; exact info_sg)
  have IS0 : Hid ((Try.prog.info? 54).map (·.size) = some (sgc sg0).length) := Lib.hid (by rw [sgc_length sg0_ok]; exact info_sg)
  have HL : Hid ((sgc sg0).length = (sgc x).length) := Lib.hid (by rw [sgc_length hx, sgc_length sg0_ok])
  have HONE : Hid (∀ v ∈ sgc x, v.oneCell' = true) := Lib.hid (sgc_one _)
  have HONE0 : Hid (∀ v ∈ sgc sg0, v.oneCell' = true) := Lib.hid (sgc_one _)
  have heq := fun w => eqS w x hx
  have hb0 := Blk.new w 54 (sgc x)
  have hB0 : Below w.heap.size w (w.alloc (.cells (sgc x).toArray 54)) := (Below.refl _ w).alloc (Nat.le_refl _) _
  go_enter Try.func6, Try.ntmps6
  go_wp2_with (first | ((with_reducible refine wpList_loadB (o := ⟨some 10, _, _, _, _, _⟩) ?_ 54 (.tmp 1) ?_ ?_ hb0 Try.underlying54 ?_ IS.out ?_); rfl; rfl; rfl; rfl))
  generalize w.alloc (.cells (sgc x).toArray 54) = w0 at *
  refine (putSigned_any w0 x hx).mono ?_
  rintro e w1 ⟨v1, rfl, hO1, hB1⟩
  have hb1 := hb0.below hB1
  have hback := fun h => gS_lo x hx h
  have hlen : (loS x (0, [])).2.length ≤ 101 := by
    have h1 := loH_len2 hx.1 (0, [])
    have h2 := loD_len2 hx.2 (loH x.hd (0, []))
    unfold loS; simp only [List.length_nil] at h1; omega
  have hB1' := Bt hB0 hB1
  clear hb0 hB0 hB1
  by_cases h0 : (loS x (0, [])).1 = 0
  · rw [if_pos h0] at hO1
    have hg := hback h0
    obtain ⟨a1, c1, rfl⟩ := hO1.shape
    have hr1 := hO1.rd
    rw [h0]
    have HP : Hid (∀ W e W', PutP W (loS x (0, [])) e W' → ∃ v, e = .returned (.tuple #[v, .int .i64 0]) ∧ Own W' W.heap.size v (loS x (0, [])).2 ∧ Below W.heap.size W W') := Lib.hid (by rintro W e W' ⟨v, rfl, h1, h2⟩; rw [h0] at *; rw [if_pos rfl] at h1; exact ⟨v, rfl, h1, h2⟩)
    have HPR := Lib.hid (fun W => putSignedR_any W x hx)
    generalize loS x (0, []) = o at *
    obtain ⟨err, q⟩ := o
    simp only at *
    clear hback h0 hO1
    generalize hq : q.length = nq at *
    have HQ := Lib.hid hq
    clear hq
    have HNQ : Hid (nq ≤ 1099511627776) := Lib.hid (by omega)
    clear hlen
    go_wp2_with (first | ((with_reducible refine wpList_loadB (o := ⟨some 15, _, _, _, _, _⟩) ?_ 54 (.tmp 1) ?_ ?_ hb1 Try.underlying54 ?_ IS.out ?_); rfl; rfl; rfl; rfl))
    refine (HPR.out w1).mono ?_
    intro e w2 hP
    obtain ⟨v2, rfl, hO2, hB2⟩ := HP.out _ _ _ hP
    obtain ⟨a2, c2, rfl⟩ := hO2.shape
    have hr2 := hO2.rd
    rw [HQ.out] at hr2 ⊢
    have hr12 := hr1.below hB2
    have hb2 := hb1.below hB2
    have hB2' := Bt hB1' hB2
    clear hP hO2 hB2 hb1 hB1' hr1
    go_wp2_with fail
    refine (laid_same w2 a1 nq c1 a2 nq c2 q 0 hr12 hr2).mono ?_
    rintro e w3 ⟨rfl, hB3⟩
    have hr3 := hr12.below hB3
    have hb3 := hb2.below hB3
    have hB3' := Bt hB2' hB3
    clear hr12 hr2 hb2 hB2' hB3
    go_wp2_with fail
    refine (getSigned_any w3 a1 nq c1 q hr3 HNQ.out).mono ?_
    rintro e w4 ⟨rfl, hB4⟩
    rw [hg]
    have hb4 := hb3.below hB4
    have HB4 := Lib.hid (Bt hB3' hB4)
    clear hr3 hb3 hB3' hB4 hg
    go_wp2_with (first | ((with_reducible refine wpList_allocB (o := ⟨some 7, _, _, _, _, _⟩) ?_ 54 ?_ sg0_info ?_); rfl; rfl; intro w5 hb5 hg5 hz5) | ((with_reducible refine wpList_storeB (o := ⟨none, .store 54 (.tmp 7) (.tmp 28), _, _, _, _⟩) ?_ 54 (.tmp 7) (.tmp 28) ?_ ?_ ?_ hb5 IS.out HL.out HONE.out ?_); rfl; rfl; rfl; rfl; intro w6 hb6 hg6 hz6))
    have hB6 := (HB4.out.grown hg5 HB4.out.size (by simp)).grown hg6 (by have := HB4.out.size; omega) (fun k e => by cases e; exact HB4.out.size)
    have hx6 := (hb4.grown hg5 (by simp)).grown hg6 (by have := hb4.lt; simp; omega)
    clear hb5 hg5 hg6 hz5 hz6 hb4
    refine (signed_law w6).mono ?_
    rintro e w7 ⟨rfl, hB7⟩
    have hb7 := hb6.below hB7
    have hx7 := hx6.below hB7
    have HB7 := Lib.hid (Bt hB6 hB7)
    clear hb6 hx6 hB6 hB7
    go_wp2_with (first | ((with_reducible refine wpList_loadR (o := ⟨some 38, _, _, _, _, _⟩) ?_ 54 (.tmp 1) ?_ ?_ hx7 Try.underlying54 ?_ IS.out ?_); rfl; rfl; rfl; rfl) | ((with_reducible refine wpList_loadR (o := ⟨some 39, _, _, _, _, _⟩) ?_ 54 (.tmp 7) ?_ ?_ hb7 Try.underlying54 ?_ IS.out ?_); rfl; rfl; rfl; rfl))
    go_ret
    exact ⟨rfl, HB7.out⟩
  · rw [if_neg h0] at hO1
    obtain ⟨a1, c1, rfl⟩ := hO1.shape
    have hr1 := hO1.rd
    have HP : Hid (∀ W e W', PutP W (loS x (0, [])) e W' → ∃ v, e = .returned (.tuple #[v, .int .i64 (loS x (0, [])).1]) ∧ Own W' W.heap.size v [] ∧ Below W.heap.size W W') := Lib.hid (by rintro W e W' ⟨v, rfl, h1, h2⟩; rw [if_neg h0] at h1; exact ⟨v, rfl, h1, h2⟩)
    have HPR := Lib.hid (fun W => putSignedR_any W x hx)
    generalize loS x (0, []) = o at *
    obtain ⟨err, q⟩ := o
    simp only [List.length_nil] at *
    clear hback hO1 hlen
    go_wp2_with (first | ((with_reducible refine wpList_loadB (o := ⟨some 15, _, _, _, _, _⟩) ?_ 54 (.tmp 1) ?_ ?_ hb1 Try.underlying54 ?_ IS.out ?_); rfl; rfl; rfl; rfl))
    refine (HPR.out w1).mono ?_
    intro e w2 hP
    obtain ⟨v2, rfl, hO2, hB2⟩ := HP.out _ _ _ hP
    obtain ⟨a2, c2, rfl⟩ := hO2.shape
    have hr2 := hO2.rd
    simp only [List.length_nil] at hr2 ⊢
    have hr12 := hr1.below hB2
    have hb2 := hb1.below hB2
    have hB2' := Bt hB1' hB2
    clear hP hO2 hB2 hb1 hB1' hr1
    go_wp2_with fail
    refine (laid_same w2 a1 0 c1 a2 0 c2 [] err hr12 hr2).mono ?_
    rintro e w3 ⟨rfl, hB3⟩
    have hr3 := hr12.below hB3
    have hb3 := hb2.below hB3
    have hB3' := Bt hB2' hB3
    clear hr12 hr2 hb2 hB2' hB3
    go_wp2_with fail
    refine (getSigned_any w3 a1 0 c1 [] hr3 (by decide)).mono ?_
    rintro e w4 ⟨rfl, hB4⟩
    rw [gSg_nil]
    have HB4 := Lib.hid (Bt hB3' hB4)
    clear hr3 hb3 hB3' hB4
    go_wp2_with (first | ((with_reducible refine wpList_allocB (o := ⟨some 7, _, _, _, _, _⟩) ?_ 54 ?_ sg0_info ?_); rfl; rfl; intro w5 hb5 hg5 hz5) | ((with_reducible refine wpList_storeB (o := ⟨none, .store 54 (.tmp 7) (.tmp 28), _, _, _, _⟩) ?_ 54 (.tmp 7) (.tmp 28) ?_ ?_ ?_ hb5 IS0.out rfl HONE0.out ?_); rfl; rfl; rfl; rfl; intro w6 hb6 hg6 hz6))
    have hB6 := (HB4.out.grown hg5 HB4.out.size (by simp)).grown hg6 (by have := HB4.out.size; omega) (fun k e => by cases e; exact HB4.out.size)
    clear hb5 hg5 hg6 hz5 hz6
    refine (signed_law w6).mono ?_
    rintro e w7 ⟨rfl, hB7⟩
    have HB7 := Lib.hid (Bt hB6 hB7)
    clear hb6 hB6 hB7
    go_wp2_with fail
    go_ret
    exact ⟨rfl, HB7.out⟩

end Go.Proofs.Ytgbhfpkngjlfkaa
