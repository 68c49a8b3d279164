/-
  WireCommands: the chapter's example, and the law.
-/
import Derived.Test.YtoclahcibilbhaaGreatWirT
import Derived.Deep.OwnRows
namespace Go.Proofs.YtoclahcibilbhaaGreat
open Go.RowKit
set_option maxRecDepth 100000

def z38 : List UInt8 := List.replicate 38 0
def z37 : List UInt8 := List.replicate 37 0
theorem z38_length : z38.length = 38 := by decide
theorem z37_length : z37.length = 37 := by decide

def cm1 : Cm := ⟨0, -1, 0, ByteArray.empty, ByteArray.empty, 0, zero32⟩
theorem cm1_ok : cm1.ok := zero32_length
theorem built_c0 : Tryz.prog.built 27 [] = some (cmc cm0).toArray := by kernel_rfl
theorem built_c1 : Tryz.prog.built 27 [(1, .int .i64 (-1))] = some (cmc cm1).toArray := by kernel_rfl
theorem lo_cm0 : (loC cm0 (0, [])).1 = 0 ∧ (loC cm0 (0, [])).2 = z38 := by
  have e0 : encC 0 = [0] := encC_lt (by decide)
  have h0 : loN 0 = fun o => if o.1 ≠ 0 then o else (0, o.2 ++ [0]) := by
    funext o; unfold loN; simp [e0]
  have ht : loT ByteArray.empty = fun o => if o.1 ≠ 0 then o else (0, o.2 ++ [0]) := by
    funext o; unfold loT; simp [e0]
  unfold loC cm0
  simp only [h0, ht, loD]
  decide
theorem lo_cm1 : (loC cm1 (0, [])).1 = 1 := by
  have e0 : encC 0 = [0] := encC_lt (by decide)
  unfold loC cm1
  rw [loN_ok [] (by decide) (by decide), loN_no _ (by decide)]
  simp [loN, loT, loD]
theorem gCm_37 : gCm z37 = (cm0, 60) := by
  have e0 : encC 0 = [0] := encC_lt (by decide)
  have n0 : ∀ t, gN (0 :: t) = some (0, t) := fun t => by
    have := gN_enc 0 t (by decide) (by decide)
    simpa [e0] using this
  have t0 : ∀ t, gT (0 :: t) = some (ByteArray.empty, t) := fun t => by
    have := gT_enc ByteArray.empty t (by decide)
    simpa [e0] using this
  have hd : gD (List.replicate 31 0) = none := by decide
  have hc : gC z37 = none := by
    unfold gC
    rw [show z37 = 0 :: 0 :: 0 :: 0 :: 0 :: 0 :: List.replicate 31 0 from rfl]
    simp only [n0, t0, Option.bind_some, hd, Option.bind_none]
  unfold gCm
  rw [hc]
theorem made38 : madeCells #[Value.int .u8 0] 38 = (bs z38).toArray := by kernel_rfl
theorem made37 : madeCells #[Value.int .u8 0] 37 = (bs z37).toArray := by kernel_rfl

/-- a composite literal behind a guard that says yes -/
theorem wpList_buildQ {w : World} {ops : Array Oper} {rest : List Oper} {o : Oper} {a : Act} {Q : Exit → Act → World → Prop} (hw : Region.wanted o (yielded ops a.tmps) = true) (T : TypeId) (parts : Array (Nat × Operand)) (ho : o.op = .build T parts)
    {vs : List Value} {ps : List (Nat × Value)} (hp : parts.toList.map (fun p => (p.1, a.eval p.2)) = ps) (hb : Tryz.prog.built T ps = some vs.toArray)
    (h : wpList Tryz.prog ops Q rest (a.put o.dst (.agg vs.toArray)) w) : wpList Tryz.prog ops Q (o :: rest) a w := by
  have hb : Tryz.prog.built T (parts.map fun (i, x) => (i, a.eval x)).toList = some vs.toArray := by rw [Array.toList_map]; rw [← hb, ← hp]
  refine wpList_step fun K hK => ?_
  rw [if_pos hw]
  refine wp_build T parts ho (by rw [hb]; rfl) ?_
  rw [hb]
  exact hK _ _ h

set_option maxHeartbeats 1000000 in
theorem commands_law (w : World) :
    Calls Tryz.prog 22 #[] w fun f w' => f = .returned (.bool true) ∧ Below w.heap.size w w' := by
  have B1 := Lib.hid built_c0
  have B2 := Lib.hid built_c1
  go_enter Tryz.func22, Tryz.ntmps22
  go_wp2_with (first | ((with_reducible refine wpList_buildI (dst := some 10) B1.out ?_ ?_); rfl))
  refine (putCommand_any w cm0 cm0_ok).mono ?_
  rintro e w1 ⟨v, rfl, hO, hB1⟩
  rw [if_pos lo_cm0.1] at hO
  obtain ⟨a1, c1, rfl⟩ := hO.shape
  rw [lo_cm0.1, lo_cm0.2, z38_length]
  clear hO
  have m38 : ∀ W, (Instr.makeSlice 22 (.int .i64 38) (.int .i64 38)).run Tryz.prog W = .ok (.slice (some ⟨W.heap.size, 0, none⟩) 38 38) (W.alloc (.cells (bs z38).toArray 5)) := fun W => by
    have := run_make_row' (P := Tryz.prog) 22 5 _ _ Tryz.underlying22 info5 rfl .i64 .i64 38 (by decide) (by decide) W
    rw [made38] at this; exact this
  have m37 : ∀ W, (Instr.makeSlice 22 (.int .i64 37) (.int .i64 37)).run Tryz.prog W = .ok (.slice (some ⟨W.heap.size, 0, none⟩) 37 37) (W.alloc (.cells (bs z37).toArray 5)) := fun W => by
    have := run_make_row' (P := Tryz.prog) 22 5 _ _ Tryz.underlying22 info5 rfl .i64 .i64 37 (by decide) (by decide) W
    rw [made37] at this; exact this
  have IS0 : Hid ((Tryz.prog.info? 27).map (·.size) = some (cmc cm0).length) := Lib.hid (by rw [cmc_length cm0_ok]; exact info_command)
  have HONE0 : Hid (∀ v ∈ cmc cm0, v.oneCell' = true) := Lib.hid (cmc_one _)
  have heq := fun w => eqCm w cm0 cm0_ok
  have g38 : gCm z38 = (cm0, 0) := by rw [← lo_cm0.2]; exact gCm_lo cm0 cm0_ok lo_cm0.1
  have G38 := Lib.hid g38
  clear g38
  have M37 := Lib.hid m37
  clear m37
  go_wp2_with fail
  refine (getCommand_any _ _ 38 38 z38 (Rd.lit w1 _ 38 z38_length (by decide)) (by decide)).mono ?_
  rintro e w2 ⟨rfl, hB2⟩
  rw [G38.out]
  have hB02 : Below w.heap.size w w2 := Bt hB1 (((Below.refl _ w1).alloc (Nat.le_refl _) _).trans (hB2.mono (by simp)))
  clear hB1 hB2 G38 m38
  have m37 := M37.out
  go_wp2_with (first | ((with_reducible refine wpList_allocB (o := ⟨some 3, _, _, _, _, _⟩) ?_ 27 ?_ cm0_info ?_); rfl; rfl; intro w3 hb3 hg3 hz3) | ((with_reducible refine wpList_storeB (o := ⟨none, .store 27 (.tmp 3) (.tmp 17), _, _, _, _⟩) ?_ 27 (.tmp 3) (.tmp 17) ?_ ?_ ?_ hb3 IS0.out rfl HONE0.out ?_); rfl; rfl; rfl; rfl; intro w4 hb4 hg4 hz4))
  have hB4 : Below w.heap.size w w4 := (hB02.grown hg3 hB02.size (by simp)).grown hg4 (by have := hB02.size; omega) (fun k e => by cases e; exact hB02.size)
  have hz24 : w4.heap.size = w2.heap.size + 1 := by omega
  have hrd := Rd.lit w4 z37 37 z37_length (by decide)
  rw [hz24] at hrd
  clear hb3 hg3 hg4 hz3 hz4
  refine (getCommand_any _ _ 37 37 z37 hrd (by decide)).mono ?_
  rintro e w5 ⟨rfl, hB5⟩
  rw [gCm_37]
  have hB45 : Below w4.heap.size w4 w5 := ((Below.refl _ w4).alloc (Nat.le_refl _) _).trans (hB5.mono (by simp))
  have hb5 := hb4.below hB45
  have HB5 := Lib.hid (Bt hB4 hB45)
  have hlt5 := hb5.lt
  clear hb4 hB4 hB5 hB45 hB02 m37 M37 hz24 hrd
  go_wp2_with (first | ((with_reducible refine wpList_allocB (o := ⟨some 5, _, _, _, _, _⟩) ?_ 27 ?_ cm0_info ?_); rfl; rfl; intro w6 hb6 hg6 hz6) | ((with_reducible refine wpList_storeB (o := ⟨none, .store 27 (.tmp 5) (.tmp 22), _, _, _, _⟩) ?_ 27 (.tmp 5) (.tmp 22) ?_ ?_ ?_ hb6 IS0.out rfl HONE0.out ?_); rfl; rfl; rfl; rfl; intro w7 hb7 hg7 hz7) | ((with_reducible refine wpList_buildI (dst := some 25) B2.out ?_ ?_); rfl))
  have hb8 := (hb5.grown hg6 (by simp)).grown hg7 (by simp; omega)
  have hB7 := (HB5.out.grown hg6 HB5.out.size (by simp)).grown hg7 (by have := HB5.out.size; omega) (fun k e => by cases e; exact HB5.out.size)
  refine (putCommand_any w7 cm1 cm1_ok).mono ?_
  rintro e w8 ⟨v8, rfl, hO8, hB8⟩
  rw [lo_cm1]
  have hb9 := hb8.below hB8
  have HB8 := Lib.hid (Bt hB7 hB8)
  clear hb5 hg6 hg7 hz6 hz7 hb6 hb7 hb8 hB7 hB8 hO8
  go_wp2_with (first | ((with_reducible refine wpList_loadR (o := ⟨some 41, _, _, _, _, _⟩) ?_ 27 (.tmp 3) ?_ ?_ hb9 Tryz.underlying27 ?_ IS0.out ?_); rfl; rfl; rfl; rfl) | ((with_reducible refine wpList_buildQ (o := ⟨some 42, _, _, _, _, _⟩) ?_ 27 #[] ?_ (ps := []) ?_ B1.out ?_); rfl; rfl; rfl))
  go_ret
  exact ⟨rfl, HB8.out⟩

end Go.Proofs.YtoclahcibilbhaaGreat
