/-
  A tree that leaves came into and went from; no tree: SmtNil.
-/
import Derived.Test.YtielmijahccgkaaGreatDoorCon05Z
import Derived.Test.YtielmijahccgkaaGreatDoorLaw05A
namespace Go.Proofs.YtielmijahccgkaaGreatDoor
open Go.RowKit

theorem run_field0 (W : World) {y : Lf} (hy : y.ok) : (Instr.field 26 (.agg (lc y).toArray) 0).run Tryz.prog W = .ok (.agg (bs y.path).toArray) W := by
  have hf := leaf_fields
  have hu := leaf_under
  generalize Tryz.prog.fieldsOf 26 = F at *
  obtain ⟨f, g, hF⟩ : ∃ f g, F.toList = [f, g] := by
    match h : F.toList with
    | [f, g] => exact ⟨f, g, rfl⟩
    | [] => rw [h] at hf; simp at hf
    | [_] => rw [h] at hf; simp at hf
    | _ :: _ :: _ :: _ => rw [h] at hf; simp at hf
  rw [hF] at hf
  simp only [List.map_cons, List.map_nil, List.cons.injEq, Prod.mk.injEq, and_true] at hf
  obtain ⟨⟨f1, f2, f3⟩, -⟩ := hf
  have h0 : F[0]? = some f := by rw [← Array.getElem?_toList, hF]; rfl
  unfold Instr.field
  rw [Sem.run_bind, run_underlying hu W]
  simp only [Result.andThen_ok, h0, Sem.run_bind, asAgg, Sem.run_pure, f2, f3, part_digest, lc_path hy]
theorem neq_ab : (lfA.path == lfB.path) = false := by decide
theorem setF_ab : setF [] [lfA, lfB] = [lfA, lfB] := by
  have h := neq_ab
  simp [setF, dropL, h]
theorem set_ba : setE [] [lfA, lfB] = 0 ∧ setI [] [lfA, lfB] = [lfA, lfB] := by
  obtain ⟨h1, h2⟩ := set_nil [lfA, lfB]
  have ht : twiceB [lfA, lfB] = false := by decide
  rw [h1, h2, ht, setF_ab]
  exact ⟨rfl, rfl⟩
theorem drop_b : (findL [lfA, lfB] lfB.path).isSome = true ∧ dropL [lfA, lfB] lfB.path = [lfA] := by
  have h := neq_ab
  simp [findL, dropL, h]
theorem find_b : findL [lfA] lfB.path = none := by
  have h := neq_ab
  simp [findL, h]
theorem rootA : rootL 32 [lfA] = shortI 32 ([0] ++ lfA.path ++ lfA.val) := by
  simp [rootL, digestF, leafD, shortI]

/-- a composite literal whose cells are known, under a guard -/
theorem wpList_buildW {w : World} {ops : Array Oper} {rest : List Oper} {o : Oper} {a : Act} {Q : Exit → Act → World → Prop} (hw : Region.wanted o (yielded ops a.tmps) = true) (T : TypeId) (parts : Array (Nat × Operand)) (ho : o.op = .build T parts)
    {vs : List Value} {ps : List (Nat × Value)} (hp : parts.toList.map (fun p => (p.1, a.eval p.2)) = ps) (hb : Tryz.prog.built T ps = some vs.toArray)
    (h : wpList Tryz.prog ops Q rest (a.put o.dst (.agg vs.toArray)) w) : wpList Tryz.prog ops Q (o :: rest) a w := by
  have hb : Tryz.prog.built T (parts.map fun (i, x) => (i, a.eval x)).toList = some vs.toArray := by rw [Array.toList_map]; rw [← hb, ← hp]
  refine wpList_step fun K hK => ?_
  rw [if_pos hw]
  refine wp_build T parts ho (by rw [hb]; rfl) ?_
  rw [hb]
  exact hK _ _ h

/-! ### no tree -/
section
set_option maxRecDepth 100000
theorem get_no (w : World) (d : List UInt8) :
    Calls Tryz.prog 33 #[.pointer none, .agg (bs d).toArray] w fun e w' => e = .returned (.tuple #[.agg (bs zero32).toArray, .bool false]) ∧ Below w.heap.size w w' := by
  have H6 := Lib.hid (show (Tryz.prog.info? 24).map (·.size) = some (bs zero32).length by rw [info_digest, bs_length, zero32_length])
  have H7 := bs_one zero32
  have HBT := Lib.hid built0
  have hB0 : Below w.heap.size w (w.alloc (.cells (bs d).toArray 24)) := (Below.refl _ w).alloc (Nat.le_refl _) _
  have hz0 : (w.alloc (.cells (bs d).toArray 24)).heap.size = w.heap.size + 1 := by simp
  go_enter Tryz.func33, Tryz.ntmps33
  go_wp2_with (first | ((with_reducible refine wpList_allocB (o := ⟨some 4, _, _, _, _, _⟩) ?_ 24 ?_ zeroD_info ?_); rfl; rfl; intro w1 hr1 hg1 hz1; rw [hz0] at hr1) | ((with_reducible refine wpList_buildI (dst := some 10) HBT.out ?_ ?_); rfl) | ((with_reducible refine wpList_storeB (o := ⟨none, .store 24 (.tmp 4) (.tmp 10), _, _, _, _⟩) ?_ 24 (.tmp 4) (.tmp 10) ?_ ?_ ?_ hr1 H6.out rfl H7 ?_); rfl; rfl; rfl; rfl; intro w8 hb8 hg8 hz8))
  try simp only [Exit.inBlock, Exit.then]
  refine bodyPost_ret (results_digest2 rfl _ _ _ _ _ zero32_length rfl hb8.at_) rfl ⟨rfl, ?_⟩
  exact below_of_grown' (hB0.grown hg1 hB0.size (fun k e => by cases e)) hg8 (by omega)
theorem set_no (w : World) (a : Option Addr) (n c : Nat) :
    Calls Tryz.prog 30 #[.pointer none, .slice a n c] w fun e w' => e = .returned (.int .i64 3) ∧ Below w.heap.size w w' := by
  go_enter Tryz.func30, Tryz.ntmps30
  go_wp2_with fail
  go_ret
  exact ⟨rfl, Below.refl _ _⟩
theorem len_no (w : World) : Calls Tryz.prog 36 #[.pointer none] w fun e w' => e = .returned (.int .i64 0) ∧ Below w.heap.size w w' := by
  go_enter Tryz.func36, Tryz.ntmps36
  go_wp2_with fail
  go_ret
  exact ⟨rfl, Below.refl _ _⟩
theorem leaves_no (w : World) : Calls Tryz.prog 35 #[.pointer none] w fun e w' => e = .returned (.slice none 0 0) ∧ Below w.heap.size w w' := by
  go_enter Tryz.func35, Tryz.ntmps35
  go_wp2_with fail
  go_ret
  exact ⟨rfl, Below.refl _ _⟩
theorem root_no (w : World) : Calls Tryz.prog 38 #[.pointer none] w fun e w' => e = .returned (.agg (bs zero32).toArray) ∧ Below w.heap.size w w' := by
  have H6 := Lib.hid (show (Tryz.prog.info? 24).map (·.size) = some (bs zero32).length by rw [info_digest, bs_length, zero32_length])
  have H7 := bs_one zero32
  have HBT := Lib.hid built0
  go_enter Tryz.func38, Tryz.ntmps38
  go_wp2_with (first | ((with_reducible refine wpList_allocB (o := ⟨some 2, _, _, _, _, _⟩) ?_ 24 ?_ zeroD_info ?_); rfl; rfl; intro w1 hr1 hg1 hz1) | ((with_reducible refine wpList_buildI (dst := some 5) HBT.out ?_ ?_); rfl) | ((with_reducible refine wpList_storeB (o := ⟨none, .store 24 (.tmp 2) (.tmp 5), _, _, _, _⟩) ?_ 24 (.tmp 2) (.tmp 5) ?_ ?_ ?_ hr1 H6.out rfl H7 ?_); rfl; rfl; rfl; rfl; intro w8 hb8 hg8 hz8))
  try simp only [Exit.inBlock, Exit.then]
  refine bodyPost_blk hb8 Tryz.underlying24 H6.out rfl rfl rfl rfl ⟨rfl, ?_⟩
  exact ((Below.refl _ w).grown hg1 (Nat.le_refl _) (fun k e => by cases e)).grown hg8 (by omega) (fun k e => by cases e; exact Nat.le_refl _)
theorem drop_no (w : World) (d : List UInt8) (hd : d.length = 32) :
    Calls Tryz.prog 32 #[.pointer none, .agg (bs d).toArray] w fun e w' => e = .returned (.bool false) ∧ Below w.heap.size w w' := by
  have H5 := Lib.hid (show (Tryz.prog.info? 24).map (·.size) = some (bs d).length by rw [info_digest, bs_length, hd])
  have H6 := Lib.hid (show (Tryz.prog.info? 24).map (·.size) = some (bs zero32).length by rw [info_digest, bs_length, zero32_length])
  have H7 := bs_one zero32
  have hB0 : Below w.heap.size w (w.alloc (.cells (bs d).toArray 24)) := (Below.refl _ w).alloc (Nat.le_refl _) _
  have hrg := (Blk.new w 24 (bs d)).allR
  have GE := get_no (w.alloc (.cells (bs d).toArray 24)) d
  go_enter Tryz.func32, Tryz.ntmps32
  go_wp2_with ((with_reducible refine wpList_loadG (o := ⟨some 9, _, _, _, _, _⟩) ?_ w.heap.size 0 24 (.tmp 3) ?_ ?_ hrg Tryz.underlying24 ?_ H5.out ?_); rfl; rfl; rfl; rfl)
  refine GE.mono ?_
  rintro e w1 ⟨rfl, hB1⟩
  have hB01 := Bt hB0 hB1
  go_wp2_with (first | ((with_reducible refine wpList_allocB (o := ⟨some 5, _, _, _, _, _⟩) ?_ 24 ?_ zeroD_info ?_); rfl; rfl; intro w4 hr4 hg4 hz4) | ((with_reducible refine wpList_storeB (o := ⟨none, .store 24 (.tmp 5) (.tmp 11), _, _, _, _⟩) ?_ 24 (.tmp 5) (.tmp 11) ?_ ?_ ?_ hr4 H6.out rfl H7 ?_); rfl; rfl; rfl; rfl; intro w5 hr5 hg5 hz5))
  go_ret
  have hsz1 := hB01.size
  exact ⟨rfl, (hB01.grown hg4 hsz1 (fun k e => by cases e)).grown hg5 (by omega) (fun k e => by cases e; omega)⟩
end

set_option maxRecDepth 100000 in
set_option maxHeartbeats 2000000 in
theorem grows_any (w : World) (hT : Tab w 1) :
    Calls Tryz.prog 28 #[] w fun e w' => e = .returned (.bool true) ∧ Below w.heap.size w w' := by
  have CA := Lib.hid (fun W : World => a_any W)
  have CB := Lib.hid (fun W : World => b_any W)
  have LA := Lib.hid (fun (W : World) (hb : Below w.heap.size w W) => sleaf_any W 32 lfA lfA_ok (hT.below hb))
  have kAB : oks [lfA, lfB] := fun x hx => by simp at hx; rcases hx with rfl | rfl <;> first | exact lfB_ok | exact lfA_ok
  have M2 : ∀ W : World, RdL (W.alloc (.cells (lcs [lfA, lfB]).toArray 26)) (some ⟨W.heap.size, 0, none⟩) 2 2 [lfA, lfB] := fun W => RdL.many W kAB rfl (by decide)
  have hd := lfB_ok.1
  have ST := Lib.hid (fun (W : World) (tp g : Nat) (h : Sm w 32 tp [] W) (hr : RdL W (some ⟨g, 0, none⟩) 2 2 [lfA, lfB]) => sm_set h _ 2 2 _ hr (by decide) (fun _ => sorts_small 2 (by decide)))
  have DR := Lib.hid (fun (W : World) (tp : Nat) (h : Sm w 32 tp [lfA, lfB] W) => sm_drop h lfB.path hd)
  have GE := Lib.hid (fun (W : World) (tp : Nat) (h : Sm w 32 tp [lfA] W) => sm_get h lfB.path hd)
  have LE := Lib.hid (fun (W : World) (tp : Nat) (h : Sm w 32 tp [lfA] W) => sm_len h)
  have RO := Lib.hid (fun (W : World) (tp : Nat) (h : Sm w 32 tp [lfA] W) => sm_root h (by decide) hT)
  rw [set_ba.1, set_ba.2] at ST
  rw [drop_b.1, drop_b.2] at DR
  rw [find_b, show valOf none = zero32 from rfl, show (none : Option Lf).isSome = false from rfl] at GE
  rw [show (([lfA].length : Nat) : Int) = 1 from rfl] at LE
  rw [rootA] at RO
  have hPB : ∀ W : World, (Instr.field 26 (.agg (lc lfB).toArray) 0).run Tryz.prog W = .ok (.agg (bs lfB.path).toArray) W := fun W => run_field0 W lfB_ok
  have H6 := Lib.hid (show (Tryz.prog.info? 24).map (·.size) = some (bs zero32).length by rw [info_digest, bs_length, zero32_length])
  have H7 := bs_one zero32
  have hla := shortI_length 32 ([0] ++ lfA.path ++ lfA.val)
  generalize shortI 32 ([0] ++ lfA.path ++ lfA.val) = DA at *
  have eI : ∀ W : World, (Op.equalIn 10000 24 (.agg (bs DA).toArray) (.agg (bs DA).toArray)).run Tryz.prog W = .ok true W := fun W => by rw [eqInD W _ _ hla hla]; simp
  generalize lfA = A at *
  generalize lfB = B at *
  go_enter Tryz.func28, Tryz.ntmps28
  go_wp2_with fail
  refine (sm_new w w 32 (by decide) (Below.refl _ _)).mono ?_
  rintro e w1 ⟨tp, rfl, hS1⟩
  go_wp2_with fail
  refine (CA.out _).mono ?_
  rintro e w2 ⟨rfl, hB2⟩
  have hS2 := hS1.below hB2
  go_wp2_with fail
  refine (CB.out _).mono ?_
  rintro e w3 ⟨rfl, hB3⟩
  have hS3 := hS2.below hB3
  go_wp2_with ((with_reducible refine wpList_twoL (o := ⟨some 20, _, _, _, _, _⟩) ?_ (.tmp 18) (.tmp 19) ?_ kAB ?_ ?_ ?_); rfl; rfl; rfl; rfl)
  have hS4 := hS3.below ((Below.refl _ w3).alloc (Nat.le_refl _) (.cells (lcs [A, B]).toArray 26))
  have hM := M2 w3
  generalize w3.alloc _ = w4 at *
  refine (ST.out w4 tp _ hS4 hM).mono ?_
  rintro e w5 ⟨rfl, hS5, -⟩
  clear hS1 hS2 hS3 hS4 hM
  go_wp2_with fail
  refine (CB.out _).mono ?_
  rintro e w6 ⟨rfl, hB6⟩
  have hS6 := hS5.below hB6
  go_wp2_with fail
  refine (DR.out w6 tp hS6).mono ?_
  rintro e w7 ⟨rfl, hS7, -⟩
  clear hS5 hS6
  go_wp2_with fail
  refine (CB.out _).mono ?_
  rintro e w8 ⟨rfl, hB8⟩
  have hS8 := hS7.below hB8
  go_wp2_with fail
  refine (GE.out w8 tp hS8).mono ?_
  rintro e w9 ⟨rfl, hB9⟩
  have hS9 := hS8.below hB9
  go_wp2_with (first | ((with_reducible refine wpList_allocB (o := ⟨some 5, _, _, _, _, _⟩) ?_ 24 ?_ zeroD_info ?_); rfl; rfl; intro q3 hrq3 hgq3 hzq3) | ((with_reducible refine wpList_storeB (o := ⟨none, .store 24 (.tmp 5) (.tmp 31), _, _, _, _⟩) ?_ 24 (.tmp 5) (.tmp 31) ?_ ?_ ?_ hrq3 H6.out rfl H7 ?_); rfl; rfl; rfl; rfl; intro q4 hrq4 hgq4 hzq4))
  have hS10 := hS9.below ((Below.refl _ w9).grown hgq3 (Nat.le_refl _) (fun k e => by cases e))
  have hS11 := hS10.put hgq4 hrq3 (by decide) (by decide) (by decide) hS9.bel.size
  clear hS7 hS8 hS9 hS10 hgq3 hrq3 hgq4 hrq4
  refine (LE.out q4 tp hS11).mono ?_
  rintro e w12 ⟨rfl, rfl⟩
  go_wp2_with fail
  refine (RO.out _ tp hS11).mono ?_
  rintro e w13 ⟨rfl, hS13, -⟩
  go_wp2_with fail
  refine (CA.out _).mono ?_
  rintro e w14 ⟨rfl, hB14⟩
  have hS14 := hS13.below hB14
  go_wp2_with fail
  refine (LA.out _ hS14.bel).mono ?_
  rintro e w15 ⟨rfl, hB15⟩
  have hE := eI w15
  go_wp2_with fail
  go_ret
  exact ⟨rfl, (hS14.below hB15).bel⟩

/-- SmtNil -/
theorem walkSmtNil (w : World) (hT : Tab w 1) (a : Option Addr) (n c : Nat) (l : List Lf) (_ : RdL w a n c l) (d : List UInt8) (hd : d.length = 32) :
    Calls Tryz.prog 8 #[.slice a n c, .agg (bs d).toArray] w fun e w' => e = .returned (.bool true) ∧ Below w.heap.size w w' := by
  have H5 := Lib.hid (show (Tryz.prog.info? 24).map (·.size) = some (bs d).length by rw [info_digest, bs_length, hd])
  have H6 := Lib.hid (show (Tryz.prog.info? 24).map (·.size) = some (bs zero32).length by rw [info_digest, bs_length, zero32_length])
  have H7 := bs_one zero32
  have HBT := Lib.hid built0
  have hB0 : Below w.heap.size w (w.alloc (.cells (bs d).toArray 24)) := (Below.refl _ w).alloc (Nat.le_refl _) _
  have hb0 := Blk.new w 24 (bs d)
  have hrg := hb0.allR
  have GE := get_no (w.alloc (.cells (bs d).toArray 24)) d
  have GR := Lib.hid (fun (W : World) (h : Below w.heap.size w W) => grows_any W (hT.below h))
  have eZ : ∀ W : World, (Op.equalIn 10000 24 (.agg (bs zero32).toArray) (.agg (bs zero32).toArray)).run Tryz.prog W = .ok true W := fun W => by rw [eqInD W _ _ zero32_length zero32_length]; simp
  go_enter Tryz.func8, Tryz.ntmps8
  go_wp2_with ((with_reducible refine wpList_loadG (o := ⟨some 10, _, _, _, _, _⟩) ?_ w.heap.size 0 24 (.tmp 3) ?_ ?_ hrg Tryz.underlying24 ?_ H5.out ?_); rfl; rfl; rfl; rfl)
  refine GE.mono ?_
  rintro e w1 ⟨rfl, hB1⟩
  have hB01 := Bt hB0 hB1
  go_wp2_with (first | ((with_reducible refine wpList_allocB (o := ⟨some 6, _, _, _, _, _⟩) ?_ 24 ?_ zeroD_info ?_); rfl; rfl; intro w4 hr4 hg4 hz4) | ((with_reducible refine wpList_storeB (o := ⟨none, .store 24 (.tmp 6) (.tmp 12), _, _, _, _⟩) ?_ 24 (.tmp 6) (.tmp 12) ?_ ?_ ?_ hr4 H6.out rfl H7 ?_); rfl; rfl; rfl; rfl; intro w5 hr5 hg5 hz5))
  have hsz1 := hB01.size
  have hB5 : Below w.heap.size w w5 := (hB01.grown hg4 hsz1 (fun k e => by cases e)).grown hg5 (by omega) (fun k e => by cases e; omega)
  have hb5 := ((hb0.below hB1).grown hg4 (by simp)).grown hg5 (by have := (hb0.below hB1).lt; simp; omega)
  clear hrg hb0
  refine (GR.out _ hB5).mono ?_
  rintro e w6 ⟨rfl, hB6⟩
  have hB06 := Bt hB5 hB6
  go_wp2_with fail
  refine (set_no _ a n c).mono ?_
  rintro e w7 ⟨rfl, hB7⟩
  have hb7 := (hb5.below hB6).below hB7
  have hrg := hb7.allR
  go_wp2_with ((with_reducible refine wpList_loadG (o := ⟨some 23, _, _, _, _, _⟩) ?_ w.heap.size 0 24 (.tmp 3) ?_ ?_ hrg Tryz.underlying24 ?_ H5.out ?_); rfl; rfl; rfl; rfl)
  refine (drop_no _ d hd).mono ?_
  rintro e w8 ⟨rfl, hB8⟩
  have hr8 := ((hr5.below hB6).below hB7).below hB8
  have hrz := hr8.allR
  have hB08 := Bt (Bt hB06 hB7) hB8
  have hE := eZ w8
  go_wp2_with (first | ((with_reducible refine wpList_loadG (o := ⟨some 32, _, _, _, _, _⟩) ?_ w1.heap.size 0 24 (.tmp 6) ?_ ?_ hrz Tryz.underlying24 ?_ H6.out ?_); rfl; rfl; rfl; rfl) | ((with_reducible refine wpList_buildW (o := ⟨some 33, _, _, _, _, _⟩) ?_ 24 #[] ?_ (ps := []) ?_ HBT.out ?_); rfl; rfl; rfl))
  refine (len_no _).mono ?_
  rintro e w9 ⟨rfl, hB9⟩
  go_wp2_with fail
  refine (leaves_no _).mono ?_
  rintro e w10 ⟨rfl, hB10⟩
  go_wp2_with fail
  refine (root_no _).mono ?_
  rintro e w11 ⟨rfl, hB11⟩
  have hE := eZ w11
  go_wp2_with ((with_reducible refine wpList_buildW (o := ⟨some 50, _, _, _, _, _⟩) ?_ 24 #[] ?_ (ps := []) ?_ HBT.out ?_); rfl; rfl; rfl)
  go_ret
  exact ⟨rfl, Bt (Bt (Bt hB08 hB9) hB10) hB11⟩
end Go.Proofs.YtielmijahccgkaaGreatDoor
