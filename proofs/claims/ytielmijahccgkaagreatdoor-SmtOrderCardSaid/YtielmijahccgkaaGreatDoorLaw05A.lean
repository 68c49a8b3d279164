/-
  Law05A Law05B, in one text.
-/
import Derived.Test.YtielmijahccgkaaGreatDoorCon05
import Derived.Test.YtielmijahccgkaaGreatDoorLibW
import Derived.Test.YtielmijahccgkaaGreatDoorLibE
import Derived.Test.YtielmijahccgkaaGreatDoorSmt1
namespace Go.Proofs.YtielmijahccgkaaGreatDoor
/-! The walks of layer 5's statements: roots. -/
section
open Go.RowKit

/-- what a statement's walk comes to: true, and nothing that was there has turned -/
def Yes5 (w : World) (e : Ending) (w' : World) : Prop := e = .returned (.bool true) ∧ Below w.heap.size w w'
theorem Yes5.mk {w w' : World} (h : Below w.heap.size w w') : Yes5 w (.returned (.bool true)) w' := ⟨rfl, h⟩
theorem below5 {w w1 w2 : World} {g : Nat} (h : Below w.heap.size w w1) (hg : w1.grownBy w2 (some g)) (hb : w.heap.size ≤ g) : Below w.heap.size w w2 := h.grown hg h.size (fun k e => by cases e; exact hb)

theorem root_a : rootI 32 [lfA] = shortI 32 ([0] ++ lfA.path ++ lfA.val) := by
  simp [rootI, shortI, twiceB, rootL, digestF, leafD]
theorem rootE_a : rootE 32 [lfA] = 0 := by decide
theorem half_ba0 : half [lfB, lfA] 0 0 = [lfA] := by
  have h1 : bitAt lfB.path 0 = 1 := by decide
  have h2 : bitAt lfA.path 0 = 0 := by decide
  simp [half, h1, h2]
theorem half_ba1 : half [lfB, lfA] 0 1 = [lfB] := by
  have h1 : bitAt lfB.path 0 = 1 := by decide
  have h2 : bitAt lfA.path 0 = 0 := by decide
  simp [half, h1, h2]
theorem twice_ba : twiceB [lfB, lfA] = false := by decide
theorem root_ba : rootI 32 [lfB, lfA] = shortI 32 ([1] ++ shortI 32 ([0] ++ lfA.path ++ lfA.val) ++ shortI 32 ([0] ++ lfB.path ++ lfB.val)) := by
  have h := half_ba0
  have k := half_ba1
  simp [rootI, shortI, twice_ba, rootL, digestF, leafD, nodeD, h, k]
theorem rootE_ba : rootE 32 [lfB, lfA] = 0 := by decide
theorem rootE_aa : rootE 32 [lfA, lfA] = 30 := by decide
theorem root_nil : rootI 32 [] = shortI 32 [2] := by
  simp [rootI, shortI, twiceB, rootL, digestF, emptyD]
theorem rootE_nil : rootE 32 [] = 0 := by decide
set_option maxRecDepth 1000000 in
theorem empty_a : (shortI 32 [2] == shortI 32 ([0] ++ lfA.path ++ lfA.val)) = false := by decide +kernel

/-- what the last region of roots knows of a world: the three digests -/
structure RootsAt (w W : World) (x y z : List UInt8) (g1 g3 g7 : Nat) : Prop where
  b1 : Blk W g1 24 (bs x)
  b3 : Blk W g3 24 (bs y)
  b7 : Blk W g7 24 (bs z)
  bel : Below w.heap.size w W
theorem RootsAt.below {w W W' : World} {x y z : List UInt8} {g1 g3 g7 : Nat} (h : RootsAt w W x y z g1 g3 g7) (hb : Below W.heap.size W W') : RootsAt w W' x y z g1 g3 g7 :=
  ⟨h.b1.below hb, h.b3.below hb, h.b7.below hb, Bt h.bel hb⟩
theorem RootsAt.drew {w W : World} {x y z : List UInt8} {g1 g3 g7 : Nat} (h : RootsAt w W x y z g1 g3 g7) : RootsAt w W.drew x y z g1 g3 g7 := h.below ⟨rfl, rfl, rfl, Nat.le_refl _, fun _ _ => rfl⟩
theorem dig5 {d : List UInt8} (h : d.length = 32) : (Tryz.prog.info? 24).map (·.size) = some (bs d).length ∧ (bs zero32).length = (bs d).length :=
  ⟨by rw [info_digest, bs_length, h], by rw [bs_length, bs_length, zero32_length, h]⟩

set_option maxRecDepth 100000 in
set_option maxHeartbeats 2000000 in
theorem roots_any (w : World) (hT : Tab w 1) :
    Calls Tryz.prog 14 #[] w fun e w' => e = .returned (.bool true) ∧ Below w.heap.size w w' := by
  have R1 := Lib.hid (fun (W : World) (g : Nat) (h : RdL W (some ⟨g, 0, none⟩) 1 1 [lfA]) (hb : Below w.heap.size w W) => sroot12 W 32 _ 1 1 [lfA] h (hT.below hb) (by decide))
  have R2 := Lib.hid (fun (W : World) (g : Nat) (h : RdL W (some ⟨g, 0, none⟩) 2 2 [lfB, lfA]) (hb : Below w.heap.size w W) => sroot12 W 32 _ 2 2 [lfB, lfA] h (hT.below hb) (by decide))
  have R3 := Lib.hid (fun (W : World) (g : Nat) (h : RdL W (some ⟨g, 0, none⟩) 2 2 [lfA, lfA]) (hb : Below w.heap.size w W) => sroot12 W 32 _ 2 2 [lfA, lfA] h (hT.below hb) (by decide))
  have R4 := Lib.hid (fun (W : World) (hb : Below w.heap.size w W) => sroot12 W 32 none 0 0 [] (RdL.nil0 W) (hT.below hb) (by decide))
  have LA := Lib.hid (fun (W : World) (hb : Below w.heap.size w W) => sleaf_any W 32 lfA lfA_ok (hT.below hb))
  have LB := Lib.hid (fun (W : World) (hb : Below w.heap.size w W) => sleaf_any W 32 lfB lfB_ok (hT.below hb))
  have EM := Lib.hid (fun (W : World) (hb : Below w.heap.size w W) => sempty_any W 32 (hT.below hb))
  have NO := Lib.hid (fun (W : World) (hb : Below w.heap.size w W) => snode_any W 32 _ _ (shortI_length 32 ([0] ++ lfA.path ++ lfA.val)) (shortI_length 32 ([0] ++ lfB.path ++ lfB.val)) (hT.below hb))
  rw [root_a, rootE_a] at R1
  rw [root_ba, rootE_ba] at R2
  rw [rootE_aa] at R3
  rw [root_nil, rootE_nil] at R4
  have hne := empty_a
  have hla := shortI_length 32 ([0] ++ lfA.path ++ lfA.val)
  have hlb := shortI_length 32 ([0] ++ lfB.path ++ lfB.val)
  have hle := shortI_length 32 [2]
  have hl3 := rootI_length 32 [lfA, lfA]
  have CA := Lib.hid (fun W : World => a_any W)
  have CB := Lib.hid (fun W : World => b_any W)
  have M1 : ∀ W : World, RdL (W.alloc (.cells (lc lfA).toArray 26)) (some ⟨W.heap.size, 0, none⟩) 1 1 [lfA] := fun W => RdL.one W lfA_ok
  have kBA : oks [lfB, lfA] := fun x hx => by simp at hx; rcases hx with rfl | rfl <;> first | exact lfB_ok | exact lfA_ok
  have kAA : oks [lfA, lfA] := fun x hx => by simp at hx; subst hx; exact lfA_ok
  have okA := lfA_ok
  have M2 : ∀ W : World, RdL (W.alloc (.cells (lcs [lfB, lfA]).toArray 26)) (some ⟨W.heap.size, 0, none⟩) 2 2 [lfB, lfA] := fun W => RdL.many W kBA rfl (by decide)
  have M3 : ∀ W : World, RdL (W.alloc (.cells (lcs [lfA, lfA]).toArray 26)) (some ⟨W.heap.size, 0, none⟩) 2 2 [lfA, lfA] := fun W => RdL.many W kAA rfl (by decide)
  generalize rootI 32 [lfA, lfA] = D3 at *
  generalize hdn : shortI 32 ([1] ++ shortI 32 ([0] ++ lfA.path ++ lfA.val) ++ shortI 32 ([0] ++ lfB.path ++ lfB.val)) = DN at *
  have hln : DN.length = 32 := by rw [← hdn]; exact shortI_length _ _
  clear hdn
  generalize shortI 32 ([0] ++ lfA.path ++ lfA.val) = DA at *
  generalize shortI 32 ([0] ++ lfB.path ++ lfB.val) = DB at *
  generalize shortI 32 [2] = DE at *
  generalize lfA = A at *
  generalize lfB = B at *
  have iA := Lib.hid (dig5 hla).1
  have jA := Lib.hid (dig5 hla).2
  have oA := bs_one DA
  have iN := Lib.hid (dig5 hln).1
  have jN := Lib.hid (dig5 hln).2
  have oN := bs_one DN
  have iE := Lib.hid (dig5 hle).1
  have jE := Lib.hid (dig5 hle).2
  have oE := bs_one DE
  have i3 := Lib.hid (dig5 hl3).1
  have j3 := Lib.hid (dig5 hl3).2
  have o3 := bs_one D3
  have eA := Lib.hid (show ∀ W : World, (binOp .eql 24 (.agg (bs DA).toArray) (.agg (bs DA).toArray)).run Tryz.prog W = .ok (.bool true) W from fun W => by rw [eqD W _ _ hla hla]; simp)
  have eN := Lib.hid (show ∀ W : World, (binOp .eql 24 (.agg (bs DN).toArray) (.agg (bs DN).toArray)).run Tryz.prog W = .ok (.bool true) W from fun W => by rw [eqD W _ _ hln hln]; simp)
  have eE := Lib.hid (show ∀ W : World, (binOp .eql 24 (.agg (bs DE).toArray) (.agg (bs DE).toArray)).run Tryz.prog W = .ok (.bool true) W from fun W => by rw [eqD W _ _ hle hle]; simp)
  have nE := Lib.hid (show ∀ W : World, (binOp .neq 24 (.agg (bs DE).toArray) (.agg (bs DA).toArray)).run Tryz.prog W = .ok (.bool true) W from fun W => by rw [neqD W _ _ hle hla, hne]; rfl)
  clear hne hla hlb hle hl3 hln
  go_enter Tryz.func14, Tryz.ntmps14
  go_wp2_with fail
  refine (CA.out _).mono ?_
  rintro e w1 ⟨rfl, hB1⟩
  go_wp2_with ((with_reducible refine wpList_oneL (o := ⟨some 11, _, _, _, _, _⟩) ?_ (.tmp 10) ?_ ?_ okA ?_); rfl; rfl; rfl)
  have hBa := Bt hB1 ((Below.refl _ w1).alloc (Nat.le_refl _) (.cells (lc A).toArray 26))
  have hM := M1 w1
  generalize w1.alloc _ = w2 at *
  refine (R1.out w2 _ hM hBa).mono ?_
  rintro e p2 ⟨rfl, hBb⟩
  have hP := Bt hBa hBb
  go_wp2_with (first | ((with_reducible refine wpList_allocB (o := ⟨some 1, _, _, _, _, _⟩) ?_ 24 ?_ zeroD_info ?_); rfl; rfl; intro p3 hrp3 hgp3 hzp3) | ((with_reducible refine wpList_storeB (o := ⟨none, .store 24 (.tmp 1) (.tmp 13), _, _, _, _⟩) ?_ 24 (.tmp 1) (.tmp 13) ?_ ?_ ?_ hrp3 iA.out jA.out oA ?_); rfl; rfl; rfl; rfl; intro p4 hrp4 hgp4 hzp4))
  have hBp4 := below5 (hP.grown hgp3 hP.size (fun k e => by cases e)) hgp4 hP.size
  refine (CB.out _).mono ?_
  rintro e q1 ⟨rfl, hC1⟩
  go_wp2_with fail
  refine (CA.out _).mono ?_
  rintro e q2 ⟨rfl, hC2⟩
  go_wp2_with ((with_reducible refine wpList_twoL (o := ⟨some 18, _, _, _, _, _⟩) ?_ (.tmp 16) (.tmp 17) ?_ kBA ?_ ?_ ?_); rfl; rfl; rfl; rfl)
  have hC12 := Bt hC1 hC2
  have hCa := Bt hC12 ((Below.refl _ q2).alloc (Nat.le_refl _) (.cells (lcs [B, A]).toArray 26))
  have hM := M2 q2
  generalize q2.alloc _ = q5 at *
  refine (R2.out q5 _ hM (Bt hBp4 hCa)).mono ?_
  rintro e q6 ⟨rfl, hCb⟩
  have hCc := Bt hCa hCb
  have hQ := Bt hBp4 hCc
  have kp := hrp4.below hCc
  go_wp2_with (first | ((with_reducible refine wpList_allocB (o := ⟨some 3, _, _, _, _, _⟩) ?_ 24 ?_ zeroD_info ?_); rfl; rfl; intro q3 hrq3 hgq3 hzq3) | ((with_reducible refine wpList_storeB (o := ⟨none, .store 24 (.tmp 3) (.tmp 20), _, _, _, _⟩) ?_ 24 (.tmp 3) (.tmp 20) ?_ ?_ ?_ hrq3 iN.out jN.out oN ?_); rfl; rfl; rfl; rfl; intro q4 hrq4 hgq4 hzq4))
  have hBq4 := below5 (hQ.grown hgq3 hQ.size (fun k e => by cases e)) hgq4 hQ.size
  have kp := (kp.grown hgq3 (by simp)).grown hgq4 (by have := kp.lt; simp; omega)
  refine (CA.out _).mono ?_
  rintro e r1 ⟨rfl, hD1⟩
  go_wp2_with fail
  refine (CA.out _).mono ?_
  rintro e r2 ⟨rfl, hD2⟩
  go_wp2_with ((with_reducible refine wpList_twoL (o := ⟨some 25, _, _, _, _, _⟩) ?_ (.tmp 23) (.tmp 24) ?_ kAA ?_ ?_ ?_); rfl; rfl; rfl; rfl)
  have hD12 := Bt hD1 hD2
  have hDa := Bt hD12 ((Below.refl _ r2).alloc (Nat.le_refl _) (.cells (lcs [A, A]).toArray 26))
  have hM := M3 r2
  generalize r2.alloc _ = r5 at *
  refine (R3.out r5 _ hM (Bt hBq4 hDa)).mono ?_
  rintro e r6 ⟨rfl, hDb⟩
  have hDc := Bt hDa hDb
  have hR := Bt hBq4 hDc
  have kp := kp.below hDc
  have kq := hrq4.below hDc
  go_wp2_with (first | ((with_reducible refine wpList_allocB (o := ⟨some 5, _, _, _, _, _⟩) ?_ 24 ?_ zeroD_info ?_); rfl; rfl; intro r3 hrr3 hgr3 hzr3) | ((with_reducible refine wpList_storeB (o := ⟨none, .store 24 (.tmp 5) (.tmp 27), _, _, _, _⟩) ?_ 24 (.tmp 5) (.tmp 27) ?_ ?_ ?_ hrr3 i3.out j3.out o3 ?_); rfl; rfl; rfl; rfl; intro r4 hrr4 hgr4 hzr4))
  have hBr4 := below5 (hR.grown hgr3 hR.size (fun k e => by cases e)) hgr4 hR.size
  have kp := (kp.grown hgr3 (by simp)).grown hgr4 (by have := kp.lt; simp; omega)
  have kq := (kq.grown hgr3 (by simp)).grown hgr4 (by have := kq.lt; simp; omega)
  refine (R4.out _ hBr4).mono ?_
  rintro e s1 ⟨rfl, hE1⟩
  have hS1 := Bt hBr4 hE1
  have kp := kp.below hE1
  have kq := kq.below hE1
  go_wp2_with (first | ((with_reducible refine wpList_allocB (o := ⟨some 7, _, _, _, _, _⟩) ?_ 24 ?_ zeroD_info ?_); rfl; rfl; intro s3 hrs3 hgs3 hzs3) | ((with_reducible refine wpList_storeB (o := ⟨none, .store 24 (.tmp 7) (.tmp 31), _, _, _, _⟩) ?_ 24 (.tmp 7) (.tmp 31) ?_ ?_ ?_ hrs3 iE.out jE.out oE ?_); rfl; rfl; rfl; rfl; intro s4 hrs4 hgs4 hzs4))
  have hBs4 := below5 (hS1.grown hgs3 hS1.size (fun k e => by cases e)) hgs4 hS1.size
  have kp := (kp.grown hgs3 (by simp)).grown hgs4 (by have := kp.lt; simp; omega)
  have kq := (kq.grown hgs3 (by simp)).grown hgs4 (by have := kq.lt; simp; omega)
  have hS : RootsAt w s4 DA DN DE p2.heap.size q6.heap.size s1.heap.size := ⟨kp, kq, hrs4, hBs4⟩
  generalize p2.heap.size = g1 at *
  generalize q6.heap.size = g3 at *
  generalize s1.heap.size = g7 at *
  -- REGION 5 2
  refine wp_region_held_drew (S := fun W => RootsAt w W DA DN DE g1 g3 g7) (by kernel_rfl) hS.drew (fun hHeld => ?_)
  refine wpAnyH_take (i := 0) (oi := ⟨some 33, .move (.tmp 2), _, _, _, none⟩) (v := ?_) rfl (by kernel_rfl) (by kernel_rfl) (by kernel_rfl) (fun _ _ _ h => h) (Or.inl ⟨by rfl, ?_⟩) hHeld ?_
  rotate_left
  · intro W _; go_simp; try with_reducible rfl
  try simp only [Act.put, List.setIfInBounds_toArray, List.set_cons_zero, List.set_cons_succ]
  refine wpAnyH_take (i := 1) (oi := ⟨some 34, .binOp .eql 27 (.tmp 33) (.const (.int .i64 0)) 27, _, _, _, none⟩) (v := ?_) rfl (by kernel_rfl) (by kernel_rfl) (by kernel_rfl) (fun _ _ _ h => h) (Or.inl ⟨by rfl, ?_⟩) hHeld ?_
  rotate_left
  · intro W _; go_simp; try with_reducible rfl
  try simp only [Act.put, List.setIfInBounds_toArray, List.set_cons_zero, List.set_cons_succ]
  refine wpAnyH_take (i := 2) (oi := ⟨some 35, .move (.tmp 34), _, _, _, none⟩) (v := ?_) rfl (by kernel_rfl) (by kernel_rfl) (by kernel_rfl) (fun _ _ _ h => h) (Or.inl ⟨by rfl, ?_⟩) hHeld ?_
  rotate_left
  · intro W _; go_simp; try with_reducible rfl
  try simp only [Act.put, List.setIfInBounds_toArray, List.set_cons_zero, List.set_cons_succ]
  refine wpAnyH_take (i := 3) (oi := ⟨some 36, .load 24 (.tmp 1), _, _, _, some (2, true)⟩) (v := .agg (bs DA).toArray) rfl (by kernel_rfl) (by kernel_rfl) (by kernel_rfl) (fun _ _ _ h => h) (yieldsIf_load_mid (by rfl) _ _ rfl g1 0 rfl (bs DA) _ (fun W h => h.b1.allR) Tryz.underlying24 rfl iA.out) hHeld ?_
  try simp only [Act.put, List.setIfInBounds_toArray, List.set_cons_zero, List.set_cons_succ]
  refine wpAnyH_ready (rs := [4]) (by kernel_rfl) (by simp) ?_
  refine AllReadyH.cons (o := ⟨some 37, .call { callee := .value (.func 44), args := #[], argTypes := #[] }, _, _, _, some (2, true)⟩) rfl (fun K hK => ?_) AllReadyH.nil
  refine step_ofR (by rfl) ?_
  go_simp
  refine (CA.out _).mono ?_
  rintro x W1 ⟨rfl, hb1⟩
  refine hK.out _ _ (hHeld.below hb1) (fun hHeld => ?_)
  clear hK K
  try simp only [Act.put, List.setIfInBounds_toArray, List.set_cons_zero, List.set_cons_succ]
  refine wpAnyH_ready (rs := [5]) (by kernel_rfl) (by simp) ?_
  refine AllReadyH.cons (o := ⟨some 38, .call { callee := .value (.func 17), args := #[.const (.int .i64 32), .tmp 37], argTypes := #[3, 26] }, _, _, _, some (2, true)⟩) rfl (fun K hK => ?_) AllReadyH.nil
  refine step_ofR (by rfl) ?_
  go_simp
  refine (LA.out _ hHeld.bel).mono ?_
  rintro x W1 ⟨rfl, hb1⟩
  refine hK.out _ _ (hHeld.below hb1) (fun hHeld => ?_)
  clear hK K
  try simp only [Act.put, List.setIfInBounds_toArray, List.set_cons_zero, List.set_cons_succ]
  refine wpAnyH_take (i := 6) (oi := ⟨some 39, .binOp .eql 24 (.tmp 36) (.tmp 38) 24, _, _, _, some (2, true)⟩) (v := .bool true) rfl (by kernel_rfl) (by kernel_rfl) (by kernel_rfl) (fun _ _ _ h => h) (yieldsIf_eqE (by rfl) .eql 24 24 (.tmp 36) (.tmp 38) rfl _ _ rfl rfl guardR _ eA.out) hHeld ?_
  try simp only [Act.put, List.setIfInBounds_toArray, List.set_cons_zero, List.set_cons_succ]
  refine wpAnyH_take (i := 7) (oi := ⟨some 40, .pick (.tmp 35) (.tmp 39) (.const (.bool false)), _, _, _, none⟩) (v := ?_) rfl (by kernel_rfl) (by kernel_rfl) (by kernel_rfl) (fun _ _ _ h => h) (Or.inl ⟨by rfl, ?_⟩) hHeld ?_
  rotate_left
  · intro W _; go_simp; try with_reducible rfl
  try simp only [Act.put, List.setIfInBounds_toArray, List.set_cons_zero, List.set_cons_succ]
  refine wpAnyH_take (i := 8) (oi := ⟨some 41, .move (.tmp 40), _, _, _, none⟩) (v := ?_) rfl (by kernel_rfl) (by kernel_rfl) (by kernel_rfl) (fun _ _ _ h => h) (Or.inl ⟨by rfl, ?_⟩) hHeld ?_
  rotate_left
  · intro W _; go_simp; try with_reducible rfl
  try simp only [Act.put, List.setIfInBounds_toArray, List.set_cons_zero, List.set_cons_succ]
  refine wpAnyH_take (i := 9) (oi := ⟨some 42, .move (.tmp 4), _, _, _, some (8, true)⟩) (v := ?_) rfl (by kernel_rfl) (by kernel_rfl) (by kernel_rfl) (fun _ _ _ h => h) (Or.inl ⟨by rfl, ?_⟩) hHeld ?_
  rotate_left
  · intro W _; go_simp; try with_reducible rfl
  try simp only [Act.put, List.setIfInBounds_toArray, List.set_cons_zero, List.set_cons_succ]
  refine wpAnyH_take (i := 10) (oi := ⟨some 43, .binOp .eql 27 (.tmp 42) (.const (.int .i64 0)) 27, _, _, _, some (8, true)⟩) (v := ?_) rfl (by kernel_rfl) (by kernel_rfl) (by kernel_rfl) (fun _ _ _ h => h) (Or.inl ⟨by rfl, ?_⟩) hHeld ?_
  rotate_left
  · intro W _; go_simp; try with_reducible rfl
  try simp only [Act.put, List.setIfInBounds_toArray, List.set_cons_zero, List.set_cons_succ]
  refine wpAnyH_take (i := 11) (oi := ⟨some 44, .pick (.tmp 41) (.tmp 43) (.const (.bool false)), _, _, _, none⟩) (v := ?_) rfl (by kernel_rfl) (by kernel_rfl) (by kernel_rfl) (fun _ _ _ h => h) (Or.inl ⟨by rfl, ?_⟩) hHeld ?_
  rotate_left
  · intro W _; go_simp; try with_reducible rfl
  try simp only [Act.put, List.setIfInBounds_toArray, List.set_cons_zero, List.set_cons_succ]
  refine wpAnyH_take (i := 12) (oi := ⟨some 45, .move (.tmp 44), _, _, _, none⟩) (v := ?_) rfl (by kernel_rfl) (by kernel_rfl) (by kernel_rfl) (fun _ _ _ h => h) (Or.inl ⟨by rfl, ?_⟩) hHeld ?_
  rotate_left
  · intro W _; go_simp; try with_reducible rfl
  try simp only [Act.put, List.setIfInBounds_toArray, List.set_cons_zero, List.set_cons_succ]
  refine wpAnyH_take (i := 13) (oi := ⟨some 46, .load 24 (.tmp 3), _, _, _, some (12, true)⟩) (v := .agg (bs DN).toArray) rfl (by kernel_rfl) (by kernel_rfl) (by kernel_rfl) (fun _ _ _ h => h) (yieldsIf_load_mid (by rfl) _ _ rfl g3 0 rfl (bs DN) _ (fun W h => h.b3.allR) Tryz.underlying24 rfl iN.out) hHeld ?_
  try simp only [Act.put, List.setIfInBounds_toArray, List.set_cons_zero, List.set_cons_succ]
  refine wpAnyH_ready (rs := [14]) (by kernel_rfl) (by simp) ?_
  refine AllReadyH.cons (o := ⟨some 47, .call { callee := .value (.func 44), args := #[], argTypes := #[] }, _, _, _, some (12, true)⟩) rfl (fun K hK => ?_) AllReadyH.nil
  refine step_ofR (by rfl) ?_
  go_simp
  refine (CA.out _).mono ?_
  rintro x W1 ⟨rfl, hb1⟩
  refine hK.out _ _ (hHeld.below hb1) (fun hHeld => ?_)
  clear hK K
  try simp only [Act.put, List.setIfInBounds_toArray, List.set_cons_zero, List.set_cons_succ]
  refine wpAnyH_ready (rs := [15]) (by kernel_rfl) (by simp) ?_
  refine AllReadyH.cons (o := ⟨some 48, .call { callee := .value (.func 17), args := #[.const (.int .i64 32), .tmp 47], argTypes := #[3, 26] }, _, _, _, some (12, true)⟩) rfl (fun K hK => ?_) AllReadyH.nil
  refine step_ofR (by rfl) ?_
  go_simp
  refine (LA.out _ hHeld.bel).mono ?_
  rintro x W1 ⟨rfl, hb1⟩
  refine hK.out _ _ (hHeld.below hb1) (fun hHeld => ?_)
  clear hK K
  try simp only [Act.put, List.setIfInBounds_toArray, List.set_cons_zero, List.set_cons_succ]
  refine wpAnyH_ready (rs := [16]) (by kernel_rfl) (by simp) ?_
  refine AllReadyH.cons (o := ⟨some 49, .call { callee := .value (.func 45), args := #[], argTypes := #[] }, _, _, _, some (12, true)⟩) rfl (fun K hK => ?_) AllReadyH.nil
  refine step_ofR (by rfl) ?_
  go_simp
  refine (CB.out _).mono ?_
  rintro x W1 ⟨rfl, hb1⟩
  refine hK.out _ _ (hHeld.below hb1) (fun hHeld => ?_)
  clear hK K
  try simp only [Act.put, List.setIfInBounds_toArray, List.set_cons_zero, List.set_cons_succ]
  refine wpAnyH_ready (rs := [17]) (by kernel_rfl) (by simp) ?_
  refine AllReadyH.cons (o := ⟨some 50, .call { callee := .value (.func 17), args := #[.const (.int .i64 32), .tmp 49], argTypes := #[3, 26] }, _, _, _, some (12, true)⟩) rfl (fun K hK => ?_) AllReadyH.nil
  refine step_ofR (by rfl) ?_
  go_simp
  refine (LB.out _ hHeld.bel).mono ?_
  rintro x W1 ⟨rfl, hb1⟩
  refine hK.out _ _ (hHeld.below hb1) (fun hHeld => ?_)
  clear hK K
  try simp only [Act.put, List.setIfInBounds_toArray, List.set_cons_zero, List.set_cons_succ]
  refine wpAnyH_ready (rs := [18]) (by kernel_rfl) (by simp) ?_
  refine AllReadyH.cons (o := ⟨some 51, .call { callee := .value (.func 19), args := #[.const (.int .i64 32), .tmp 48, .tmp 50], argTypes := #[3, 24, 24] }, _, _, _, some (12, true)⟩) rfl (fun K hK => ?_) AllReadyH.nil
  refine step_ofR (by rfl) ?_
  go_simp
  refine (NO.out _ hHeld.bel).mono ?_
  rintro x W1 ⟨rfl, hb1⟩
  refine hK.out _ _ (hHeld.below hb1) (fun hHeld => ?_)
  clear hK K
  try simp only [Act.put, List.setIfInBounds_toArray, List.set_cons_zero, List.set_cons_succ]
  refine wpAnyH_take (i := 19) (oi := ⟨some 52, .binOp .eql 24 (.tmp 46) (.tmp 51) 24, _, _, _, some (12, true)⟩) (v := .bool true) rfl (by kernel_rfl) (by kernel_rfl) (by kernel_rfl) (fun _ _ _ h => h) (yieldsIf_eqE (by rfl) .eql 24 24 (.tmp 46) (.tmp 51) rfl _ _ rfl rfl guardR _ eN.out) hHeld ?_
  try simp only [Act.put, List.setIfInBounds_toArray, List.set_cons_zero, List.set_cons_succ]
  refine wpAnyH_take (i := 20) (oi := ⟨some 53, .pick (.tmp 45) (.tmp 52) (.const (.bool false)), _, _, _, none⟩) (v := ?_) rfl (by kernel_rfl) (by kernel_rfl) (by kernel_rfl) (fun _ _ _ h => h) (Or.inl ⟨by rfl, ?_⟩) hHeld ?_
  rotate_left
  · intro W _; go_simp; try with_reducible rfl
  try simp only [Act.put, List.setIfInBounds_toArray, List.set_cons_zero, List.set_cons_succ]
  refine wpAnyH_take (i := 21) (oi := ⟨some 54, .move (.tmp 53), _, _, _, none⟩) (v := ?_) rfl (by kernel_rfl) (by kernel_rfl) (by kernel_rfl) (fun _ _ _ h => h) (Or.inl ⟨by rfl, ?_⟩) hHeld ?_
  rotate_left
  · intro W _; go_simp; try with_reducible rfl
  try simp only [Act.put, List.setIfInBounds_toArray, List.set_cons_zero, List.set_cons_succ]
  refine wpAnyH_take (i := 22) (oi := ⟨some 55, .move (.tmp 6), _, _, _, some (21, true)⟩) (v := ?_) rfl (by kernel_rfl) (by kernel_rfl) (by kernel_rfl) (fun _ _ _ h => h) (Or.inl ⟨by rfl, ?_⟩) hHeld ?_
  rotate_left
  · intro W _; go_simp; try with_reducible rfl
  try simp only [Act.put, List.setIfInBounds_toArray, List.set_cons_zero, List.set_cons_succ]
  refine wpAnyH_take (i := 23) (oi := ⟨some 56, .binOp .eql 27 (.tmp 55) (.const (.int .i64 30)) 27, _, _, _, some (21, true)⟩) (v := ?_) rfl (by kernel_rfl) (by kernel_rfl) (by kernel_rfl) (fun _ _ _ h => h) (Or.inl ⟨by rfl, ?_⟩) hHeld ?_
  rotate_left
  · intro W _; go_simp; try with_reducible rfl
  try simp only [Act.put, List.setIfInBounds_toArray, List.set_cons_zero, List.set_cons_succ]
  refine wpAnyH_take (i := 24) (oi := ⟨some 57, .pick (.tmp 54) (.tmp 56) (.const (.bool false)), _, _, _, none⟩) (v := ?_) rfl (by kernel_rfl) (by kernel_rfl) (by kernel_rfl) (fun _ _ _ h => h) (Or.inl ⟨by rfl, ?_⟩) hHeld ?_
  rotate_left
  · intro W _; go_simp; try with_reducible rfl
  try simp only [Act.put, List.setIfInBounds_toArray, List.set_cons_zero, List.set_cons_succ]
  refine wpAnyH_take (i := 25) (oi := ⟨some 58, .move (.tmp 57), _, _, _, none⟩) (v := ?_) rfl (by kernel_rfl) (by kernel_rfl) (by kernel_rfl) (fun _ _ _ h => h) (Or.inl ⟨by rfl, ?_⟩) hHeld ?_
  rotate_left
  · intro W _; go_simp; try with_reducible rfl
  try simp only [Act.put, List.setIfInBounds_toArray, List.set_cons_zero, List.set_cons_succ]
  refine wpAnyH_take (i := 26) (oi := ⟨some 59, .move (.tmp 8), _, _, _, some (25, true)⟩) (v := ?_) rfl (by kernel_rfl) (by kernel_rfl) (by kernel_rfl) (fun _ _ _ h => h) (Or.inl ⟨by rfl, ?_⟩) hHeld ?_
  rotate_left
  · intro W _; go_simp; try with_reducible rfl
  try simp only [Act.put, List.setIfInBounds_toArray, List.set_cons_zero, List.set_cons_succ]
  refine wpAnyH_take (i := 27) (oi := ⟨some 60, .binOp .eql 27 (.tmp 59) (.const (.int .i64 0)) 27, _, _, _, some (25, true)⟩) (v := ?_) rfl (by kernel_rfl) (by kernel_rfl) (by kernel_rfl) (fun _ _ _ h => h) (Or.inl ⟨by rfl, ?_⟩) hHeld ?_
  rotate_left
  · intro W _; go_simp; try with_reducible rfl
  try simp only [Act.put, List.setIfInBounds_toArray, List.set_cons_zero, List.set_cons_succ]
  refine wpAnyH_take (i := 28) (oi := ⟨some 61, .pick (.tmp 58) (.tmp 60) (.const (.bool false)), _, _, _, none⟩) (v := ?_) rfl (by kernel_rfl) (by kernel_rfl) (by kernel_rfl) (fun _ _ _ h => h) (Or.inl ⟨by rfl, ?_⟩) hHeld ?_
  rotate_left
  · intro W _; go_simp; try with_reducible rfl
  try simp only [Act.put, List.setIfInBounds_toArray, List.set_cons_zero, List.set_cons_succ]
  refine wpAnyH_take (i := 29) (oi := ⟨some 62, .move (.tmp 61), _, _, _, none⟩) (v := ?_) rfl (by kernel_rfl) (by kernel_rfl) (by kernel_rfl) (fun _ _ _ h => h) (Or.inl ⟨by rfl, ?_⟩) hHeld ?_
  rotate_left
  · intro W _; go_simp; try with_reducible rfl
  try simp only [Act.put, List.setIfInBounds_toArray, List.set_cons_zero, List.set_cons_succ]
  refine wpAnyH_take (i := 30) (oi := ⟨some 63, .load 24 (.tmp 7), _, _, _, some (29, true)⟩) (v := .agg (bs DE).toArray) rfl (by kernel_rfl) (by kernel_rfl) (by kernel_rfl) (fun _ _ _ h => h) (yieldsIf_load_mid (by rfl) _ _ rfl g7 0 rfl (bs DE) _ (fun W h => h.b7.allR) Tryz.underlying24 rfl iE.out) hHeld ?_
  try simp only [Act.put, List.setIfInBounds_toArray, List.set_cons_zero, List.set_cons_succ]
  refine wpAnyH_ready (rs := [31]) (by kernel_rfl) (by simp) ?_
  refine AllReadyH.cons (o := ⟨some 64, .call { callee := .value (.func 15), args := #[.const (.int .i64 32)], argTypes := #[3] }, _, _, _, some (29, true)⟩) rfl (fun K hK => ?_) AllReadyH.nil
  refine step_ofR (by rfl) ?_
  go_simp
  refine (EM.out _ hHeld.bel).mono ?_
  rintro x W1 ⟨rfl, hb1⟩
  refine hK.out _ _ (hHeld.below hb1) (fun hHeld => ?_)
  clear hK K
  try simp only [Act.put, List.setIfInBounds_toArray, List.set_cons_zero, List.set_cons_succ]
  refine wpAnyH_take (i := 32) (oi := ⟨some 65, .binOp .eql 24 (.tmp 63) (.tmp 64) 24, _, _, _, some (29, true)⟩) (v := .bool true) rfl (by kernel_rfl) (by kernel_rfl) (by kernel_rfl) (fun _ _ _ h => h) (yieldsIf_eqE (by rfl) .eql 24 24 (.tmp 63) (.tmp 64) rfl _ _ rfl rfl guardR _ eE.out) hHeld ?_
  try simp only [Act.put, List.setIfInBounds_toArray, List.set_cons_zero, List.set_cons_succ]
  refine wpAnyH_take (i := 33) (oi := ⟨some 66, .pick (.tmp 62) (.tmp 65) (.const (.bool false)), _, _, _, none⟩) (v := ?_) rfl (by kernel_rfl) (by kernel_rfl) (by kernel_rfl) (fun _ _ _ h => h) (Or.inl ⟨by rfl, ?_⟩) hHeld ?_
  rotate_left
  · intro W _; go_simp; try with_reducible rfl
  try simp only [Act.put, List.setIfInBounds_toArray, List.set_cons_zero, List.set_cons_succ]
  refine wpAnyH_take (i := 34) (oi := ⟨some 67, .move (.tmp 66), _, _, _, none⟩) (v := ?_) rfl (by kernel_rfl) (by kernel_rfl) (by kernel_rfl) (fun _ _ _ h => h) (Or.inl ⟨by rfl, ?_⟩) hHeld ?_
  rotate_left
  · intro W _; go_simp; try with_reducible rfl
  try simp only [Act.put, List.setIfInBounds_toArray, List.set_cons_zero, List.set_cons_succ]
  refine wpAnyH_take (i := 35) (oi := ⟨some 68, .load 24 (.tmp 7), _, _, _, some (34, true)⟩) (v := .agg (bs DE).toArray) rfl (by kernel_rfl) (by kernel_rfl) (by kernel_rfl) (fun _ _ _ h => h) (yieldsIf_load_mid (by rfl) _ _ rfl g7 0 rfl (bs DE) _ (fun W h => h.b7.allR) Tryz.underlying24 rfl iE.out) hHeld ?_
  try simp only [Act.put, List.setIfInBounds_toArray, List.set_cons_zero, List.set_cons_succ]
  refine wpAnyH_take (i := 36) (oi := ⟨some 69, .load 24 (.tmp 1), _, _, _, some (34, true)⟩) (v := .agg (bs DA).toArray) rfl (by kernel_rfl) (by kernel_rfl) (by kernel_rfl) (fun _ _ _ h => h) (yieldsIf_load_mid (by rfl) _ _ rfl g1 0 rfl (bs DA) _ (fun W h => h.b1.allR) Tryz.underlying24 rfl iA.out) hHeld ?_
  try simp only [Act.put, List.setIfInBounds_toArray, List.set_cons_zero, List.set_cons_succ]
  refine wpAnyH_take (i := 37) (oi := ⟨some 70, .binOp .neq 24 (.tmp 68) (.tmp 69) 24, _, _, _, some (34, true)⟩) (v := .bool true) rfl (by kernel_rfl) (by kernel_rfl) (by kernel_rfl) (fun _ _ _ h => h) (yieldsIf_eqE (by rfl) .neq 24 24 (.tmp 68) (.tmp 69) rfl _ _ rfl rfl guardR _ nE.out) hHeld ?_
  try simp only [Act.put, List.setIfInBounds_toArray, List.set_cons_zero, List.set_cons_succ]
  refine wpAnyH_take (i := 38) (oi := ⟨some 71, .pick (.tmp 67) (.tmp 70) (.const (.bool false)), _, _, _, none⟩) (v := ?_) rfl (by kernel_rfl) (by kernel_rfl) (by kernel_rfl) (fun _ _ _ h => h) (Or.inl ⟨by rfl, ?_⟩) hHeld ?_
  rotate_left
  · intro W _; go_simp; try with_reducible rfl
  try simp only [Act.put, List.setIfInBounds_toArray, List.set_cons_zero, List.set_cons_succ]
  refine wpAnyH_ready (rs := [39]) (by kernel_rfl) (by simp) ?_
  refine AllReadyH.cons (o := ⟨some 0, .assign (.tmp 71), _, _, _, none⟩) rfl (fun K hK => ?_) AllReadyH.nil
  refine step_ofR (by rfl) ?_
  go_simp
  refine hK.out _ _ (hHeld) (fun hHeld => ?_)
  clear hK K
  try simp only [Act.put, List.setIfInBounds_toArray, List.set_cons_zero, List.set_cons_succ]
  refine wpAnyH_done (by kernel_rfl) ?_ _
  -- END 5 2
  go_wp2_with fail
  go_ret
  exact ⟨rfl, hHeld.bel⟩
end
/-! The walk of SmtShort. -/
section
open Go.RowKit

/-- what the last region of SmtShort knows of a world -/
structure ShortAt (w W : World) (y : Lf) (p q d : List UInt8) (g h : Nat) : Prop where
  b7 : Blk W w.heap.size 26 (lc y)
  b8 : Blk W (w.heap.size + 1) 24 (bs p)
  b9 : Blk W (w.heap.size + 1 + 1) 24 (bs q)
  b11 : Blk W g 24 (bs d)
  b13 : Blk W h 24 (bs d)
  bel : Below w.heap.size w W
theorem ShortAt.below {w W W' : World} {y : Lf} {p q d : List UInt8} {g h : Nat} (s : ShortAt w W y p q d g h) (hb : Below W.heap.size W W') : ShortAt w W' y p q d g h :=
  ⟨s.b7.below hb, s.b8.below hb, s.b9.below hb, s.b11.below hb, s.b13.below hb, Bt s.bel hb⟩
theorem ShortAt.drew {w W : World} {y : Lf} {p q d : List UInt8} {g h : Nat} (s : ShortAt w W y p q d g h) : ShortAt w W.drew y p q d g h := s.below ⟨rfl, rfl, rfl, Nat.le_refl _, fun _ _ => rfl⟩
theorem eq5 {d : List UInt8} (h : d.length = 32) : ∀ W : World, (binOp .eql 24 (.agg (bs d).toArray) (.agg (bs d).toArray)).run Tryz.prog W = .ok (.bool true) W := fun W => by rw [eqD W _ _ h h]; simp

set_option maxRecDepth 100000 in
set_option maxHeartbeats 2000000 in
theorem walkSmtShort (w : World) (hT : Tab w 1) (hK : Tab w 0) (x : Int) (_wf : (Lit.int .i64 x).wf = true) (a : Option Addr) (n c : Nat) (l : List UInt8) (hr : Rd w a n c l) (y : Lf) (hy : y.ok)
    (p : List UInt8) (hp : p.length = 32) (q : List UInt8) (hq : q.length = 32) :
    Calls Tryz.prog 3 #[.int .i64 x, .slice a n c, .agg (lc y).toArray, .agg (bs p).toArray, .agg (bs q).toArray] w (Yes5 w) := by
  have k7 := ((Blk.new w 26 (lc y)).alloc (.cells (bs p).toArray 24)).alloc (.cells (bs q).toArray 24)
  have k8 := (Blk.new (w.alloc (.cells (lc y).toArray 26)) 24 (bs p)).alloc (.cells (bs q).toArray 24)
  have k9 := Blk.new ((w.alloc (.cells (lc y).toArray 26)).alloc (.cells (bs p).toArray 24)) 24 (bs q)
  have hB : Below w.heap.size w (((w.alloc (.cells (lc y).toArray 26)).alloc (.cells (bs p).toArray 24)).alloc (.cells (bs q).toArray 24)) := (((Below.refl _ w).alloc (Nat.le_refl _) _).alloc (by simp) _).alloc (by simp; omega) _
  rw [show (w.alloc (.cells (lc y).toArray 26)).heap.size = w.heap.size + 1 by simp] at k8
  rw [show ((w.alloc (.cells (lc y).toArray 26)).alloc (.cells (bs p).toArray 24)).heap.size = w.heap.size + 1 + 1 by simp] at k9
  by_cases hlong : (65536 : Int) < (n : Int)
  · go_enter Tryz.func3, Tryz.ntmps3
    go_wp2_with fail
    go_ret
    exact Yes5.mk hB
  · have hn : n ≤ 65536 := by omega
    have S1 := Lib.hid (fun (W : World) (hb : Below w.heap.size w W) => sshort_any W x a n c l (hr.below hb) (hT.below hb) (by omega))
    have S2 := Lib.hid (fun (W : World) (hb : Below w.heap.size w W) => short_any W x a n c l (hr.below hb) (hK.below hb) (by omega))
    have E1 := Lib.hid (fun (W : World) (hb : Below w.heap.size w W) => sempty_any W x (hT.below hb))
    have E2 := Lib.hid (fun (W : World) (hb : Below w.heap.size w W) => empty_ref W x (hK.below hb))
    have L1 := Lib.hid (fun (W : World) (hb : Below w.heap.size w W) => sleaf_any W x y hy (hT.below hb))
    have L2 := Lib.hid (fun (W : World) (hb : Below w.heap.size w W) => leaf_ref W x y hy (hK.below hb))
    have N1 := Lib.hid (fun (W : World) (hb : Below w.heap.size w W) => snode_any W x p q hp hq (hT.below hb))
    have N2 := Lib.hid (fun (W : World) (hb : Below w.heap.size w W) => node_ref W x p q hp hq (hK.below hb))
    have RO := Lib.hid (fun (W : World) (hb : Below w.heap.size w W) => roots_any W (hT.below hb))
    have hd := shortI_length x l
    have i11 := Lib.hid (dig5 hd).1
    have j11 := Lib.hid (dig5 hd).2
    have o11 := bs_one (shortI x l)
    have e11 := Lib.hid (eq5 hd)
    have eE := Lib.hid (eq5 (shortI_length x [2]))
    have eL := Lib.hid (eq5 (shortI_length x ([0] ++ y.path ++ y.val)))
    have eN := Lib.hid (eq5 (shortI_length x ([1] ++ p ++ q)))
    have iY := Lib.hid (show (Tryz.prog.info? 26).map (·.size) = some (lc y).length by rw [sizeL, lc_length hy])
    have iP := Lib.hid (dig5 hp).1
    have iQ := Lib.hid (dig5 hq).1
    clear hd
    generalize errW x = er at *
    generalize shortI x l = D at *
    generalize shortI x [2] = DE at *
    generalize shortI x ([0] ++ y.path ++ y.val) = DL at *
    generalize shortI x ([1] ++ p ++ q) = DN at *
    go_enter Tryz.func3, Tryz.ntmps3
    go_wp2_with fail
    generalize (((w.alloc _).alloc _).alloc _) = w0 at *
    refine (S1.out _ hB).mono ?_
    rintro e w1 ⟨rfl, hB1⟩
    have hC1 := Bt hB hB1
    go_wp2_with (first | ((with_reducible refine wpList_allocB (o := ⟨some 11, _, _, _, _, _⟩) ?_ 24 ?_ zeroD_info ?_); rfl; rfl; intro w2 hr2 hg2 hz2) | ((with_reducible refine wpList_storeB (o := ⟨none, .store 24 (.tmp 11) (.tmp 22), _, _, _, _⟩) ?_ 24 (.tmp 11) (.tmp 22) ?_ ?_ ?_ hr2 i11.out j11.out o11 ?_); rfl; rfl; rfl; rfl; intro w3 hr3 hg3 hz3))
    have hB3 := below5 (hC1.grown hg2 hC1.size (fun k e => by cases e)) hg3 hC1.size
    refine (S2.out _ hB3).mono ?_
    rintro e w4 ⟨rfl, hB4⟩
    have hC4 := Bt hB3 hB4
    go_wp2_with (first | ((with_reducible refine wpList_allocB (o := ⟨some 13, _, _, _, _, _⟩) ?_ 24 ?_ zeroD_info ?_); rfl; rfl; intro w5 hr5 hg5 hz5) | ((with_reducible refine wpList_storeB (o := ⟨none, .store 24 (.tmp 13) (.tmp 28), _, _, _, _⟩) ?_ 24 (.tmp 13) (.tmp 28) ?_ ?_ ?_ hr5 i11.out j11.out o11 ?_); rfl; rfl; rfl; rfl; intro w6 hr6 hg6 hz6))
    have hB6 := below5 (hC4.grown hg5 hC4.size (fun k e => by cases e)) hg6 hC4.size
    have mv : ∀ {g : Nat} {t : TypeId} {vs : List Value}, Blk w0 g t vs → Blk w6 g t vs := fun {g t vs} k => by
      have k1 := k.below hB1
      have l1 := k1.lt
      have k3 := (k1.grown hg2 (by simp)).grown hg3 (by simp; omega)
      have k4 := k3.below hB4
      have l4 := k4.lt
      exact (k4.grown hg5 (by simp)).grown hg6 (by simp; omega)
    have k11 := hr3.below hB4
    have l11 := k11.lt
    have hS : ShortAt w w6 y p q D w1.heap.size w4.heap.size := ⟨mv k7, mv k8, mv k9, (k11.grown hg5 (by simp)).grown hg6 (by simp; omega), hr6, hB6⟩
    clear mv
    generalize w1.heap.size = g11 at *
    generalize w4.heap.size = g13 at *
    -- REGION 5 4
    refine wp_region_held_drew (S := fun W => ShortAt w W y p q D g11 g13) (by kernel_rfl) hS.drew (fun hHeld => ?_)
    refine wpAnyH_ready (rs := [0]) (by kernel_rfl) (by simp) ?_
    refine AllReadyH.cons (o := ⟨some 30, .call { callee := .value (.func 14), args := #[], argTypes := #[] }, _, _, _, none⟩) rfl (fun K hK => ?_) AllReadyH.nil
    refine step_ofR (by rfl) ?_
    go_simp
    refine (RO.out _ hHeld.bel).mono ?_
    rintro x W1 ⟨rfl, hb1⟩
    refine hK.out _ _ (hHeld.below hb1) (fun hHeld => ?_)
    clear hK K
    try simp only [Act.put, List.setIfInBounds_toArray, List.set_cons_zero, List.set_cons_succ]
    refine wpAnyH_take (i := 1) (oi := ⟨some 31, .move (.tmp 30), _, _, _, none⟩) (v := ?_) rfl (by kernel_rfl) (by kernel_rfl) (by kernel_rfl) (fun _ _ _ h => h) (Or.inl ⟨by rfl, ?_⟩) hHeld ?_
    rotate_left
    · intro W _; go_simp; try with_reducible rfl
    try simp only [Act.put, List.setIfInBounds_toArray, List.set_cons_zero, List.set_cons_succ]
    refine wpAnyH_take (i := 2) (oi := ⟨some 32, .load 24 (.tmp 11), _, _, _, some (1, true)⟩) (v := .agg (bs D).toArray) rfl (by kernel_rfl) (by kernel_rfl) (by kernel_rfl) (fun _ _ _ h => h) (yieldsIf_load_mid (by rfl) _ _ rfl g11 0 rfl (bs D) _ (fun W h => h.b11.allR) Tryz.underlying24 rfl i11.out) hHeld ?_
    try simp only [Act.put, List.setIfInBounds_toArray, List.set_cons_zero, List.set_cons_succ]
    refine wpAnyH_take (i := 3) (oi := ⟨some 33, .load 24 (.tmp 13), _, _, _, some (1, true)⟩) (v := .agg (bs D).toArray) rfl (by kernel_rfl) (by kernel_rfl) (by kernel_rfl) (fun _ _ _ h => h) (yieldsIf_load_mid (by rfl) _ _ rfl g13 0 rfl (bs D) _ (fun W h => h.b13.allR) Tryz.underlying24 rfl i11.out) hHeld ?_
    try simp only [Act.put, List.setIfInBounds_toArray, List.set_cons_zero, List.set_cons_succ]
    refine wpAnyH_take (i := 4) (oi := ⟨some 34, .binOp .eql 24 (.tmp 32) (.tmp 33) 24, _, _, _, some (1, true)⟩) (v := .bool true) rfl (by kernel_rfl) (by kernel_rfl) (by kernel_rfl) (fun _ _ _ h => h) (yieldsIf_eqE (by rfl) .eql 24 24 (.tmp 32) (.tmp 33) rfl _ _ rfl rfl guardR _ e11.out) hHeld ?_
    try simp only [Act.put, List.setIfInBounds_toArray, List.set_cons_zero, List.set_cons_succ]
    refine wpAnyH_take (i := 5) (oi := ⟨some 35, .pick (.tmp 31) (.tmp 34) (.const (.bool false)), _, _, _, none⟩) (v := ?_) rfl (by kernel_rfl) (by kernel_rfl) (by kernel_rfl) (fun _ _ _ h => h) (Or.inl ⟨by rfl, ?_⟩) hHeld ?_
    rotate_left
    · intro W _; go_simp; try with_reducible rfl
    try simp only [Act.put, List.setIfInBounds_toArray, List.set_cons_zero, List.set_cons_succ]
    refine wpAnyH_take (i := 6) (oi := ⟨some 36, .move (.tmp 35), _, _, _, none⟩) (v := ?_) rfl (by kernel_rfl) (by kernel_rfl) (by kernel_rfl) (fun _ _ _ h => h) (Or.inl ⟨by rfl, ?_⟩) hHeld ?_
    rotate_left
    · intro W _; go_simp; try with_reducible rfl
    try simp only [Act.put, List.setIfInBounds_toArray, List.set_cons_zero, List.set_cons_succ]
    refine wpAnyH_take (i := 7) (oi := ⟨some 37, .move (.tmp 12), _, _, _, some (6, true)⟩) (v := ?_) rfl (by kernel_rfl) (by kernel_rfl) (by kernel_rfl) (fun _ _ _ h => h) (Or.inl ⟨by rfl, ?_⟩) hHeld ?_
    rotate_left
    · intro W _; go_simp; try with_reducible rfl
    try simp only [Act.put, List.setIfInBounds_toArray, List.set_cons_zero, List.set_cons_succ]
    refine wpAnyH_take (i := 8) (oi := ⟨some 38, .move (.tmp 14), _, _, _, some (6, true)⟩) (v := ?_) rfl (by kernel_rfl) (by kernel_rfl) (by kernel_rfl) (fun _ _ _ h => h) (Or.inl ⟨by rfl, ?_⟩) hHeld ?_
    rotate_left
    · intro W _; go_simp; try with_reducible rfl
    try simp only [Act.put, List.setIfInBounds_toArray, List.set_cons_zero, List.set_cons_succ]
    refine wpAnyH_take (i := 9) (oi := ⟨some 39, .binOp .eql 27 (.tmp 37) (.tmp 38) 27, _, _, _, some (6, true)⟩) (v := ?_) rfl (by kernel_rfl) (by kernel_rfl) (by kernel_rfl) (fun _ _ _ h => h) (Or.inl ⟨by rfl, ?_⟩) hHeld ?_
    rotate_left
    · intro W _; go_simp; try with_reducible rfl
    try simp only [Act.put, List.setIfInBounds_toArray, List.set_cons_zero, List.set_cons_succ]
    refine wpAnyH_take (i := 10) (oi := ⟨some 40, .pick (.tmp 36) (.tmp 39) (.const (.bool false)), _, _, _, none⟩) (v := ?_) rfl (by kernel_rfl) (by kernel_rfl) (by kernel_rfl) (fun _ _ _ h => h) (Or.inl ⟨by rfl, ?_⟩) hHeld ?_
    rotate_left
    · intro W _; go_simp; try with_reducible rfl
    try simp only [Act.put, List.setIfInBounds_toArray, List.set_cons_zero, List.set_cons_succ]
    refine wpAnyH_take (i := 11) (oi := ⟨some 41, .move (.tmp 40), _, _, _, none⟩) (v := ?_) rfl (by kernel_rfl) (by kernel_rfl) (by kernel_rfl) (fun _ _ _ h => h) (Or.inl ⟨by rfl, ?_⟩) hHeld ?_
    rotate_left
    · intro W _; go_simp; try with_reducible rfl
    try simp only [Act.put, List.setIfInBounds_toArray, List.set_cons_zero, List.set_cons_succ]
    refine wpAnyH_take (i := 12) (oi := ⟨some 42, .move (.tmp 0), _, _, _, some (11, true)⟩) (v := ?_) rfl (by kernel_rfl) (by kernel_rfl) (by kernel_rfl) (fun _ _ _ h => h) (Or.inl ⟨by rfl, ?_⟩) hHeld ?_
    rotate_left
    · intro W _; go_simp; try with_reducible rfl
    try simp only [Act.put, List.setIfInBounds_toArray, List.set_cons_zero, List.set_cons_succ]
    refine wpAnyH_take (i := 14) (oi := ⟨some 44, .move (.tmp 0), _, _, _, some (11, true)⟩) (v := ?_) rfl (by kernel_rfl) (by kernel_rfl) (by kernel_rfl) (fun _ _ _ h => h) (Or.inl ⟨by rfl, ?_⟩) hHeld ?_
    rotate_left
    · intro W _; go_simp; try with_reducible rfl
    try simp only [Act.put, List.setIfInBounds_toArray, List.set_cons_zero, List.set_cons_succ]
    refine wpAnyH_ready (rs := [13]) (by kernel_rfl) (by simp) ?_
    refine AllReadyH.cons (o := ⟨some 43, .call { callee := .value (.func 15), args := #[.tmp 42], argTypes := #[3] }, _, _, _, some (11, true)⟩) rfl (fun K hK => ?_) AllReadyH.nil
    refine step_ofR (by rfl) ?_
    go_simp
    refine (E1.out _ hHeld.bel).mono ?_
    rintro x W1 ⟨rfl, hb1⟩
    refine hK.out _ _ (hHeld.below hb1) (fun hHeld => ?_)
    clear hK K
    try simp only [Act.put, List.setIfInBounds_toArray, List.set_cons_zero, List.set_cons_succ]
    refine wpAnyH_ready (rs := [15]) (by kernel_rfl) (by simp) ?_
    refine AllReadyH.cons (o := ⟨some 45, .call { callee := .value (.func 16), args := #[.tmp 44], argTypes := #[3] }, _, _, _, some (11, true)⟩) rfl (fun K hK => ?_) AllReadyH.nil
    refine step_ofR (by rfl) ?_
    go_simp
    refine (E2.out _ hHeld.bel).mono ?_
    rintro x W1 ⟨rfl, hb1⟩
    refine hK.out _ _ (hHeld.below hb1) (fun hHeld => ?_)
    clear hK K
    try simp only [Act.put, List.setIfInBounds_toArray, List.set_cons_zero, List.set_cons_succ]
    refine wpAnyH_take (i := 16) (oi := ⟨some 46, .binOp .eql 24 (.tmp 43) (.tmp 45) 24, _, _, _, some (11, true)⟩) (v := .bool true) rfl (by kernel_rfl) (by kernel_rfl) (by kernel_rfl) (fun _ _ _ h => h) (yieldsIf_eqE (by rfl) .eql 24 24 (.tmp 43) (.tmp 45) rfl _ _ rfl rfl guardR _ eE.out) hHeld ?_
    try simp only [Act.put, List.setIfInBounds_toArray, List.set_cons_zero, List.set_cons_succ]
    refine wpAnyH_take (i := 17) (oi := ⟨some 47, .pick (.tmp 41) (.tmp 46) (.const (.bool false)), _, _, _, none⟩) (v := ?_) rfl (by kernel_rfl) (by kernel_rfl) (by kernel_rfl) (fun _ _ _ h => h) (Or.inl ⟨by rfl, ?_⟩) hHeld ?_
    rotate_left
    · intro W _; go_simp; try with_reducible rfl
    try simp only [Act.put, List.setIfInBounds_toArray, List.set_cons_zero, List.set_cons_succ]
    refine wpAnyH_take (i := 18) (oi := ⟨some 48, .move (.tmp 47), _, _, _, none⟩) (v := ?_) rfl (by kernel_rfl) (by kernel_rfl) (by kernel_rfl) (fun _ _ _ h => h) (Or.inl ⟨by rfl, ?_⟩) hHeld ?_
    rotate_left
    · intro W _; go_simp; try with_reducible rfl
    try simp only [Act.put, List.setIfInBounds_toArray, List.set_cons_zero, List.set_cons_succ]
    refine wpAnyH_take (i := 19) (oi := ⟨some 49, .move (.tmp 0), _, _, _, some (18, true)⟩) (v := ?_) rfl (by kernel_rfl) (by kernel_rfl) (by kernel_rfl) (fun _ _ _ h => h) (Or.inl ⟨by rfl, ?_⟩) hHeld ?_
    rotate_left
    · intro W _; go_simp; try with_reducible rfl
    try simp only [Act.put, List.setIfInBounds_toArray, List.set_cons_zero, List.set_cons_succ]
    refine wpAnyH_take (i := 20) (oi := ⟨some 50, .load 26 (.tmp 7), _, _, _, some (18, true)⟩) (v := .agg (lc y).toArray) rfl (by kernel_rfl) (by kernel_rfl) (by kernel_rfl) (fun _ _ _ h => h) (yieldsIf_load_mid (by rfl) _ _ rfl w.heap.size 0 rfl (lc y) _ (fun W h => h.b7.allR) Tryz.underlying26 rfl iY.out) hHeld ?_
    try simp only [Act.put, List.setIfInBounds_toArray, List.set_cons_zero, List.set_cons_succ]
    refine wpAnyH_take (i := 22) (oi := ⟨some 52, .move (.tmp 0), _, _, _, some (18, true)⟩) (v := ?_) rfl (by kernel_rfl) (by kernel_rfl) (by kernel_rfl) (fun _ _ _ h => h) (Or.inl ⟨by rfl, ?_⟩) hHeld ?_
    rotate_left
    · intro W _; go_simp; try with_reducible rfl
    try simp only [Act.put, List.setIfInBounds_toArray, List.set_cons_zero, List.set_cons_succ]
    refine wpAnyH_take (i := 23) (oi := ⟨some 53, .load 26 (.tmp 7), _, _, _, some (18, true)⟩) (v := .agg (lc y).toArray) rfl (by kernel_rfl) (by kernel_rfl) (by kernel_rfl) (fun _ _ _ h => h) (yieldsIf_load_mid (by rfl) _ _ rfl w.heap.size 0 rfl (lc y) _ (fun W h => h.b7.allR) Tryz.underlying26 rfl iY.out) hHeld ?_
    try simp only [Act.put, List.setIfInBounds_toArray, List.set_cons_zero, List.set_cons_succ]
    refine wpAnyH_ready (rs := [21]) (by kernel_rfl) (by simp) ?_
    refine AllReadyH.cons (o := ⟨some 51, .call { callee := .value (.func 17), args := #[.tmp 49, .tmp 50], argTypes := #[3, 26] }, _, _, _, some (18, true)⟩) rfl (fun K hK => ?_) AllReadyH.nil
    refine step_ofR (by rfl) ?_
    go_simp
    refine (L1.out _ hHeld.bel).mono ?_
    rintro x W1 ⟨rfl, hb1⟩
    refine hK.out _ _ (hHeld.below hb1) (fun hHeld => ?_)
    clear hK K
    try simp only [Act.put, List.setIfInBounds_toArray, List.set_cons_zero, List.set_cons_succ]
    refine wpAnyH_ready (rs := [24]) (by kernel_rfl) (by simp) ?_
    refine AllReadyH.cons (o := ⟨some 54, .call { callee := .value (.func 18), args := #[.tmp 52, .tmp 53], argTypes := #[3, 26] }, _, _, _, some (18, true)⟩) rfl (fun K hK => ?_) AllReadyH.nil
    refine step_ofR (by rfl) ?_
    go_simp
    refine (L2.out _ hHeld.bel).mono ?_
    rintro x W1 ⟨rfl, hb1⟩
    refine hK.out _ _ (hHeld.below hb1) (fun hHeld => ?_)
    clear hK K
    try simp only [Act.put, List.setIfInBounds_toArray, List.set_cons_zero, List.set_cons_succ]
    refine wpAnyH_take (i := 25) (oi := ⟨some 55, .binOp .eql 24 (.tmp 51) (.tmp 54) 24, _, _, _, some (18, true)⟩) (v := .bool true) rfl (by kernel_rfl) (by kernel_rfl) (by kernel_rfl) (fun _ _ _ h => h) (yieldsIf_eqE (by rfl) .eql 24 24 (.tmp 51) (.tmp 54) rfl _ _ rfl rfl guardR _ eL.out) hHeld ?_
    try simp only [Act.put, List.setIfInBounds_toArray, List.set_cons_zero, List.set_cons_succ]
    refine wpAnyH_take (i := 26) (oi := ⟨some 56, .pick (.tmp 48) (.tmp 55) (.const (.bool false)), _, _, _, none⟩) (v := ?_) rfl (by kernel_rfl) (by kernel_rfl) (by kernel_rfl) (fun _ _ _ h => h) (Or.inl ⟨by rfl, ?_⟩) hHeld ?_
    rotate_left
    · intro W _; go_simp; try with_reducible rfl
    try simp only [Act.put, List.setIfInBounds_toArray, List.set_cons_zero, List.set_cons_succ]
    refine wpAnyH_take (i := 27) (oi := ⟨some 57, .move (.tmp 56), _, _, _, none⟩) (v := ?_) rfl (by kernel_rfl) (by kernel_rfl) (by kernel_rfl) (fun _ _ _ h => h) (Or.inl ⟨by rfl, ?_⟩) hHeld ?_
    rotate_left
    · intro W _; go_simp; try with_reducible rfl
    try simp only [Act.put, List.setIfInBounds_toArray, List.set_cons_zero, List.set_cons_succ]
    refine wpAnyH_take (i := 28) (oi := ⟨some 58, .move (.tmp 0), _, _, _, some (27, true)⟩) (v := ?_) rfl (by kernel_rfl) (by kernel_rfl) (by kernel_rfl) (fun _ _ _ h => h) (Or.inl ⟨by rfl, ?_⟩) hHeld ?_
    rotate_left
    · intro W _; go_simp; try with_reducible rfl
    try simp only [Act.put, List.setIfInBounds_toArray, List.set_cons_zero, List.set_cons_succ]
    refine wpAnyH_take (i := 29) (oi := ⟨some 59, .load 24 (.tmp 8), _, _, _, some (27, true)⟩) (v := .agg (bs p).toArray) rfl (by kernel_rfl) (by kernel_rfl) (by kernel_rfl) (fun _ _ _ h => h) (yieldsIf_load_mid (by rfl) _ _ rfl (w.heap.size + 1) 0 rfl (bs p) _ (fun W h => h.b8.allR) Tryz.underlying24 rfl iP.out) hHeld ?_
    try simp only [Act.put, List.setIfInBounds_toArray, List.set_cons_zero, List.set_cons_succ]
    refine wpAnyH_take (i := 30) (oi := ⟨some 60, .load 24 (.tmp 9), _, _, _, some (27, true)⟩) (v := .agg (bs q).toArray) rfl (by kernel_rfl) (by kernel_rfl) (by kernel_rfl) (fun _ _ _ h => h) (yieldsIf_load_mid (by rfl) _ _ rfl (w.heap.size + 1 + 1) 0 rfl (bs q) _ (fun W h => h.b9.allR) Tryz.underlying24 rfl iQ.out) hHeld ?_
    try simp only [Act.put, List.setIfInBounds_toArray, List.set_cons_zero, List.set_cons_succ]
    refine wpAnyH_take (i := 32) (oi := ⟨some 62, .move (.tmp 0), _, _, _, some (27, true)⟩) (v := ?_) rfl (by kernel_rfl) (by kernel_rfl) (by kernel_rfl) (fun _ _ _ h => h) (Or.inl ⟨by rfl, ?_⟩) hHeld ?_
    rotate_left
    · intro W _; go_simp; try with_reducible rfl
    try simp only [Act.put, List.setIfInBounds_toArray, List.set_cons_zero, List.set_cons_succ]
    refine wpAnyH_take (i := 33) (oi := ⟨some 63, .load 24 (.tmp 8), _, _, _, some (27, true)⟩) (v := .agg (bs p).toArray) rfl (by kernel_rfl) (by kernel_rfl) (by kernel_rfl) (fun _ _ _ h => h) (yieldsIf_load_mid (by rfl) _ _ rfl (w.heap.size + 1) 0 rfl (bs p) _ (fun W h => h.b8.allR) Tryz.underlying24 rfl iP.out) hHeld ?_
    try simp only [Act.put, List.setIfInBounds_toArray, List.set_cons_zero, List.set_cons_succ]
    refine wpAnyH_take (i := 34) (oi := ⟨some 64, .load 24 (.tmp 9), _, _, _, some (27, true)⟩) (v := .agg (bs q).toArray) rfl (by kernel_rfl) (by kernel_rfl) (by kernel_rfl) (fun _ _ _ h => h) (yieldsIf_load_mid (by rfl) _ _ rfl (w.heap.size + 1 + 1) 0 rfl (bs q) _ (fun W h => h.b9.allR) Tryz.underlying24 rfl iQ.out) hHeld ?_
    try simp only [Act.put, List.setIfInBounds_toArray, List.set_cons_zero, List.set_cons_succ]
    refine wpAnyH_ready (rs := [31]) (by kernel_rfl) (by simp) ?_
    refine AllReadyH.cons (o := ⟨some 61, .call { callee := .value (.func 19), args := #[.tmp 58, .tmp 59, .tmp 60], argTypes := #[3, 24, 24] }, _, _, _, some (27, true)⟩) rfl (fun K hK => ?_) AllReadyH.nil
    refine step_ofR (by rfl) ?_
    go_simp
    refine (N1.out _ hHeld.bel).mono ?_
    rintro x W1 ⟨rfl, hb1⟩
    refine hK.out _ _ (hHeld.below hb1) (fun hHeld => ?_)
    clear hK K
    try simp only [Act.put, List.setIfInBounds_toArray, List.set_cons_zero, List.set_cons_succ]
    refine wpAnyH_ready (rs := [35]) (by kernel_rfl) (by simp) ?_
    refine AllReadyH.cons (o := ⟨some 65, .call { callee := .value (.func 20), args := #[.tmp 62, .tmp 63, .tmp 64], argTypes := #[3, 24, 24] }, _, _, _, some (27, true)⟩) rfl (fun K hK => ?_) AllReadyH.nil
    refine step_ofR (by rfl) ?_
    go_simp
    refine (N2.out _ hHeld.bel).mono ?_
    rintro x W1 ⟨rfl, hb1⟩
    refine hK.out _ _ (hHeld.below hb1) (fun hHeld => ?_)
    clear hK K
    try simp only [Act.put, List.setIfInBounds_toArray, List.set_cons_zero, List.set_cons_succ]
    refine wpAnyH_take (i := 36) (oi := ⟨some 66, .binOp .eql 24 (.tmp 61) (.tmp 65) 24, _, _, _, some (27, true)⟩) (v := .bool true) rfl (by kernel_rfl) (by kernel_rfl) (by kernel_rfl) (fun _ _ _ h => h) (yieldsIf_eqE (by rfl) .eql 24 24 (.tmp 61) (.tmp 65) rfl _ _ rfl rfl guardR _ eN.out) hHeld ?_
    try simp only [Act.put, List.setIfInBounds_toArray, List.set_cons_zero, List.set_cons_succ]
    refine wpAnyH_take (i := 37) (oi := ⟨some 67, .pick (.tmp 57) (.tmp 66) (.const (.bool false)), _, _, _, none⟩) (v := ?_) rfl (by kernel_rfl) (by kernel_rfl) (by kernel_rfl) (fun _ _ _ h => h) (Or.inl ⟨by rfl, ?_⟩) hHeld ?_
    rotate_left
    · intro W _; go_simp; try with_reducible rfl
    try simp only [Act.put, List.setIfInBounds_toArray, List.set_cons_zero, List.set_cons_succ]
    refine wpAnyH_ready (rs := [38]) (by kernel_rfl) (by simp) ?_
    refine AllReadyH.cons (o := ⟨some 10, .assign (.tmp 67), _, _, _, none⟩) rfl (fun K hK => ?_) AllReadyH.nil
    refine step_ofR (by rfl) ?_
    go_simp
    refine hK.out _ _ (hHeld) (fun hHeld => ?_)
    clear hK K
    try simp only [Act.put, List.setIfInBounds_toArray, List.set_cons_zero, List.set_cons_succ]
    refine wpAnyH_done (by kernel_rfl) ?_ _
    -- END 5 4
    go_wp2_with fail
    go_ret
    exact Yes5.mk hHeld.bel
end
end Go.Proofs.YtielmijahccgkaaGreatDoor
