/-
  Law05A Law05D, in one text.
-/
import Derived.Test.YtmfnpjfhijmboaaGreatDoorCon05
import Derived.Test.YtmfnpjfhijmboaaGreatDoorLibW
import Derived.Test.YtmfnpjfhijmboaaGreatDoorLibE
import Derived.Test.YtmfnpjfhijmboaaGreatDoorSmt1
import Derived.Test.YtmfnpjfhijmboaaGreatDoorCon05F
namespace Go.Proofs.YtmfnpjfhijmboaaGreatDoor
/-! Law05A Law05B, in one text. -/
section
/-! The walks of layer 5's statements: roots. -/
section
open Go.RowKit

/-- what a statement's walk comes to: true, and nothing that was there has turned -/
def Yes5 (w : World) (e : Ending) (w' : World) : Prop := e = .returned (.bool true) ∧ Below w.heap.size w w'
theorem Yes5.mk {w w' : World} (h : Below w.heap.size w w') : Yes5 w (.returned (.bool true)) w' := ⟨rfl, h⟩
theorem below5 {w w1 w2 : World} {g : Nat} (h : Below w.heap.size w w1) (hg : w1.grownBy w2 (some g)) (hb : w.heap.size ≤ g) : Below w.heap.size w w2 := h.grown hg h.size (fun k e => by cases e; exact hb)

theorem root_a : rootI 32 [lfA] = shortI 32 ([0] ++ lfA.path ++ lfA.val) := by
  simp [rootI, shortI, twiceB, rootL, digestF, leafD]
theorem rootE_a : rootE 32 [lfA] = 0 := by decide
theorem half_ba0 : half [lfB, lfA] 0 0 = [lfA] := by
  have h1 : bitAt lfB.path 0 = 1 := by decide
  have h2 : bitAt lfA.path 0 = 0 := by decide
  simp [half, h1, h2]
theorem half_ba1 : half [lfB, lfA] 0 1 = [lfB] := by
  have h1 : bitAt lfB.path 0 = 1 := by decide
  have h2 : bitAt lfA.path 0 = 0 := by decide
  simp [half, h1, h2]
theorem twice_ba : twiceB [lfB, lfA] = false := by decide
theorem root_ba : rootI 32 [lfB, lfA] = shortI 32 ([1] ++ shortI 32 ([0] ++ lfA.path ++ lfA.val) ++ shortI 32 ([0] ++ lfB.path ++ lfB.val)) := by
  have h := half_ba0
  have k := half_ba1
  simp [rootI, shortI, twice_ba, rootL, digestF, leafD, nodeD, h, k]
theorem rootE_ba : rootE 32 [lfB, lfA] = 0 := by decide
theorem rootE_aa : rootE 32 [lfA, lfA] = 30 := by decide
theorem root_nil : rootI 32 [] = shortI 32 [2] := by
  simp [rootI, shortI, twiceB, rootL, digestF, emptyD]
theorem rootE_nil : rootE 32 [] = 0 := by decide
set_option maxRecDepth 1000000 in
theorem empty_a : (shortI 32 [2] == shortI 32 ([0] ++ lfA.path ++ lfA.val)) = false := by decide +kernel

/-- what the last region of roots knows of a world: the three digests -/
structure RootsAt (w W : World) (x y z : List UInt8) (g1 g3 g7 : Nat) : Prop where
  b1 : Blk W g1 25 (bs x)
  b3 : Blk W g3 25 (bs y)
  b7 : Blk W g7 25 (bs z)
  bel : Below w.heap.size w W
theorem RootsAt.below {w W W' : World} {x y z : List UInt8} {g1 g3 g7 : Nat} (h : RootsAt w W x y z g1 g3 g7) (hb : Below W.heap.size W W') : RootsAt w W' x y z g1 g3 g7 :=
  ⟨h.b1.below hb, h.b3.below hb, h.b7.below hb, Bt h.bel hb⟩
theorem RootsAt.drew {w W : World} {x y z : List UInt8} {g1 g3 g7 : Nat} (h : RootsAt w W x y z g1 g3 g7) : RootsAt w W.drew x y z g1 g3 g7 := h.below ⟨rfl, rfl, rfl, Nat.le_refl _, fun _ _ => rfl⟩
theorem dig5 {d : List UInt8} (h : d.length = 32) : (Tryz.prog.info? 25).map (·.size) = some (bs d).length ∧ (bs zero32).length = (bs d).length :=
  ⟨by rw [info_digest, bs_length, h], by rw [bs_length, bs_length, zero32_length, h]⟩

set_option maxRecDepth 100000 in
set_option maxHeartbeats 2000000 in
theorem roots_any (w : World) (hT : Tab w 1) :
    Calls Tryz.prog 25 #[] w fun e w' => e = .returned (.bool true) ∧ Below w.heap.size w w' := by
  have R1 := Lib.hid (fun (W : World) (g : Nat) (h : RdL W (some ⟨g, 0, none⟩) 1 1 [lfA]) (hb : Below w.heap.size w W) => sroot12 W 32 _ 1 1 [lfA] h (hT.below hb) (by decide))
  have R2 := Lib.hid (fun (W : World) (g : Nat) (h : RdL W (some ⟨g, 0, none⟩) 2 2 [lfB, lfA]) (hb : Below w.heap.size w W) => sroot12 W 32 _ 2 2 [lfB, lfA] h (hT.below hb) (by decide))
  have R3 := Lib.hid (fun (W : World) (g : Nat) (h : RdL W (some ⟨g, 0, none⟩) 2 2 [lfA, lfA]) (hb : Below w.heap.size w W) => sroot12 W 32 _ 2 2 [lfA, lfA] h (hT.below hb) (by decide))
  have R4 := Lib.hid (fun (W : World) (hb : Below w.heap.size w W) => sroot12 W 32 none 0 0 [] (RdL.nil0 W) (hT.below hb) (by decide))
  have LA := Lib.hid (fun (W : World) (hb : Below w.heap.size w W) => sleaf_any W 32 lfA lfA_ok (hT.below hb))
  have LB := Lib.hid (fun (W : World) (hb : Below w.heap.size w W) => sleaf_any W 32 lfB lfB_ok (hT.below hb))
  have EM := Lib.hid (fun (W : World) (hb : Below w.heap.size w W) => sempty_any W 32 (hT.below hb))
  have NO := Lib.hid (fun (W : World) (hb : Below w.heap.size w W) => snode_any W 32 _ _ (shortI_length 32 ([0] ++ lfA.path ++ lfA.val)) (shortI_length 32 ([0] ++ lfB.path ++ lfB.val)) (hT.below hb))
  rw [root_a, rootE_a] at R1
  rw [root_ba, rootE_ba] at R2
  rw [rootE_aa] at R3
  rw [root_nil, rootE_nil] at R4
  have hne := empty_a
  have hla := shortI_length 32 ([0] ++ lfA.path ++ lfA.val)
  have hlb := shortI_length 32 ([0] ++ lfB.path ++ lfB.val)
  have hle := shortI_length 32 [2]
  have hl3 := rootI_length 32 [lfA, lfA]
  have CA := Lib.hid (fun W : World => a_any W)
  have CB := Lib.hid (fun W : World => b_any W)
  have M1 : ∀ W : World, RdL (W.alloc (.cells (lc lfA).toArray 50)) (some ⟨W.heap.size, 0, none⟩) 1 1 [lfA] := fun W => RdL.one W lfA_ok
  have kBA : oks [lfB, lfA] := fun x hx => by simp at hx; rcases hx with rfl | rfl <;> first | exact lfB_ok | exact lfA_ok
  have kAA : oks [lfA, lfA] := fun x hx => by simp at hx; subst hx; exact lfA_ok
  have okA := lfA_ok
  have M2 : ∀ W : World, RdL (W.alloc (.cells (lcs [lfB, lfA]).toArray 50)) (some ⟨W.heap.size, 0, none⟩) 2 2 [lfB, lfA] := fun W => RdL.many W kBA rfl (by decide)
  have M3 : ∀ W : World, RdL (W.alloc (.cells (lcs [lfA, lfA]).toArray 50)) (some ⟨W.heap.size, 0, none⟩) 2 2 [lfA, lfA] := fun W => RdL.many W kAA rfl (by decide)
  generalize rootI 32 [lfA, lfA] = D3 at *
  generalize hdn : shortI 32 ([1] ++ shortI 32 ([0] ++ lfA.path ++ lfA.val) ++ shortI 32 ([0] ++ lfB.path ++ lfB.val)) = DN at *
  have hln : DN.length = 32 := by rw [← hdn]; exact shortI_length _ _
  clear hdn
  generalize shortI 32 ([0] ++ lfA.path ++ lfA.val) = DA at *
  generalize shortI 32 ([0] ++ lfB.path ++ lfB.val) = DB at *
  generalize shortI 32 [2] = DE at *
  generalize lfA = A at *
  generalize lfB = B at *
  have iA := Lib.hid (dig5 hla).1
  have jA := Lib.hid (dig5 hla).2
  have oA := bs_one DA
  have iN := Lib.hid (dig5 hln).1
  have jN := Lib.hid (dig5 hln).2
  have oN := bs_one DN
  have iE := Lib.hid (dig5 hle).1
  have jE := Lib.hid (dig5 hle).2
  have oE := bs_one DE
  have i3 := Lib.hid (dig5 hl3).1
  have j3 := Lib.hid (dig5 hl3).2
  have o3 := bs_one D3
  have eA := Lib.hid (show ∀ W : World, (binOp .eql 25 (.agg (bs DA).toArray) (.agg (bs DA).toArray)).run Tryz.prog W = .ok (.bool true) W from fun W => by rw [eqD W _ _ hla hla]; simp)
  have eN := Lib.hid (show ∀ W : World, (binOp .eql 25 (.agg (bs DN).toArray) (.agg (bs DN).toArray)).run Tryz.prog W = .ok (.bool true) W from fun W => by rw [eqD W _ _ hln hln]; simp)
  have eE := Lib.hid (show ∀ W : World, (binOp .eql 25 (.agg (bs DE).toArray) (.agg (bs DE).toArray)).run Tryz.prog W = .ok (.bool true) W from fun W => by rw [eqD W _ _ hle hle]; simp)
  have nE := Lib.hid (show ∀ W : World, (binOp .neq 25 (.agg (bs DE).toArray) (.agg (bs DA).toArray)).run Tryz.prog W = .ok (.bool true) W from fun W => by rw [neqD W _ _ hle hla, hne]; rfl)
  clear hne hla hlb hle hl3 hln
  go_enter Tryz.func25, Tryz.ntmps25
  go_wp2_with fail
  refine (CA.out _).mono ?_
  rintro e w1 ⟨rfl, hB1⟩
  go_wp2_with ((with_reducible refine wpList_oneL (o := ⟨some 11, _, _, _, _, _⟩) ?_ (.tmp 10) ?_ ?_ okA ?_); rfl; rfl; rfl)
  have hBa := Bt hB1 ((Below.refl _ w1).alloc (Nat.le_refl _) (.cells (lc A).toArray 50))
  have hM := M1 w1
  generalize w1.alloc _ = w2 at *
  refine (R1.out w2 _ hM hBa).mono ?_
  rintro e p2 ⟨rfl, hBb⟩
  have hP := Bt hBa hBb
  go_wp2_with (first | ((with_reducible refine wpList_allocB (o := ⟨some 1, _, _, _, _, _⟩) ?_ 25 ?_ zeroD_info ?_); rfl; rfl; intro p3 hrp3 hgp3 hzp3) | ((with_reducible refine wpList_storeB (o := ⟨none, .store 25 (.tmp 1) (.tmp 13), _, _, _, _⟩) ?_ 25 (.tmp 1) (.tmp 13) ?_ ?_ ?_ hrp3 iA.out jA.out oA ?_); rfl; rfl; rfl; rfl; intro p4 hrp4 hgp4 hzp4))
  have hBp4 := below5 (hP.grown hgp3 hP.size (fun k e => by cases e)) hgp4 hP.size
  refine (CB.out _).mono ?_
  rintro e q1 ⟨rfl, hC1⟩
  go_wp2_with fail
  refine (CA.out _).mono ?_
  rintro e q2 ⟨rfl, hC2⟩
  go_wp2_with ((with_reducible refine wpList_twoL (o := ⟨some 18, _, _, _, _, _⟩) ?_ (.tmp 16) (.tmp 17) ?_ kBA ?_ ?_ ?_); rfl; rfl; rfl; rfl)
  have hC12 := Bt hC1 hC2
  have hCa := Bt hC12 ((Below.refl _ q2).alloc (Nat.le_refl _) (.cells (lcs [B, A]).toArray 50))
  have hM := M2 q2
  generalize q2.alloc _ = q5 at *
  refine (R2.out q5 _ hM (Bt hBp4 hCa)).mono ?_
  rintro e q6 ⟨rfl, hCb⟩
  have hCc := Bt hCa hCb
  have hQ := Bt hBp4 hCc
  have kp := hrp4.below hCc
  go_wp2_with (first | ((with_reducible refine wpList_allocB (o := ⟨some 3, _, _, _, _, _⟩) ?_ 25 ?_ zeroD_info ?_); rfl; rfl; intro q3 hrq3 hgq3 hzq3) | ((with_reducible refine wpList_storeB (o := ⟨none, .store 25 (.tmp 3) (.tmp 20), _, _, _, _⟩) ?_ 25 (.tmp 3) (.tmp 20) ?_ ?_ ?_ hrq3 iN.out jN.out oN ?_); rfl; rfl; rfl; rfl; intro q4 hrq4 hgq4 hzq4))
  have hBq4 := below5 (hQ.grown hgq3 hQ.size (fun k e => by cases e)) hgq4 hQ.size
  have kp := (kp.grown hgq3 (by simp)).grown hgq4 (by have := kp.lt; simp; omega)
  refine (CA.out _).mono ?_
  rintro e r1 ⟨rfl, hD1⟩
  go_wp2_with fail
  refine (CA.out _).mono ?_
  rintro e r2 ⟨rfl, hD2⟩
  go_wp2_with ((with_reducible refine wpList_twoL (o := ⟨some 25, _, _, _, _, _⟩) ?_ (.tmp 23) (.tmp 24) ?_ kAA ?_ ?_ ?_); rfl; rfl; rfl; rfl)
  have hD12 := Bt hD1 hD2
  have hDa := Bt hD12 ((Below.refl _ r2).alloc (Nat.le_refl _) (.cells (lcs [A, A]).toArray 50))
  have hM := M3 r2
  generalize r2.alloc _ = r5 at *
  refine (R3.out r5 _ hM (Bt hBq4 hDa)).mono ?_
  rintro e r6 ⟨rfl, hDb⟩
  have hDc := Bt hDa hDb
  have hR := Bt hBq4 hDc
  have kp := kp.below hDc
  have kq := hrq4.below hDc
  go_wp2_with (first | ((with_reducible refine wpList_allocB (o := ⟨some 5, _, _, _, _, _⟩) ?_ 25 ?_ zeroD_info ?_); rfl; rfl; intro r3 hrr3 hgr3 hzr3) | ((with_reducible refine wpList_storeB (o := ⟨none, .store 25 (.tmp 5) (.tmp 27), _, _, _, _⟩) ?_ 25 (.tmp 5) (.tmp 27) ?_ ?_ ?_ hrr3 i3.out j3.out o3 ?_); rfl; rfl; rfl; rfl; intro r4 hrr4 hgr4 hzr4))
  have hBr4 := below5 (hR.grown hgr3 hR.size (fun k e => by cases e)) hgr4 hR.size
  have kp := (kp.grown hgr3 (by simp)).grown hgr4 (by have := kp.lt; simp; omega)
  have kq := (kq.grown hgr3 (by simp)).grown hgr4 (by have := kq.lt; simp; omega)
  refine (R4.out _ hBr4).mono ?_
  rintro e s1 ⟨rfl, hE1⟩
  have hS1 := Bt hBr4 hE1
  have kp := kp.below hE1
  have kq := kq.below hE1
  go_wp2_with (first | ((with_reducible refine wpList_allocB (o := ⟨some 7, _, _, _, _, _⟩) ?_ 25 ?_ zeroD_info ?_); rfl; rfl; intro s3 hrs3 hgs3 hzs3) | ((with_reducible refine wpList_storeB (o := ⟨none, .store 25 (.tmp 7) (.tmp 31), _, _, _, _⟩) ?_ 25 (.tmp 7) (.tmp 31) ?_ ?_ ?_ hrs3 iE.out jE.out oE ?_); rfl; rfl; rfl; rfl; intro s4 hrs4 hgs4 hzs4))
  have hBs4 := below5 (hS1.grown hgs3 hS1.size (fun k e => by cases e)) hgs4 hS1.size
  have kp := (kp.grown hgs3 (by simp)).grown hgs4 (by have := kp.lt; simp; omega)
  have kq := (kq.grown hgs3 (by simp)).grown hgs4 (by have := kq.lt; simp; omega)
  have hS : RootsAt w s4 DA DN DE p2.heap.size q6.heap.size s1.heap.size := ⟨kp, kq, hrs4, hBs4⟩
  generalize p2.heap.size = g1 at *
  generalize q6.heap.size = g3 at *
  generalize s1.heap.size = g7 at *
  -- REGION 5 2
  refine wp_region_held_drew (S := fun W => RootsAt w W DA DN DE g1 g3 g7) (by kernel_rfl) hS.drew (fun hHeld => ?_)
  refine wpAnyH_take (i := 0) (oi := ⟨some 33, .move (.tmp 2), _, _, _, none⟩) (v := ?_) rfl (by kernel_rfl) (by kernel_rfl) (by kernel_rfl) (fun _ _ _ h => h) (Or.inl ⟨by rfl, ?_⟩) hHeld ?_
  rotate_left
  · intro W _; go_simp; try with_reducible rfl
  try simp only [Act.put, List.setIfInBounds_toArray, List.set_cons_zero, List.set_cons_succ]
  refine wpAnyH_take (i := 1) (oi := ⟨some 34, .binOp .eql 29 (.tmp 33) (.const (.int .i64 0)) 29, _, _, _, none⟩) (v := ?_) rfl (by kernel_rfl) (by kernel_rfl) (by kernel_rfl) (fun _ _ _ h => h) (Or.inl ⟨by rfl, ?_⟩) hHeld ?_
  rotate_left
  · intro W _; go_simp; try with_reducible rfl
  try simp only [Act.put, List.setIfInBounds_toArray, List.set_cons_zero, List.set_cons_succ]
  refine wpAnyH_take (i := 2) (oi := ⟨some 35, .move (.tmp 34), _, _, _, none⟩) (v := ?_) rfl (by kernel_rfl) (by kernel_rfl) (by kernel_rfl) (fun _ _ _ h => h) (Or.inl ⟨by rfl, ?_⟩) hHeld ?_
  rotate_left
  · intro W _; go_simp; try with_reducible rfl
  try simp only [Act.put, List.setIfInBounds_toArray, List.set_cons_zero, List.set_cons_succ]
  refine wpAnyH_take (i := 3) (oi := ⟨some 36, .load 25 (.tmp 1), _, _, _, some (2, true)⟩) (v := .agg (bs DA).toArray) rfl (by kernel_rfl) (by kernel_rfl) (by kernel_rfl) (fun _ _ _ h => h) (yieldsIf_load_mid (by rfl) _ _ rfl g1 0 rfl (bs DA) _ (fun W h => h.b1.allR) Tryz.underlying25 rfl iA.out) hHeld ?_
  try simp only [Act.put, List.setIfInBounds_toArray, List.set_cons_zero, List.set_cons_succ]
  refine wpAnyH_ready (rs := [4]) (by kernel_rfl) (by simp) ?_
  refine AllReadyH.cons (o := ⟨some 37, .call { callee := .value (.func 36), args := #[], argTypes := #[] }, _, _, _, some (2, true)⟩) rfl (fun K hK => ?_) AllReadyH.nil
  refine step_ofR (by rfl) ?_
  go_simp
  refine (CA.out _).mono ?_
  rintro x W1 ⟨rfl, hb1⟩
  refine hK.out _ _ (hHeld.below hb1) (fun hHeld => ?_)
  clear hK K
  try simp only [Act.put, List.setIfInBounds_toArray, List.set_cons_zero, List.set_cons_succ]
  refine wpAnyH_ready (rs := [5]) (by kernel_rfl) (by simp) ?_
  refine AllReadyH.cons (o := ⟨some 38, .call { callee := .value (.func 38), args := #[.const (.int .i64 32), .tmp 37], argTypes := #[3, 50] }, _, _, _, some (2, true)⟩) rfl (fun K hK => ?_) AllReadyH.nil
  refine step_ofR (by rfl) ?_
  go_simp
  refine (LA.out _ hHeld.bel).mono ?_
  rintro x W1 ⟨rfl, hb1⟩
  refine hK.out _ _ (hHeld.below hb1) (fun hHeld => ?_)
  clear hK K
  try simp only [Act.put, List.setIfInBounds_toArray, List.set_cons_zero, List.set_cons_succ]
  refine wpAnyH_take (i := 6) (oi := ⟨some 39, .binOp .eql 25 (.tmp 36) (.tmp 38) 25, _, _, _, some (2, true)⟩) (v := .bool true) rfl (by kernel_rfl) (by kernel_rfl) (by kernel_rfl) (fun _ _ _ h => h) (yieldsIf_eqE (by rfl) .eql 25 25 (.tmp 36) (.tmp 38) rfl _ _ rfl rfl guardR _ eA.out) hHeld ?_
  try simp only [Act.put, List.setIfInBounds_toArray, List.set_cons_zero, List.set_cons_succ]
  refine wpAnyH_take (i := 7) (oi := ⟨some 40, .pick (.tmp 35) (.tmp 39) (.const (.bool false)), _, _, _, none⟩) (v := ?_) rfl (by kernel_rfl) (by kernel_rfl) (by kernel_rfl) (fun _ _ _ h => h) (Or.inl ⟨by rfl, ?_⟩) hHeld ?_
  rotate_left
  · intro W _; go_simp; try with_reducible rfl
  try simp only [Act.put, List.setIfInBounds_toArray, List.set_cons_zero, List.set_cons_succ]
  refine wpAnyH_take (i := 8) (oi := ⟨some 41, .move (.tmp 40), _, _, _, none⟩) (v := ?_) rfl (by kernel_rfl) (by kernel_rfl) (by kernel_rfl) (fun _ _ _ h => h) (Or.inl ⟨by rfl, ?_⟩) hHeld ?_
  rotate_left
  · intro W _; go_simp; try with_reducible rfl
  try simp only [Act.put, List.setIfInBounds_toArray, List.set_cons_zero, List.set_cons_succ]
  refine wpAnyH_take (i := 9) (oi := ⟨some 42, .move (.tmp 4), _, _, _, some (8, true)⟩) (v := ?_) rfl (by kernel_rfl) (by kernel_rfl) (by kernel_rfl) (fun _ _ _ h => h) (Or.inl ⟨by rfl, ?_⟩) hHeld ?_
  rotate_left
  · intro W _; go_simp; try with_reducible rfl
  try simp only [Act.put, List.setIfInBounds_toArray, List.set_cons_zero, List.set_cons_succ]
  refine wpAnyH_take (i := 10) (oi := ⟨some 43, .binOp .eql 29 (.tmp 42) (.const (.int .i64 0)) 29, _, _, _, some (8, true)⟩) (v := ?_) rfl (by kernel_rfl) (by kernel_rfl) (by kernel_rfl) (fun _ _ _ h => h) (Or.inl ⟨by rfl, ?_⟩) hHeld ?_
  rotate_left
  · intro W _; go_simp; try with_reducible rfl
  try simp only [Act.put, List.setIfInBounds_toArray, List.set_cons_zero, List.set_cons_succ]
  refine wpAnyH_take (i := 11) (oi := ⟨some 44, .pick (.tmp 41) (.tmp 43) (.const (.bool false)), _, _, _, none⟩) (v := ?_) rfl (by kernel_rfl) (by kernel_rfl) (by kernel_rfl) (fun _ _ _ h => h) (Or.inl ⟨by rfl, ?_⟩) hHeld ?_
  rotate_left
  · intro W _; go_simp; try with_reducible rfl
  try simp only [Act.put, List.setIfInBounds_toArray, List.set_cons_zero, List.set_cons_succ]
  refine wpAnyH_take (i := 12) (oi := ⟨some 45, .move (.tmp 44), _, _, _, none⟩) (v := ?_) rfl (by kernel_rfl) (by kernel_rfl) (by kernel_rfl) (fun _ _ _ h => h) (Or.inl ⟨by rfl, ?_⟩) hHeld ?_
  rotate_left
  · intro W _; go_simp; try with_reducible rfl
  try simp only [Act.put, List.setIfInBounds_toArray, List.set_cons_zero, List.set_cons_succ]
  refine wpAnyH_take (i := 13) (oi := ⟨some 46, .load 25 (.tmp 3), _, _, _, some (12, true)⟩) (v := .agg (bs DN).toArray) rfl (by kernel_rfl) (by kernel_rfl) (by kernel_rfl) (fun _ _ _ h => h) (yieldsIf_load_mid (by rfl) _ _ rfl g3 0 rfl (bs DN) _ (fun W h => h.b3.allR) Tryz.underlying25 rfl iN.out) hHeld ?_
  try simp only [Act.put, List.setIfInBounds_toArray, List.set_cons_zero, List.set_cons_succ]
  refine wpAnyH_ready (rs := [14]) (by kernel_rfl) (by simp) ?_
  refine AllReadyH.cons (o := ⟨some 47, .call { callee := .value (.func 36), args := #[], argTypes := #[] }, _, _, _, some (12, true)⟩) rfl (fun K hK => ?_) AllReadyH.nil
  refine step_ofR (by rfl) ?_
  go_simp
  refine (CA.out _).mono ?_
  rintro x W1 ⟨rfl, hb1⟩
  refine hK.out _ _ (hHeld.below hb1) (fun hHeld => ?_)
  clear hK K
  try simp only [Act.put, List.setIfInBounds_toArray, List.set_cons_zero, List.set_cons_succ]
  refine wpAnyH_ready (rs := [15]) (by kernel_rfl) (by simp) ?_
  refine AllReadyH.cons (o := ⟨some 48, .call { callee := .value (.func 38), args := #[.const (.int .i64 32), .tmp 47], argTypes := #[3, 50] }, _, _, _, some (12, true)⟩) rfl (fun K hK => ?_) AllReadyH.nil
  refine step_ofR (by rfl) ?_
  go_simp
  refine (LA.out _ hHeld.bel).mono ?_
  rintro x W1 ⟨rfl, hb1⟩
  refine hK.out _ _ (hHeld.below hb1) (fun hHeld => ?_)
  clear hK K
  try simp only [Act.put, List.setIfInBounds_toArray, List.set_cons_zero, List.set_cons_succ]
  refine wpAnyH_ready (rs := [16]) (by kernel_rfl) (by simp) ?_
  refine AllReadyH.cons (o := ⟨some 49, .call { callee := .value (.func 37), args := #[], argTypes := #[] }, _, _, _, some (12, true)⟩) rfl (fun K hK => ?_) AllReadyH.nil
  refine step_ofR (by rfl) ?_
  go_simp
  refine (CB.out _).mono ?_
  rintro x W1 ⟨rfl, hb1⟩
  refine hK.out _ _ (hHeld.below hb1) (fun hHeld => ?_)
  clear hK K
  try simp only [Act.put, List.setIfInBounds_toArray, List.set_cons_zero, List.set_cons_succ]
  refine wpAnyH_ready (rs := [17]) (by kernel_rfl) (by simp) ?_
  refine AllReadyH.cons (o := ⟨some 50, .call { callee := .value (.func 38), args := #[.const (.int .i64 32), .tmp 49], argTypes := #[3, 50] }, _, _, _, some (12, true)⟩) rfl (fun K hK => ?_) AllReadyH.nil
  refine step_ofR (by rfl) ?_
  go_simp
  refine (LB.out _ hHeld.bel).mono ?_
  rintro x W1 ⟨rfl, hb1⟩
  refine hK.out _ _ (hHeld.below hb1) (fun hHeld => ?_)
  clear hK K
  try simp only [Act.put, List.setIfInBounds_toArray, List.set_cons_zero, List.set_cons_succ]
  refine wpAnyH_ready (rs := [18]) (by kernel_rfl) (by simp) ?_
  refine AllReadyH.cons (o := ⟨some 51, .call { callee := .value (.func 53), args := #[.const (.int .i64 32), .tmp 48, .tmp 50], argTypes := #[3, 25, 25] }, _, _, _, some (12, true)⟩) rfl (fun K hK => ?_) AllReadyH.nil
  refine step_ofR (by rfl) ?_
  go_simp
  refine (NO.out _ hHeld.bel).mono ?_
  rintro x W1 ⟨rfl, hb1⟩
  refine hK.out _ _ (hHeld.below hb1) (fun hHeld => ?_)
  clear hK K
  try simp only [Act.put, List.setIfInBounds_toArray, List.set_cons_zero, List.set_cons_succ]
  refine wpAnyH_take (i := 19) (oi := ⟨some 52, .binOp .eql 25 (.tmp 46) (.tmp 51) 25, _, _, _, some (12, true)⟩) (v := .bool true) rfl (by kernel_rfl) (by kernel_rfl) (by kernel_rfl) (fun _ _ _ h => h) (yieldsIf_eqE (by rfl) .eql 25 25 (.tmp 46) (.tmp 51) rfl _ _ rfl rfl guardR _ eN.out) hHeld ?_
  try simp only [Act.put, List.setIfInBounds_toArray, List.set_cons_zero, List.set_cons_succ]
  refine wpAnyH_take (i := 20) (oi := ⟨some 53, .pick (.tmp 45) (.tmp 52) (.const (.bool false)), _, _, _, none⟩) (v := ?_) rfl (by kernel_rfl) (by kernel_rfl) (by kernel_rfl) (fun _ _ _ h => h) (Or.inl ⟨by rfl, ?_⟩) hHeld ?_
  rotate_left
  · intro W _; go_simp; try with_reducible rfl
  try simp only [Act.put, List.setIfInBounds_toArray, List.set_cons_zero, List.set_cons_succ]
  refine wpAnyH_take (i := 21) (oi := ⟨some 54, .move (.tmp 53), _, _, _, none⟩) (v := ?_) rfl (by kernel_rfl) (by kernel_rfl) (by kernel_rfl) (fun _ _ _ h => h) (Or.inl ⟨by rfl, ?_⟩) hHeld ?_
  rotate_left
  · intro W _; go_simp; try with_reducible rfl
  try simp only [Act.put, List.setIfInBounds_toArray, List.set_cons_zero, List.set_cons_succ]
  refine wpAnyH_take (i := 22) (oi := ⟨some 55, .move (.tmp 6), _, _, _, some (21, true)⟩) (v := ?_) rfl (by kernel_rfl) (by kernel_rfl) (by kernel_rfl) (fun _ _ _ h => h) (Or.inl ⟨by rfl, ?_⟩) hHeld ?_
  rotate_left
  · intro W _; go_simp; try with_reducible rfl
  try simp only [Act.put, List.setIfInBounds_toArray, List.set_cons_zero, List.set_cons_succ]
  refine wpAnyH_take (i := 23) (oi := ⟨some 56, .binOp .eql 29 (.tmp 55) (.const (.int .i64 30)) 29, _, _, _, some (21, true)⟩) (v := ?_) rfl (by kernel_rfl) (by kernel_rfl) (by kernel_rfl) (fun _ _ _ h => h) (Or.inl ⟨by rfl, ?_⟩) hHeld ?_
  rotate_left
  · intro W _; go_simp; try with_reducible rfl
  try simp only [Act.put, List.setIfInBounds_toArray, List.set_cons_zero, List.set_cons_succ]
  refine wpAnyH_take (i := 24) (oi := ⟨some 57, .pick (.tmp 54) (.tmp 56) (.const (.bool false)), _, _, _, none⟩) (v := ?_) rfl (by kernel_rfl) (by kernel_rfl) (by kernel_rfl) (fun _ _ _ h => h) (Or.inl ⟨by rfl, ?_⟩) hHeld ?_
  rotate_left
  · intro W _; go_simp; try with_reducible rfl
  try simp only [Act.put, List.setIfInBounds_toArray, List.set_cons_zero, List.set_cons_succ]
  refine wpAnyH_take (i := 25) (oi := ⟨some 58, .move (.tmp 57), _, _, _, none⟩) (v := ?_) rfl (by kernel_rfl) (by kernel_rfl) (by kernel_rfl) (fun _ _ _ h => h) (Or.inl ⟨by rfl, ?_⟩) hHeld ?_
  rotate_left
  · intro W _; go_simp; try with_reducible rfl
  try simp only [Act.put, List.setIfInBounds_toArray, List.set_cons_zero, List.set_cons_succ]
  refine wpAnyH_take (i := 26) (oi := ⟨some 59, .move (.tmp 8), _, _, _, some (25, true)⟩) (v := ?_) rfl (by kernel_rfl) (by kernel_rfl) (by kernel_rfl) (fun _ _ _ h => h) (Or.inl ⟨by rfl, ?_⟩) hHeld ?_
  rotate_left
  · intro W _; go_simp; try with_reducible rfl
  try simp only [Act.put, List.setIfInBounds_toArray, List.set_cons_zero, List.set_cons_succ]
  refine wpAnyH_take (i := 27) (oi := ⟨some 60, .binOp .eql 29 (.tmp 59) (.const (.int .i64 0)) 29, _, _, _, some (25, true)⟩) (v := ?_) rfl (by kernel_rfl) (by kernel_rfl) (by kernel_rfl) (fun _ _ _ h => h) (Or.inl ⟨by rfl, ?_⟩) hHeld ?_
  rotate_left
  · intro W _; go_simp; try with_reducible rfl
  try simp only [Act.put, List.setIfInBounds_toArray, List.set_cons_zero, List.set_cons_succ]
  refine wpAnyH_take (i := 28) (oi := ⟨some 61, .pick (.tmp 58) (.tmp 60) (.const (.bool false)), _, _, _, none⟩) (v := ?_) rfl (by kernel_rfl) (by kernel_rfl) (by kernel_rfl) (fun _ _ _ h => h) (Or.inl ⟨by rfl, ?_⟩) hHeld ?_
  rotate_left
  · intro W _; go_simp; try with_reducible rfl
  try simp only [Act.put, List.setIfInBounds_toArray, List.set_cons_zero, List.set_cons_succ]
  refine wpAnyH_take (i := 29) (oi := ⟨some 62, .move (.tmp 61), _, _, _, none⟩) (v := ?_) rfl (by kernel_rfl) (by kernel_rfl) (by kernel_rfl) (fun _ _ _ h => h) (Or.inl ⟨by rfl, ?_⟩) hHeld ?_
  rotate_left
  · intro W _; go_simp; try with_reducible rfl
  try simp only [Act.put, List.setIfInBounds_toArray, List.set_cons_zero, List.set_cons_succ]
  refine wpAnyH_take (i := 30) (oi := ⟨some 63, .load 25 (.tmp 7), _, _, _, some (29, true)⟩) (v := .agg (bs DE).toArray) rfl (by kernel_rfl) (by kernel_rfl) (by kernel_rfl) (fun _ _ _ h => h) (yieldsIf_load_mid (by rfl) _ _ rfl g7 0 rfl (bs DE) _ (fun W h => h.b7.allR) Tryz.underlying25 rfl iE.out) hHeld ?_
  try simp only [Act.put, List.setIfInBounds_toArray, List.set_cons_zero, List.set_cons_succ]
  refine wpAnyH_ready (rs := [31]) (by kernel_rfl) (by simp) ?_
  refine AllReadyH.cons (o := ⟨some 64, .call { callee := .value (.func 54), args := #[.const (.int .i64 32)], argTypes := #[3] }, _, _, _, some (29, true)⟩) rfl (fun K hK => ?_) AllReadyH.nil
  refine step_ofR (by rfl) ?_
  go_simp
  refine (EM.out _ hHeld.bel).mono ?_
  rintro x W1 ⟨rfl, hb1⟩
  refine hK.out _ _ (hHeld.below hb1) (fun hHeld => ?_)
  clear hK K
  try simp only [Act.put, List.setIfInBounds_toArray, List.set_cons_zero, List.set_cons_succ]
  refine wpAnyH_take (i := 32) (oi := ⟨some 65, .binOp .eql 25 (.tmp 63) (.tmp 64) 25, _, _, _, some (29, true)⟩) (v := .bool true) rfl (by kernel_rfl) (by kernel_rfl) (by kernel_rfl) (fun _ _ _ h => h) (yieldsIf_eqE (by rfl) .eql 25 25 (.tmp 63) (.tmp 64) rfl _ _ rfl rfl guardR _ eE.out) hHeld ?_
  try simp only [Act.put, List.setIfInBounds_toArray, List.set_cons_zero, List.set_cons_succ]
  refine wpAnyH_take (i := 33) (oi := ⟨some 66, .pick (.tmp 62) (.tmp 65) (.const (.bool false)), _, _, _, none⟩) (v := ?_) rfl (by kernel_rfl) (by kernel_rfl) (by kernel_rfl) (fun _ _ _ h => h) (Or.inl ⟨by rfl, ?_⟩) hHeld ?_
  rotate_left
  · intro W _; go_simp; try with_reducible rfl
  try simp only [Act.put, List.setIfInBounds_toArray, List.set_cons_zero, List.set_cons_succ]
  refine wpAnyH_take (i := 34) (oi := ⟨some 67, .move (.tmp 66), _, _, _, none⟩) (v := ?_) rfl (by kernel_rfl) (by kernel_rfl) (by kernel_rfl) (fun _ _ _ h => h) (Or.inl ⟨by rfl, ?_⟩) hHeld ?_
  rotate_left
  · intro W _; go_simp; try with_reducible rfl
  try simp only [Act.put, List.setIfInBounds_toArray, List.set_cons_zero, List.set_cons_succ]
  refine wpAnyH_take (i := 35) (oi := ⟨some 68, .load 25 (.tmp 7), _, _, _, some (34, true)⟩) (v := .agg (bs DE).toArray) rfl (by kernel_rfl) (by kernel_rfl) (by kernel_rfl) (fun _ _ _ h => h) (yieldsIf_load_mid (by rfl) _ _ rfl g7 0 rfl (bs DE) _ (fun W h => h.b7.allR) Tryz.underlying25 rfl iE.out) hHeld ?_
  try simp only [Act.put, List.setIfInBounds_toArray, List.set_cons_zero, List.set_cons_succ]
  refine wpAnyH_take (i := 36) (oi := ⟨some 69, .load 25 (.tmp 1), _, _, _, some (34, true)⟩) (v := .agg (bs DA).toArray) rfl (by kernel_rfl) (by kernel_rfl) (by kernel_rfl) (fun _ _ _ h => h) (yieldsIf_load_mid (by rfl) _ _ rfl g1 0 rfl (bs DA) _ (fun W h => h.b1.allR) Tryz.underlying25 rfl iA.out) hHeld ?_
  try simp only [Act.put, List.setIfInBounds_toArray, List.set_cons_zero, List.set_cons_succ]
  refine wpAnyH_take (i := 37) (oi := ⟨some 70, .binOp .neq 25 (.tmp 68) (.tmp 69) 25, _, _, _, some (34, true)⟩) (v := .bool true) rfl (by kernel_rfl) (by kernel_rfl) (by kernel_rfl) (fun _ _ _ h => h) (yieldsIf_eqE (by rfl) .neq 25 25 (.tmp 68) (.tmp 69) rfl _ _ rfl rfl guardR _ nE.out) hHeld ?_
  try simp only [Act.put, List.setIfInBounds_toArray, List.set_cons_zero, List.set_cons_succ]
  refine wpAnyH_take (i := 38) (oi := ⟨some 71, .pick (.tmp 67) (.tmp 70) (.const (.bool false)), _, _, _, none⟩) (v := ?_) rfl (by kernel_rfl) (by kernel_rfl) (by kernel_rfl) (fun _ _ _ h => h) (Or.inl ⟨by rfl, ?_⟩) hHeld ?_
  rotate_left
  · intro W _; go_simp; try with_reducible rfl
  try simp only [Act.put, List.setIfInBounds_toArray, List.set_cons_zero, List.set_cons_succ]
  refine wpAnyH_ready (rs := [39]) (by kernel_rfl) (by simp) ?_
  refine AllReadyH.cons (o := ⟨some 0, .assign (.tmp 71), _, _, _, none⟩) rfl (fun K hK => ?_) AllReadyH.nil
  refine step_ofR (by rfl) ?_
  go_simp
  refine hK.out _ _ (hHeld) (fun hHeld => ?_)
  clear hK K
  try simp only [Act.put, List.setIfInBounds_toArray, List.set_cons_zero, List.set_cons_succ]
  refine wpAnyH_done (by kernel_rfl) ?_ _
  -- END 5 2
  go_wp2_with fail
  go_ret
  exact ⟨rfl, hHeld.bel⟩
end
/-! The walk of SmtShort. -/
section
open Go.RowKit

/-- what the last region of SmtShort knows of a world -/
structure ShortAt (w W : World) (y : Lf) (p q d : List UInt8) (g h : Nat) : Prop where
  b7 : Blk W w.heap.size 50 (lc y)
  b8 : Blk W (w.heap.size + 1) 25 (bs p)
  b9 : Blk W (w.heap.size + 1 + 1) 25 (bs q)
  b11 : Blk W g 25 (bs d)
  b13 : Blk W h 25 (bs d)
  bel : Below w.heap.size w W
theorem ShortAt.below {w W W' : World} {y : Lf} {p q d : List UInt8} {g h : Nat} (s : ShortAt w W y p q d g h) (hb : Below W.heap.size W W') : ShortAt w W' y p q d g h :=
  ⟨s.b7.below hb, s.b8.below hb, s.b9.below hb, s.b11.below hb, s.b13.below hb, Bt s.bel hb⟩
theorem ShortAt.drew {w W : World} {y : Lf} {p q d : List UInt8} {g h : Nat} (s : ShortAt w W y p q d g h) : ShortAt w W.drew y p q d g h := s.below ⟨rfl, rfl, rfl, Nat.le_refl _, fun _ _ => rfl⟩
theorem eq5 {d : List UInt8} (h : d.length = 32) : ∀ W : World, (binOp .eql 25 (.agg (bs d).toArray) (.agg (bs d).toArray)).run Tryz.prog W = .ok (.bool true) W := fun W => by rw [eqD W _ _ h h]; simp

end
end
/-! Con05Z Law05D, in one text. -/
section
/-! Con05V Con05Z, in one text. -/
section
/-! Con05M Con05V, in one text. -/
section
/-! Get, Len. -/
section
open Go.RowKit

/-- what Get answers -/
def valOf (o : Option Lf) : List UInt8 := match o with | some y => y.val | none => zero32
/-- how high the node of a pointer is -/
def hgtAt (G : Tag) : Value → Nat
  | .pointer (some a) => match G a.block with | some u => u.hgt | none => 0
  | _ => 0
theorem hgtAt_of {G : Tag} {q : Nat} {u : T} (h : G q = some u) : hgtAt G (.pointer (some ⟨q, 0, none⟩)) = u.hgt := by simp [hgtAt, h]

/-- what Get's loop knows of a world -/
structure GetAt (w W : World) (G : Tag) (t : T) (d : List UInt8) (q k : Nat) (u : T) : Prop where
  top : G q = some u
  wf : u.wf k
  agr : agree u.lvs k
  way : T.way u d k = T.way t d 0
  box : Blk W w.heap.size 25 (bs d)
  res : Blk W (w.heap.size + 1) 25 (bs zero32)
  bel : Below w.heap.size w W

set_option maxRecDepth 100000 in
set_option maxHeartbeats 2000000 in
theorem get_any (base x : Nat) (G : Tag) (w : World) (tp pn pt : Nat) (t : T) (d : List UInt8) (hd : d.length = 32) (hI : Inv base x G noL w) (hTr : Tr base G w tp pn pt t) (hw : t.wf 0) :
    Calls Tryz.prog 18 #[.pointer (some ⟨tp, 0, none⟩), .agg (bs d).toArray] w fun e w' => e = .returned (.tuple #[.agg (bs (valOf (findL t.lvs d))).toArray, .bool (findL t.lvs d).isSome]) ∧ Below w.heap.size w w' := by
  have HF := Lib.hid (T.way_spec d t 0 hw)
  have HV : ∀ y ∈ t.lvs, y.ok := T.wf_oks t 0 hw
  have HWW := Lib.hid (T.way_wf d t 0 hw)
  have H5 := Lib.hid (show (Tryz.prog.info? 25).map (·.size) = some (bs d).length by rw [info_digest, bs_length, hd])
  have H6 := Lib.hid (show (Tryz.prog.info? 25).map (·.size) = some (bs zero32).length by rw [info_digest, bs_length, zero32_length])
  have H7 := bs_one zero32
  have HBT := Lib.hid built0
  have HB := Lib.hid (fun (W : World) (k : Nat) (hk : k < 256) => bitIs1_any W d hd k hk)
  have hb0 := Blk.new w 25 (bs d)
  have hB0 : Below w.heap.size w (w.alloc (.cells (bs d).toArray 25)) := (Below.refl _ w).alloc (Nat.le_refl _) _
  have hz0 : (w.alloc (.cells (bs d).toArray 25)).heap.size = w.heap.size + 1 := by simp
  have hc1 := hTr.c1
  have CB := Lib.hid (fun (W : World) (h : Below w.heap.size w W) => cell_later h hc1)
  clear hc1
  go_enter Tryz.func18, Tryz.ntmps18
  go_wp2_with ((with_reducible refine wpList_allocB (o := ⟨some 4, _, _, _, _, _⟩) ?_ 25 ?_ zeroD_info ?_); rfl; rfl; intro w1 hr1 hg1 hz1; rw [hz0] at hr1; have hB1 := hB0.grown hg1 hB0.size (fun k e => by cases e); have c1 := CB.out w1 hB1)
  have hb1 := hb0.grown hg1 (by simp)
  have hS : GetAt w w1 G t d pt 0 t := ⟨hTr.top, hw, fun _ _ _ _ i hi => by omega, rfl, hb1, hr1, hB1⟩
  clear c1 hb0 hB0 hz0 hg1 hz1
  go_loopw [6, 7] (fun s6 s7 wr => ∃ (q k : Nat) (u : T), s6 = .pointer (some ⟨q, 0, none⟩) ∧ s7 = .int .i64 (k : Int) ∧ GetAt w wr G t d q k u) (fun s6 _ _ => hgtAt G s6)
  case atStart => exact ⟨pt, 0, t, rfl, rfl, hS⟩
  case round =>
    obtain ⟨q, k, u, rfl, rfl, hS⟩ := hrel
    have hIr := hI.below hS.bel
    obtain ⟨dn, sum, lf, le, ri, hN⟩ := hIr.nd hS.top
    have c2 := hN.size
    have hu := hS.wf
    have hway := hS.way
    have hkids := hN.kids
    have HH := Lib.hid (hgtAt_of hS.top)
    cases u with
    | two l r =>
      have h2 := T.size_two hu
      have hk256 : k < 256 := by
        rcases Nat.lt_or_ge k 256 with h' | h'
        · exact h'
        · have := T.deep hu hS.agr h'; omega
      have h2' : (1 : Int) < ((T.two l r).lvs.length : Int) := by omega
      generalize (T.two l r).lvs.length = m at *
      obtain ⟨pl, pr, rfl, rfl, hpl, hpr⟩ := hkids
      have hrg := hS.box.allR
      have c3 := hN.left
      have c4 := hN.right
      have hbx := HB.out wr k hk256
      by_cases hbit : bitAt d k = 1
      · rw [show (bitAt d k == 1) = true by simp [hbit]] at hbx
        have hS2 := Lib.hid (fun (W : World) (hb : Below wr.heap.size wr W) => (⟨hpr, hu.2.2.1, T.agree_right hu hS.agr, by rw [← hway]; exact (if_pos hbit).symm, hS.box.below hb, hS.res.below hb, Bt hS.bel hb⟩ : GetAt w W G t d pr (k + 1) r))
        have HM := Lib.hid (show hgtAt G (.pointer (some ⟨pr, 0, none⟩)) < (T.two l r).hgt from by rw [hgtAt_of hpr]; simp [T.hgt]; omega)
        clear hway hbit
        go_wp2_with ((with_reducible refine wpList_loadG (o := ⟨some 22, _, _, _, _, _⟩) ?_ w.heap.size 0 25 (.tmp 3) ?_ ?_ hrg Tryz.underlying25 ?_ H5.out ?_); rfl; rfl; rfl; rfl)
        refine hbx.mono ?_
        rintro e w2 ⟨rfl, hb2⟩
        have c4 := cell_later hb2 c4
        go_wp2_with fail
        exact ⟨⟨pr, k + 1, r, rfl, by go_num, hS2.out _ hb2⟩, by rw [HH.out]; exact HM.out⟩
      · rw [show (bitAt d k == 1) = false by simp [hbit]] at hbx
        have hS2 := Lib.hid (fun (W : World) (hb : Below wr.heap.size wr W) => (⟨hpl, hu.2.1, T.agree_left hu hS.agr, by rw [← hway]; exact (if_neg hbit).symm, hS.box.below hb, hS.res.below hb, Bt hS.bel hb⟩ : GetAt w W G t d pl (k + 1) l))
        have HM := Lib.hid (show hgtAt G (.pointer (some ⟨pl, 0, none⟩)) < (T.two l r).hgt from by rw [hgtAt_of hpl]; simp [T.hgt]; omega)
        clear hway hbit
        go_wp2_with ((with_reducible refine wpList_loadG (o := ⟨some 22, _, _, _, _, _⟩) ?_ w.heap.size 0 25 (.tmp 3) ?_ ?_ hrg Tryz.underlying25 ?_ H5.out ?_); rfl; rfl; rfl; rfl)
        refine hbx.mono ?_
        rintro e w2 ⟨rfl, hb2⟩
        have c3 := cell_later hb2 c3
        go_wp2_with fail
        exact ⟨⟨pl, k + 1, l, rfl, by go_num, hS2.out _ hb2⟩, by rw [HH.out]; exact HM.out⟩
    | none =>
      have c2' : wr.cell? ⟨q, 36, none⟩ = some (.int .i64 0) := c2
      have hfind : findL t.lvs d = none := by rw [HF.out, ← hway]; rfl
      have HAS := has_any wr base x G hIr q .none hS.top k hu d hd
      have hrg := hS.box.allR
      rw [show T.hasB .none d = false from rfl] at HAS
      have HE := Lib.hid hfind
      have hres := hS.res
      have hbel := hS.bel
      clear hfind hway c2 hS
      go_wp2_with ((with_reducible refine wpList_loadG (o := ⟨some 34, _, _, _, _, _⟩) ?_ w.heap.size 0 25 (.tmp 3) ?_ ?_ hrg Tryz.underlying25 ?_ H5.out ?_); rfl; rfl; rfl; rfl)
      refine HAS.mono ?_
      rintro e w2 ⟨rfl, hb2⟩
      have hr2 := hres.below hb2
      go_wp2_with (first | ((with_reducible refine wpList_buildI (dst := some 37) HBT.out ?_ ?_); rfl) | ((with_reducible refine wpList_storeB (o := ⟨none, .store 25 (.tmp 4) (.tmp 37), _, _, _, _⟩) ?_ 25 (.tmp 4) (.tmp 37) ?_ ?_ ?_ hr2 H6.out rfl H7 ?_); rfl; rfl; rfl; rfl; intro w8 hb8 hg8 hz8))
      try simp only [Exit.inBlock, Exit.then]
      refine bodyPost_ret (results_digest2 rfl _ _ _ _ _ zero32_length rfl hb8.at_) rfl ⟨by rw [HE.out]; rfl, ?_⟩
      exact below_of_grown' (Bt hbel hb2) hg8 (by omega)
    | one y =>
      have c2' : wr.cell? ⟨q, 36, none⟩ = some (.int .i64 1) := c2
      have hfind : findL t.lvs d = findL [y] d := by rw [HF.out, ← hway]; rfl
      have HAS := has_any wr base x G hIr q (.one y) hS.top k hu d hd
      have hrg := hS.box.allR
      have hres := hS.res
      have hbel := hS.bel
      rw [show T.hasB (.one y) d = (y.path == d) from rfl] at HAS
      have c3 := hN.leaf
      obtain ⟨ql, rfl, hql, hqb⟩ := hkids
      cases hyd : (y.path == d) with
      | false =>
        rw [hyd] at HAS
        have HE := Lib.hid (show findL t.lvs d = none from by rw [hfind]; simp [findL, hyd])
        clear hfind hway c2 hS c3
        go_wp2_with ((with_reducible refine wpList_loadG (o := ⟨some 34, _, _, _, _, _⟩) ?_ w.heap.size 0 25 (.tmp 3) ?_ ?_ hrg Tryz.underlying25 ?_ H5.out ?_); rfl; rfl; rfl; rfl)
        refine HAS.mono ?_
        rintro e w2 ⟨rfl, hb2⟩
        have hr2 := hres.below hb2
        go_wp2_with (first | ((with_reducible refine wpList_buildI (dst := some 37) HBT.out ?_ ?_); rfl) | ((with_reducible refine wpList_storeB (o := ⟨none, .store 25 (.tmp 4) (.tmp 37), _, _, _, _⟩) ?_ 25 (.tmp 4) (.tmp 37) ?_ ?_ ?_ hr2 H6.out rfl H7 ?_); rfl; rfl; rfl; rfl; intro w8 hb8 hg8 hz8))
        try simp only [Exit.inBlock, Exit.then]
        refine bodyPost_ret (results_digest2 rfl _ _ _ _ _ zero32_length rfl hb8.at_) rfl ⟨by rw [HE.out]; rfl, ?_⟩
        exact below_of_grown' (Bt hbel hb2) hg8 (by omega)
      | true =>
        rw [hyd] at HAS
        have HE := Lib.hid (show findL t.lvs d = some y from by rw [hfind]; simp [findL, hyd])
        have hyo : y.ok := hu
        have hvl := hyo.2
        have H8 := Lib.hid (show (Tryz.prog.info? 25).map (·.size) = some (bs y.val).length by rw [info_digest, bs_length, hvl])
        have H9 := Lib.hid (show (bs zero32).length = (bs y.val).length by rw [bs_length, bs_length, zero32_length, hvl])
        have H10 := bs_one y.val
        have hrv := range_val hyo (hqb.range 0 (cs := lc y) (fun j hj => by rw [Nat.zero_add]))
        rw [Nat.zero_add] at hrv
        clear hfind hway c2 hS hqb
        go_wp2_with ((with_reducible refine wpList_loadG (o := ⟨some 34, _, _, _, _, _⟩) ?_ w.heap.size 0 25 (.tmp 3) ?_ ?_ hrg Tryz.underlying25 ?_ H5.out ?_); rfl; rfl; rfl; rfl)
        refine HAS.mono ?_
        rintro e w2 ⟨rfl, hb2⟩
        have hr2 := hres.below hb2
        have c4 := cell_later hb2 c3
        have hrv2 := rangeAt_below hb2 hrv
        go_wp2_with (first | ((with_reducible refine wpList_loadG (o := ⟨some 44, _, _, _, _, _⟩) ?_ ql 32 25 (.tmp 43) ?_ ?_ hrv2 Tryz.underlying25 ?_ H8.out ?_); rfl; rfl; rfl; rfl) | ((with_reducible refine wpList_storeB (o := ⟨none, .store 25 (.tmp 4) (.tmp 44), _, _, _, _⟩) ?_ 25 (.tmp 4) (.tmp 44) ?_ ?_ ?_ hr2 H8.out H9.out H10 ?_); rfl; rfl; rfl; rfl; intro w8 hb8 hg8 hz8))
        try simp only [Exit.inBlock, Exit.then]
        refine bodyPost_ret (results_digest2 rfl _ _ _ _ _ hvl rfl hb8.at_) rfl ⟨by rw [HE.out]; rfl, ?_⟩
        exact below_of_grown' (Bt hbel hb2) hg8 (by omega)

set_option maxRecDepth 100000 in
theorem tlen_any (base x : Nat) (G : Tag) (w : World) (tp pn pt : Nat) (t : T) (hI : Inv base x G noL w) (hTr : Tr base G w tp pn pt t) :
    Calls Tryz.prog 21 #[.pointer (some ⟨tp, 0, none⟩)] w fun e w' => e = .returned (.int .i64 (t.lvs.length : Int)) ∧ w' = w := by
  obtain ⟨dn, sum, lf, le, ri, hN⟩ := hI.nd hTr.top
  have c1 := hTr.c1
  have c2 := hN.size
  go_enter Tryz.func21, Tryz.ntmps21
  go_wp2_with fail
  go_ret
  exact ⟨rfl, rfl⟩
end
/-! Drop: a tree without a leaf. -/
section
open Go.RowKit

/-- what without knows of a world -/
structure WoAt (w W : World) (d : List UInt8) (p : Nat) (le ri : Option Addr) : Prop where
  box : Blk W w.heap.size 25 (bs d)
  left : W.cell? ⟨p, 38, none⟩ = some (.pointer le)
  right : W.cell? ⟨p, 39, none⟩ = some (.pointer ri)
theorem WoAt.below {w W W' : World} {d : List UInt8} {p : Nat} {le ri : Option Addr} (h : WoAt w W d p le ri) (hb : Below W.heap.size W W') : WoAt w W' d p le ri :=
  ⟨h.box.below hb, cell_later hb h.left, cell_later hb h.right⟩
theorem WoAt.drew {w W : World} {d : List UInt8} {p : Nat} {le ri : Option Addr} (h : WoAt w W d p le ri) : WoAt w W.drew d p le ri := h.below ⟨rfl, rfl, rfl, Nat.le_refl _, fun _ _ => rfl⟩

theorem cut_len (d : List UInt8) : ∀ (t : T) (n : Nat), (T.cut t d n).lvs.length ≤ t.lvs.length
  | .none, _ => Nat.le_refl _
  | .one _, _ => by simp [T.cut, T.lvs]
  | .two l r, n => by
    unfold T.cut
    have h1 := cut_len d l (n + 1)
    have h2 := cut_len d r (n + 1)
    split <;> rw [T.joined_lvs] <;> simp only [T.lvs, List.length_append] <;> omega

set_option maxRecDepth 100000 in
set_option maxHeartbeats 3000000 in
theorem without_any (base x : Nat) (d : List UInt8) (hd : d.length = 32) (tp pn : Nat) : ∀ (t : T) (G : Tag) (w : World) (p n : Nat) (ni : Int), ni = (n : Int) → base ≤ w.heap.size → Inv base x G noL w →
    w.cell? ⟨tp, 0, none⟩ = some (.pointer (some ⟨pn, 0, none⟩)) → G pn = some .none → G p = some t → t.wf n → agree t.lvs n → (∃ y ∈ t.lvs, y.path = d) → t.lvs.length ≤ 100000 →
    Calls Tryz.prog 43 #[.pointer (some ⟨tp, 0, none⟩), .pointer (some ⟨p, 0, none⟩), .agg (bs d).toArray, .int .i64 ni] w (WithPost base x G (T.cut t d n) w) := by
  intro t
  induction t with
  | none => intro _ _ _ _ _ _ _ _ _ _ _ _ _ h; obtain ⟨y, hy, _⟩ := h; simp [T.lvs] at hy
  | one y =>
    intro G w p n ni hni hb hI hc hpn hp ht ha hm hsz
    subst hni
    obtain ⟨dn, sum, lf, le, ri, hN⟩ := hI.nd hp
    have hB0 : Below w.heap.size w (w.alloc (.cells (bs d).toArray 25)) := (Below.refl _ w).alloc (Nat.le_refl _) _
    have c0 := cell_later hB0 hc
    have c1 : (w.alloc (.cells (bs d).toArray 25)).cell? ⟨p, 36, none⟩ = some (.int .i64 1) := cell_later hB0 hN.size
    clear hc
    go_enter Tryz.func43, Tryz.ntmps43
    go_wp2_with fail
    go_ret
    exact ⟨pn, G, rfl, hpn, hI.below hB0, More.refl _ _, hB0⟩
  | two l r ihl ihr =>
    intro G w p n ni hni hb hI hc hpn hp ht ha hm hsz
    subst hni
    obtain ⟨dn, sum, lf, le, ri, hN⟩ := hI.nd hp
    have hk := hN.kids
    obtain ⟨pl, pr, rfl, rfl, hpl, hpr⟩ := hk
    have h2 := T.size_two ht
    have hn256 : n < 256 := by
      rcases Nat.lt_or_ge n 256 with h' | h'
      · exact h'
      · have := T.deep ht ha h'; omega
    have hB0 : Below w.heap.size w (w.alloc (.cells (bs d).toArray 25)) := (Below.refl _ w).alloc (Nat.le_refl _) _
    have hb0 := Blk.new w 25 (bs d)
    have c1 := cell_later hB0 hN.size
    have hS0 : WoAt w (w.alloc (.cells (bs d).toArray 25)) d p (some ⟨pl, 0, none⟩) (some ⟨pr, 0, none⟩) := ⟨hb0, cell_later hB0 hN.left, cell_later hB0 hN.right⟩
    have hrg := hb0.allR
    have H5 := Lib.hid (show (Tryz.prog.info? 25).map (·.size) = some (bs d).length by rw [info_digest, bs_length, hd])
    have HB := Lib.hid (fun W : World => bitIs1_any W d hd n hn256)
    have hne : ((T.two l r).lvs.length : Int) ≠ 1 := by omega
    have hlr : l.lvs.length + r.lvs.length ≤ 100000 := by simpa [T.lvs] using hsz
    have hcl := cut_len d l (n + 1)
    have hcr := cut_len d r (n + 1)
    have hwr : IntKind.i64.wrap ((n : Int) + 1) = (n : Int) + 1 := IntWalk.i64_in _ (by omega)
    have HI := Lib.hid hI
    generalize (T.two l r).lvs.length = m at *
    have hne' : ((m : Int) == 1) = false := by simpa using hne
    by_cases hbit : bitAt d n = 1
    · rw [show (bitAt d n == 1) = true by simp [hbit]] at HB
      have HC := Lib.hid (show T.cut (.two l r) d n = T.joined l (T.cut r d (n + 1)) from if_pos hbit)
      have hmr : ∃ y ∈ r.lvs, y.path = d := by
        obtain ⟨y, hy, e⟩ := hm
        rcases List.mem_append.1 hy with h | h
        · have := ht.2.2.2.1 y h; rw [e, hbit] at this; cases this
        · exact ⟨y, h, e⟩
      have WA := Lib.hid (fun (W : World) (h : Below w.heap.size w W) =>
        ihr G W pr (n + 1) ((n : Int) + 1) (by omega) (Nat.le_trans hb h.size) (hI.below h) (cell_later h hc) hpn hpr ht.2.2.1 (T.agree_right ht ha) hmr (by omega))
      generalize T.cut r d (n + 1) = TR at *
      have JO := Lib.hid (fun (W : World) (G2 : Tag) (s2 : Nat) (hm2 : ∀ k u, G k = some u → G2 k = some u) (h2 : G2 s2 = some TR) (hi : Inv base x G2 noL W) (h : Below w.heap.size w W) =>
        joined_any W base x (Nat.le_trans hb h.size) G2 hi tp pn (cell_later h hc) (hm2 _ _ hpn) pl s2 l TR (hm2 _ _ hpl) h2 (by omega))
      clear hmr hbit hm
      go_enter Tryz.func43, Tryz.ntmps43
      go_wp2_with ((with_reducible refine wpList_loadG (o := ⟨some 18, _, _, _, _, _⟩) ?_ w.heap.size 0 25 (.tmp 6) ?_ ?_ hrg Tryz.underlying25 ?_ H5.out ?_); rfl; rfl; rfl; rfl)
      refine (HB.out _).mono ?_
      rintro e w1 ⟨rfl, hB1⟩
      have hS := hS0.below hB1
      have hB5 := Bt hB0 hB1
      clear hrg c1 hS0 hb0
      go_wp2_with fail
      -- REGION wor 6
      refine wp_region_held_drew (S := fun W => WoAt w W d p (some ⟨pl, 0, none⟩) (some ⟨pr, 0, none⟩)) (by kernel_rfl) hS.drew (fun hHeld => ?_)
      refine wpAnyH_take (i := 0) (oi := ⟨some 21, .move (.tmp 0), _, _, _, none⟩) (v := ?_) rfl (by kernel_rfl) (by kernel_rfl) (by kernel_rfl) (fun _ _ _ h => h) (Or.inl ⟨by rfl, ?_⟩) hHeld ?_
      rotate_left
      · intro W _; go_simp; try with_reducible rfl
      try simp only [Act.put, List.setIfInBounds_toArray, List.set_cons_zero, List.set_cons_succ]
      refine wpAnyH_take (i := 1) (oi := ⟨some 22, .move (.tmp 1), _, _, _, none⟩) (v := ?_) rfl (by kernel_rfl) (by kernel_rfl) (by kernel_rfl) (fun _ _ _ h => h) (Or.inl ⟨by rfl, ?_⟩) hHeld ?_
      rotate_left
      · intro W _; go_simp; try with_reducible rfl
      try simp only [Act.put, List.setIfInBounds_toArray, List.set_cons_zero, List.set_cons_succ]
      refine wpAnyH_take (i := 2) (oi := ⟨some 23, .nilCheck (.tmp 22), _, _, _, none⟩) (v := ?_) rfl (by kernel_rfl) (by kernel_rfl) (by kernel_rfl) (fun _ _ _ h => h) (Or.inl ⟨by rfl, ?_⟩) hHeld ?_
      rotate_left
      · intro W _; go_simp; try with_reducible rfl
      try simp only [Act.put, List.setIfInBounds_toArray, List.set_cons_zero, List.set_cons_succ]
      refine wpAnyH_take (i := 3) (oi := ⟨some 24, .fieldAddr 86 (.tmp 23) 4, _, _, _, none⟩) (v := ?_) rfl (by kernel_rfl) (by kernel_rfl) (by kernel_rfl) (fun _ _ _ h => h) (Or.inl ⟨by rfl, ?_⟩) hHeld ?_
      rotate_left
      · intro W _; go_simp; try with_reducible rfl
      try simp only [Act.put, List.setIfInBounds_toArray, List.set_cons_zero, List.set_cons_succ]
      refine wpAnyH_take (i := 4) (oi := ⟨some 25, .load 69 (.tmp 24), _, _, _, none⟩) (v := ?_) rfl (by kernel_rfl) (by kernel_rfl) (by kernel_rfl) (fun _ _ _ h => h) (Or.inl ⟨by rfl, ?_⟩) hHeld ?_
      rotate_left
      · intro W hS; have h0 := hS.left; go_simp; try with_reducible rfl
      try simp only [Act.put, List.setIfInBounds_toArray, List.set_cons_zero, List.set_cons_succ]
      refine wpAnyH_take (i := 5) (oi := ⟨some 26, .move (.tmp 0), _, _, _, none⟩) (v := ?_) rfl (by kernel_rfl) (by kernel_rfl) (by kernel_rfl) (fun _ _ _ h => h) (Or.inl ⟨by rfl, ?_⟩) hHeld ?_
      rotate_left
      · intro W _; go_simp; try with_reducible rfl
      try simp only [Act.put, List.setIfInBounds_toArray, List.set_cons_zero, List.set_cons_succ]
      refine wpAnyH_take (i := 6) (oi := ⟨some 27, .move (.tmp 1), _, _, _, none⟩) (v := ?_) rfl (by kernel_rfl) (by kernel_rfl) (by kernel_rfl) (fun _ _ _ h => h) (Or.inl ⟨by rfl, ?_⟩) hHeld ?_
      rotate_left
      · intro W _; go_simp; try with_reducible rfl
      try simp only [Act.put, List.setIfInBounds_toArray, List.set_cons_zero, List.set_cons_succ]
      refine wpAnyH_take (i := 7) (oi := ⟨some 28, .nilCheck (.tmp 27), _, _, _, none⟩) (v := ?_) rfl (by kernel_rfl) (by kernel_rfl) (by kernel_rfl) (fun _ _ _ h => h) (Or.inl ⟨by rfl, ?_⟩) hHeld ?_
      rotate_left
      · intro W _; go_simp; try with_reducible rfl
      try simp only [Act.put, List.setIfInBounds_toArray, List.set_cons_zero, List.set_cons_succ]
      refine wpAnyH_take (i := 8) (oi := ⟨some 29, .fieldAddr 86 (.tmp 28) 5, _, _, _, none⟩) (v := ?_) rfl (by kernel_rfl) (by kernel_rfl) (by kernel_rfl) (fun _ _ _ h => h) (Or.inl ⟨by rfl, ?_⟩) hHeld ?_
      rotate_left
      · intro W _; go_simp; try with_reducible rfl
      try simp only [Act.put, List.setIfInBounds_toArray, List.set_cons_zero, List.set_cons_succ]
      refine wpAnyH_take (i := 9) (oi := ⟨some 30, .load 69 (.tmp 29), _, _, _, none⟩) (v := ?_) rfl (by kernel_rfl) (by kernel_rfl) (by kernel_rfl) (fun _ _ _ h => h) (Or.inl ⟨by rfl, ?_⟩) hHeld ?_
      rotate_left
      · intro W hS; have h0 := hS.right; go_simp; try with_reducible rfl
      try simp only [Act.put, List.setIfInBounds_toArray, List.set_cons_zero, List.set_cons_succ]
      refine wpAnyH_take (i := 10) (oi := ⟨some 31, .load 25 (.tmp 6), _, _, _, none⟩) (v := .agg (bs d).toArray) rfl (by kernel_rfl) (by kernel_rfl) (by kernel_rfl) (fun _ _ _ h => h) (yieldsIf_load_mid (by rfl) _ _ rfl w.heap.size 0 rfl (bs d) _ (fun W h => h.box.allR) Tryz.underlying25 rfl H5.out) hHeld ?_
      try simp only [Act.put, List.setIfInBounds_toArray, List.set_cons_zero, List.set_cons_succ]
      refine wpAnyH_take (i := 11) (oi := ⟨some 32, .move (.tmp 3), _, _, _, none⟩) (v := ?_) rfl (by kernel_rfl) (by kernel_rfl) (by kernel_rfl) (fun _ _ _ h => h) (Or.inl ⟨by rfl, ?_⟩) hHeld ?_
      rotate_left
      · intro W _; go_simp; try with_reducible rfl
      try simp only [Act.put, List.setIfInBounds_toArray, List.set_cons_zero, List.set_cons_succ]
      refine wpAnyH_take (i := 12) (oi := ⟨some 33, .binOp .add 3 (.tmp 32) (.const (.int .i64 1)) 3, _, _, _, none⟩) (v := ?_) rfl (by kernel_rfl) (by kernel_rfl) (by kernel_rfl) (fun _ _ _ h => h) (Or.inl ⟨by rfl, ?_⟩) hHeld ?_
      rotate_left
      · intro W _; go_simp; try with_reducible rfl
      try simp only [Act.put, List.setIfInBounds_toArray, List.set_cons_zero, List.set_cons_succ]
      refine wpAnyH_ready (rs := [13]) (by kernel_rfl) (by simp) ?_
      refine AllReadyH.cons (o := ⟨some 34, .call { callee := .value (.func 43), args := #[.tmp 26, .tmp 30, .tmp 31, .tmp 33], argTypes := #[28, 69, 25, 3] }, _, _, _, none⟩) rfl (fun K hK => ?_) AllReadyH.nil
      refine step_ofR (by rfl) ?_
      go_simp
      refine (WA.out _ (below_drew hB5)).mono ?_
      rintro x W1 ⟨s2, G2, rfl, hG2, hI6, hM6, hB6⟩
      refine hK.out _ _ (hHeld.below hB6) (fun hHeld => ?_)
      clear hK K
      try simp only [Act.put, List.setIfInBounds_toArray, List.set_cons_zero, List.set_cons_succ]
      refine wpAnyH_ready (rs := [14]) (by kernel_rfl) (by simp) ?_
      refine AllReadyH.cons (o := ⟨some 35, .call { callee := .value (.func 71), args := #[.tmp 21, .tmp 25, .tmp 34], argTypes := #[28, 69, 69] }, _, _, _, none⟩) rfl (fun K hK => ?_) AllReadyH.nil
      refine step_ofR (by rfl) ?_
      go_simp
      refine (JO.out _ G2 s2 hM6.1 hG2 hI6 (Bt (below_drew hB5) hB6)).mono ?_
      rintro x W1 ⟨s3, G3, rfl, hG3, hI8, hM8, hB8⟩
      refine hK.out _ _ (hHeld.below hB8) (fun hHeld => ?_)
      clear hK K
      try simp only [Act.put, List.setIfInBounds_toArray, List.set_cons_zero, List.set_cons_succ]
      refine wpAnyH_ready (rs := [15]) (by kernel_rfl) (by simp) ?_
      refine AllReadyH.cons (o := ⟨some 8, .assign (.tmp 35), _, _, _, none⟩) rfl (fun K hK => ?_) AllReadyH.nil
      refine step_ofR (by rfl) ?_
      go_simp
      refine hK.out _ _ (hHeld) (fun hHeld => ?_)
      clear hK K
      try simp only [Act.put, List.setIfInBounds_toArray, List.set_cons_zero, List.set_cons_succ]
      refine wpAnyH_done (by kernel_rfl) ?_ _
      -- END wor
      go_wp2_with fail
      go_ret
      exact ⟨s3, G3, rfl, by rw [HC.out]; exact hG3, hI8, ((More.refl w.heap.size G).trans hM6 hB5.size).trans hM8 (Bt (below_drew hB5) hB6).size, Bt (Bt (below_drew hB5) hB6) hB8⟩
    · rw [show (bitAt d n == 1) = false by simp [hbit]] at HB
      have HC := Lib.hid (show T.cut (.two l r) d n = T.joined (T.cut l d (n + 1)) r from if_neg hbit)
      have hml : ∃ y ∈ l.lvs, y.path = d := by
        obtain ⟨y, hy, e⟩ := hm
        rcases List.mem_append.1 hy with h | h
        · exact ⟨y, h, e⟩
        · have := ht.2.2.2.2 y h; rw [e] at this; exact absurd this hbit
      have WA := Lib.hid (fun (W : World) (h : Below w.heap.size w W) =>
        ihl G W pl (n + 1) ((n : Int) + 1) (by omega) (Nat.le_trans hb h.size) (hI.below h) (cell_later h hc) hpn hpl ht.2.1 (T.agree_left ht ha) hml (by omega))
      generalize T.cut l d (n + 1) = TL at *
      have JO := Lib.hid (fun (W : World) (G2 : Tag) (s1 : Nat) (hm2 : ∀ k u, G k = some u → G2 k = some u) (h2 : G2 s1 = some TL) (hi : Inv base x G2 noL W) (h : Below w.heap.size w W) =>
        joined_any W base x (Nat.le_trans hb h.size) G2 hi tp pn (cell_later h hc) (hm2 _ _ hpn) s1 pr TL r h2 (hm2 _ _ hpr) (by omega))
      clear hml hbit hm
      go_enter Tryz.func43, Tryz.ntmps43
      go_wp2_with ((with_reducible refine wpList_loadG (o := ⟨some 18, _, _, _, _, _⟩) ?_ w.heap.size 0 25 (.tmp 6) ?_ ?_ hrg Tryz.underlying25 ?_ H5.out ?_); rfl; rfl; rfl; rfl)
      refine (HB.out _).mono ?_
      rintro e w1 ⟨rfl, hB1⟩
      have hS := hS0.below hB1
      have hB5 := Bt hB0 hB1
      clear hrg c1 hS0 hb0
      go_wp2_with fail
      -- REGION wol 6
      refine wp_region_held_drew (S := fun W => WoAt w W d p (some ⟨pl, 0, none⟩) (some ⟨pr, 0, none⟩)) (by kernel_rfl) hS.drew (fun hHeld => ?_)
      refine wpAnyH_take (i := 0) (oi := ⟨some 36, .move (.tmp 0), _, _, _, none⟩) (v := ?_) rfl (by kernel_rfl) (by kernel_rfl) (by kernel_rfl) (fun _ _ _ h => h) (Or.inl ⟨by rfl, ?_⟩) hHeld ?_
      rotate_left
      · intro W _; go_simp; try with_reducible rfl
      try simp only [Act.put, List.setIfInBounds_toArray, List.set_cons_zero, List.set_cons_succ]
      refine wpAnyH_take (i := 1) (oi := ⟨some 37, .move (.tmp 0), _, _, _, none⟩) (v := ?_) rfl (by kernel_rfl) (by kernel_rfl) (by kernel_rfl) (fun _ _ _ h => h) (Or.inl ⟨by rfl, ?_⟩) hHeld ?_
      rotate_left
      · intro W _; go_simp; try with_reducible rfl
      try simp only [Act.put, List.setIfInBounds_toArray, List.set_cons_zero, List.set_cons_succ]
      refine wpAnyH_take (i := 2) (oi := ⟨some 38, .move (.tmp 1), _, _, _, none⟩) (v := ?_) rfl (by kernel_rfl) (by kernel_rfl) (by kernel_rfl) (fun _ _ _ h => h) (Or.inl ⟨by rfl, ?_⟩) hHeld ?_
      rotate_left
      · intro W _; go_simp; try with_reducible rfl
      try simp only [Act.put, List.setIfInBounds_toArray, List.set_cons_zero, List.set_cons_succ]
      refine wpAnyH_take (i := 3) (oi := ⟨some 39, .nilCheck (.tmp 38), _, _, _, none⟩) (v := ?_) rfl (by kernel_rfl) (by kernel_rfl) (by kernel_rfl) (fun _ _ _ h => h) (Or.inl ⟨by rfl, ?_⟩) hHeld ?_
      rotate_left
      · intro W _; go_simp; try with_reducible rfl
      try simp only [Act.put, List.setIfInBounds_toArray, List.set_cons_zero, List.set_cons_succ]
      refine wpAnyH_take (i := 4) (oi := ⟨some 40, .fieldAddr 86 (.tmp 39) 4, _, _, _, none⟩) (v := ?_) rfl (by kernel_rfl) (by kernel_rfl) (by kernel_rfl) (fun _ _ _ h => h) (Or.inl ⟨by rfl, ?_⟩) hHeld ?_
      rotate_left
      · intro W _; go_simp; try with_reducible rfl
      try simp only [Act.put, List.setIfInBounds_toArray, List.set_cons_zero, List.set_cons_succ]
      refine wpAnyH_take (i := 5) (oi := ⟨some 41, .load 69 (.tmp 40), _, _, _, none⟩) (v := ?_) rfl (by kernel_rfl) (by kernel_rfl) (by kernel_rfl) (fun _ _ _ h => h) (Or.inl ⟨by rfl, ?_⟩) hHeld ?_
      rotate_left
      · intro W hS; have h0 := hS.left; go_simp; try with_reducible rfl
      try simp only [Act.put, List.setIfInBounds_toArray, List.set_cons_zero, List.set_cons_succ]
      refine wpAnyH_take (i := 6) (oi := ⟨some 42, .load 25 (.tmp 6), _, _, _, none⟩) (v := .agg (bs d).toArray) rfl (by kernel_rfl) (by kernel_rfl) (by kernel_rfl) (fun _ _ _ h => h) (yieldsIf_load_mid (by rfl) _ _ rfl w.heap.size 0 rfl (bs d) _ (fun W h => h.box.allR) Tryz.underlying25 rfl H5.out) hHeld ?_
      try simp only [Act.put, List.setIfInBounds_toArray, List.set_cons_zero, List.set_cons_succ]
      refine wpAnyH_take (i := 7) (oi := ⟨some 43, .move (.tmp 3), _, _, _, none⟩) (v := ?_) rfl (by kernel_rfl) (by kernel_rfl) (by kernel_rfl) (fun _ _ _ h => h) (Or.inl ⟨by rfl, ?_⟩) hHeld ?_
      rotate_left
      · intro W _; go_simp; try with_reducible rfl
      try simp only [Act.put, List.setIfInBounds_toArray, List.set_cons_zero, List.set_cons_succ]
      refine wpAnyH_take (i := 8) (oi := ⟨some 44, .binOp .add 3 (.tmp 43) (.const (.int .i64 1)) 3, _, _, _, none⟩) (v := ?_) rfl (by kernel_rfl) (by kernel_rfl) (by kernel_rfl) (fun _ _ _ h => h) (Or.inl ⟨by rfl, ?_⟩) hHeld ?_
      rotate_left
      · intro W _; go_simp; try with_reducible rfl
      try simp only [Act.put, List.setIfInBounds_toArray, List.set_cons_zero, List.set_cons_succ]
      refine wpAnyH_take (i := 10) (oi := ⟨some 46, .move (.tmp 1), _, _, _, none⟩) (v := ?_) rfl (by kernel_rfl) (by kernel_rfl) (by kernel_rfl) (fun _ _ _ h => h) (Or.inl ⟨by rfl, ?_⟩) hHeld ?_
      rotate_left
      · intro W _; go_simp; try with_reducible rfl
      try simp only [Act.put, List.setIfInBounds_toArray, List.set_cons_zero, List.set_cons_succ]
      refine wpAnyH_take (i := 11) (oi := ⟨some 47, .nilCheck (.tmp 46), _, _, _, none⟩) (v := ?_) rfl (by kernel_rfl) (by kernel_rfl) (by kernel_rfl) (fun _ _ _ h => h) (Or.inl ⟨by rfl, ?_⟩) hHeld ?_
      rotate_left
      · intro W _; go_simp; try with_reducible rfl
      try simp only [Act.put, List.setIfInBounds_toArray, List.set_cons_zero, List.set_cons_succ]
      refine wpAnyH_take (i := 12) (oi := ⟨some 48, .fieldAddr 86 (.tmp 47) 5, _, _, _, none⟩) (v := ?_) rfl (by kernel_rfl) (by kernel_rfl) (by kernel_rfl) (fun _ _ _ h => h) (Or.inl ⟨by rfl, ?_⟩) hHeld ?_
      rotate_left
      · intro W _; go_simp; try with_reducible rfl
      try simp only [Act.put, List.setIfInBounds_toArray, List.set_cons_zero, List.set_cons_succ]
      refine wpAnyH_take (i := 13) (oi := ⟨some 49, .load 69 (.tmp 48), _, _, _, none⟩) (v := ?_) rfl (by kernel_rfl) (by kernel_rfl) (by kernel_rfl) (fun _ _ _ h => h) (Or.inl ⟨by rfl, ?_⟩) hHeld ?_
      rotate_left
      · intro W hS; have h0 := hS.right; go_simp; try with_reducible rfl
      try simp only [Act.put, List.setIfInBounds_toArray, List.set_cons_zero, List.set_cons_succ]
      refine wpAnyH_ready (rs := [9]) (by kernel_rfl) (by simp) ?_
      refine AllReadyH.cons (o := ⟨some 45, .call { callee := .value (.func 43), args := #[.tmp 37, .tmp 41, .tmp 42, .tmp 44], argTypes := #[28, 69, 25, 3] }, _, _, _, none⟩) rfl (fun K hK => ?_) AllReadyH.nil
      refine step_ofR (by rfl) ?_
      go_simp
      refine (WA.out _ (below_drew hB5)).mono ?_
      rintro x W1 ⟨s1, G1, rfl, hG1, hI6, hM6, hB6⟩
      refine hK.out _ _ (hHeld.below hB6) (fun hHeld => ?_)
      clear hK K
      try simp only [Act.put, List.setIfInBounds_toArray, List.set_cons_zero, List.set_cons_succ]
      refine wpAnyH_ready (rs := [14]) (by kernel_rfl) (by simp) ?_
      refine AllReadyH.cons (o := ⟨some 50, .call { callee := .value (.func 71), args := #[.tmp 36, .tmp 45, .tmp 49], argTypes := #[28, 69, 69] }, _, _, _, none⟩) rfl (fun K hK => ?_) AllReadyH.nil
      refine step_ofR (by rfl) ?_
      go_simp
      refine (JO.out _ G1 s1 hM6.1 hG1 hI6 (Bt (below_drew hB5) hB6)).mono ?_
      rintro x W1 ⟨s3, G3, rfl, hG3, hI8, hM8, hB8⟩
      refine hK.out _ _ (hHeld.below hB8) (fun hHeld => ?_)
      clear hK K
      try simp only [Act.put, List.setIfInBounds_toArray, List.set_cons_zero, List.set_cons_succ]
      refine wpAnyH_ready (rs := [15]) (by kernel_rfl) (by simp) ?_
      refine AllReadyH.cons (o := ⟨some 8, .assign (.tmp 50), _, _, _, none⟩) rfl (fun K hK => ?_) AllReadyH.nil
      refine step_ofR (by rfl) ?_
      go_simp
      refine hK.out _ _ (hHeld) (fun hHeld => ?_)
      clear hK K
      try simp only [Act.put, List.setIfInBounds_toArray, List.set_cons_zero, List.set_cons_succ]
      refine wpAnyH_done (by kernel_rfl) ?_ _
      -- END wol
      go_wp2_with fail
      go_ret
      exact ⟨s3, G3, rfl, by rw [HC.out]; exact hG3, hI8, ((More.refl w.heap.size G).trans hM6 hB5.size).trans hM8 (Bt (below_drew hB5) hB6).size, Bt (Bt (below_drew hB5) hB6) hB8⟩

/-- what Drop's last region knows of a world -/
structure DrAt (w W : World) (tp pn pt : Nat) (d : List UInt8) : Prop where
  box : Blk W w.heap.size 25 (bs d)
  tree : Blk W tp 88 [.pointer (some ⟨pn, 0, none⟩), .pointer (some ⟨pt, 0, none⟩)]
theorem DrAt.below {w W W' : World} {tp pn pt : Nat} {d : List UInt8} (h : DrAt w W tp pn pt d) (hb : Below W.heap.size W W') : DrAt w W' tp pn pt d := ⟨h.box.below hb, h.tree.below hb⟩
theorem DrAt.drew {w W : World} {tp pn pt : Nat} {d : List UInt8} (h : DrAt w W tp pn pt d) : DrAt w W.drew tp pn pt d := h.below ⟨rfl, rfl, rfl, Nat.le_refl _, fun _ _ => rfl⟩
theorem drop_cut {t : T} (h : t.wf 0) {d : List UInt8} (hm : ∃ y ∈ t.lvs, y.path = d) : (T.cut t d 0).wf 0 ∧ ∀ y, y ∈ (T.cut t d 0).lvs ↔ y ∈ dropL t.lvs d := cut_whole h hm
theorem find_some {l : List Lf} {d : List UInt8} : (findL l d).isSome = true ↔ ∃ y ∈ l, y.path = d := by
  unfold findL
  simp [List.find?_isSome]
theorem drop_same {l : List Lf} {d : List UInt8} (h : (findL l d).isSome = false) : dropL l d = l := by
  unfold dropL
  rw [List.filter_eq_self]
  intro y hy
  cases e : (y.path == d)
  · rfl
  · have : (findL l d).isSome = true := find_some.2 ⟨y, hy, by simpa using e⟩
    rw [h] at this; cases this

set_option maxRecDepth 100000 in
set_option maxHeartbeats 2000000 in
theorem drop_any (base x : Nat) (G : Tag) (w : World) (tp pn pt : Nat) (t : T) (d : List UInt8) (hd : d.length = 32) (hb : base ≤ w.heap.size) (hI : Inv base x G noL w) (hTr : Tr base G w tp pn pt t) (hw : t.wf 0) (hsz : t.lvs.length ≤ 100000) :
    Calls Tryz.prog 17 #[.pointer (some ⟨tp, 0, none⟩), .agg (bs d).toArray] w fun e w' => e = .returned (.bool (findL t.lvs d).isSome) ∧ SetTo base x G w tp pn (dropL t.lvs d) w' := by
  have H5 := Lib.hid (show (Tryz.prog.info? 25).map (·.size) = some (bs d).length by rw [info_digest, bs_length, hd])
  have hB0 : Below w.heap.size w (w.alloc (.cells (bs d).toArray 25)) := (Below.refl _ w).alloc (Nat.le_refl _) _
  have hb0 := Blk.new w 25 (bs d)
  have hrg := hb0.allR
  have GE := get_any base x G (w.alloc (.cells (bs d).toArray 25)) tp pn pt t d hd (hI.below hB0) (hTr.later (fun _ _ h => h) hB0) hw
  have hvl : (valOf (findL t.lvs d)).length = 32 := by
    cases e : findL t.lvs d with
    | none => exact zero32_length
    | some y => exact (T.wf_oks t 0 hw y (List.mem_of_find?_eq_some e)).2
  generalize valOf (findL t.lvs d) = v at *
  have H8 := Lib.hid (show (Tryz.prog.info? 25).map (·.size) = some (bs v).length by rw [info_digest, bs_length, hvl])
  have H9 := Lib.hid (show (bs zero32).length = (bs v).length by rw [bs_length, bs_length, zero32_length, hvl])
  have H10 := bs_one v
  cases hf : (findL t.lvs d).isSome with
  | false =>
    rw [hf] at GE
    have HD := Lib.hid (drop_same hf)
    clear hf
    go_enter Tryz.func17, Tryz.ntmps17
    go_wp2_with ((with_reducible refine wpList_loadG (o := ⟨some 9, _, _, _, _, _⟩) ?_ w.heap.size 0 25 (.tmp 3) ?_ ?_ hrg Tryz.underlying25 ?_ H5.out ?_); rfl; rfl; rfl; rfl)
    refine GE.mono ?_
    rintro e w1 ⟨rfl, hB1⟩
    have hB01 := Bt hB0 hB1
    go_wp2_with (first | ((with_reducible refine wpList_allocB (o := ⟨some 5, _, _, _, _, _⟩) ?_ 25 ?_ zeroD_info ?_); rfl; rfl; intro w4 hr4 hg4 hz4) | ((with_reducible refine wpList_storeB (o := ⟨none, .store 25 (.tmp 5) (.tmp 11), _, _, _, _⟩) ?_ 25 (.tmp 5) (.tmp 11) ?_ ?_ ?_ hr4 H8.out H9.out H10 ?_); rfl; rfl; rfl; rfl; intro w5 hr5 hg5 hz5))
    go_ret
    have hsz1 := hB01.size
    have hB5 : Below w.heap.size w w5 := ((hB01.grown hg4 hsz1 (fun k e => by cases e)).grown hg5 (by omega) (fun k e => by cases e; omega))
    exact ⟨rfl, by rw [HD.out]; exact ⟨⟨G, pt, t, hTr.later (fun _ _ h => h) hB5, hI.below hB5, More.refl _ _, hw, fun _ => Iff.rfl⟩, grown_of hB5 _⟩⟩
  | true =>
    rw [hf] at GE
    have hm := find_some.1 hf
    obtain ⟨q1, q2⟩ := drop_cut hw hm
    have WA := Lib.hid (fun (W : World) (h : Below w.heap.size w W) =>
      without_any base x d hd tp pn t G W pt 0 0 rfl (Nat.le_trans hb h.size) (hI.below h) (cell_later h hTr.c0) hTr.no hTr.top hw (fun _ _ _ _ i hi => by omega) hm hsz)
    generalize T.cut t d 0 = t' at *
    clear hf hm
    go_enter Tryz.func17, Tryz.ntmps17
    go_wp2_with ((with_reducible refine wpList_loadG (o := ⟨some 9, _, _, _, _, _⟩) ?_ w.heap.size 0 25 (.tmp 3) ?_ ?_ hrg Tryz.underlying25 ?_ H5.out ?_); rfl; rfl; rfl; rfl)
    refine GE.mono ?_
    rintro e w1 ⟨rfl, hB1⟩
    have hB01 := Bt hB0 hB1
    go_wp2_with (first | ((with_reducible refine wpList_allocB (o := ⟨some 5, _, _, _, _, _⟩) ?_ 25 ?_ zeroD_info ?_); rfl; rfl; intro w4 hr4 hg4 hz4) | ((with_reducible refine wpList_storeB (o := ⟨none, .store 25 (.tmp 5) (.tmp 11), _, _, _, _⟩) ?_ 25 (.tmp 5) (.tmp 11) ?_ ?_ ?_ hr4 H8.out H9.out H10 ?_); rfl; rfl; rfl; rfl; intro w5 hr5 hg5 hz5))
    have hsz1 := hB01.size
    have hB5 : Below w.heap.size w w5 := ((hB01.grown hg4 hsz1 (fun k e => by cases e)).grown hg5 (by omega) (fun k e => by cases e; omega))
    have hlt := hb0.lt
    have hS : DrAt w w5 tp pn pt d := ⟨((hb0.below hB1).grown hg4 (by simp)).grown hg5 (by have := hB1.size; simp at this ⊢; omega), hTr.blk.below hB5⟩
    clear hrg hb0
    have hne : w.heap.size ≠ tp := by have := hTr.blk.lt; omega
    -- REGION drop 4
    refine wp_region_held_drew (S := fun W => Blk W w.heap.size 25 (bs d)) (by kernel_rfl) hS.box.drew (fun hHeld => ?_)
    have hc1 := hS.drew.tree.cell (j := 1) rfl
    refine wpAnyH_take (i := 0) (oi := ⟨some 14, .move (.tmp 0), _, _, _, none⟩) (v := ?_) rfl (by kernel_rfl) (by kernel_rfl) (by kernel_rfl) (fun _ _ _ h => h) (Or.inl ⟨by rfl, ?_⟩) hHeld ?_
    rotate_left
    · intro W _; go_simp; try with_reducible rfl
    try simp only [Act.put, List.setIfInBounds_toArray, List.set_cons_zero, List.set_cons_succ]
    refine wpAnyH_take (i := 1) (oi := ⟨some 15, .move (.tmp 0), _, _, _, none⟩) (v := ?_) rfl (by kernel_rfl) (by kernel_rfl) (by kernel_rfl) (fun _ _ _ h => h) (Or.inl ⟨by rfl, ?_⟩) hHeld ?_
    rotate_left
    · intro W _; go_simp; try with_reducible rfl
    try simp only [Act.put, List.setIfInBounds_toArray, List.set_cons_zero, List.set_cons_succ]
    refine wpAnyH_take (i := 2) (oi := ⟨some 16, .move (.tmp 0), _, _, _, none⟩) (v := ?_) rfl (by kernel_rfl) (by kernel_rfl) (by kernel_rfl) (fun _ _ _ h => h) (Or.inl ⟨by rfl, ?_⟩) hHeld ?_
    rotate_left
    · intro W _; go_simp; try with_reducible rfl
    try simp only [Act.put, List.setIfInBounds_toArray, List.set_cons_zero, List.set_cons_succ]
    refine wpAnyH_take (i := 3) (oi := ⟨some 17, .nilCheck (.tmp 16), _, _, _, none⟩) (v := ?_) rfl (by kernel_rfl) (by kernel_rfl) (by kernel_rfl) (fun _ _ _ h => h) (Or.inl ⟨by rfl, ?_⟩) hHeld ?_
    rotate_left
    · intro W _; go_simp; try with_reducible rfl
    try simp only [Act.put, List.setIfInBounds_toArray, List.set_cons_zero, List.set_cons_succ]
    refine wpAnyH_take (i := 4) (oi := ⟨some 18, .fieldAddr 88 (.tmp 17) 1, _, _, _, none⟩) (v := ?_) rfl (by kernel_rfl) (by kernel_rfl) (by kernel_rfl) (fun _ _ _ h => h) (Or.inl ⟨by rfl, ?_⟩) hHeld ?_
    rotate_left
    · intro W _; go_simp; try with_reducible rfl
    try simp only [Act.put, List.setIfInBounds_toArray, List.set_cons_zero, List.set_cons_succ]
    refine wpAnyH_take (i := 6) (oi := ⟨some 20, .load 25 (.tmp 3), _, _, _, none⟩) (v := .agg (bs d).toArray) rfl (by kernel_rfl) (by kernel_rfl) (by kernel_rfl) (fun _ _ _ h => h) (yieldsIf_load_mid (by rfl) _ _ rfl w.heap.size 0 rfl (bs d) _ (fun W h => h.allR) Tryz.underlying25 rfl H5.out) hHeld ?_
    try simp only [Act.put, List.setIfInBounds_toArray, List.set_cons_zero, List.set_cons_succ]
    refine wpAnyH_ready (rs := [5]) (by kernel_rfl) (by simp) ?_
    refine AllReadyH.cons (o := ⟨some 19, .load 69 (.tmp 18), _, _, _, none⟩) rfl (fun K hK => ?_) AllReadyH.nil
    refine step_ofR (by rfl) ?_
    go_simp
    refine hK.out _ _ (hHeld) (fun hHeld => ?_)
    clear hK K
    try simp only [Act.put, List.setIfInBounds_toArray, List.set_cons_zero, List.set_cons_succ]
    refine wpAnyH_ready (rs := [7]) (by kernel_rfl) (by simp) ?_
    refine AllReadyH.cons (o := ⟨some 21, .call { callee := .value (.func 43), args := #[.tmp 15, .tmp 19, .tmp 20, .const (.int .i64 0)], argTypes := #[28, 69, 25, 3] }, _, _, _, none⟩) rfl (fun K hK => ?_) AllReadyH.nil
    refine step_ofR (by rfl) ?_
    go_simp
    refine (WA.out _ (below_drew hB5)).mono ?_
    rintro x W1 ⟨s2, G2, rfl, hG2, hI6, hM6, hB6⟩
    refine hK.out _ _ (hHeld.below hB6) (fun hHeld => ?_)
    clear hK K
    try simp only [Act.put, List.setIfInBounds_toArray, List.set_cons_zero, List.set_cons_succ]
    refine wpAnyH_take (i := 8) (oi := ⟨some 22, .nilCheck (.tmp 14), _, _, _, none⟩) (v := ?_) rfl (by kernel_rfl) (by kernel_rfl) (by kernel_rfl) (fun _ _ _ h => h) (Or.inl ⟨by rfl, ?_⟩) hHeld ?_
    rotate_left
    · intro W _; go_simp; try with_reducible rfl
    try simp only [Act.put, List.setIfInBounds_toArray, List.set_cons_zero, List.set_cons_succ]
    refine wpAnyH_take (i := 9) (oi := ⟨some 23, .fieldAddr 88 (.tmp 22) 1, _, _, _, none⟩) (v := ?_) rfl (by kernel_rfl) (by kernel_rfl) (by kernel_rfl) (fun _ _ _ h => h) (Or.inl ⟨by rfl, ?_⟩) hHeld ?_
    rotate_left
    · intro W _; go_simp; try with_reducible rfl
    try simp only [Act.put, List.setIfInBounds_toArray, List.set_cons_zero, List.set_cons_succ]
    have kt6 := hS.drew.tree.below hB6
    have hc6 := kt6.cell (j := 1) rfl
    have hf6 := kt6.free 1
    refine wpAnyH_ready (rs := [10]) (by kernel_rfl) (by simp) ?_
    refine AllReadyH.cons (o := ⟨none, .store 69 (.tmp 23) (.tmp 21), _, _, _, none⟩) rfl (fun K hK => ?_) AllReadyH.nil
    refine step_ofR (by rfl) ?_
    go_simp
    refine hK.out _ _ (hHeld.setOther _ _ hne) (fun hHeld => ?_)
    clear hK K
    try simp only [Act.put, List.setIfInBounds_toArray, List.set_cons_zero, List.set_cons_succ]
    refine wpAnyH_done (by kernel_rfl) ?_ _
    -- END drop
    go_wp2_with fail
    go_ret
    have hB6' := Bt (below_drew hB5) hB6
    have hg7 := set_grown W1 tp 1 (.pointer (some ⟨s2, 0, none⟩))
    exact ⟨rfl, ⟨G2, s2, t', ⟨kt6.set 1 _, hTr.low, hM6.1 _ _ hTr.no, hG2⟩, hI6.grown hg7 (kt6.not (by decide)) (kt6.not (by decide)), (More.refl w.heap.size G).trans hM6 hB5.size, q1, q2⟩, grown2 (grown_of hB6' _) hg7 (fun k e => .inr e)⟩
end
end
/-! A tree as the set of its leaves: what the calls make of it. -/
section
open Go.RowKit

theorem perm_of_mem {l m : List Lf} (hl : unlike l) (hm : unlike m) (h : ∀ y, y ∈ l ↔ y ∈ m) : l.Perm m :=
  (List.perm_ext_iff_of_nodup (unlike_nodup hl) (unlike_nodup hm)).2 h
theorem setF_perm {l m k : List Lf} (h : ∀ y, y ∈ l ↔ y ∈ m) (hl : unlike l) (hm : unlike m) (hk : unlike k) : (setF l k).Perm (setF m k) :=
  perm_of_mem (setF_unlike k l hl) (setF_unlike k m hm) fun y => by rw [setF_mem k l hk, setF_mem k m hk, h]
theorem set_same {l m k : List Lf} (h : ∀ y, y ∈ l ↔ y ∈ m) (hl : unlike l) (hm : unlike m) : setE l k = setE m k ∧ ∀ y, y ∈ setI l k ↔ y ∈ setI m k := by
  unfold setE setI
  by_cases h1 : 4096 < k.length
  · simp only [if_pos h1]; exact ⟨trivial, h⟩
  · simp only [if_neg h1]
    cases ht : twiceB k
    · have hp := setF_perm h hl hm ((twiceB_iff k).1 ht)
      rw [hp.length_eq]
      simp only [Bool.false_eq_true, if_false]
      by_cases h2 : 4096 < (setF m k).length
      · simp only [if_pos h2]; exact ⟨trivial, h⟩
      · simp only [if_neg h2]; exact ⟨trivial, fun y => hp.mem_iff⟩
    · exact ⟨rfl, h⟩
theorem setI_unlike {l k : List Lf} (hl : unlike l) : unlike (setI l k) := by
  unfold setI
  split
  · exact hl
  · split
    · exact hl
    · split
      · exact hl
      · exact setF_unlike k l hl
theorem setI_len {l k : List Lf} (hl : l.length ≤ 4096) : (setI l k).length ≤ 4096 := by
  unfold setI
  split
  · exact hl
  · split
    · exact hl
    · split
      · exact hl
      · omega
theorem find_same {l m : List Lf} (h : ∀ y, y ∈ l ↔ y ∈ m) (hl : unlike l) (hm : unlike m) (d : List UInt8) : findL l d = findL m d := by
  cases e : findL m d with
  | none =>
    refine find_not fun x hx e2 => ?_
    have := find_mem hm ((h x).1 hx)
    rw [e2, e] at this; cases this
  | some y =>
    have h1 := List.mem_of_find?_eq_some e
    have h2 : y.path = d := by have := List.find?_some e; simpa using this
    rw [← h2]
    exact find_mem hl ((h y).2 h1)

/-- a tree of width x whose leaves are L -/
structure Sm (w0 : World) (x tp : Nat) (L : List Lf) (W : World) : Prop where
  out : ∃ G pn pt t, Inv w0.heap.size x G noL W ∧ Tr w0.heap.size G W tp pn pt t ∧ t.wf 0 ∧ ∀ y, y ∈ t.lvs ↔ y ∈ L
  bel : Below w0.heap.size w0 W
  unl : unlike L
  few : L.length ≤ 4096
section
variable {w0 W W' : World} {x tp : Nat} {L : List Lf}
theorem Sm.below (h : Sm w0 x tp L W) (hb : Below W.heap.size W W') : Sm w0 x tp L W' := by
  obtain ⟨⟨G, pn, pt, t, h1, h2, h3, h4⟩, h5, h6, h7⟩ := h
  exact ⟨⟨G, pn, pt, t, h1.below hb, h2.later (fun _ _ h => h) hb, h3, h4⟩, Bt h5 hb, h6, h7⟩
theorem Sm.low (h : Sm w0 x tp L W) : w0.heap.size ≤ tp ∧ tp < W.heap.size := by
  obtain ⟨⟨G, pn, pt, t, h1, h2, h3, h4⟩, h5, h6, h7⟩ := h
  exact ⟨h2.low, h2.blk.lt⟩
/-- a variable of a kind that no tree has, behind it -/
theorem Sm.put (h : Sm w0 x tp L W) {g : Nat} {ty : TypeId} {vs : List Value} (hg : W.grownBy W' (some g)) (hk : Blk W g ty vs) (h1 : ty ≠ 86) (h2 : ty ≠ 50) (h3 : ty ≠ 88) (h0 : w0.heap.size ≤ g) : Sm w0 x tp L W' := by
  obtain ⟨⟨G, pn, pt, t, q1, q2, q3, q4⟩, h5, h6, h7⟩ := h
  have hne : g ≠ tp := fun e => by subst e; exact h3 (hk.kind q2.blk).1
  exact ⟨⟨G, pn, pt, t, q1.grown hg (hk.not h1) (hk.not h2), ⟨q2.blk.grown hg (by simpa using hne), q2.low, q2.no, q2.top⟩, q3, q4⟩, h5.grown hg h5.size (fun k e => by cases e; exact h0), h6, h7⟩

theorem sm_new (w0 W : World) (x : Nat) (hx : x ≤ 32) (hb : Below w0.heap.size w0 W) :
    Calls Tryz.prog 9 #[.int .i64 (x : Int)] W fun e w' => ∃ tp, e = .returned (.tuple #[.pointer (some ⟨tp, 0, none⟩), .int .i64 0]) ∧ Sm w0 x tp [] w' ∧ Below W.heap.size W w' := by
  refine (snew_any W x hx w0.heap.size hb.size (fun _ => none) (Inv.start _ x noL W)).mono ?_
  rintro e w' ⟨tp, pn, G, rfl, h1, h2, -, -, h5⟩
  exact ⟨tp, rfl, ⟨⟨G, pn, pn, .none, h2, h1, trivial, fun y => by simp [T.lvs]⟩, Bt hb h5, List.Pairwise.nil, by simp⟩, h5⟩
theorem sm_set (h : Sm w0 x tp L W) (a : Option Addr) (n c : Nat) (l : List Lf) (hr : RdL W a n c l) (hs : n ≤ 4096 → SortsAt n) :
    Calls Tryz.prog 14 #[.pointer (some ⟨tp, 0, none⟩), .slice a n c] W fun e w' => e = .returned (.int .i64 (setE L l)) ∧ Sm w0 x tp (setI L l) w' ∧ W.grownBy w' (some tp) := by
  obtain ⟨⟨G, pn, pt, t, q1, q2, q3, q4⟩, h5, h6, h7⟩ := h
  have hp := whole_perm q3 h6 q4
  obtain ⟨e1, e2⟩ := set_same (k := l) q4 (T.wf_unlike t 0 q3) h6
  refine (set_any w0.heap.size x G W tp pn pt t a n c l h5.size q1 q2 q3 (by rw [hp.length_eq]; exact h7) hr hs).mono ?_
  rintro e w' ⟨rfl, ⟨G', pt', t', r1, r2, r3, r4, r5⟩, hg⟩
  exact ⟨by rw [e1], ⟨⟨G', pn, pt', t', r2, r1, r4, fun y => (r5 y).trans (e2 y)⟩, h5.grown hg h5.size (fun k e => by cases e; exact q2.low), setI_unlike h6, setI_len h7⟩, hg⟩
theorem sm_drop (h : Sm w0 x tp L W) (d : List UInt8) (hd : d.length = 32) :
    Calls Tryz.prog 17 #[.pointer (some ⟨tp, 0, none⟩), .agg (bs d).toArray] W fun e w' => e = .returned (.bool (findL L d).isSome) ∧ Sm w0 x tp (dropL L d) w' ∧ W.grownBy w' (some tp) := by
  obtain ⟨⟨G, pn, pt, t, q1, q2, q3, q4⟩, h5, h6, h7⟩ := h
  have hp := whole_perm q3 h6 q4
  have hf := find_same q4 (T.wf_unlike t 0 q3) h6 d
  refine (drop_any w0.heap.size x G W tp pn pt t d hd h5.size q1 q2 q3 (by rw [hp.length_eq]; omega)).mono ?_
  rintro e w' ⟨rfl, ⟨G', pt', t', r1, r2, r3, r4, r5⟩, hg⟩
  refine ⟨by rw [hf], ⟨⟨G', pn, pt', t', r2, r1, r4, fun y => (r5 y).trans ?_⟩, h5.grown hg h5.size (fun k e => by cases e; exact q2.low), drop_unlike h6 d, Nat.le_trans (List.length_filter_le _ _) h7⟩, hg⟩
  unfold dropL
  rw [List.mem_filter, List.mem_filter, q4]
theorem sm_get (h : Sm w0 x tp L W) (d : List UInt8) (hd : d.length = 32) :
    Calls Tryz.prog 18 #[.pointer (some ⟨tp, 0, none⟩), .agg (bs d).toArray] W fun e w' => e = .returned (.tuple #[.agg (bs (valOf (findL L d))).toArray, .bool (findL L d).isSome]) ∧ Below W.heap.size W w' := by
  obtain ⟨⟨G, pn, pt, t, q1, q2, q3, q4⟩, h5, h6, h7⟩ := h
  have hf := find_same q4 (T.wf_unlike t 0 q3) h6 d
  refine (get_any w0.heap.size x G W tp pn pt t d hd q1 q2 q3).mono ?_
  rintro e w' ⟨rfl, hb⟩
  exact ⟨by rw [hf], hb⟩
theorem sm_len (h : Sm w0 x tp L W) : Calls Tryz.prog 21 #[.pointer (some ⟨tp, 0, none⟩)] W fun e w' => e = .returned (.int .i64 (L.length : Int)) ∧ w' = W := by
  obtain ⟨⟨G, pn, pt, t, q1, q2, q3, q4⟩, h5, h6, h7⟩ := h
  rw [← (whole_perm q3 h6 q4).length_eq]
  exact tlen_any w0.heap.size x G W tp pn pt t q1 q2
theorem sm_root (h : Sm w0 x tp L W) (hx : x ≤ 32) (hT : Tab w0 1) :
    Calls Tryz.prog 23 #[.pointer (some ⟨tp, 0, none⟩)] W fun e w' => e = .returned (.agg (bs (rootL x L)).toArray) ∧ Sm w0 x tp L w' ∧ Below w0.heap.size W w' := by
  obtain ⟨⟨G, pn, pt, t, q1, q2, q3, q4⟩, h5, h6, h7⟩ := h
  have hG : G 1 = none := by
    cases e : G 1 with
    | none => rfl
    | some u => have := q1.low _ _ e; have := hT.lt; omega
  have hp := whole_perm q3 h6 q4
  refine (troot_any w0.heap.size x hx G W tp pn pt t q1 q2 q3 hG (hT.below h5)).mono ?_
  rintro e w' ⟨rfl, r1, r2⟩
  have hB := r2.below q1.low h5.size
  have hGt : G tp = none := q1.tree q2.blk (by decide)
  exact ⟨by rw [T.root_eq x q3, rootL_perm x hp], ⟨⟨G, pn, pt, t, r1, ⟨Blk.fr r2 hGt q2.blk, q2.low, q2.no, q2.top⟩, q3, q4⟩, h5.trans hB, h6, h7⟩, hB⟩
theorem Sm.ok (h : Sm w0 x tp L W) : oks L := by
  obtain ⟨⟨G, pn, pt, t, q1, q2, q3, q4⟩, h5, h6, h7⟩ := h
  exact fun y hy => T.wf_oks t 0 q3 y ((q4 y).2 hy)
theorem Sm.val (h : Sm w0 x tp L W) (d : List UInt8) : (valOf (findL L d)).length = 32 := by
  cases e : findL L d with
  | none => exact zero32_length
  | some y => exact (h.ok y (List.mem_of_find?_eq_some e)).2
/-- whatever has another kind stands beside the tree -/
theorem Sm.ne (h : Sm w0 x tp L W) {k : Nat} {ty : TypeId} {vs : List Value} (hb : Blk W k ty vs) (ht : ty ≠ 88) : tp ≠ k := by
  obtain ⟨⟨G, pn, pt, t, q1, q2, q3, q4⟩, h5, h6, h7⟩ := h
  intro e
  subst e
  exact ht (hb.kind q2.blk).1
/-- what isn't a node stays as it is -/
def Keeps (W W' : World) : Prop := ∀ k ty vs, Blk W k ty vs → ty ≠ 86 → Blk W' k ty vs
theorem sm_root2 (h : Sm w0 x tp L W) (hx : x ≤ 32) (hT : Tab w0 1) :
    Calls Tryz.prog 23 #[.pointer (some ⟨tp, 0, none⟩)] W fun e w' => e = .returned (.agg (bs (rootL x L)).toArray) ∧ Sm w0 x tp L w' ∧ Below w0.heap.size W w' ∧ Keeps W w' := by
  obtain ⟨⟨G, pn, pt, t, q1, q2, q3, q4⟩, h5, h6, h7⟩ := h
  have hG : G 1 = none := by
    cases e : G 1 with
    | none => rfl
    | some u => have := q1.low _ _ e; have := hT.lt; omega
  have hp := whole_perm q3 h6 q4
  refine (troot_any w0.heap.size x hx G W tp pn pt t q1 q2 q3 hG (hT.below h5)).mono ?_
  rintro e w' ⟨rfl, r1, r2⟩
  have hB := r2.below q1.low h5.size
  have hGt : G tp = none := q1.tree q2.blk (by decide)
  exact ⟨by rw [T.root_eq x q3, rootL_perm x hp], ⟨⟨G, pn, pt, t, r1, ⟨Blk.fr r2 hGt q2.blk, q2.low, q2.no, q2.top⟩, q3, q4⟩, h5.trans hB, h6, h7⟩, hB, fun k ty vs hb ht => Blk.fr r2 (q1.tree hb ht) hb⟩
end
end
end
/-! Law05N Law05D, in one text. -/
section
/-! A tree that leaves came into and went from; no tree: SmtNil. -/
section
open Go.RowKit

theorem run_field0 (W : World) {y : Lf} (hy : y.ok) : (Instr.field 50 (.agg (lc y).toArray) 0).run Tryz.prog W = .ok (.agg (bs y.path).toArray) W := by
  have hf := leaf_fields
  have hu := leaf_under
  generalize Tryz.prog.fieldsOf 50 = F at *
  obtain ⟨f, g, hF⟩ : ∃ f g, F.toList = [f, g] := by
    match h : F.toList with
    | [f, g] => exact ⟨f, g, rfl⟩
    | [] => rw [h] at hf; simp at hf
    | [_] => rw [h] at hf; simp at hf
    | _ :: _ :: _ :: _ => rw [h] at hf; simp at hf
  rw [hF] at hf
  simp only [List.map_cons, List.map_nil, List.cons.injEq, Prod.mk.injEq, and_true] at hf
  obtain ⟨⟨f1, f2, f3⟩, -⟩ := hf
  have h0 : F[0]? = some f := by rw [← Array.getElem?_toList, hF]; rfl
  unfold Instr.field
  rw [Sem.run_bind, run_underlying hu W]
  simp only [Result.andThen_ok, h0, Sem.run_bind, asAgg, Sem.run_pure, f2, f3, part_digest, lc_path hy]
theorem neq_ab : (lfA.path == lfB.path) = false := by decide
theorem setF_ab : setF [] [lfA, lfB] = [lfA, lfB] := by
  have h := neq_ab
  simp [setF, dropL, h]
theorem set_ba : setE [] [lfA, lfB] = 0 ∧ setI [] [lfA, lfB] = [lfA, lfB] := by
  obtain ⟨h1, h2⟩ := set_nil [lfA, lfB]
  have ht : twiceB [lfA, lfB] = false := by decide
  rw [h1, h2, ht, setF_ab]
  exact ⟨rfl, rfl⟩
theorem drop_b : (findL [lfA, lfB] lfB.path).isSome = true ∧ dropL [lfA, lfB] lfB.path = [lfA] := by
  have h := neq_ab
  simp [findL, dropL, h]
theorem find_b : findL [lfA] lfB.path = none := by
  have h := neq_ab
  simp [findL, h]
theorem rootA : rootL 32 [lfA] = shortI 32 ([0] ++ lfA.path ++ lfA.val) := by
  simp [rootL, digestF, leafD, shortI]

/-- a composite literal whose cells are known, under a guard -/
theorem wpList_buildW {w : World} {ops : Array Oper} {rest : List Oper} {o : Oper} {a : Act} {Q : Exit → Act → World → Prop} (hw : Region.wanted o (yielded ops a.tmps) = true) (T : TypeId) (parts : Array (Nat × Operand)) (ho : o.op = .build T parts)
    {vs : List Value} {ps : List (Nat × Value)} (hp : parts.toList.map (fun p => (p.1, a.eval p.2)) = ps) (hb : Tryz.prog.built T ps = some vs.toArray)
    (h : wpList Tryz.prog ops Q rest (a.put o.dst (.agg vs.toArray)) w) : wpList Tryz.prog ops Q (o :: rest) a w := by
  have hb : Tryz.prog.built T (parts.map fun (i, x) => (i, a.eval x)).toList = some vs.toArray := by rw [Array.toList_map]; rw [← hb, ← hp]
  refine wpList_step fun K hK => ?_
  rw [if_pos hw]
  refine wp_build T parts ho (by rw [hb]; rfl) ?_
  rw [hb]
  exact hK _ _ h

/-! ### no tree -/
section
set_option maxRecDepth 100000
theorem get_no (w : World) (d : List UInt8) :
    Calls Tryz.prog 18 #[.pointer none, .agg (bs d).toArray] w fun e w' => e = .returned (.tuple #[.agg (bs zero32).toArray, .bool false]) ∧ Below w.heap.size w w' := by
  have H6 := Lib.hid (show (Tryz.prog.info? 25).map (·.size) = some (bs zero32).length by rw [info_digest, bs_length, zero32_length])
  have H7 := bs_one zero32
  have HBT := Lib.hid built0
  have hB0 : Below w.heap.size w (w.alloc (.cells (bs d).toArray 25)) := (Below.refl _ w).alloc (Nat.le_refl _) _
  have hz0 : (w.alloc (.cells (bs d).toArray 25)).heap.size = w.heap.size + 1 := by simp
  go_enter Tryz.func18, Tryz.ntmps18
  go_wp2_with (first | ((with_reducible refine wpList_allocB (o := ⟨some 4, _, _, _, _, _⟩) ?_ 25 ?_ zeroD_info ?_); rfl; rfl; intro w1 hr1 hg1 hz1; rw [hz0] at hr1) | ((with_reducible refine wpList_buildI (dst := some 10) HBT.out ?_ ?_); rfl) | ((with_reducible refine wpList_storeB (o := ⟨none, .store 25 (.tmp 4) (.tmp 10), _, _, _, _⟩) ?_ 25 (.tmp 4) (.tmp 10) ?_ ?_ ?_ hr1 H6.out rfl H7 ?_); rfl; rfl; rfl; rfl; intro w8 hb8 hg8 hz8))
  try simp only [Exit.inBlock, Exit.then]
  refine bodyPost_ret (results_digest2 rfl _ _ _ _ _ zero32_length rfl hb8.at_) rfl ⟨rfl, ?_⟩
  exact below_of_grown' (hB0.grown hg1 hB0.size (fun k e => by cases e)) hg8 (by omega)
theorem set_no (w : World) (a : Option Addr) (n c : Nat) :
    Calls Tryz.prog 14 #[.pointer none, .slice a n c] w fun e w' => e = .returned (.int .i64 3) ∧ Below w.heap.size w w' := by
  go_enter Tryz.func14, Tryz.ntmps14
  go_wp2_with fail
  go_ret
  exact ⟨rfl, Below.refl _ _⟩
theorem len_no (w : World) : Calls Tryz.prog 21 #[.pointer none] w fun e w' => e = .returned (.int .i64 0) ∧ Below w.heap.size w w' := by
  go_enter Tryz.func21, Tryz.ntmps21
  go_wp2_with fail
  go_ret
  exact ⟨rfl, Below.refl _ _⟩
theorem leaves_no (w : World) : Calls Tryz.prog 20 #[.pointer none] w fun e w' => e = .returned (.slice none 0 0) ∧ Below w.heap.size w w' := by
  go_enter Tryz.func20, Tryz.ntmps20
  go_wp2_with fail
  go_ret
  exact ⟨rfl, Below.refl _ _⟩
theorem root_no (w : World) : Calls Tryz.prog 23 #[.pointer none] w fun e w' => e = .returned (.agg (bs zero32).toArray) ∧ Below w.heap.size w w' := by
  have H6 := Lib.hid (show (Tryz.prog.info? 25).map (·.size) = some (bs zero32).length by rw [info_digest, bs_length, zero32_length])
  have H7 := bs_one zero32
  have HBT := Lib.hid built0
  go_enter Tryz.func23, Tryz.ntmps23
  go_wp2_with (first | ((with_reducible refine wpList_allocB (o := ⟨some 2, _, _, _, _, _⟩) ?_ 25 ?_ zeroD_info ?_); rfl; rfl; intro w1 hr1 hg1 hz1) | ((with_reducible refine wpList_buildI (dst := some 5) HBT.out ?_ ?_); rfl) | ((with_reducible refine wpList_storeB (o := ⟨none, .store 25 (.tmp 2) (.tmp 5), _, _, _, _⟩) ?_ 25 (.tmp 2) (.tmp 5) ?_ ?_ ?_ hr1 H6.out rfl H7 ?_); rfl; rfl; rfl; rfl; intro w8 hb8 hg8 hz8))
  try simp only [Exit.inBlock, Exit.then]
  refine bodyPost_blk hb8 Tryz.underlying25 H6.out rfl rfl rfl rfl ⟨rfl, ?_⟩
  exact ((Below.refl _ w).grown hg1 (Nat.le_refl _) (fun k e => by cases e)).grown hg8 (by omega) (fun k e => by cases e; exact Nat.le_refl _)
theorem drop_no (w : World) (d : List UInt8) (hd : d.length = 32) :
    Calls Tryz.prog 17 #[.pointer none, .agg (bs d).toArray] w fun e w' => e = .returned (.bool false) ∧ Below w.heap.size w w' := by
  have H5 := Lib.hid (show (Tryz.prog.info? 25).map (·.size) = some (bs d).length by rw [info_digest, bs_length, hd])
  have H6 := Lib.hid (show (Tryz.prog.info? 25).map (·.size) = some (bs zero32).length by rw [info_digest, bs_length, zero32_length])
  have H7 := bs_one zero32
  have hB0 : Below w.heap.size w (w.alloc (.cells (bs d).toArray 25)) := (Below.refl _ w).alloc (Nat.le_refl _) _
  have hrg := (Blk.new w 25 (bs d)).allR
  have GE := get_no (w.alloc (.cells (bs d).toArray 25)) d
  go_enter Tryz.func17, Tryz.ntmps17
  go_wp2_with ((with_reducible refine wpList_loadG (o := ⟨some 9, _, _, _, _, _⟩) ?_ w.heap.size 0 25 (.tmp 3) ?_ ?_ hrg Tryz.underlying25 ?_ H5.out ?_); rfl; rfl; rfl; rfl)
  refine GE.mono ?_
  rintro e w1 ⟨rfl, hB1⟩
  have hB01 := Bt hB0 hB1
  go_wp2_with (first | ((with_reducible refine wpList_allocB (o := ⟨some 5, _, _, _, _, _⟩) ?_ 25 ?_ zeroD_info ?_); rfl; rfl; intro w4 hr4 hg4 hz4) | ((with_reducible refine wpList_storeB (o := ⟨none, .store 25 (.tmp 5) (.tmp 11), _, _, _, _⟩) ?_ 25 (.tmp 5) (.tmp 11) ?_ ?_ ?_ hr4 H6.out rfl H7 ?_); rfl; rfl; rfl; rfl; intro w5 hr5 hg5 hz5))
  go_ret
  have hsz1 := hB01.size
  exact ⟨rfl, (hB01.grown hg4 hsz1 (fun k e => by cases e)).grown hg5 (by omega) (fun k e => by cases e; omega)⟩
end

set_option maxRecDepth 100000 in
set_option maxHeartbeats 2000000 in
theorem grows_any (w : World) (hT : Tab w 1) :
    Calls Tryz.prog 10 #[] w fun e w' => e = .returned (.bool true) ∧ Below w.heap.size w w' := by
  have CA := Lib.hid (fun W : World => a_any W)
  have CB := Lib.hid (fun W : World => b_any W)
  have LA := Lib.hid (fun (W : World) (hb : Below w.heap.size w W) => sleaf_any W 32 lfA lfA_ok (hT.below hb))
  have kAB : oks [lfA, lfB] := fun x hx => by simp at hx; rcases hx with rfl | rfl <;> first | exact lfB_ok | exact lfA_ok
  have M2 : ∀ W : World, RdL (W.alloc (.cells (lcs [lfA, lfB]).toArray 50)) (some ⟨W.heap.size, 0, none⟩) 2 2 [lfA, lfB] := fun W => RdL.many W kAB rfl (by decide)
  have hd := lfB_ok.1
  have ST := Lib.hid (fun (W : World) (tp g : Nat) (h : Sm w 32 tp [] W) (hr : RdL W (some ⟨g, 0, none⟩) 2 2 [lfA, lfB]) => sm_set h _ 2 2 _ hr (fun _ => sorts_small 2 (by decide)))
  have DR := Lib.hid (fun (W : World) (tp : Nat) (h : Sm w 32 tp [lfA, lfB] W) => sm_drop h lfB.path hd)
  have GE := Lib.hid (fun (W : World) (tp : Nat) (h : Sm w 32 tp [lfA] W) => sm_get h lfB.path hd)
  have LE := Lib.hid (fun (W : World) (tp : Nat) (h : Sm w 32 tp [lfA] W) => sm_len h)
  have RO := Lib.hid (fun (W : World) (tp : Nat) (h : Sm w 32 tp [lfA] W) => sm_root h (by decide) hT)
  rw [set_ba.1, set_ba.2] at ST
  rw [drop_b.1, drop_b.2] at DR
  rw [find_b, show valOf none = zero32 from rfl, show (none : Option Lf).isSome = false from rfl] at GE
  rw [show (([lfA].length : Nat) : Int) = 1 from rfl] at LE
  rw [rootA] at RO
  have hPB : ∀ W : World, (Instr.field 50 (.agg (lc lfB).toArray) 0).run Tryz.prog W = .ok (.agg (bs lfB.path).toArray) W := fun W => run_field0 W lfB_ok
  have H6 := Lib.hid (show (Tryz.prog.info? 25).map (·.size) = some (bs zero32).length by rw [info_digest, bs_length, zero32_length])
  have H7 := bs_one zero32
  have hla := shortI_length 32 ([0] ++ lfA.path ++ lfA.val)
  generalize shortI 32 ([0] ++ lfA.path ++ lfA.val) = DA at *
  have eI : ∀ W : World, (Op.equalIn 10000 25 (.agg (bs DA).toArray) (.agg (bs DA).toArray)).run Tryz.prog W = .ok true W := fun W => by rw [eqInD W _ _ hla hla]; simp
  generalize lfA = A at *
  generalize lfB = B at *
  go_enter Tryz.func10, Tryz.ntmps10
  go_wp2_with fail
  refine (sm_new w w 32 (by decide) (Below.refl _ _)).mono ?_
  rintro e w1 ⟨tp, rfl, hS1, -⟩
  go_wp2_with fail
  refine (CA.out _).mono ?_
  rintro e w2 ⟨rfl, hB2⟩
  have hS2 := hS1.below hB2
  go_wp2_with fail
  refine (CB.out _).mono ?_
  rintro e w3 ⟨rfl, hB3⟩
  have hS3 := hS2.below hB3
  go_wp2_with ((with_reducible refine wpList_twoL (o := ⟨some 20, _, _, _, _, _⟩) ?_ (.tmp 18) (.tmp 19) ?_ kAB ?_ ?_ ?_); rfl; rfl; rfl; rfl)
  have hS4 := hS3.below ((Below.refl _ w3).alloc (Nat.le_refl _) (.cells (lcs [A, B]).toArray 50))
  have hM := M2 w3
  generalize w3.alloc _ = w4 at *
  refine (ST.out w4 tp _ hS4 hM).mono ?_
  rintro e w5 ⟨rfl, hS5, -⟩
  clear hS1 hS2 hS3 hS4 hM
  go_wp2_with fail
  refine (CB.out _).mono ?_
  rintro e w6 ⟨rfl, hB6⟩
  have hS6 := hS5.below hB6
  go_wp2_with fail
  refine (DR.out w6 tp hS6).mono ?_
  rintro e w7 ⟨rfl, hS7, -⟩
  clear hS5 hS6
  go_wp2_with fail
  refine (CB.out _).mono ?_
  rintro e w8 ⟨rfl, hB8⟩
  have hS8 := hS7.below hB8
  go_wp2_with fail
  refine (GE.out w8 tp hS8).mono ?_
  rintro e w9 ⟨rfl, hB9⟩
  have hS9 := hS8.below hB9
  go_wp2_with (first | ((with_reducible refine wpList_allocB (o := ⟨some 5, _, _, _, _, _⟩) ?_ 25 ?_ zeroD_info ?_); rfl; rfl; intro q3 hrq3 hgq3 hzq3) | ((with_reducible refine wpList_storeB (o := ⟨none, .store 25 (.tmp 5) (.tmp 31), _, _, _, _⟩) ?_ 25 (.tmp 5) (.tmp 31) ?_ ?_ ?_ hrq3 H6.out rfl H7 ?_); rfl; rfl; rfl; rfl; intro q4 hrq4 hgq4 hzq4))
  have hS10 := hS9.below ((Below.refl _ w9).grown hgq3 (Nat.le_refl _) (fun k e => by cases e))
  have hS11 := hS10.put hgq4 hrq3 (by decide) (by decide) (by decide) hS9.bel.size
  clear hS7 hS8 hS9 hS10 hgq3 hrq3 hgq4 hrq4
  refine (LE.out q4 tp hS11).mono ?_
  rintro e w12 ⟨rfl, rfl⟩
  go_wp2_with fail
  refine (RO.out _ tp hS11).mono ?_
  rintro e w13 ⟨rfl, hS13, -⟩
  go_wp2_with fail
  refine (CA.out _).mono ?_
  rintro e w14 ⟨rfl, hB14⟩
  have hS14 := hS13.below hB14
  go_wp2_with fail
  refine (LA.out _ hS14.bel).mono ?_
  rintro e w15 ⟨rfl, hB15⟩
  have hE := eI w15
  go_wp2_with fail
  go_ret
  exact ⟨rfl, (hS14.below hB15).bel⟩

end
/-! SmtBack: a leaf that comes and goes. -/
section
open Go.RowKit

/-- what SmtBack's last region knows of a world -/
structure BackAt (w W : World) (b g : Nat) (y : Lf) (d : List UInt8) : Prop where
  box : Blk W b 50 (lc y)
  dig : Blk W g 25 (bs d)
  bel : Below w.heap.size w W
section
variable {w W W' : World} {b g : Nat} {y : Lf} {d : List UInt8}
theorem BackAt.below (h : BackAt w W b g y d) (hb : Below W.heap.size W W') : BackAt w W' b g y d := ⟨h.box.below hb, h.dig.below hb, Bt h.bel hb⟩
theorem BackAt.drew (h : BackAt w W b g y d) : BackAt w W.drew b g y d := h.below ⟨rfl, rfl, rfl, Nat.le_refl _, fun _ _ => rfl⟩
theorem BackAt.grown (h : BackAt w W b g y d) {tp : Nat} (hg : W.grownBy W' (some tp)) (h1 : tp ≠ b) (h2 : tp ≠ g) (h0 : w.heap.size ≤ tp) : BackAt w W' b g y d :=
  ⟨h.box.grown hg (by simpa using h1), h.dig.grown hg (by simpa using h2), h.bel.grown hg h.bel.size (fun k e => by cases e; exact h0)⟩
theorem BackAt.kept (h : BackAt w W b g y d) (hk : Keeps W W') (hB : Below w.heap.size W W') : BackAt w W' b g y d := ⟨hk _ _ _ h.box (by decide), hk _ _ _ h.dig (by decide), h.bel.trans hB⟩
end

/-- one leaf of a new path -/
theorem set_one {L : List Lf} {y : Lf} (h : (findL L y.path).isSome = false) (hl : L.length + 1 ≤ 4096) : setE L [y] = 0 ∧ setI L [y] = L ++ [y] := by
  have h1 : setF L [y] = L ++ [y] := by rw [setF, setF, drop_same h]
  have h2 : twiceB [y] = false := by simp [twiceB]
  have h3 : ¬ 4096 < [y].length := by simp
  have h4 : ¬ 4096 < (L ++ [y]).length := by simp; omega
  unfold setE setI
  rw [h1, h2, if_neg h3, if_neg h3]
  simp only [Bool.false_eq_true, if_false, if_neg h4]
  exact ⟨trivial, trivial⟩
theorem find_one {L : List Lf} {y : Lf} (h : (findL L y.path).isSome = false) : findL (L ++ [y]) y.path = some y := by
  unfold findL at h ⊢
  rw [List.find?_append]
  cases e : L.find? fun x => x.path == y.path with
  | none => simp
  | some z => rw [e] at h; cases h
theorem drop_one {L : List Lf} {y : Lf} (h : (findL L y.path).isSome = false) : dropL (L ++ [y]) y.path = L := drop_put y (by
  cases e : findL L y.path with
  | none => rfl
  | some z => rw [e] at h; cases h)
/-- leaves set into nothing -/
theorem set_first {l : List Lf} (h : setE [] l = 0) (hl : l.length ≤ 200) : (setI [] l).length = l.length := by
  obtain ⟨h1, h2⟩ := set_nil l
  rw [h1, if_pos (by omega)] at h
  cases ht : twiceB l
  · rw [h2, if_pos (by omega), ht]
    have hu := (twiceB_iff l).1 ht
    exact (perm_of_mem (setF_unlike l [] List.Pairwise.nil) hu (fun y => by rw [setF_mem l [] hu]; simp)).length_eq
  · rw [ht] at h; simp at h

end
end
end
end Go.Proofs.YtmfnpjfhijmboaaGreatDoor
