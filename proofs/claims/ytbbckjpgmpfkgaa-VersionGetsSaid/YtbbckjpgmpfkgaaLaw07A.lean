/-
  The statements of layer 7: the examples that they ask first.
-/
import Derived.Test.YtbbckjpgmpfkgaaVrf2
import Derived.Test.YtbbckjpgmpfkgaaVrf3
import Derived.Test.YtbbckjpgmpfkgaaVrf4
namespace Go.Proofs.Ytbbckjpgmpfkgaa
open Go.RowKit

/-- what a statement's walk comes to: true, and nothing that was there has turned -/
def Yes7 (w : World) (e : Ending) (w' : World) : Prop := e = .returned (.bool true) ∧ Below w.heap.size w w'
theorem Yes7.mk {w w' : World} (h : Below w.heap.size w w') : Yes7 w (.returned (.bool true)) w' := ⟨rfl, h⟩

def vP : Vn := ⟨1, 1, ⟨#[107]⟩⟩
def vR : Vn := ⟨2, 2, ⟨#[108]⟩⟩
def vK : Vn := ⟨2, 3, ByteArray.empty⟩
theorem builtP : Try.prog.built 33 [(0, .int .i64 1), (1, .int .i64 1), (2, .string ⟨#[107]⟩)] = some (vc vP).toArray := by kernel_rfl
theorem builtR : Try.prog.built 33 [(0, .int .i64 2), (1, .int .i64 2), (2, .string ⟨#[108]⟩)] = some (vc vR).toArray := by kernel_rfl
theorem builtK : Try.prog.built 33 [(0, .int .i64 2), (1, .int .i64 3)] = some (vc vK).toArray := by kernel_rfl

set_option maxRecDepth 100000 in
theorem put_any (w : World) : Calls Try.prog 20 #[] w fun e w' => e = .returned (.agg (vc vP).toArray) ∧ Below w.heap.size w w' := by
  have HB := Lib.hid builtP
  go_enter Try.func20, Try.ntmps20
  go_wp2_with (first | ((with_reducible refine wpList_buildI (dst := some 1) HB.out ?_ ?_); rfl) | ((with_reducible refine wpList_allocV (o := ⟨some 0, _, _, _, _, _⟩) ?_ ?_ ?_); rfl; rfl; intro w1 hr1 hg1 hz1) | ((with_reducible refine wpList_storeV (o := ⟨none, _, _, _, _, _⟩) ?_ (.tmp 0) (.tmp 1) ?_ vP ?_ ?_ hr1 ?_); rfl; rfl; rfl; rfl; intro w2 hr2 hg2 hz2))
  refine bodyPost_V hr2 rfl rfl rfl ⟨rfl, ?_⟩
  exact ((Below.refl _ w).grown hg1 (Nat.le_refl _) (fun k e => by cases e)).grown hg2 (by omega) (fun k e => by cases e; omega)
set_option maxRecDepth 100000 in
theorem rotate_any (w : World) : Calls Try.prog 21 #[] w fun e w' => e = .returned (.agg (vc vR).toArray) ∧ Below w.heap.size w w' := by
  have HB := Lib.hid builtR
  go_enter Try.func21, Try.ntmps21
  go_wp2_with (first | ((with_reducible refine wpList_buildI (dst := some 1) HB.out ?_ ?_); rfl) | ((with_reducible refine wpList_allocV (o := ⟨some 0, _, _, _, _, _⟩) ?_ ?_ ?_); rfl; rfl; intro w1 hr1 hg1 hz1) | ((with_reducible refine wpList_storeV (o := ⟨none, _, _, _, _, _⟩) ?_ (.tmp 0) (.tmp 1) ?_ vR ?_ ?_ hr1 ?_); rfl; rfl; rfl; rfl; intro w2 hr2 hg2 hz2))
  refine bodyPost_V hr2 rfl rfl rfl ⟨rfl, ?_⟩
  exact ((Below.refl _ w).grown hg1 (Nat.le_refl _) (fun k e => by cases e)).grown hg2 (by omega) (fun k e => by cases e; omega)
set_option maxRecDepth 100000 in
theorem revoke_any (w : World) : Calls Try.prog 28 #[] w fun e w' => e = .returned (.agg (vc vK).toArray) ∧ Below w.heap.size w w' := by
  have HB := Lib.hid builtK
  go_enter Try.func28, Try.ntmps28
  go_wp2_with (first | ((with_reducible refine wpList_buildI (dst := some 1) HB.out ?_ ?_); rfl) | ((with_reducible refine wpList_allocV (o := ⟨some 0, _, _, _, _, _⟩) ?_ ?_ ?_); rfl; rfl; intro w1 hr1 hg1 hz1) | ((with_reducible refine wpList_storeV (o := ⟨none, _, _, _, _, _⟩) ?_ (.tmp 0) (.tmp 1) ?_ vK ?_ ?_ hr1 ?_); rfl; rfl; rfl; rfl; intro w2 hr2 hg2 hz2))
  refine bodyPost_V hr2 rfl rfl rfl ⟨rfl, ?_⟩
  exact ((Below.refl _ w).grown hg1 (Nat.le_refl _) (fun k e => by cases e)).grown hg2 (by omega) (fun k e => by cases e; omega)

theorem isPR : isB [vP, vR] = true := by decide
theorem chkPR : chkI [vP, vR] = 0 := by rw [chkI, isPR]; rfl
theorem chkR : chkI [vR] = 50 := by decide
theorem actPR : actK [vP, vR] = (⟨#[108]⟩, true) := by rw [actK_eq isPR]; rfl
theorem actPK : (actK [vP, vK]).2 = false := by
  cases h : isB [vP, vK] with
  | true => rw [act_flag h]; rfl
  | false => rw [actK, h]; rfl
theorem nextP : nextI [] vP = 0 := by decide
theorem nextR : nextI [] vR = 52 := by decide
theorem nextPP : nextI [vP] vP = 51 := by decide

set_option maxRecDepth 100000 in
set_option maxHeartbeats 1000000 in
theorem histories_any (w : World) : Calls Try.prog 12 #[] w (Yes7 w) := by
  have A1 := Lib.hid (fun (W : World) (a : Option Addr) (h : RdV W a 2 2 [vP, vR]) => active_any W a 2 2 [vP, vR] h)
  rw [actPR] at A1
  have A2 := Lib.hid (fun (W : World) (a : Option Addr) (h : RdV W a 2 2 [vP, vK]) => active_any W a 2 2 [vP, vK] h)
  rw [actPK] at A2
  have C1 := Lib.hid (fun (W : World) (a : Option Addr) (h : RdV W a 2 2 [vP, vR]) => check_any W a 2 2 [vP, vR] h)
  rw [chkPR] at C1
  have C2 := Lib.hid (fun (W : World) (a : Option Addr) (h : RdV W a 1 1 [vR]) => check_any W a 1 1 [vR] h)
  rw [chkR] at C2
  have PU := Lib.hid put_any
  have RO := Lib.hid rotate_any
  have RE := Lib.hid revoke_any
  go_enter Try.func12, Try.ntmps12
  go_wp2_with fail
  refine (PU.out _).mono ?_
  rintro e w1 ⟨rfl, hB1⟩
  go_wp2_with fail
  refine (RO.out _).mono ?_
  rintro e w2 ⟨rfl, hB2⟩
  have hB02 := Bt hB1 hB2
  go_wp2_with ((with_reducible refine wpList_twoV (o := ⟨some 8, _, _, _, _, _⟩) ?_ (.tmp 6) (.tmp 7) ?_ vP vR ?_ ?_ ?_); rfl; rfl; rfl; rfl; intro w3 hR3 hB3 hz3)
  have hB03 := Bt hB02 hB3
  refine (A1.out _ _ hR3).mono ?_
  rintro e w4 ⟨rfl, hB4⟩
  have hB04 := Bt hB03 hB4
  have hR4 := hR3.below hB4
  clear hz3
  go_wp2_with fail
  refine (PU.out _).mono ?_
  rintro e w5 ⟨rfl, hB5⟩
  go_wp2_with fail
  refine (RE.out _).mono ?_
  rintro e w6 ⟨rfl, hB6⟩
  have hB46 := Bt hB5 hB6
  go_wp2_with ((with_reducible refine wpList_twoV (o := ⟨some 17, _, _, _, _, _⟩) ?_ (.tmp 15) (.tmp 16) ?_ vP vK ?_ ?_ ?_); rfl; rfl; rfl; rfl; intro w7 hR7 hB7 hz7)
  have hB47 := Bt hB46 hB7
  refine (A2.out _ _ hR7).mono ?_
  rintro e w8 ⟨rfl, hB8⟩
  have hB48 := Bt hB47 hB8
  have hB08 := Bt hB04 hB48
  have hR8 := hR4.below hB48
  clear hz7 A1 A2 PU RE
  generalize (actK [vP, vK]).1 = key
  go_wp2_with fail
  refine (C1.out _ _ hR8).mono ?_
  rintro e w9 ⟨rfl, hB9⟩
  go_wp2_with fail
  refine (RO.out _).mono ?_
  rintro e w10 ⟨rfl, hB10⟩
  have hB010 := Bt hB08 (Bt hB9 hB10)
  go_wp2_with ((with_reducible refine wpList_oneVg (o := ⟨some 26, _, _, _, _, _⟩) ?_ (.tmp 25) ?_ vR ?_ ?_); rfl; rfl; rfl; intro w11 hR11 hB11 hz11)
  refine (C2.out _ _ hR11).mono ?_
  rintro e w12 ⟨rfl, hB12⟩
  have hB012 := Bt hB010 (Bt hB11 hB12)
  go_wp2_with fail
  go_ret
  exact Yes7.mk hB012
end Go.Proofs.Ytbbckjpgmpfkgaa
