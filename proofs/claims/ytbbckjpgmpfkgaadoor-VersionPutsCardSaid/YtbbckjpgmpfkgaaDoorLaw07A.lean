/-
  The statements of layer 7: the examples that they ask first.
-/
import Derived.Test.YtbbckjpgmpfkgaaDoorVrf2
namespace Go.Proofs.YtbbckjpgmpfkgaaDoor
open Go.RowKit
set_option maxRecDepth 100000

/-- what a statement's walk comes to: true, and nothing that was there has turned -/
def Yes7 (w : World) (e : Ending) (w' : World) : Prop := e = .returned (.bool true) ∧ Below w.heap.size w w'
theorem Yes7.mk {w w' : World} (h : Below w.heap.size w w') : Yes7 w (.returned (.bool true)) w' := ⟨rfl, h⟩

def vP : Vn := ⟨1, 1, ⟨#[107]⟩⟩
def vR : Vn := ⟨2, 2, ⟨#[108]⟩⟩
def vK : Vn := ⟨2, 3, ByteArray.empty⟩
theorem builtP : Tryd.prog.built 87 [(0, .int .i64 1), (1, .int .i64 1), (2, .string ⟨#[107]⟩)] = some (vc vP).toArray := by kernel_rfl
theorem builtR : Tryd.prog.built 87 [(0, .int .i64 2), (1, .int .i64 2), (2, .string ⟨#[108]⟩)] = some (vc vR).toArray := by kernel_rfl
theorem builtK : Tryd.prog.built 87 [(0, .int .i64 2), (1, .int .i64 3)] = some (vc vK).toArray := by kernel_rfl

set_option maxRecDepth 100000 in
theorem put_any (w : World) : Calls Tryd.prog 52 #[] w fun e w' => e = .returned (.agg (vc vP).toArray) ∧ Below w.heap.size w w' := by
  have HB := Lib.hid builtP
  go_enter Tryd.func52, Tryd.ntmps52
  go_wp2_with (first | ((with_reducible refine wpList_buildI (dst := some 1) HB.out ?_ ?_); rfl) | ((with_reducible refine wpList_allocV (o := ⟨some 0, _, _, _, _, _⟩) ?_ ?_ ?_); rfl; rfl; intro w1 hr1 hg1 hz1) | ((with_reducible refine wpList_storeV (o := ⟨none, _, _, _, _, _⟩) ?_ (.tmp 0) (.tmp 1) ?_ vP ?_ ?_ hr1 ?_); rfl; rfl; rfl; rfl; intro w2 hr2 hg2 hz2))
  refine bodyPost_V hr2 rfl rfl rfl ⟨rfl, ?_⟩
  exact ((Below.refl _ w).grown hg1 (Nat.le_refl _) (fun k e => by cases e)).grown hg2 (by omega) (fun k e => by cases e; omega)
theorem isPR : isB [vP, vR] = true := by decide
theorem chkPR : chkI [vP, vR] = 0 := by rw [chkI, isPR]; rfl
theorem chkR : chkI [vR] = 50 := by decide
theorem actPR : actK [vP, vR] = (⟨#[108]⟩, true) := by rw [actK_eq isPR]; rfl
theorem actPK : (actK [vP, vK]).2 = false := by
  cases h : isB [vP, vK] with
  | true => rw [act_flag h]; rfl
  | false => rw [actK, h]; rfl
theorem nextP : nextI [] vP = 0 := by decide
theorem nextR : nextI [] vR = 52 := by decide
theorem nextPP : nextI [vP] vP = 51 := by decide

end Go.Proofs.YtbbckjpgmpfkgaaDoor
