/-
  The walks of package version: Digest.
-/
import Derived.Test.YtbbckjpgmpfkgaaDoorVer4
import Derived.Test.YtbbckjpgmpfkgaaDoorShaF
namespace Go.Proofs.YtbbckjpgmpfkgaaDoor
open Go.RowKit
set_option maxRecDepth 100000

/-- what Digest hands back -/
def digV (l : List Vn) : List UInt8 := if isB l then sha (encV l) else zero32
theorem digV_length (l : List Vn) : (digV l).length = 32 := by
  unfold digV
  split
  · exact sha_length _
  · exact zero32_length

set_option maxHeartbeats 1000000 in
theorem vdig_any (w : World) (hT : Tab w 0) (a : Option Addr) (n c : Nat) (l : List Vn) (hr : RdV w a n c l) :
    Calls Tryd.prog 22 #[.slice a n c] w fun e w' => e = .returned (.tuple #[.agg (bs (digV l)).toArray, .int .i64 (chkI l)]) ∧ Below w.heap.size w w' := by
  have VP := Lib.hid (fun (W : World) (h : RdV W a n c l) => vput_any W a n c l h)
  cases hi : isB l with
  | false =>
    have HD : Hid (digV l = zero32) := Lib.hid (by rw [digV, hi]; rfl)
    have HC : Hid (chkI l = 50) := Lib.hid (by rw [chkI, hi]; rfl)
    go_enter Tryd.func22, Tryd.ntmps22
    go_wp2_with ((with_reducible refine wpList_allocD (o := ⟨some 2, _, _, _, _, _⟩) rfl ?_ ?_); rfl; intro w1 hd1 hg1 hs1)
    have hB1 : Below w.heap.size w w1 := (Below.refl _ w).grown hg1 (Nat.le_refl _) (fun k e => by cases e)
    refine (VP.out _ (hr.below hB1)).mono ?_
    rintro e w2 (⟨h1, _⟩ | ⟨_, rfl, hB2⟩)
    · rw [hi] at h1; cases h1
    · have hd2 := (hB2.block _ (lt_of_block hd1)).trans hd1
      have hB02 := Bt hB1 hB2
      go_wp2_with (first | ((with_reducible refine wpList_buildD (o := ⟨some 13, _, _, _, _, _⟩) rfl ?_ ?_); rfl) | ((with_reducible refine wpList_storeD (o := ⟨none, _, _, _, _, _⟩) rfl (.tmp 2) (.tmp 13) ?_ ?_ ?_ hd2 zero32_length zero32_length ?_); rfl; rfl; rfl; intro w5 hd5 hg5 hs5))
      refine bodyPost_ret (results_digest2 rfl _ _ _ _ _ zero32_length rfl hd5) rfl ?_
      exact ⟨by rw [HD.out, HC.out]; rfl, hB02.grown hg5 hB02.size (fun k e => by cases e; exact Nat.le_refl _)⟩
  | true =>
    have HD : Hid (digV l = sha (encV l)) := Lib.hid (by rw [digV, hi]; rfl)
    have HC : Hid (chkI l = 0) := Lib.hid (by rw [chkI, hi]; rfl)
    have HL : Hid ((encV l).length ≤ 2000000) := Lib.hid (by
      have h16 := isB_len hi
      have h1 := encVs_le (isB_puts hi) l.length (Nat.le_refl _)
      rw [List.take_length] at h1
      have h2 := encC_len l.length (by omega)
      rw [encV, List.length_append]
      omega)
    have hsl := sha_length (encV l)
    go_enter Tryd.func22, Tryd.ntmps22
    go_wp2_with ((with_reducible refine wpList_allocD (o := ⟨some 2, _, _, _, _, _⟩) rfl ?_ ?_); rfl; intro w1 hd1 hg1 hs1)
    have hB1 : Below w.heap.size w w1 := (Below.refl _ w).grown hg1 (Nat.le_refl _) (fun k e => by cases e)
    refine (VP.out _ (hr.below hB1)).mono ?_
    rintro e w2 (⟨_, a2, m2, c2, rfl, hm2, hO2, hB2⟩ | ⟨h1, _⟩)
    · have hd2 := (hB2.block _ (lt_of_block hd1)).trans hd1
      have hB02 := Bt hB1 hB2
      have hR2 := hO2.rd
      have hT2 := hT.below hB02
      have hm2' : m2 ≤ 576460752303423488 := by have := hm2.out; have := HL.out; omega
      clear hO2 hd1 hg1 hs1
      go_wp2_with fail
      refine (sum_any w2 a2 m2 c2 _ hR2 hT2 hm2').mono ?_
      rintro e w3 ⟨rfl, hB3⟩
      have hd3 := (hB3.block _ (lt_of_block hd2)).trans hd2
      have hB03 := Bt hB02 hB3
      generalize sha (encV l) = D at *
      go_wp2_with ((with_reducible refine wpList_storeD (o := ⟨none, _, _, _, _, _⟩) rfl (.tmp 2) (.tmp 16) ?_ ?_ ?_ hd3 hsl zero32_length ?_); rfl; rfl; rfl; intro w5 hd5 hg5 hs5)
      refine bodyPost_ret (results_digest2 rfl _ _ _ _ _ hsl rfl hd5) rfl ?_
      exact ⟨by rw [HD.out, HC.out]; rfl, hB03.grown hg5 hB03.size (fun k e => by cases e; exact Nat.le_refl _)⟩
    · rw [hi] at h1; cases h1
end Go.Proofs.YtbbckjpgmpfkgaaDoor
