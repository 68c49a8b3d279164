/-
  The walks of layer 1's statements on reading: reads, OctetNil, OctetReads.
-/
import Derived.Test.YtpfggokhcekhbaaRefR01
import Derived.Test.YtpfggokhcekhbaaLaw01B
namespace Go.Proofs.Ytpfggokhcekhbaa
open Go.RowKit

/-- below what was there, what touches a reader of one's own is nothing -/
theorem Btouch {w w1 w2 : World} {r : Nat} (h : Below w.heap.size w w1) (hg : w1.grownBy w2 (some r)) (hr : w.heap.size ≤ r) : Below w.heap.size w w2 :=
  h.grown hg h.size (fun k e => by cases e; exact hr)

set_option maxRecDepth 100000 in
set_option maxHeartbeats 1000000 in
theorem reads_any (w : World) :
    Calls Try.prog 26 #[] w (Yes w) := by
  have e1 : cnt 0 0 [172, 2, 9] = (300, 2, 0) := by decide
  have e2 : cnt 0 0 [128, 0] = (0, 0, 11) := by decide
  have E1 := Lib.hid e1
  have E2 := Lib.hid e2
  clear e1 e2
  go_enter Try.func26, Try.ntmps26
  go_wp2_with fail
  have hb0 := (Below.refl w.heap.size w).alloc (Nat.le_refl _) (.cells (bs [172, 2, 9]).toArray 5)
  refine (new_any _ _ 3 3 [172, 2, 9] (Rd.lit w [172, 2, 9] 3 rfl (by decide)) (by omega)).mono ?_
  rintro e w1 ⟨r, rfl, hr, hR1, hB1⟩
  have hB01 := Bt hb0 hB1
  have hrw : w.heap.size ≤ r := by simp at hr; omega
  go_wp2_with fail
  have hb1 := (Below.refl w1.heap.size w1).alloc (Nat.le_refl _) (.cells (bs [128, 0]).toArray 5)
  refine (new_any _ _ 2 2 [128, 0] (Rd.lit w1 [128, 0] 2 rfl (by decide)) (by omega)).mono ?_
  rintro e w2 ⟨s, rfl, hs, hS2, hB2⟩
  have hB02 := Bt hB01 (Bt hb1 hB2)
  have hR2 := hR1.below (Bt hb1 hB2)
  have hrs : r < s := by obtain ⟨_, _, _, h, _⟩ := hR1; have := lt_of_block h; simp at hs; omega
  go_wp2_with fail
  refine (count_any w2 r _ hR2).mono ?_
  rintro e w3 ⟨rfl, hR3, hg3⟩
  have hS3 := hS2.kept hg3 hR2 (by omega)
  have hB03 := Btouch hB02 hg3 hrw
  rw [E1.out] at hR3 ⊢
  go_wp2_with fail
  refine (count_any w3 s _ hS3).mono ?_
  rintro e w4 ⟨rfl, hS4, hg4⟩
  have hR4 := hR3.kept hg4 hS3 (by omega)
  have hB04 := Btouch hB03 hg4 (by omega)
  rw [E2.out] at hS4 ⊢
  go_wp2_with fail
  refine (left_any w4 r _ hR4).mono ?_
  rintro e w' ⟨rfl, rfl⟩
  go_wp2_with fail
  refine (left_any w4 s _ hS4).mono ?_
  rintro e w' ⟨rfl, rfl⟩
  go_wp2_with fail
  go_ret
  exact Yes.mk hB04

set_option maxRecDepth 100000 in
set_option maxHeartbeats 1000000 in
theorem walkOctetNil (w : World) (a : Option Addr) (n c : Nat) (l : List UInt8) (_hr : Rd w a n c l) :
    Calls Try.prog 8 #[.slice a n c] w (Yes w) := by
  by_cases hlong : 262144 < n
  · go_enter Try.func8, Try.ntmps8
    go_wp2_with fail
    go_ret
    exact Yes.mk (Below.refl _ _)
  · go_enter Try.func8, Try.ntmps8
    go_wp2_with fail
    refine (count_nil w).mono ?_
    rintro e w' ⟨rfl, rfl⟩
    go_wp2_with fail
    refine (bytes_nil w).mono ?_
    rintro e w' ⟨rfl, rfl⟩
    go_wp2_with fail
    refine (digest_nil w).mono ?_
    rintro e w1 ⟨rfl, hB1⟩
    go_wp2_with (first
      | (refine wpList_allocD (o := ⟨some 8, _, _, _, _, _⟩) rfl rfl ?_; intro w2 hd2 hg2 hs2)
      | (refine wpList_storeD rfl (.tmp 8) (.tmp 26) rfl rfl rfl hd2 zero32_length zero32_length ?_; intro w3 hd3 hg3 hs3))
    have hB3 : Below w.heap.size w w3 := (hB1.grown hg2 hB1.size (by simp)).grown hg3 (by have := hB1.size; omega) (fun k e => by cases e; exact hB1.size)
    refine (reads_any w3).mono ?_
    rintro e w4 ⟨rfl, hB4⟩
    go_wp2_with fail
    refine (left_nil w4).mono ?_
    rintro e w' ⟨rfl, rfl⟩
    go_wp2_with fail
    go_ret
    exact Yes.mk (Bt hB3 hB4)
end Go.Proofs.Ytpfggokhcekhbaa
