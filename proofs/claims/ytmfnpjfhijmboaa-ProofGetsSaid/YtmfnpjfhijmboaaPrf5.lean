/-
  The walks of package proof: Get.
-/
import Derived.Test.YtmfnpjfhijmboaaPrf4
namespace Go.Proofs.Ytmfnpjfhijmboaa
open Go.RowKit

/-- bytes that are a proof, and nothing more -/
def getP (l : List UInt8) : Option Pf := match rdPf l with | some (x, []) => some x | _ => none
def GetPost (w : World) (l : List UInt8) (e : Ending) (w' : World) : Prop :=
  (∃ x a n c, getP l = some x ∧ e = .returned (.tuple #[.agg (pc a n c x).toArray, .int .i64 0]) ∧ RdP6 w' a n c x ∧ Below w.heap.size w w') ∨
  (getP l = none ∧ e = .returned (.tuple #[.agg (pc none 0 0 pf0).toArray, .int .i64 40]) ∧ Below w.heap.size w w')
theorem built_pf0 : Try.prog.built 26 [] = some (pc none 0 0 pf0).toArray := by kernel_rfl
theorem grown_to_below {w w1 w2 : World} {r : Nat} (h : Below w.heap.size w w1) (hg : w1.grownBy w2 (some r)) (hr : w.heap.size ≤ r) : Below w.heap.size w w2 := h.grown hg h.size (fun k e => by cases e; exact hr)

set_option maxRecDepth 100000 in
set_option maxHeartbeats 2000000 in
theorem pget_any (w : World) (a : Option Addr) (n c : Nat) (l : List UInt8) (hr : Rd w a n c l) (hn : n ≤ 1099511627776) :
    Calls Try.prog 10 #[.slice a n c] w (GetPost w l) := by
  have I0 := Lib.hid (size_of (a := none) (n := 0) (c := 0) pf0_ok)
  have O0 := pc_one none 0 0 pf0
  have HP0 := Lib.hid pf0_ok
  have HB := Lib.hid built_pf0
  have HG : Hid (getP l = match rdPf l with | some (x, []) => some x | _ => none) := Lib.hid rfl
  have NW := Lib.hid (fun (W : World) (h : Rd W a n c l) => new_any W a n c l h hn)
  have FS := Lib.hid (fun (W : World) (e : Ending) x a n c (h1 : getP l = some x) (h2 : e = .returned (.tuple #[.agg (pc a n c x).toArray, .int .i64 0])) (h3 : RdP6 W a n c x) (h4 : Below w.heap.size w W) => (show GetPost w l e W from .inl ⟨x, a, n, c, h1, h2, h3, h4⟩))
  have FN := Lib.hid (fun (W : World) (e : Ending) (h1 : getP l = none) (h2 : e = .returned (.tuple #[.agg (pc none 0 0 pf0).toArray, .int .i64 40])) (h4 : Below w.heap.size w W) => (show GetPost w l e W from .inr ⟨h1, h2, h4⟩))
  have RA := Lib.hid (fun (W : World) (r : Nat) (h : Rdr W r l) => read_any W r l h)
  generalize GetPost w l = RP at *
  generalize getP l = RES at *
  go_enter Try.func10, Try.ntmps10
  go_wp2_with ((with_reducible refine wpList_allocB (o := ⟨some 2, _, _, _, _, _⟩) ?_ 26 ?_ zeroP_info ?_); rfl; rfl; intro w1 hr1 hg1 hz1)
  have hB1 : Below w.heap.size w w1 := (Below.refl _ w).grown hg1 (Nat.le_refl _) (fun k e => by cases e)
  have hz1' : w.heap.size < w1.heap.size := by omega
  clear hz1 hg1
  refine (NW.out w1 (hr.below hB1)).mono ?_
  rintro e w2 ⟨r, rfl, hrr, hR2, hB2⟩
  have hr2 := hr1.below hB2
  have hB02 := Bt hB1 hB2
  go_wp2_with fail
  refine (RA.out w2 r hR2).mono ?_
  rintro e w3 (⟨x, l', a3, n3, c3, hres, rfl, hx3, hq3⟩ | ⟨x, hres, rfl, hxo, hg3⟩)
  · have hB03 := grown_to_below hB02 hq3.grown (by omega)
    have hr3 := hr2.grown hq3.grown (by simp; omega)
    have I3 := Lib.hid (size_of (a := a3) (n := n3) (c := c3) hx3.ok)
    have L3 := Lib.hid (cells_len (a := none) (n := 0) (c := 0) (a' := a3) (n' := n3) (c' := c3) pf0_ok hx3.ok)
    have O3 := pc_one a3 n3 c3 x
    have HX3 := Lib.hid hx3
    have hbs3 := hB03.size
    have hlt2 : w.heap.size < w2.heap.size := Nat.lt_of_lt_of_le hz1' hB2.size
    clear hx3 hr hR2 hB1 hB2
    go_wp2_with (first | ((with_reducible refine wpList_allocB (o := ⟨some 5, _, _, _, _, _⟩) ?_ 26 ?_ zeroP_info ?_); rfl; rfl; intro w4 hr4 hg4 hz4) | ((with_reducible refine wpList_storeB (o := ⟨none, .store 26 (.tmp 5) (.tmp 12), _, _, _, _⟩) ?_ 26 (.tmp 5) (.tmp 12) ?_ ?_ ?_ hr4 I3.out L3.out O3 ?_); rfl; rfl; rfl; rfl; intro w5 hr5 hg5 hz5))
    have hB35 : Below w3.heap.size w3 w5 := ((Below.refl _ w3).grown hg4 (Nat.le_refl _) (fun k e => by cases e)).grown hg5 (by omega) (fun k e => by cases e; omega)
    have hB05 := Bt hB03 hB35
    have hr25 := hr3.below hB35
    have hq5 := (hq3.below hB35).rdr
    clear hz4 hz5 hg4 hg5 hr4
    refine (left_any w5 r l' hq5).mono ?_
    rintro e w6 ⟨rfl, rfl⟩
    by_cases hl : l' = []
    · subst hl
      have HRES := Lib.hid (show RES = some x by rw [HG.out, hres])
      go_wp2_with (first | ((with_reducible refine wpList_loadB (o := ⟨some 22, _, _, _, _, _⟩) ?_ 26 (.tmp 5) ?_ ?_ hr5 Try.underlying26 ?_ I3.out ?_); rfl; rfl; rfl; rfl) | ((with_reducible refine wpList_storeB (o := ⟨none, .store 26 (.tmp 2) (.tmp 22), _, _, _, _⟩) ?_ 26 (.tmp 2) (.tmp 22) ?_ ?_ ?_ hr25 I3.out L3.out O3 ?_); rfl; rfl; rfl; rfl; intro w7 hr7 hg7 hz7))
      try simp only [Exit.inBlock, Exit.then]
      refine bodyPost_ret (results_blk2 rfl _ _ _ _ _ _ rfl hr7 Try.underlying26 rfl I3.out) rfl (FS.out _ _ x a3 n3 c3 HRES.out rfl ?_ (grown_to_below hB05 hg7 (Nat.le_refl _)))
      exact (((HX3.out).below hB35).other hg7 hlt2).rd
    · have hl' : (0 : Int) < (l'.length : Int) := by
        have := List.length_pos_iff.2 hl
        omega
      have HRES := Lib.hid (show RES = none by
        rw [HG.out, hres]
        cases l' with
        | nil => exact absurd rfl hl
        | cons _ _ => rfl)
      go_wp2_with (first | ((with_reducible refine wpList_buildI (dst := some 21) HB.out ?_ ?_); rfl) | ((with_reducible refine wpList_storeB (o := ⟨none, .store 26 (.tmp 2) (.tmp 21), _, _, _, _⟩) ?_ 26 (.tmp 2) (.tmp 21) ?_ ?_ ?_ hr25 I0.out rfl O0 ?_); rfl; rfl; rfl; rfl; intro w7 hr7 hg7 hz7))
      try simp only [Exit.inBlock, Exit.then]
      exact bodyPost_ret (results_blk2 rfl _ _ _ _ _ _ rfl hr7 Try.underlying26 rfl I0.out) rfl (FN.out _ _ HRES.out rfl (grown_to_below hB05 hg7 (Nat.le_refl _)))
  · have hB03 := grown_to_below hB02 hg3 (by omega)
    have hr3 := hr2.grown hg3 (by simp; omega)
    have I3 := Lib.hid (size_of (a := none) (n := 0) (c := 0) hxo)
    have L3 := Lib.hid (cells_len (a := none) (n := 0) (c := 0) (a' := none) (n' := 0) (c' := 0) pf0_ok hxo)
    have O3 := pc_one none 0 0 x
    have HRES := Lib.hid (show RES = none by rw [HG.out, hres])
    have hbs3 := hB03.size
    clear hr hR2 hB1 hB2 hxo hres
    generalize hxp : pc none 0 0 x = P at *
    go_wp2_with (first | ((with_reducible refine wpList_allocB (o := ⟨some 5, _, _, _, _, _⟩) ?_ 26 ?_ zeroP_info ?_); rfl; rfl; intro w4 hr4 hg4 hz4) | ((with_reducible refine wpList_storeB (o := ⟨none, .store 26 (.tmp 5) (.tmp 12), _, _, _, _⟩) ?_ 26 (.tmp 5) (.tmp 12) ?_ ?_ ?_ hr4 I3.out L3.out O3 ?_); rfl; rfl; rfl; rfl; intro w5 hr5 hg5 hz5; have hB35 : Below w3.heap.size w3 w5 := ((Below.refl _ w3).grown hg4 (Nat.le_refl _) (fun k e => by cases e)).grown hg5 (by omega) (fun k e => by cases e; omega); have hr25 := hr3.below hB35; clear hz4 hz5) | ((with_reducible refine wpList_buildI (dst := some 21) HB.out ?_ ?_); rfl) | ((with_reducible refine wpList_storeB (o := ⟨none, .store 26 (.tmp 2) (.tmp 21), _, _, _, _⟩) ?_ 26 (.tmp 2) (.tmp 21) ?_ ?_ ?_ hr25 I0.out rfl O0 ?_); rfl; rfl; rfl; rfl; intro w7 hr7 hg7 hz7))
    try simp only [Exit.inBlock, Exit.then]
    exact bodyPost_ret (results_blk2 rfl _ _ _ _ _ _ rfl hr7 Try.underlying26 rfl I0.out) rfl (FN.out _ _ HRES.out rfl (grown_to_below (Bt hB03 hB35) hg7 (Nat.le_refl _)))
end Go.Proofs.Ytmfnpjfhijmboaa
