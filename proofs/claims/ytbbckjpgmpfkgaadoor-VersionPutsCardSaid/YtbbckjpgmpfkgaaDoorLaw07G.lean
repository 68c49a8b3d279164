/-
  The statement VersionPuts of layer 7.
-/
import Derived.Test.YtbbckjpgmpfkgaaDoorLaw07E
import Derived.Test.YtbbckjpgmpfkgaaDoorVrf6
import Derived.Test.YtbbckjpgmpfkgaaDoorVer5
import Derived.Deep.RegionHeld3
namespace Go.Proofs.YtbbckjpgmpfkgaaDoor
open Go.RowKit
set_option maxRecDepth 100000

theorem puts_built : Tryd.prog.built 23 [] = some (bs zero32).toArray := by kernel_rfl

set_option maxHeartbeats 4000000 in
theorem walkVersionPuts (w : World) (hT : Tab w 0) (a : Option Addr) (n c : Nat) (l : List Vn) (hr : RdV w a n c l) :
    Calls Tryd.prog 7 #[.slice a n c] w (Yes7 w) := by
  have hB0 := Below.refl w.heap.size w
  by_cases hn : n ≤ 1000
  · have hn' : ¬ (1000 : Int) < (n : Int) := by omega
    have PS := Lib.hid (fun W : World => puts_any W)
    have DG := Lib.hid (fun (W : World) (h : Below w.heap.size w W) => vdig_any W (hT.below h) a n c l (hr.below h))
    have hDL := digV_length l
    cases hi : isB l with
    | false =>
      have P1 := Lib.hid (fun (W : World) (h : Below w.heap.size w W) => vput_no (hr.below h) hi)
      have P2 := Lib.hid (fun (W : World) (h : Below w.heap.size w W) => putR_no (hr.below h) hn hi)
      rw [show digV l = zero32 by rw [digV, hi]; rfl, show chkI l = 50 by rw [chkI, hi]; rfl] at DG
      go_enter Tryd.func7, Tryd.ntmps7
      go_wp2_with fail
      refine (P1.out _ hB0).mono ?_
      rintro e w1 ⟨rfl, hB1⟩
      go_wp2_with fail
      refine (P2.out _ hB1).mono ?_
      rintro e w2 ⟨rfl, hB2⟩
      have hB02 := Bt hB1 hB2
      go_wp2_with fail
      refine (DG.out _ hB02).mono ?_
      rintro e w3 ⟨rfl, hB3⟩
      have hB03 := Bt hB02 hB3
      have kz : ∀ W : World, _ := fun W => conv_zero W none 0
      go_wp2_with (first | ((with_reducible refine wpList_allocD (o := ⟨some 7, _, _, _, _, _⟩) rfl ?_ ?_); rfl; intro w4 hd4 hg4 hs4) | ((with_reducible refine wpList_storeD (o := ⟨none, _, _, _, _, _⟩) rfl (.tmp 7) (.tmp 27) ?_ ?_ ?_ hd4 zero32_length zero32_length ?_); rfl; rfl; rfl; intro w5 hd5 hg5 hs5; have kz5 := conv_zero w5 none 0))
      have hB5 : Below w3.heap.size w3 w5 := ((Below.refl _ w3).grown hg4 (Nat.le_refl _) (fun k e => by cases e)).grown hg5 (by omega) (fun k e => by cases e; omega)
      have hB05 := Bt hB03 hB5
      refine (PS.out _).mono ?_
      rintro e w6 ⟨rfl, hB6⟩
      have hd6 : Blk w6 w3.heap.size 23 (bs zero32) := ⟨(hB6.block _ (lt_of_block hd5)).trans hd5⟩
      have E6 := eqInD w6 zero32 zero32 zero32_length zero32_length
      rw [show (zero32 == zero32) = true from by decide] at E6
      have HB := Lib.hid puts_built
      have H5 := Lib.hid (show (Tryd.prog.info? 23).map (·.size) = some (bs zero32).length by rw [info_digest, bs_length, zero32_length])
      go_wp2_with (first | ((with_reducible refine wpList_loadH (o := ⟨some 48, _, _, _, _, _⟩) ?_ 23 (.tmp 7) ?_ ?_ hd6 Tryd.underlying23 ?_ H5.out ?_); rfl; rfl; rfl; rfl) | ((with_reducible refine wpList_buildZ (o := ⟨some 49, _, _, _, _, _⟩) ?_ ?_ ?_); rfl; rfl))
      go_ret
      exact Yes7.mk (Bt hB05 hB6)
    | true =>
      have P1 := Lib.hid (fun (W : World) (h : Below w.heap.size w W) => vput_yes (hr.below h) hi)
      have P2 := Lib.hid (fun (W : World) (h : Below w.heap.size w W) => putR_yes (hr.below h) hn hi)
      have G1 := Lib.hid (fun (W : World) (a : Option Addr) (m c : Nat) (h : Rd W a m c (encV l)) (h1 : m ≤ 1099511627776) => vget_some h h1 (getV_enc hi))
      have HL : Hid ((encV l).length ≤ 2000000) := Lib.hid (by
        have h16 := isB_len hi
        have h1 := encVs_le (isB_puts hi) l.length (Nat.le_refl _)
        rw [List.take_length] at h1
        have h2 := encC_len l.length (by omega)
        rw [encV, List.length_append]
        omega)
      have SM := Lib.hid (fun (W : World) (m : Nat) (a1 : Option Addr) (c1 : Nat) (h' : RdV W a1 m c1 l) (h : RdV W a n c l) => sameV_any W a1 m c1 l h' a n c l h)
      rw [show decide (l = l) = true from decide_eq_true rfl] at SM
      have SU := Lib.hid (fun (W : World) (a1 : Option Addr) (m1 c1 : Nat) (h : Rd W a1 m1 c1 (encV l)) (h1 : m1 ≤ 576460752303423488) (h2 : Below w.heap.size w W) => sum_any W a1 m1 c1 (encV l) h (hT.below h2) h1)
      rw [show digV l = sha (encV l) by rw [digV, hi]; rfl] at DG hDL
      rw [show chkI l = 0 by rw [chkI, hi]; rfl] at DG
      generalize sha (encV l) = D at *
      generalize encV l = E at *
      go_enter Tryd.func7, Tryd.ntmps7
      go_wp2_with fail
      refine (P1.out _ hB0).mono ?_
      rintro e w1 ⟨a1, m1, c1, rfl, hm1, hO1, hB1⟩
      have hR1 := hO1.rd
      go_wp2_with fail
      refine (P2.out _ hB1).mono ?_
      rintro e w2 ⟨a2, m2, c2, rfl, hm2, hO2, hB2⟩
      have hB02 := Bt hB1 hB2
      have hR2 := hO2.rd
      have hR12 := hR1.below hB2
      go_wp2_with fail
      refine (DG.out _ hB02).mono ?_
      rintro e w3 ⟨rfl, hB3⟩
      have hB03 := Bt hB02 hB3
      have hR3 := hR12.below hB3
      have hR23 := hR2.below hB3
      clear hO1 hO2 hR1 hR2 hR12 DG P1 P2
      go_wp2_with (first | ((with_reducible refine wpList_allocD (o := ⟨some 7, _, _, _, _, _⟩) rfl ?_ ?_); rfl; intro w4 hd4 hg4 hs4) | ((with_reducible refine wpList_storeD (o := ⟨none, _, _, _, _, _⟩) rfl (.tmp 7) (.tmp 27) ?_ ?_ ?_ hd4 hDL zero32_length ?_); rfl; rfl; rfl; intro w5 hd5 hg5 hs5; have hB5 : Below w3.heap.size w3 w5 := ((Below.refl _ w3).grown hg4 (Nat.le_refl _) (fun k e => by cases e)).grown hg5 (by omega) (fun k e => by cases e; omega); have k1 := (hR3.below hB5).conv; have k2 := (hR23.below hB5).conv))
      have hB05 := Bt hB03 hB5
      have hR5 := hR3.below hB5
      have hm1' : m1 ≤ 2000000 := by rw [hm1.out]; exact HL.out
      have hd5' : Blk w5 w3.heap.size 23 (bs D) := ⟨hd5⟩
      clear k1 k2 hR3 hR23 hd4 hg4 hg5 hs4 hs5 hd5
      refine (G1.out _ _ _ _ hR5 (by omega)).mono ?_
      rintro e w6 ⟨a6, m6, c6, rfl, hm6, hV6, hB6⟩
      have hB06 := Bt hB05 hB6
      have hd6 := hd5'.below hB6
      have hR6 := hR5.below hB6
      have H5 := Lib.hid (show (Tryd.prog.info? 23).map (·.size) = some (bs D).length by rw [info_digest, bs_length, hDL])
      have RE := Lib.hid (fun W : World => eqD W D D hDL hDL)
      rw [beq_self_eq_true] at RE
      have SU6 := Lib.hid (fun (W : World) (h : Below w6.heap.size w6 W) => SU.out W a1 m1 c1 (hR6.below h) (by omega) (Bt hB06 h))
      have SM6 := Lib.hid (fun (W : World) (h : Below w6.heap.size w6 W) => SM.out W m6 a6 c6 (hV6.below h) (hr.below (Bt hB06 h)))
      generalize hB7 : w3.heap.size = B7 at *
      go_wp2_with fail
      -- REGION putsX 6
      refine wp_region_held_drew (S := fun W => Below w6.heap.size w6 W) (by kernel_rfl) ((Below.refl _ w6).drew) (fun hHeld => ?_)
      refine wpAnyH_ready (rs := [0]) (by kernel_rfl) (by simp) ?_
      refine AllReadyH.cons (o := ⟨some 57, .call { callee := .value (.func 23), args := #[], argTypes := #[] }, _, _, _, none⟩) rfl (fun K hK => ?_) AllReadyH.nil
      refine step_ofR (by rfl) ?_
      go_simp
      refine (PS.out _).mono ?_
      rintro x W1 ⟨rfl, hB1⟩
      refine hK.out _ _ (Bt hHeld hB1) (fun hHeld => ?_)
      clear hK K
      try simp only [Act.put, List.setIfInBounds_toArray, List.set_cons_zero, List.set_cons_succ]
      refine wpAnyH_take (i := 1) (oi := ⟨some 58, .move (.tmp 57), _, _, _, none⟩) (v := ?_) rfl (by kernel_rfl) (by kernel_rfl) (by kernel_rfl) (fun _ _ _ h => h) (Or.inl ⟨by rfl, ?_⟩) hHeld ?_
      rotate_left
      · intro W _; go_simp; try with_reducible rfl
      try simp only [Act.put, List.setIfInBounds_toArray, List.set_cons_zero, List.set_cons_succ]
      refine wpAnyH_take (i := 2) (oi := ⟨some 59, .load 23 (.tmp 7), _, _, _, some (1, true)⟩) (v := .agg (bs D).toArray) rfl (by kernel_rfl) (by kernel_rfl) (by kernel_rfl) (fun _ _ _ h => h) (yieldsIf_load_mid (by rfl) _ _ rfl B7 0 rfl (bs D) _ (fun W h => (hd6.below h).allR) Tryd.underlying23 rfl H5.out) hHeld ?_
      try simp only [Act.put, List.setIfInBounds_toArray, List.set_cons_zero, List.set_cons_succ]
      refine wpAnyH_take (i := 3) (oi := ⟨some 60, .move (.tmp 3), _, _, _, some (1, true)⟩) (v := ?_) rfl (by kernel_rfl) (by kernel_rfl) (by kernel_rfl) (fun _ _ _ h => h) (Or.inl ⟨by rfl, ?_⟩) hHeld ?_
      rotate_left
      · intro W _; go_simp; try with_reducible rfl
      try simp only [Act.put, List.setIfInBounds_toArray, List.set_cons_zero, List.set_cons_succ]
      refine wpAnyH_ready (rs := [4]) (by kernel_rfl) (by simp) ?_
      refine AllReadyH.cons (o := ⟨some 61, .call { callee := .value (.func 25), args := #[.tmp 60], argTypes := #[35] }, _, _, _, some (1, true)⟩) rfl (fun K hK => ?_) AllReadyH.nil
      refine step_ofR (by rfl) ?_
      go_simp
      refine (SU6.out _ hHeld).mono ?_
      rintro x W1 ⟨rfl, hB1⟩
      refine hK.out _ _ (Bt hHeld hB1) (fun hHeld => ?_)
      clear hK K
      try simp only [Act.put, List.setIfInBounds_toArray, List.set_cons_zero, List.set_cons_succ]
      refine wpAnyH_take (i := 5) (oi := ⟨some 62, .binOp .eql 23 (.tmp 59) (.tmp 61) 23, _, _, _, some (1, true)⟩) (v := .bool true) rfl (by kernel_rfl) (by kernel_rfl) (by kernel_rfl) (fun _ _ _ h => h) (yieldsIf_eqH (by rfl) .eql 23 23 (.tmp 59) (.tmp 61) rfl _ _ rfl rfl guardH _ RE.out) hHeld ?_
      try simp only [Act.put, List.setIfInBounds_toArray, List.set_cons_zero, List.set_cons_succ]
      refine wpAnyH_take (i := 6) (oi := ⟨some 63, .pick (.tmp 58) (.tmp 62) (.const (.bool false)), _, _, _, none⟩) (v := ?_) rfl (by kernel_rfl) (by kernel_rfl) (by kernel_rfl) (fun _ _ _ h => h) (Or.inl ⟨by rfl, ?_⟩) hHeld ?_
      rotate_left
      · intro W _; go_simp; try with_reducible rfl
      try simp only [Act.put, List.setIfInBounds_toArray, List.set_cons_zero, List.set_cons_succ]
      refine wpAnyH_take (i := 7) (oi := ⟨some 64, .move (.tmp 63), _, _, _, none⟩) (v := ?_) rfl (by kernel_rfl) (by kernel_rfl) (by kernel_rfl) (fun _ _ _ h => h) (Or.inl ⟨by rfl, ?_⟩) hHeld ?_
      rotate_left
      · intro W _; go_simp; try with_reducible rfl
      try simp only [Act.put, List.setIfInBounds_toArray, List.set_cons_zero, List.set_cons_succ]
      refine wpAnyH_take (i := 8) (oi := ⟨some 65, .move (.tmp 10), _, _, _, some (7, true)⟩) (v := ?_) rfl (by kernel_rfl) (by kernel_rfl) (by kernel_rfl) (fun _ _ _ h => h) (Or.inl ⟨by rfl, ?_⟩) hHeld ?_
      rotate_left
      · intro W _; go_simp; try with_reducible rfl
      try simp only [Act.put, List.setIfInBounds_toArray, List.set_cons_zero, List.set_cons_succ]
      refine wpAnyH_take (i := 9) (oi := ⟨some 66, .binOp .eql 30 (.tmp 65) (.const (.int .i64 0)) 30, _, _, _, some (7, true)⟩) (v := ?_) rfl (by kernel_rfl) (by kernel_rfl) (by kernel_rfl) (fun _ _ _ h => h) (Or.inl ⟨by rfl, ?_⟩) hHeld ?_
      rotate_left
      · intro W _; go_simp; try with_reducible rfl
      try simp only [Act.put, List.setIfInBounds_toArray, List.set_cons_zero, List.set_cons_succ]
      refine wpAnyH_take (i := 10) (oi := ⟨some 67, .pick (.tmp 64) (.tmp 66) (.const (.bool false)), _, _, _, none⟩) (v := ?_) rfl (by kernel_rfl) (by kernel_rfl) (by kernel_rfl) (fun _ _ _ h => h) (Or.inl ⟨by rfl, ?_⟩) hHeld ?_
      rotate_left
      · intro W _; go_simp; try with_reducible rfl
      try simp only [Act.put, List.setIfInBounds_toArray, List.set_cons_zero, List.set_cons_succ]
      refine wpAnyH_take (i := 11) (oi := ⟨some 68, .move (.tmp 67), _, _, _, none⟩) (v := ?_) rfl (by kernel_rfl) (by kernel_rfl) (by kernel_rfl) (fun _ _ _ h => h) (Or.inl ⟨by rfl, ?_⟩) hHeld ?_
      rotate_left
      · intro W _; go_simp; try with_reducible rfl
      try simp only [Act.put, List.setIfInBounds_toArray, List.set_cons_zero, List.set_cons_succ]
      refine wpAnyH_take (i := 12) (oi := ⟨some 69, .move (.tmp 9), _, _, _, some (11, true)⟩) (v := ?_) rfl (by kernel_rfl) (by kernel_rfl) (by kernel_rfl) (fun _ _ _ h => h) (Or.inl ⟨by rfl, ?_⟩) hHeld ?_
      rotate_left
      · intro W _; go_simp; try with_reducible rfl
      try simp only [Act.put, List.setIfInBounds_toArray, List.set_cons_zero, List.set_cons_succ]
      refine wpAnyH_take (i := 13) (oi := ⟨some 70, .move (.tmp 0), _, _, _, some (11, true)⟩) (v := ?_) rfl (by kernel_rfl) (by kernel_rfl) (by kernel_rfl) (fun _ _ _ h => h) (Or.inl ⟨by rfl, ?_⟩) hHeld ?_
      rotate_left
      · intro W _; go_simp; try with_reducible rfl
      try simp only [Act.put, List.setIfInBounds_toArray, List.set_cons_zero, List.set_cons_succ]
      refine wpAnyH_ready (rs := [14]) (by kernel_rfl) (by simp) ?_
      refine AllReadyH.cons (o := ⟨some 71, .call { callee := .value (.func 26), args := #[.tmp 69, .tmp 70], argTypes := #[48, 48] }, _, _, _, some (11, true)⟩) rfl (fun K hK => ?_) AllReadyH.nil
      refine step_ofR (by rfl) ?_
      go_simp
      refine (SM6.out _ hHeld).mono ?_
      rintro x W1 ⟨rfl, hB1⟩
      refine hK.out _ _ (Bt hHeld hB1) (fun hHeld => ?_)
      clear hK K
      try simp only [Act.put, List.setIfInBounds_toArray, List.set_cons_zero, List.set_cons_succ]
      refine wpAnyH_take (i := 15) (oi := ⟨some 72, .pick (.tmp 68) (.tmp 71) (.const (.bool false)), _, _, _, none⟩) (v := ?_) rfl (by kernel_rfl) (by kernel_rfl) (by kernel_rfl) (fun _ _ _ h => h) (Or.inl ⟨by rfl, ?_⟩) hHeld ?_
      rotate_left
      · intro W _; go_simp; try with_reducible rfl
      try simp only [Act.put, List.setIfInBounds_toArray, List.set_cons_zero, List.set_cons_succ]
      refine wpAnyH_take (i := 16) (oi := ⟨some 2, .assign (.tmp 72), _, _, _, none⟩) (v := ?_) rfl (by kernel_rfl) (by kernel_rfl) (by kernel_rfl) (fun _ _ _ h => h) (Or.inl ⟨by rfl, ?_⟩) hHeld ?_
      rotate_left
      · intro W _; go_simp; try with_reducible rfl
      try simp only [Act.put, List.setIfInBounds_toArray, List.set_cons_zero, List.set_cons_succ]
      refine wpAnyH_done (by kernel_rfl) ?_ _
      -- END putsX
      go_wp2_with fail
      go_ret
      exact Yes7.mk (Bt hB06 hHeld)
  · have hn' : (1000 : Int) < (n : Int) := by omega
    go_enter Tryd.func7, Tryd.ntmps7
    go_wp2_with fail
    go_ret
    exact Yes7.mk hB0
end Go.Proofs.YtbbckjpgmpfkgaaDoor
