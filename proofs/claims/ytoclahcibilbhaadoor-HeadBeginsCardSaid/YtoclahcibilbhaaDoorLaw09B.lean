/-
  The statements HeadBytes, HeadSigns, HeadChecks of layer 9.
-/
import Derived.Test.YtoclahcibilbhaaDoorHedC
import Derived.Test.YtoclahcibilbhaaDoorHedR
import Derived.Test.YtoclahcibilbhaaDoorHedL
namespace Go.Proofs.YtoclahcibilbhaaDoor
open Go.RowKit
set_option maxRecDepth 100000

abbrev kK : ByteArray := ⟨#[107]⟩
abbrev kL : ByteArray := ⟨#[108]⟩
theorem may_K : mayH kK hOne = true := by decide
theorem may_L : mayH kL hOne = true := by decide
theorem hmac_KL : (hmac (byt kL) (encH hOne) == hmac (byt kK) (encH hOne)) = false := by
  rw [encH_hOne]
  decide +kernel
theorem sgnP_K : sgnP kK hOne = (sgnI kK hOne, 0) := by rw [sgnP, may_K]; rfl
theorem sgnI_hd (k : ByteArray) (x : Hd) : (sgnI k x).hd = x := rfl
theorem chk_KK : chkH kK (sgnI kK hOne) = 0 := by
  unfold chkH
  rw [sgnI_hd, may_K]
  simp [sgnI]
theorem chk_KL : chkH kL (sgnI kK hOne) = 81 := by
  unfold chkH
  rw [sgnI_hd, may_L]
  simp only [if_true, sgnI, hmac_KL]
  rfl
theorem chk_self {k : ByteArray} {x : Hd} (h : mayH k x = true) : chkH k (sgnI k x) = 0 := by
  unfold chkH
  rw [sgnI_hd, h]
  simp [sgnI]

set_option maxHeartbeats 2000000 in
theorem signs_any (w : World) (hT : Tab w 0) : Calls Tryd.prog 16 #[] w fun e w' => e = .returned (.bool true) ∧ Below w.heap.size w w' := by
  have HT := Lib.hid (fun W (h : Below w.heap.size w W) => hT.below h)
  have hok : (sgnI kK hOne).ok := sgnI_ok kK hOne_ok
  have HOK := Lib.hid hok
  have IX : Hid ((Tryd.prog.info? 36).map (·.size) = some (sgc (sgnI kK hOne)).length) := Lib.hid (by rw [sgc_length hok]; exact info_signed)
  have IH : Hid ((Tryd.prog.info? 25).map (·.size) = some (hdc hOne).length) := Lib.hid (by rw [hdc_length hOne_ok]; exact info_head0)
  have HLX : Hid ((sgc sgz).length = (sgc (sgnI kK hOne)).length) := Lib.hid (by rw [sgc_length hok, sgc_length sgz_ok])
  have HOX : Hid (∀ v ∈ sgc (sgnI kK hOne), v.oneCell' = true) := Lib.hid (sgc_one _)
  have C1 := Lib.hid (fun W (h : Below w.heap.size w W) => hcheck_any W (hT.below h) kK (sgnI kK hOne) hok)
  have C2 := Lib.hid (fun W (h : Below w.heap.size w W) => hcheck_any W (hT.below h) kL (sgnI kK hOne) hok)
  have S1 := Lib.hid (fun W (h : Below w.heap.size w W) => hsign_any W (hT.below h) kK hOne hOne_ok)
  rw [chk_KK] at C1
  rw [chk_KL] at C2
  rw [sgnP_K] at S1
  have HHD : Hid ((sgnI kK hOne).hd = hOne) := Lib.hid rfl
  clear hT hok
  generalize sgnI kK hOne = y at *
  go_enter Tryd.func16, Tryd.ntmps16
  go_wp2_with fail
  refine (first_any w).mono ?_
  rintro e w1 ⟨rfl, hB1⟩
  go_wp2_with fail
  refine (S1.out w1 hB1).mono ?_
  rintro e w2 ⟨rfl, hB2⟩
  have HB2 := Lib.hid (Bt hB1 hB2)
  clear hB1 hB2 S1
  go_wp2_with (first
    | ((with_reducible refine wpList_allocB (o := ⟨some 1, _, _, _, _, _⟩) ?_ 36 ?_ sgz_info ?_); rfl; rfl; intro w3 hd3 hg3 hz3)
    | ((with_reducible refine wpList_storeB (o := ⟨none, .store 36 (.tmp 1) (.tmp 8), _, _, _, _⟩) ?_ 36 (.tmp 1) (.tmp 8) ?_ ?_ ?_ hd3 IX.out HLX.out HOX.out ?_); rfl; rfl; rfl; rfl; intro w4 hd4 hg4 hz4; have HB4 := Lib.hid ((HB2.out.grown hg3 HB2.out.size (by simp)).grown hg4 (by have := HB2.out.size; omega) (fun k e => by cases e; exact HB2.out.size)))
    | ((with_reducible refine wpList_loadB (o := ⟨some 10, _, _, _, _, _⟩) ?_ 36 (.tmp 1) ?_ ?_ hd4 Tryd.underlying36 ?_ IX.out ?_); rfl; rfl; rfl; rfl))
  refine (C1.out w4 HB4.out).mono ?_
  rintro e w5 ⟨rfl, hB5⟩
  have hd5 := hd4.below hB5
  have HB5 := Lib.hid (Bt HB4.out hB5)
  clear hd3 hd4 hg3 hg4 hz3 hz4 hB5 HB4 C1
  generalize hR : w2.heap.size = R at *
  clear hR
  go_wp2_with (first
    | ((with_reducible refine wpList_loadB (o := ⟨some 12, _, _, _, _, _⟩) ?_ 36 (.tmp 1) ?_ ?_ hd5 Tryd.underlying36 ?_ IX.out ?_); rfl; rfl; rfl; rfl))
  refine (C2.out w5 HB5.out).mono ?_
  rintro e w6 ⟨rfl, hB6⟩
  have hd6 := hd5.below hB6
  have HB6 := Lib.hid (Bt HB5.out hB6)
  clear hd5 hB6 HB5 C2
  go_wp2_with fail
  -- REGION signs 2
  refine wp_region_held_drew (S := fun W => Below w6.heap.size w6 W) (by kernel_rfl) ((Below.refl _ w6).drew) (fun hHeld => ?_)
  refine wpAnyH_take (i := 0) (oi := ⟨some 14, .move (.tmp 2), _, _, _, none⟩) (v := ?_) rfl (by kernel_rfl) (by kernel_rfl) (by kernel_rfl) (fun _ _ _ h => h) (Or.inl ⟨by rfl, ?_⟩) hHeld ?_
  rotate_left
  · intro W _; go_simp; try with_reducible rfl
  try simp only [Act.put, List.setIfInBounds_toArray, List.set_cons_zero, List.set_cons_succ]
  refine wpAnyH_take (i := 1) (oi := ⟨some 15, .binOp .eql 27 (.tmp 14) (.const (.int .i64 0)) 27, _, _, _, none⟩) (v := ?_) rfl (by kernel_rfl) (by kernel_rfl) (by kernel_rfl) (fun _ _ _ h => h) (Or.inl ⟨by rfl, ?_⟩) hHeld ?_
  rotate_left
  · intro W _; go_simp; try with_reducible rfl
  try simp only [Act.put, List.setIfInBounds_toArray, List.set_cons_zero, List.set_cons_succ]
  refine wpAnyH_take (i := 2) (oi := ⟨some 16, .move (.tmp 15), _, _, _, none⟩) (v := ?_) rfl (by kernel_rfl) (by kernel_rfl) (by kernel_rfl) (fun _ _ _ h => h) (Or.inl ⟨by rfl, ?_⟩) hHeld ?_
  rotate_left
  · intro W _; go_simp; try with_reducible rfl
  try simp only [Act.put, List.setIfInBounds_toArray, List.set_cons_zero, List.set_cons_succ]
  refine wpAnyH_take (i := 3) (oi := ⟨some 17, .move (.tmp 3), _, _, _, some (2, true)⟩) (v := ?_) rfl (by kernel_rfl) (by kernel_rfl) (by kernel_rfl) (fun _ _ _ h => h) (Or.inl ⟨by rfl, ?_⟩) hHeld ?_
  rotate_left
  · intro W _; go_simp; try with_reducible rfl
  try simp only [Act.put, List.setIfInBounds_toArray, List.set_cons_zero, List.set_cons_succ]
  refine wpAnyH_take (i := 4) (oi := ⟨some 18, .binOp .eql 27 (.tmp 17) (.const (.int .i64 0)) 27, _, _, _, some (2, true)⟩) (v := ?_) rfl (by kernel_rfl) (by kernel_rfl) (by kernel_rfl) (fun _ _ _ h => h) (Or.inl ⟨by rfl, ?_⟩) hHeld ?_
  rotate_left
  · intro W _; go_simp; try with_reducible rfl
  try simp only [Act.put, List.setIfInBounds_toArray, List.set_cons_zero, List.set_cons_succ]
  refine wpAnyH_take (i := 5) (oi := ⟨some 19, .pick (.tmp 16) (.tmp 18) (.const (.bool false)), _, _, _, none⟩) (v := ?_) rfl (by kernel_rfl) (by kernel_rfl) (by kernel_rfl) (fun _ _ _ h => h) (Or.inl ⟨by rfl, ?_⟩) hHeld ?_
  rotate_left
  · intro W _; go_simp; try with_reducible rfl
  try simp only [Act.put, List.setIfInBounds_toArray, List.set_cons_zero, List.set_cons_succ]
  refine wpAnyH_take (i := 6) (oi := ⟨some 20, .move (.tmp 19), _, _, _, none⟩) (v := ?_) rfl (by kernel_rfl) (by kernel_rfl) (by kernel_rfl) (fun _ _ _ h => h) (Or.inl ⟨by rfl, ?_⟩) hHeld ?_
  rotate_left
  · intro W _; go_simp; try with_reducible rfl
  try simp only [Act.put, List.setIfInBounds_toArray, List.set_cons_zero, List.set_cons_succ]
  refine wpAnyH_take (i := 7) (oi := ⟨some 21, .move (.tmp 4), _, _, _, some (6, true)⟩) (v := ?_) rfl (by kernel_rfl) (by kernel_rfl) (by kernel_rfl) (fun _ _ _ h => h) (Or.inl ⟨by rfl, ?_⟩) hHeld ?_
  rotate_left
  · intro W _; go_simp; try with_reducible rfl
  try simp only [Act.put, List.setIfInBounds_toArray, List.set_cons_zero, List.set_cons_succ]
  refine wpAnyH_take (i := 8) (oi := ⟨some 22, .binOp .eql 27 (.tmp 21) (.const (.int .i64 81)) 27, _, _, _, some (6, true)⟩) (v := ?_) rfl (by kernel_rfl) (by kernel_rfl) (by kernel_rfl) (fun _ _ _ h => h) (Or.inl ⟨by rfl, ?_⟩) hHeld ?_
  rotate_left
  · intro W _; go_simp; try with_reducible rfl
  try simp only [Act.put, List.setIfInBounds_toArray, List.set_cons_zero, List.set_cons_succ]
  refine wpAnyH_take (i := 9) (oi := ⟨some 23, .pick (.tmp 20) (.tmp 22) (.const (.bool false)), _, _, _, none⟩) (v := ?_) rfl (by kernel_rfl) (by kernel_rfl) (by kernel_rfl) (fun _ _ _ h => h) (Or.inl ⟨by rfl, ?_⟩) hHeld ?_
  rotate_left
  · intro W _; go_simp; try with_reducible rfl
  try simp only [Act.put, List.setIfInBounds_toArray, List.set_cons_zero, List.set_cons_succ]
  refine wpAnyH_take (i := 10) (oi := ⟨some 24, .move (.tmp 23), _, _, _, none⟩) (v := ?_) rfl (by kernel_rfl) (by kernel_rfl) (by kernel_rfl) (fun _ _ _ h => h) (Or.inl ⟨by rfl, ?_⟩) hHeld ?_
  rotate_left
  · intro W _; go_simp; try with_reducible rfl
  try simp only [Act.put, List.setIfInBounds_toArray, List.set_cons_zero, List.set_cons_succ]
  refine wpAnyH_take (i := 11) (oi := ⟨some 25, .fieldAddr 36 (.tmp 1) 0, _, _, _, some (10, true)⟩) (v := ?_) rfl (by kernel_rfl) (by kernel_rfl) (by kernel_rfl) (fun _ _ _ h => h) (Or.inl ⟨by rfl, ?_⟩) hHeld ?_
  rotate_left
  · intro W _; go_simp; try with_reducible rfl
  try simp only [Act.put, List.setIfInBounds_toArray, List.set_cons_zero, List.set_cons_succ]
  refine wpAnyH_take (i := 12) (oi := ⟨some 26, .load 25 (.tmp 25), _, _, _, some (10, true)⟩) (v := .agg (hdc hOne).toArray) rfl (by kernel_rfl) (by kernel_rfl) (by kernel_rfl) (fun _ _ _ h => h) (yieldsIf_load_mid (by rfl) _ _ rfl R 0 rfl (hdc hOne) _ (fun W h => (HHD.out ▸ ((hd6.below h).sgp HOK.out).1)) Tryd.underlying25 rfl IH.out) hHeld ?_
  try simp only [Act.put, List.setIfInBounds_toArray, List.set_cons_zero, List.set_cons_succ]
  refine wpAnyH_ready (rs := [13]) (by kernel_rfl) (by simp) ?_
  refine AllReadyH.cons (o := ⟨some 27, .call { callee := .value (.func 28), args := #[], argTypes := #[] }, _, _, _, some (10, true)⟩) rfl (fun K hK => ?_) AllReadyH.nil
  refine step_ofR (by rfl) ?_
  go_simp
  refine (first_any _).mono ?_
  rintro x1 W1 ⟨rfl, hB1⟩
  refine hK.out _ _ (Bt hHeld hB1) (fun hHeld => ?_)
  clear hK K
  try simp only [Act.put, List.setIfInBounds_toArray, List.set_cons_zero, List.set_cons_succ]
  refine wpAnyH_take (i := 14) (oi := ⟨some 28, .binOp .eql 25 (.tmp 26) (.tmp 27) 25, _, _, _, some (10, true)⟩) (v := .bool true) rfl (by kernel_rfl) (by kernel_rfl) (by kernel_rfl) (fun _ _ _ h => h) (yieldsIf_eqH (by rfl) .eql 25 25 (.tmp 26) (.tmp 27) rfl _ _ rfl rfl guard_head _ (fun W => (eql_head W hOne hOne hOne_ok hOne_ok).trans (by rw [eqHd_self]))) hHeld ?_
  try simp only [Act.put, List.setIfInBounds_toArray, List.set_cons_zero, List.set_cons_succ]
  refine wpAnyH_take (i := 15) (oi := ⟨some 29, .pick (.tmp 24) (.tmp 28) (.const (.bool false)), _, _, _, none⟩) (v := ?_) rfl (by kernel_rfl) (by kernel_rfl) (by kernel_rfl) (fun _ _ _ h => h) (Or.inl ⟨by rfl, ?_⟩) hHeld ?_
  rotate_left
  · intro W _; go_simp; try with_reducible rfl
  try simp only [Act.put, List.setIfInBounds_toArray, List.set_cons_zero, List.set_cons_succ]
  refine wpAnyH_take (i := 16) (oi := ⟨some 0, .assign (.tmp 29), _, _, _, none⟩) (v := ?_) rfl (by kernel_rfl) (by kernel_rfl) (by kernel_rfl) (fun _ _ _ h => h) (Or.inl ⟨by rfl, ?_⟩) hHeld ?_
  rotate_left
  · intro W _; go_simp; try with_reducible rfl
  try simp only [Act.put, List.setIfInBounds_toArray, List.set_cons_zero]
  refine wpAnyH_done (by kernel_rfl) ?_ _
  -- END signs
  have HF := Lib.hid (Bt HB6.out hHeld)
  clear hHeld
  go_wp2_with fail
  go_ret
  exact ⟨rfl, HF.out⟩

set_option maxHeartbeats 2000000 in
theorem walkHeadSigns (w : World) (hT : Tab w 0) (hK : Tab w 1) (k : ByteArray) (_hk : k.size ≤ maxLen) (x : Hd) (hx : x.ok) :
    Calls Tryd.prog 4 #[.string k, .agg (hdc x).toArray] w (Yes9 w) := by
  have hb0 := Blk.new w 25 (hdc x)
  have hB0 : Below w.heap.size w (w.alloc (.cells (hdc x).toArray 25)) := (Below.refl _ w).alloc (Nat.le_refl _) _
  by_cases hl : (65536 : Int) < (k.size : Int)
  · go_enter Tryd.func4, Tryd.ntmps4
    go_wp2_with fail
    go_ret
    exact ⟨rfl, hB0⟩
  have IS : Hid ((Tryd.prog.info? 25).map (·.size) = some (hdc x).length) := Lib.hid (by rw [hdc_length hx]; exact info_head0)
  have hok := sgnP_ok k hx
  have HOK := Lib.hid hok
  have IX : Hid ((Tryd.prog.info? 36).map (·.size) = some (sgc (sgnP k x).1).length) := Lib.hid (by rw [sgc_length hok]; exact info_signed)
  have HLX : Hid ((sgc sgz).length = (sgc (sgnP k x).1).length) := Lib.hid (by rw [sgc_length hok, sgc_length sgz_ok])
  have HOX : Hid (∀ v ∈ sgc (sgnP k x).1, v.oneCell' = true) := Lib.hid (sgc_one _)
  have S1 := Lib.hid (fun W (h : Below w.heap.size w W) => hsign_any W (hT.below h) k x hx)
  have S2 := Lib.hid (fun W (h : Below w.heap.size w W) => rsign_any W (hK.below h) k x hx)
  have SG := Lib.hid (fun W (h : Below w.heap.size w W) => signs_any W (hT.below h))
  clear hT hK hok
  generalize (sgnP k x).1 = y at *
  generalize (sgnP k x).2 = er at *
  have HEQ := Lib.hid (fun W : World => eql_signed W y y HOK.out HOK.out)
  rw [eqSg_self] at HEQ
  go_enter Tryd.func4, Tryd.ntmps4
  go_wp2_with ((with_reducible refine wpList_loadB (o := ⟨some 14, _, _, _, _, _⟩) ?_ 25 (.tmp 3) ?_ ?_ hb0 Tryd.underlying25 ?_ IS.out ?_); rfl; rfl; rfl; rfl)
  clear hl
  generalize w.alloc (.cells (hdc x).toArray 25) = w0 at *
  refine (S1.out w0 hB0).mono ?_
  rintro e w1 ⟨rfl, hB1⟩
  have hb1 := hb0.below hB1
  have HB1 := Lib.hid (Bt hB0 hB1)
  clear hb0 hB0 hB1 S1
  go_wp2_with (first
    | ((with_reducible refine wpList_allocB (o := ⟨some 5, _, _, _, _, _⟩) ?_ 36 ?_ sgz_info ?_); rfl; rfl; intro w2 hd2 hg2 hz2)
    | ((with_reducible refine wpList_storeB (o := ⟨none, .store 36 (.tmp 5) (.tmp 16), _, _, _, _⟩) ?_ 36 (.tmp 5) (.tmp 16) ?_ ?_ ?_ hd2 IX.out HLX.out HOX.out ?_); rfl; rfl; rfl; rfl; intro w3 hd3 hg3 hz3; have hb3 := (hb1.grown hg2 (by simp)).grown hg3 (by have := hb1.lt; simp; omega); have HB3 := Lib.hid ((HB1.out.grown hg2 HB1.out.size (by simp)).grown hg3 (by have := HB1.out.size; omega) (fun k e => by cases e; exact HB1.out.size)))
    | ((with_reducible refine wpList_loadB (o := ⟨some 20, _, _, _, _, _⟩) ?_ 25 (.tmp 3) ?_ ?_ hb3 Tryd.underlying25 ?_ IS.out ?_); rfl; rfl; rfl; rfl))
  refine (S2.out w3 HB3.out).mono ?_
  rintro e w4 ⟨rfl, hB4⟩
  have hd4 := hd3.below hB4
  have HB4 := Lib.hid (Bt HB3.out hB4)
  clear hb1 hd2 hg2 hz2 hd3 hg3 hz3 hb3 HB3 hB4 S2
  generalize hR : w1.heap.size = R at *
  clear hR
  go_wp2_with (first
    | ((with_reducible refine wpList_allocB (o := ⟨some 7, _, _, _, _, _⟩) ?_ 36 ?_ sgz_info ?_); rfl; rfl; intro w5 he5 hg5 hz5)
    | ((with_reducible refine wpList_storeB (o := ⟨none, .store 36 (.tmp 7) (.tmp 22), _, _, _, _⟩) ?_ 36 (.tmp 7) (.tmp 22) ?_ ?_ ?_ he5 IX.out HLX.out HOX.out ?_); rfl; rfl; rfl; rfl; intro w6 he6 hg6 hz6; have hd6 := (hd4.grown hg5 (by simp)).grown hg6 (by have := hd4.lt; simp; omega); have HB6 := Lib.hid ((HB4.out.grown hg5 HB4.out.size (by simp)).grown hg6 (by have := HB4.out.size; omega) (fun k e => by cases e; exact HB4.out.size))))
  refine (SG.out w6 HB6.out).mono ?_
  rintro e w7 ⟨rfl, hB7⟩
  have he7 := he6.below hB7
  have hd7 := hd6.below hB7
  have HB7 := Lib.hid (Bt HB6.out hB7)
  clear hd4 he5 hg5 hz5 he6 hg6 hz6 hd6 HB6 hB7 SG
  generalize hR : w4.heap.size = R2 at *
  clear hR
  go_wp2_with (first
    | ((with_reducible refine wpList_loadR (o := ⟨some 26, _, _, _, _, _⟩) ?_ 36 (.tmp 5) ?_ ?_ hd7 Tryd.underlying36 ?_ IX.out ?_); rfl; rfl; rfl; rfl)
    | ((with_reducible refine wpList_loadR (o := ⟨some 27, _, _, _, _, _⟩) ?_ 36 (.tmp 7) ?_ ?_ he7 Tryd.underlying36 ?_ IX.out ?_); rfl; rfl; rfl; rfl)
    | ((with_reducible refine wpList_eqH (o := ⟨some 28, _, _, _, _, _⟩) ?_ .eql 36 36 (.tmp 26) (.tmp 27) ?_ (sgc y).toArray (sgc y).toArray ?_ ?_ guard_signed _ HEQ.out ?_); rfl; rfl; rfl; rfl))
  go_ret
  exact ⟨rfl, HB7.out⟩

set_option maxHeartbeats 2000000 in
theorem walkHeadChecks (w : World) (hT : Tab w 0) (hK : Tab w 1) (k : ByteArray) (_hk : k.size ≤ maxLen) (s : Sg) (hs : s.ok) :
    Calls Tryd.prog 5 #[.string k, .agg (sgc s).toArray] w (Yes9 w) := by
  have hb0 := Blk.new w 36 (sgc s)
  have hB0 : Below w.heap.size w (w.alloc (.cells (sgc s).toArray 36)) := (Below.refl _ w).alloc (Nat.le_refl _) _
  by_cases hl : (65536 : Int) < (k.size : Int)
  · go_enter Tryd.func5, Tryd.ntmps5
    go_wp2_with fail
    go_ret
    exact ⟨rfl, hB0⟩
  have IX : Hid ((Tryd.prog.info? 36).map (·.size) = some (sgc s).length) := Lib.hid (by rw [sgc_length hs]; exact info_signed)
  have C1 := Lib.hid (fun W (h : Below w.heap.size w W) => hcheck_any W (hT.below h) k s hs)
  have C2 := Lib.hid (fun W (h : Below w.heap.size w W) => rcheck_any W (hK.below h) k s hs)
  have SG := Lib.hid (fun W (h : Below w.heap.size w W) => signs_any W (hT.below h))
  clear hT hK
  generalize chkH k s = er at *
  go_enter Tryd.func5, Tryd.ntmps5
  go_wp2_with fail
  clear hl
  generalize w.alloc (.cells (sgc s).toArray 36) = w0 at *
  have HB0 := Lib.hid hB0
  clear hB0
  -- REGION checks 2
  refine wp_region_held_drew (S := fun W => Below w0.heap.size w0 W) (by kernel_rfl) ((Below.refl _ w0).drew) (fun hHeld => ?_)
  refine wpAnyH_ready (rs := [0]) (by kernel_rfl) (by simp) ?_
  refine AllReadyH.cons (o := ⟨some 8, .call { callee := .value (.func 16), args := #[], argTypes := #[] }, _, _, _, none⟩) rfl (fun K hK => ?_) AllReadyH.nil
  refine step_ofR (by rfl) ?_
  go_simp
  refine (SG.out _ (Bt HB0.out hHeld)).mono ?_
  rintro x1 W1 ⟨rfl, hB1⟩
  refine hK.out _ _ (Bt hHeld hB1) (fun hHeld => ?_)
  clear hK K
  try simp only [Act.put, List.setIfInBounds_toArray, List.set_cons_zero, List.set_cons_succ]
  refine wpAnyH_take (i := 1) (oi := ⟨some 9, .move (.tmp 8), _, _, _, none⟩) (v := ?_) rfl (by kernel_rfl) (by kernel_rfl) (by kernel_rfl) (fun _ _ _ h => h) (Or.inl ⟨by rfl, ?_⟩) hHeld ?_
  rotate_left
  · intro W _; go_simp; try with_reducible rfl
  try simp only [Act.put, List.setIfInBounds_toArray, List.set_cons_zero, List.set_cons_succ]
  refine wpAnyH_take (i := 2) (oi := ⟨some 10, .move (.tmp 0), _, _, _, some (1, true)⟩) (v := ?_) rfl (by kernel_rfl) (by kernel_rfl) (by kernel_rfl) (fun _ _ _ h => h) (Or.inl ⟨by rfl, ?_⟩) hHeld ?_
  rotate_left
  · intro W _; go_simp; try with_reducible rfl
  try simp only [Act.put, List.setIfInBounds_toArray, List.set_cons_zero, List.set_cons_succ]
  refine wpAnyH_take (i := 3) (oi := ⟨some 11, .load 36 (.tmp 3), _, _, _, some (1, true)⟩) (v := .agg (sgc s).toArray) rfl (by kernel_rfl) (by kernel_rfl) (by kernel_rfl) (fun _ _ _ h => h) (yieldsIf_load_mid (by rfl) _ _ rfl w.heap.size 0 rfl (sgc s) _ (fun W h => (hb0.below h).all0) Tryd.underlying36 rfl IX.out) hHeld ?_
  try simp only [Act.put, List.setIfInBounds_toArray, List.set_cons_zero, List.set_cons_succ]
  refine wpAnyH_take (i := 5) (oi := ⟨some 13, .move (.tmp 0), _, _, _, some (1, true)⟩) (v := ?_) rfl (by kernel_rfl) (by kernel_rfl) (by kernel_rfl) (fun _ _ _ h => h) (Or.inl ⟨by rfl, ?_⟩) hHeld ?_
  rotate_left
  · intro W _; go_simp; try with_reducible rfl
  try simp only [Act.put, List.setIfInBounds_toArray, List.set_cons_zero, List.set_cons_succ]
  refine wpAnyH_take (i := 6) (oi := ⟨some 14, .load 36 (.tmp 3), _, _, _, some (1, true)⟩) (v := .agg (sgc s).toArray) rfl (by kernel_rfl) (by kernel_rfl) (by kernel_rfl) (fun _ _ _ h => h) (yieldsIf_load_mid (by rfl) _ _ rfl w.heap.size 0 rfl (sgc s) _ (fun W h => (hb0.below h).all0) Tryd.underlying36 rfl IX.out) hHeld ?_
  try simp only [Act.put, List.setIfInBounds_toArray, List.set_cons_zero, List.set_cons_succ]
  refine wpAnyH_ready (rs := [4]) (by kernel_rfl) (by simp) ?_
  refine AllReadyH.cons (o := ⟨some 12, .call { callee := .value (.func 17), args := #[.tmp 10, .tmp 11], argTypes := #[9, 36] }, _, _, _, some (1, true)⟩) rfl (fun K hK => ?_) AllReadyH.nil
  refine step_ofR (by rfl) ?_
  go_simp
  refine (C1.out _ (Bt HB0.out hHeld)).mono ?_
  rintro x1 W1 ⟨rfl, hB1⟩
  refine hK.out _ _ (Bt hHeld hB1) (fun hHeld => ?_)
  clear hK K
  try simp only [Act.put, List.setIfInBounds_toArray, List.set_cons_zero, List.set_cons_succ]
  refine wpAnyH_ready (rs := [7]) (by kernel_rfl) (by simp) ?_
  refine AllReadyH.cons (o := ⟨some 15, .call { callee := .value (.func 18), args := #[.tmp 13, .tmp 14], argTypes := #[9, 36] }, _, _, _, some (1, true)⟩) rfl (fun K hK => ?_) AllReadyH.nil
  refine step_ofR (by rfl) ?_
  go_simp
  refine (C2.out _ (Bt HB0.out hHeld)).mono ?_
  rintro x1 W1 ⟨rfl, hB1⟩
  refine hK.out _ _ (Bt hHeld hB1) (fun hHeld => ?_)
  clear hK K
  try simp only [Act.put, List.setIfInBounds_toArray, List.set_cons_zero, List.set_cons_succ]
  refine wpAnyH_take (i := 8) (oi := ⟨some 16, .binOp .eql 27 (.tmp 12) (.tmp 15) 27, _, _, _, some (1, true)⟩) (v := ?_) rfl (by kernel_rfl) (by kernel_rfl) (by kernel_rfl) (fun _ _ _ h => h) (Or.inl ⟨by rfl, ?_⟩) hHeld ?_
  rotate_left
  · intro W _; go_simp; try with_reducible rfl
  try simp only [Act.put, List.setIfInBounds_toArray, List.set_cons_zero, List.set_cons_succ]
  refine wpAnyH_take (i := 9) (oi := ⟨some 17, .pick (.tmp 9) (.tmp 16) (.const (.bool false)), _, _, _, none⟩) (v := ?_) rfl (by kernel_rfl) (by kernel_rfl) (by kernel_rfl) (fun _ _ _ h => h) (Or.inl ⟨by rfl, ?_⟩) hHeld ?_
  rotate_left
  · intro W _; go_simp; try with_reducible rfl
  try simp only [Act.put, List.setIfInBounds_toArray, List.set_cons_zero, List.set_cons_succ]
  refine wpAnyH_take (i := 10) (oi := ⟨some 4, .assign (.tmp 17), _, _, _, none⟩) (v := ?_) rfl (by kernel_rfl) (by kernel_rfl) (by kernel_rfl) (fun _ _ _ h => h) (Or.inl ⟨by rfl, ?_⟩) hHeld ?_
  rotate_left
  · intro W _; go_simp; try with_reducible rfl
  try simp only [Act.put, List.setIfInBounds_toArray, List.set_cons_zero, List.set_cons_succ]
  refine wpAnyH_done (by kernel_rfl) ?_ _
  -- END checks
  have HF := Lib.hid (Bt HB0.out hHeld)
  clear hHeld
  go_wp2_with fail
  go_ret
  exact ⟨rfl, HF.out⟩

set_option maxHeartbeats 2000000 in
theorem walkHeadBytes (w : World) (hT : Tab w 0) (x : Hd) (hx : x.ok) :
    Calls Tryd.prog 3 #[.agg (hdc x).toArray] w (Yes9 w) := by
  have hb0 := Blk.new w 25 (hdc x)
  have hB0 : Below w.heap.size w (w.alloc (.cells (hdc x).toArray 25)) := (Below.refl _ w).alloc (Nat.le_refl _) _
  have IS : Hid ((Tryd.prog.info? 25).map (·.size) = some (hdc x).length) := Lib.hid (by rw [hdc_length hx]; exact info_head0)
  have ID : Hid ((Tryd.prog.info? 23).map (·.size) = some (bs (digH x)).length) := Lib.hid (by rw [info_digest, bs_length, digH_length])
  have HLD : Hid ((bs zero32).length = (bs (digH x)).length) := Lib.hid (by rw [bs_length, bs_length, zero32_length, digH_length])
  have HOD : Hid (∀ v ∈ bs (digH x), v.oneCell' = true) := Lib.hid (bs_one _)
  have HDL := Lib.hid (digH_length x)
  have DG := Lib.hid (fun W (h : Below w.heap.size w W) => hdig_any W (hT.below h) x hx)
  have HT := Lib.hid (fun W (h : Below w.heap.size w W) => hT.below h)
  cases hv : hvalid x with
  | false =>
    have P1 := Lib.hid (fun W => hbytes_no W x hx hv)
    have P2 := Lib.hid (fun W => rbytes_no W x hx hv)
    rw [show hErr x = 80 from by rw [hErr, hv]; rfl] at DG
    have HDZ : Hid (digH x = zero32) := Lib.hid (by rw [digH, hv]; rfl)
    clear hT hv
    generalize digH x = D at *
    go_enter Tryd.func3, Tryd.ntmps3
    go_wp2_with (first | ((with_reducible refine wpList_loadB (o := ⟨some 10, _, _, _, _, _⟩) ?_ 25 (.tmp 1) ?_ ?_ hb0 Tryd.underlying25 ?_ IS.out ?_); rfl; rfl; rfl; rfl))
    generalize w.alloc (.cells (hdc x).toArray 25) = w0 at *
    refine (P1.out w0).mono ?_
    rintro e w1 ⟨rfl, hB1⟩
    have hb1 := hb0.below hB1
    have HB1 := Lib.hid (Bt hB0 hB1)
    clear hb0 hB0 hB1 P1
    go_wp2_with (first | ((with_reducible refine wpList_loadB (o := ⟨some 15, _, _, _, _, _⟩) ?_ 25 (.tmp 1) ?_ ?_ hb1 Tryd.underlying25 ?_ IS.out ?_); rfl; rfl; rfl; rfl))
    refine (P2.out w1).mono ?_
    rintro e w2 ⟨rfl, hB2⟩
    have hb2 := hb1.below hB2
    have HB2 := Lib.hid (Bt HB1.out hB2)
    clear hb1 hB2 HB1 P2
    go_wp2_with (first | ((with_reducible refine wpList_loadB (o := ⟨some 20, _, _, _, _, _⟩) ?_ 25 (.tmp 1) ?_ ?_ hb2 Tryd.underlying25 ?_ IS.out ?_); rfl; rfl; rfl; rfl))
    refine (DG.out w2 HB2.out).mono ?_
    rintro e w3 ⟨rfl, hB3⟩
    have HB3 := Lib.hid (Bt HB2.out hB3)
    have k0 := fun W : World => conv_zero W none 0
    clear hb2 hB3 HB2 DG
    go_wp2_with (first
      | ((with_reducible refine wpList_allocB (o := ⟨some 7, _, _, _, _, _⟩) ?_ 23 ?_ zeroD_info ?_); rfl; rfl; intro w4 hd4 hg4 hz4)
      | ((with_reducible refine wpList_storeB (o := ⟨none, .store 23 (.tmp 7) (.tmp 22), _, _, _, _⟩) ?_ 23 (.tmp 7) (.tmp 22) ?_ ?_ ?_ hd4 ID.out HLD.out HOD.out ?_); rfl; rfl; rfl; rfl; intro w5 hd5 hg5 hz5; have HB5 := Lib.hid ((HB3.out.grown hg4 HB3.out.size (by simp)).grown hg5 (by have := HB3.out.size; omega) (fun k e => by cases e; exact HB3.out.size))))
    have hd6 := hd5
    generalize hR : w3.heap.size = R at *
    clear hd4 hg4 hz4 hg5 hz5 hd5 HB3 hR k0
    have HEQ := Lib.hid (fun W : World => eqD W D zero32 HDL.out zero32_length)
    rw [show (D == zero32) = true from by rw [HDZ.out]; exact beq_self_eq_true _] at HEQ
    -- REGION bytesN 4
    refine wp_region_held_drew (S := fun W => Below w5.heap.size w5 W) (by kernel_rfl) ((Below.refl _ w5).drew) (fun hHeld => ?_)
    refine wpAnyH_ready (rs := [0]) (by kernel_rfl) (by simp) ?_
    refine AllReadyH.cons (o := ⟨some 39, .call { callee := .value (.func 12), args := #[], argTypes := #[] }, _, _, _, none⟩) rfl (fun K hK => ?_) AllReadyH.nil
    refine step_ofR (by rfl) ?_
    go_simp
    refine (lays_any _).mono ?_
    rintro x1 W1 ⟨rfl, hB1⟩
    refine hK.out _ _ (Bt hHeld hB1) (fun hHeld => ?_)
    clear hK K
    try simp only [Act.put, List.setIfInBounds_toArray, List.set_cons_zero, List.set_cons_succ]
    refine wpAnyH_take (i := 1) (oi := ⟨some 40, .move (.tmp 39), _, _, _, none⟩) (v := ?_) rfl (by kernel_rfl) (by kernel_rfl) (by kernel_rfl) (fun _ _ _ h => h) (Or.inl ⟨by rfl, ?_⟩) hHeld ?_
    rotate_left
    · intro W _; go_simp; try with_reducible rfl
    try simp only [Act.put, List.setIfInBounds_toArray, List.set_cons_zero, List.set_cons_succ]
    refine wpAnyH_take (i := 2) (oi := ⟨some 41, .move (.tmp 4), _, _, _, some (1, true)⟩) (v := ?_) rfl (by kernel_rfl) (by kernel_rfl) (by kernel_rfl) (fun _ _ _ h => h) (Or.inl ⟨by rfl, ?_⟩) hHeld ?_
    rotate_left
    · intro W _; go_simp; try with_reducible rfl
    try simp only [Act.put, List.setIfInBounds_toArray, List.set_cons_zero, List.set_cons_succ]
    refine wpAnyH_take (i := 3) (oi := ⟨some 42, .binOp .neq 27 (.tmp 41) (.const (.int .i64 0)) 27, _, _, _, some (1, true)⟩) (v := ?_) rfl (by kernel_rfl) (by kernel_rfl) (by kernel_rfl) (fun _ _ _ h => h) (Or.inl ⟨by rfl, ?_⟩) hHeld ?_
    rotate_left
    · intro W _; go_simp; try with_reducible rfl
    try simp only [Act.put, List.setIfInBounds_toArray, List.set_cons_zero, List.set_cons_succ]
    refine wpAnyH_take (i := 4) (oi := ⟨some 43, .move (.tmp 42), _, _, _, some (1, true)⟩) (v := ?_) rfl (by kernel_rfl) (by kernel_rfl) (by kernel_rfl) (fun _ _ _ h => h) (Or.inl ⟨by rfl, ?_⟩) hHeld ?_
    rotate_left
    · intro W _; go_simp; try with_reducible rfl
    try simp only [Act.put, List.setIfInBounds_toArray, List.set_cons_zero, List.set_cons_succ]
    refine wpAnyH_take (i := 5) (oi := ⟨some 44, .load 23 (.tmp 7), _, _, _, some (4, true)⟩) (v := .agg (bs D).toArray) rfl (by kernel_rfl) (by kernel_rfl) (by kernel_rfl) (fun _ _ _ h => h) (yieldsIf_load_mid (by rfl) _ _ rfl R 0 rfl (bs D) _ (fun W h => (hd6.below h).all0) Tryd.underlying23 rfl ID.out) hHeld ?_
    try simp only [Act.put, List.setIfInBounds_toArray, List.set_cons_zero, List.set_cons_succ]
    refine wpAnyH_take (i := 6) (oi := ⟨some 45, .build 23 #[], _, _, _, some (4, true)⟩) (v := .agg (bs zero32).toArray) rfl (by kernel_rfl) (by kernel_rfl) (by kernel_rfl) (fun _ _ _ h => h) (yieldsIf_buildH (by rfl) _ _ rfl (ps := []) rfl built0) hHeld ?_
    try simp only [Act.put, List.setIfInBounds_toArray, List.set_cons_zero, List.set_cons_succ]
    refine wpAnyH_take (i := 7) (oi := ⟨some 46, .binOp .eql 23 (.tmp 44) (.tmp 45) 23, _, _, _, some (4, true)⟩) (v := .bool true) rfl (by kernel_rfl) (by kernel_rfl) (by kernel_rfl) (fun _ _ _ h => h) (yieldsIf_eqH (by rfl) .eql 23 23 (.tmp 44) (.tmp 45) rfl _ _ rfl rfl guardH _ HEQ.out) hHeld ?_
    try simp only [Act.put, List.setIfInBounds_toArray, List.set_cons_zero, List.set_cons_succ]
    refine wpAnyH_take (i := 8) (oi := ⟨some 47, .pick (.tmp 43) (.tmp 46) (.const (.bool false)), _, _, _, some (1, true)⟩) (v := ?_) rfl (by kernel_rfl) (by kernel_rfl) (by kernel_rfl) (fun _ _ _ h => h) (Or.inl ⟨by rfl, ?_⟩) hHeld ?_
    rotate_left
    · intro W _; go_simp; try with_reducible rfl
    try simp only [Act.put, List.setIfInBounds_toArray, List.set_cons_zero, List.set_cons_succ]
    refine wpAnyH_take (i := 9) (oi := ⟨some 48, .move (.tmp 47), _, _, _, some (1, true)⟩) (v := ?_) rfl (by kernel_rfl) (by kernel_rfl) (by kernel_rfl) (fun _ _ _ h => h) (Or.inl ⟨by rfl, ?_⟩) hHeld ?_
    rotate_left
    · intro W _; go_simp; try with_reducible rfl
    try simp only [Act.put, List.setIfInBounds_toArray, List.set_cons_zero, List.set_cons_succ]
    refine wpAnyH_take (i := 10) (oi := ⟨some 49, .move (.tmp 4), _, _, _, some (9, false)⟩) (v := undef) rfl (by kernel_rfl) (by kernel_rfl) (by kernel_rfl) (fun _ _ _ h => h) (Or.inr ⟨by rfl, rfl⟩) hHeld ?_
    try simp only [Act.put, List.setIfInBounds_toArray, List.set_cons_zero, List.set_cons_succ]
    refine wpAnyH_take (i := 11) (oi := ⟨some 50, .binOp .eql 27 (.tmp 49) (.const (.int .i64 0)) 27, _, _, _, some (9, false)⟩) (v := undef) rfl (by kernel_rfl) (by kernel_rfl) (by kernel_rfl) (fun _ _ _ h => h) (Or.inr ⟨by rfl, rfl⟩) hHeld ?_
    try simp only [Act.put, List.setIfInBounds_toArray, List.set_cons_zero, List.set_cons_succ]
    refine wpAnyH_take (i := 12) (oi := ⟨some 51, .move (.tmp 50), _, _, _, some (9, false)⟩) (v := undef) rfl (by kernel_rfl) (by kernel_rfl) (by kernel_rfl) (fun _ _ _ h => h) (Or.inr ⟨by rfl, rfl⟩) hHeld ?_
    try simp only [Act.put, List.setIfInBounds_toArray, List.set_cons_zero, List.set_cons_succ]
    refine wpAnyH_take (i := 13) (oi := ⟨some 52, .load 23 (.tmp 7), _, _, _, some (12, true)⟩) (v := undef) rfl (by kernel_rfl) (by kernel_rfl) (by kernel_rfl) (fun _ _ _ h => h) (Or.inr ⟨by rfl, rfl⟩) hHeld ?_
    try simp only [Act.put, List.setIfInBounds_toArray, List.set_cons_zero, List.set_cons_succ]
    refine wpAnyH_take (i := 14) (oi := ⟨some 53, .move (.tmp 3), _, _, _, some (12, true)⟩) (v := undef) rfl (by kernel_rfl) (by kernel_rfl) (by kernel_rfl) (fun _ _ _ h => h) (Or.inr ⟨by rfl, rfl⟩) hHeld ?_
    try simp only [Act.put, List.setIfInBounds_toArray, List.set_cons_zero, List.set_cons_succ]
    refine wpAnyH_ready (rs := [15]) (by kernel_rfl) (by simp) ?_
    refine AllReadyH.cons (o := ⟨some 54, .call { callee := .value (.func 13), args := #[.tmp 53], argTypes := #[26] }, _, _, _, some (12, true)⟩) rfl (fun K hK => ?_) AllReadyH.nil
    refine step_skipR (by rfl) ?_
    refine hK.out _ _ (hHeld) (fun hHeld => ?_)
    clear hK K
    try simp only [Act.put, List.setIfInBounds_toArray, List.set_cons_zero, List.set_cons_succ]
    refine wpAnyH_take (i := 16) (oi := ⟨some 55, .binOp .eql 23 (.tmp 52) (.tmp 54) 23, _, _, _, some (12, true)⟩) (v := undef) rfl (by kernel_rfl) (by kernel_rfl) (by kernel_rfl) (fun _ _ _ h => h) (Or.inr ⟨by rfl, rfl⟩) hHeld ?_
    try simp only [Act.put, List.setIfInBounds_toArray, List.set_cons_zero, List.set_cons_succ]
    refine wpAnyH_take (i := 17) (oi := ⟨some 56, .pick (.tmp 51) (.tmp 55) (.const (.bool false)), _, _, _, some (9, false)⟩) (v := undef) rfl (by kernel_rfl) (by kernel_rfl) (by kernel_rfl) (fun _ _ _ h => h) (Or.inr ⟨by rfl, rfl⟩) hHeld ?_
    try simp only [Act.put, List.setIfInBounds_toArray, List.set_cons_zero, List.set_cons_succ]
    refine wpAnyH_take (i := 18) (oi := ⟨some 57, .pick (.tmp 48) (.const (.bool true)) (.tmp 56), _, _, _, some (1, true)⟩) (v := ?_) rfl (by kernel_rfl) (by kernel_rfl) (by kernel_rfl) (fun _ _ _ h => h) (Or.inl ⟨by rfl, ?_⟩) hHeld ?_
    rotate_left
    · intro W _; go_simp; try with_reducible rfl
    try simp only [Act.put, List.setIfInBounds_toArray, List.set_cons_zero, List.set_cons_succ]
    refine wpAnyH_take (i := 19) (oi := ⟨some 58, .pick (.tmp 40) (.tmp 57) (.const (.bool false)), _, _, _, none⟩) (v := ?_) rfl (by kernel_rfl) (by kernel_rfl) (by kernel_rfl) (fun _ _ _ h => h) (Or.inl ⟨by rfl, ?_⟩) hHeld ?_
    rotate_left
    · intro W _; go_simp; try with_reducible rfl
    try simp only [Act.put, List.setIfInBounds_toArray, List.set_cons_zero, List.set_cons_succ]
    refine wpAnyH_take (i := 20) (oi := ⟨some 2, .assign (.tmp 58), _, _, _, none⟩) (v := ?_) rfl (by kernel_rfl) (by kernel_rfl) (by kernel_rfl) (fun _ _ _ h => h) (Or.inl ⟨by rfl, ?_⟩) hHeld ?_
    rotate_left
    · intro W _; go_simp; try with_reducible rfl
    try simp only [Act.put, List.setIfInBounds_toArray, List.set_cons_zero, List.set_cons_succ]
    refine wpAnyH_done (by kernel_rfl) ?_ _
    -- END bytesN
    have HF := Lib.hid (Bt HB5.out hHeld)
    clear hHeld
    go_wp2_with fail
    go_ret
    exact ⟨rfl, HF.out⟩
  | true =>
    have P1 := Lib.hid (fun W => hbytes_yes W x hx hv)
    have P2 := Lib.hid (fun W => rbytes_yes W x hx hv)
    rw [show hErr x = 0 from by rw [hErr, hv]; rfl] at DG
    have HDZ : Hid (digH x = sha (encH x)) := Lib.hid (by rw [digH, hv]; rfl)
    have HL := Lib.hid (encH_len hx hv)
    clear hT hv
    generalize digH x = D at *
    go_enter Tryd.func3, Tryd.ntmps3
    go_wp2_with (first | ((with_reducible refine wpList_loadB (o := ⟨some 10, _, _, _, _, _⟩) ?_ 25 (.tmp 1) ?_ ?_ hb0 Tryd.underlying25 ?_ IS.out ?_); rfl; rfl; rfl; rfl))
    generalize w.alloc (.cells (hdc x).toArray 25) = w0 at *
    refine (P1.out w0).mono ?_
    rintro e w1 ⟨a1, n1, c1, hn1, rfl, hO1, hB1⟩
    have hb1 := hb0.below hB1
    have HB1 := Lib.hid (Bt hB0 hB1)
    have HN1 : Hid (n1 ≤ 66) := Lib.hid (by rw [hn1.out]; exact HL.out.2)
    have hr1 := Lib.hid hO1.rd
    clear hb0 hB0 hB1 hO1 P1 hn1
    go_wp2_with (first | ((with_reducible refine wpList_loadB (o := ⟨some 15, _, _, _, _, _⟩) ?_ 25 (.tmp 1) ?_ ?_ hb1 Tryd.underlying25 ?_ IS.out ?_); rfl; rfl; rfl; rfl))
    refine (P2.out w1).mono ?_
    rintro e w2 ⟨a2, n2, c2, hn2, rfl, hO2, hB2⟩
    have hb2 := hb1.below hB2
    have HB2 := Lib.hid (Bt HB1.out hB2)
    have hr12 := Lib.hid (hr1.out.below hB2)
    have hr2 := Lib.hid hO2.rd
    clear hb1 hB2 HB1 P2 hr1 hO2 hn2
    go_wp2_with (first | ((with_reducible refine wpList_loadB (o := ⟨some 20, _, _, _, _, _⟩) ?_ 25 (.tmp 1) ?_ ?_ hb2 Tryd.underlying25 ?_ IS.out ?_); rfl; rfl; rfl; rfl))
    refine (DG.out w2 HB2.out).mono ?_
    rintro e w3 ⟨rfl, hB3⟩
    have HB3 := Lib.hid (Bt HB2.out hB3)
    have hr13 := Lib.hid (hr12.out.below hB3)
    have hr23 := Lib.hid (hr2.out.below hB3)
    clear hb2 hB3 HB2 DG hr12 hr2
    go_wp2_with (first
      | ((with_reducible refine wpList_allocB (o := ⟨some 7, _, _, _, _, _⟩) ?_ 23 ?_ zeroD_info ?_); rfl; rfl; intro w4 hd4 hg4 hz4)
      | ((with_reducible refine wpList_storeB (o := ⟨none, .store 23 (.tmp 7) (.tmp 22), _, _, _, _⟩) ?_ 23 (.tmp 7) (.tmp 22) ?_ ?_ ?_ hd4 ID.out HLD.out HOD.out ?_); rfl; rfl; rfl; rfl; intro w5 hd5 hg5 hz5; have HB5 := Lib.hid ((HB3.out.grown hg4 HB3.out.size (by simp)).grown hg5 (by have := HB3.out.size; omega) (fun k e => by cases e; exact HB3.out.size)); have hB35 : Below w3.heap.size w3 w5 := ((Below.refl _ w3).grown hg4 (Nat.le_refl _) (by simp)).grown hg5 (by omega) (fun k e => by cases e; exact Nat.le_refl _); have k1 := (hr13.out.below hB35).conv; have k2 := (hr23.out.below hB35).conv))
    have hd6 := hd5
    have hr15 := Lib.hid (hr13.out.below hB35)
    generalize hR : w3.heap.size = R at *
    clear hd4 hg4 hz4 hg5 hz5 hd5 HB3 hR k1 k2 hB35 hr13 hr23
    have SM := Lib.hid (fun W (h : Below w5.heap.size w5 W) => sum_any W a1 n1 c1 (encH x) (hr15.out.below h) (HT.out W (Bt HB5.out h)) (by have := HN1.out; omega))
    rw [← HDZ.out] at SM
    have HEQ := Lib.hid (fun W : World => eqD W D D HDL.out HDL.out)
    rw [beq_self_eq_true] at HEQ
    -- REGION bytesY 4
    refine wp_region_held_drew (S := fun W => Below w5.heap.size w5 W) (by kernel_rfl) ((Below.refl _ w5).drew) (fun hHeld => ?_)
    refine wpAnyH_ready (rs := [0]) (by kernel_rfl) (by simp) ?_
    refine AllReadyH.cons (o := ⟨some 39, .call { callee := .value (.func 12), args := #[], argTypes := #[] }, _, _, _, none⟩) rfl (fun K hK => ?_) AllReadyH.nil
    refine step_ofR (by rfl) ?_
    go_simp
    refine (lays_any _).mono ?_
    rintro x1 W1 ⟨rfl, hB1⟩
    refine hK.out _ _ (Bt hHeld hB1) (fun hHeld => ?_)
    clear hK K
    try simp only [Act.put, List.setIfInBounds_toArray, List.set_cons_zero, List.set_cons_succ]
    refine wpAnyH_take (i := 1) (oi := ⟨some 40, .move (.tmp 39), _, _, _, none⟩) (v := ?_) rfl (by kernel_rfl) (by kernel_rfl) (by kernel_rfl) (fun _ _ _ h => h) (Or.inl ⟨by rfl, ?_⟩) hHeld ?_
    rotate_left
    · intro W _; go_simp; try with_reducible rfl
    try simp only [Act.put, List.setIfInBounds_toArray, List.set_cons_zero, List.set_cons_succ]
    refine wpAnyH_take (i := 2) (oi := ⟨some 41, .move (.tmp 4), _, _, _, some (1, true)⟩) (v := ?_) rfl (by kernel_rfl) (by kernel_rfl) (by kernel_rfl) (fun _ _ _ h => h) (Or.inl ⟨by rfl, ?_⟩) hHeld ?_
    rotate_left
    · intro W _; go_simp; try with_reducible rfl
    try simp only [Act.put, List.setIfInBounds_toArray, List.set_cons_zero, List.set_cons_succ]
    refine wpAnyH_take (i := 3) (oi := ⟨some 42, .binOp .neq 27 (.tmp 41) (.const (.int .i64 0)) 27, _, _, _, some (1, true)⟩) (v := ?_) rfl (by kernel_rfl) (by kernel_rfl) (by kernel_rfl) (fun _ _ _ h => h) (Or.inl ⟨by rfl, ?_⟩) hHeld ?_
    rotate_left
    · intro W _; go_simp; try with_reducible rfl
    try simp only [Act.put, List.setIfInBounds_toArray, List.set_cons_zero, List.set_cons_succ]
    refine wpAnyH_take (i := 4) (oi := ⟨some 43, .move (.tmp 42), _, _, _, some (1, true)⟩) (v := ?_) rfl (by kernel_rfl) (by kernel_rfl) (by kernel_rfl) (fun _ _ _ h => h) (Or.inl ⟨by rfl, ?_⟩) hHeld ?_
    rotate_left
    · intro W _; go_simp; try with_reducible rfl
    try simp only [Act.put, List.setIfInBounds_toArray, List.set_cons_zero, List.set_cons_succ]
    refine wpAnyH_take (i := 5) (oi := ⟨some 44, .load 23 (.tmp 7), _, _, _, some (4, true)⟩) (v := undef) rfl (by kernel_rfl) (by kernel_rfl) (by kernel_rfl) (fun _ _ _ h => h) (Or.inr ⟨by rfl, rfl⟩) hHeld ?_
    try simp only [Act.put, List.setIfInBounds_toArray, List.set_cons_zero, List.set_cons_succ]
    refine wpAnyH_take (i := 6) (oi := ⟨some 45, .build 23 #[], _, _, _, some (4, true)⟩) (v := undef) rfl (by kernel_rfl) (by kernel_rfl) (by kernel_rfl) (fun _ _ _ h => h) (Or.inr ⟨by rfl, rfl⟩) hHeld ?_
    try simp only [Act.put, List.setIfInBounds_toArray, List.set_cons_zero, List.set_cons_succ]
    refine wpAnyH_take (i := 7) (oi := ⟨some 46, .binOp .eql 23 (.tmp 44) (.tmp 45) 23, _, _, _, some (4, true)⟩) (v := undef) rfl (by kernel_rfl) (by kernel_rfl) (by kernel_rfl) (fun _ _ _ h => h) (Or.inr ⟨by rfl, rfl⟩) hHeld ?_
    try simp only [Act.put, List.setIfInBounds_toArray, List.set_cons_zero, List.set_cons_succ]
    refine wpAnyH_take (i := 8) (oi := ⟨some 47, .pick (.tmp 43) (.tmp 46) (.const (.bool false)), _, _, _, some (1, true)⟩) (v := ?_) rfl (by kernel_rfl) (by kernel_rfl) (by kernel_rfl) (fun _ _ _ h => h) (Or.inl ⟨by rfl, ?_⟩) hHeld ?_
    rotate_left
    · intro W _; go_simp; try with_reducible rfl
    try simp only [Act.put, List.setIfInBounds_toArray, List.set_cons_zero, List.set_cons_succ]
    refine wpAnyH_take (i := 9) (oi := ⟨some 48, .move (.tmp 47), _, _, _, some (1, true)⟩) (v := ?_) rfl (by kernel_rfl) (by kernel_rfl) (by kernel_rfl) (fun _ _ _ h => h) (Or.inl ⟨by rfl, ?_⟩) hHeld ?_
    rotate_left
    · intro W _; go_simp; try with_reducible rfl
    try simp only [Act.put, List.setIfInBounds_toArray, List.set_cons_zero, List.set_cons_succ]
    refine wpAnyH_take (i := 10) (oi := ⟨some 49, .move (.tmp 4), _, _, _, some (9, false)⟩) (v := ?_) rfl (by kernel_rfl) (by kernel_rfl) (by kernel_rfl) (fun _ _ _ h => h) (Or.inl ⟨by rfl, ?_⟩) hHeld ?_
    rotate_left
    · intro W _; go_simp; try with_reducible rfl
    try simp only [Act.put, List.setIfInBounds_toArray, List.set_cons_zero, List.set_cons_succ]
    refine wpAnyH_take (i := 11) (oi := ⟨some 50, .binOp .eql 27 (.tmp 49) (.const (.int .i64 0)) 27, _, _, _, some (9, false)⟩) (v := ?_) rfl (by kernel_rfl) (by kernel_rfl) (by kernel_rfl) (fun _ _ _ h => h) (Or.inl ⟨by rfl, ?_⟩) hHeld ?_
    rotate_left
    · intro W _; go_simp; try with_reducible rfl
    try simp only [Act.put, List.setIfInBounds_toArray, List.set_cons_zero, List.set_cons_succ]
    refine wpAnyH_take (i := 12) (oi := ⟨some 51, .move (.tmp 50), _, _, _, some (9, false)⟩) (v := ?_) rfl (by kernel_rfl) (by kernel_rfl) (by kernel_rfl) (fun _ _ _ h => h) (Or.inl ⟨by rfl, ?_⟩) hHeld ?_
    rotate_left
    · intro W _; go_simp; try with_reducible rfl
    try simp only [Act.put, List.setIfInBounds_toArray, List.set_cons_zero, List.set_cons_succ]
    refine wpAnyH_take (i := 13) (oi := ⟨some 52, .load 23 (.tmp 7), _, _, _, some (12, true)⟩) (v := .agg (bs D).toArray) rfl (by kernel_rfl) (by kernel_rfl) (by kernel_rfl) (fun _ _ _ h => h) (yieldsIf_load_mid (by rfl) _ _ rfl R 0 rfl (bs D) _ (fun W h => (hd6.below h).all0) Tryd.underlying23 rfl ID.out) hHeld ?_
    try simp only [Act.put, List.setIfInBounds_toArray, List.set_cons_zero, List.set_cons_succ]
    refine wpAnyH_take (i := 14) (oi := ⟨some 53, .move (.tmp 3), _, _, _, some (12, true)⟩) (v := ?_) rfl (by kernel_rfl) (by kernel_rfl) (by kernel_rfl) (fun _ _ _ h => h) (Or.inl ⟨by rfl, ?_⟩) hHeld ?_
    rotate_left
    · intro W _; go_simp; try with_reducible rfl
    try simp only [Act.put, List.setIfInBounds_toArray, List.set_cons_zero, List.set_cons_succ]
    refine wpAnyH_ready (rs := [15]) (by kernel_rfl) (by simp) ?_
    refine AllReadyH.cons (o := ⟨some 54, .call { callee := .value (.func 13), args := #[.tmp 53], argTypes := #[26] }, _, _, _, some (12, true)⟩) rfl (fun K hK => ?_) AllReadyH.nil
    refine step_ofR (by rfl) ?_
    go_simp
    refine (SM.out _ hHeld).mono ?_
    rintro x1 W1 ⟨rfl, hB1⟩
    refine hK.out _ _ (Bt hHeld hB1) (fun hHeld => ?_)
    clear hK K
    try simp only [Act.put, List.setIfInBounds_toArray, List.set_cons_zero, List.set_cons_succ]
    refine wpAnyH_take (i := 16) (oi := ⟨some 55, .binOp .eql 23 (.tmp 52) (.tmp 54) 23, _, _, _, some (12, true)⟩) (v := .bool true) rfl (by kernel_rfl) (by kernel_rfl) (by kernel_rfl) (fun _ _ _ h => h) (yieldsIf_eqH (by rfl) .eql 23 23 (.tmp 52) (.tmp 54) rfl _ _ rfl rfl guardH _ HEQ.out) hHeld ?_
    try simp only [Act.put, List.setIfInBounds_toArray, List.set_cons_zero, List.set_cons_succ]
    refine wpAnyH_take (i := 17) (oi := ⟨some 56, .pick (.tmp 51) (.tmp 55) (.const (.bool false)), _, _, _, some (9, false)⟩) (v := ?_) rfl (by kernel_rfl) (by kernel_rfl) (by kernel_rfl) (fun _ _ _ h => h) (Or.inl ⟨by rfl, ?_⟩) hHeld ?_
    rotate_left
    · intro W _; go_simp; try with_reducible rfl
    try simp only [Act.put, List.setIfInBounds_toArray, List.set_cons_zero, List.set_cons_succ]
    refine wpAnyH_take (i := 18) (oi := ⟨some 57, .pick (.tmp 48) (.const (.bool true)) (.tmp 56), _, _, _, some (1, true)⟩) (v := ?_) rfl (by kernel_rfl) (by kernel_rfl) (by kernel_rfl) (fun _ _ _ h => h) (Or.inl ⟨by rfl, ?_⟩) hHeld ?_
    rotate_left
    · intro W _; go_simp; try with_reducible rfl
    try simp only [Act.put, List.setIfInBounds_toArray, List.set_cons_zero, List.set_cons_succ]
    refine wpAnyH_take (i := 19) (oi := ⟨some 58, .pick (.tmp 40) (.tmp 57) (.const (.bool false)), _, _, _, none⟩) (v := ?_) rfl (by kernel_rfl) (by kernel_rfl) (by kernel_rfl) (fun _ _ _ h => h) (Or.inl ⟨by rfl, ?_⟩) hHeld ?_
    rotate_left
    · intro W _; go_simp; try with_reducible rfl
    try simp only [Act.put, List.setIfInBounds_toArray, List.set_cons_zero, List.set_cons_succ]
    refine wpAnyH_take (i := 20) (oi := ⟨some 2, .assign (.tmp 58), _, _, _, none⟩) (v := ?_) rfl (by kernel_rfl) (by kernel_rfl) (by kernel_rfl) (fun _ _ _ h => h) (Or.inl ⟨by rfl, ?_⟩) hHeld ?_
    rotate_left
    · intro W _; go_simp; try with_reducible rfl
    try simp only [Act.put, List.setIfInBounds_toArray, List.set_cons_zero, List.set_cons_succ]
    refine wpAnyH_done (by kernel_rfl) ?_ _
    -- END bytesY
    have HF := Lib.hid (Bt HB5.out hHeld)
    clear hHeld
    go_wp2_with fail
    go_ret
    exact ⟨rfl, HF.out⟩
end Go.Proofs.YtoclahcibilbhaaDoor
