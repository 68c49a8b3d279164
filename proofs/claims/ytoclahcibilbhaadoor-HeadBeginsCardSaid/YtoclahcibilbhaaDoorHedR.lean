/-
  The reference of layer 9: May, Bytes, Digest, Key, Sign, Check (written by gen_head.py).
-/
import Derived.Test.YtoclahcibilbhaaDoorHedK
import Derived.Test.YtoclahcibilbhaaDoorRef03
namespace Go.Proofs.YtoclahcibilbhaaDoor
open Go.RowKit
set_option maxRecDepth 100000

theorem rmay_any (w : World) (x : Hd) : Calls Tryd.prog 26 #[.agg (hdc x).toArray] w fun e w' => e = .returned (.bool (hvalid x)) ∧ Below w.heap.size w w' := by
  have hB0 : Below w.heap.size w (w.alloc (.cells (hdc x).toArray 25)) := (Below.refl _ w).alloc (Nat.le_refl _) _
  have hc := (Blk.new w 25 (hdc x)).cell (j := 0) (v := .int .i64 x.ep) rfl
  unfold hvalid
  by_cases h1 : 1 ≤ x.ep
  · go_enter Tryd.func26, Tryd.ntmps26
    go_wp2_with fail
    go_ret
    exact ⟨by simp [h1], hB0⟩
  · go_enter Tryd.func26, Tryd.ntmps26
    go_wp2_with fail
    go_ret
    exact ⟨by rw [decide_eq_false (show ¬ 1 ≤ x.ep by omega)]; rfl, hB0⟩

theorem rbytes_no (w : World) (x : Hd) (hx : x.ok) (hv : hvalid x = false) : Calls Tryd.prog 10 #[.agg (hdc x).toArray] w fun e w' => e = .returned (.tuple #[.slice none 0 0, .int .i64 80]) ∧ Below w.heap.size w w' := by
  have hb0 := Blk.new w 25 (hdc x)
  have hB0 : Below w.heap.size w (w.alloc (.cells (hdc x).toArray 25)) := (Below.refl _ w).alloc (Nat.le_refl _) _
  have IS : Hid ((Tryd.prog.info? 25).map (·.size) = some (hdc x).length) := Lib.hid (by rw [hdc_length hx]; exact info_head0)
  go_enter Tryd.func10, Tryd.ntmps10
  go_wp2_with (first | ((with_reducible refine wpList_loadB (o := ⟨some 5, _, _, _, _, _⟩) ?_ 25 (.tmp 1) ?_ ?_ hb0 Tryd.underlying25 ?_ IS.out ?_); rfl; rfl; rfl; rfl))
  generalize w.alloc (.cells (hdc x).toArray 25) = w0 at *
  refine (rmay_any w0 x).mono ?_
  rw [hv]
  rintro e w1 ⟨rfl, hB1⟩
  have HB := Lib.hid (Bt hB0 hB1)
  clear hb0 hB0 hB1
  go_wp2_with fail
  go_ret2
  exact ⟨rfl, HB.out⟩

set_option maxHeartbeats 1000000 in
theorem rbytes_yes (w : World) (x : Hd) (hx : x.ok) (hv : hvalid x = true) : Calls Tryd.prog 10 #[.agg (hdc x).toArray] w (BytesP w x) := by
  have hb0 := Blk.new w 25 (hdc x)
  have hB0 : Below w.heap.size w (w.alloc (.cells (hdc x).toArray 25)) := (Below.refl _ w).alloc (Nat.le_refl _) _
  have IS : Hid ((Tryd.prog.info? 25).map (·.size) = some (hdc x).length) := Lib.hid (by rw [hdc_length hx]; exact info_head0)
  have HV := Lib.hid (hvalid_iff.1 hv)
  have HX := Lib.hid hx
  go_enter Tryd.func10, Tryd.ntmps10
  go_wp2_with (first | ((with_reducible refine wpList_loadB (o := ⟨some 5, _, _, _, _, _⟩) ?_ 25 (.tmp 1) ?_ ?_ hb0 Tryd.underlying25 ?_ IS.out ?_); rfl; rfl; rfl; rfl))
  generalize w.alloc (.cells (hdc x).toArray 25) = w0 at *
  refine (rmay_any w0 x).mono ?_
  rw [hv]
  rintro e w1 ⟨rfl, hB1⟩
  have hb1 := hb0.below hB1
  have HB1 := Lib.hid (Bt hB0 hB1)
  have hc := (hb1.hdp hx).1
  clear hb0 hB0 hB1 hv hx
  obtain ⟨m, hm⟩ := Int.eq_ofNat_of_zero_le (show 0 ≤ x.ep by have := HV.out.1; omega)
  rw [hm] at hc
  go_wp2_with fail
  refine (groups_ref 1 m w1 (by have := HV.out; omega) (by decide)).mono ?_
  rintro e w2 ⟨a2, n2, c2, rfl, hO2, hB2⟩
  obtain rfl : n2 = (encC m).length := by obtain ⟨a', c', e'⟩ := hO2.shape; cases e'; rfl
  have hb2 := hb1.below hB2
  have HB2 := Lib.hid (Bt HB1.out hB2)
  have hO2 := hO2.lower HB1.out.size
  have HL2 : Hid ((encC m).length ≤ 2) := Lib.hid (encC_pow 1 m (by have := HV.out; omega))
  have HE : Hid (encH x = encC m ++ x.root ++ x.prev) := Lib.hid (by unfold encH; rw [hm]; rfl)
  generalize encC m = q at *
  have HS1 : Hid (q.length + 32 ≤ 140737488355328) := Lib.hid (by have := HL2.out; omega)
  have HS2 : Hid ((q ++ x.root).length + 32 ≤ 140737488355328) := Lib.hid (by have := HL2.out; have := HX.out.1; rw [List.length_append]; omega)
  have hbs2 := HB2.out.size
  have hr1 := Rd.part (hb2.hdp HX.out).2.1 HX.out.1
  have HLX : Hid ((q ++ x.root).length = q.length + 32) := Lib.hid (by rw [List.length_append, HX.out.1])
  clear hb1 hB2 hc hm
  go_wp2_with (first
    | ((with_reducible refine wpList_app (o := ⟨some 14, _, _, _, _, _⟩) ?_ (.tmp 11) (.tmp 13) ?_ ?_ hO2 ?_ hr1 HS1.out hbs2 ?_); rfl; rfl; rfl; rfl; intro a3 c3 w3 hO3 hg3; have hb3 := hb2.grown hg3 (hO2.ne hb2.at_ (by decide)); have hr2 := Rd.part (hb3.hdp HX.out).2.2 HX.out.2; have hbs3 := Nat.le_trans hbs2 hg3.size; have HB3 := Lib.hid (HB2.out.grown hg3 HB2.out.size (fun k e => (hO2.lt e).1)))
    | ((with_reducible refine wpList_app (o := ⟨some 18, _, _, _, _, _⟩) ?_ (.tmp 15) (.tmp 17) ?_ ?_ hO3 ?_ hr2 HS2.out hbs3 ?_); rfl; rfl; rfl; rfl; intro a4 c4 w4 hO4 hg4))
  go_ret2
  have HB4 := HB3.out.grown hg4 HB3.out.size (fun k e => (hO3.lt e).1)
  rw [← HE.out, List.length_append] at hO4
  refine ⟨a4, _, c4, ?_, rfl, hO4, HB4⟩
  exact Lib.hid (by rw [HE.out, List.length_append, List.length_append, HX.out.2, HX.out.1])

set_option maxHeartbeats 1000000 in
theorem rdig_any (w : World) (hT : Tab w 1) (x : Hd) (hx : x.ok) :
    Calls Tryd.prog 41 #[.agg (hdc x).toArray] w fun e w' => e = .returned (.tuple #[.agg (bs (digH x)).toArray, .int .i64 (hErr x)]) ∧ Below w.heap.size w w' := by
  have hb0 := Blk.new w 25 (hdc x)
  have hB0 : Below w.heap.size w (w.alloc (.cells (hdc x).toArray 25)) := (Below.refl _ w).alloc (Nat.le_refl _) _
  have hz0 : (w.alloc (.cells (hdc x).toArray 25)).heap.size = w.heap.size + 1 := by simp
  have IS : Hid ((Tryd.prog.info? 25).map (·.size) = some (hdc x).length) := Lib.hid (by rw [hdc_length hx]; exact info_head0)
  have ID : Hid ((Tryd.prog.info? 23).map (·.size) = some (bs (digH x)).length) := Lib.hid (by rw [info_digest, bs_length, digH_length])
  have HLD : Hid ((bs zero32).length = (bs (digH x)).length) := Lib.hid (by rw [bs_length, bs_length, zero32_length, digH_length])
  have HOD : Hid (∀ v ∈ bs (digH x), v.oneCell' = true) := Lib.hid (bs_one _)
  have HT := Lib.hid hT
  have HX := Lib.hid hx
  clear hT hx
  go_enter Tryd.func41, Tryd.ntmps41
  go_wp2_with (first
    | ((with_reducible refine wpList_allocB (o := ⟨some 2, _, _, _, _, _⟩) ?_ 23 ?_ zeroD_info ?_); rfl; rfl; intro w1 hd1 hg1 hz1; have hb1 := hb0.grown hg1 (by simp))
    | ((with_reducible refine wpList_loadB (o := ⟨some 7, _, _, _, _, _⟩) ?_ 25 (.tmp 1) ?_ ?_ hb1 Tryd.underlying25 ?_ IS.out ?_); rfl; rfl; rfl; rfl))
  rw [hz0] at hd1
  have HB1 := Lib.hid (hB0.grown hg1 hB0.size (by simp))
  have HRR : Hid (w.heap.size ≤ w.heap.size + 1) := Lib.hid (Nat.le_succ _)
  generalize w.heap.size + 1 = R at *
  clear hb0 hB0 hz0 hg1 hz1 hb1
  cases hv : hvalid x with
  | false =>
    have HD : Hid (digH x = zero32 ∧ hErr x = 80) := Lib.hid ⟨by rw [digH, hv]; rfl, by rw [hErr, hv]; rfl⟩
    refine (rbytes_no w1 x HX.out hv).mono ?_
    rintro e w2 ⟨rfl, hB2⟩
    have hd2 := hd1.below hB2
    have HB2 := Lib.hid (Bt HB1.out hB2)
    rw [HD.out.1] at ID HOD
    clear HLD
    clear hd1 hB2 hv
    have HBU := Lib.hid built0
    go_wp2_with (first
      | ((with_reducible refine wpList_buildI (dst := some 13) HBU.out ?_ ?_); rfl)
      | ((with_reducible refine wpList_storeB (o := ⟨none, .store 23 (.tmp 2) (.tmp 13), _, _, _, _⟩) ?_ 23 (.tmp 2) (.tmp 13) ?_ ?_ ?_ hd2 ID.out rfl HOD.out ?_); rfl; rfl; rfl; rfl; intro w5 hd5 hg5 hz5))
    apply bodyPost_ret
    exact results_blk2 rfl _ _ _ _ _ _ rfl hd5 Tryd.underlying23 rfl ID.out
    rfl
    exact ⟨by rw [HD.out.1, HD.out.2]; rfl, HB2.out.grown hg5 HB2.out.size (fun k e => by cases e; exact HRR.out)⟩
  | true =>
    have HD : Hid (digH x = sha (encH x) ∧ hErr x = 0) := Lib.hid ⟨by rw [digH, hv]; rfl, by rw [hErr, hv]; rfl⟩
    have HL := Lib.hid (encH_len HX.out hv)
    refine (rbytes_yes w1 x HX.out hv).mono ?_
    rintro e w2 ⟨a, n, c, hn, rfl, hO, hB2⟩
    have hd2 := hd1.below hB2
    have HB2 := Lib.hid (Bt HB1.out hB2)
    have hr := hO.rd
    have hT2 := HT.out.below HB2.out
    have hn2 : n ≤ 66 := by rw [hn.out]; exact HL.out.2
    clear hd1 hB2 hv hO
    go_wp2_with fail
    refine (sum_ref w2 a n c _ hr hT2 (by omega)).mono ?_
    rintro e w3 ⟨rfl, hB3⟩
    have hd3 := hd2.below hB3
    have HB3 := Lib.hid (Bt HB2.out hB3)
    rw [← HD.out.1]
    have HE0 := Lib.hid HD.out.2
    clear HD
    generalize hDD : digH x = D at *
    have HDD := Lib.hid hDD
    clear hDD
    clear hd2 hB3 hr hT2 hn2
    go_wp2_with (first
      | ((with_reducible refine wpList_storeB (o := ⟨none, .store 23 (.tmp 2) (.tmp 16), _, _, _, _⟩) ?_ 23 (.tmp 2) (.tmp 16) ?_ ?_ ?_ hd3 ID.out HLD.out HOD.out ?_); rfl; rfl; rfl; rfl; intro w5 hd5 hg5 hz5))
    apply bodyPost_ret
    exact results_blk2 rfl _ _ _ _ _ _ rfl hd5 Tryd.underlying23 rfl ID.out
    rfl
    exact ⟨by rw [HDD.out, HE0.out]; rfl, HB3.out.grown hg5 HB3.out.size (fun k e => by cases e; exact HRR.out)⟩
theorem rkey_any (w : World) (k : ByteArray) : Calls Tryd.prog 33 #[.string k] w fun e w' => e = .returned (.bool (keyok k)) ∧ Below w.heap.size w w' := by
  unfold keyok
  by_cases h1 : 1 ≤ k.size
  · have h2 : (1 : Int) ≤ (k.size : Int) := by omega
    have h3 : decide ((k.size : Int) ≤ 64) = decide (k.size ≤ 64) := by congr 1; simp; omega
    go_enter Tryd.func33, Tryd.ntmps33
    go_wp2_with fail
    go_ret
    exact ⟨by simp [h1], Below.refl _ _⟩
  · have h2 : ¬ (1 : Int) ≤ (k.size : Int) := by omega
    go_enter Tryd.func33, Tryd.ntmps33
    go_wp2_with fail
    go_ret
    exact ⟨rfl, Below.refl _ _⟩
set_option maxHeartbeats 2000000 in
theorem rsign_any (w : World) (hT : Tab w 1) (k : ByteArray) (x : Hd) (hx : x.ok) :
    Calls Tryd.prog 15 #[.string k, .agg (hdc x).toArray] w fun e w' => e = .returned (.tuple #[.agg (sgc (sgnP k x).1).toArray, .int .i64 (sgnP k x).2]) ∧ Below w.heap.size w w' := by
  have hb0 := Blk.new w 25 (hdc x)
  have hB0 : Below w.heap.size w (w.alloc (.cells (hdc x).toArray 25)) := (Below.refl _ w).alloc (Nat.le_refl _) _
  have hz0 : (w.alloc (.cells (hdc x).toArray 25)).heap.size = w.heap.size + 1 := by simp
  have IS : Hid ((Tryd.prog.info? 25).map (·.size) = some (hdc x).length) := Lib.hid (by rw [hdc_length hx]; exact info_head0)
  have IZ : Hid ((Tryd.prog.info? 36).map (·.size) = some (sgc sgz).length) := Lib.hid (by rw [sgc_length sgz_ok]; exact info_signed)
  have HOZ : Hid (∀ v ∈ sgc sgz, v.oneCell' = true) := Lib.hid (sgc_one _)
  have HBZ := Lib.hid built_sgzx
  have HT := Lib.hid hT
  have HX := Lib.hid hx
  clear hT hx
  go_enter Tryd.func15, Tryd.ntmps15
  go_wp2_with (first
    | ((with_reducible refine wpList_allocB (o := ⟨some 4, _, _, _, _, _⟩) ?_ 36 ?_ sgz_info ?_); rfl; rfl; intro w1 hd1 hg1 hz1; have hb1 := hb0.grown hg1 (by simp))
    | ((with_reducible refine wpList_loadB (o := ⟨some 9, _, _, _, _, _⟩) ?_ 25 (.tmp 3) ?_ ?_ hb1 Tryd.underlying25 ?_ IS.out ?_); rfl; rfl; rfl; rfl))
  rw [hz0] at hd1
  have HB1 := Lib.hid (hB0.grown hg1 hB0.size (by simp))
  have HRR : Hid (w.heap.size < w.heap.size + 1) := Lib.hid (Nat.lt_succ_self _)
  generalize w.heap.size + 1 = R at *
  clear hb0 hB0 hz0 hg1 hz1
  have HNO : Hid (mayH k x = false → sgnP k x = (sgz, 80)) := Lib.hid (fun h => by rw [sgnP, h]; rfl)
  have HYES : Hid (mayH k x = true → sgnP k x = (sgnI k x, 0)) := Lib.hid (fun h => by rw [sgnP, h]; rfl)
  cases hv : hvalid x with
  | false =>
    refine (rbytes_no w1 x HX.out hv).mono ?_
    rintro e w2 ⟨rfl, hB2⟩
    have hd2 := hd1.below hB2
    have HB2 := Lib.hid (Bt HB1.out hB2)
    have HF := Lib.hid (HNO.out (by rw [mayH, hv, Bool.and_false]))
    clear hd1 hB2 hv hb1
    go_wp2_with fail
    refine (rkey_any w2 k).mono ?_
    rintro e w4 ⟨rfl, hB4⟩
    have hd4 := hd2.below hB4
    have HB4 := Lib.hid (Bt HB2.out hB4)
    clear hd2 hB4
    cases hk : keyok k with
    | false =>
      go_wp2_with (first
        | ((with_reducible refine wpList_buildI (dst := some 20) HBZ.out ?_ ?_); rfl)
        | ((with_reducible refine wpList_storeB (o := ⟨none, .store 36 (.tmp 4) (.tmp 20), _, _, _, _⟩) ?_ 36 (.tmp 4) (.tmp 20) ?_ ?_ ?_ hd4 IZ.out rfl HOZ.out ?_); rfl; rfl; rfl; rfl; intro w5 hd5 hg5 hz5))
      apply bodyPost_ret
      exact results_blk2 rfl _ _ _ _ _ _ rfl hd5 Tryd.underlying36 rfl IZ.out
      rfl
      exact ⟨by rw [HF.out]; rfl, HB4.out.grown hg5 HB4.out.size (fun k e => by cases e; exact Nat.le_of_lt HRR.out)⟩
    | true =>
      go_wp2_with (first
        | ((with_reducible refine wpList_buildI (dst := some 20) HBZ.out ?_ ?_); rfl)
        | ((with_reducible refine wpList_storeB (o := ⟨none, .store 36 (.tmp 4) (.tmp 20), _, _, _, _⟩) ?_ 36 (.tmp 4) (.tmp 20) ?_ ?_ ?_ hd4 IZ.out rfl HOZ.out ?_); rfl; rfl; rfl; rfl; intro w5 hd5 hg5 hz5))
      apply bodyPost_ret
      exact results_blk2 rfl _ _ _ _ _ _ rfl hd5 Tryd.underlying36 rfl IZ.out
      rfl
      exact ⟨by rw [HF.out]; rfl, HB4.out.grown hg5 HB4.out.size (fun k e => by cases e; exact Nat.le_of_lt HRR.out)⟩
  | true =>
    refine (rbytes_yes w1 x HX.out hv).mono ?_
    rintro e w2 ⟨a, n, c, hn, rfl, hO, hB2⟩
    have hd2 := hd1.below hB2
    have hb2 := hb1.below hB2
    have hr2 := hO.rd
    have HB2 := Lib.hid (Bt HB1.out hB2)
    clear hd1 hB2 hb1 hO
    go_wp2_with fail
    refine (rkey_any w2 k).mono ?_
    rintro e w4 ⟨rfl, hB4⟩
    have hd4 := hd2.below hB4
    have hb4 := hb2.below hB4
    have hr4 := hr2.below hB4
    have HB4 := Lib.hid (Bt HB2.out hB4)
    clear hd2 hB4 hb2 hr2
    cases hk : keyok k with
    | false =>
      have HF := Lib.hid (HNO.out (by rw [mayH, hk, Bool.false_and]))
      clear hv hk hb4 hr4
      go_wp2_with (first
        | ((with_reducible refine wpList_buildI (dst := some 20) HBZ.out ?_ ?_); rfl)
        | ((with_reducible refine wpList_storeB (o := ⟨none, .store 36 (.tmp 4) (.tmp 20), _, _, _, _⟩) ?_ 36 (.tmp 4) (.tmp 20) ?_ ?_ ?_ hd4 IZ.out rfl HOZ.out ?_); rfl; rfl; rfl; rfl; intro w5 hd5 hg5 hz5))
      apply bodyPost_ret
      exact results_blk2 rfl _ _ _ _ _ _ rfl hd5 Tryd.underlying36 rfl IZ.out
      rfl
      exact ⟨by rw [HF.out]; rfl, HB4.out.grown hg5 HB4.out.size (fun k e => by cases e; exact Nat.le_of_lt HRR.out)⟩
    | true =>
      have HF := Lib.hid (HYES.out (by rw [mayH, hk, hv]; rfl))
      have HKK : Hid (k.size ≤ 64) := Lib.hid (keyok_iff.1 hk).2
      have HL := Lib.hid (encH_len HX.out hv)
      have HNN : Hid (n ≤ 66) := Lib.hid (by rw [hn.out]; exact HL.out.2)
      have hsok : (sgnI k x).ok := ⟨HX.out, hmac_length _ _⟩
      have HBS := Lib.hid (built_sgn x HX.out (hmac (byt k) (encH x)) (hmac_length _ _))
      have IX : Hid ((Tryd.prog.info? 36).map (·.size) = some (sgc (sgnI k x)).length) := Lib.hid (by rw [sgc_length hsok]; exact info_signed)
      have HLX : Hid ((sgc sgz).length = (sgc (sgnI k x)).length) := Lib.hid (by rw [sgc_length hsok, sgc_length sgz_ok])
      have HOX : Hid (∀ v ∈ sgc (sgnI k x), v.oneCell' = true) := Lib.hid (sgc_one _)
      have hkc := fun (w : World) (s : ByteArray) => run_bytes_of_string (P := Tryd.prog) w 9 26 5 s Tryd.underlying9 Tryd.underlying26 Tryd.underlying5
      have hT4 := HT.out.below HB4.out
      have hD4 : Below w4.heap.size w4 w4.drew := ⟨rfl, rfl, rfl, Nat.le_refl _, fun _ _ => rfl⟩
      clear hk hv hsok
      rw [show (⟨x, hmac (byt k) (encH x)⟩ : Sg) = sgnI k x from rfl] at HBS
      generalize sgnI k x = y at *
      go_wp2_with fail
      -- REGION rsign 0
      refine wp_region_held_drew (S := fun W => W.rangeAt w.heap.size 0 (hdc x)) (by kernel_rfl) ((hb4.below hD4).all0) (fun hHeld => ?_)
      refine wpAnyH_take (i := 0) (oi := ⟨some 21, .load 25 (.tmp 3), _, _, _, none⟩) (v := .agg (hdc x).toArray) rfl (by kernel_rfl) (by kernel_rfl) (by kernel_rfl) (fun _ _ _ h => h) (yieldsIf_load_mid (by rfl) _ _ rfl w.heap.size 0 rfl (hdc x) _ (fun W h => h) Tryd.underlying25 rfl IS.out) hHeld ?_
      try simp only [Act.put, List.setIfInBounds_toArray, List.set_cons_zero, List.set_cons_succ]
      refine wpAnyH_take (i := 1) (oi := ⟨some 22, .move (.tmp 0), _, _, _, none⟩) (v := ?_) rfl (by kernel_rfl) (by kernel_rfl) (by kernel_rfl) (fun _ _ _ h => h) (Or.inl ⟨by rfl, ?_⟩) hHeld ?_
      rotate_left
      · intro W _; go_simp; try with_reducible rfl
      try simp only [Act.put, List.setIfInBounds_toArray, List.set_cons_zero, List.set_cons_succ]
      refine wpAnyH_take (i := 3) (oi := ⟨some 24, .move (.tmp 6), _, _, _, none⟩) (v := ?_) rfl (by kernel_rfl) (by kernel_rfl) (by kernel_rfl) (fun _ _ _ h => h) (Or.inl ⟨by rfl, ?_⟩) hHeld ?_
      rotate_left
      · intro W _; go_simp; try with_reducible rfl
      try simp only [Act.put, List.setIfInBounds_toArray, List.set_cons_zero, List.set_cons_succ]
      have hrd : Rd (w4.alloc (.cells (bytesRow k (grownCap w4.drew k.size 0 5)) 5 ((bytesRow k (grownCap w4.drew k.size 0 5)).size, (bytesRow k (grownCap w4.drew k.size 0 5)).size + 1))).drew.drew (some ⟨w4.heap.size, 0, none⟩) k.size (grownCap w4.drew k.size 0 5) (byt k) := Rd.ofStr w4.drew k (by have := HKK.out; unfold maxLen; omega)
      have hBc : Below w4.heap.size w4 (w4.alloc (.cells (bytesRow k (grownCap w4.drew k.size 0 5)) 5 ((bytesRow k (grownCap w4.drew k.size 0 5)).size, (bytesRow k (grownCap w4.drew k.size 0 5)).size + 1))).drew.drew := Bt hD4 (grown_ofStr w4.drew (bytesRow k (grownCap w4.drew k.size 0 5)) ((bytesRow k (grownCap w4.drew k.size 0 5)).size, (bytesRow k (grownCap w4.drew k.size 0 5)).size + 1))
      refine wpAnyH_ready (rs := [2]) (by kernel_rfl) (by simp) ?_
      refine AllReadyH.cons (o := ⟨some 23, .convert 9 26 (.tmp 22), _, _, _, none⟩) rfl (fun K hK => ?_) AllReadyH.nil
      refine step_ofR (by rfl) ?_
      go_simp
      refine hK.out _ _ ((hb4.below hBc).all0) (fun hHeld => ?_)
      clear hK K
      try simp only [Act.put, List.setIfInBounds_toArray, List.set_cons_zero, List.set_cons_succ]
      generalize (w4.alloc (.cells (bytesRow k (grownCap w4.drew k.size 0 5)) 5 ((bytesRow k (grownCap w4.drew k.size 0 5)).size, (bytesRow k (grownCap w4.drew k.size 0 5)).size + 1))).drew.drew = wc at *
      have hTc := hT4.below hBc
      have hrc := hr4.below hBc
      refine wpAnyH_ready (rs := [4]) (by kernel_rfl) (by simp) ?_
      refine AllReadyH.cons (o := ⟨some 25, .call { callee := .value (.func 34), args := #[.tmp 23, .tmp 24], argTypes := #[26, 26] }, _, _, _, none⟩) rfl (fun K hK => ?_) AllReadyH.nil
      refine step_ofR (by rfl) ?_
      go_simp
      refine (mac_ref wc _ _ _ (byt k) a n c (encH x) hrd hrc hTc (by have := HKK.out; omega) (by have := HNN.out; omega)).mono ?_
      rintro x1 W1 ⟨rfl, hB1⟩
      have hBe := Bt hBc hB1
      refine hK.out _ _ ((hb4.below hBe).all0) (fun hHeld => ?_)
      clear hK K
      try simp only [Act.put, List.setIfInBounds_toArray, List.set_cons_zero, List.set_cons_succ]
      have hb9 := hb4.below hBe
      have hd9 := hd4.below hBe
      have HB9 := Lib.hid (Bt HB4.out hBe)
      clear hrd hBc hTc hrc hB1 hBe
      refine wpAnyH_take (i := 5) (oi := ⟨some 26, .build 36 #[(0, .tmp 21), (1, .tmp 25)], _, _, _, none⟩) (v := .agg (sgc y).toArray) rfl (by kernel_rfl) (by kernel_rfl) (by kernel_rfl) (fun _ _ _ h => h) (yieldsIf_buildH (by rfl) _ _ rfl (ps := [(0, .agg (hdc x).toArray), (1, .agg (bs (hmac (byt k) (encH x))).toArray)]) rfl HBS.out) hHeld ?_
      try simp only [Act.put, List.setIfInBounds_toArray, List.set_cons_zero, List.set_cons_succ]
      refine wpAnyH_ready (rs := [6]) (by kernel_rfl) (by simp) ?_
      refine AllReadyH.cons (o := ⟨none, .store 36 (.tmp 4) (.tmp 26), _, _, _, none⟩) rfl (fun K hK => ?_) AllReadyH.nil
      refine step_storeW R 36 (.tmp 4) (.tmp 26) (sgc y) (sgc sgz) 36 hd9 IX.out HLX.out HOX.out rfl rfl rfl rfl ?_
      intro w5 hd5 hg5 hz5
      refine hK.out _ _ ((hb9.grown hg5 (fun e => by cases e; exact absurd HRR.out (Nat.lt_irrefl _))).all0) (fun hHeld => ?_)
      clear hK K
      try simp only [Act.put]
      refine wpAnyH_take (i := 7) (oi := ⟨some 5, .assign (.const (.int .i64 0)), _, _, _, none⟩) (v := ?_) rfl (by kernel_rfl) (by kernel_rfl) (by kernel_rfl) (fun _ _ _ h => h) (Or.inl ⟨by rfl, ?_⟩) hHeld ?_
      rotate_left
      · intro W _; go_simp; try with_reducible rfl
      try simp only [Act.put, List.setIfInBounds_toArray, List.set_cons_zero, List.set_cons_succ]
      refine wpAnyH_done (by kernel_rfl) ?_ _
      -- END rsign
      have HFB := Lib.hid (HB9.out.grown hg5 HB9.out.size (fun k e => by cases e; exact Nat.le_of_lt HRR.out))
      clear hHeld
      go_wp2_with fail
      apply bodyPost_ret
      exact results_blk2 rfl _ _ _ _ _ _ rfl hd5 Tryd.underlying36 rfl IX.out
      rfl
      exact ⟨by rw [HF.out]; rfl, HFB.out⟩
set_option maxHeartbeats 2000000 in
theorem rcheck_any (w : World) (hT : Tab w 1) (k : ByteArray) (s : Sg) (hs : s.ok) :
    Calls Tryd.prog 18 #[.string k, .agg (sgc s).toArray] w fun e w' => e = .returned (.int .i64 (chkH k s)) ∧ Below w.heap.size w w' := by
  have hb0 := Blk.new w 36 (sgc s)
  have hB0 : Below w.heap.size w (w.alloc (.cells (sgc s).toArray 36)) := (Below.refl _ w).alloc (Nat.le_refl _) _
  have IH : Hid ((Tryd.prog.info? 25).map (·.size) = some (hdc s.hd).length) := Lib.hid (by rw [hdc_length hs.1]; exact info_head0)
  have HT := Lib.hid (hT.below hB0)
  have HS := Lib.hid hs
  have hp0 := (hb0.sgp hs).1
  clear hT hs
  go_enter Tryd.func18, Tryd.ntmps18
  go_wp2_with (first
    | ((with_reducible refine wpList_loadMH (o := ⟨some 10, _, _, _, _, _⟩) ?_ w.heap.size 0 25 (.tmp 9) ?_ ?_ hp0 Tryd.underlying25 ?_ IH.out ?_); rfl; rfl; rfl; rfl))
  generalize w.alloc (.cells (sgc s).toArray 36) = w0 at *
  refine (rsign_any w0 HT.out k s.hd HS.out.1).mono ?_
  have HSO : Hid ((sgnP k s.hd).1.ok) := Lib.hid (sgnP_ok k HS.out.1)
  rintro e w1 ⟨rfl, hB1⟩
  have hb1 := hb0.below hB1
  have HB1 := Lib.hid (Bt hB0 hB1)
  have IX : Hid ((Tryd.prog.info? 36).map (·.size) = some (sgc (sgnP k s.hd).1).length) := Lib.hid (by rw [sgc_length HSO.out]; exact info_signed)
  have HLX : Hid ((sgc sgz).length = (sgc (sgnP k s.hd).1).length) := Lib.hid (by rw [sgc_length HSO.out, sgc_length sgz_ok])
  have HOX : Hid (∀ v ∈ sgc (sgnP k s.hd).1, v.oneCell' = true) := Lib.hid (sgc_one _)
  have HCH : Hid (chkH k s = if (sgnP k s.hd).2 = 0 then (if (sgnP k s.hd).1.sign == s.sign then 0 else 81) else 80) := Lib.hid (chkH_sgnP k s)
  have H80 : Hid ((sgnP k s.hd).2 = 0 ∨ (sgnP k s.hd).2 = 80) := Lib.hid (sgnP_err k s.hd)
  have ID1 : Hid ((Tryd.prog.info? 23).map (·.size) = some (bs (sgnP k s.hd).1.sign).length) := Lib.hid (by rw [info_digest, bs_length, HSO.out.2])
  have ID2 : Hid ((Tryd.prog.info? 23).map (·.size) = some (bs s.sign).length) := Lib.hid (by rw [info_digest, bs_length, HS.out.2])
  clear hb0 hB0 hB1 hp0 HT
  generalize (sgnP k s.hd).1 = y at *
  generalize (sgnP k s.hd).2 = er at *
  rcases H80.out with rfl | rfl
  · cases hq : (y.sign == s.sign)
    · have HQ : Hid (chkH k s = 81) := Lib.hid (by rw [HCH.out]; simp [hq])
      have HNE : Hid (∀ W : World, (binOp .neq 23 (.agg (bs y.sign).toArray) (.agg (bs s.sign).toArray)).run Tryd.prog W = .ok (.bool (!false)) W) := Lib.hid (fun W => by rw [neqD W _ _ HSO.out.2 HS.out.2, hq])
      go_wp2_with (first
        | ((with_reducible refine wpList_allocB (o := ⟨some 5, _, _, _, _, _⟩) ?_ 36 ?_ sgz_info ?_); rfl; rfl; intro w2 hd2 hg2 hz2)
        | ((with_reducible refine wpList_storeB (o := ⟨none, .store 36 (.tmp 5) (.tmp 12), _, _, _, _⟩) ?_ 36 (.tmp 5) (.tmp 12) ?_ ?_ ?_ hd2 IX.out HLX.out HOX.out ?_); rfl; rfl; rfl; rfl; intro w3 hd3 hg3 hz3; have hb3 := (hb1.grown hg2 (by simp)).grown hg3 (by have := hb1.lt; simp; omega); have hp1 := (hd3.sgp HSO.out).2.1; have hp2 := (hb3.sgp HS.out).2.1; have HB3 := Lib.hid ((HB1.out.grown hg2 HB1.out.size (by simp)).grown hg3 (by have := HB1.out.size; omega) (fun k e => by cases e; exact HB1.out.size)))
        | ((with_reducible refine wpList_loadMH (o := ⟨some 18, _, _, _, _, _⟩) ?_ w1.heap.size 65 23 (.tmp 17) ?_ ?_ hp1 Tryd.underlying23 ?_ ID1.out ?_); rfl; rfl; rfl; rfl)
        | ((with_reducible refine wpList_loadMH (o := ⟨some 20, _, _, _, _, _⟩) ?_ w.heap.size 65 23 (.tmp 19) ?_ ?_ hp2 Tryd.underlying23 ?_ ID2.out ?_); rfl; rfl; rfl; rfl)
        | ((with_reducible refine wpList_eqH (o := ⟨some 21, _, _, _, _, _⟩) ?_ .neq 23 23 (.tmp 18) (.tmp 20) ?_ (bs y.sign).toArray (bs s.sign).toArray ?_ ?_ guardH _ HNE.out ?_); rfl; rfl; rfl; rfl))
      go_ret
      exact ⟨by rw [HQ.out]; rfl, HB3.out⟩
    · have HQ : Hid (chkH k s = 0) := Lib.hid (by rw [HCH.out]; simp [hq])
      have HNE : Hid (∀ W : World, (binOp .neq 23 (.agg (bs y.sign).toArray) (.agg (bs s.sign).toArray)).run Tryd.prog W = .ok (.bool (!true)) W) := Lib.hid (fun W => by rw [neqD W _ _ HSO.out.2 HS.out.2, hq])
      go_wp2_with (first
        | ((with_reducible refine wpList_allocB (o := ⟨some 5, _, _, _, _, _⟩) ?_ 36 ?_ sgz_info ?_); rfl; rfl; intro w2 hd2 hg2 hz2)
        | ((with_reducible refine wpList_storeB (o := ⟨none, .store 36 (.tmp 5) (.tmp 12), _, _, _, _⟩) ?_ 36 (.tmp 5) (.tmp 12) ?_ ?_ ?_ hd2 IX.out HLX.out HOX.out ?_); rfl; rfl; rfl; rfl; intro w3 hd3 hg3 hz3; have hb3 := (hb1.grown hg2 (by simp)).grown hg3 (by have := hb1.lt; simp; omega); have hp1 := (hd3.sgp HSO.out).2.1; have hp2 := (hb3.sgp HS.out).2.1; have HB3 := Lib.hid ((HB1.out.grown hg2 HB1.out.size (by simp)).grown hg3 (by have := HB1.out.size; omega) (fun k e => by cases e; exact HB1.out.size)))
        | ((with_reducible refine wpList_loadMH (o := ⟨some 18, _, _, _, _, _⟩) ?_ w1.heap.size 65 23 (.tmp 17) ?_ ?_ hp1 Tryd.underlying23 ?_ ID1.out ?_); rfl; rfl; rfl; rfl)
        | ((with_reducible refine wpList_loadMH (o := ⟨some 20, _, _, _, _, _⟩) ?_ w.heap.size 65 23 (.tmp 19) ?_ ?_ hp2 Tryd.underlying23 ?_ ID2.out ?_); rfl; rfl; rfl; rfl)
        | ((with_reducible refine wpList_eqH (o := ⟨some 21, _, _, _, _, _⟩) ?_ .neq 23 23 (.tmp 18) (.tmp 20) ?_ (bs y.sign).toArray (bs s.sign).toArray ?_ ?_ guardH _ HNE.out ?_); rfl; rfl; rfl; rfl))
      go_ret
      exact ⟨by rw [HQ.out]; rfl, HB3.out⟩
  · go_wp2_with (first
      | ((with_reducible refine wpList_allocB (o := ⟨some 5, _, _, _, _, _⟩) ?_ 36 ?_ sgz_info ?_); rfl; rfl; intro w2 hd2 hg2 hz2)
      | ((with_reducible refine wpList_storeB (o := ⟨none, .store 36 (.tmp 5) (.tmp 12), _, _, _, _⟩) ?_ 36 (.tmp 5) (.tmp 12) ?_ ?_ ?_ hd2 IX.out HLX.out HOX.out ?_); rfl; rfl; rfl; rfl; intro w3 hd3 hg3 hz3; have HB3 := Lib.hid ((HB1.out.grown hg2 HB1.out.size (by simp)).grown hg3 (by have := HB1.out.size; omega) (fun k e => by cases e; exact HB1.out.size))))
    go_ret
    exact ⟨by rw [HCH.out]; rfl, HB3.out⟩
end Go.Proofs.YtoclahcibilbhaaDoor
