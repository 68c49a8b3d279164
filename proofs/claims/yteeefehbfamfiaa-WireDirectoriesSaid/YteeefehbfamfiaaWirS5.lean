/-
  The document's answer, laid out: directories.
-/
import Derived.Test.YteeefehbfamfiaaWirS3
namespace Go.Proofs.Yteeefehbfamfiaa
open Go.RowKit
set_option maxRecDepth 100000

theorem sec_cells {W : World} {z : Nat} {x : Se} (h : Blk W z 92 (sec x)) : W.cell? ⟨z, 0, none⟩ = some (.int .i64 x.cl) ∧ W.cell? ⟨z, 1, none⟩ = some (.int .i64 x.sq) ∧ W.cell? ⟨z, 2, none⟩ = some (.int .i64 x.cd) ∧ W.cell? ⟨z, 3, none⟩ = some (.int .i64 x.ep) := ⟨h.cell rfl, h.cell rfl, h.cell rfl, h.cell rfl⟩
theorem se0_info : (Try.prog.info? 92).map (fun i => (i.zero, i.size)) = some (some (.agg (sec se0).toArray), 4) := by kernel_rfl

set_option maxHeartbeats 8000000 in
theorem directory_ref (w : World) (g base : Nat) (o0 : Lo) (hR : Rf w g base o0) (x : Di) (hx : x.ok) (hr : Ev base w (fun W => Di.rdx W base base x)) (ho : o0.2.length ≤ 50000000000000) :
    Calls Try.prog 39 #[.pointer (some ⟨g, 0, none⟩), .agg (dic x).toArray] w fun f w' => f = .returned (.tuple #[]) ∧ Rf w' g base (loDi x o0) ∧ Bk g base w w' := by
  have hle : base ≤ w.heap.size := by obtain ⟨_, _, _, _, _, _, h, _⟩ := hR; exact h
  have HNG : Hid (w.heap.size ≠ g) := Lib.hid (by obtain ⟨_, _, _, h, _⟩ := hR; have := h.lt; omega)
  have hb0 := Blk.new w 62 (dic x)
  have hB1 : Below w.heap.size w (w.alloc (.cells (dic x).toArray 62)) := (Below.refl _ w).alloc (Nat.le_refl _) _
  have hR0 := hR.below hB1
  have B0 : Hid (Bk g base w _) := Lib.hid (Bk.of hB1 hle)
  have HR := Lib.hid hr
  have HBX : Hid (∀ W, Blk W w.heap.size 62 (dic x) → W.cell? ⟨w.heap.size, 0, none⟩ = some (.int .i64 x.ep) ∧ W.cell? ⟨w.heap.size, 1, none⟩ = some (.slice x.usa x.us.length x.usc) ∧ W.cell? ⟨w.heap.size, 2, none⟩ = some (.slice x.hsa x.hs.length x.hsc) ∧ W.cell? ⟨w.heap.size, 3, none⟩ = some (.slice x.ssa x.ss.length x.ssc)) := Lib.hid (fun W h => ⟨h.cell rfl, h.cell rfl, h.cell rfl, h.cell rfl⟩)
  have HX := Lib.hid hx
  have HLE := Lib.hid hle
  have HDD : Hid (loDi x o0 = loL loSe x.ss (loL loH x.hs (loL loU x.us (loN x.ep o0)))) := Lib.hid rfl
  have L0 : Hid (o0.2.length ≤ 50000000000000) := Lib.hid ho
  have hc0 := (HBX.out _ hb0).1
  clear hB1 hr ho hR hx hle
  go_enter Try.func39, Try.ntmps39
  go_wp2_with fail
  generalize w.alloc (.cells (dic x).toArray 62) = w0 at *
  refine (n_ref w0 g base o0 hR0 x.ep (by have := L0.out; omega)).mono ?_
  rintro e w1 ⟨rfl, hR1, hB⟩
  have hb1 := hb0.bk hB HNG.out (by decide)
  have L1 : Hid ((loN x.ep o0).2.length ≤ 50000000000005) := Lib.hid (by have h1 := L0.out; have h2 := loN_len3 x.ep o0; omega)
  have B1 := Lib.hid (B0.out.trans hB)
  have hc1 := (HBX.out _ hb1).2.1
  clear hR0 hb0 hc0 hB
  generalize loN x.ep o0 = o1 at *
  go_wp2_with fail
  refine (users_ref w1 g base o1 hR1 x.usa x.us.length x.usc x.us (fun W hW => by have h := HR.out W (B1.out.below.trans hW); exact ⟨h.1.rd, fun u hu => (h.2.1 u hu).rd⟩) (by have := L1.out; omega)).mono ?_
  rintro e w2 ⟨rfl, hR2, hB⟩
  have hb2 := hb1.bk hB HNG.out (by decide)
  have L2 : Hid ((loL loU x.us o1).2.length ≤ 52000000000000) := Lib.hid (by have h1 := L1.out; have h2 := loL_len2 (lo1 := loU) (l := x.us) (o := o1) (M := 268562442) (fun y _ o => loU_len3 trivial o); omega)
  have B2 := Lib.hid (B1.out.trans hB)
  have hc2 := (HBX.out _ hb2).2.2.1
  clear hR1 hb1 hc1 hB
  generalize loL loU x.us o1 = o2 at *
  go_wp2_with fail
  refine (many_ref w2 g base o2 hR2 x.hs.length (by have := L2.out; omega)).mono ?_
  rintro e w3 ⟨hm, hB⟩
  have hb3 := hb2.bk hB HNG.out (by decide)
  have B3 := Lib.hid (B2.out.trans hB)
  have hc3 := (HBX.out _ hb3).2.2.1
  clear hR2 hb2 hc2 hB
  rcases hm with ⟨h4, rfl, hR3⟩ | ⟨h4, rfl, hR3⟩
  rotate_left
  · go_wp2_with fail
    apply bodyPost_ret
    exact results_none rfl _ _ _
    rfl
    exact ⟨rfl, by rw [HDD.out, loL_longA h4, loL_stuck (loA_2 _)]; exact hR3, B3.out⟩
  have HSH : Hid (loL loH x.hs o2 = x.hs.foldl (fun o y => loH y o) (loN x.hs.length o2)) := Lib.hid (loL_shortA h4 (fun y o h => loH_stuck h))
  have HQ3 : Hid ((loN x.hs.length o2).2.length ≤ 52000000000005) := Lib.hid (by have h1 := loN_len3 x.hs.length o2; have h2 := L2.out; omega)
  have H4 := Lib.hid h4
  have hcap := (HR.out _ B3.out.below).2.2.1.rd.cap
  clear h4
  generalize loN x.hs.length o2 = o3 at *
  generalize hnh : x.hs.length = nh at *
  have HNH := Lib.hid hnh
  have HB3 := Lib.hid hb3
  clear hnh hb3 hc3
  go_wp2_with fail
  go_loopw [4] (fun i wr => ∃ (k : Nat) (ok : Lo), k ≤ nh ∧ i = .int .i64 (k : Int) ∧ Hid ((x.hs.take k).foldl (fun o y => loH y o) o3 = ok) ∧ Hid (ok.2.length ≤ o3.2.length + k * 69) ∧ Rf wr g base ok ∧ Hid (Bk g base w3 wr)) (fun i _ => nh - (intOf i).toNat)
  case atStart => exact ⟨0, o3, by omega, rfl, Lib.hid rfl, Lib.hid (by omega), hR3, Lib.hid (Bk.refl _ _ _)⟩
  case round =>
    obtain ⟨k, ok, hk, rfl, HF, HQK, hRk, HBK⟩ := hrel
    have hbr := HB3.out.bk HBK.out HNG.out (by decide)
    have hch := (HBX.out _ hbr).2.2.1
    have hn5 : (nh : Int) ≤ 4096 := by have := H4.out; omega
    by_cases hkn : k < nh
    · have hki : (k : Int) < (nh : Int) := by omega
      obtain ⟨yb, yo, hya, _, hel⟩ := ((HR.out _ (B3.out.below.trans HBK.out.below)).2.2.1).rd.elems (by rw [HNH.out]; omega)
      have HRG := Lib.hid (hel k (by rw [HNH.out]; exact hkn))
      rw [hya] at hch
      have HKL : Hid (k < x.hs.length) := Lib.hid (by rw [HNH.out]; exact hkn)
      have HST := Lib.hid (fold_step (f := fun o y => loH y o) (o := o3) (x0 := hd0) HKL.out)
      have HOK : Hid ((x.hs.getD k hd0).ok) := Lib.hid (HX.out _ (getD_mem HKL.out))
      have HQB : Hid (ok.2.length ≤ 52000001000000) := Lib.hid (by have h1 := HQK.out; have h2 := HQ3.out; have h3 : k * 69 ≤ 4096 * 69 := Nat.mul_le_mul_right _ (by omega); omega)
      have HLH : Hid ((loH (x.hs.getD k hd0) ok).2.length ≤ o3.2.length + (k + 1) * 69) := Lib.hid (by have h1 := HQK.out; have h2 := loH_len3 (x := x.hs.getD k hd0) HOK.out ok; rw [Nat.succ_mul]; exact Nat.le_trans h2 (by rw [← Nat.add_assoc]; exact Nat.add_le_add_right h1 _))
      have hrg : wr.rangeAt yb (yo + k * 65) (hdc (x.hs.getD k hd0)) := HRG.out
      have IH : Hid ((Try.prog.info? 48).map (·.size) = some (hdc (x.hs.getD k hd0)).length) := Lib.hid (by rw [hdc_length HOK.out]; kernel_rfl)
      clear hel hya
      generalize x.hs.getD k hd0 = v at *
      go_wp2_with ((with_reducible refine wpList_loadM (o := ⟨some 33, _, _, _, _, _⟩) ?_ yb (yo + k * 65) 48 (.tmp 32) ?_ ?_ hrg Try.underlying48 ?_ IH.out ?_); rfl; rfl; rfl; rfl)
      refine (head_ref wr g base ok hRk v HOK.out (by have := HQB.out; omega)).mono ?_
      rintro e w4 ⟨rfl, hR4, hB4⟩
      have HF4 : Hid ((x.hs.take (k + 1)).foldl (fun o y => loH y o) o3 = loH v ok) := Lib.hid (by rw [HST.out, HF.out])
      have HB4 := Lib.hid (HBK.out.trans hB4)
      clear hB4 hRk hrg hch hbr
      go_wp2_with fail
      go_roundw
      case rel => exact ⟨k + 1, loH v ok, by omega, by go_num, HF4, HLH, hR4, HB4⟩
      case measure => simp [intOf]; omega
    · obtain rfl : k = nh := by omega
      have hki : ¬ (k : Int) < (k : Int) := by omega
      have hF := HF.out
      rw [List.take_of_length_le (by rw [HNH.out]; omega), ← HSH.out] at hF
      subst hF
      have B4 := Lib.hid (B3.out.trans HBK.out)
      have L4 : Hid ((loL loH x.hs o2).2.length ≤ 52000001000000) := Lib.hid (by have h1 := HQK.out; have h2 := HQ3.out; have h3 : k * 69 ≤ 4096 * 69 := Nat.mul_le_mul_right _ (by omega); omega)
      have hcs := (HBX.out _ hbr).2.2.2
      have HBR := Lib.hid hbr
      clear hbr
      go_wp2_with fail
      generalize loL loH x.hs o2 = o4 at *
      refine (many_ref wr g base o4 hRk x.ss.length (by have := L4.out; omega)).mono ?_
      rintro e w5 ⟨hm, hB⟩
      have hb5 := HBR.out.bk hB HNG.out (by decide)
      have B5 := Lib.hid (B4.out.trans hB)
      clear hRk hcs hch hB
      rcases hm with ⟨h4, rfl, hR5⟩ | ⟨h4, rfl, hR5⟩
      rotate_left
      · go_wp2_with fail
        apply bodyPost_ret
        exact results_none rfl _ _ _
        rfl
        exact ⟨rfl, by rw [HDD.out, loL_longA h4]; exact hR5, B5.out⟩
      have HSS : Hid (loL loSe x.ss o4 = x.ss.foldl (fun o y => loSe y o) (loN x.ss.length o4)) := Lib.hid (loL_shortA h4 (fun y o h => loSe_stuck h))
      have HQ5 : Hid ((loN x.ss.length o4).2.length ≤ 52000001000005) := Lib.hid (by have h1 := loN_len3 x.ss.length o4; have h2 := L4.out; omega)
      have H4s := Lib.hid h4
      have hcaps := (HR.out _ B5.out.below).2.2.2.rd.cap
      clear h4
      generalize loN x.ss.length o4 = o5 at *
      generalize hns : x.ss.length = ns at *
      have HNS := Lib.hid hns
      have HB5 := Lib.hid hb5
      clear hns hb5
      go_wp2_with fail
      go_loopw [5] (fun i wr => ∃ (j : Nat) (oj : Lo), j ≤ ns ∧ i = .int .i64 (j : Int) ∧ Hid ((x.ss.take j).foldl (fun o y => loSe y o) o5 = oj) ∧ Hid (oj.2.length ≤ o5.2.length + j * 20) ∧ Rf wr g base oj ∧ Hid (Bk g base w5 wr)) (fun i _ => ns - (intOf i).toNat)
      case atStart => exact ⟨0, o5, by omega, rfl, Lib.hid rfl, Lib.hid (by omega), hR5, Lib.hid (Bk.refl _ _ _)⟩
      case round =>
        obtain ⟨j, oj, hj, rfl, HFj, HQJ, hRj, HBJ⟩ := hrel
        have hbr := HB5.out.bk HBJ.out HNG.out (by decide)
        have hcj := (HBX.out _ hbr).2.2.2
        have hs5 : (ns : Int) ≤ 4096 := by have := H4s.out; omega
        by_cases hjn : j < ns
        · have hji : (j : Int) < (ns : Int) := by omega
          obtain ⟨yb, yo, hya, _, hel⟩ := ((HR.out _ (B5.out.below.trans HBJ.out.below)).2.2.2).rd.elems (by rw [HNS.out]; omega)
          rw [hya] at hcj
          have hrg : wr.rangeAt yb (yo + j * 4) (sec (x.ss.getD j se0)) := hel j (by rw [HNS.out]; exact hjn)
          have HJL : Hid (j < x.ss.length) := Lib.hid (by rw [HNS.out]; exact hjn)
          have HST := Lib.hid (fold_step (f := fun o y => loSe y o) (o := o5) (x0 := se0) HJL.out)
          have HQB : Hid (oj.2.length ≤ 52000002000000) := Lib.hid (by have h1 := HQJ.out; have h2 := HQ5.out; have h3 : j * 20 ≤ 4096 * 20 := Nat.mul_le_mul_right _ (by omega); omega)
          have HLS : Hid ((loSe (x.ss.getD j se0) oj).2.length ≤ o5.2.length + (j + 1) * 20) := Lib.hid (by have h1 := HQJ.out; have h2 := loSe_len3 (x := x.ss.getD j se0) trivial oj; rw [Nat.succ_mul]; exact Nat.le_trans h2 (by rw [← Nat.add_assoc]; exact Nat.add_le_add_right h1 _))
          have IH : Hid ((Try.prog.info? 92).map (·.size) = some (sec (x.ss.getD j se0)).length) := Lib.hid (by rw [sec_length trivial]; kernel_rfl)
          have HVV : Hid (loSe (x.ss.getD j se0) oj = loN (x.ss.getD j se0).ep (loN (x.ss.getD j se0).cd (loN (x.ss.getD j se0).sq (loN (x.ss.getD j se0).cl oj)))) := Lib.hid rfl
          have HONE : Hid (∀ u ∈ sec (x.ss.getD j se0), u.oneCell' = true) := Lib.hid (seR.one _)
          have HSL : Hid ((sec se0).length = (sec (x.ss.getD j se0)).length) := Lib.hid rfl
          have hle5 : base ≤ wr.heap.size := by obtain ⟨_, _, _, _, _, _, h, _⟩ := hRj; exact h
          have HLG : Hid (wr.heap.size ≠ g) := Lib.hid (by obtain ⟨_, _, _, h, _⟩ := hRj; have := h.lt; omega)
          clear hel hya
          generalize x.ss.getD j se0 = v at *
          go_wp2_with (first
            | ((with_reducible refine wpList_loadM (o := ⟨some 52, _, _, _, _, _⟩) ?_ yb (yo + j * 4) 92 (.tmp 51) ?_ ?_ hrg Try.underlying92 ?_ IH.out ?_); rfl; rfl; rfl; rfl)
            | ((with_reducible refine wpList_allocB (o := ⟨some 6, _, _, _, _, _⟩) ?_ 92 ?_ se0_info ?_); rfl; rfl; intro w6 hb6 hg6 hz6)
            | (((with_reducible refine wpList_storeB (o := ⟨none, .store 92 (.tmp 6) (.tmp 52), _, _, _, _⟩) ?_ 92 (.tmp 6) (.tmp 52) ?_ ?_ ?_ hb6 IH.out HSL.out HONE.out ?_); rfl; rfl; rfl; rfl; intro w7 hb7 hg7 hz7); have hcc := (sec_cells hb7).1))
          have hB7 : Below wr.heap.size wr w7 := ((Below.refl _ wr).grown hg6 (Nat.le_refl _) (by simp)).grown hg7 (by omega) (fun k e => by cases e; exact Nat.le_refl _)
          have hR7 := hRj.below hB7
          have HBK7 := Lib.hid (HBJ.out.trans (Bk.of hB7 hle5))
          clear hb6 hg6 hz6 hg7 hB7 hRj hrg hcj hbr hz7
          refine (n_ref w7 g base oj hR7 v.cl (by have := HQB.out; omega)).mono ?_
          rintro e w8 ⟨rfl, hR8, hB⟩
          have hb8 := hb7.bk hB HLG.out (by decide)
          have hcc := (sec_cells hb8).2.1
          have HQ8 : Hid ((loN v.cl oj).2.length ≤ 52000002000005) := Lib.hid (by have h1 := loN_len3 v.cl oj; have h2 := HQB.out; omega)
          have HBK8 := Lib.hid (HBK7.out.trans hB)
          clear hb7 hR7 hB
          go_wp2_with fail
          refine (n_ref w8 g base _ hR8 v.sq (by have := HQ8.out; omega)).mono ?_
          rintro e w9 ⟨rfl, hR9, hB⟩
          have hb9 := hb8.bk hB HLG.out (by decide)
          have hcc := (sec_cells hb9).2.2.1
          have HQ9 : Hid ((loN v.sq (loN v.cl oj)).2.length ≤ 52000002000010) := Lib.hid (by have h1 := loN_len3 v.sq (loN v.cl oj); have h2 := HQ8.out; omega)
          have HBK9 := Lib.hid (HBK8.out.trans hB)
          clear hb8 hR8 hB
          go_wp2_with fail
          refine (n_ref w9 g base _ hR9 v.cd (by have := HQ9.out; omega)).mono ?_
          rintro e wA ⟨rfl, hRA, hB⟩
          have hbA := hb9.bk hB HLG.out (by decide)
          have hcc := (sec_cells hbA).2.2.2
          have HQA : Hid ((loN v.cd (loN v.sq (loN v.cl oj))).2.length ≤ 52000002000015) := Lib.hid (by have h1 := loN_len3 v.cd (loN v.sq (loN v.cl oj)); have h2 := HQ9.out; omega)
          have HBKA := Lib.hid (HBK9.out.trans hB)
          clear hb9 hR9 hB
          go_wp2_with fail
          refine (n_ref wA g base _ hRA v.ep (by have := HQA.out; omega)).mono ?_
          rintro e wB ⟨rfl, hRB, hB⟩
          rw [← HVV.out] at hRB
          have HFB : Hid ((x.ss.take (j + 1)).foldl (fun o y => loSe y o) o5 = loSe v oj) := Lib.hid (by rw [HST.out, HFj.out])
          have HBKB := Lib.hid (HBKA.out.trans hB)
          clear hbA hRA hB hcc
          go_wp2_with fail
          go_roundw
          case rel => exact ⟨j + 1, loSe v oj, by omega, by go_num, HFB, HLS, hRB, HBKB⟩
          case measure => simp [intOf]; omega
        · obtain rfl : j = ns := by omega
          have hji : ¬ (j : Int) < (j : Int) := by omega
          have hF := HFj.out
          rw [List.take_of_length_le (by rw [HNS.out]; omega), ← HSS.out] at hF
          subst hF
          go_wp2_with fail
          go_end0
          exact ⟨rfl, by rw [HDD.out]; exact hRj, B5.out.trans HBJ.out⟩

set_option maxHeartbeats 400000 in
theorem putDirectoryR_any (w : World) (x : Di) (hx : x.ok) (hrd : Di.rd w x) :
    Calls Try.prog 22 #[.agg (dic x).toArray] w (PutP w (loDi x (0, []))) := by
  have HBO := Lib.hid built_out
  have hX := Blk.new w 62 (dic x)
  have IS : Hid ((Try.prog.info? 62).map (·.size) = some (dic x).length) := Lib.hid (by rw [dic_length hx]; exact info_directory)
  have hX1 := hX.alloc (.cells #[.slice none 0 0, .int .i64 0] 74)
  have hr := hX1.range 0 (cs := dic x) (fun j _ => by simp)
  have hg : Blk ((w.alloc (.cells (dic x).toArray 62)).alloc (.cells #[.slice none 0 0, .int .i64 0] 74)) (w.heap.size + 1) 74 [.slice none 0 0, .int .i64 0] := by
    have := Blk.new (w.alloc (.cells (dic x).toArray 62)) 74 [.slice none 0 0, .int .i64 0]
    simpa using this
  have hB : Below w.heap.size w ((w.alloc (.cells (dic x).toArray 62)).alloc (.cells #[.slice none 0 0, .int .i64 0] 74)) := ((Below.refl _ w).alloc (Nat.le_refl _) _).alloc (by simp) _
  have HB := Lib.hid hB
  have hR : Rf ((w.alloc (.cells (dic x).toArray 62)).alloc (.cells #[.slice none 0 0, .int .i64 0] 74)) (w.heap.size + 1) w.heap.size (0, []) :=
    ⟨none, 0, 0, hg, Own.nil0 _ _, by omega, by simp; omega, rfl⟩
  clear hX hX1 hg hB
  go_enter Try.func22, Try.ntmps22
  go_wp2_with (first
    | ((with_reducible refine wpList_buildI (dst := some 5) HBO.out ?_ ?_); rfl)
    | ((with_reducible refine wpList_loadM (o := ⟨some 8, _, _, _, _, _⟩) ?_ w.heap.size 0 62 (.tmp 1) ?_ ?_ hr Try.underlying62 ?_ IS.out ?_); rfl; rfl; rfl; rfl))
  refine (directory_ref _ _ _ _ hR x hx (fun W hW => hrd W _ _ (HB.out.trans hW) (Nat.le_refl _) (Nat.le_refl _)) (by simp)).mono ?_
  rintro e w1 ⟨rfl, hR1, hB1⟩
  generalize loDi x (0, []) = o at *
  have HB1 := Lib.hid (HB.out.trans hB1.below)
  clear hR hr hB1
  go_wp2_with fail
  refine (done_ref w1 _ _ o hR1).mono ?_
  rintro e w2 ⟨v, rfl, hO, hB2⟩
  have HP : Hid (∀ W, W = w2 → PutP w o (.returned (.tuple #[v, .int .i64 o.1])) W) :=
    Lib.hid (fun W e => by subst e; exact ⟨v, rfl, hO, HB1.out.trans (hB2.mono HB1.out.size)⟩)
  generalize o.1 = err at *
  clear hO hB2 hR1
  go_wp2
  go_ret2
  exact HP.out _ rfl

end Go.Proofs.Yteeefehbfamfiaa
