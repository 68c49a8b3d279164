/-
  Package wire's lists, encoded and decoded: numbers, versions, heads, sessions.
-/
import Derived.Test.YtoclahcibilbhaaGreatWirY0
namespace Go.Proofs.YtoclahcibilbhaaGreat
open Go.RowKit
set_option maxRecDepth 100000

set_option maxHeartbeats 2000000 in
theorem list_enc_int (w : World) (b B : Nat) (q : List UInt8) (hC : CdX w b B q) (X off : Nat) (hlt : X < B) (hne : X ≠ b) (a : Option Addr) (n c : Nat) (hc : w.cell? ⟨X, off, none⟩ = some (.slice a n c)) (l : List Int) (hr : RdX intR w b B a n c l) (ho : q.length ≤ 70368744157179) :
    Calls Tryz.prog 100 #[.pointer (some ⟨b, 0, none⟩), .pointer (some ⟨X, off, none⟩), .func (.func 56) #[] #[]] w fun e w' => ∃ err, Abt err e ∧ LayO (loL loN l (0, q)) err (fun l => CdX w' b B l) ∧ Stp (· = b) B w w' := by
  have HN := Lib.hid hr.rd.len
  have HR := Lib.hid hr
  have HLT := Lib.hid hlt
  have HNE := Lib.hid hne
  have HO := Lib.hid ho
  have HCP := Lib.hid hr.rd.cap
  have HMX := Lib.hid hr.rd.max
  clear hr hlt hne ho
  go_enter Tryz.func100, Tryz.ntmps100
  go_wp2_with fail
  refine (length_enc w b B q hC n (by have := HO.out; omega)).mono ?_
  rintro e w1 ⟨hL, hs1⟩
  rcases hL with ⟨h4, rfl, hC1⟩ | ⟨h4, hab⟩
  rotate_left
  · obtain ⟨h0, _⟩ | ⟨_, rfl⟩ := hab
    · exact absurd h0 (by decide)
    exact ⟨rfl, 2, Abt.no (by decide), by rw [loL_long (by rw [HN.out]; exact h4)]; exact ⟨rfl, fun e => absurd e (by decide)⟩, hs1⟩
  have HSH : Hid (loL loN l (0, q) = l.foldl (fun o x => loN x o) (0, q ++ encC n)) := Lib.hid (by rw [loL_short (by rw [HN.out]; exact h4), HN.out])
  have HQ1 : Hid ((q ++ encC n).length ≤ 70368744157184) := Lib.hid (by have := encC_len n (by omega); have := HO.out; rw [List.length_append]; omega)
  generalize q ++ encC n = q1 at *
  have hc1 := hs1.cell hc HLT.out HNE.out
  have HS1 := Lib.hid hs1
  clear hs1 hC
  go_wp2_with fail
  go_loopw [14] (fun i wr => ∃ (k : Nat) (qk : List UInt8), k ≤ n ∧ i = .int .i64 (k : Int) ∧ Hid ((l.take k).foldl (fun o x => loN x o) (0, q1) = (0, qk)) ∧ Hid (qk.length ≤ q1.length + k * 5) ∧ CdX wr b B qk ∧ Hid (Stp (· = b) B w wr)) (fun i _ => n - (intOf i).toNat)
  case atStart => exact ⟨0, q1, by omega, rfl, Lib.hid rfl, Lib.hid (by omega), hC1, HS1⟩
  case round =>
    obtain ⟨k, qk, hk, rfl, HF, HQK, hCk, HS⟩ := hrel
    have hck := HS.out.cell hc HLT.out HNE.out
    by_cases hkn : k < n
    · obtain ⟨yb, yo, rfl, hyb, hel⟩ := HR.out.rd.elems (by omega)
      have HY := Lib.hid (HR.out.lt (by omega) _ rfl)
      have HEL := Lib.hid (HS.out.range (hel k hkn) HY.out.1 HY.out.2)
      have hki : (k : Int) < (n : Int) := by omega
      have hkb : ¬ ((k : Int) = (n : Int)) := by omega
      have HKL : Hid (k < l.length) := Lib.hid (by rw [HN.out]; exact hkn)
      have hcap := HCP.out
      have HQB : Hid (qk.length ≤ 70368744177664) := Lib.hid (by have h1 := HQK.out; have h2 := HQ1.out; have h3 : k * 5 ≤ 4096 * 5 := Nat.mul_le_mul_right _ (by omega); omega)
      clear hel hyb hc hc1 hC1
      go_wp2_with fail
      refine (number_enc_int wr b B qk hCk ⟨yb, yo + k, none⟩ (l.getD k 0) (by have := range_cell HEL.out 0 (v := .int .i64 (l.getD k 0)) rfl; simpa [intR] using this) (by have := HQB.out; omega)).mono ?_
      rintro e w2 ⟨err, he, hN, hs2⟩
      have hL := hN.lay
      clear hN
      have HST := Lib.hid (fold_step (f := fun o x => loN x o) (o := (0, q1)) (x0 := 0) HKL.out)
      rcases he with ⟨rfl, rfl⟩ | ⟨h0, rfl⟩
      · obtain ⟨q2, e2, hC2⟩ := hL.ok
        have HF2 : Hid ((l.take (k + 1)).foldl (fun o x => loN x o) (0, q1) = (0, q2)) := Lib.hid (by rw [HST.out, HF.out]; exact e2)
        have HQ2 : Hid (q2.length ≤ q1.length + (k + 1) * 5) := Lib.hid (by have h1 := HQK.out; have h2 := loN_len3 (l.getD k 0) (0, qk); rw [e2] at h2; simp only at h2; have h3 : (k + 1) * 5 = k * 5 + 5 := Nat.succ_mul k 5; rw [h3]; clear h3; generalize k * 5 = z at *; exact Nat.le_trans h2 (by rw [← Nat.add_assoc]; exact Nat.add_le_add_right h1 _))
        have HS2 := Lib.hid (HS.out.trans hs2)
        clear hL e2 hs2 hCk hck
        go_wp2_with fail
        go_roundw
        case rel => exact ⟨k + 1, q2, by omega, by go_num, HF2, HQ2, hC2, HS2⟩
        case measure => simp [intOf]; omega
      · refine ⟨rfl, err, Abt.no h0, ?_, HS.out.trans hs2⟩
        rw [HSH.out, fold_stop (f := fun o x => loN x o) (x0 := 0) (k := k) HKL.out rfl (by rw [HF.out]; intro x; exact loN_stuck (by rw [← hL.1]; exact h0)), HF.out]
        exact ⟨hL.1, fun e => absurd e h0⟩
    · obtain rfl : k = n := by omega
      have hki : ¬ (k : Int) < (k : Int) := by omega
      go_wp2_with fail
      go_end0
      have e : l.take k = l := List.take_of_length_le (by rw [HN.out]; omega)
      have hF := HF.out
      rw [e] at hF
      exact ⟨0, Abt.ok, by rw [HSH.out, hF]; exact ⟨rfl, fun _ => hCk⟩, HS.out⟩

set_option maxHeartbeats 4000000 in
theorem list_dec_int (A : Nat) (a0 : Option Addr) (n0 c0 : Nat) (l0 : List UInt8) (b r X B : Nat) (t : TypeId) (w : World) (l : List UInt8) (vs : List Value) (hD : Dc A a0 n0 c0 l0 b r X B t w l vs) (off : Nat) (hy : vs[off]? = some (.slice none 0 0)) (k_int : t ≠ 3) :
    Calls Tryz.prog 100 #[.pointer (some ⟨b, 0, none⟩), .pointer (some ⟨X, off, none⟩), .func (.func 56) #[] #[]] w fun e w' => ∃ err, Abt err e ∧ (DecI (gL gN l) err fun xs l' => ∃ (a : Option Addr) (c : Nat), Dc A a0 n0 c0 l0 b r X B t w' l' (vs.set off (.slice a xs.length c)) ∧ OwnG intR w' B (.slice a xs.length c) xs) ∧ Stp (fun k => k = r ∨ k = X) B w w' := by
  have HLE := Lib.hid hD.le
  have HLS := Lib.hid hD.lt
  have HY := Lib.hid hy
  have HNEB := Lib.hid hD.neb
  have hc := hD.xb.cell hy
  clear hy
  go_enter Tryz.func100, Tryz.ntmps100
  go_wp2_with fail
  refine (length_dec A a0 n0 c0 l0 b r X B t w l vs hD).mono ?_
  rintro e w1 ⟨hL, hs1⟩
  rcases hL with ⟨n, l1, hg, h4, rfl, hD1⟩ | ⟨⟨err, h0, hab⟩, hg⟩
  rotate_left
  · obtain ⟨h1, _⟩ | ⟨_, rfl⟩ := hab
    · exact absurd h1 h0
    refine ⟨rfl, err, Abt.no h0, .inr ⟨h0, ?_⟩, (hs1.lower HLE.out).more (fun i h => .inl h)⟩
    unfold gL
    cases hh : gN l with
    | none => rfl
    | some p => rw [Option.bind_some, if_pos (hg p hh)]
  have HG : Hid (gL gN l = manyG gN n l1) := Lib.hid (by unfold gL; rw [hg, Option.bind_some, if_neg (by omega)]; simp)
  have HS1 : Hid (Stp (fun k => k = r ∨ k = X) B w w1) := Lib.hid ((hs1.lower HLE.out).more (fun i h => .inl h))
  have hv1 : vs.set off (.slice none 0 0) = vs := by obtain ⟨h1, h2⟩ := List.getElem?_eq_some_iff.1 HY.out; rw [← h2]; exact List.set_getElem_self h1
  have HOF : Hid (off < vs.length) := Lib.hid (List.getElem?_eq_some_iff.1 HY.out).1
  clear hD hs1 hg hc
  go_wp2_with fail
  go_loopw [14] (fun i wr => ∃ (k : Nat) (a : Option Addr) (c : Nat) (ys : List Int) (l' : List UInt8), k ≤ n ∧ i = .int .i64 (k : Int) ∧ Hid (manyG gN k l1 = some (ys, l') ∧ ys.length = k) ∧ Dc A a0 n0 c0 l0 b r X B t wr l' (vs.set off (.slice a k c)) ∧ Hid (OwnG intR wr B (.slice a k c) ys) ∧ Hid (Stp (fun k => k = r ∨ k = X) B w wr)) (fun i _ => n - (intOf i).toNat)
  case atStart => exact ⟨0, none, 0, [], l1, by omega, rfl, Lib.hid ⟨rfl, rfl⟩, by rw [hv1]; exact hD1, Lib.hid (OwnG.nil0 _ _), HS1⟩
  case round =>
    obtain ⟨k, a, c, ys, l', hk, rfl, HM, hDk, HO, HS⟩ := hrel
    clear hD1 hv1
    have hkl := HM.out.2
    subst hkl
    have hck := hDk.xb.cell (j := off) (v := .slice a ys.length c) (by simp [HOF.out])
    have hfk := hDk.xb.free off
    by_cases hkn : ys.length < n
    · have hki : (ys.length : Int) < (n : Int) := by omega
      have HSZ := Lib.hid hDk.le
      have hln : ys.length + 1 ≤ 1000000 := by omega
      have hD0 := hDk
      have hO0 := HO.out
      have hS0 := HS.out
      have hB0 := hDk.le
      clear hDk
      go_wp2_with (first | ((with_reducible refine wpList_oneInt (o := ⟨some 28, _, _, _, _, _⟩) ?_ (.tmp 27) ?_ 0 ?_ ?_); rfl; rfl; rfl; intro W1 hR1 hB1; have hO1 := hO0.below hB1; have hBB := Nat.le_trans hB0 hB1.size) | ((with_reducible refine wpList_appG intR (o := ⟨some 29, _, _, _, _, _⟩) ?_ (.tmp 26) (.tmp 28) ?_ ?_ hO1 ?_ hR1 hln hBB ?_); rfl; rfl; rfl; rfl; intro a' c' W2 hO2 hg2 hx2; obtain ⟨hD3, hO3, hS3, hK3⟩ := list_grow intR hD0 hO0 hS0 hB1 hO2 hg2 (by decide) (by decide) (by decide) k_int; have hc3 := hD3.xb.cell (j := off) (v := .slice a' (ys.length + 1) c') (by simp [HOF.out]); have hf2 := (hD0.keep hB1).app hg2 (T := 3) (fun g e => hO1.typed g e) (by decide) (by decide) (by decide) k_int; have hc2 := hf2.xb.cell (j := off) (v := .slice a ys.length c) (by simp [HOF.out]); have hf3 := hf2.xb.free off; have hs2 := hB1.size; have hs3 := hg2.size; obtain ⟨g, cur, rfl, hBg, _, hbg, hcur, hz, hput⟩ := hO3.last; clear hO1 hO2 hf2 hx2))
      have hgb : g ≠ b := fun e => by subst e; exact hbg.noT (T := 107) (by decide) _ _ hD3.cb.at_
      have hgr : g ≠ r := fun e => by subst e; obtain ⟨_, _, _, k1, _⟩ := hD3.rd; exact hbg.noT (T := 150) (by decide) _ _ k1.at_
      have hDg := hD3.other hbg (by decide) hgb hgr
      have hHM := HM.out.1
      generalize hW3 : W2.setCell ⟨X, off, none⟩ (.slice (some ⟨g, 0, none⟩) (ys.length + 1) c') = W3 at *
      obtain ⟨y0, hy0⟩ : ∃ y, cur[ys.length]? = some y := ⟨_, List.getElem?_eq_getElem (by simp only [intR] at hcur; omega)⟩
      refine (number_dec_int A a0 n0 c0 l0 b r g W3.heap.size 3 W3 l' cur hDg (ys.length) y0 hy0).mono ?_
      rintro e w4 ⟨err, he, hN, hs4⟩
      have hN := hN.dec
      have hsw := hs4.weak (K' := fun k => k = r ∨ k = X) hD3.le (fun i h e => e.imp id (fun e => by omega))
      rcases hN with ⟨rfl, v, l2, hg4, hD4⟩ | ⟨h0, hg4⟩
      rotate_left
      · obtain ⟨h1, _⟩ | ⟨_, rfl⟩ := he
        · exact absurd h1 h0
        exact ⟨rfl, err, Abt.no h0, .inr ⟨h0, by rw [HG.out]; exact manyG_stop (k := ys.length + 1) (by rw [manyG, hHM, Option.bind_some]; simp only []; rw [hg4]; rfl) n (by omega)⟩, hS3.trans hsw⟩
      obtain ⟨_, rfl⟩ | ⟨h0, _⟩ := he
      rotate_left
      · exact absurd rfl h0
      rw [splice_one _ _ _ (by simp only [intR] at hcur; omega)] at hD4
      have hput' := fun h => hput w4 v trivial (by simpa [intR] using h)
      obtain ⟨hD5, hO5, hS5, hK5⟩ := list_fill intR hD3 hbg hBg hS3 hs4 hD4 hput' k_int
      have HM2 : Hid (manyG gN (ys.length + 1) l1 = some (ys ++ [v], l2) ∧ (ys ++ [v]).length = ys.length + 1) := Lib.hid ⟨by rw [manyG, hHM, Option.bind_some]; simp only []; rw [hg4]; simp, by simp⟩
      have HO5 := Lib.hid hO5
      have HS5 := Lib.hid hS5
      clear hO5 hS5 hK5 hO3 hS3 hK3 hD3 hDg hD4 hs4 hsw hput hput' hHM hg4 hz hcur hbg
      go_wp2_with fail
      go_roundw
      case rel => exact ⟨ys.length + 1, some ⟨g, 0, none⟩, c', ys ++ [v], l2, by omega, by go_num, HM2, hD5, HO5, HS5⟩
      case measure => simp [intOf]; omega
    · have hkn' : ys.length = n := by omega
      subst hkn'
      have hki : ¬ (ys.length : Int) < (ys.length : Int) := by omega
      go_wp2_with fail
      go_end0
      exact ⟨0, Abt.ok, .inl ⟨rfl, ys, l', by rw [HG.out]; exact HM.out.1, a, c, hDk, HO.out⟩, HS.out⟩

set_option maxHeartbeats 2000000 in
theorem list_enc_version (w : World) (b B : Nat) (q : List UInt8) (hC : CdX w b B q) (X off : Nat) (hlt : X < B) (hne : X ≠ b) (a : Option Addr) (n c : Nat) (hc : w.cell? ⟨X, off, none⟩ = some (.slice a n c)) (l : List Vn) (hr : RdX verR w b B a n c l) (ho : q.length ≤ 70368475680743) :
    Calls Tryz.prog 103 #[.pointer (some ⟨b, 0, none⟩), .pointer (some ⟨X, off, none⟩), .func (.func 104) #[] #[]] w fun e w' => ∃ err, Abt err e ∧ LayO (loL loV l (0, q)) err (fun l => CdX w' b B l) ∧ Stp (· = b) B w w' := by
  have HN := Lib.hid hr.rd.len
  have HR := Lib.hid hr
  have HLT := Lib.hid hlt
  have HNE := Lib.hid hne
  have HO := Lib.hid ho
  have HCP := Lib.hid hr.rd.cap
  have HMX := Lib.hid hr.rd.max
  clear hr hlt hne ho
  go_enter Tryz.func103, Tryz.ntmps103
  go_wp2_with fail
  refine (length_enc w b B q hC n (by have := HO.out; omega)).mono ?_
  rintro e w1 ⟨hL, hs1⟩
  rcases hL with ⟨h4, rfl, hC1⟩ | ⟨h4, hab⟩
  rotate_left
  · obtain ⟨h0, _⟩ | ⟨_, rfl⟩ := hab
    · exact absurd h0 (by decide)
    exact ⟨rfl, 2, Abt.no (by decide), by rw [loL_long (by rw [HN.out]; exact h4)]; exact ⟨rfl, fun e => absurd e (by decide)⟩, hs1⟩
  have HSH : Hid (loL loV l (0, q) = l.foldl (fun o x => loV x o) (0, q ++ encC n)) := Lib.hid (by rw [loL_short (by rw [HN.out]; exact h4), HN.out])
  have HQ1 : Hid ((q ++ encC n).length ≤ 70368475680748) := Lib.hid (by have := encC_len n (by omega); have := HO.out; rw [List.length_append]; omega)
  generalize q ++ encC n = q1 at *
  have hc1 := hs1.cell hc HLT.out HNE.out
  have HS1 := Lib.hid hs1
  clear hs1 hC
  go_wp2_with fail
  go_loopw [14] (fun i wr => ∃ (k : Nat) (qk : List UInt8), k ≤ n ∧ i = .int .i64 (k : Int) ∧ Hid ((l.take k).foldl (fun o x => loV x o) (0, q1) = (0, qk)) ∧ Hid (qk.length ≤ q1.length + k * 65551) ∧ CdX wr b B qk ∧ Hid (Stp (· = b) B w wr)) (fun i _ => n - (intOf i).toNat)
  case atStart => exact ⟨0, q1, by omega, rfl, Lib.hid rfl, Lib.hid (by omega), hC1, HS1⟩
  case round =>
    obtain ⟨k, qk, hk, rfl, HF, HQK, hCk, HS⟩ := hrel
    have hck := HS.out.cell hc HLT.out HNE.out
    by_cases hkn : k < n
    · obtain ⟨yb, yo, rfl, hyb, hel⟩ := HR.out.rd.elems (by omega)
      have HY := Lib.hid (HR.out.lt (by omega) _ rfl)
      have HEL := Lib.hid (HS.out.range (hel k hkn) HY.out.1 HY.out.2)
      have hki : (k : Int) < (n : Int) := by omega
      have hkb : ¬ ((k : Int) = (n : Int)) := by omega
      have HKL : Hid (k < l.length) := Lib.hid (by rw [HN.out]; exact hkn)
      have hcap := HCP.out
      have HQB : Hid (qk.length ≤ 70368744177644) := Lib.hid (by have h1 := HQK.out; have h2 := HQ1.out; have h3 : k * 65551 ≤ 4096 * 65551 := Nat.mul_le_mul_right _ (by omega); omega)
      clear hel hyb hc hc1 hC1
      go_wp2_with fail
      refine (version_enc wr b B qk hCk yb (yo + k * 3) HY.out.1 HY.out.2 (l.getD k vn0) (HR.out.rd.ok.at HKL.out) HEL.out (by have := HQB.out; omega)).mono ?_
      rintro e w2 ⟨err, he, hL, hs2⟩
      have HST := Lib.hid (fold_step (f := fun o x => loV x o) (o := (0, q1)) (x0 := vn0) HKL.out)
      rcases he with ⟨rfl, rfl⟩ | ⟨h0, rfl⟩
      · obtain ⟨q2, e2, hC2⟩ := hL.ok
        have HF2 : Hid ((l.take (k + 1)).foldl (fun o x => loV x o) (0, q1) = (0, q2)) := Lib.hid (by rw [HST.out, HF.out]; exact e2)
        have HQ2 : Hid (q2.length ≤ q1.length + (k + 1) * 65551) := Lib.hid (by have h1 := HQK.out; have h2 := loV_len3 (x := (l.getD k vn0)) (HR.out.rd.ok.at HKL.out) (0, qk); rw [e2] at h2; simp only at h2; have h3 : (k + 1) * 65551 = k * 65551 + 65551 := Nat.succ_mul k 65551; rw [h3]; clear h3; generalize k * 65551 = z at *; exact Nat.le_trans h2 (by rw [← Nat.add_assoc]; exact Nat.add_le_add_right h1 _))
        have HS2 := Lib.hid (HS.out.trans hs2)
        clear hL e2 hs2 hCk hck
        go_wp2_with fail
        go_roundw
        case rel => exact ⟨k + 1, q2, by omega, by go_num, HF2, HQ2, hC2, HS2⟩
        case measure => simp [intOf]; omega
      · refine ⟨rfl, err, Abt.no h0, ?_, HS.out.trans hs2⟩
        rw [HSH.out, fold_stop (f := fun o x => loV x o) (x0 := vn0) (k := k) HKL.out rfl (by rw [HF.out]; intro x; exact loV_stuck (by rw [← hL.1]; exact h0)), HF.out]
        exact ⟨hL.1, fun e => absurd e h0⟩
    · obtain rfl : k = n := by omega
      have hki : ¬ (k : Int) < (k : Int) := by omega
      go_wp2_with fail
      go_end0
      have e : l.take k = l := List.take_of_length_le (by rw [HN.out]; omega)
      have hF := HF.out
      rw [e] at hF
      exact ⟨0, Abt.ok, by rw [HSH.out, hF]; exact ⟨rfl, fun _ => hCk⟩, HS.out⟩

set_option maxHeartbeats 4000000 in
theorem list_dec_version (A : Nat) (a0 : Option Addr) (n0 c0 : Nat) (l0 : List UInt8) (b r X B : Nat) (t : TypeId) (w : World) (l : List UInt8) (vs : List Value) (hD : Dc A a0 n0 c0 l0 b r X B t w l vs) (off : Nat) (hy : vs[off]? = some (.slice none 0 0)) (k_Version : t ≠ 103) :
    Calls Tryz.prog 103 #[.pointer (some ⟨b, 0, none⟩), .pointer (some ⟨X, off, none⟩), .func (.func 104) #[] #[]] w fun e w' => ∃ err, Abt err e ∧ (DecI (gL gV l) err fun xs l' => ∃ (a : Option Addr) (c : Nat), Dc A a0 n0 c0 l0 b r X B t w' l' (vs.set off (.slice a xs.length c)) ∧ OwnG verR w' B (.slice a xs.length c) xs) ∧ Stp (fun k => k = r ∨ k = X) B w w' := by
  have HLE := Lib.hid hD.le
  have HLS := Lib.hid hD.lt
  have HY := Lib.hid hy
  have HNEB := Lib.hid hD.neb
  have hc := hD.xb.cell hy
  clear hy
  go_enter Tryz.func103, Tryz.ntmps103
  go_wp2_with fail
  refine (length_dec A a0 n0 c0 l0 b r X B t w l vs hD).mono ?_
  rintro e w1 ⟨hL, hs1⟩
  rcases hL with ⟨n, l1, hg, h4, rfl, hD1⟩ | ⟨⟨err, h0, hab⟩, hg⟩
  rotate_left
  · obtain ⟨h1, _⟩ | ⟨_, rfl⟩ := hab
    · exact absurd h1 h0
    refine ⟨rfl, err, Abt.no h0, .inr ⟨h0, ?_⟩, (hs1.lower HLE.out).more (fun i h => .inl h)⟩
    unfold gL
    cases hh : gN l with
    | none => rfl
    | some p => rw [Option.bind_some, if_pos (hg p hh)]
  have HG : Hid (gL gV l = manyG gV n l1) := Lib.hid (by unfold gL; rw [hg, Option.bind_some, if_neg (by omega)]; simp)
  have HS1 : Hid (Stp (fun k => k = r ∨ k = X) B w w1) := Lib.hid ((hs1.lower HLE.out).more (fun i h => .inl h))
  have hv1 : vs.set off (.slice none 0 0) = vs := by obtain ⟨h1, h2⟩ := List.getElem?_eq_some_iff.1 HY.out; rw [← h2]; exact List.set_getElem_self h1
  have HOF : Hid (off < vs.length) := Lib.hid (List.getElem?_eq_some_iff.1 HY.out).1
  clear hD hs1 hg hc
  go_wp2_with fail
  go_loopw [14] (fun i wr => ∃ (k : Nat) (a : Option Addr) (c : Nat) (ys : List Vn) (l' : List UInt8), k ≤ n ∧ i = .int .i64 (k : Int) ∧ Hid (manyG gV k l1 = some (ys, l') ∧ ys.length = k) ∧ Dc A a0 n0 c0 l0 b r X B t wr l' (vs.set off (.slice a k c)) ∧ Hid (OwnG verR wr B (.slice a k c) ys) ∧ Hid (Stp (fun k => k = r ∨ k = X) B w wr)) (fun i _ => n - (intOf i).toNat)
  case atStart => exact ⟨0, none, 0, [], l1, by omega, rfl, Lib.hid ⟨rfl, rfl⟩, by rw [hv1]; exact hD1, Lib.hid (OwnG.nil0 _ _), HS1⟩
  case round =>
    obtain ⟨k, a, c, ys, l', hk, rfl, HM, hDk, HO, HS⟩ := hrel
    clear hD1 hv1
    have hkl := HM.out.2
    subst hkl
    have hck := hDk.xb.cell (j := off) (v := .slice a ys.length c) (by simp [HOF.out])
    have hfk := hDk.xb.free off
    by_cases hkn : ys.length < n
    · have hki : (ys.length : Int) < (n : Int) := by omega
      have HSZ := Lib.hid hDk.le
      have hln : ys.length + 1 ≤ 1000000 := by omega
      have hO0 := HO.out
      have hS0 := HS.out
      have hB0 := hDk.le
      have hD0 := hDk
      go_wp2_with (first | ((with_reducible refine wpList_allocG verR (o := ⟨some 7, _, _, _, _, _⟩) ?_ ?_ (vs := vc vn0) rfl ?_); rfl; rfl; intro w5 hb5 hg5 hz5))
      have hBd : Below wr.heap.size wr w5.drew := ((Below.refl _ wr).grown hg5 (Nat.le_refl _) (by simp)).drew
      have hb5d := hb5.drew
      clear hb5 hg5 hz5 hDk
      refine wp_region_held_drew (S := fun W => Blk W wr.heap.size 103 (vc vn0)) (by kernel_rfl) hb5d (fun hHeld => ?_)
      generalize w5.drew = W0 at *
      have hB1 : Below wr.heap.size wr (W0.alloc (.cells (verR.cells [vn0]).toArray verR.T)) := hBd.alloc hBd.size _
      have hR1 : RdG verR (W0.alloc (.cells (verR.cells [vn0]).toArray verR.T)) (some ⟨W0.heap.size, 0, none⟩) 1 1 [vn0] := RdG.many W0 (Row.all.single trivial) rfl (by decide)
      have hO1 := hO0.below hB1
      have hBB := Nat.le_trans hB0 hB1.size
      have hck0 := (hD0.keep hBd).xb.cell (j := off) (v := .slice a ys.length c) (by simp [HOF.out])
      have hck1 := (hD0.keep hB1).xb.cell (j := off) (v := .slice a ys.length c) (by simp [HOF.out])
      have hXl := hD0.xb.lt
      clear hck hfk
      refine wpAnyH_take (i := 0) (oi := ⟨some 23, .move (.tmp 1), _, _, _, none⟩) (v := ?_) rfl (by kernel_rfl) (by kernel_rfl) (by kernel_rfl) (fun _ _ _ h => h) (Or.inl ⟨by rfl, ?_⟩) hHeld ?_
      rotate_left
      · intro W _; go_simp; try with_reducible rfl
      try simp only [Act.put, List.setIfInBounds_toArray, List.set_cons_zero, List.set_cons_succ]
      refine wpAnyH_take (i := 1) (oi := ⟨some 24, .move (.tmp 1), _, _, _, none⟩) (v := ?_) rfl (by kernel_rfl) (by kernel_rfl) (by kernel_rfl) (fun _ _ _ h => h) (Or.inl ⟨by rfl, ?_⟩) hHeld ?_
      rotate_left
      · intro W _; go_simp; try with_reducible rfl
      try simp only [Act.put, List.setIfInBounds_toArray, List.set_cons_zero, List.set_cons_succ]
      refine wpAnyH_take (i := 2) (oi := ⟨some 25, .nilCheck (.tmp 24), _, _, _, none⟩) (v := ?_) rfl (by kernel_rfl) (by kernel_rfl) (by kernel_rfl) (fun _ _ _ h => h) (Or.inl ⟨by rfl, ?_⟩) hHeld ?_
      rotate_left
      · intro W _; go_simp; try with_reducible rfl
      try simp only [Act.put, List.setIfInBounds_toArray, List.set_cons_zero, List.set_cons_succ]
      refine wpAnyH_take (i := 4) (oi := ⟨some 27, .load 103 (.tmp 7), _, _, _, none⟩) (v := .agg (vc vn0).toArray) rfl (by kernel_rfl) (by kernel_rfl) (by kernel_rfl) (fun _ _ _ h => h) (yieldsIf_loadG verR (by rfl) wr.heap.size 0 _ rfl rfl (y := vn0) trivial (fun W hS => hS.range 0 (fun j _ => by rw [Nat.zero_add]; rfl)) underV rfl) hHeld ?_
      try simp only [Act.put, List.setIfInBounds_toArray, List.set_cons_zero, List.set_cons_succ]
      refine wpAnyH_ready (rs := [3, 5]) (by kernel_rfl) (by simp) ?_
      refine AllReadyH.cons (o := ⟨some 26, .load 95 (.tmp 25), _, _, _, none⟩) rfl (fun K hK => ?_) (AllReadyH.cons (o := ⟨some 28, .buildSlice 95 1 #[(0, .tmp 27)], _, _, _, none⟩) rfl (fun K hK => ?_) AllReadyH.nil)
      · refine step_ofR (by rfl) ?_
        go_simp
        refine hK.out _ _ (hHeld) (fun hHeld => ?_)
        clear hK K
        try simp only [Act.put, List.setIfInBounds_toArray, List.set_cons_zero, List.set_cons_succ]
        refine wpAnyH_ready (rs := [5]) (by kernel_rfl) (by simp) ?_
        refine AllReadyH.cons (o := ⟨some 28, .buildSlice 95 1 #[(0, .tmp 27)], _, _, _, none⟩) rfl (fun K hK => ?_) AllReadyH.nil
        refine step_ofR (by rfl) ?_
        refine wp_oneG verR (.tmp 27) rfl (y1 := vn0) trivial rfl ?_
        refine hK.out _ _ (hHeld.alloc _) (fun hHeld => ?_)
        clear hK K
        try simp only [Act.put, List.setIfInBounds_toArray, List.set_cons_zero, List.set_cons_succ]
        refine wpAnyH_ready (rs := [6]) (by kernel_rfl) (by simp) ?_
        refine AllReadyH.cons (o := ⟨some 29, .call { callee := .builtin .append, args := #[.tmp 26, .tmp 28], argTypes := #[95, 95] }, _, _, _, none⟩) rfl (fun K hK => ?_) AllReadyH.nil
        refine step_ofR (by rfl) ?_
        refine wp_appG verR (.tmp 26) (.tmp 28) rfl rfl hO1 rfl hR1 hln hBB ?_
        intro a' c' W2 hO2 hg2 hx2
        refine hK.out _ _ (hHeld.grown hg2 (fun e => by have := (hO0.lt e).2; omega)) (fun hHeld => ?_)
        clear hK K
        try simp only [Act.put, List.setIfInBounds_toArray, List.set_cons_zero, List.set_cons_succ]
        have hf2 := (hD0.keep hB1).app hg2 (T := verR.T) (fun g e => hO1.typed g e) (by decide) (by decide) (by decide) k_Version
        have hc2 := hf2.xb.cell (j := off) (v := .slice a ys.length c) (by simp [HOF.out])
        have hf3 := hf2.xb.free off
        refine wpAnyH_take (i := 7) (oi := ⟨some 30, .nilCheck (.tmp 23), _, _, _, none⟩) (v := ?_) rfl (by kernel_rfl) (by kernel_rfl) (by kernel_rfl) (fun _ _ _ h => h) (Or.inl ⟨by rfl, ?_⟩) hHeld ?_
        rotate_left
        · intro W _; go_simp; try with_reducible rfl
        try simp only [Act.put, List.setIfInBounds_toArray, List.set_cons_zero, List.set_cons_succ]
        refine wpAnyH_ready (rs := [8]) (by kernel_rfl) (by simp) ?_
        refine AllReadyH.cons (o := ⟨none, .store 95 (.tmp 30) (.tmp 29), _, _, _, none⟩) rfl (fun K hK => ?_) AllReadyH.nil
        refine step_ofR (by rfl) ?_
        go_simp
        refine hK.out _ _ (hHeld.setOther _ _ (by simp; omega)) (fun hHeld => ?_)
        clear hK K
        try simp only [Act.put, List.setIfInBounds_toArray, List.set_cons_zero, List.set_cons_succ]
        refine wpAnyH_done (by kernel_rfl) ?_ _
        obtain ⟨hD3, hO3, hS3, hK3⟩ := list_grow verR hD0 hO0 hS0 hB1 hO2 hg2 (by decide) (by decide) (by decide) k_Version
        have hc3 := hD3.xb.cell (j := off) (v := .slice a' (ys.length + 1) c') (by simp [HOF.out])
        obtain ⟨g, cur, rfl, hBg, _, hbg, hcur, hz, hput⟩ := hO3.last
        clear hO1 hO2 hf2 hx2 hc2 hf3 hck0 hck1 hHeld hB1 hR1 hO0 hS0 hg2
        go_wp2_with fail
        have hgb : g ≠ b := fun e => by subst e; exact hbg.noT (T := 107) (by decide) _ _ hD3.cb.at_
        have hgr : g ≠ r := fun e => by subst e; obtain ⟨_, _, _, k1, _⟩ := hD3.rd; exact hbg.noT (T := 150) (by decide) _ _ k1.at_
        have hDg := hD3.other hbg (by decide) hgb hgr
        have hHM := HM.out.1
        generalize hW3 : W2.setCell ⟨X, off, none⟩ (.slice (some ⟨g, 0, none⟩) (ys.length + 1) c') = W3 at *
        refine (version_dec A a0 n0 c0 l0 b r g W3.heap.size 103 W3 l' cur hDg (ys.length * 3) hcur).mono ?_
        rintro e w4 ⟨err, he, hN, hs4⟩
        have hsw := hs4.weak (K' := fun k => k = r ∨ k = X) hD3.le (fun i h e => e.imp id (fun e => by omega))
        rcases hN with ⟨rfl, v, l2, hg4, hv, hD4⟩ | ⟨h0, hg4⟩
        rotate_left
        · obtain ⟨h1, _⟩ | ⟨_, rfl⟩ := he
          · exact absurd h1 h0
          exact ⟨rfl, err, Abt.no h0, .inr ⟨h0, by rw [HG.out]; exact manyG_stop (k := ys.length + 1) (by rw [manyG, hHM, Option.bind_some]; simp only []; rw [hg4]; rfl) n (by omega)⟩, hS3.trans hsw⟩
        obtain ⟨_, rfl⟩ | ⟨h0, _⟩ := he
        rotate_left
        · exact absurd rfl h0
        have hput' := hput w4 v trivial
        obtain ⟨hD5, hO5, hS5, hK5⟩ := list_fill verR hD3 hbg hBg hS3 hs4 hD4 hput' k_Version
        have HM2 : Hid (manyG gV (ys.length + 1) l1 = some (ys ++ [v], l2) ∧ (ys ++ [v]).length = ys.length + 1) := Lib.hid ⟨by rw [manyG, hHM, Option.bind_some]; simp only []; rw [hg4]; simp, by simp⟩
        have HO5 := Lib.hid hO5
        have HS5 := Lib.hid hS5
        clear hO5 hS5 hK5 hO3 hS3 hK3 hD3 hDg hD4 hs4 hsw hput hput' hHM hg4 hz hcur hbg
        go_wp2_with fail
        go_roundw
        case rel => exact ⟨ys.length + 1, some ⟨g, 0, none⟩, c', ys ++ [v], l2, by omega, by go_num, HM2, hD5, HO5, HS5⟩
        case measure => simp [intOf]; omega
      · refine step_ofR (by rfl) ?_
        refine wp_oneG verR (.tmp 27) rfl (y1 := vn0) trivial rfl ?_
        refine hK.out _ _ (hHeld.alloc _) (fun hHeld => ?_)
        clear hK K
        try simp only [Act.put, List.setIfInBounds_toArray, List.set_cons_zero, List.set_cons_succ]
        refine wpAnyH_ready (rs := [3]) (by kernel_rfl) (by simp) ?_
        refine AllReadyH.cons (o := ⟨some 26, .load 95 (.tmp 25), _, _, _, none⟩) rfl (fun K hK => ?_) AllReadyH.nil
        refine step_ofR (by rfl) ?_
        go_simp
        refine hK.out _ _ (hHeld) (fun hHeld => ?_)
        clear hK K
        try simp only [Act.put, List.setIfInBounds_toArray, List.set_cons_zero, List.set_cons_succ]
        refine wpAnyH_ready (rs := [6]) (by kernel_rfl) (by simp) ?_
        refine AllReadyH.cons (o := ⟨some 29, .call { callee := .builtin .append, args := #[.tmp 26, .tmp 28], argTypes := #[95, 95] }, _, _, _, none⟩) rfl (fun K hK => ?_) AllReadyH.nil
        refine step_ofR (by rfl) ?_
        refine wp_appG verR (.tmp 26) (.tmp 28) rfl rfl hO1 rfl hR1 hln hBB ?_
        intro a' c' W2 hO2 hg2 hx2
        refine hK.out _ _ (hHeld.grown hg2 (fun e => by have := (hO0.lt e).2; omega)) (fun hHeld => ?_)
        clear hK K
        try simp only [Act.put, List.setIfInBounds_toArray, List.set_cons_zero, List.set_cons_succ]
        have hf2 := (hD0.keep hB1).app hg2 (T := verR.T) (fun g e => hO1.typed g e) (by decide) (by decide) (by decide) k_Version
        have hc2 := hf2.xb.cell (j := off) (v := .slice a ys.length c) (by simp [HOF.out])
        have hf3 := hf2.xb.free off
        refine wpAnyH_take (i := 7) (oi := ⟨some 30, .nilCheck (.tmp 23), _, _, _, none⟩) (v := ?_) rfl (by kernel_rfl) (by kernel_rfl) (by kernel_rfl) (fun _ _ _ h => h) (Or.inl ⟨by rfl, ?_⟩) hHeld ?_
        rotate_left
        · intro W _; go_simp; try with_reducible rfl
        try simp only [Act.put, List.setIfInBounds_toArray, List.set_cons_zero, List.set_cons_succ]
        refine wpAnyH_ready (rs := [8]) (by kernel_rfl) (by simp) ?_
        refine AllReadyH.cons (o := ⟨none, .store 95 (.tmp 30) (.tmp 29), _, _, _, none⟩) rfl (fun K hK => ?_) AllReadyH.nil
        refine step_ofR (by rfl) ?_
        go_simp
        refine hK.out _ _ (hHeld.setOther _ _ (by simp; omega)) (fun hHeld => ?_)
        clear hK K
        try simp only [Act.put, List.setIfInBounds_toArray, List.set_cons_zero, List.set_cons_succ]
        refine wpAnyH_done (by kernel_rfl) ?_ _
        obtain ⟨hD3, hO3, hS3, hK3⟩ := list_grow verR hD0 hO0 hS0 hB1 hO2 hg2 (by decide) (by decide) (by decide) k_Version
        have hc3 := hD3.xb.cell (j := off) (v := .slice a' (ys.length + 1) c') (by simp [HOF.out])
        obtain ⟨g, cur, rfl, hBg, _, hbg, hcur, hz, hput⟩ := hO3.last
        clear hO1 hO2 hf2 hx2 hc2 hf3 hck0 hck1 hHeld hB1 hR1 hO0 hS0 hg2
        go_wp2_with fail
        have hgb : g ≠ b := fun e => by subst e; exact hbg.noT (T := 107) (by decide) _ _ hD3.cb.at_
        have hgr : g ≠ r := fun e => by subst e; obtain ⟨_, _, _, k1, _⟩ := hD3.rd; exact hbg.noT (T := 150) (by decide) _ _ k1.at_
        have hDg := hD3.other hbg (by decide) hgb hgr
        have hHM := HM.out.1
        generalize hW3 : W2.setCell ⟨X, off, none⟩ (.slice (some ⟨g, 0, none⟩) (ys.length + 1) c') = W3 at *
        refine (version_dec A a0 n0 c0 l0 b r g W3.heap.size 103 W3 l' cur hDg (ys.length * 3) hcur).mono ?_
        rintro e w4 ⟨err, he, hN, hs4⟩
        have hsw := hs4.weak (K' := fun k => k = r ∨ k = X) hD3.le (fun i h e => e.imp id (fun e => by omega))
        rcases hN with ⟨rfl, v, l2, hg4, hv, hD4⟩ | ⟨h0, hg4⟩
        rotate_left
        · obtain ⟨h1, _⟩ | ⟨_, rfl⟩ := he
          · exact absurd h1 h0
          exact ⟨rfl, err, Abt.no h0, .inr ⟨h0, by rw [HG.out]; exact manyG_stop (k := ys.length + 1) (by rw [manyG, hHM, Option.bind_some]; simp only []; rw [hg4]; rfl) n (by omega)⟩, hS3.trans hsw⟩
        obtain ⟨_, rfl⟩ | ⟨h0, _⟩ := he
        rotate_left
        · exact absurd rfl h0
        have hput' := hput w4 v trivial
        obtain ⟨hD5, hO5, hS5, hK5⟩ := list_fill verR hD3 hbg hBg hS3 hs4 hD4 hput' k_Version
        have HM2 : Hid (manyG gV (ys.length + 1) l1 = some (ys ++ [v], l2) ∧ (ys ++ [v]).length = ys.length + 1) := Lib.hid ⟨by rw [manyG, hHM, Option.bind_some]; simp only []; rw [hg4]; simp, by simp⟩
        have HO5 := Lib.hid hO5
        have HS5 := Lib.hid hS5
        clear hO5 hS5 hK5 hO3 hS3 hK3 hD3 hDg hD4 hs4 hsw hput hput' hHM hg4 hz hcur hbg
        go_wp2_with fail
        go_roundw
        case rel => exact ⟨ys.length + 1, some ⟨g, 0, none⟩, c', ys ++ [v], l2, by omega, by go_num, HM2, hD5, HO5, HS5⟩
        case measure => simp [intOf]; omega
    · have hkn' : ys.length = n := by omega
      subst hkn'
      have hki : ¬ (ys.length : Int) < (ys.length : Int) := by omega
      go_wp2_with fail
      go_end0
      exact ⟨0, Abt.ok, .inl ⟨rfl, ys, l', by rw [HG.out]; exact HM.out.1, a, c, hDk, HO.out⟩, HS.out⟩

set_option maxHeartbeats 2000000 in
theorem list_enc_head (w : World) (b B : Nat) (q : List UInt8) (hC : CdX w b B q) (X off : Nat) (hlt : X < B) (hne : X ≠ b) (a : Option Addr) (n c : Nat) (hc : w.cell? ⟨X, off, none⟩ = some (.slice a n c)) (l : List Hd) (hr : RdX hdR w b B a n c l) (ho : q.length ≤ 70368743894988) :
    Calls Tryz.prog 80 #[.pointer (some ⟨b, 0, none⟩), .pointer (some ⟨X, off, none⟩), .func (.func 74) #[] #[]] w fun e w' => ∃ err, Abt err e ∧ LayO (loL loH l (0, q)) err (fun l => CdX w' b B l) ∧ Stp (· = b) B w w' := by
  have HN := Lib.hid hr.rd.len
  have HR := Lib.hid hr
  have HLT := Lib.hid hlt
  have HNE := Lib.hid hne
  have HO := Lib.hid ho
  have HCP := Lib.hid hr.rd.cap
  have HMX := Lib.hid hr.rd.max
  clear hr hlt hne ho
  go_enter Tryz.func80, Tryz.ntmps80
  go_wp2_with fail
  refine (length_enc w b B q hC n (by have := HO.out; omega)).mono ?_
  rintro e w1 ⟨hL, hs1⟩
  rcases hL with ⟨h4, rfl, hC1⟩ | ⟨h4, hab⟩
  rotate_left
  · obtain ⟨h0, _⟩ | ⟨_, rfl⟩ := hab
    · exact absurd h0 (by decide)
    exact ⟨rfl, 2, Abt.no (by decide), by rw [loL_long (by rw [HN.out]; exact h4)]; exact ⟨rfl, fun e => absurd e (by decide)⟩, hs1⟩
  have HSH : Hid (loL loH l (0, q) = l.foldl (fun o x => loH x o) (0, q ++ encC n)) := Lib.hid (by rw [loL_short (by rw [HN.out]; exact h4), HN.out])
  have HQ1 : Hid ((q ++ encC n).length ≤ 70368743894993) := Lib.hid (by have := encC_len n (by omega); have := HO.out; rw [List.length_append]; omega)
  generalize q ++ encC n = q1 at *
  have hc1 := hs1.cell hc HLT.out HNE.out
  have HS1 := Lib.hid hs1
  clear hs1 hC
  go_wp2_with fail
  go_loopw [14] (fun i wr => ∃ (k : Nat) (qk : List UInt8), k ≤ n ∧ i = .int .i64 (k : Int) ∧ Hid ((l.take k).foldl (fun o x => loH x o) (0, q1) = (0, qk)) ∧ Hid (qk.length ≤ q1.length + k * 69) ∧ CdX wr b B qk ∧ Hid (Stp (· = b) B w wr)) (fun i _ => n - (intOf i).toNat)
  case atStart => exact ⟨0, q1, by omega, rfl, Lib.hid rfl, Lib.hid (by omega), hC1, HS1⟩
  case round =>
    obtain ⟨k, qk, hk, rfl, HF, HQK, hCk, HS⟩ := hrel
    have hck := HS.out.cell hc HLT.out HNE.out
    by_cases hkn : k < n
    · obtain ⟨yb, yo, rfl, hyb, hel⟩ := HR.out.rd.elems (by omega)
      have HY := Lib.hid (HR.out.lt (by omega) _ rfl)
      have HEL := Lib.hid (HS.out.range (hel k hkn) HY.out.1 HY.out.2)
      have hki : (k : Int) < (n : Int) := by omega
      have hkb : ¬ ((k : Int) = (n : Int)) := by omega
      have HKL : Hid (k < l.length) := Lib.hid (by rw [HN.out]; exact hkn)
      have hcap := HCP.out
      have HQB : Hid (qk.length ≤ 70368744177617) := Lib.hid (by have h1 := HQK.out; have h2 := HQ1.out; have h3 : k * 69 ≤ 4096 * 69 := Nat.mul_le_mul_right _ (by omega); omega)
      clear hel hyb hc hc1 hC1
      go_wp2_with fail
      refine (head_enc wr b B qk hCk yb (yo + k * 65) HY.out.1 HY.out.2 (l.getD k hd0) (HR.out.rd.ok.at HKL.out) HEL.out (by have := HQB.out; omega)).mono ?_
      rintro e w2 ⟨err, he, hL, hs2⟩
      have HST := Lib.hid (fold_step (f := fun o x => loH x o) (o := (0, q1)) (x0 := hd0) HKL.out)
      rcases he with ⟨rfl, rfl⟩ | ⟨h0, rfl⟩
      · obtain ⟨q2, e2, hC2⟩ := hL.ok
        have HF2 : Hid ((l.take (k + 1)).foldl (fun o x => loH x o) (0, q1) = (0, q2)) := Lib.hid (by rw [HST.out, HF.out]; exact e2)
        have HQ2 : Hid (q2.length ≤ q1.length + (k + 1) * 69) := Lib.hid (by have h1 := HQK.out; have h2 := loH_len3 (x := (l.getD k hd0)) (HR.out.rd.ok.at HKL.out) (0, qk); rw [e2] at h2; simp only at h2; have h3 : (k + 1) * 69 = k * 69 + 69 := Nat.succ_mul k 69; rw [h3]; clear h3; generalize k * 69 = z at *; exact Nat.le_trans h2 (by rw [← Nat.add_assoc]; exact Nat.add_le_add_right h1 _))
        have HS2 := Lib.hid (HS.out.trans hs2)
        clear hL e2 hs2 hCk hck
        go_wp2_with fail
        go_roundw
        case rel => exact ⟨k + 1, q2, by omega, by go_num, HF2, HQ2, hC2, HS2⟩
        case measure => simp [intOf]; omega
      · refine ⟨rfl, err, Abt.no h0, ?_, HS.out.trans hs2⟩
        rw [HSH.out, fold_stop (f := fun o x => loH x o) (x0 := hd0) (k := k) HKL.out rfl (by rw [HF.out]; intro x; exact loH_stuck (by rw [← hL.1]; exact h0)), HF.out]
        exact ⟨hL.1, fun e => absurd e h0⟩
    · obtain rfl : k = n := by omega
      have hki : ¬ (k : Int) < (k : Int) := by omega
      go_wp2_with fail
      go_end0
      have e : l.take k = l := List.take_of_length_le (by rw [HN.out]; omega)
      have hF := HF.out
      rw [e] at hF
      exact ⟨0, Abt.ok, by rw [HSH.out, hF]; exact ⟨rfl, fun _ => hCk⟩, HS.out⟩

set_option maxHeartbeats 4000000 in
theorem list_dec_head (A : Nat) (a0 : Option Addr) (n0 c0 : Nat) (l0 : List UInt8) (b r X B : Nat) (t : TypeId) (w : World) (l : List UInt8) (vs : List Value) (hD : Dc A a0 n0 c0 l0 b r X B t w l vs) (off : Nat) (hy : vs[off]? = some (.slice none 0 0)) (k_Head : t ≠ 47) :
    Calls Tryz.prog 80 #[.pointer (some ⟨b, 0, none⟩), .pointer (some ⟨X, off, none⟩), .func (.func 74) #[] #[]] w fun e w' => ∃ err, Abt err e ∧ (DecI (gL gH l) err fun xs l' => ∃ (a : Option Addr) (c : Nat), Dc A a0 n0 c0 l0 b r X B t w' l' (vs.set off (.slice a xs.length c)) ∧ OwnG hdR w' B (.slice a xs.length c) xs) ∧ Stp (fun k => k = r ∨ k = X) B w w' := by
  have HLE := Lib.hid hD.le
  have HLS := Lib.hid hD.lt
  have HY := Lib.hid hy
  have HNEB := Lib.hid hD.neb
  have hc := hD.xb.cell hy
  clear hy
  go_enter Tryz.func80, Tryz.ntmps80
  go_wp2_with fail
  refine (length_dec A a0 n0 c0 l0 b r X B t w l vs hD).mono ?_
  rintro e w1 ⟨hL, hs1⟩
  rcases hL with ⟨n, l1, hg, h4, rfl, hD1⟩ | ⟨⟨err, h0, hab⟩, hg⟩
  rotate_left
  · obtain ⟨h1, _⟩ | ⟨_, rfl⟩ := hab
    · exact absurd h1 h0
    refine ⟨rfl, err, Abt.no h0, .inr ⟨h0, ?_⟩, (hs1.lower HLE.out).more (fun i h => .inl h)⟩
    unfold gL
    cases hh : gN l with
    | none => rfl
    | some p => rw [Option.bind_some, if_pos (hg p hh)]
  have HG : Hid (gL gH l = manyG gH n l1) := Lib.hid (by unfold gL; rw [hg, Option.bind_some, if_neg (by omega)]; simp)
  have HS1 : Hid (Stp (fun k => k = r ∨ k = X) B w w1) := Lib.hid ((hs1.lower HLE.out).more (fun i h => .inl h))
  have hv1 : vs.set off (.slice none 0 0) = vs := by obtain ⟨h1, h2⟩ := List.getElem?_eq_some_iff.1 HY.out; rw [← h2]; exact List.set_getElem_self h1
  have HOF : Hid (off < vs.length) := Lib.hid (List.getElem?_eq_some_iff.1 HY.out).1
  clear hD hs1 hg hc
  go_wp2_with fail
  go_loopw [14] (fun i wr => ∃ (k : Nat) (a : Option Addr) (c : Nat) (ys : List Hd) (l' : List UInt8), k ≤ n ∧ i = .int .i64 (k : Int) ∧ Hid (manyG gH k l1 = some (ys, l') ∧ ys.length = k) ∧ Dc A a0 n0 c0 l0 b r X B t wr l' (vs.set off (.slice a k c)) ∧ Hid (OwnG hdR wr B (.slice a k c) ys) ∧ Hid (Stp (fun k => k = r ∨ k = X) B w wr)) (fun i _ => n - (intOf i).toNat)
  case atStart => exact ⟨0, none, 0, [], l1, by omega, rfl, Lib.hid ⟨rfl, rfl⟩, by rw [hv1]; exact hD1, Lib.hid (OwnG.nil0 _ _), HS1⟩
  case round =>
    obtain ⟨k, a, c, ys, l', hk, rfl, HM, hDk, HO, HS⟩ := hrel
    clear hD1 hv1
    have hkl := HM.out.2
    subst hkl
    have hck := hDk.xb.cell (j := off) (v := .slice a ys.length c) (by simp [HOF.out])
    have hfk := hDk.xb.free off
    by_cases hkn : ys.length < n
    · have hki : (ys.length : Int) < (n : Int) := by omega
      have HSZ := Lib.hid hDk.le
      have hln : ys.length + 1 ≤ 1000000 := by omega
      have hO0 := HO.out
      have hS0 := HS.out
      have hB0 := hDk.le
      have hD0 := hDk
      go_wp2_with (first | ((with_reducible refine wpList_allocG hdR (o := ⟨some 7, _, _, _, _, _⟩) ?_ ?_ (vs := hdc hd0) rfl ?_); rfl; rfl; intro w5 hb5 hg5 hz5))
      have hBd : Below wr.heap.size wr w5.drew := ((Below.refl _ wr).grown hg5 (Nat.le_refl _) (by simp)).drew
      have hb5d := hb5.drew
      clear hb5 hg5 hz5 hDk
      refine wp_region_held_drew (S := fun W => Blk W wr.heap.size 47 (hdc hd0)) (by kernel_rfl) hb5d (fun hHeld => ?_)
      generalize w5.drew = W0 at *
      have hB1 : Below wr.heap.size wr (W0.alloc (.cells (hdR.cells [hd0]).toArray hdR.T)) := hBd.alloc hBd.size _
      have hR1 : RdG hdR (W0.alloc (.cells (hdR.cells [hd0]).toArray hdR.T)) (some ⟨W0.heap.size, 0, none⟩) 1 1 [hd0] := RdG.many W0 (Row.all.single hd0_ok) rfl (by decide)
      have hO1 := hO0.below hB1
      have hBB := Nat.le_trans hB0 hB1.size
      have hck0 := (hD0.keep hBd).xb.cell (j := off) (v := .slice a ys.length c) (by simp [HOF.out])
      have hck1 := (hD0.keep hB1).xb.cell (j := off) (v := .slice a ys.length c) (by simp [HOF.out])
      have hXl := hD0.xb.lt
      clear hck hfk
      refine wpAnyH_take (i := 0) (oi := ⟨some 23, .move (.tmp 1), _, _, _, none⟩) (v := ?_) rfl (by kernel_rfl) (by kernel_rfl) (by kernel_rfl) (fun _ _ _ h => h) (Or.inl ⟨by rfl, ?_⟩) hHeld ?_
      rotate_left
      · intro W _; go_simp; try with_reducible rfl
      try simp only [Act.put, List.setIfInBounds_toArray, List.set_cons_zero, List.set_cons_succ]
      refine wpAnyH_take (i := 1) (oi := ⟨some 24, .move (.tmp 1), _, _, _, none⟩) (v := ?_) rfl (by kernel_rfl) (by kernel_rfl) (by kernel_rfl) (fun _ _ _ h => h) (Or.inl ⟨by rfl, ?_⟩) hHeld ?_
      rotate_left
      · intro W _; go_simp; try with_reducible rfl
      try simp only [Act.put, List.setIfInBounds_toArray, List.set_cons_zero, List.set_cons_succ]
      refine wpAnyH_take (i := 2) (oi := ⟨some 25, .nilCheck (.tmp 24), _, _, _, none⟩) (v := ?_) rfl (by kernel_rfl) (by kernel_rfl) (by kernel_rfl) (fun _ _ _ h => h) (Or.inl ⟨by rfl, ?_⟩) hHeld ?_
      rotate_left
      · intro W _; go_simp; try with_reducible rfl
      try simp only [Act.put, List.setIfInBounds_toArray, List.set_cons_zero, List.set_cons_succ]
      refine wpAnyH_take (i := 4) (oi := ⟨some 27, .load 47 (.tmp 7), _, _, _, none⟩) (v := .agg (hdc hd0).toArray) rfl (by kernel_rfl) (by kernel_rfl) (by kernel_rfl) (fun _ _ _ h => h) (yieldsIf_loadG hdR (by rfl) wr.heap.size 0 _ rfl rfl (y := hd0) hd0_ok (fun W hS => hS.range 0 (fun j _ => by rw [Nat.zero_add]; rfl)) Tryz.underlying47 rfl) hHeld ?_
      try simp only [Act.put, List.setIfInBounds_toArray, List.set_cons_zero, List.set_cons_succ]
      refine wpAnyH_ready (rs := [3, 5]) (by kernel_rfl) (by simp) ?_
      refine AllReadyH.cons (o := ⟨some 26, .load 60 (.tmp 25), _, _, _, none⟩) rfl (fun K hK => ?_) (AllReadyH.cons (o := ⟨some 28, .buildSlice 60 1 #[(0, .tmp 27)], _, _, _, none⟩) rfl (fun K hK => ?_) AllReadyH.nil)
      · refine step_ofR (by rfl) ?_
        go_simp
        refine hK.out _ _ (hHeld) (fun hHeld => ?_)
        clear hK K
        try simp only [Act.put, List.setIfInBounds_toArray, List.set_cons_zero, List.set_cons_succ]
        refine wpAnyH_ready (rs := [5]) (by kernel_rfl) (by simp) ?_
        refine AllReadyH.cons (o := ⟨some 28, .buildSlice 60 1 #[(0, .tmp 27)], _, _, _, none⟩) rfl (fun K hK => ?_) AllReadyH.nil
        refine step_ofR (by rfl) ?_
        refine wp_oneG hdR (.tmp 27) rfl (y1 := hd0) hd0_ok rfl ?_
        refine hK.out _ _ (hHeld.alloc _) (fun hHeld => ?_)
        clear hK K
        try simp only [Act.put, List.setIfInBounds_toArray, List.set_cons_zero, List.set_cons_succ]
        refine wpAnyH_ready (rs := [6]) (by kernel_rfl) (by simp) ?_
        refine AllReadyH.cons (o := ⟨some 29, .call { callee := .builtin .append, args := #[.tmp 26, .tmp 28], argTypes := #[60, 60] }, _, _, _, none⟩) rfl (fun K hK => ?_) AllReadyH.nil
        refine step_ofR (by rfl) ?_
        refine wp_appG hdR (.tmp 26) (.tmp 28) rfl rfl hO1 rfl hR1 hln hBB ?_
        intro a' c' W2 hO2 hg2 hx2
        refine hK.out _ _ (hHeld.grown hg2 (fun e => by have := (hO0.lt e).2; omega)) (fun hHeld => ?_)
        clear hK K
        try simp only [Act.put, List.setIfInBounds_toArray, List.set_cons_zero, List.set_cons_succ]
        have hf2 := (hD0.keep hB1).app hg2 (T := hdR.T) (fun g e => hO1.typed g e) (by decide) (by decide) (by decide) k_Head
        have hc2 := hf2.xb.cell (j := off) (v := .slice a ys.length c) (by simp [HOF.out])
        have hf3 := hf2.xb.free off
        refine wpAnyH_take (i := 7) (oi := ⟨some 30, .nilCheck (.tmp 23), _, _, _, none⟩) (v := ?_) rfl (by kernel_rfl) (by kernel_rfl) (by kernel_rfl) (fun _ _ _ h => h) (Or.inl ⟨by rfl, ?_⟩) hHeld ?_
        rotate_left
        · intro W _; go_simp; try with_reducible rfl
        try simp only [Act.put, List.setIfInBounds_toArray, List.set_cons_zero, List.set_cons_succ]
        refine wpAnyH_ready (rs := [8]) (by kernel_rfl) (by simp) ?_
        refine AllReadyH.cons (o := ⟨none, .store 60 (.tmp 30) (.tmp 29), _, _, _, none⟩) rfl (fun K hK => ?_) AllReadyH.nil
        refine step_ofR (by rfl) ?_
        go_simp
        refine hK.out _ _ (hHeld.setOther _ _ (by simp; omega)) (fun hHeld => ?_)
        clear hK K
        try simp only [Act.put, List.setIfInBounds_toArray, List.set_cons_zero, List.set_cons_succ]
        refine wpAnyH_done (by kernel_rfl) ?_ _
        obtain ⟨hD3, hO3, hS3, hK3⟩ := list_grow hdR hD0 hO0 hS0 hB1 hO2 hg2 (by decide) (by decide) (by decide) k_Head
        have hc3 := hD3.xb.cell (j := off) (v := .slice a' (ys.length + 1) c') (by simp [HOF.out])
        obtain ⟨g, cur, rfl, hBg, _, hbg, hcur, hz, hput⟩ := hO3.last
        clear hO1 hO2 hf2 hx2 hc2 hf3 hck0 hck1 hHeld hB1 hR1 hO0 hS0 hg2
        go_wp2_with fail
        have hgb : g ≠ b := fun e => by subst e; exact hbg.noT (T := 107) (by decide) _ _ hD3.cb.at_
        have hgr : g ≠ r := fun e => by subst e; obtain ⟨_, _, _, k1, _⟩ := hD3.rd; exact hbg.noT (T := 150) (by decide) _ _ k1.at_
        have hDg := hD3.other hbg (by decide) hgb hgr
        have hHM := HM.out.1
        generalize hW3 : W2.setCell ⟨X, off, none⟩ (.slice (some ⟨g, 0, none⟩) (ys.length + 1) c') = W3 at *
        refine (head_dec A a0 n0 c0 l0 b r g W3.heap.size 47 W3 l' cur hDg (ys.length * 65) hcur).mono ?_
        rintro e w4 ⟨err, he, hN, hs4⟩
        have hsw := hs4.weak (K' := fun k => k = r ∨ k = X) hD3.le (fun i h e => e.imp id (fun e => by omega))
        rcases hN with ⟨rfl, v, l2, hg4, hv, hD4⟩ | ⟨h0, hg4⟩
        rotate_left
        · obtain ⟨h1, _⟩ | ⟨_, rfl⟩ := he
          · exact absurd h1 h0
          exact ⟨rfl, err, Abt.no h0, .inr ⟨h0, by rw [HG.out]; exact manyG_stop (k := ys.length + 1) (by rw [manyG, hHM, Option.bind_some]; simp only []; rw [hg4]; rfl) n (by omega)⟩, hS3.trans hsw⟩
        obtain ⟨_, rfl⟩ | ⟨h0, _⟩ := he
        rotate_left
        · exact absurd rfl h0
        have hput' := hput w4 v hv
        obtain ⟨hD5, hO5, hS5, hK5⟩ := list_fill hdR hD3 hbg hBg hS3 hs4 hD4 hput' k_Head
        have HM2 : Hid (manyG gH (ys.length + 1) l1 = some (ys ++ [v], l2) ∧ (ys ++ [v]).length = ys.length + 1) := Lib.hid ⟨by rw [manyG, hHM, Option.bind_some]; simp only []; rw [hg4]; simp, by simp⟩
        have HO5 := Lib.hid hO5
        have HS5 := Lib.hid hS5
        clear hO5 hS5 hK5 hO3 hS3 hK3 hD3 hDg hD4 hs4 hsw hput hput' hHM hg4 hz hcur hbg
        go_wp2_with fail
        go_roundw
        case rel => exact ⟨ys.length + 1, some ⟨g, 0, none⟩, c', ys ++ [v], l2, by omega, by go_num, HM2, hD5, HO5, HS5⟩
        case measure => simp [intOf]; omega
      · refine step_ofR (by rfl) ?_
        refine wp_oneG hdR (.tmp 27) rfl (y1 := hd0) hd0_ok rfl ?_
        refine hK.out _ _ (hHeld.alloc _) (fun hHeld => ?_)
        clear hK K
        try simp only [Act.put, List.setIfInBounds_toArray, List.set_cons_zero, List.set_cons_succ]
        refine wpAnyH_ready (rs := [3]) (by kernel_rfl) (by simp) ?_
        refine AllReadyH.cons (o := ⟨some 26, .load 60 (.tmp 25), _, _, _, none⟩) rfl (fun K hK => ?_) AllReadyH.nil
        refine step_ofR (by rfl) ?_
        go_simp
        refine hK.out _ _ (hHeld) (fun hHeld => ?_)
        clear hK K
        try simp only [Act.put, List.setIfInBounds_toArray, List.set_cons_zero, List.set_cons_succ]
        refine wpAnyH_ready (rs := [6]) (by kernel_rfl) (by simp) ?_
        refine AllReadyH.cons (o := ⟨some 29, .call { callee := .builtin .append, args := #[.tmp 26, .tmp 28], argTypes := #[60, 60] }, _, _, _, none⟩) rfl (fun K hK => ?_) AllReadyH.nil
        refine step_ofR (by rfl) ?_
        refine wp_appG hdR (.tmp 26) (.tmp 28) rfl rfl hO1 rfl hR1 hln hBB ?_
        intro a' c' W2 hO2 hg2 hx2
        refine hK.out _ _ (hHeld.grown hg2 (fun e => by have := (hO0.lt e).2; omega)) (fun hHeld => ?_)
        clear hK K
        try simp only [Act.put, List.setIfInBounds_toArray, List.set_cons_zero, List.set_cons_succ]
        have hf2 := (hD0.keep hB1).app hg2 (T := hdR.T) (fun g e => hO1.typed g e) (by decide) (by decide) (by decide) k_Head
        have hc2 := hf2.xb.cell (j := off) (v := .slice a ys.length c) (by simp [HOF.out])
        have hf3 := hf2.xb.free off
        refine wpAnyH_take (i := 7) (oi := ⟨some 30, .nilCheck (.tmp 23), _, _, _, none⟩) (v := ?_) rfl (by kernel_rfl) (by kernel_rfl) (by kernel_rfl) (fun _ _ _ h => h) (Or.inl ⟨by rfl, ?_⟩) hHeld ?_
        rotate_left
        · intro W _; go_simp; try with_reducible rfl
        try simp only [Act.put, List.setIfInBounds_toArray, List.set_cons_zero, List.set_cons_succ]
        refine wpAnyH_ready (rs := [8]) (by kernel_rfl) (by simp) ?_
        refine AllReadyH.cons (o := ⟨none, .store 60 (.tmp 30) (.tmp 29), _, _, _, none⟩) rfl (fun K hK => ?_) AllReadyH.nil
        refine step_ofR (by rfl) ?_
        go_simp
        refine hK.out _ _ (hHeld.setOther _ _ (by simp; omega)) (fun hHeld => ?_)
        clear hK K
        try simp only [Act.put, List.setIfInBounds_toArray, List.set_cons_zero, List.set_cons_succ]
        refine wpAnyH_done (by kernel_rfl) ?_ _
        obtain ⟨hD3, hO3, hS3, hK3⟩ := list_grow hdR hD0 hO0 hS0 hB1 hO2 hg2 (by decide) (by decide) (by decide) k_Head
        have hc3 := hD3.xb.cell (j := off) (v := .slice a' (ys.length + 1) c') (by simp [HOF.out])
        obtain ⟨g, cur, rfl, hBg, _, hbg, hcur, hz, hput⟩ := hO3.last
        clear hO1 hO2 hf2 hx2 hc2 hf3 hck0 hck1 hHeld hB1 hR1 hO0 hS0 hg2
        go_wp2_with fail
        have hgb : g ≠ b := fun e => by subst e; exact hbg.noT (T := 107) (by decide) _ _ hD3.cb.at_
        have hgr : g ≠ r := fun e => by subst e; obtain ⟨_, _, _, k1, _⟩ := hD3.rd; exact hbg.noT (T := 150) (by decide) _ _ k1.at_
        have hDg := hD3.other hbg (by decide) hgb hgr
        have hHM := HM.out.1
        generalize hW3 : W2.setCell ⟨X, off, none⟩ (.slice (some ⟨g, 0, none⟩) (ys.length + 1) c') = W3 at *
        refine (head_dec A a0 n0 c0 l0 b r g W3.heap.size 47 W3 l' cur hDg (ys.length * 65) hcur).mono ?_
        rintro e w4 ⟨err, he, hN, hs4⟩
        have hsw := hs4.weak (K' := fun k => k = r ∨ k = X) hD3.le (fun i h e => e.imp id (fun e => by omega))
        rcases hN with ⟨rfl, v, l2, hg4, hv, hD4⟩ | ⟨h0, hg4⟩
        rotate_left
        · obtain ⟨h1, _⟩ | ⟨_, rfl⟩ := he
          · exact absurd h1 h0
          exact ⟨rfl, err, Abt.no h0, .inr ⟨h0, by rw [HG.out]; exact manyG_stop (k := ys.length + 1) (by rw [manyG, hHM, Option.bind_some]; simp only []; rw [hg4]; rfl) n (by omega)⟩, hS3.trans hsw⟩
        obtain ⟨_, rfl⟩ | ⟨h0, _⟩ := he
        rotate_left
        · exact absurd rfl h0
        have hput' := hput w4 v hv
        obtain ⟨hD5, hO5, hS5, hK5⟩ := list_fill hdR hD3 hbg hBg hS3 hs4 hD4 hput' k_Head
        have HM2 : Hid (manyG gH (ys.length + 1) l1 = some (ys ++ [v], l2) ∧ (ys ++ [v]).length = ys.length + 1) := Lib.hid ⟨by rw [manyG, hHM, Option.bind_some]; simp only []; rw [hg4]; simp, by simp⟩
        have HO5 := Lib.hid hO5
        have HS5 := Lib.hid hS5
        clear hO5 hS5 hK5 hO3 hS3 hK3 hD3 hDg hD4 hs4 hsw hput hput' hHM hg4 hz hcur hbg
        go_wp2_with fail
        go_roundw
        case rel => exact ⟨ys.length + 1, some ⟨g, 0, none⟩, c', ys ++ [v], l2, by omega, by go_num, HM2, hD5, HO5, HS5⟩
        case measure => simp [intOf]; omega
    · have hkn' : ys.length = n := by omega
      subst hkn'
      have hki : ¬ (ys.length : Int) < (ys.length : Int) := by omega
      go_wp2_with fail
      go_end0
      exact ⟨0, Abt.ok, .inl ⟨rfl, ys, l', by rw [HG.out]; exact HM.out.1, a, c, hDk, HO.out⟩, HS.out⟩

set_option maxHeartbeats 2000000 in
theorem list_enc_session (w : World) (b B : Nat) (q : List UInt8) (hC : CdX w b B q) (X off : Nat) (hlt : X < B) (hne : X ≠ b) (a : Option Addr) (n c : Nat) (hc : w.cell? ⟨X, off, none⟩ = some (.slice a n c)) (l : List Se) (hr : RdX seR w b B a n c l) (ho : q.length ≤ 70368744095714) :
    Calls Tryz.prog 81 #[.pointer (some ⟨b, 0, none⟩), .pointer (some ⟨X, off, none⟩), .func (.func 82) #[] #[]] w fun e w' => ∃ err, Abt err e ∧ LayO (loL loSe l (0, q)) err (fun l => CdX w' b B l) ∧ Stp (· = b) B w w' := by
  have HN := Lib.hid hr.rd.len
  have HR := Lib.hid hr
  have HLT := Lib.hid hlt
  have HNE := Lib.hid hne
  have HO := Lib.hid ho
  have HCP := Lib.hid hr.rd.cap
  have HMX := Lib.hid hr.rd.max
  clear hr hlt hne ho
  go_enter Tryz.func81, Tryz.ntmps81
  go_wp2_with fail
  refine (length_enc w b B q hC n (by have := HO.out; omega)).mono ?_
  rintro e w1 ⟨hL, hs1⟩
  rcases hL with ⟨h4, rfl, hC1⟩ | ⟨h4, hab⟩
  rotate_left
  · obtain ⟨h0, _⟩ | ⟨_, rfl⟩ := hab
    · exact absurd h0 (by decide)
    exact ⟨rfl, 2, Abt.no (by decide), by rw [loL_long (by rw [HN.out]; exact h4)]; exact ⟨rfl, fun e => absurd e (by decide)⟩, hs1⟩
  have HSH : Hid (loL loSe l (0, q) = l.foldl (fun o x => loSe x o) (0, q ++ encC n)) := Lib.hid (by rw [loL_short (by rw [HN.out]; exact h4), HN.out])
  have HQ1 : Hid ((q ++ encC n).length ≤ 70368744095719) := Lib.hid (by have := encC_len n (by omega); have := HO.out; rw [List.length_append]; omega)
  generalize q ++ encC n = q1 at *
  have hc1 := hs1.cell hc HLT.out HNE.out
  have HS1 := Lib.hid hs1
  clear hs1 hC
  go_wp2_with fail
  go_loopw [14] (fun i wr => ∃ (k : Nat) (qk : List UInt8), k ≤ n ∧ i = .int .i64 (k : Int) ∧ Hid ((l.take k).foldl (fun o x => loSe x o) (0, q1) = (0, qk)) ∧ Hid (qk.length ≤ q1.length + k * 20) ∧ CdX wr b B qk ∧ Hid (Stp (· = b) B w wr)) (fun i _ => n - (intOf i).toNat)
  case atStart => exact ⟨0, q1, by omega, rfl, Lib.hid rfl, Lib.hid (by omega), hC1, HS1⟩
  case round =>
    obtain ⟨k, qk, hk, rfl, HF, HQK, hCk, HS⟩ := hrel
    have hck := HS.out.cell hc HLT.out HNE.out
    by_cases hkn : k < n
    · obtain ⟨yb, yo, rfl, hyb, hel⟩ := HR.out.rd.elems (by omega)
      have HY := Lib.hid (HR.out.lt (by omega) _ rfl)
      have HEL := Lib.hid (HS.out.range (hel k hkn) HY.out.1 HY.out.2)
      have hki : (k : Int) < (n : Int) := by omega
      have hkb : ¬ ((k : Int) = (n : Int)) := by omega
      have HKL : Hid (k < l.length) := Lib.hid (by rw [HN.out]; exact hkn)
      have hcap := HCP.out
      have HQB : Hid (qk.length ≤ 70368744177639) := Lib.hid (by have h1 := HQK.out; have h2 := HQ1.out; have h3 : k * 20 ≤ 4096 * 20 := Nat.mul_le_mul_right _ (by omega); omega)
      clear hel hyb hc hc1 hC1
      go_wp2_with fail
      refine (session_enc wr b B qk hCk yb (yo + k * 4) HY.out.1 HY.out.2 (l.getD k se0) (HR.out.rd.ok.at HKL.out) HEL.out (by have := HQB.out; omega)).mono ?_
      rintro e w2 ⟨err, he, hL, hs2⟩
      have HST := Lib.hid (fold_step (f := fun o x => loSe x o) (o := (0, q1)) (x0 := se0) HKL.out)
      rcases he with ⟨rfl, rfl⟩ | ⟨h0, rfl⟩
      · obtain ⟨q2, e2, hC2⟩ := hL.ok
        have HF2 : Hid ((l.take (k + 1)).foldl (fun o x => loSe x o) (0, q1) = (0, q2)) := Lib.hid (by rw [HST.out, HF.out]; exact e2)
        have HQ2 : Hid (q2.length ≤ q1.length + (k + 1) * 20) := Lib.hid (by have h1 := HQK.out; have h2 := loSe_len3 (x := (l.getD k se0)) (HR.out.rd.ok.at HKL.out) (0, qk); rw [e2] at h2; simp only at h2; have h3 : (k + 1) * 20 = k * 20 + 20 := Nat.succ_mul k 20; rw [h3]; clear h3; generalize k * 20 = z at *; exact Nat.le_trans h2 (by rw [← Nat.add_assoc]; exact Nat.add_le_add_right h1 _))
        have HS2 := Lib.hid (HS.out.trans hs2)
        clear hL e2 hs2 hCk hck
        go_wp2_with fail
        go_roundw
        case rel => exact ⟨k + 1, q2, by omega, by go_num, HF2, HQ2, hC2, HS2⟩
        case measure => simp [intOf]; omega
      · refine ⟨rfl, err, Abt.no h0, ?_, HS.out.trans hs2⟩
        rw [HSH.out, fold_stop (f := fun o x => loSe x o) (x0 := se0) (k := k) HKL.out rfl (by rw [HF.out]; intro x; exact loSe_stuck (by rw [← hL.1]; exact h0)), HF.out]
        exact ⟨hL.1, fun e => absurd e h0⟩
    · obtain rfl : k = n := by omega
      have hki : ¬ (k : Int) < (k : Int) := by omega
      go_wp2_with fail
      go_end0
      have e : l.take k = l := List.take_of_length_le (by rw [HN.out]; omega)
      have hF := HF.out
      rw [e] at hF
      exact ⟨0, Abt.ok, by rw [HSH.out, hF]; exact ⟨rfl, fun _ => hCk⟩, HS.out⟩

set_option maxHeartbeats 4000000 in
theorem list_dec_session (A : Nat) (a0 : Option Addr) (n0 c0 : Nat) (l0 : List UInt8) (b r X B : Nat) (t : TypeId) (w : World) (l : List UInt8) (vs : List Value) (hD : Dc A a0 n0 c0 l0 b r X B t w l vs) (off : Nat) (hy : vs[off]? = some (.slice none 0 0)) (k_Session : t ≠ 100) :
    Calls Tryz.prog 81 #[.pointer (some ⟨b, 0, none⟩), .pointer (some ⟨X, off, none⟩), .func (.func 82) #[] #[]] w fun e w' => ∃ err, Abt err e ∧ (DecI (gL gSe l) err fun xs l' => ∃ (a : Option Addr) (c : Nat), Dc A a0 n0 c0 l0 b r X B t w' l' (vs.set off (.slice a xs.length c)) ∧ OwnG seR w' B (.slice a xs.length c) xs) ∧ Stp (fun k => k = r ∨ k = X) B w w' := by
  have HLE := Lib.hid hD.le
  have HLS := Lib.hid hD.lt
  have HY := Lib.hid hy
  have HNEB := Lib.hid hD.neb
  have hc := hD.xb.cell hy
  clear hy
  go_enter Tryz.func81, Tryz.ntmps81
  go_wp2_with fail
  refine (length_dec A a0 n0 c0 l0 b r X B t w l vs hD).mono ?_
  rintro e w1 ⟨hL, hs1⟩
  rcases hL with ⟨n, l1, hg, h4, rfl, hD1⟩ | ⟨⟨err, h0, hab⟩, hg⟩
  rotate_left
  · obtain ⟨h1, _⟩ | ⟨_, rfl⟩ := hab
    · exact absurd h1 h0
    refine ⟨rfl, err, Abt.no h0, .inr ⟨h0, ?_⟩, (hs1.lower HLE.out).more (fun i h => .inl h)⟩
    unfold gL
    cases hh : gN l with
    | none => rfl
    | some p => rw [Option.bind_some, if_pos (hg p hh)]
  have HG : Hid (gL gSe l = manyG gSe n l1) := Lib.hid (by unfold gL; rw [hg, Option.bind_some, if_neg (by omega)]; simp)
  have HS1 : Hid (Stp (fun k => k = r ∨ k = X) B w w1) := Lib.hid ((hs1.lower HLE.out).more (fun i h => .inl h))
  have hv1 : vs.set off (.slice none 0 0) = vs := by obtain ⟨h1, h2⟩ := List.getElem?_eq_some_iff.1 HY.out; rw [← h2]; exact List.set_getElem_self h1
  have HOF : Hid (off < vs.length) := Lib.hid (List.getElem?_eq_some_iff.1 HY.out).1
  clear hD hs1 hg hc
  go_wp2_with fail
  go_loopw [14] (fun i wr => ∃ (k : Nat) (a : Option Addr) (c : Nat) (ys : List Se) (l' : List UInt8), k ≤ n ∧ i = .int .i64 (k : Int) ∧ Hid (manyG gSe k l1 = some (ys, l') ∧ ys.length = k) ∧ Dc A a0 n0 c0 l0 b r X B t wr l' (vs.set off (.slice a k c)) ∧ Hid (OwnG seR wr B (.slice a k c) ys) ∧ Hid (Stp (fun k => k = r ∨ k = X) B w wr)) (fun i _ => n - (intOf i).toNat)
  case atStart => exact ⟨0, none, 0, [], l1, by omega, rfl, Lib.hid ⟨rfl, rfl⟩, by rw [hv1]; exact hD1, Lib.hid (OwnG.nil0 _ _), HS1⟩
  case round =>
    obtain ⟨k, a, c, ys, l', hk, rfl, HM, hDk, HO, HS⟩ := hrel
    clear hD1 hv1
    have hkl := HM.out.2
    subst hkl
    have hck := hDk.xb.cell (j := off) (v := .slice a ys.length c) (by simp [HOF.out])
    have hfk := hDk.xb.free off
    by_cases hkn : ys.length < n
    · have hki : (ys.length : Int) < (n : Int) := by omega
      have HSZ := Lib.hid hDk.le
      have hln : ys.length + 1 ≤ 1000000 := by omega
      have hO0 := HO.out
      have hS0 := HS.out
      have hB0 := hDk.le
      have hD0 := hDk
      go_wp2_with (first | ((with_reducible refine wpList_allocG seR (o := ⟨some 7, _, _, _, _, _⟩) ?_ ?_ (vs := sec se0) rfl ?_); rfl; rfl; intro w5 hb5 hg5 hz5))
      have hBd : Below wr.heap.size wr w5.drew := ((Below.refl _ wr).grown hg5 (Nat.le_refl _) (by simp)).drew
      have hb5d := hb5.drew
      clear hb5 hg5 hz5 hDk
      refine wp_region_held_drew (S := fun W => Blk W wr.heap.size 100 (sec se0)) (by kernel_rfl) hb5d (fun hHeld => ?_)
      generalize w5.drew = W0 at *
      have hB1 : Below wr.heap.size wr (W0.alloc (.cells (seR.cells [se0]).toArray seR.T)) := hBd.alloc hBd.size _
      have hR1 : RdG seR (W0.alloc (.cells (seR.cells [se0]).toArray seR.T)) (some ⟨W0.heap.size, 0, none⟩) 1 1 [se0] := RdG.many W0 (Row.all.single trivial) rfl (by decide)
      have hO1 := hO0.below hB1
      have hBB := Nat.le_trans hB0 hB1.size
      have hck0 := (hD0.keep hBd).xb.cell (j := off) (v := .slice a ys.length c) (by simp [HOF.out])
      have hck1 := (hD0.keep hB1).xb.cell (j := off) (v := .slice a ys.length c) (by simp [HOF.out])
      have hXl := hD0.xb.lt
      clear hck hfk
      refine wpAnyH_take (i := 0) (oi := ⟨some 23, .move (.tmp 1), _, _, _, none⟩) (v := ?_) rfl (by kernel_rfl) (by kernel_rfl) (by kernel_rfl) (fun _ _ _ h => h) (Or.inl ⟨by rfl, ?_⟩) hHeld ?_
      rotate_left
      · intro W _; go_simp; try with_reducible rfl
      try simp only [Act.put, List.setIfInBounds_toArray, List.set_cons_zero, List.set_cons_succ]
      refine wpAnyH_take (i := 1) (oi := ⟨some 24, .move (.tmp 1), _, _, _, none⟩) (v := ?_) rfl (by kernel_rfl) (by kernel_rfl) (by kernel_rfl) (fun _ _ _ h => h) (Or.inl ⟨by rfl, ?_⟩) hHeld ?_
      rotate_left
      · intro W _; go_simp; try with_reducible rfl
      try simp only [Act.put, List.setIfInBounds_toArray, List.set_cons_zero, List.set_cons_succ]
      refine wpAnyH_take (i := 2) (oi := ⟨some 25, .nilCheck (.tmp 24), _, _, _, none⟩) (v := ?_) rfl (by kernel_rfl) (by kernel_rfl) (by kernel_rfl) (fun _ _ _ h => h) (Or.inl ⟨by rfl, ?_⟩) hHeld ?_
      rotate_left
      · intro W _; go_simp; try with_reducible rfl
      try simp only [Act.put, List.setIfInBounds_toArray, List.set_cons_zero, List.set_cons_succ]
      refine wpAnyH_take (i := 4) (oi := ⟨some 27, .load 100 (.tmp 7), _, _, _, none⟩) (v := .agg (sec se0).toArray) rfl (by kernel_rfl) (by kernel_rfl) (by kernel_rfl) (fun _ _ _ h => h) (yieldsIf_loadG seR (by rfl) wr.heap.size 0 _ rfl rfl (y := se0) trivial (fun W hS => hS.range 0 (fun j _ => by rw [Nat.zero_add]; rfl)) Tryz.underlying100 rfl) hHeld ?_
      try simp only [Act.put, List.setIfInBounds_toArray, List.set_cons_zero, List.set_cons_succ]
      refine wpAnyH_ready (rs := [3, 5]) (by kernel_rfl) (by simp) ?_
      refine AllReadyH.cons (o := ⟨some 26, .load 61 (.tmp 25), _, _, _, none⟩) rfl (fun K hK => ?_) (AllReadyH.cons (o := ⟨some 28, .buildSlice 61 1 #[(0, .tmp 27)], _, _, _, none⟩) rfl (fun K hK => ?_) AllReadyH.nil)
      · refine step_ofR (by rfl) ?_
        go_simp
        refine hK.out _ _ (hHeld) (fun hHeld => ?_)
        clear hK K
        try simp only [Act.put, List.setIfInBounds_toArray, List.set_cons_zero, List.set_cons_succ]
        refine wpAnyH_ready (rs := [5]) (by kernel_rfl) (by simp) ?_
        refine AllReadyH.cons (o := ⟨some 28, .buildSlice 61 1 #[(0, .tmp 27)], _, _, _, none⟩) rfl (fun K hK => ?_) AllReadyH.nil
        refine step_ofR (by rfl) ?_
        refine wp_oneG seR (.tmp 27) rfl (y1 := se0) trivial rfl ?_
        refine hK.out _ _ (hHeld.alloc _) (fun hHeld => ?_)
        clear hK K
        try simp only [Act.put, List.setIfInBounds_toArray, List.set_cons_zero, List.set_cons_succ]
        refine wpAnyH_ready (rs := [6]) (by kernel_rfl) (by simp) ?_
        refine AllReadyH.cons (o := ⟨some 29, .call { callee := .builtin .append, args := #[.tmp 26, .tmp 28], argTypes := #[61, 61] }, _, _, _, none⟩) rfl (fun K hK => ?_) AllReadyH.nil
        refine step_ofR (by rfl) ?_
        refine wp_appG seR (.tmp 26) (.tmp 28) rfl rfl hO1 rfl hR1 hln hBB ?_
        intro a' c' W2 hO2 hg2 hx2
        refine hK.out _ _ (hHeld.grown hg2 (fun e => by have := (hO0.lt e).2; omega)) (fun hHeld => ?_)
        clear hK K
        try simp only [Act.put, List.setIfInBounds_toArray, List.set_cons_zero, List.set_cons_succ]
        have hf2 := (hD0.keep hB1).app hg2 (T := seR.T) (fun g e => hO1.typed g e) (by decide) (by decide) (by decide) k_Session
        have hc2 := hf2.xb.cell (j := off) (v := .slice a ys.length c) (by simp [HOF.out])
        have hf3 := hf2.xb.free off
        refine wpAnyH_take (i := 7) (oi := ⟨some 30, .nilCheck (.tmp 23), _, _, _, none⟩) (v := ?_) rfl (by kernel_rfl) (by kernel_rfl) (by kernel_rfl) (fun _ _ _ h => h) (Or.inl ⟨by rfl, ?_⟩) hHeld ?_
        rotate_left
        · intro W _; go_simp; try with_reducible rfl
        try simp only [Act.put, List.setIfInBounds_toArray, List.set_cons_zero, List.set_cons_succ]
        refine wpAnyH_ready (rs := [8]) (by kernel_rfl) (by simp) ?_
        refine AllReadyH.cons (o := ⟨none, .store 61 (.tmp 30) (.tmp 29), _, _, _, none⟩) rfl (fun K hK => ?_) AllReadyH.nil
        refine step_ofR (by rfl) ?_
        go_simp
        refine hK.out _ _ (hHeld.setOther _ _ (by simp; omega)) (fun hHeld => ?_)
        clear hK K
        try simp only [Act.put, List.setIfInBounds_toArray, List.set_cons_zero, List.set_cons_succ]
        refine wpAnyH_done (by kernel_rfl) ?_ _
        obtain ⟨hD3, hO3, hS3, hK3⟩ := list_grow seR hD0 hO0 hS0 hB1 hO2 hg2 (by decide) (by decide) (by decide) k_Session
        have hc3 := hD3.xb.cell (j := off) (v := .slice a' (ys.length + 1) c') (by simp [HOF.out])
        obtain ⟨g, cur, rfl, hBg, _, hbg, hcur, hz, hput⟩ := hO3.last
        clear hO1 hO2 hf2 hx2 hc2 hf3 hck0 hck1 hHeld hB1 hR1 hO0 hS0 hg2
        go_wp2_with fail
        have hgb : g ≠ b := fun e => by subst e; exact hbg.noT (T := 107) (by decide) _ _ hD3.cb.at_
        have hgr : g ≠ r := fun e => by subst e; obtain ⟨_, _, _, k1, _⟩ := hD3.rd; exact hbg.noT (T := 150) (by decide) _ _ k1.at_
        have hDg := hD3.other hbg (by decide) hgb hgr
        have hHM := HM.out.1
        generalize hW3 : W2.setCell ⟨X, off, none⟩ (.slice (some ⟨g, 0, none⟩) (ys.length + 1) c') = W3 at *
        refine (session_dec A a0 n0 c0 l0 b r g W3.heap.size 100 W3 l' cur hDg (ys.length * 4) hcur).mono ?_
        rintro e w4 ⟨err, he, hN, hs4⟩
        have hsw := hs4.weak (K' := fun k => k = r ∨ k = X) hD3.le (fun i h e => e.imp id (fun e => by omega))
        rcases hN with ⟨rfl, v, l2, hg4, hv, hD4⟩ | ⟨h0, hg4⟩
        rotate_left
        · obtain ⟨h1, _⟩ | ⟨_, rfl⟩ := he
          · exact absurd h1 h0
          exact ⟨rfl, err, Abt.no h0, .inr ⟨h0, by rw [HG.out]; exact manyG_stop (k := ys.length + 1) (by rw [manyG, hHM, Option.bind_some]; simp only []; rw [hg4]; rfl) n (by omega)⟩, hS3.trans hsw⟩
        obtain ⟨_, rfl⟩ | ⟨h0, _⟩ := he
        rotate_left
        · exact absurd rfl h0
        have hput' := hput w4 v trivial
        obtain ⟨hD5, hO5, hS5, hK5⟩ := list_fill seR hD3 hbg hBg hS3 hs4 hD4 hput' k_Session
        have HM2 : Hid (manyG gSe (ys.length + 1) l1 = some (ys ++ [v], l2) ∧ (ys ++ [v]).length = ys.length + 1) := Lib.hid ⟨by rw [manyG, hHM, Option.bind_some]; simp only []; rw [hg4]; simp, by simp⟩
        have HO5 := Lib.hid hO5
        have HS5 := Lib.hid hS5
        clear hO5 hS5 hK5 hO3 hS3 hK3 hD3 hDg hD4 hs4 hsw hput hput' hHM hg4 hz hcur hbg
        go_wp2_with fail
        go_roundw
        case rel => exact ⟨ys.length + 1, some ⟨g, 0, none⟩, c', ys ++ [v], l2, by omega, by go_num, HM2, hD5, HO5, HS5⟩
        case measure => simp [intOf]; omega
      · refine step_ofR (by rfl) ?_
        refine wp_oneG seR (.tmp 27) rfl (y1 := se0) trivial rfl ?_
        refine hK.out _ _ (hHeld.alloc _) (fun hHeld => ?_)
        clear hK K
        try simp only [Act.put, List.setIfInBounds_toArray, List.set_cons_zero, List.set_cons_succ]
        refine wpAnyH_ready (rs := [3]) (by kernel_rfl) (by simp) ?_
        refine AllReadyH.cons (o := ⟨some 26, .load 61 (.tmp 25), _, _, _, none⟩) rfl (fun K hK => ?_) AllReadyH.nil
        refine step_ofR (by rfl) ?_
        go_simp
        refine hK.out _ _ (hHeld) (fun hHeld => ?_)
        clear hK K
        try simp only [Act.put, List.setIfInBounds_toArray, List.set_cons_zero, List.set_cons_succ]
        refine wpAnyH_ready (rs := [6]) (by kernel_rfl) (by simp) ?_
        refine AllReadyH.cons (o := ⟨some 29, .call { callee := .builtin .append, args := #[.tmp 26, .tmp 28], argTypes := #[61, 61] }, _, _, _, none⟩) rfl (fun K hK => ?_) AllReadyH.nil
        refine step_ofR (by rfl) ?_
        refine wp_appG seR (.tmp 26) (.tmp 28) rfl rfl hO1 rfl hR1 hln hBB ?_
        intro a' c' W2 hO2 hg2 hx2
        refine hK.out _ _ (hHeld.grown hg2 (fun e => by have := (hO0.lt e).2; omega)) (fun hHeld => ?_)
        clear hK K
        try simp only [Act.put, List.setIfInBounds_toArray, List.set_cons_zero, List.set_cons_succ]
        have hf2 := (hD0.keep hB1).app hg2 (T := seR.T) (fun g e => hO1.typed g e) (by decide) (by decide) (by decide) k_Session
        have hc2 := hf2.xb.cell (j := off) (v := .slice a ys.length c) (by simp [HOF.out])
        have hf3 := hf2.xb.free off
        refine wpAnyH_take (i := 7) (oi := ⟨some 30, .nilCheck (.tmp 23), _, _, _, none⟩) (v := ?_) rfl (by kernel_rfl) (by kernel_rfl) (by kernel_rfl) (fun _ _ _ h => h) (Or.inl ⟨by rfl, ?_⟩) hHeld ?_
        rotate_left
        · intro W _; go_simp; try with_reducible rfl
        try simp only [Act.put, List.setIfInBounds_toArray, List.set_cons_zero, List.set_cons_succ]
        refine wpAnyH_ready (rs := [8]) (by kernel_rfl) (by simp) ?_
        refine AllReadyH.cons (o := ⟨none, .store 61 (.tmp 30) (.tmp 29), _, _, _, none⟩) rfl (fun K hK => ?_) AllReadyH.nil
        refine step_ofR (by rfl) ?_
        go_simp
        refine hK.out _ _ (hHeld.setOther _ _ (by simp; omega)) (fun hHeld => ?_)
        clear hK K
        try simp only [Act.put, List.setIfInBounds_toArray, List.set_cons_zero, List.set_cons_succ]
        refine wpAnyH_done (by kernel_rfl) ?_ _
        obtain ⟨hD3, hO3, hS3, hK3⟩ := list_grow seR hD0 hO0 hS0 hB1 hO2 hg2 (by decide) (by decide) (by decide) k_Session
        have hc3 := hD3.xb.cell (j := off) (v := .slice a' (ys.length + 1) c') (by simp [HOF.out])
        obtain ⟨g, cur, rfl, hBg, _, hbg, hcur, hz, hput⟩ := hO3.last
        clear hO1 hO2 hf2 hx2 hc2 hf3 hck0 hck1 hHeld hB1 hR1 hO0 hS0 hg2
        go_wp2_with fail
        have hgb : g ≠ b := fun e => by subst e; exact hbg.noT (T := 107) (by decide) _ _ hD3.cb.at_
        have hgr : g ≠ r := fun e => by subst e; obtain ⟨_, _, _, k1, _⟩ := hD3.rd; exact hbg.noT (T := 150) (by decide) _ _ k1.at_
        have hDg := hD3.other hbg (by decide) hgb hgr
        have hHM := HM.out.1
        generalize hW3 : W2.setCell ⟨X, off, none⟩ (.slice (some ⟨g, 0, none⟩) (ys.length + 1) c') = W3 at *
        refine (session_dec A a0 n0 c0 l0 b r g W3.heap.size 100 W3 l' cur hDg (ys.length * 4) hcur).mono ?_
        rintro e w4 ⟨err, he, hN, hs4⟩
        have hsw := hs4.weak (K' := fun k => k = r ∨ k = X) hD3.le (fun i h e => e.imp id (fun e => by omega))
        rcases hN with ⟨rfl, v, l2, hg4, hv, hD4⟩ | ⟨h0, hg4⟩
        rotate_left
        · obtain ⟨h1, _⟩ | ⟨_, rfl⟩ := he
          · exact absurd h1 h0
          exact ⟨rfl, err, Abt.no h0, .inr ⟨h0, by rw [HG.out]; exact manyG_stop (k := ys.length + 1) (by rw [manyG, hHM, Option.bind_some]; simp only []; rw [hg4]; rfl) n (by omega)⟩, hS3.trans hsw⟩
        obtain ⟨_, rfl⟩ | ⟨h0, _⟩ := he
        rotate_left
        · exact absurd rfl h0
        have hput' := hput w4 v trivial
        obtain ⟨hD5, hO5, hS5, hK5⟩ := list_fill seR hD3 hbg hBg hS3 hs4 hD4 hput' k_Session
        have HM2 : Hid (manyG gSe (ys.length + 1) l1 = some (ys ++ [v], l2) ∧ (ys ++ [v]).length = ys.length + 1) := Lib.hid ⟨by rw [manyG, hHM, Option.bind_some]; simp only []; rw [hg4]; simp, by simp⟩
        have HO5 := Lib.hid hO5
        have HS5 := Lib.hid hS5
        clear hO5 hS5 hK5 hO3 hS3 hK3 hD3 hDg hD4 hs4 hsw hput hput' hHM hg4 hz hcur hbg
        go_wp2_with fail
        go_roundw
        case rel => exact ⟨ys.length + 1, some ⟨g, 0, none⟩, c', ys ++ [v], l2, by omega, by go_num, HM2, hD5, HO5, HS5⟩
        case measure => simp [intOf]; omega
    · have hkn' : ys.length = n := by omega
      subst hkn'
      have hki : ¬ (ys.length : Int) < (ys.length : Int) := by omega
      go_wp2_with fail
      go_end0
      exact ⟨0, Abt.ok, .inl ⟨rfl, ys, l', by rw [HG.out]; exact HM.out.1, a, c, hDk, HO.out⟩, HS.out⟩

end Go.Proofs.YtoclahcibilbhaaGreat
