/-
  Package wire's lists, encoded and decoded: users.
-/
import Derived.Test.YtoclahcibilbhaaGreatWirE2
namespace Go.Proofs.YtoclahcibilbhaaGreat
open Go.RowKit
set_option maxRecDepth 100000

set_option maxHeartbeats 2000000 in
theorem list_enc_user (w : World) (b B : Nat) (q : List UInt8) (hC : CdX w b B q) (X off : Nat) (hlt : X < B) (hne : X ≠ b) (a : Option Addr) (n c : Nat) (hc : w.cell? ⟨X, off, none⟩ = some (.slice a n c)) (l : List Ux) (hr : RdX usR w b B a n c l) (hr2 : ∀ y ∈ l, Ux.rdx w b B y) (ho : q.length ≤ 69268443852755) :
    Calls Tryz.prog 78 #[.pointer (some ⟨b, 0, none⟩), .pointer (some ⟨X, off, none⟩), .func (.func 79) #[] #[]] w fun e w' => ∃ err, Abt err e ∧ LayO (loL loU l (0, q)) err (fun l => CdX w' b B l) ∧ Stp (· = b) B w w' := by
  have HN := Lib.hid hr.rd.len
  have HR := Lib.hid hr
  have HR2 := Lib.hid hr2
  have HLT := Lib.hid hlt
  have HNE := Lib.hid hne
  have HO := Lib.hid ho
  have HCP := Lib.hid hr.rd.cap
  have HMX := Lib.hid hr.rd.max
  clear hr hlt hne ho hr2
  go_enter Tryz.func78, Tryz.ntmps78
  go_wp2_with fail
  refine (length_enc w b B q hC n (by have := HO.out; omega)).mono ?_
  rintro e w1 ⟨hL, hs1⟩
  rcases hL with ⟨h4, rfl, hC1⟩ | ⟨h4, hab⟩
  rotate_left
  · obtain ⟨h0, _⟩ | ⟨_, rfl⟩ := hab
    · exact absurd h0 (by decide)
    exact ⟨rfl, 2, Abt.no (by decide), by rw [loL_long (by rw [HN.out]; exact h4)]; exact ⟨rfl, fun e => absurd e (by decide)⟩, hs1⟩
  have HSH : Hid (loL loU l (0, q) = l.foldl (fun o x => loU x o) (0, q ++ encC n)) := Lib.hid (by rw [loL_short (by rw [HN.out]; exact h4), HN.out])
  have HQ1 : Hid ((q ++ encC n).length ≤ 69268443852760) := Lib.hid (by have := encC_len n (by omega); have := HO.out; rw [List.length_append]; omega)
  generalize q ++ encC n = q1 at *
  have hc1 := hs1.cell hc HLT.out HNE.out
  have HS1 := Lib.hid hs1
  clear hs1 hC
  go_wp2_with fail
  go_loopw [14] (fun i wr => ∃ (k : Nat) (qk : List UInt8), k ≤ n ∧ i = .int .i64 (k : Int) ∧ Hid ((l.take k).foldl (fun o x => loU x o) (0, q1) = (0, qk)) ∧ Hid (qk.length ≤ q1.length + k * 268562442) ∧ CdX wr b B qk ∧ Hid (Stp (· = b) B w wr)) (fun i _ => n - (intOf i).toNat)
  case atStart => exact ⟨0, q1, by omega, rfl, Lib.hid rfl, Lib.hid (by omega), hC1, HS1⟩
  case round =>
    obtain ⟨k, qk, hk, rfl, HF, HQK, hCk, HS⟩ := hrel
    have hck := HS.out.cell hc HLT.out HNE.out
    by_cases hkn : k < n
    · obtain ⟨yb, yo, rfl, hyb, hel⟩ := HR.out.rd.elems (by omega)
      have HY := Lib.hid (HR.out.lt (by omega) _ rfl)
      have HEL := Lib.hid (HS.out.range (hel k hkn) HY.out.1 HY.out.2)
      have hki : (k : Int) < (n : Int) := by omega
      have hkb : ¬ ((k : Int) = (n : Int)) := by omega
      have HKL : Hid (k < l.length) := Lib.hid (by rw [HN.out]; exact hkn)
      have hcap := HCP.out
      have HQB : Hid (qk.length ≤ 70368475615192) := Lib.hid (by have h1 := HQK.out; have h2 := HQ1.out; have h3 : k * 268562442 ≤ 4096 * 268562442 := Nat.mul_le_mul_right _ (by omega); omega)
      clear hel hyb hc hc1 hC1
      go_wp2_with fail
      refine (user_enc wr b B qk hCk yb (yo + k * 2) HY.out.1 HY.out.2 (l.getD k ux0) (HR.out.rd.ok.at HKL.out) HEL.out (Ux.rdx_stp (HR2.out _ (getD_mem HKL.out)) HS.out) (by have := HQB.out; omega)).mono ?_
      rintro e w2 ⟨err, he, hL, hs2⟩
      have HST := Lib.hid (fold_step (f := fun o x => loU x o) (o := (0, q1)) (x0 := ux0) HKL.out)
      rcases he with ⟨rfl, rfl⟩ | ⟨h0, rfl⟩
      · obtain ⟨q2, e2, hC2⟩ := hL.ok
        have HF2 : Hid ((l.take (k + 1)).foldl (fun o x => loU x o) (0, q1) = (0, q2)) := Lib.hid (by rw [HST.out, HF.out]; exact e2)
        have HQ2 : Hid (q2.length ≤ q1.length + (k + 1) * 268562442) := Lib.hid (by have h1 := HQK.out; have h2 := loU_len3 (x := (l.getD k ux0)) (HR.out.rd.ok.at HKL.out) (0, qk); rw [e2] at h2; simp only at h2; have h3 : (k + 1) * 268562442 = k * 268562442 + 268562442 := Nat.succ_mul k 268562442; rw [h3]; clear h3; generalize k * 268562442 = z at *; exact Nat.le_trans h2 (by rw [← Nat.add_assoc]; exact Nat.add_le_add_right h1 _))
        have HS2 := Lib.hid (HS.out.trans hs2)
        clear hL e2 hs2 hCk hck
        go_wp2_with fail
        go_roundw
        case rel => exact ⟨k + 1, q2, by omega, by go_num, HF2, HQ2, hC2, HS2⟩
        case measure => simp [intOf]; omega
      · refine ⟨rfl, err, Abt.no h0, ?_, HS.out.trans hs2⟩
        rw [HSH.out, fold_stop (f := fun o x => loU x o) (x0 := ux0) (k := k) HKL.out rfl (by rw [HF.out]; intro x; exact loU_stuck (by rw [← hL.1]; exact h0)), HF.out]
        exact ⟨hL.1, fun e => absurd e h0⟩
    · obtain rfl : k = n := by omega
      have hki : ¬ (k : Int) < (k : Int) := by omega
      go_wp2_with fail
      go_end0
      have e : l.take k = l := List.take_of_length_le (by rw [HN.out]; omega)
      have hF := HF.out
      rw [e] at hF
      exact ⟨0, Abt.ok, by rw [HSH.out, hF]; exact ⟨rfl, fun _ => hCk⟩, HS.out⟩

set_option maxHeartbeats 4000000 in
theorem list_dec_user (A : Nat) (a0 : Option Addr) (n0 c0 : Nat) (l0 : List UInt8) (b r X B : Nat) (t : TypeId) (w : World) (l : List UInt8) (vs : List Value) (hD : Dc A a0 n0 c0 l0 b r X B t w l vs) (off : Nat) (hy : vs[off]? = some (.slice none 0 0)) (k_User : t ≠ 97) (k_Version : t ≠ 103) :
    Calls Tryz.prog 78 #[.pointer (some ⟨b, 0, none⟩), .pointer (some ⟨X, off, none⟩), .func (.func 79) #[] #[]] w fun e w' => ∃ err, Abt err e ∧ (DecI (gL gU l) err fun xs l' => ∃ ys : List Ux, ys.map Ux.cl = xs ∧ usR.all ys ∧ (∀ y ∈ ys, Ux.own w' B y) ∧ ∃ (a : Option Addr) (c : Nat), Dc A a0 n0 c0 l0 b r X B t w' l' (vs.set off (.slice a ys.length c)) ∧ OwnG usR w' B (.slice a ys.length c) ys) ∧ Stp (fun k => k = r ∨ k = X) B w w' := by
  have HLE := Lib.hid hD.le
  have HLS := Lib.hid hD.lt
  have HY := Lib.hid hy
  have HNEB := Lib.hid hD.neb
  have hc := hD.xb.cell hy
  clear hy
  go_enter Tryz.func78, Tryz.ntmps78
  go_wp2_with fail
  refine (length_dec A a0 n0 c0 l0 b r X B t w l vs hD).mono ?_
  rintro e w1 ⟨hL, hs1⟩
  rcases hL with ⟨n, l1, hg, h4, rfl, hD1⟩ | ⟨⟨err, h0, hab⟩, hg⟩
  rotate_left
  · obtain ⟨h1, _⟩ | ⟨_, rfl⟩ := hab
    · exact absurd h1 h0
    refine ⟨rfl, err, Abt.no h0, .inr ⟨h0, ?_⟩, (hs1.lower HLE.out).more (fun i h => .inl h)⟩
    unfold gL
    cases hh : gN l with
    | none => rfl
    | some p => rw [Option.bind_some, if_pos (hg p hh)]
  have HG : Hid (gL gU l = manyG gU n l1) := Lib.hid (by unfold gL; rw [hg, Option.bind_some, if_neg (by omega)]; simp)
  have HS1 : Hid (Stp (fun k => k = r ∨ k = X) B w w1) := Lib.hid ((hs1.lower HLE.out).more (fun i h => .inl h))
  have hv1 : vs.set off (.slice none 0 0) = vs := by obtain ⟨h1, h2⟩ := List.getElem?_eq_some_iff.1 HY.out; rw [← h2]; exact List.set_getElem_self h1
  have HOF : Hid (off < vs.length) := Lib.hid (List.getElem?_eq_some_iff.1 HY.out).1
  clear hD hs1 hg hc
  go_wp2_with fail
  go_loopw [14] (fun i wr => ∃ (k : Nat) (a : Option Addr) (c : Nat) (ys : List Ux) (l' : List UInt8), k ≤ n ∧ i = .int .i64 (k : Int) ∧ Hid (manyG gU k l1 = some (ys.map Ux.cl, l') ∧ ys.length = k) ∧ Dc A a0 n0 c0 l0 b r X B t wr l' (vs.set off (.slice a k c)) ∧ Hid (OwnG usR wr B (.slice a k c) ys) ∧ Hid (Stp (fun k => k = r ∨ k = X) B w wr) ∧ Hid (∀ y ∈ ys, Ux.own wr B y)) (fun i _ => n - (intOf i).toNat)
  case atStart => exact ⟨0, none, 0, [], l1, by omega, rfl, Lib.hid ⟨rfl, rfl⟩, by rw [hv1]; exact hD1, Lib.hid (OwnG.nil0 _ _), HS1, Lib.hid (fun y hy => by simp at hy)⟩
  case round =>
    obtain ⟨k, a, c, ys, l', hk, rfl, HM, hDk, HO, HS, HOW⟩ := hrel
    clear hD1 hv1
    have hkl := HM.out.2
    subst hkl
    have hck := hDk.xb.cell (j := off) (v := .slice a ys.length c) (by simp [HOF.out])
    have hfk := hDk.xb.free off
    by_cases hkn : ys.length < n
    · have hki : (ys.length : Int) < (n : Int) := by omega
      have HSZ := Lib.hid hDk.le
      have hln : ys.length + 1 ≤ 1000000 := by omega
      have hO0 := HO.out
      have hS0 := HS.out
      have hB0 := hDk.le
      have hD0 := hDk
      go_wp2_with (first | ((with_reducible refine wpList_allocG usR (o := ⟨some 7, _, _, _, _, _⟩) ?_ ?_ (vs := uxc ux0) rfl ?_); rfl; rfl; intro w5 hb5 hg5 hz5))
      have hBd : Below wr.heap.size wr w5.drew := ((Below.refl _ wr).grown hg5 (Nat.le_refl _) (by simp)).drew
      have hb5d := hb5.drew
      clear hb5 hg5 hz5 hDk
      refine wp_region_held_drew (S := fun W => Blk W wr.heap.size 97 (uxc ux0)) (by kernel_rfl) hb5d (fun hHeld => ?_)
      generalize w5.drew = W0 at *
      have hB1 : Below wr.heap.size wr (W0.alloc (.cells (usR.cells [ux0]).toArray usR.T)) := hBd.alloc hBd.size _
      have hR1 : RdG usR (W0.alloc (.cells (usR.cells [ux0]).toArray usR.T)) (some ⟨W0.heap.size, 0, none⟩) 1 1 [ux0] := RdG.many W0 (Row.all.single trivial) rfl (by decide)
      have hO1 := hO0.below hB1
      have hBB := Nat.le_trans hB0 hB1.size
      have hck0 := (hD0.keep hBd).xb.cell (j := off) (v := .slice a ys.length c) (by simp [HOF.out])
      have hck1 := (hD0.keep hB1).xb.cell (j := off) (v := .slice a ys.length c) (by simp [HOF.out])
      have hXl := hD0.xb.lt
      clear hck hfk
      refine wpAnyH_take (i := 0) (oi := ⟨some 23, .move (.tmp 1), _, _, _, none⟩) (v := ?_) rfl (by kernel_rfl) (by kernel_rfl) (by kernel_rfl) (fun _ _ _ h => h) (Or.inl ⟨by rfl, ?_⟩) hHeld ?_
      rotate_left
      · intro W _; go_simp; try with_reducible rfl
      try simp only [Act.put, List.setIfInBounds_toArray, List.set_cons_zero, List.set_cons_succ]
      refine wpAnyH_take (i := 1) (oi := ⟨some 24, .move (.tmp 1), _, _, _, none⟩) (v := ?_) rfl (by kernel_rfl) (by kernel_rfl) (by kernel_rfl) (fun _ _ _ h => h) (Or.inl ⟨by rfl, ?_⟩) hHeld ?_
      rotate_left
      · intro W _; go_simp; try with_reducible rfl
      try simp only [Act.put, List.setIfInBounds_toArray, List.set_cons_zero, List.set_cons_succ]
      refine wpAnyH_take (i := 2) (oi := ⟨some 25, .nilCheck (.tmp 24), _, _, _, none⟩) (v := ?_) rfl (by kernel_rfl) (by kernel_rfl) (by kernel_rfl) (fun _ _ _ h => h) (Or.inl ⟨by rfl, ?_⟩) hHeld ?_
      rotate_left
      · intro W _; go_simp; try with_reducible rfl
      try simp only [Act.put, List.setIfInBounds_toArray, List.set_cons_zero, List.set_cons_succ]
      refine wpAnyH_take (i := 4) (oi := ⟨some 27, .load 97 (.tmp 7), _, _, _, none⟩) (v := .agg (uxc ux0).toArray) rfl (by kernel_rfl) (by kernel_rfl) (by kernel_rfl) (fun _ _ _ h => h) (yieldsIf_loadG usR (by rfl) wr.heap.size 0 _ rfl rfl (y := ux0) trivial (fun W hS => hS.range 0 (fun j _ => by rw [Nat.zero_add]; rfl)) Tryz.underlying97 rfl) hHeld ?_
      try simp only [Act.put, List.setIfInBounds_toArray, List.set_cons_zero, List.set_cons_succ]
      refine wpAnyH_ready (rs := [3, 5]) (by kernel_rfl) (by simp) ?_
      refine AllReadyH.cons (o := ⟨some 26, .load 59 (.tmp 25), _, _, _, none⟩) rfl (fun K hK => ?_) (AllReadyH.cons (o := ⟨some 28, .buildSlice 59 1 #[(0, .tmp 27)], _, _, _, none⟩) rfl (fun K hK => ?_) AllReadyH.nil)
      · refine step_ofR (by rfl) ?_
        go_simp
        refine hK.out _ _ (hHeld) (fun hHeld => ?_)
        clear hK K
        try simp only [Act.put, List.setIfInBounds_toArray, List.set_cons_zero, List.set_cons_succ]
        refine wpAnyH_ready (rs := [5]) (by kernel_rfl) (by simp) ?_
        refine AllReadyH.cons (o := ⟨some 28, .buildSlice 59 1 #[(0, .tmp 27)], _, _, _, none⟩) rfl (fun K hK => ?_) AllReadyH.nil
        refine step_ofR (by rfl) ?_
        refine wp_oneG usR (.tmp 27) rfl (y1 := ux0) trivial rfl ?_
        refine hK.out _ _ (hHeld.alloc _) (fun hHeld => ?_)
        clear hK K
        try simp only [Act.put, List.setIfInBounds_toArray, List.set_cons_zero, List.set_cons_succ]
        refine wpAnyH_ready (rs := [6]) (by kernel_rfl) (by simp) ?_
        refine AllReadyH.cons (o := ⟨some 29, .call { callee := .builtin .append, args := #[.tmp 26, .tmp 28], argTypes := #[59, 59] }, _, _, _, none⟩) rfl (fun K hK => ?_) AllReadyH.nil
        refine step_ofR (by rfl) ?_
        refine wp_appG usR (.tmp 26) (.tmp 28) rfl rfl hO1 rfl hR1 hln hBB ?_
        intro a' c' W2 hO2 hg2 hx2
        refine hK.out _ _ (hHeld.grown hg2 (fun e => by have := (hO0.lt e).2; omega)) (fun hHeld => ?_)
        clear hK K
        try simp only [Act.put, List.setIfInBounds_toArray, List.set_cons_zero, List.set_cons_succ]
        have hf2 := (hD0.keep hB1).app hg2 (T := usR.T) (fun g e => hO1.typed g e) (by decide) (by decide) (by decide) k_User
        have hc2 := hf2.xb.cell (j := off) (v := .slice a ys.length c) (by simp [HOF.out])
        have hf3 := hf2.xb.free off
        refine wpAnyH_take (i := 7) (oi := ⟨some 30, .nilCheck (.tmp 23), _, _, _, none⟩) (v := ?_) rfl (by kernel_rfl) (by kernel_rfl) (by kernel_rfl) (fun _ _ _ h => h) (Or.inl ⟨by rfl, ?_⟩) hHeld ?_
        rotate_left
        · intro W _; go_simp; try with_reducible rfl
        try simp only [Act.put, List.setIfInBounds_toArray, List.set_cons_zero, List.set_cons_succ]
        refine wpAnyH_ready (rs := [8]) (by kernel_rfl) (by simp) ?_
        refine AllReadyH.cons (o := ⟨none, .store 59 (.tmp 30) (.tmp 29), _, _, _, none⟩) rfl (fun K hK => ?_) AllReadyH.nil
        refine step_ofR (by rfl) ?_
        go_simp
        refine hK.out _ _ (hHeld.setOther _ _ (by simp; omega)) (fun hHeld => ?_)
        clear hK K
        try simp only [Act.put, List.setIfInBounds_toArray, List.set_cons_zero, List.set_cons_succ]
        refine wpAnyH_done (by kernel_rfl) ?_ _
        obtain ⟨hD3, hO3, hS3, hK3⟩ := list_grow usR hD0 hO0 hS0 hB1 hO2 hg2 (by decide) (by decide) (by decide) k_User
        have hc3 := hD3.xb.cell (j := off) (v := .slice a' (ys.length + 1) c') (by simp [HOF.out])
        obtain ⟨g, cur, rfl, hBg, _, hbg, hcur, hz, hput⟩ := hO3.last
        clear hO1 hO2 hf2 hx2 hc2 hf3 hck0 hck1 hHeld hB1 hR1 hO0 hS0 hg2
        go_wp2_with fail
        have hgb : g ≠ b := fun e => by subst e; exact hbg.noT (T := 107) (by decide) _ _ hD3.cb.at_
        have hgr : g ≠ r := fun e => by subst e; obtain ⟨_, _, _, k1, _⟩ := hD3.rd; exact hbg.noT (T := 150) (by decide) _ _ k1.at_
        have hDg := hD3.other hbg (by decide) hgb hgr
        have hHM := HM.out.1
        generalize hW3 : W2.setCell ⟨X, off, none⟩ (.slice (some ⟨g, 0, none⟩) (ys.length + 1) c') = W3 at *
        refine (user_dec A a0 n0 c0 l0 b r g W3.heap.size 97 W3 l' cur hDg (ys.length * 2) hcur (by have h1 := hz 1 (by decide); exact h1) (by decide)).mono ?_
        rintro e w4 ⟨err, he, hN, hs4⟩
        have hsw := hs4.weak (K' := fun k => k = r ∨ k = X) hD3.le (fun i h e => e.imp id (fun e => by omega))
        rcases hN with ⟨rfl, _, l2, hg4, v, rfl, hv, hD4, hO4⟩ | ⟨h0, hg4⟩
        rotate_left
        · obtain ⟨h1, _⟩ | ⟨_, rfl⟩ := he
          · exact absurd h1 h0
          exact ⟨rfl, err, Abt.no h0, .inr ⟨h0, by rw [HG.out]; exact manyG_stop (k := ys.length + 1) (by rw [manyG, hHM, Option.bind_some]; simp only []; rw [hg4]; rfl) n (by omega)⟩, hS3.trans hsw⟩
        obtain ⟨_, rfl⟩ | ⟨h0, _⟩ := he
        rotate_left
        · exact absurd rfl h0
        have hput' := hput w4 v trivial
        obtain ⟨hD5, hO5, hS5, hK5⟩ := list_fill usR hD3 hbg hBg hS3 hs4 hD4 hput' k_User
        have hOW := fun y hy => Ux.own_keep (HOW.out y hy) ((hK3 _ (by decide) k_Version).trans (hK5 _ (by decide) (by decide)))
        have hOV := Ux.own_lower hO4 hD3.le
        have HM2 : Hid (manyG gU (ys.length + 1) l1 = some ((ys ++ [v]).map Ux.cl, l2) ∧ (ys ++ [v]).length = ys.length + 1) := Lib.hid ⟨by rw [manyG, hHM, Option.bind_some]; simp only []; rw [hg4]; simp, by simp⟩
        have HO5 := Lib.hid hO5
        have HS5 := Lib.hid hS5
        clear hO5 hS5 hK5 hO3 hS3 hK3 hD3 hDg hD4 hs4 hsw hput hput' hHM hg4 hz hcur hbg
        go_wp2_with fail
        go_roundw
        case rel => exact ⟨ys.length + 1, some ⟨g, 0, none⟩, c', ys ++ [v], l2, by omega, by go_num, HM2, hD5, HO5, HS5, Lib.hid (fun y hy => by rcases List.mem_append.1 hy with h | h; exact hOW y h; simp only [List.mem_singleton] at h; subst h; exact hOV)⟩
        case measure => simp [intOf]; omega
      · refine step_ofR (by rfl) ?_
        refine wp_oneG usR (.tmp 27) rfl (y1 := ux0) trivial rfl ?_
        refine hK.out _ _ (hHeld.alloc _) (fun hHeld => ?_)
        clear hK K
        try simp only [Act.put, List.setIfInBounds_toArray, List.set_cons_zero, List.set_cons_succ]
        refine wpAnyH_ready (rs := [3]) (by kernel_rfl) (by simp) ?_
        refine AllReadyH.cons (o := ⟨some 26, .load 59 (.tmp 25), _, _, _, none⟩) rfl (fun K hK => ?_) AllReadyH.nil
        refine step_ofR (by rfl) ?_
        go_simp
        refine hK.out _ _ (hHeld) (fun hHeld => ?_)
        clear hK K
        try simp only [Act.put, List.setIfInBounds_toArray, List.set_cons_zero, List.set_cons_succ]
        refine wpAnyH_ready (rs := [6]) (by kernel_rfl) (by simp) ?_
        refine AllReadyH.cons (o := ⟨some 29, .call { callee := .builtin .append, args := #[.tmp 26, .tmp 28], argTypes := #[59, 59] }, _, _, _, none⟩) rfl (fun K hK => ?_) AllReadyH.nil
        refine step_ofR (by rfl) ?_
        refine wp_appG usR (.tmp 26) (.tmp 28) rfl rfl hO1 rfl hR1 hln hBB ?_
        intro a' c' W2 hO2 hg2 hx2
        refine hK.out _ _ (hHeld.grown hg2 (fun e => by have := (hO0.lt e).2; omega)) (fun hHeld => ?_)
        clear hK K
        try simp only [Act.put, List.setIfInBounds_toArray, List.set_cons_zero, List.set_cons_succ]
        have hf2 := (hD0.keep hB1).app hg2 (T := usR.T) (fun g e => hO1.typed g e) (by decide) (by decide) (by decide) k_User
        have hc2 := hf2.xb.cell (j := off) (v := .slice a ys.length c) (by simp [HOF.out])
        have hf3 := hf2.xb.free off
        refine wpAnyH_take (i := 7) (oi := ⟨some 30, .nilCheck (.tmp 23), _, _, _, none⟩) (v := ?_) rfl (by kernel_rfl) (by kernel_rfl) (by kernel_rfl) (fun _ _ _ h => h) (Or.inl ⟨by rfl, ?_⟩) hHeld ?_
        rotate_left
        · intro W _; go_simp; try with_reducible rfl
        try simp only [Act.put, List.setIfInBounds_toArray, List.set_cons_zero, List.set_cons_succ]
        refine wpAnyH_ready (rs := [8]) (by kernel_rfl) (by simp) ?_
        refine AllReadyH.cons (o := ⟨none, .store 59 (.tmp 30) (.tmp 29), _, _, _, none⟩) rfl (fun K hK => ?_) AllReadyH.nil
        refine step_ofR (by rfl) ?_
        go_simp
        refine hK.out _ _ (hHeld.setOther _ _ (by simp; omega)) (fun hHeld => ?_)
        clear hK K
        try simp only [Act.put, List.setIfInBounds_toArray, List.set_cons_zero, List.set_cons_succ]
        refine wpAnyH_done (by kernel_rfl) ?_ _
        obtain ⟨hD3, hO3, hS3, hK3⟩ := list_grow usR hD0 hO0 hS0 hB1 hO2 hg2 (by decide) (by decide) (by decide) k_User
        have hc3 := hD3.xb.cell (j := off) (v := .slice a' (ys.length + 1) c') (by simp [HOF.out])
        obtain ⟨g, cur, rfl, hBg, _, hbg, hcur, hz, hput⟩ := hO3.last
        clear hO1 hO2 hf2 hx2 hc2 hf3 hck0 hck1 hHeld hB1 hR1 hO0 hS0 hg2
        go_wp2_with fail
        have hgb : g ≠ b := fun e => by subst e; exact hbg.noT (T := 107) (by decide) _ _ hD3.cb.at_
        have hgr : g ≠ r := fun e => by subst e; obtain ⟨_, _, _, k1, _⟩ := hD3.rd; exact hbg.noT (T := 150) (by decide) _ _ k1.at_
        have hDg := hD3.other hbg (by decide) hgb hgr
        have hHM := HM.out.1
        generalize hW3 : W2.setCell ⟨X, off, none⟩ (.slice (some ⟨g, 0, none⟩) (ys.length + 1) c') = W3 at *
        refine (user_dec A a0 n0 c0 l0 b r g W3.heap.size 97 W3 l' cur hDg (ys.length * 2) hcur (by have h1 := hz 1 (by decide); exact h1) (by decide)).mono ?_
        rintro e w4 ⟨err, he, hN, hs4⟩
        have hsw := hs4.weak (K' := fun k => k = r ∨ k = X) hD3.le (fun i h e => e.imp id (fun e => by omega))
        rcases hN with ⟨rfl, _, l2, hg4, v, rfl, hv, hD4, hO4⟩ | ⟨h0, hg4⟩
        rotate_left
        · obtain ⟨h1, _⟩ | ⟨_, rfl⟩ := he
          · exact absurd h1 h0
          exact ⟨rfl, err, Abt.no h0, .inr ⟨h0, by rw [HG.out]; exact manyG_stop (k := ys.length + 1) (by rw [manyG, hHM, Option.bind_some]; simp only []; rw [hg4]; rfl) n (by omega)⟩, hS3.trans hsw⟩
        obtain ⟨_, rfl⟩ | ⟨h0, _⟩ := he
        rotate_left
        · exact absurd rfl h0
        have hput' := hput w4 v trivial
        obtain ⟨hD5, hO5, hS5, hK5⟩ := list_fill usR hD3 hbg hBg hS3 hs4 hD4 hput' k_User
        have hOW := fun y hy => Ux.own_keep (HOW.out y hy) ((hK3 _ (by decide) k_Version).trans (hK5 _ (by decide) (by decide)))
        have hOV := Ux.own_lower hO4 hD3.le
        have HM2 : Hid (manyG gU (ys.length + 1) l1 = some ((ys ++ [v]).map Ux.cl, l2) ∧ (ys ++ [v]).length = ys.length + 1) := Lib.hid ⟨by rw [manyG, hHM, Option.bind_some]; simp only []; rw [hg4]; simp, by simp⟩
        have HO5 := Lib.hid hO5
        have HS5 := Lib.hid hS5
        clear hO5 hS5 hK5 hO3 hS3 hK3 hD3 hDg hD4 hs4 hsw hput hput' hHM hg4 hz hcur hbg
        go_wp2_with fail
        go_roundw
        case rel => exact ⟨ys.length + 1, some ⟨g, 0, none⟩, c', ys ++ [v], l2, by omega, by go_num, HM2, hD5, HO5, HS5, Lib.hid (fun y hy => by rcases List.mem_append.1 hy with h | h; exact hOW y h; simp only [List.mem_singleton] at h; subst h; exact hOV)⟩
        case measure => simp [intOf]; omega
    · have hkn' : ys.length = n := by omega
      subst hkn'
      have hki : ¬ (ys.length : Int) < (ys.length : Int) := by omega
      go_wp2_with fail
      go_end0
      exact ⟨0, Abt.ok, .inl ⟨rfl, _, l', by rw [HG.out]; exact HM.out.1, ys, rfl, fun _ _ => trivial, HOW.out, a, c, hDk, HO.out⟩, HS.out⟩

end Go.Proofs.YtoclahcibilbhaaGreat
