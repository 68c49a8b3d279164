/-
  The document's answer, laid out: users, directories.
-/
import Derived.Test.YteeefehbfamfiaaWirS2
import Derived.Test.YteeefehbfamfiaaWirPD
namespace Go.Proofs.Yteeefehbfamfiaa
open Go.RowKit
set_option maxRecDepth 100000

theorem fold_ends {α : Type} {f : Lo → α → Lo} {o o2 : Lo} {l : List α} {k : Nat} (h1 : (l.take k).foldl f o = o2) (hf : ∀ x, f o2 x = o2) : l.foldl f o = o2 := by
  have e : l.foldl f o = (l.drop k).foldl f ((l.take k).foldl f o) := by rw [← List.foldl_append, List.take_append_drop]
  rw [e, h1]
  exact fold_stuck hf _
theorem loA_2 (o : Lo) : (loA [] 2 o).1 ≠ 0 := by
  unfold loA
  split
  · assumption
  · rw [if_pos (by decide)]; exact (by decide : (2 : Int) ≠ 0)
theorem loA_len (o : Lo) : (loA [] 2 o).2.length = o.2.length := by
  unfold loA
  split
  · rfl
  · rw [if_pos (by decide)]
theorem ver_cells {W : World} {a : Option Addr} {n c : Nat} {l : List Vn} (h : RdG verR W a n c l) (i : Nat) (hi : i < n) : ∃ b off, a = some ⟨b, off, none⟩ ∧ W.cell? ⟨b, off + i * 3, none⟩ = some (.int .i64 (l.getD i vn0).ep) ∧ W.cell? ⟨b, off + i * 3 + 1, none⟩ = some (.int .i64 (l.getD i vn0).kd) ∧ W.cell? ⟨b, off + i * 3 + 2, none⟩ = some (.string (l.getD i vn0).key) := by
  obtain ⟨b, off, h1, _, h3⟩ := h.elems (by omega)
  exact ⟨b, off, h1, vr_ep (h3 i hi), vr_kd (h3 i hi), vr_key (h3 i hi)⟩
theorem usr_cells {W : World} {a : Option Addr} {n c : Nat} {l : List Ux} (h : RdG usR W a n c l) (i : Nat) (hi : i < n) : ∃ b off, a = some ⟨b, off, none⟩ ∧ W.cell? ⟨b, off + i * 2, none⟩ = some (.string (l.getD i ux0).nm) ∧ W.cell? ⟨b, off + i * 2 + 1, none⟩ = some (.slice (l.getD i ux0).vsa (l.getD i ux0).vs.length (l.getD i ux0).vsc) := by
  obtain ⟨b, off, h1, _, h3⟩ := h.elems (by omega)
  have h4 := h3 i hi
  exact ⟨b, off, h1, range_cell h4 0 (v := .string (l.getD i ux0).nm) rfl, range_cell h4 1 (v := .slice (l.getD i ux0).vsa (l.getD i ux0).vs.length (l.getD i ux0).vsc) rfl⟩
theorem Rf.ecell {w : World} {g base : Nat} {o : Lo} (h : Rf w g base o) : w.cell? ⟨g, 1, none⟩ = some (.int .i64 o.1) := by
  obtain ⟨_, _, _, h1, _⟩ := h
  exact h1.cell rfl

set_option maxHeartbeats 4000000 in
theorem users_ref (w : World) (g base : Nat) (o : Lo) (hR : Rf w g base o) (a : Option Addr) (n c : Nat) (l : List Ux) (hr : Ev base w (fun W => RdG usR W a n c l ∧ ∀ u ∈ l, RdG verR W u.vsa u.vs.length u.vsc u.vs)) (ho : o.2.length ≤ 60000000000000) :
    Calls Try.prog 69 #[.pointer (some ⟨g, 0, none⟩), .slice a n c] w fun f w' => f = .returned (.tuple #[]) ∧ Rf w' g base (loL loU l o) ∧ Bk g base w w' := by
  have HN := Lib.hid hr.now.1.len
  have HR := Lib.hid hr
  have HO := Lib.hid ho
  have hcap := hr.now.1.cap
  clear hr ho
  go_enter Try.func69, Try.ntmps69
  go_wp2_with fail
  refine (many_ref w g base o hR n (by have := HO.out; omega)).mono ?_
  rintro e w1 ⟨hm, hB1⟩
  rcases hm with ⟨h4, rfl, hR1⟩ | ⟨h4, rfl, hR1⟩
  rotate_left
  · go_wp2_with fail
    apply bodyPost_ret
    exact results_none rfl _ _ _
    rfl
    exact ⟨rfl, by rw [loL_longA (by rw [HN.out]; exact h4)]; exact hR1, hB1⟩
  have HSH : Hid (loL loU l o = l.foldl (fun o x => loU x o) (loN n o)) := Lib.hid (by rw [loL_shortA (by rw [HN.out]; exact h4) (fun x o h => loU_stuck h), HN.out])
  have HQ1 : Hid ((loN n o).2.length ≤ 60000000000005) := Lib.hid (by have h1 := loN_len3 n o; have h2 := HO.out; omega)
  have H4 := Lib.hid h4
  generalize loN n o = o1 at *
  have HB1 := Lib.hid hB1
  clear hB1 hR h4
  go_wp2_with fail
  go_loopw [4] (fun i wr => ∃ (k : Nat) (ok : Lo), k ≤ n ∧ i = .int .i64 (k : Int) ∧ Hid ((l.take k).foldl (fun o x => loU x o) o1 = ok) ∧ Hid (ok.2.length ≤ o1.2.length + k * 268562442) ∧ Rf wr g base ok ∧ Hid (Bk g base w wr)) (fun i _ => n - (intOf i).toNat)
  case atStart => exact ⟨0, o1, by omega, rfl, Lib.hid rfl, Lib.hid (by omega), hR1, HB1⟩
  case round =>
    obtain ⟨k, ok, hk, rfl, HF, HQK, hRk, HB⟩ := hrel
    have hce := hRk.ecell
    by_cases hkn : k < n
    · have hki : (k : Int) < (n : Int) := by omega
      have hn5 : (n : Int) ≤ 4096 := by have := H4.out; omega
      by_cases h0 : ok.1 = 0
      · have h0i : ok.1 = (0 : Int) := h0
        obtain ⟨yb, yo, rfl, hcn, hcv⟩ := usr_cells (HR.out _ HB.out.below).1 k hkn
        have HKL : Hid (k < l.length) := Lib.hid (by rw [HN.out]; exact hkn)
        have HST := Lib.hid (fold_step (f := fun o x => loU x o) (o := o1) (x0 := ux0) HKL.out)
        have HV : Hid (∀ W, Below base wr W → RdG verR W (l.getD k ux0).vsa (l.getD k ux0).vs.length (l.getD k ux0).vsc (l.getD k ux0).vs) := Lib.hid (fun W hW => (HR.out _ (HB.out.below.trans hW)).2 _ (getD_mem HKL.out))
        have HYB : Hid (∀ W, Below base wr W → W.cell? ⟨yb, yo + k * 2 + 1, none⟩ = some (.slice (l.getD k ux0).vsa (l.getD k ux0).vs.length (l.getD k ux0).vsc)) := Lib.hid (fun W hW => by
          obtain ⟨b2, o2, e2, _, h2⟩ := usr_cells (HR.out _ (HB.out.below.trans hW)).1 k hkn
          cases e2; exact h2)
        have HQB : Hid (ok.2.length ≤ 62000000000000) := Lib.hid (by have h1 := HQK.out; have h2 := HQ1.out; have h3 : k * 268562442 ≤ 4096 * 268562442 := Nat.mul_le_mul_right _ (by omega); omega)
        have HLU : Hid ((loU (l.getD k ux0) ok).2.length ≤ o1.2.length + (k + 1) * 268562442) := Lib.hid (by have h1 := HQK.out; have h2 := loU_len3 (x := l.getD k ux0) trivial ok; rw [Nat.succ_mul]; exact Nat.le_trans h2 (by rw [← Nat.add_assoc]; exact Nat.add_le_add_right h1 _))
        clear hcv
        have HLO : Hid (loU (l.getD k ux0) ok = loL loV (l.getD k ux0).vs (loT (l.getD k ux0).nm ok)) := Lib.hid rfl
        generalize l.getD k ux0 = u at *
        go_wp2_with fail
        refine (s_ref wr g base ok hRk u.nm (by have := HQB.out; omega)).mono ?_
        rintro e w2 ⟨rfl, hR2, hB2⟩
        have hcv := HYB.out _ hB2.below
        have HV2 : Hid (∀ W, Below base w2 W → RdG verR W u.vsa u.vs.length u.vsc u.vs) := Lib.hid (fun W hW => HV.out W (hB2.below.trans hW))
        have HB2 := Lib.hid (HB.out.trans hB2)
        have HQ2 : Hid ((loT u.nm ok).2.length ≤ 62000000065541) := Lib.hid (by have h1 := HQB.out; have h2 := loT_len3 u.nm ok; omega)
        clear hB2 hRk HV HYB hce hcn
        generalize loT u.nm ok = ot at *
        go_wp2_with fail
        refine (many_ref w2 g base ot hR2 u.vs.length (by have := HQ2.out; omega)).mono ?_
        rintro e w3 ⟨hm, hB3⟩
        rcases hm with ⟨h4, rfl, hR3⟩ | ⟨h4, rfl, hR3⟩
        rotate_left
        · go_wp2_with fail
          apply bodyPost_ret
          exact results_none rfl _ _ _
          rfl
          refine ⟨rfl, ?_, HB2.out.trans hB3⟩
          rw [HSH.out, fold_ends (k := k + 1) (o2 := loA [] 2 ot) (by rw [HST.out, HF.out, HLO.out, loL_longA h4]) (fun x => loU_stuck (loA_2 _))]
          exact hR3
        have HSV : Hid (loU u ok = u.vs.foldl (fun o x => loV x o) (loN u.vs.length ot)) := Lib.hid (by rw [HLO.out, loL_shortA h4 (fun x o h => loV_stuck h)])
        have HQ3 : Hid ((loN u.vs.length ot).2.length ≤ 62000000065546) := Lib.hid (by have h1 := loN_len3 u.vs.length ot; have h2 := HQ2.out; omega)
        have H4v := Lib.hid h4
        have hcapv := (HV2.out _ hB3.below).cap
        have HV3 : Hid (∀ W, Below base w3 W → RdG verR W u.vsa u.vs.length u.vsc u.vs) := Lib.hid (fun W hW => HV2.out W (hB3.below.trans hW))
        have HB3 := Lib.hid (HB2.out.trans hB3)
        generalize loN u.vs.length ot = o3 at *
        clear hB3 hR2 h4 hcv HV2 HB2
        generalize hnv : u.vs.length = nv at *
        have HNV := Lib.hid hnv
        clear hnv
        go_wp2_with fail
        go_loopw [6] (fun i wr => ∃ (j : Nat) (oj : Lo), j ≤ nv ∧ i = .int .i64 (j : Int) ∧ Hid ((u.vs.take j).foldl (fun o x => loV x o) o3 = oj) ∧ Hid (oj.2.length ≤ o3.2.length + j * 65551) ∧ Rf wr g base oj ∧ Hid (Bk g base w3 wr)) (fun i _ => nv - (intOf i).toNat)
        case atStart => exact ⟨0, o3, by omega, rfl, Lib.hid rfl, Lib.hid (by omega), hR3, Lib.hid (Bk.refl _ _ _)⟩
        case round =>
          obtain ⟨j, oj, hj, rfl, HFj, HQJ, hRj, HBj⟩ := hrel
          by_cases hjn : j < nv
          · have hji : (j : Int) < (nv : Int) := by omega
            have hnv5 : (nv : Int) ≤ 4096 := by have := H4v.out; omega
            have HEL : Hid (∀ W, Below base w3 W → ∃ b off, u.vsa = some ⟨b, off, none⟩ ∧ W.cell? ⟨b, off + j * 3, none⟩ = some (.int .i64 (u.vs.getD j vn0).ep) ∧ W.cell? ⟨b, off + j * 3 + 1, none⟩ = some (.int .i64 (u.vs.getD j vn0).kd) ∧ W.cell? ⟨b, off + j * 3 + 2, none⟩ = some (.string (u.vs.getD j vn0).key)) := Lib.hid (fun W hW => ver_cells (HV3.out W hW) j hjn)
            obtain ⟨vb, vo, hva, e0, _, _⟩ := HEL.out _ HBj.out.below
            have HC1 : Hid (∀ W, Below base w3 W → W.cell? ⟨vb, vo + j * 3 + 1, none⟩ = some (.int .i64 (u.vs.getD j vn0).kd) ∧ W.cell? ⟨vb, vo + j * 3 + 2, none⟩ = some (.string (u.vs.getD j vn0).key)) := Lib.hid (fun W hW => by
              obtain ⟨b2, o2, e2, _, h2, h3⟩ := HEL.out W hW
              rw [hva] at e2; cases e2; exact ⟨h2, h3⟩)
            have HJL : Hid (j < u.vs.length) := Lib.hid (by rw [HNV.out]; exact hjn)
            have HSTj := Lib.hid (fold_step (f := fun o x => loV x o) (o := o3) (x0 := vn0) HJL.out)
            have HLj : Hid ((loV (u.vs.getD j vn0) oj).2.length ≤ o3.2.length + (j + 1) * 65551) := Lib.hid (by have h1 := HQJ.out; have h2 := loV_len3 (x := u.vs.getD j vn0) trivial oj; rw [Nat.succ_mul]; exact Nat.le_trans h2 (by rw [← Nat.add_assoc]; exact Nat.add_le_add_right h1 _))
            have HQb : Hid (oj.2.length ≤ 63000000000000) := Lib.hid (by have h1 := HQJ.out; have h2 := HQ3.out; have h3 : j * 65551 ≤ 4096 * 65551 := Nat.mul_le_mul_right _ (by omega); omega)
            have HVV : Hid (loV (u.vs.getD j vn0) oj = loT (u.vs.getD j vn0).key (loN (u.vs.getD j vn0).kd (loN (u.vs.getD j vn0).ep oj))) := Lib.hid rfl
            have HVA := Lib.hid hva
            clear HEL
            generalize u.vs.getD j vn0 = v at *
            rw [HVA.out]
            clear hva
            go_wp2_with fail
            refine (n_ref wr g base oj hRj v.ep (by have := HQb.out; omega)).mono ?_
            rintro e w4 ⟨rfl, hR4, hB4⟩
            have HB4 := Lib.hid (HBj.out.trans hB4)
            have e1 := (HC1.out _ HB4.out.below).1
            have HQ4 : Hid ((loN v.ep oj).2.length ≤ 63000000000005) := Lib.hid (by have h1 := loN_len3 v.ep oj; have h2 := HQb.out; omega)
            clear hB4 hRj e0
            go_wp2_with fail
            refine (n_ref w4 g base _ hR4 v.kd (by have := HQ4.out; omega)).mono ?_
            rintro e w5 ⟨rfl, hR5, hB5⟩
            have HB5 := Lib.hid (HB4.out.trans hB5)
            have e2 := (HC1.out _ HB5.out.below).2
            have HQ5 : Hid ((loN v.kd (loN v.ep oj)).2.length ≤ 63000000000010) := Lib.hid (by have h1 := loN_len3 v.kd (loN v.ep oj); have h2 := HQ4.out; omega)
            clear hB5 hR4 e1
            go_wp2_with fail
            refine (s_ref w5 g base _ hR5 v.key (by have := HQ5.out; omega)).mono ?_
            rintro e w6 ⟨rfl, hR6, hB6⟩
            rw [← HVV.out] at hR6
            have HF6 : Hid ((u.vs.take (j + 1)).foldl (fun o x => loV x o) o3 = loV v oj) := Lib.hid (by rw [HSTj.out, HFj.out])
            have HB6 := Lib.hid (HB5.out.trans hB6)
            clear hB6 hR5 e2
            go_wp2_with fail
            go_roundw
            case rel => exact ⟨j + 1, loV v oj, by omega, by go_num, HF6, HLj, hR6, HB6⟩
            case measure => simp [intOf]; omega
          · obtain rfl : j = nv := by omega
            have hji : ¬ (j : Int) < (j : Int) := by omega
            have hFj := HFj.out
            rw [List.take_of_length_le (by rw [HNV.out]; omega), ← HSV.out] at hFj
            subst hFj
            have HFk : Hid ((l.take (k + 1)).foldl (fun o x => loU x o) o1 = loU u ok) := Lib.hid (by rw [HST.out, HF.out])
            have HBk := Lib.hid (HB3.out.trans HBj.out)
            go_wp2_with fail
            go_roundw
            case rel => exact ⟨k + 1, loU u ok, by omega, by go_num, HFk, HLU, hRj, HBk⟩
            case measure => simp [intOf]; omega
      · have h0i : ¬ ok.1 = (0 : Int) := h0
        go_wp2_with fail
        go_end0
        exact ⟨rfl, by rw [HSH.out, fold_ends HF.out (fun x => loU_stuck h0)]; exact hRk, HB.out⟩
    · obtain rfl : k = n := by omega
      have hki : ¬ (k : Int) < (k : Int) := by omega
      go_wp2_with fail
      go_end0
      have hF := HF.out
      rw [List.take_of_length_le (by rw [HN.out]; omega)] at hF
      exact ⟨rfl, by rw [HSH.out, hF]; exact hRk, HB.out⟩
end Go.Proofs.Yteeefehbfamfiaa
