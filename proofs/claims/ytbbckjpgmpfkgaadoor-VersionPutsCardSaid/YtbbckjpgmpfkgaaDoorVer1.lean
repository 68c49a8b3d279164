/-
  The walks of package version: valid, newest, refusal, Check.
-/
import Derived.Test.YtbbckjpgmpfkgaaDoorVer0
namespace Go.Proofs.YtbbckjpgmpfkgaaDoor
open Go.RowKit
set_option maxRecDepth 100000

def mayB (v : Vn) : Bool := decide (1 ≤ v.ep) && decide (v.ep ≤ 200) && (if v.kd = 1 ∨ v.kd = 2 then decide (1 ≤ (v.key.size : Int)) && decide ((v.key.size : Int) ≤ 64) else decide (v.kd = 3) && v.key.toList.isEmpty)
def refI (p v : Vn) : Int := if mayB v = false ∨ v.ep < p.ep then 50 else if p.kd = 1 ∨ p.kd = 2 then (if v.kd = 1 then 51 else 0) else if v.kd = 1 then 0 else 52
def prevV (l : List Vn) (i : Nat) : Vn := if i = 0 then vn0 else l.getD (i - 1) vn0
def stepB (l : List Vn) (i : Nat) : Bool := refI (prevV l i) (l.getD i vn0) == 0
def allB (l : List Vn) (k : Nat) : Bool := (List.range k).all (stepB l)
def isB (l : List Vn) : Bool := decide (l.length ≤ 16) && allB l l.length
def chkI (l : List Vn) : Int := if isB l then 0 else 50
theorem allB_succ (l : List Vn) (k : Nat) : allB l (k + 1) = (allB l k && stepB l k) := by simp [allB, List.range_succ]

set_option maxRecDepth 100000 in
theorem valid_any (w : World) (v : Vn) : Calls Tryd.prog 113 #[.agg (vc v).toArray] w fun e w' => e = .returned (.bool (mayB v)) ∧ Below w.heap.size w w' := by
  have hS := VAt.start w v
  have hc0 := hS.blk.v0
  have hc1 := hS.blk.v1
  have hc2 := hS.blk.v2
  have hB := hS.bel
  have hz := Lib.hid (show mayB v = (decide (1 ≤ v.ep) && decide (v.ep ≤ 200) && (if v.kd = 1 ∨ v.kd = 2 then decide (1 ≤ (v.key.size : Int)) && decide ((v.key.size : Int) ≤ 64) else decide (v.kd = 3) && v.key.toList.isEmpty)) from rfl)
  clear hS
  generalize mayB v = r at *
  generalize (vc v).toArray = cs at *
  generalize v.ep = ep at *
  generalize v.kd = kd at *
  generalize v.key = key at *
  go_enter Tryd.func113, Tryd.ntmps113
  go_wp2
  all_goals go_ret
  all_goals refine ⟨?_, hB⟩
  all_goals rw [hz.out]
  all_goals clear hz hB hc0 hc1 hc2
  all_goals try (simp_all; done)
  all_goals try (simp_all; omega)
  all_goals (simp_all)

set_option maxRecDepth 100000 in
theorem newest_any (w : World) (a : Option Addr) (n c : Nat) (l : List Vn) (hr : RdV w a n c l) : Calls Tryd.prog 80 #[.slice a n c] w fun e w' => e = .returned (.agg (vc (prevV l n)).toArray) ∧ Below w.heap.size w w' := by
  have hl := Lib.hid hr.len
  by_cases h0 : n = 0
  · subst h0
    rw [show prevV l 0 = vn0 from rfl]
    have HB := Lib.hid vc_built
    go_enter Tryd.func80, Tryd.ntmps80
    go_wp2_with (first | ((with_reducible refine wpList_allocV (o := ⟨some 2, _, _, _, _, _⟩) ?_ ?_ ?_); rfl; rfl; intro w1 hr1 hg1 hz1) | ((with_reducible refine wpList_buildI (dst := some 6) HB.out ?_ ?_); rfl) | ((with_reducible refine wpList_storeV (o := ⟨none, _, _, _, _, _⟩) ?_ (.tmp 2) (.tmp 6) ?_ vn0 ?_ ?_ hr1 ?_); rfl; rfl; rfl; rfl; intro w2 hr2 hg2 hz2))
    refine bodyPost_V hr2 rfl rfl rfl ⟨rfl, ?_⟩
    exact ((Below.refl _ w).grown hg1 (Nat.le_refl _) (fun k e => by cases e)).grown hg2 (by omega) (fun k e => by cases e; omega)
  · obtain ⟨b, off, rfl, hb, hel⟩ := RdV.elems hr (by omega)
    have hc := hr.cap
    have hm := hr.max
    have hm2 : n ≤ 9223372036854775807 := by unfold maxLen at hm; omega
    have hx := hel (n - 1) (by omega)
    rw [show prevV l n = l.getD (n - 1) vn0 by rw [prevV, if_neg h0]]
    generalize l.getD (n - 1) vn0 = x at *
    have hn1 : 0 < n := by omega
    have hsub : IntKind.i64.wrap ((n : Int) - 1) = ((n - 1 : Nat) : Int) := by rw [IntWalk.i64_in _ (by omega)]; omega
    have hsub2 : (n : Int) - 1 = ((n - 1 : Nat) : Int) := by omega
    have hlt : n - 1 < n := by omega
    have hgt : ((n : Int) == 0) = false := by simp; omega
    clear hel h0
    go_enter Tryd.func80, Tryd.ntmps80
    go_wp2_with (first | ((with_reducible refine wpList_allocV (o := ⟨some 2, _, _, _, _, _⟩) ?_ ?_ ?_); rfl; rfl; intro w1 hr1 hg1 hz1; have hx1 := range_kept hx hg1 (by simp)) | ((with_reducible refine wpList_loadV (o := ⟨some 12, _, _, _, _, _⟩) ?_ b (off + (n - 1) * 3) (.tmp 11) ?_ ?_ hx1 ?_); rfl; rfl; rfl) | ((with_reducible refine wpList_storeV (o := ⟨none, _, _, _, _, _⟩) ?_ (.tmp 2) (.tmp 12) ?_ x ?_ ?_ hr1 ?_); rfl; rfl; rfl; rfl; intro w2 hr2 hg2 hz2))
    refine bodyPost_V hr2 rfl rfl rfl ⟨rfl, ?_⟩
    exact ((Below.refl _ w).grown hg1 (Nat.le_refl _) (fun k e => by cases e)).grown hg2 (by omega) (fun k e => by cases e; omega)

set_option maxRecDepth 100000 in
theorem refusal_any (w : World) (p v : Vn) : Calls Tryd.prog 79 #[.agg (vc p).toArray, .agg (vc v).toArray] w fun e w' => e = .returned (.int .i64 (refI p v)) ∧ Below w.heap.size w w' := by
  have hS1 := VAt.start w p
  have hS2 := VAt.start (w.alloc (.cells (vc p).toArray 87)) v
  have hb1 := hS1.blk.below hS2.bel
  have hb2 := hS2.blk
  have hB := Bt hS1.bel hS2.bel
  rw [show (w.alloc (.cells (vc p).toArray 87)).heap.size = w.heap.size + 1 by simp] at hb2
  have hz := Lib.hid (show refI p v = if mayB v = false ∨ v.ep < p.ep then 50 else if p.kd = 1 ∨ p.kd = 2 then (if v.kd = 1 then 51 else 0) else if v.kd = 1 then 0 else 52 from rfl)
  have HV := Lib.hid (fun W : World => valid_any W v)
  have HP : Hid (∀ W, Blk W w.heap.size 87 (vc p) → W.cell? ⟨w.heap.size, 0, none⟩ = some (.int .i64 p.ep) ∧ W.cell? ⟨w.heap.size, 1, none⟩ = some (.int .i64 p.kd)) := Lib.hid (fun W h => ⟨h.v0, h.v1⟩)
  have HX : Hid (∀ W, Blk W (w.heap.size + 1) 87 (vc v) → W.cell? ⟨w.heap.size + 1, 0, none⟩ = some (.int .i64 v.ep) ∧ W.cell? ⟨w.heap.size + 1, 1, none⟩ = some (.int .i64 v.kd) ∧ W.rangeAt (w.heap.size + 1) 0 (vc v)) := Lib.hid (fun W h => ⟨h.v0, h.v1, h.vr⟩)
  obtain ⟨k0, k1, k2⟩ := HX.out _ hb2
  obtain ⟨hsv, HSV⟩ : ∃ c, c = (vc v).toArray := ⟨_, rfl⟩
  clear hS1 hS2
  generalize refI p v = r at *
  generalize mayB v = m at *
  go_enter Tryd.func79, Tryd.ntmps79
  go_wp2_with ((with_reducible refine wpList_loadV (o := ⟨some 5, _, _, _, _, _⟩) ?_ (w.heap.size + 1) 0 (.tmp 3) ?_ ?_ k2 ?_); rfl; rfl; rfl)
  refine (HV.out _).mono ?_
  rintro e w1 ⟨rfl, hB1⟩
  have hBB := Bt hB hB1
  obtain ⟨k0, k1, k2⟩ := HX.out _ (hb2.below hB1)
  obtain ⟨p0, p1⟩ := HP.out _ (hb1.below hB1)
  clear hb1 hb2 HP HX HV hB hB1 k2
  generalize p.ep = pe at *
  generalize p.kd = pk at *
  generalize v.ep = ve at *
  generalize v.kd = vk at *
  cases m
  all_goals go_wp2
  all_goals go_ret
  all_goals refine ⟨?_, hBB⟩
  all_goals rw [hz.out]
  all_goals clear hz hBB k0 k1 p0 p1
  all_goals try (simp_all; done)
  all_goals try (simp_all; omega)

theorem prevV_take (l : List Vn) (k : Nat) (_h : k ≤ l.length) : prevV (l.take k) k = prevV l k := by
  unfold prevV
  split
  · rfl
  · rw [List.getD_eq_getElem?_getD, List.getD_eq_getElem?_getD, List.getElem?_take, if_pos (by omega)]
theorem allB_le {l : List Vn} {k m : Nat} (h : allB l m = true) (hk : k ≤ m) : allB l k = true := by
  simp only [allB, List.all_eq_true, List.mem_range] at h ⊢
  exact fun i hi => h i (by omega)
theorem isB_no {l : List Vn} {k : Nat} (hk : k < l.length) (h : stepB l k = false) : isB l = false := by
  cases h2 : allB l l.length with
  | false => simp [isB, h2]
  | true =>
    have h3 := allB_le h2 (show k + 1 ≤ l.length by omega)
    rw [allB_succ, h] at h3
    simp at h3

set_option maxRecDepth 100000 in
set_option maxHeartbeats 1000000 in
theorem check_any (w : World) (a : Option Addr) (n c : Nat) (l : List Vn) (hr : RdV w a n c l) : Calls Tryd.prog 47 #[.slice a n c] w fun e w' => e = .returned (.int .i64 (chkI l)) ∧ Below w.heap.size w w' := by
  have hlen := Lib.hid hr.len
  by_cases h16 : n ≤ 16
  · have hn : ¬ (16 : Int) < (n : Int) := by omega
    have hno : Hid (∀ k, k < n → stepB l k = false → chkI l = 50) := Lib.hid (fun k hk h => by rw [chkI, isB_no (by rw [hlen.out]; exact hk) h]; rfl)
    have hyes : Hid (allB l n = true → chkI l = 0) := Lib.hid (fun h => by rw [chkI, isB, hlen.out, h]; simp [h16])
    clear h16
    by_cases h0 : n = 0
    · subst h0
      have HC : Hid (chkI l = 0) := Lib.hid (hyes.out rfl)
      have hB0 := Below.refl w.heap.size w
      go_enter Tryd.func47, Tryd.ntmps47
      go_wp2_with fail
      go_loopw [10] (fun i wr => i = .int .i64 0 ∧ wr = w) (fun i _ => 0)
      case atStart => exact ⟨rfl, rfl⟩
      case round =>
        obtain ⟨rfl, rfl⟩ := hrel
        go_wp2_with fail
        go_ret
        exact ⟨by rw [HC.out]; rfl, hB0⟩
    · obtain ⟨b, off, rfl, hlt, hel⟩ := RdV.elems hr (by omega)
      have hcap := hr.cap
      have hm := hr.max
      have HEL := Lib.hid hel
      have HR := Lib.hid hr
      have hn63 : n ≤ 9223372036854775807 := by unfold maxLen at hm; omega
      clear hel h0
      go_enter Tryd.func47, Tryd.ntmps47
      go_wp2_with fail
      go_loopw [10] (fun i wr => ∃ k : Nat, k ≤ n ∧ i = .int .i64 (k : Int) ∧ Hid (allB l k = true) ∧ Below w.heap.size w wr) (fun i _ => n - (intOf i).toNat)
      case atStart => exact ⟨0, by omega, rfl, Lib.hid rfl, Below.refl _ w⟩
      case round =>
        obtain ⟨k, hk, rfl, HA, hB⟩ := hrel
        by_cases hlt2 : k < n
        · have hkl : (k : Int) < (n : Int) := by omega
          have hx := range_below hB (HEL.out k hlt2)
          have HX : Hid (l.getD k vn0 = l.getD k vn0) := Lib.hid rfl
          have hkc : k ≤ c := by omega
          have NW0 := Lib.hid (fun (W : World) (h : Below w.heap.size w W) => newest_any W (some ⟨b, off, none⟩) k c (l.take k) ((HR.out.below h).take k hk))
          rw [prevV_take l k (by rw [hlen.out]; exact hk)] at NW0
          have RF := Lib.hid (fun (W : World) => refusal_any W (prevV l k) (l.getD k vn0))
          have HST : Hid (stepB l k = (refI (prevV l k) (l.getD k vn0) == 0)) := Lib.hid rfl
          have hbs := hB.size
          clear HX
          generalize l.getD k vn0 = x at *
          generalize refI (prevV l k) x = r at *
          go_wp2_with (first | ((with_reducible refine wpList_loadV (o := ⟨some 14, _, _, _, _, _⟩) ?_ b (off + k * 3) (.tmp 13) ?_ ?_ hx ?_); rfl; rfl; rfl) | ((with_reducible refine wpList_allocV (o := ⟨some 4, _, _, _, _, _⟩) ?_ ?_ ?_); rfl; rfl; intro w4 hr4 hg4 hz4) | ((with_reducible refine wpList_storeV (o := ⟨none, _, _, _, _, _⟩) ?_ (.tmp 4) (.tmp 14) ?_ x ?_ ?_ hr4 ?_); rfl; rfl; rfl; rfl; intro w5 hr5 hg5 hz5))
          have hB5 : Below wr.heap.size wr w5 := ((Below.refl _ wr).grown hg4 (Nat.le_refl _) (fun k e => by cases e)).grown hg5 (by omega) (fun k e => by cases e; omega)
          have hB05 := Bt hB hB5
          have NW := Lib.hid (fun (W : World) (h : Below w5.heap.size w5 W) => NW0.out W (Bt hB05 h))
          generalize hB4 : wr.heap.size = B4 at *
          by_cases hr0 : r = 0
          · subst hr0
            -- REGION check 6
            refine wp_region_held_drew (S := fun W => Below w5.heap.size w5 W) (by kernel_rfl) ((Below.refl _ w5).drew) (fun hHeld => ?_)
            refine wpAnyH_take (i := 0) (oi := ⟨some 15, .move (.tmp 0), _, _, _, none⟩) (v := ?_) rfl (by kernel_rfl) (by kernel_rfl) (by kernel_rfl) (fun _ _ _ h => h) (Or.inl ⟨by rfl, ?_⟩) hHeld ?_
            rotate_left
            · intro W _; go_simp; try with_reducible rfl
            try simp only [Act.put, List.setIfInBounds_toArray, List.set_cons_zero, List.set_cons_succ]
            refine wpAnyH_take (i := 1) (oi := ⟨some 16, .move (.tmp 3), _, _, _, none⟩) (v := ?_) rfl (by kernel_rfl) (by kernel_rfl) (by kernel_rfl) (fun _ _ _ h => h) (Or.inl ⟨by rfl, ?_⟩) hHeld ?_
            rotate_left
            · intro W _; go_simp; try with_reducible rfl
            try simp only [Act.put, List.setIfInBounds_toArray, List.set_cons_zero, List.set_cons_succ]
            refine wpAnyH_take (i := 2) (oi := ⟨some 17, .slice 48 (.tmp 15) none (some (.tmp 16)) none, _, _, _, none⟩) (v := ?_) rfl (by kernel_rfl) (by kernel_rfl) (by kernel_rfl) (fun _ _ _ h => h) (Or.inl ⟨by rfl, ?_⟩) hHeld ?_
            rotate_left
            · intro W _; go_simp; try with_reducible rfl
            try simp only [Act.put, List.setIfInBounds_toArray, List.set_cons_zero, List.set_cons_succ]
            refine wpAnyH_take (i := 4) (oi := ⟨some 19, .load 87 (.tmp 4), _, _, _, none⟩) (v := .agg (vc x).toArray) rfl (by kernel_rfl) (by kernel_rfl) (by kernel_rfl) (fun _ _ _ h => h) (yieldsIf_loadV (by rfl) B4 0 _ rfl rfl (fun W hS => (hr5.below hS).vr)) hHeld ?_
            try simp only [Act.put, List.setIfInBounds_toArray, List.set_cons_zero, List.set_cons_succ]
            refine wpAnyH_ready (rs := [3]) (by kernel_rfl) (by simp) ?_
            refine AllReadyH.cons (o := ⟨some 18, .call { callee := .value (.func 80), args := #[.tmp 17], argTypes := #[48] }, _, _, _, none⟩) rfl (fun K hK => ?_) AllReadyH.nil
            refine step_ofR (by rfl) ?_
            go_simp
            refine (NW.out _ hHeld).mono ?_
            rintro x W1 ⟨rfl, hB1⟩
            refine hK.out _ _ (Bt hHeld hB1) (fun hHeld => ?_)
            clear hK K
            try simp only [Act.put, List.setIfInBounds_toArray, List.set_cons_zero, List.set_cons_succ]
            refine wpAnyH_ready (rs := [5]) (by kernel_rfl) (by simp) ?_
            refine AllReadyH.cons (o := ⟨some 20, .call { callee := .value (.func 79), args := #[.tmp 18, .tmp 19], argTypes := #[87, 87] }, _, _, _, none⟩) rfl (fun K hK => ?_) AllReadyH.nil
            refine step_ofR (by rfl) ?_
            go_simp
            refine (RF.out _).mono ?_
            rintro x W1 ⟨rfl, hB1⟩
            refine hK.out _ _ (Bt hHeld hB1) (fun hHeld => ?_)
            clear hK K
            try simp only [Act.put, List.setIfInBounds_toArray, List.set_cons_zero, List.set_cons_succ]
            refine wpAnyH_take (i := 6) (oi := ⟨some 21, .binOp .neq 30 (.tmp 20) (.const (.int .i64 0)) 30, _, _, _, none⟩) (v := ?_) rfl (by kernel_rfl) (by kernel_rfl) (by kernel_rfl) (fun _ _ _ h => h) (Or.inl ⟨by rfl, ?_⟩) hHeld ?_
            rotate_left
            · intro W _; go_simp; try with_reducible rfl
            try simp only [Act.put, List.setIfInBounds_toArray, List.set_cons_zero, List.set_cons_succ]
            refine wpAnyH_done (by kernel_rfl) ?_ _
            -- END check
            go_wp2_with fail
            go_roundw
            case rel => exact ⟨k + 1, by omega, by go_num, Lib.hid (by rw [allB_succ, HA.out, HST.out]; rfl), Bt hB05 hHeld⟩
            case measure => simp [intOf]; omega
          · have hr1 : (r != 0) = true := by simpa using hr0
            have HN := Lib.hid (hno.out k hlt2 (by rw [HST.out]; simpa using hr0))
            -- REGION check 12
            refine wp_region_held_drew (S := fun W => Below w5.heap.size w5 W) (by kernel_rfl) ((Below.refl _ w5).drew) (fun hHeld => ?_)
            refine wpAnyH_take (i := 0) (oi := ⟨some 15, .move (.tmp 0), _, _, _, none⟩) (v := ?_) rfl (by kernel_rfl) (by kernel_rfl) (by kernel_rfl) (fun _ _ _ h => h) (Or.inl ⟨by rfl, ?_⟩) hHeld ?_
            rotate_left
            · intro W _; go_simp; try with_reducible rfl
            try simp only [Act.put, List.setIfInBounds_toArray, List.set_cons_zero, List.set_cons_succ]
            refine wpAnyH_take (i := 1) (oi := ⟨some 16, .move (.tmp 3), _, _, _, none⟩) (v := ?_) rfl (by kernel_rfl) (by kernel_rfl) (by kernel_rfl) (fun _ _ _ h => h) (Or.inl ⟨by rfl, ?_⟩) hHeld ?_
            rotate_left
            · intro W _; go_simp; try with_reducible rfl
            try simp only [Act.put, List.setIfInBounds_toArray, List.set_cons_zero, List.set_cons_succ]
            refine wpAnyH_take (i := 2) (oi := ⟨some 17, .slice 48 (.tmp 15) none (some (.tmp 16)) none, _, _, _, none⟩) (v := ?_) rfl (by kernel_rfl) (by kernel_rfl) (by kernel_rfl) (fun _ _ _ h => h) (Or.inl ⟨by rfl, ?_⟩) hHeld ?_
            rotate_left
            · intro W _; go_simp; try with_reducible rfl
            try simp only [Act.put, List.setIfInBounds_toArray, List.set_cons_zero, List.set_cons_succ]
            refine wpAnyH_take (i := 4) (oi := ⟨some 19, .load 87 (.tmp 4), _, _, _, none⟩) (v := .agg (vc x).toArray) rfl (by kernel_rfl) (by kernel_rfl) (by kernel_rfl) (fun _ _ _ h => h) (yieldsIf_loadV (by rfl) B4 0 _ rfl rfl (fun W hS => (hr5.below hS).vr)) hHeld ?_
            try simp only [Act.put, List.setIfInBounds_toArray, List.set_cons_zero, List.set_cons_succ]
            refine wpAnyH_ready (rs := [3]) (by kernel_rfl) (by simp) ?_
            refine AllReadyH.cons (o := ⟨some 18, .call { callee := .value (.func 80), args := #[.tmp 17], argTypes := #[48] }, _, _, _, none⟩) rfl (fun K hK => ?_) AllReadyH.nil
            refine step_ofR (by rfl) ?_
            go_simp
            refine (NW.out _ hHeld).mono ?_
            rintro x W1 ⟨rfl, hB1⟩
            refine hK.out _ _ (Bt hHeld hB1) (fun hHeld => ?_)
            clear hK K
            try simp only [Act.put, List.setIfInBounds_toArray, List.set_cons_zero, List.set_cons_succ]
            refine wpAnyH_ready (rs := [5]) (by kernel_rfl) (by simp) ?_
            refine AllReadyH.cons (o := ⟨some 20, .call { callee := .value (.func 79), args := #[.tmp 18, .tmp 19], argTypes := #[87, 87] }, _, _, _, none⟩) rfl (fun K hK => ?_) AllReadyH.nil
            refine step_ofR (by rfl) ?_
            go_simp
            refine (RF.out _).mono ?_
            rintro x W1 ⟨rfl, hB1⟩
            refine hK.out _ _ (Bt hHeld hB1) (fun hHeld => ?_)
            clear hK K
            try simp only [Act.put, List.setIfInBounds_toArray, List.set_cons_zero, List.set_cons_succ]
            refine wpAnyH_take (i := 6) (oi := ⟨some 21, .binOp .neq 30 (.tmp 20) (.const (.int .i64 0)) 30, _, _, _, none⟩) (v := ?_) rfl (by kernel_rfl) (by kernel_rfl) (by kernel_rfl) (fun _ _ _ h => h) (Or.inl ⟨by rfl, ?_⟩) hHeld ?_
            rotate_left
            · intro W _; go_simp; try with_reducible rfl
            try simp only [Act.put, List.setIfInBounds_toArray, List.set_cons_zero, List.set_cons_succ]
            refine wpAnyH_done (by kernel_rfl) ?_ _
            -- END check
            go_wp2_with fail
            go_ret
            exact ⟨by rw [HN.out]; rfl, Bt hB05 hHeld⟩
        · obtain rfl : k = n := by omega
          have hkl : ¬ (k : Int) < (k : Int) := by omega
          go_wp2_with fail
          go_ret
          exact ⟨by rw [hyes.out HA.out]; rfl, hB⟩
  · have hn : (16 : Int) < (n : Int) := by omega
    have HC : Hid (chkI l = 50) := Lib.hid (by
      have : decide (l.length ≤ 16) = false := by rw [hlen.out]; simpa using h16
      rw [chkI, isB, this]; rfl)
    have hB0 := Below.refl w.heap.size w
    go_enter Tryd.func47, Tryd.ntmps47
    go_wp2_with fail
    go_ret
    exact ⟨by rw [HC.out]; rfl, hB0⟩
end Go.Proofs.YtbbckjpgmpfkgaaDoor
