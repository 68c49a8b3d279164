/-
  Package head: valid, Bytes.
-/
import Derived.Test.YtoclahcibilbhaaDoorHedP
import Derived.Deep.RegionHeld3
namespace Go.Proofs.YtoclahcibilbhaaDoor
open Go.RowKit
set_option maxRecDepth 100000

theorem hvalid_any (w : World) (x : Hd) : Calls Tryd.prog 23 #[.agg (hdc x).toArray] w fun e w' => e = .returned (.bool (hvalid x)) ∧ Below w.heap.size w w' := by
  have hB0 : Below w.heap.size w (w.alloc (.cells (hdc x).toArray 25)) := (Below.refl _ w).alloc (Nat.le_refl _) _
  have hc := (Blk.new w 25 (hdc x)).cell (j := 0) (v := .int .i64 x.ep) rfl
  unfold hvalid
  by_cases h1 : 1 ≤ x.ep
  · go_enter Tryd.func23, Tryd.ntmps23
    go_wp2_with fail
    go_ret
    exact ⟨by simp [h1], hB0⟩
  · go_enter Tryd.func23, Tryd.ntmps23
    go_wp2_with fail
    go_ret
    exact ⟨by rw [decide_eq_false (show ¬ 1 ≤ x.ep by omega)]; rfl, hB0⟩

theorem hbytes_no (w : World) (x : Hd) (hx : x.ok) (hv : hvalid x = false) : Calls Tryd.prog 9 #[.agg (hdc x).toArray] w fun e w' => e = .returned (.tuple #[.slice none 0 0, .int .i64 80]) ∧ Below w.heap.size w w' := by
  have hb0 := Blk.new w 25 (hdc x)
  have hB0 : Below w.heap.size w (w.alloc (.cells (hdc x).toArray 25)) := (Below.refl _ w).alloc (Nat.le_refl _) _
  have IS : Hid ((Tryd.prog.info? 25).map (·.size) = some (hdc x).length) := Lib.hid (by rw [hdc_length hx]; exact info_head0)
  go_enter Tryd.func9, Tryd.ntmps9
  go_wp2_with (first | ((with_reducible refine wpList_loadB (o := ⟨some 6, _, _, _, _, _⟩) ?_ 25 (.tmp 1) ?_ ?_ hb0 Tryd.underlying25 ?_ IS.out ?_); rfl; rfl; rfl; rfl))
  generalize w.alloc (.cells (hdc x).toArray 25) = w0 at *
  refine (hvalid_any w0 x).mono ?_
  rw [hv]
  rintro e w1 ⟨rfl, hB1⟩
  have HB := Lib.hid (Bt hB0 hB1)
  clear hb0 hB0 hB1
  go_wp2_with fail
  go_ret2
  exact ⟨rfl, HB.out⟩

set_option maxHeartbeats 1000000 in
theorem hbytes_yes (w : World) (x : Hd) (hx : x.ok) (hv : hvalid x = true) : Calls Tryd.prog 9 #[.agg (hdc x).toArray] w (BytesP w x) := by
  have hb0 := Blk.new w 25 (hdc x)
  have hB0 : Below w.heap.size w (w.alloc (.cells (hdc x).toArray 25)) := (Below.refl _ w).alloc (Nat.le_refl _) _
  have IS : Hid ((Tryd.prog.info? 25).map (·.size) = some (hdc x).length) := Lib.hid (by rw [hdc_length hx]; exact info_head0)
  have HV := Lib.hid (hvalid_iff.1 hv)
  have HX := Lib.hid hx
  go_enter Tryd.func9, Tryd.ntmps9
  go_wp2_with (first | ((with_reducible refine wpList_loadB (o := ⟨some 6, _, _, _, _, _⟩) ?_ 25 (.tmp 1) ?_ ?_ hb0 Tryd.underlying25 ?_ IS.out ?_); rfl; rfl; rfl; rfl))
  generalize w.alloc (.cells (hdc x).toArray 25) = w0 at *
  refine (hvalid_any w0 x).mono ?_
  rw [hv]
  rintro e w1 ⟨rfl, hB1⟩
  have hb1 := hb0.below hB1
  have HB1 := Lib.hid (Bt hB0 hB1)
  have hc := (hb1.hdp hx).1
  clear hb0 hB0 hB1 hv hx
  go_wp2_with fail
  refine (putCount_ok w1 none 0 0 x.ep [] (Rd.nil0 w1) (by omega) (by have := HV.out.1; omega) (by have := HV.out.2; omega)).mono ?_
  rintro e w2 ⟨v, rfl, hO2, hB2⟩
  obtain ⟨a2, c2, rfl⟩ := hO2.shape
  have hb2 := hb1.below hB2
  have HB2 := Lib.hid (Bt HB1.out hB2)
  have hr2 := hO2.rd
  rw [List.nil_append] at hr2 ⊢
  have HL2 : Hid ((encC x.ep.toNat).length ≤ 2) := Lib.hid (encC_pow 1 x.ep.toNat (by have := HV.out; omega))
  have HE : Hid (encH x = encC x.ep.toNat ++ x.root ++ x.prev) := Lib.hid rfl
  generalize encC x.ep.toNat = q at *
  generalize hq : q.length = nq at *
  have HQ := Lib.hid hq
  have P1 := Lib.hid (fun W (h : Below w2.heap.size w2 W) => putDigest_ok W a2 nq c2 x.root HX.out.1 q (hr2.below h) (by have := HL2.out; omega))
  have I5 : Hid ((Tryd.prog.info? 23).map (·.size) = some (bs x.root).length) := Lib.hid (by rw [info_digest]; simp [bs_length, HX.out.1])
  have I6 : Hid ((Tryd.prog.info? 23).map (·.size) = some (bs x.prev).length) := Lib.hid (by rw [info_digest]; simp [bs_length, HX.out.2])
  clear hq hO2 hB2 hb1 hc hr2
  go_wp2_with fail
  -- REGION bytes 2
  refine wp_region_held_drew (S := fun W => Below w2.heap.size w2 W) (by kernel_rfl) ((Below.refl _ w2).drew) (fun hHeld => ?_)
  refine wpAnyH_take (i := 0) (oi := ⟨some 15, .move (.tmp 4), _, _, _, none⟩) (v := ?_) rfl (by kernel_rfl) (by kernel_rfl) (by kernel_rfl) (fun _ _ _ h => h) (Or.inl ⟨by rfl, ?_⟩) hHeld ?_
  rotate_left
  · intro W _; go_simp; try with_reducible rfl
  try simp only [Act.put, List.setIfInBounds_toArray, List.set_cons_zero, List.set_cons_succ]
  refine wpAnyH_take (i := 1) (oi := ⟨some 16, .fieldAddr 25 (.tmp 1) 1, _, _, _, none⟩) (v := ?_) rfl (by kernel_rfl) (by kernel_rfl) (by kernel_rfl) (fun _ _ _ h => h) (Or.inl ⟨by rfl, ?_⟩) hHeld ?_
  rotate_left
  · intro W _; go_simp; try with_reducible rfl
  try simp only [Act.put, List.setIfInBounds_toArray, List.set_cons_zero, List.set_cons_succ]
  refine wpAnyH_take (i := 2) (oi := ⟨some 17, .load 23 (.tmp 16), _, _, _, none⟩) (v := .agg (bs x.root).toArray) rfl (by kernel_rfl) (by kernel_rfl) (by kernel_rfl) (fun _ _ _ h => h) (yieldsIf_load_mid (by rfl) _ _ rfl w.heap.size 1 rfl (bs x.root) _ (fun W h => ((hb2.below h).hdp HX.out).2.1) Tryd.underlying23 rfl I5.out) hHeld ?_
  try simp only [Act.put, List.setIfInBounds_toArray, List.set_cons_zero, List.set_cons_succ]
  refine wpAnyH_take (i := 4) (oi := ⟨some 19, .fieldAddr 25 (.tmp 1) 2, _, _, _, none⟩) (v := ?_) rfl (by kernel_rfl) (by kernel_rfl) (by kernel_rfl) (fun _ _ _ h => h) (Or.inl ⟨by rfl, ?_⟩) hHeld ?_
  rotate_left
  · intro W _; go_simp; try with_reducible rfl
  try simp only [Act.put, List.setIfInBounds_toArray, List.set_cons_zero, List.set_cons_succ]
  refine wpAnyH_take (i := 5) (oi := ⟨some 20, .load 23 (.tmp 19), _, _, _, none⟩) (v := .agg (bs x.prev).toArray) rfl (by kernel_rfl) (by kernel_rfl) (by kernel_rfl) (fun _ _ _ h => h) (yieldsIf_load_mid (by rfl) _ _ rfl w.heap.size 33 rfl (bs x.prev) _ (fun W h => ((hb2.below h).hdp HX.out).2.2) Tryd.underlying23 rfl I6.out) hHeld ?_
  try simp only [Act.put, List.setIfInBounds_toArray, List.set_cons_zero, List.set_cons_succ]
  refine wpAnyH_ready (rs := [3]) (by kernel_rfl) (by simp) ?_
  refine AllReadyH.cons (o := ⟨some 18, .call { callee := .value (.func 25), args := #[.tmp 15, .tmp 17], argTypes := #[26, 23] }, _, _, _, none⟩) rfl (fun K hK => ?_) AllReadyH.nil
  refine step_ofR (by rfl) ?_
  go_simp
  refine (P1.out _ hHeld).mono ?_
  rintro x1 W1 ⟨v3, rfl, hO3, hB3⟩
  obtain ⟨a3, c3, rfl⟩ := hO3.shape
  have hr3 := hO3.rd
  have HL3 : Hid ((q ++ x.root).length ≤ 34) := Lib.hid (by have := HL2.out; have := HQ.out; have := HX.out.1; rw [List.length_append]; omega)
  generalize hq3 : (q ++ x.root).length = n3 at *
  refine hK.out _ _ (Bt hHeld hB3) (fun hHeld => ?_)
  clear hK K
  try simp only [Act.put, List.setIfInBounds_toArray, List.set_cons_zero, List.set_cons_succ]
  refine wpAnyH_ready (rs := [6]) (by kernel_rfl) (by simp) ?_
  refine AllReadyH.cons (o := ⟨some 21, .call { callee := .value (.func 25), args := #[.tmp 18, .tmp 20], argTypes := #[26, 23] }, _, _, _, none⟩) rfl (fun K hK => ?_) AllReadyH.nil
  refine step_ofR (by rfl) ?_
  go_simp
  refine (putDigest_ok _ a3 n3 c3 x.prev HX.out.2 (q ++ x.root) hr3 (by have := HL3.out; omega)).mono ?_
  rintro x1 W2 ⟨v4, rfl, hO4, hB4⟩
  obtain ⟨a4, c4, rfl⟩ := hO4.shape
  have hO4 := hO4.lower (Nat.le_trans HB2.out.size hHeld.size)
  rw [← HE.out] at hO4 ⊢
  obtain ⟨n4, HN4⟩ : ∃ n, Hid (n = (encH x).length) := ⟨_, Lib.hid rfl⟩
  rw [← HN4.out] at hO4 ⊢
  refine hK.out _ _ (Bt hHeld hB4) (fun hHeld => ?_)
  clear hK K
  try simp only [Act.put, List.setIfInBounds_toArray, List.set_cons_zero, List.set_cons_succ]
  refine wpAnyH_take (i := 7) (oi := ⟨some 2, .assign (.tmp 21), _, _, _, none⟩) (v := ?_) rfl (by kernel_rfl) (by kernel_rfl) (by kernel_rfl) (fun _ _ _ h => h) (Or.inl ⟨by rfl, ?_⟩) hHeld ?_
  rotate_left
  · intro W _; go_simp; try with_reducible rfl
  try simp only [Act.put, List.setIfInBounds_toArray, List.set_cons_zero, List.set_cons_succ]
  refine wpAnyH_take (i := 8) (oi := ⟨some 3, .assign (.const (.int .i64 0)), _, _, _, none⟩) (v := ?_) rfl (by kernel_rfl) (by kernel_rfl) (by kernel_rfl) (fun _ _ _ h => h) (Or.inl ⟨by rfl, ?_⟩) hHeld ?_
  rotate_left
  · intro W _; go_simp; try with_reducible rfl
  try simp only [Act.put, List.setIfInBounds_toArray, List.set_cons_zero, List.set_cons_succ]
  refine wpAnyH_done (by kernel_rfl) ?_ _
  -- END bytes
  have HBF := Lib.hid (Bt HB2.out hHeld)
  clear hHeld
  go_wp2_with fail
  go_ret2
  exact ⟨a4, n4, c4, HN4, rfl, hO4, HBF.out⟩
end Go.Proofs.YtoclahcibilbhaaDoor
