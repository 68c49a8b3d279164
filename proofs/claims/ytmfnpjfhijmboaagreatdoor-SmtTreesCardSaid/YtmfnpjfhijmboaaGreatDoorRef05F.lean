/-
  The walks of the reference's layer 5: Get, Drop, Same.
-/
import Derived.Test.YtmfnpjfhijmboaaGreatDoorRef05E
namespace Go.Proofs.YtmfnpjfhijmboaaGreatDoor
open Go.RowKit

def findL (l : List Lf) (p : List UInt8) : Option Lf := l.find? fun x => x.path == p
def dropL (l : List Lf) (p : List UInt8) : List Lf := l.filter fun x => !(x.path == p)
def sameLL : List Lf → List Lf → Bool
  | [], [] => true
  | x :: l, y :: m => sameLf x y && sameLL l m
  | _, _ => false
theorem sameLf_iff (x y : Lf) : sameLf x y = true ↔ x = y := by
  obtain ⟨a, b⟩ := x
  obtain ⟨c, d⟩ := y
  simp [sameLf]
theorem sameLL_iff : ∀ l m : List Lf, sameLL l m = true ↔ l = m
  | [], [] => by simp [sameLL]
  | [], _ :: _ => by simp [sameLL]
  | _ :: _, [] => by simp [sameLL]
  | x :: l, y :: m => by
    rw [sameLL, Bool.and_eq_true, sameLf_iff, sameLL_iff l m]
    simp
theorem findL_some {l : List Lf} {p : List UInt8} {k : Nat} (hk : k < l.length) (h1 : ∀ j, j < k → (l.getD j lf0).path ≠ p) (h2 : (l.getD k lf0).path = p) : findL l p = some (l.getD k lf0) := by
  have e : l.getD k lf0 = l[k] := by simp [List.getD, hk]
  rw [e] at h2 ⊢
  rw [findL, List.find?_eq_some_iff_getElem]
  refine ⟨by simpa using h2, k, hk, rfl, fun j hj => ?_⟩
  have := h1 j hj
  simpa [List.getD, show j < l.length by omega] using this
theorem findL_none {l : List Lf} {p : List UInt8} (h1 : ∀ j, j < l.length → (l.getD j lf0).path ≠ p) : findL l p = none := by
  rw [findL, List.find?_eq_none]
  intro x hx
  obtain ⟨j, hj, rfl⟩ := List.getElem_of_mem hx
  have := h1 j hj
  simpa [List.getD, hj] using this
theorem drop_step (l : List Lf) (p : List UInt8) (k : Nat) (h : k < l.length) : dropL (l.take (k + 1)) p = dropL (l.take k) p ++ (if (l.getD k lf0).path = p then [] else [l.getD k lf0]) := by
  rw [take_succ_lf l k h, dropL, dropL, List.filter_append]
  congr 1
  generalize l.getD k lf0 = x
  by_cases hb : x.path = p
  · rw [if_pos hb]; simp [hb]
  · rw [if_neg hb]; simp [hb]
theorem dropL_ok {l : List Lf} (h : oks l) (p : List UInt8) : oks (dropL l p) := fun x hx => h x (List.mem_filter.1 hx).1

set_option maxRecDepth 100000 in
set_option maxHeartbeats 1000000 in
theorem get_ref (w : World) (a : Option Addr) (n c : Nat) (l : List Lf) (hr : RdL w a n c l) (hn : n ≤ 100000) (p : List UInt8) (hp : p.length = 32) :
    Calls Tryz.prog 19 #[.slice a n c, .agg (bs p).toArray] w fun e w' => (∃ x, findL l p = some x ∧ e = .returned (.tuple #[.agg (bs x.val).toArray, .bool true]) ∨ findL l p = none ∧ e = .returned (.tuple #[.agg (bs zero32).toArray, .bool false])) ∧ Below w.heap.size w w' := by
  have hl := Lib.hid hr.len
  have hok := hr.ok
  have H6 := Lib.hid (show (Tryz.prog.info? 25).map (·.size) = some (bs p).length by rw [info_digest, bs_length, hp])
  have HZ := Lib.hid (show (Tryz.prog.info? 25).map (·.size) = some (bs zero32).length by rw [info_digest, bs_length, zero32_length])
  have HO := bs_one zero32
  have HBT := Lib.hid built0
  go_enter Tryz.func19, Tryz.ntmps19
  go_wp2_with ((with_reducible refine wpList_allocB (o := ⟨some 4, _, _, _, _, _⟩) ?_ 25 ?_ zeroD_info ?_); rfl; rfl; intro w0 hr0 hg0 hz0; have hS := OneAt.start w p hr0 hg0)
  clear hr0 hg0 hz0
  go_loopw [6] (fun t wr => ∃ k : Nat, k ≤ n ∧ t = .int .i64 k ∧ (∀ j, j < k → (l.getD j lf0).path ≠ p) ∧ OneAt w wr p zero32) (fun t _ => n - (intOf t).toNat)
  case atStart => exact ⟨0, by omega, rfl, fun j h => absurd h (Nat.not_lt_zero j), hS⟩
  case round =>
    obtain ⟨k, hk, rfl, hne, hS⟩ := hrel
    by_cases hlt : k < n
    · have hlt' : (k : Int) < n := by omega
      obtain ⟨bb, off, rfl, hbb, hel⟩ := hr.elems (by omega)
      have hxo := hok.at (show k < l.length by rw [hl.out]; omega)
      have hgk := Lib.hid (range_path (hel k hlt))
      have hgv := Lib.hid (range_val hxo (hel k hlt))
      have HF := Lib.hid (findL_some (show k < l.length by rw [hl.out]; omega) hne)
      have hne1 := Lib.hid (fun h : (l.getD k lf0).path ≠ p => (show ∀ j, j < k + 1 → (l.getD j lf0).path ≠ p from fun j hj => by
        by_cases hjk : j = k
        · rw [hjk]; exact h
        · exact hne j (by omega)))
      clear hne hel
      generalize l.getD k lf0 = x at *
      have H5 := Lib.hid (show (Tryz.prog.info? 25).map (·.size) = some (bs x.path).length by rw [info_digest, bs_length, hxo.1])
      by_cases heq : x.path = p
      · have e1 := Lib.hid (show ∀ W : World, (binOp .eql 25 (.agg (bs x.path).toArray) (.agg (bs p).toArray)).run Tryz.prog W = .ok (.bool true) W from fun W => by rw [eqD W _ _ hxo.1 hp]; simp [heq])
        have HF1 := Lib.hid (HF.out heq)
        have HV := Lib.hid (show (Tryz.prog.info? 25).map (·.size) = some (bs x.val).length by rw [info_digest, bs_length, hxo.2])
        have HY := Lib.hid (show (bs zero32).length = (bs x.val).length by rw [bs_length, bs_length, zero32_length, hxo.2])
        have HW := bs_one x.val
        clear hne1 HF heq
        go_wp2_with fail
        -- REGION Get true
        refine wp_region_held_drew (S := fun W => OneAt w W p zero32) (by kernel_rfl) hS.drew (fun hHeld => ?_)
        refine wpAnyH_take (i := 0) (oi := ⟨some 13, .move (.tmp 0), _, _, _, none⟩) (v := ?_) rfl (by kernel_rfl) (by kernel_rfl) (by kernel_rfl) (fun _ _ _ h => h) (Or.inl ⟨by rfl, ?_⟩) hHeld ?_
        rotate_left
        · intro W _; go_simp; try with_reducible rfl
        try simp only [Act.put, List.setIfInBounds_toArray, List.set_cons_zero, List.set_cons_succ]
        refine wpAnyH_take (i := 1) (oi := ⟨some 14, .move (.tmp 6), _, _, _, none⟩) (v := ?_) rfl (by kernel_rfl) (by kernel_rfl) (by kernel_rfl) (fun _ _ _ h => h) (Or.inl ⟨by rfl, ?_⟩) hHeld ?_
        rotate_left
        · intro W _; go_simp; try with_reducible rfl
        try simp only [Act.put, List.setIfInBounds_toArray, List.set_cons_zero, List.set_cons_succ]
        refine wpAnyH_take (i := 2) (oi := ⟨some 15, .indexAddr 23 (.tmp 13) (.tmp 14), _, _, _, none⟩) (v := ?_) rfl (by kernel_rfl) (by kernel_rfl) (by kernel_rfl) (fun _ _ _ h => h) (Or.inl ⟨by rfl, ?_⟩) hHeld ?_
        rotate_left
        · intro W _; go_simp; try with_reducible rfl
        try simp only [Act.put, List.setIfInBounds_toArray, List.set_cons_zero, List.set_cons_succ]
        refine wpAnyH_take (i := 3) (oi := ⟨some 16, .fieldAddr 50 (.tmp 15) 0, _, _, _, none⟩) (v := ?_) rfl (by kernel_rfl) (by kernel_rfl) (by kernel_rfl) (fun _ _ _ h => h) (Or.inl ⟨by rfl, ?_⟩) hHeld ?_
        rotate_left
        · intro W _; go_simp; try with_reducible rfl
        try simp only [Act.put, List.setIfInBounds_toArray, List.set_cons_zero, List.set_cons_succ]
        refine wpAnyH_take (i := 4) (oi := ⟨some 17, .load 25 (.tmp 16), _, _, _, none⟩) (v := .agg (bs x.path).toArray) rfl (by kernel_rfl) (by kernel_rfl) (by kernel_rfl) (fun _ _ _ h => h) (yieldsIf_load_mid (by rfl) _ _ rfl bb (off + k * 64) rfl (bs x.path) _ (fun W h => rangeAt_below h.bel hgk.out) Tryz.underlying25 rfl H5.out) hHeld ?_
        try simp only [Act.put, List.setIfInBounds_toArray, List.set_cons_zero, List.set_cons_succ]
        refine wpAnyH_take (i := 5) (oi := ⟨some 18, .load 25 (.tmp 3), _, _, _, none⟩) (v := .agg (bs p).toArray) rfl (by kernel_rfl) (by kernel_rfl) (by kernel_rfl) (fun _ _ _ h => h) (yieldsIf_load_mid (by rfl) _ _ rfl w.heap.size 0 rfl (bs p) _ (fun W h => h.b0.allR) Tryz.underlying25 rfl H6.out) hHeld ?_
        try simp only [Act.put, List.setIfInBounds_toArray, List.set_cons_zero, List.set_cons_succ]
        refine wpAnyH_take (i := 6) (oi := ⟨some 19, .binOp .eql 25 (.tmp 17) (.tmp 18) 25, _, _, _, none⟩) (v := .bool true) rfl (by kernel_rfl) (by kernel_rfl) (by kernel_rfl) (fun _ _ _ h => h) (yieldsIf_eqE (by rfl) .eql 25 25 (.tmp 17) (.tmp 18) rfl _ _ rfl rfl guardR _ e1.out) hHeld ?_
        try simp only [Act.put, List.setIfInBounds_toArray, List.set_cons_zero, List.set_cons_succ]
        refine wpAnyH_done (by kernel_rfl) ?_ _
        -- END Get true
        have hgv2 := rangeAt_below hHeld.bel hgv.out
        have hb1 := hHeld.b1
        go_wp2_with (first | ((with_reducible refine wpList_loadM (o := ⟨some 24, _, _, _, _, _⟩) ?_ bb (off + k * 64 + 32) 25 (.tmp 23) ?_ ?_ hgv2 Tryz.underlying25 ?_ HV.out ?_); rfl; rfl; rfl; rfl) | ((with_reducible refine wpList_storeB (o := ⟨none, .store 25 (.tmp 4) (.tmp 24), _, _, _, _⟩) ?_ 25 (.tmp 4) (.tmp 24) ?_ ?_ ?_ hb1 HV.out HY.out HW ?_); rfl; rfl; rfl; rfl; intro w8 hb8 hg8 hz8))
        try simp only [Exit.inBlock, Exit.then]
        refine bodyPost_ret (results_digest2 rfl _ _ _ _ _ hxo.2 rfl hb8.at_) rfl ⟨⟨x, .inl ⟨HF1.out, rfl⟩⟩, ?_⟩
        exact hHeld.bel.grown hg8 hHeld.bel.size (fun k e => by cases e; omega)
      · have e1 := Lib.hid (show ∀ W : World, (binOp .eql 25 (.agg (bs x.path).toArray) (.agg (bs p).toArray)).run Tryz.prog W = .ok (.bool false) W from fun W => by rw [eqD W _ _ hxo.1 hp]; simp [heq])
        have hne2 := Lib.hid (hne1.out heq)
        clear hne1 HF heq
        go_wp2_with fail
        -- REGION Get false
        refine wp_region_held_drew (S := fun W => OneAt w W p zero32) (by kernel_rfl) hS.drew (fun hHeld => ?_)
        refine wpAnyH_take (i := 0) (oi := ⟨some 13, .move (.tmp 0), _, _, _, none⟩) (v := ?_) rfl (by kernel_rfl) (by kernel_rfl) (by kernel_rfl) (fun _ _ _ h => h) (Or.inl ⟨by rfl, ?_⟩) hHeld ?_
        rotate_left
        · intro W _; go_simp; try with_reducible rfl
        try simp only [Act.put, List.setIfInBounds_toArray, List.set_cons_zero, List.set_cons_succ]
        refine wpAnyH_take (i := 1) (oi := ⟨some 14, .move (.tmp 6), _, _, _, none⟩) (v := ?_) rfl (by kernel_rfl) (by kernel_rfl) (by kernel_rfl) (fun _ _ _ h => h) (Or.inl ⟨by rfl, ?_⟩) hHeld ?_
        rotate_left
        · intro W _; go_simp; try with_reducible rfl
        try simp only [Act.put, List.setIfInBounds_toArray, List.set_cons_zero, List.set_cons_succ]
        refine wpAnyH_take (i := 2) (oi := ⟨some 15, .indexAddr 23 (.tmp 13) (.tmp 14), _, _, _, none⟩) (v := ?_) rfl (by kernel_rfl) (by kernel_rfl) (by kernel_rfl) (fun _ _ _ h => h) (Or.inl ⟨by rfl, ?_⟩) hHeld ?_
        rotate_left
        · intro W _; go_simp; try with_reducible rfl
        try simp only [Act.put, List.setIfInBounds_toArray, List.set_cons_zero, List.set_cons_succ]
        refine wpAnyH_take (i := 3) (oi := ⟨some 16, .fieldAddr 50 (.tmp 15) 0, _, _, _, none⟩) (v := ?_) rfl (by kernel_rfl) (by kernel_rfl) (by kernel_rfl) (fun _ _ _ h => h) (Or.inl ⟨by rfl, ?_⟩) hHeld ?_
        rotate_left
        · intro W _; go_simp; try with_reducible rfl
        try simp only [Act.put, List.setIfInBounds_toArray, List.set_cons_zero, List.set_cons_succ]
        refine wpAnyH_take (i := 4) (oi := ⟨some 17, .load 25 (.tmp 16), _, _, _, none⟩) (v := .agg (bs x.path).toArray) rfl (by kernel_rfl) (by kernel_rfl) (by kernel_rfl) (fun _ _ _ h => h) (yieldsIf_load_mid (by rfl) _ _ rfl bb (off + k * 64) rfl (bs x.path) _ (fun W h => rangeAt_below h.bel hgk.out) Tryz.underlying25 rfl H5.out) hHeld ?_
        try simp only [Act.put, List.setIfInBounds_toArray, List.set_cons_zero, List.set_cons_succ]
        refine wpAnyH_take (i := 5) (oi := ⟨some 18, .load 25 (.tmp 3), _, _, _, none⟩) (v := .agg (bs p).toArray) rfl (by kernel_rfl) (by kernel_rfl) (by kernel_rfl) (fun _ _ _ h => h) (yieldsIf_load_mid (by rfl) _ _ rfl w.heap.size 0 rfl (bs p) _ (fun W h => h.b0.allR) Tryz.underlying25 rfl H6.out) hHeld ?_
        try simp only [Act.put, List.setIfInBounds_toArray, List.set_cons_zero, List.set_cons_succ]
        refine wpAnyH_take (i := 6) (oi := ⟨some 19, .binOp .eql 25 (.tmp 17) (.tmp 18) 25, _, _, _, none⟩) (v := .bool false) rfl (by kernel_rfl) (by kernel_rfl) (by kernel_rfl) (fun _ _ _ h => h) (yieldsIf_eqE (by rfl) .eql 25 25 (.tmp 17) (.tmp 18) rfl _ _ rfl rfl guardR _ e1.out) hHeld ?_
        try simp only [Act.put, List.setIfInBounds_toArray, List.set_cons_zero, List.set_cons_succ]
        refine wpAnyH_done (by kernel_rfl) ?_ _
        -- END Get false
        go_wp2_with fail
        exact ⟨⟨k + 1, by omega, by go_num, hne2.out, hHeld⟩, by simp [intOf]; omega⟩
    · obtain rfl : k = n := by omega
      have hlt' : ¬ (k : Int) < k := by omega
      have HF := Lib.hid (findL_none (fun j hj => hne j (by rw [← hl.out]; exact hj)))
      clear hne
      have hb1 := hS.b1
      go_wp2_with (first | ((with_reducible refine wpList_buildI (dst := some 25) HBT.out ?_ ?_); rfl) | ((with_reducible refine wpList_storeB (o := ⟨none, .store 25 (.tmp 4) (.tmp 25), _, _, _, _⟩) ?_ 25 (.tmp 4) (.tmp 25) ?_ ?_ ?_ hb1 HZ.out rfl HO ?_); rfl; rfl; rfl; rfl; intro w8 hb8 hg8 hz8))
      try simp only [Exit.inBlock, Exit.then]
      refine bodyPost_ret (results_digest2 rfl _ _ _ _ _ zero32_length rfl hb8.at_) rfl ⟨⟨lf0, .inr ⟨HF.out, rfl⟩⟩, ?_⟩
      exact hS.bel.grown hg8 hS.bel.size (fun k e => by cases e; omega)

/-- what the walk of Drop knows of a world: the path, the row that grows -/
structure BoxL (w W : World) (p : List UInt8) : Prop where
  box : Blk W w.heap.size 25 (bs p)
  bel : Below w.heap.size w W
theorem BoxL.below {w W W' : World} {p : List UInt8} (h : BoxL w W p) (hb : Below W.heap.size W W') : BoxL w W' p := ⟨h.box.below hb, Bt h.bel hb⟩
theorem BoxL.drew {w W : World} {p : List UInt8} (h : BoxL w W p) : BoxL w W.drew p := h.below ⟨rfl, rfl, rfl, Nat.le_refl _, fun _ _ => rfl⟩

set_option maxRecDepth 100000 in
set_option maxHeartbeats 1000000 in
theorem drop_ref (w : World) (a : Option Addr) (n c : Nat) (l : List Lf) (hr : RdL w a n c l) (hn : n ≤ 100000) (p : List UInt8) (hp : p.length = 32) :
    Calls Tryz.prog 16 #[.slice a n c, .agg (bs p).toArray] w fun e w' => ∃ a' c', e = .returned (.tuple #[.slice a' (dropL l p).length c', .bool (decide ((dropL l p).length < n))]) ∧ OwnL w' w.heap.size (.slice a' (dropL l p).length c') (dropL l p) ∧ Below w.heap.size w w' := by
  have hl := Lib.hid hr.len
  have hok := hr.ok
  have H6 := Lib.hid (show (Tryz.prog.info? 25).map (·.size) = some (bs p).length by rw [info_digest, bs_length, hp])
  have hS : BoxL w (w.alloc (.cells (bs p).toArray 25)) p := ⟨Blk.new w 25 (bs p), (Below.refl _ w).alloc (Nat.le_refl _) _⟩
  go_enter Tryz.func16, Tryz.ntmps16
  go_wp2_with fail
  generalize w.alloc _ = w0 at *
  go_loopw [6, 7] (fun v t wr => ∃ (k : Nat) (q : List Lf) (ao : Option Addr) (co : Nat), k ≤ n ∧ t = .int .i64 k ∧ v = .slice ao q.length co ∧ q = dropL (l.take k) p ∧ OwnL wr (w.heap.size + 1) (.slice ao q.length co) q ∧ BoxL w wr p) (fun _ t _ => n - (intOf t).toNat)
  case atStart => exact ⟨0, [], none, 0, by omega, rfl, rfl, rfl, OwnL.nil0 _ _, hS⟩
  case round =>
    obtain ⟨k, q, ao, co, hk, rfl, rfl, hq, hO, hS⟩ := hrel
    by_cases hlt : k < n
    · have hlt' : (k : Int) < n := by omega
      have hst := Lib.hid (drop_step l p k (by rw [hl.out]; omega))
      obtain ⟨bb, off, rfl, hbb, hel⟩ := hr.elems (by omega)
      have hxo := hok.at (show k < l.length by rw [hl.out]; omega)
      have hgk := Lib.hid (range_path (hel k hlt))
      have hgx := Lib.hid (hel k hlt)
      rw [← hq] at hst
      have hql := Lib.hid (show q.length ≤ k by rw [hq]; exact Nat.le_trans (List.length_filter_le _ _) (by simp; omega))
      clear hel hq
      generalize l.getD k lf0 = x at *
      have H5 := Lib.hid (show (Tryz.prog.info? 25).map (·.size) = some (bs x.path).length by rw [info_digest, bs_length, hxo.1])
      have H7 := Lib.hid (show (Tryz.prog.info? 50).map (·.size) = some (lc x).length by rw [infoLeafS, lc_length hxo])
      by_cases heq : x.path = p
      · have e1 := Lib.hid (show ∀ W : World, (binOp .neq 25 (.agg (bs x.path).toArray) (.agg (bs p).toArray)).run Tryz.prog W = .ok (.bool false) W from fun W => by rw [neqD W _ _ hxo.1 hp]; simp [heq])
        rw [if_pos heq, List.append_nil] at hst
        clear heq
        go_wp2_with fail
        -- REGION Drop false
        refine wp_region_held_drew (S := fun W => BoxL w W p) (by kernel_rfl) hS.drew (fun hHeld => ?_)
        refine wpAnyH_take (i := 0) (oi := ⟨some 14, .move (.tmp 0), _, _, _, none⟩) (v := ?_) rfl (by kernel_rfl) (by kernel_rfl) (by kernel_rfl) (fun _ _ _ h => h) (Or.inl ⟨by rfl, ?_⟩) hHeld ?_
        rotate_left
        · intro W _; go_simp; try with_reducible rfl
        try simp only [Act.put, List.setIfInBounds_toArray, List.set_cons_zero, List.set_cons_succ]
        refine wpAnyH_take (i := 1) (oi := ⟨some 15, .move (.tmp 7), _, _, _, none⟩) (v := ?_) rfl (by kernel_rfl) (by kernel_rfl) (by kernel_rfl) (fun _ _ _ h => h) (Or.inl ⟨by rfl, ?_⟩) hHeld ?_
        rotate_left
        · intro W _; go_simp; try with_reducible rfl
        try simp only [Act.put, List.setIfInBounds_toArray, List.set_cons_zero, List.set_cons_succ]
        refine wpAnyH_take (i := 2) (oi := ⟨some 16, .indexAddr 23 (.tmp 14) (.tmp 15), _, _, _, none⟩) (v := ?_) rfl (by kernel_rfl) (by kernel_rfl) (by kernel_rfl) (fun _ _ _ h => h) (Or.inl ⟨by rfl, ?_⟩) hHeld ?_
        rotate_left
        · intro W _; go_simp; try with_reducible rfl
        try simp only [Act.put, List.setIfInBounds_toArray, List.set_cons_zero, List.set_cons_succ]
        refine wpAnyH_take (i := 3) (oi := ⟨some 17, .fieldAddr 50 (.tmp 16) 0, _, _, _, none⟩) (v := ?_) rfl (by kernel_rfl) (by kernel_rfl) (by kernel_rfl) (fun _ _ _ h => h) (Or.inl ⟨by rfl, ?_⟩) hHeld ?_
        rotate_left
        · intro W _; go_simp; try with_reducible rfl
        try simp only [Act.put, List.setIfInBounds_toArray, List.set_cons_zero, List.set_cons_succ]
        refine wpAnyH_take (i := 4) (oi := ⟨some 18, .load 25 (.tmp 17), _, _, _, none⟩) (v := .agg (bs x.path).toArray) rfl (by kernel_rfl) (by kernel_rfl) (by kernel_rfl) (fun _ _ _ h => h) (yieldsIf_load_mid (by rfl) _ _ rfl bb (off + k * 64) rfl (bs x.path) _ (fun W h => rangeAt_below h.bel hgk.out) Tryz.underlying25 rfl H5.out) hHeld ?_
        try simp only [Act.put, List.setIfInBounds_toArray, List.set_cons_zero, List.set_cons_succ]
        refine wpAnyH_take (i := 5) (oi := ⟨some 19, .load 25 (.tmp 3), _, _, _, none⟩) (v := .agg (bs p).toArray) rfl (by kernel_rfl) (by kernel_rfl) (by kernel_rfl) (fun _ _ _ h => h) (yieldsIf_load_mid (by rfl) _ _ rfl w.heap.size 0 rfl (bs p) _ (fun W h => h.box.allR) Tryz.underlying25 rfl H6.out) hHeld ?_
        try simp only [Act.put, List.setIfInBounds_toArray, List.set_cons_zero, List.set_cons_succ]
        refine wpAnyH_take (i := 6) (oi := ⟨some 20, .binOp .neq 25 (.tmp 18) (.tmp 19) 25, _, _, _, none⟩) (v := .bool false) rfl (by kernel_rfl) (by kernel_rfl) (by kernel_rfl) (fun _ _ _ h => h) (yieldsIf_eqE (by rfl) .neq 25 25 (.tmp 18) (.tmp 19) rfl _ _ rfl rfl guardR _ e1.out) hHeld ?_
        try simp only [Act.put, List.setIfInBounds_toArray, List.set_cons_zero, List.set_cons_succ]
        refine wpAnyH_done (by kernel_rfl) ?_ _
        -- END Drop false
        go_wp2_with fail
        exact ⟨⟨k + 1, q, ao, co, by omega, by go_num, rfl, hst.out.symm, hO.below ⟨rfl, rfl, rfl, Nat.le_refl _, fun _ _ => rfl⟩, hHeld⟩, by simp [intOf]; omega⟩
      · have e1 := Lib.hid (show ∀ W : World, (binOp .neq 25 (.agg (bs x.path).toArray) (.agg (bs p).toArray)).run Tryz.prog W = .ok (.bool true) W from fun W => by rw [neqD W _ _ hxo.1 hp]; simp [heq])
        rw [if_neg heq] at hst
        clear heq
        go_wp2_with fail
        -- REGION Drop true
        refine wp_region_held_drew (S := fun W => BoxL w W p) (by kernel_rfl) hS.drew (fun hHeld => ?_)
        refine wpAnyH_take (i := 0) (oi := ⟨some 14, .move (.tmp 0), _, _, _, none⟩) (v := ?_) rfl (by kernel_rfl) (by kernel_rfl) (by kernel_rfl) (fun _ _ _ h => h) (Or.inl ⟨by rfl, ?_⟩) hHeld ?_
        rotate_left
        · intro W _; go_simp; try with_reducible rfl
        try simp only [Act.put, List.setIfInBounds_toArray, List.set_cons_zero, List.set_cons_succ]
        refine wpAnyH_take (i := 1) (oi := ⟨some 15, .move (.tmp 7), _, _, _, none⟩) (v := ?_) rfl (by kernel_rfl) (by kernel_rfl) (by kernel_rfl) (fun _ _ _ h => h) (Or.inl ⟨by rfl, ?_⟩) hHeld ?_
        rotate_left
        · intro W _; go_simp; try with_reducible rfl
        try simp only [Act.put, List.setIfInBounds_toArray, List.set_cons_zero, List.set_cons_succ]
        refine wpAnyH_take (i := 2) (oi := ⟨some 16, .indexAddr 23 (.tmp 14) (.tmp 15), _, _, _, none⟩) (v := ?_) rfl (by kernel_rfl) (by kernel_rfl) (by kernel_rfl) (fun _ _ _ h => h) (Or.inl ⟨by rfl, ?_⟩) hHeld ?_
        rotate_left
        · intro W _; go_simp; try with_reducible rfl
        try simp only [Act.put, List.setIfInBounds_toArray, List.set_cons_zero, List.set_cons_succ]
        refine wpAnyH_take (i := 3) (oi := ⟨some 17, .fieldAddr 50 (.tmp 16) 0, _, _, _, none⟩) (v := ?_) rfl (by kernel_rfl) (by kernel_rfl) (by kernel_rfl) (fun _ _ _ h => h) (Or.inl ⟨by rfl, ?_⟩) hHeld ?_
        rotate_left
        · intro W _; go_simp; try with_reducible rfl
        try simp only [Act.put, List.setIfInBounds_toArray, List.set_cons_zero, List.set_cons_succ]
        refine wpAnyH_take (i := 4) (oi := ⟨some 18, .load 25 (.tmp 17), _, _, _, none⟩) (v := .agg (bs x.path).toArray) rfl (by kernel_rfl) (by kernel_rfl) (by kernel_rfl) (fun _ _ _ h => h) (yieldsIf_load_mid (by rfl) _ _ rfl bb (off + k * 64) rfl (bs x.path) _ (fun W h => rangeAt_below h.bel hgk.out) Tryz.underlying25 rfl H5.out) hHeld ?_
        try simp only [Act.put, List.setIfInBounds_toArray, List.set_cons_zero, List.set_cons_succ]
        refine wpAnyH_take (i := 5) (oi := ⟨some 19, .load 25 (.tmp 3), _, _, _, none⟩) (v := .agg (bs p).toArray) rfl (by kernel_rfl) (by kernel_rfl) (by kernel_rfl) (fun _ _ _ h => h) (yieldsIf_load_mid (by rfl) _ _ rfl w.heap.size 0 rfl (bs p) _ (fun W h => h.box.allR) Tryz.underlying25 rfl H6.out) hHeld ?_
        try simp only [Act.put, List.setIfInBounds_toArray, List.set_cons_zero, List.set_cons_succ]
        refine wpAnyH_take (i := 6) (oi := ⟨some 20, .binOp .neq 25 (.tmp 18) (.tmp 19) 25, _, _, _, none⟩) (v := .bool true) rfl (by kernel_rfl) (by kernel_rfl) (by kernel_rfl) (fun _ _ _ h => h) (yieldsIf_eqE (by rfl) .neq 25 25 (.tmp 18) (.tmp 19) rfl _ _ rfl rfl guardR _ e1.out) hHeld ?_
        try simp only [Act.put, List.setIfInBounds_toArray, List.set_cons_zero, List.set_cons_succ]
        refine wpAnyH_done (by kernel_rfl) ?_ _
        -- END Drop true
        have hgx2 := rangeAt_below hHeld.bel hgx.out
        have hO1 : OwnL wr.drew (w.heap.size + 1) (.slice ao q.length co) q := hO.below ⟨rfl, rfl, rfl, Nat.le_refl _, fun _ _ => rfl⟩
        have hO2 := hO1.below ((Below.refl _ wr.drew).alloc (Nat.le_refl _) (.cells (lc x).toArray 50))
        have hS2 := hHeld.below ((Below.refl _ wr.drew).alloc (Nat.le_refl _) (.cells (lc x).toArray 50))
        have hR1 := RdL.one wr.drew hxo
        have hbs : w.heap.size + 1 ≤ (wr.drew.alloc (.cells (lc x).toArray 50)).heap.size := hS2.box.lt
        generalize wr.drew = wd at *
        go_wp2_with (first | ((with_reducible refine wpList_loadM (o := ⟨some 25, _, _, _, _, _⟩) ?_ bb (off + k * 64) 50 (.tmp 24) ?_ ?_ hgx2 Tryz.underlying50 ?_ H7.out ?_); rfl; rfl; rfl; rfl) | ((with_reducible refine wpList_oneL (o := ⟨some 26, _, _, _, _, _⟩) ?_ (.tmp 25) ?_ (y := x) ?_ hxo ?_); rfl; rfl; rfl) | (at_builtin; refine wpList_appL (v := .slice ao q.length co) rfl (.tmp 21) (.tmp 26) rfl rfl hO2 rfl hR1 (by have := hql.out; omega) hbs ?_; intro a3 c3 w3 hO3 hg3 _))
        have hS3 : BoxL w w3 p := ⟨hS2.box.grown hg3 (fun e => by have := (hO2.lt e).1; omega), hS2.bel.grown hg3 hS2.bel.size (fun k e => by have := (hO2.lt e).1; omega)⟩
        have e : (q ++ [x]).length = q.length + 1 := by simp
        exact ⟨⟨k + 1, q ++ [x], a3, c3, by omega, by go_num, by rw [e], hst.out.symm, by rw [e]; exact hO3, hS3⟩, by simp [intOf]; omega⟩
    · obtain rfl : k = n := by omega
      have hlt' : ¬ (k : Int) < k := by omega
      rw [List.take_of_length_le (by rw [hl.out]; exact Nat.le_refl _)] at hq
      subst hq
      generalize hqe : dropL l p = q at *
      go_wp2_with fail
      go_ret2
      exact ⟨ao, co, rfl, hO.lower (by omega), hS.bel⟩

theorem sameLL_ne {l m : List Lf} {k : Nat} (_hk : k < l.length) (h : sameLf (l.getD k lf0) (m.getD k lf0) = false) : sameLL l m = false := by
  cases e : sameLL l m
  · rfl
  · rw [(sameLL_iff l m).1 e] at h
    rw [(sameLf_iff _ _).2 rfl] at h
    cases h
theorem sameLL_all {l m : List Lf} (hl : l.length = m.length) (h : ∀ j, j < l.length → sameLf (l.getD j lf0) (m.getD j lf0) = true) : sameLL l m = true := by
  refine (sameLL_iff l m).2 (List.ext_getElem hl fun j h1 h2 => ?_)
  have := (sameLf_iff _ _).1 (h j h1)
  simpa [List.getD, h1, h2] using this

set_option maxRecDepth 100000 in
set_option maxHeartbeats 1000000 in
theorem same_ref (w : World) (a : Option Addr) (n c : Nat) (l : List Lf) (hr : RdL w a n c l) (hn : n ≤ 100000) (a2 : Option Addr) (n2 c2 : Nat) (m : List Lf) (hr2 : RdL w a2 n2 c2 m) :
    Calls Tryz.prog 42 #[.slice a n c, .slice a2 n2 c2] w fun e w' => e = .returned (.bool (sameLL l m)) ∧ Below w.heap.size w w' := by
  have hl := Lib.hid hr.len
  have hl2 := Lib.hid hr2.len
  have hok := hr.ok
  have hok2 := hr2.ok
  by_cases hnn : n = n2
  · subst hnn
    go_enter Tryz.func42, Tryz.ntmps42
    go_wp2_with fail
    go_loopw [5] (fun t wr => ∃ k : Nat, k ≤ n ∧ t = .int .i64 k ∧ (∀ j, j < k → sameLf (l.getD j lf0) (m.getD j lf0) = true) ∧ Below w.heap.size w wr) (fun t _ => n - (intOf t).toNat)
    case atStart => exact ⟨0, by omega, rfl, fun j h => absurd h (Nat.not_lt_zero j), Below.refl _ _⟩
    case round =>
      obtain ⟨k, hk, rfl, hsm, hB⟩ := hrel
      by_cases hlt : k < n
      · have hlt' : (k : Int) < n := by omega
        obtain ⟨bb, off, rfl, hbb, hel⟩ := hr.elems (by omega)
        obtain ⟨b2, off2, rfl, hbb2, hel2⟩ := hr2.elems (by omega)
        have hgk := Lib.hid (hel k hlt)
        have hgi := Lib.hid (hel2 k hlt)
        have hx := hok.at (show k < l.length by rw [hl.out]; exact hlt)
        have hy := hok2.at (show k < m.length by rw [hl2.out]; exact hlt)
        have HN := Lib.hid (sameLL_ne (l := l) (m := m) (k := k) (by rw [hl.out]; exact hlt))
        have hs1 := Lib.hid (fun h : sameLf (l.getD k lf0) (m.getD k lf0) = true => (show ∀ j, j < k + 1 → sameLf (l.getD j lf0) (m.getD j lf0) = true from fun j hj => by
          by_cases hjk : j = k
          · rw [hjk]; exact h
          · exact hsm j (by omega)))
        clear hsm hel hel2
        generalize l.getD k lf0 = x at *
        generalize m.getD k lf0 = y at *
        have H5 := Lib.hid (show (Tryz.prog.info? 50).map (·.size) = some (lc x).length by rw [infoLeafS, lc_length hx])
        have H6 := Lib.hid (show (Tryz.prog.info? 50).map (·.size) = some (lc y).length by rw [infoLeafS, lc_length hy])
        cases hsxy : sameLf x y
        · have e1 := Lib.hid (show ∀ W : World, (binOp .neq 50 (.agg (lc x).toArray) (.agg (lc y).toArray)).run Tryz.prog W = .ok (.bool true) W from fun W => by rw [neqL W x y hx hy, hsxy]; rfl)
          have hN2 := Lib.hid (HN.out hsxy)
          clear hsxy HN hs1
          go_wp2_with fail
          -- REGION Same true
          refine wp_region_held_drew (S := fun W => Below w.heap.size w W) (by kernel_rfl) (below_drew hB) (fun hHeld => ?_)
          refine wpAnyH_take (i := 0) (oi := ⟨some 17, .move (.tmp 0), _, _, _, none⟩) (v := ?_) rfl (by kernel_rfl) (by kernel_rfl) (by kernel_rfl) (fun _ _ _ h => h) (Or.inl ⟨by rfl, ?_⟩) hHeld ?_
          rotate_left
          · intro W _; go_simp; try with_reducible rfl
          try simp only [Act.put, List.setIfInBounds_toArray, List.set_cons_zero, List.set_cons_succ]
          refine wpAnyH_take (i := 1) (oi := ⟨some 18, .move (.tmp 5), _, _, _, none⟩) (v := ?_) rfl (by kernel_rfl) (by kernel_rfl) (by kernel_rfl) (fun _ _ _ h => h) (Or.inl ⟨by rfl, ?_⟩) hHeld ?_
          rotate_left
          · intro W _; go_simp; try with_reducible rfl
          try simp only [Act.put, List.setIfInBounds_toArray, List.set_cons_zero, List.set_cons_succ]
          refine wpAnyH_take (i := 2) (oi := ⟨some 19, .indexAddr 23 (.tmp 17) (.tmp 18), _, _, _, none⟩) (v := ?_) rfl (by kernel_rfl) (by kernel_rfl) (by kernel_rfl) (fun _ _ _ h => h) (Or.inl ⟨by rfl, ?_⟩) hHeld ?_
          rotate_left
          · intro W _; go_simp; try with_reducible rfl
          try simp only [Act.put, List.setIfInBounds_toArray, List.set_cons_zero, List.set_cons_succ]
          refine wpAnyH_take (i := 3) (oi := ⟨some 20, .load 50 (.tmp 19), _, _, _, none⟩) (v := .agg (lc x).toArray) rfl (by kernel_rfl) (by kernel_rfl) (by kernel_rfl) (fun _ _ _ h => h) (yieldsIf_load_mid (by rfl) _ _ rfl bb (off + k * 64) rfl (lc x) _ (fun W h => rangeAt_below h hgk.out) Tryz.underlying50 rfl H5.out) hHeld ?_
          try simp only [Act.put, List.setIfInBounds_toArray, List.set_cons_zero, List.set_cons_succ]
          refine wpAnyH_take (i := 4) (oi := ⟨some 21, .move (.tmp 1), _, _, _, none⟩) (v := ?_) rfl (by kernel_rfl) (by kernel_rfl) (by kernel_rfl) (fun _ _ _ h => h) (Or.inl ⟨by rfl, ?_⟩) hHeld ?_
          rotate_left
          · intro W _; go_simp; try with_reducible rfl
          try simp only [Act.put, List.setIfInBounds_toArray, List.set_cons_zero, List.set_cons_succ]
          refine wpAnyH_take (i := 5) (oi := ⟨some 22, .move (.tmp 5), _, _, _, none⟩) (v := ?_) rfl (by kernel_rfl) (by kernel_rfl) (by kernel_rfl) (fun _ _ _ h => h) (Or.inl ⟨by rfl, ?_⟩) hHeld ?_
          rotate_left
          · intro W _; go_simp; try with_reducible rfl
          try simp only [Act.put, List.setIfInBounds_toArray, List.set_cons_zero, List.set_cons_succ]
          refine wpAnyH_take (i := 6) (oi := ⟨some 23, .indexAddr 23 (.tmp 21) (.tmp 22), _, _, _, none⟩) (v := ?_) rfl (by kernel_rfl) (by kernel_rfl) (by kernel_rfl) (fun _ _ _ h => h) (Or.inl ⟨by rfl, ?_⟩) hHeld ?_
          rotate_left
          · intro W _; go_simp; try with_reducible rfl
          try simp only [Act.put, List.setIfInBounds_toArray, List.set_cons_zero, List.set_cons_succ]
          refine wpAnyH_take (i := 7) (oi := ⟨some 24, .load 50 (.tmp 23), _, _, _, none⟩) (v := .agg (lc y).toArray) rfl (by kernel_rfl) (by kernel_rfl) (by kernel_rfl) (fun _ _ _ h => h) (yieldsIf_load_mid (by rfl) _ _ rfl b2 (off2 + k * 64) rfl (lc y) _ (fun W h => rangeAt_below h hgi.out) Tryz.underlying50 rfl H6.out) hHeld ?_
          try simp only [Act.put, List.setIfInBounds_toArray, List.set_cons_zero, List.set_cons_succ]
          refine wpAnyH_take (i := 8) (oi := ⟨some 25, .binOp .neq 50 (.tmp 20) (.tmp 24) 50, _, _, _, none⟩) (v := .bool true) rfl (by kernel_rfl) (by kernel_rfl) (by kernel_rfl) (fun _ _ _ h => h) (yieldsIf_eqE (by rfl) .neq 50 50 (.tmp 20) (.tmp 24) rfl _ _ rfl rfl guardL _ e1.out) hHeld ?_
          try simp only [Act.put, List.setIfInBounds_toArray, List.set_cons_zero, List.set_cons_succ]
          refine wpAnyH_done (by kernel_rfl) ?_ _
          -- END Same true
          go_wp2_with fail
          go_ret
          exact ⟨by rw [hN2.out]; rfl, hHeld⟩
        · have e1 := Lib.hid (show ∀ W : World, (binOp .neq 50 (.agg (lc x).toArray) (.agg (lc y).toArray)).run Tryz.prog W = .ok (.bool false) W from fun W => by rw [neqL W x y hx hy, hsxy]; rfl)
          have hs2 := Lib.hid (hs1.out hsxy)
          clear hsxy HN hs1
          go_wp2_with fail
          -- REGION Same false
          refine wp_region_held_drew (S := fun W => Below w.heap.size w W) (by kernel_rfl) (below_drew hB) (fun hHeld => ?_)
          refine wpAnyH_take (i := 0) (oi := ⟨some 17, .move (.tmp 0), _, _, _, none⟩) (v := ?_) rfl (by kernel_rfl) (by kernel_rfl) (by kernel_rfl) (fun _ _ _ h => h) (Or.inl ⟨by rfl, ?_⟩) hHeld ?_
          rotate_left
          · intro W _; go_simp; try with_reducible rfl
          try simp only [Act.put, List.setIfInBounds_toArray, List.set_cons_zero, List.set_cons_succ]
          refine wpAnyH_take (i := 1) (oi := ⟨some 18, .move (.tmp 5), _, _, _, none⟩) (v := ?_) rfl (by kernel_rfl) (by kernel_rfl) (by kernel_rfl) (fun _ _ _ h => h) (Or.inl ⟨by rfl, ?_⟩) hHeld ?_
          rotate_left
          · intro W _; go_simp; try with_reducible rfl
          try simp only [Act.put, List.setIfInBounds_toArray, List.set_cons_zero, List.set_cons_succ]
          refine wpAnyH_take (i := 2) (oi := ⟨some 19, .indexAddr 23 (.tmp 17) (.tmp 18), _, _, _, none⟩) (v := ?_) rfl (by kernel_rfl) (by kernel_rfl) (by kernel_rfl) (fun _ _ _ h => h) (Or.inl ⟨by rfl, ?_⟩) hHeld ?_
          rotate_left
          · intro W _; go_simp; try with_reducible rfl
          try simp only [Act.put, List.setIfInBounds_toArray, List.set_cons_zero, List.set_cons_succ]
          refine wpAnyH_take (i := 3) (oi := ⟨some 20, .load 50 (.tmp 19), _, _, _, none⟩) (v := .agg (lc x).toArray) rfl (by kernel_rfl) (by kernel_rfl) (by kernel_rfl) (fun _ _ _ h => h) (yieldsIf_load_mid (by rfl) _ _ rfl bb (off + k * 64) rfl (lc x) _ (fun W h => rangeAt_below h hgk.out) Tryz.underlying50 rfl H5.out) hHeld ?_
          try simp only [Act.put, List.setIfInBounds_toArray, List.set_cons_zero, List.set_cons_succ]
          refine wpAnyH_take (i := 4) (oi := ⟨some 21, .move (.tmp 1), _, _, _, none⟩) (v := ?_) rfl (by kernel_rfl) (by kernel_rfl) (by kernel_rfl) (fun _ _ _ h => h) (Or.inl ⟨by rfl, ?_⟩) hHeld ?_
          rotate_left
          · intro W _; go_simp; try with_reducible rfl
          try simp only [Act.put, List.setIfInBounds_toArray, List.set_cons_zero, List.set_cons_succ]
          refine wpAnyH_take (i := 5) (oi := ⟨some 22, .move (.tmp 5), _, _, _, none⟩) (v := ?_) rfl (by kernel_rfl) (by kernel_rfl) (by kernel_rfl) (fun _ _ _ h => h) (Or.inl ⟨by rfl, ?_⟩) hHeld ?_
          rotate_left
          · intro W _; go_simp; try with_reducible rfl
          try simp only [Act.put, List.setIfInBounds_toArray, List.set_cons_zero, List.set_cons_succ]
          refine wpAnyH_take (i := 6) (oi := ⟨some 23, .indexAddr 23 (.tmp 21) (.tmp 22), _, _, _, none⟩) (v := ?_) rfl (by kernel_rfl) (by kernel_rfl) (by kernel_rfl) (fun _ _ _ h => h) (Or.inl ⟨by rfl, ?_⟩) hHeld ?_
          rotate_left
          · intro W _; go_simp; try with_reducible rfl
          try simp only [Act.put, List.setIfInBounds_toArray, List.set_cons_zero, List.set_cons_succ]
          refine wpAnyH_take (i := 7) (oi := ⟨some 24, .load 50 (.tmp 23), _, _, _, none⟩) (v := .agg (lc y).toArray) rfl (by kernel_rfl) (by kernel_rfl) (by kernel_rfl) (fun _ _ _ h => h) (yieldsIf_load_mid (by rfl) _ _ rfl b2 (off2 + k * 64) rfl (lc y) _ (fun W h => rangeAt_below h hgi.out) Tryz.underlying50 rfl H6.out) hHeld ?_
          try simp only [Act.put, List.setIfInBounds_toArray, List.set_cons_zero, List.set_cons_succ]
          refine wpAnyH_take (i := 8) (oi := ⟨some 25, .binOp .neq 50 (.tmp 20) (.tmp 24) 50, _, _, _, none⟩) (v := .bool false) rfl (by kernel_rfl) (by kernel_rfl) (by kernel_rfl) (fun _ _ _ h => h) (yieldsIf_eqE (by rfl) .neq 50 50 (.tmp 20) (.tmp 24) rfl _ _ rfl rfl guardL _ e1.out) hHeld ?_
          try simp only [Act.put, List.setIfInBounds_toArray, List.set_cons_zero, List.set_cons_succ]
          refine wpAnyH_done (by kernel_rfl) ?_ _
          -- END Same false
          go_wp2_with fail
          exact ⟨⟨k + 1, by omega, by go_num, hs2.out, hHeld⟩, by simp [intOf]; omega⟩
      · obtain rfl : k = n := by omega
        have hlt' : ¬ (k : Int) < k := by omega
        have hS := Lib.hid (sameLL_all (l := l) (m := m) (by rw [hl.out, hl2.out]) (fun j hj => hsm j (by rw [← hl.out]; exact hj)))
        clear hsm
        go_wp2_with fail
        go_ret
        exact ⟨by rw [hS.out]; rfl, hB⟩
  · have hnn' : ¬ (n : Int) = n2 := by omega
    have hS : sameLL l m = false := by
      cases e : sameLL l m
      · rfl
      · have := congrArg List.length ((sameLL_iff l m).1 e)
        rw [hl.out, hl2.out] at this
        exact absurd this hnn
    rw [hS]
    go_enter Tryz.func42, Tryz.ntmps42
    go_wp2_with fail
    go_ret
    exact ⟨rfl, Below.refl _ _⟩
end Go.Proofs.YtmfnpjfhijmboaaGreatDoor
