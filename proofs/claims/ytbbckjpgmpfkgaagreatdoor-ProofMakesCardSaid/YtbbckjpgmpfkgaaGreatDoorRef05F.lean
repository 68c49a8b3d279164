/-
  The walks of the reference's layer 5: Get, Drop, Same.
-/
import Derived.Test.YtbbckjpgmpfkgaaGreatDoorRef05E
namespace Go.Proofs.YtbbckjpgmpfkgaaGreatDoor
open Go.RowKit

def findL (l : List Lf) (p : List UInt8) : Option Lf := l.find? fun x => x.path == p
def dropL (l : List Lf) (p : List UInt8) : List Lf := l.filter fun x => !(x.path == p)
def sameLL : List Lf → List Lf → Bool
  | [], [] => true
  | x :: l, y :: m => sameLf x y && sameLL l m
  | _, _ => false
theorem sameLf_iff (x y : Lf) : sameLf x y = true ↔ x = y := by
  obtain ⟨a, b⟩ := x
  obtain ⟨c, d⟩ := y
  simp [sameLf]
theorem sameLL_iff : ∀ l m : List Lf, sameLL l m = true ↔ l = m
  | [], [] => by simp [sameLL]
  | [], _ :: _ => by simp [sameLL]
  | _ :: _, [] => by simp [sameLL]
  | x :: l, y :: m => by
    rw [sameLL, Bool.and_eq_true, sameLf_iff, sameLL_iff l m]
    simp
theorem findL_some {l : List Lf} {p : List UInt8} {k : Nat} (hk : k < l.length) (h1 : ∀ j, j < k → (l.getD j lf0).path ≠ p) (h2 : (l.getD k lf0).path = p) : findL l p = some (l.getD k lf0) := by
  have e : l.getD k lf0 = l[k] := by simp [List.getD, hk]
  rw [e] at h2 ⊢
  rw [findL, List.find?_eq_some_iff_getElem]
  refine ⟨by simpa using h2, k, hk, rfl, fun j hj => ?_⟩
  have := h1 j hj
  simpa [List.getD, show j < l.length by omega] using this
theorem findL_none {l : List Lf} {p : List UInt8} (h1 : ∀ j, j < l.length → (l.getD j lf0).path ≠ p) : findL l p = none := by
  rw [findL, List.find?_eq_none]
  intro x hx
  obtain ⟨j, hj, rfl⟩ := List.getElem_of_mem hx
  have := h1 j hj
  simpa [List.getD, hj] using this
theorem drop_step (l : List Lf) (p : List UInt8) (k : Nat) (h : k < l.length) : dropL (l.take (k + 1)) p = dropL (l.take k) p ++ (if (l.getD k lf0).path = p then [] else [l.getD k lf0]) := by
  rw [take_succ_lf l k h, dropL, dropL, List.filter_append]
  congr 1
  generalize l.getD k lf0 = x
  by_cases hb : x.path = p
  · rw [if_pos hb]; simp [hb]
  · rw [if_neg hb]; simp [hb]
theorem dropL_ok {l : List Lf} (h : oks l) (p : List UInt8) : oks (dropL l p) := fun x hx => h x (List.mem_filter.1 hx).1

set_option maxRecDepth 100000 in
set_option maxHeartbeats 1000000 in
theorem get_ref (w : World) (a : Option Addr) (n c : Nat) (l : List Lf) (hr : RdL w a n c l) (hn : n ≤ 100000) (p : List UInt8) (hp : p.length = 32) :
    Calls Tryz.prog 23 #[.slice a n c, .agg (bs p).toArray] w fun e w' => (∃ x, findL l p = some x ∧ e = .returned (.tuple #[.agg (bs x.val).toArray, .bool true]) ∨ findL l p = none ∧ e = .returned (.tuple #[.agg (bs zero32).toArray, .bool false])) ∧ Below w.heap.size w w' := by
  have hl := Lib.hid hr.len
  have hok := hr.ok
  have H6 := Lib.hid (show (Tryz.prog.info? 24).map (·.size) = some (bs p).length by rw [info_digest, bs_length, hp])
  have HZ := Lib.hid (show (Tryz.prog.info? 24).map (·.size) = some (bs zero32).length by rw [info_digest, bs_length, zero32_length])
  have HO := bs_one zero32
  have HBT := Lib.hid built0
  go_enter Tryz.func23, Tryz.ntmps23
  go_wp2_with ((with_reducible refine wpList_allocB (o := ⟨some 4, _, _, _, _, _⟩) ?_ 24 ?_ zeroD_info ?_); rfl; rfl; intro w0 hr0 hg0 hz0; have hS := OneAt.start w p hr0 hg0)
  clear hr0 hg0 hz0
  go_loopw [6] (fun t wr => ∃ k : Nat, k ≤ n ∧ t = .int .i64 k ∧ (∀ j, j < k → (l.getD j lf0).path ≠ p) ∧ OneAt w wr p zero32) (fun t _ => n - (intOf t).toNat)
  case atStart => exact ⟨0, by omega, rfl, fun j h => absurd h (Nat.not_lt_zero j), hS⟩
  case round =>
    obtain ⟨k, hk, rfl, hne, hS⟩ := hrel
    by_cases hlt : k < n
    · have hlt' : (k : Int) < n := by omega
      obtain ⟨bb, off, rfl, hbb, hel⟩ := hr.elems (by omega)
      have hxo := hok.at (show k < l.length by rw [hl.out]; omega)
      have hgk := Lib.hid (range_path (hel k hlt))
      have hgv := Lib.hid (range_val hxo (hel k hlt))
      have HF := Lib.hid (findL_some (show k < l.length by rw [hl.out]; omega) hne)
      have hne1 := Lib.hid (fun h : (l.getD k lf0).path ≠ p => (show ∀ j, j < k + 1 → (l.getD j lf0).path ≠ p from fun j hj => by
        by_cases hjk : j = k
        · rw [hjk]; exact h
        · exact hne j (by omega)))
      clear hne hel
      generalize l.getD k lf0 = x at *
      have H5 := Lib.hid (show (Tryz.prog.info? 24).map (·.size) = some (bs x.path).length by rw [info_digest, bs_length, hxo.1])
      by_cases heq : x.path = p
      · have e1 := Lib.hid (show ∀ W : World, (binOp .eql 24 (.agg (bs x.path).toArray) (.agg (bs p).toArray)).run Tryz.prog W = .ok (.bool true) W from fun W => by rw [eqD W _ _ hxo.1 hp]; simp [heq])
        have HF1 := Lib.hid (HF.out heq)
        have HV := Lib.hid (show (Tryz.prog.info? 24).map (·.size) = some (bs x.val).length by rw [info_digest, bs_length, hxo.2])
        have HY := Lib.hid (show (bs zero32).length = (bs x.val).length by rw [bs_length, bs_length, zero32_length, hxo.2])
        have HW := bs_one x.val
        clear hne1 HF heq
        go_wp2_with fail
        -- REGION Get true
        refine wp_region_held_drew (S := fun W => OneAt w W p zero32) (by kernel_rfl) hS.drew (fun hHeld => ?_)
        refine wpAnyH_take (i := 0) (oi := ⟨some 13, .move (.tmp 0), _, _, _, none⟩) (v := ?_) rfl (by kernel_rfl) (by kernel_rfl) (by kernel_rfl) (fun _ _ _ h => h) (Or.inl ⟨by rfl, ?_⟩) hHeld ?_
        rotate_left
        · intro W _; go_simp; try with_reducible rfl
        try simp only [Act.put, List.setIfInBounds_toArray, List.set_cons_zero, List.set_cons_succ]
        refine wpAnyH_take (i := 1) (oi := ⟨some 14, .move (.tmp 6), _, _, _, none⟩) (v := ?_) rfl (by kernel_rfl) (by kernel_rfl) (by kernel_rfl) (fun _ _ _ h => h) (Or.inl ⟨by rfl, ?_⟩) hHeld ?_
        rotate_left
        · intro W _; go_simp; try with_reducible rfl
        try simp only [Act.put, List.setIfInBounds_toArray, List.set_cons_zero, List.set_cons_succ]
        refine wpAnyH_take (i := 2) (oi := ⟨some 15, .indexAddr 22 (.tmp 13) (.tmp 14), _, _, _, none⟩) (v := ?_) rfl (by kernel_rfl) (by kernel_rfl) (by kernel_rfl) (fun _ _ _ h => h) (Or.inl ⟨by rfl, ?_⟩) hHeld ?_
        rotate_left
        · intro W _; go_simp; try with_reducible rfl
        try simp only [Act.put, List.setIfInBounds_toArray, List.set_cons_zero, List.set_cons_succ]
        refine wpAnyH_take (i := 3) (oi := ⟨some 16, .fieldAddr 41 (.tmp 15) 0, _, _, _, none⟩) (v := ?_) rfl (by kernel_rfl) (by kernel_rfl) (by kernel_rfl) (fun _ _ _ h => h) (Or.inl ⟨by rfl, ?_⟩) hHeld ?_
        rotate_left
        · intro W _; go_simp; try with_reducible rfl
        try simp only [Act.put, List.setIfInBounds_toArray, List.set_cons_zero, List.set_cons_succ]
        refine wpAnyH_take (i := 4) (oi := ⟨some 17, .load 24 (.tmp 16), _, _, _, none⟩) (v := .agg (bs x.path).toArray) rfl (by kernel_rfl) (by kernel_rfl) (by kernel_rfl) (fun _ _ _ h => h) (yieldsIf_load_mid (by rfl) _ _ rfl bb (off + k * 64) rfl (bs x.path) _ (fun W h => rangeAt_below h.bel hgk.out) Tryz.underlying24 rfl H5.out) hHeld ?_
        try simp only [Act.put, List.setIfInBounds_toArray, List.set_cons_zero, List.set_cons_succ]
        refine wpAnyH_take (i := 5) (oi := ⟨some 18, .load 24 (.tmp 3), _, _, _, none⟩) (v := .agg (bs p).toArray) rfl (by kernel_rfl) (by kernel_rfl) (by kernel_rfl) (fun _ _ _ h => h) (yieldsIf_load_mid (by rfl) _ _ rfl w.heap.size 0 rfl (bs p) _ (fun W h => h.b0.allR) Tryz.underlying24 rfl H6.out) hHeld ?_
        try simp only [Act.put, List.setIfInBounds_toArray, List.set_cons_zero, List.set_cons_succ]
        refine wpAnyH_take (i := 6) (oi := ⟨some 19, .binOp .eql 24 (.tmp 17) (.tmp 18) 24, _, _, _, none⟩) (v := .bool true) rfl (by kernel_rfl) (by kernel_rfl) (by kernel_rfl) (fun _ _ _ h => h) (yieldsIf_eqE (by rfl) .eql 24 24 (.tmp 17) (.tmp 18) rfl _ _ rfl rfl guardR _ e1.out) hHeld ?_
        try simp only [Act.put, List.setIfInBounds_toArray, List.set_cons_zero, List.set_cons_succ]
        refine wpAnyH_done (by kernel_rfl) ?_ _
        -- END Get true
        have hgv2 := rangeAt_below hHeld.bel hgv.out
        have hb1 := hHeld.b1
        go_wp2_with (first | ((with_reducible refine wpList_loadM (o := ⟨some 24, _, _, _, _, _⟩) ?_ bb (off + k * 64 + 32) 24 (.tmp 23) ?_ ?_ hgv2 Tryz.underlying24 ?_ HV.out ?_); rfl; rfl; rfl; rfl) | ((with_reducible refine wpList_storeB (o := ⟨none, .store 24 (.tmp 4) (.tmp 24), _, _, _, _⟩) ?_ 24 (.tmp 4) (.tmp 24) ?_ ?_ ?_ hb1 HV.out HY.out HW ?_); rfl; rfl; rfl; rfl; intro w8 hb8 hg8 hz8))
        try simp only [Exit.inBlock, Exit.then]
        refine bodyPost_ret (results_digest2 rfl _ _ _ _ _ hxo.2 rfl hb8.at_) rfl ⟨⟨x, .inl ⟨HF1.out, rfl⟩⟩, ?_⟩
        exact hHeld.bel.grown hg8 hHeld.bel.size (fun k e => by cases e; omega)
      · have e1 := Lib.hid (show ∀ W : World, (binOp .eql 24 (.agg (bs x.path).toArray) (.agg (bs p).toArray)).run Tryz.prog W = .ok (.bool false) W from fun W => by rw [eqD W _ _ hxo.1 hp]; simp [heq])
        have hne2 := Lib.hid (hne1.out heq)
        clear hne1 HF heq
        go_wp2_with fail
        -- REGION Get false
        refine wp_region_held_drew (S := fun W => OneAt w W p zero32) (by kernel_rfl) hS.drew (fun hHeld => ?_)
        refine wpAnyH_take (i := 0) (oi := ⟨some 13, .move (.tmp 0), _, _, _, none⟩) (v := ?_) rfl (by kernel_rfl) (by kernel_rfl) (by kernel_rfl) (fun _ _ _ h => h) (Or.inl ⟨by rfl, ?_⟩) hHeld ?_
        rotate_left
        · intro W _; go_simp; try with_reducible rfl
        try simp only [Act.put, List.setIfInBounds_toArray, List.set_cons_zero, List.set_cons_succ]
        refine wpAnyH_take (i := 1) (oi := ⟨some 14, .move (.tmp 6), _, _, _, none⟩) (v := ?_) rfl (by kernel_rfl) (by kernel_rfl) (by kernel_rfl) (fun _ _ _ h => h) (Or.inl ⟨by rfl, ?_⟩) hHeld ?_
        rotate_left
        · intro W _; go_simp; try with_reducible rfl
        try simp only [Act.put, List.setIfInBounds_toArray, List.set_cons_zero, List.set_cons_succ]
        refine wpAnyH_take (i := 2) (oi := ⟨some 15, .indexAddr 22 (.tmp 13) (.tmp 14), _, _, _, none⟩) (v := ?_) rfl (by kernel_rfl) (by kernel_rfl) (by kernel_rfl) (fun _ _ _ h => h) (Or.inl ⟨by rfl, ?_⟩) hHeld ?_
        rotate_left
        · intro W _; go_simp; try with_reducible rfl
        try simp only [Act.put, List.setIfInBounds_toArray, List.set_cons_zero, List.set_cons_succ]
        refine wpAnyH_take (i := 3) (oi := ⟨some 16, .fieldAddr 41 (.tmp 15) 0, _, _, _, none⟩) (v := ?_) rfl (by kernel_rfl) (by kernel_rfl) (by kernel_rfl) (fun _ _ _ h => h) (Or.inl ⟨by rfl, ?_⟩) hHeld ?_
        rotate_left
        · intro W _; go_simp; try with_reducible rfl
        try simp only [Act.put, List.setIfInBounds_toArray, List.set_cons_zero, List.set_cons_succ]
        refine wpAnyH_take (i := 4) (oi := ⟨some 17, .load 24 (.tmp 16), _, _, _, none⟩) (v := .agg (bs x.path).toArray) rfl (by kernel_rfl) (by kernel_rfl) (by kernel_rfl) (fun _ _ _ h => h) (yieldsIf_load_mid (by rfl) _ _ rfl bb (off + k * 64) rfl (bs x.path) _ (fun W h => rangeAt_below h.bel hgk.out) Tryz.underlying24 rfl H5.out) hHeld ?_
        try simp only [Act.put, List.setIfInBounds_toArray, List.set_cons_zero, List.set_cons_succ]
        refine wpAnyH_take (i := 5) (oi := ⟨some 18, .load 24 (.tmp 3), _, _, _, none⟩) (v := .agg (bs p).toArray) rfl (by kernel_rfl) (by kernel_rfl) (by kernel_rfl) (fun _ _ _ h => h) (yieldsIf_load_mid (by rfl) _ _ rfl w.heap.size 0 rfl (bs p) _ (fun W h => h.b0.allR) Tryz.underlying24 rfl H6.out) hHeld ?_
        try simp only [Act.put, List.setIfInBounds_toArray, List.set_cons_zero, List.set_cons_succ]
        refine wpAnyH_take (i := 6) (oi := ⟨some 19, .binOp .eql 24 (.tmp 17) (.tmp 18) 24, _, _, _, none⟩) (v := .bool false) rfl (by kernel_rfl) (by kernel_rfl) (by kernel_rfl) (fun _ _ _ h => h) (yieldsIf_eqE (by rfl) .eql 24 24 (.tmp 17) (.tmp 18) rfl _ _ rfl rfl guardR _ e1.out) hHeld ?_
        try simp only [Act.put, List.setIfInBounds_toArray, List.set_cons_zero, List.set_cons_succ]
        refine wpAnyH_done (by kernel_rfl) ?_ _
        -- END Get false
        go_wp2_with fail
        exact ⟨⟨k + 1, by omega, by go_num, hne2.out, hHeld⟩, by simp [intOf]; omega⟩
    · obtain rfl : k = n := by omega
      have hlt' : ¬ (k : Int) < k := by omega
      have HF := Lib.hid (findL_none (fun j hj => hne j (by rw [← hl.out]; exact hj)))
      clear hne
      have hb1 := hS.b1
      go_wp2_with (first | ((with_reducible refine wpList_buildI (dst := some 25) HBT.out ?_ ?_); rfl) | ((with_reducible refine wpList_storeB (o := ⟨none, .store 24 (.tmp 4) (.tmp 25), _, _, _, _⟩) ?_ 24 (.tmp 4) (.tmp 25) ?_ ?_ ?_ hb1 HZ.out rfl HO ?_); rfl; rfl; rfl; rfl; intro w8 hb8 hg8 hz8))
      try simp only [Exit.inBlock, Exit.then]
      refine bodyPost_ret (results_digest2 rfl _ _ _ _ _ zero32_length rfl hb8.at_) rfl ⟨⟨lf0, .inr ⟨HF.out, rfl⟩⟩, ?_⟩
      exact hS.bel.grown hg8 hS.bel.size (fun k e => by cases e; omega)

/-- what the walk of Drop knows of a world: the path, the row that grows -/
structure BoxL (w W : World) (p : List UInt8) : Prop where
  box : Blk W w.heap.size 24 (bs p)
  bel : Below w.heap.size w W
theorem BoxL.below {w W W' : World} {p : List UInt8} (h : BoxL w W p) (hb : Below W.heap.size W W') : BoxL w W' p := ⟨h.box.below hb, Bt h.bel hb⟩
theorem BoxL.drew {w W : World} {p : List UInt8} (h : BoxL w W p) : BoxL w W.drew p := h.below ⟨rfl, rfl, rfl, Nat.le_refl _, fun _ _ => rfl⟩

theorem sameLL_ne {l m : List Lf} {k : Nat} (_hk : k < l.length) (h : sameLf (l.getD k lf0) (m.getD k lf0) = false) : sameLL l m = false := by
  cases e : sameLL l m
  · rfl
  · rw [(sameLL_iff l m).1 e] at h
    rw [(sameLf_iff _ _).2 rfl] at h
    cases h
theorem sameLL_all {l m : List Lf} (hl : l.length = m.length) (h : ∀ j, j < l.length → sameLf (l.getD j lf0) (m.getD j lf0) = true) : sameLL l m = true := by
  refine (sameLL_iff l m).2 (List.ext_getElem hl fun j h1 h2 => ?_)
  have := (sameLf_iff _ _).1 (h j h1)
  simpa [List.getD, h1, h2] using this

end Go.Proofs.YtbbckjpgmpfkgaaGreatDoor
