/-
  The walks of the reference's layer 5: Twice, Root, Get, Drop, Same.
-/
import Derived.Test.YtbbckjpgmpfkgaaGreatDoorRef05D
import Derived.Test.YtbbckjpgmpfkgaaGreatDoorLibE
namespace Go.Proofs.YtbbckjpgmpfkgaaGreatDoor
open Go.RowKit

theorem below_drew {w W : World} (h : Below w.heap.size w W) : Below w.heap.size w W.drew := ⟨h.os, h.tape, h.output, h.size, h.block⟩

/-- are two paths of a list the same? -/
def twiceB : List Lf → Bool
  | [] => false
  | x :: l => l.any (fun y => x.path == y.path) || twiceB l
theorem twiceB_iff : ∀ l : List Lf, twiceB l = false ↔ unlike l
  | [] => by simp [twiceB, unlike]
  | x :: l => by
    have ih := twiceB_iff l
    rw [twiceB, Bool.or_eq_false_iff, ih, unlike, unlike, List.pairwise_cons]
    simp
theorem twiceB_false {l : List Lf} (h : unlike l) : twiceB l = false := (twiceB_iff l).2 h
theorem twiceB_true {l : List Lf} (h : ¬ unlike l) : twiceB l = true := by
  cases e : twiceB l
  · exact absurd ((twiceB_iff l).1 e) h
  · rfl
theorem unlike_take {l : List Lf} (i : Nat) (hi : i < l.length) (h : unlike (l.take i)) (hk : ∀ k, k < i → (l.getD k lf0).path ≠ (l.getD i lf0).path) : unlike (l.take (i + 1)) := by
  rw [take_succ_lf l i hi, unlike, List.pairwise_append]
  refine ⟨h, by simp, fun x hx y hy => ?_⟩
  obtain rfl : y = l.getD i lf0 := by simpa using hy
  obtain ⟨k, hk1, hk2⟩ := List.getElem_of_mem hx
  have hki : k < i := by simp at hk1; omega
  have := hk k hki
  rw [← hk2]
  simpa [List.getD, show k < l.length by omega] using this
theorem not_unlike {l : List Lf} {i k : Nat} (hk : k < i) (hi : i < l.length) (h : (l.getD k lf0).path = (l.getD i lf0).path) : ¬ unlike l := fun hu => by
  have := List.pairwise_iff_getElem.1 hu k i (by omega) hi hk
  simp [List.getD, hi, show k < l.length by omega] at h
  exact this h

set_option maxRecDepth 100000 in
set_option maxHeartbeats 1000000 in
theorem twice_ref (w : World) (a : Option Addr) (n c : Nat) (l : List Lf) (hr : RdL w a n c l) (hn : n ≤ 100000) :
    Calls Tryz.prog 7 #[.slice a n c] w fun e w' => e = .returned (.bool (twiceB l)) ∧ Below w.heap.size w w' := by
  have hl := Lib.hid hr.len
  have hok := hr.ok
  go_enter Tryz.func7, Tryz.ntmps7
  go_wp2_with fail
  go_loopw [2, 3, 4] (fun r t _ wr => ∃ i : Nat, i ≤ n ∧ t = .int .i64 i ∧ r = .bool false ∧ unlike (l.take i) ∧ Below w.heap.size w wr) (fun _ t _ _ => n - (intOf t).toNat)
  case atStart => exact ⟨0, by omega, rfl, rfl, List.Pairwise.nil, Below.refl _ _⟩
  case round =>
    obtain ⟨i, hi, rfl, rfl, hu, hB⟩ := hrel
    by_cases hlt : i < n
    · have hlt' : (i : Int) < n := by omega
      obtain ⟨bb, off, rfl, hbb, hel⟩ := hr.elems (by omega)
      go_wp2_with fail
      go_loopw [2, 4] (fun r t wr => ∃ k : Nat, k ≤ i ∧ t = .int .i64 k ∧ r = .bool false ∧ (∀ j, j < k → (l.getD j lf0).path ≠ (l.getD i lf0).path) ∧ Below w.heap.size w wr) (fun _ t _ => i - (intOf t).toNat)
      case atStart => exact ⟨0, by omega, rfl, rfl, fun j h => absurd h (Nat.not_lt_zero j), hB⟩
      case round =>
        obtain ⟨k, hk, rfl, rfl, hne, hB⟩ := hrel
        by_cases hki : k < i
        · have hki' : (k : Int) < i := by omega
          have hkn' : (k : Int) < n := by omega
          have hgi := Lib.hid (range_path (hel i hlt))
          have hgk := Lib.hid (range_path (hel k (by omega)))
          have hi1 := (hok.at (show i < l.length by rw [hl.out]; omega)).1
          have hk1 := (hok.at (show k < l.length by rw [hl.out]; omega)).1
          have hT := Lib.hid (fun h => twiceB_true (not_unlike hki (show i < l.length by rw [hl.out]; omega) h))
          generalize (l.getD i lf0).path = pi at *
          generalize hpk : (l.getD k lf0).path = pk at *
          have H5 := Lib.hid (show (Tryz.prog.info? 24).map (·.size) = some (bs pi).length by rw [info_digest, bs_length, hi1])
          have H6 := Lib.hid (show (Tryz.prog.info? 24).map (·.size) = some (bs pk).length by rw [info_digest, bs_length, hk1])
          by_cases heq : pk = pi
          · have e1 := Lib.hid (show ∀ W : World, (binOp .eql 24 (.agg (bs pi).toArray) (.agg (bs pk).toArray)).run Tryz.prog W = .ok (.bool true) W from fun W => by rw [eqD W _ _ hi1 hk1]; simp [heq])
            have hT2 := hT.out heq
            clear hne hel hu hpk hT
            go_wp2_with fail
            -- REGION Twice true
            refine wp_region_held_drew (S := fun W => Below w.heap.size w W) (by kernel_rfl) (below_drew hB) (fun hHeld => ?_)
            refine wpAnyH_take (i := 0) (oi := ⟨some 16, .move (.tmp 0), _, _, _, none⟩) (v := ?_) rfl (by kernel_rfl) (by kernel_rfl) (by kernel_rfl) (fun _ _ _ h => h) (Or.inl ⟨by rfl, ?_⟩) hHeld ?_
            rotate_left
            · intro W _; go_simp; try with_reducible rfl
            try simp only [Act.put, List.setIfInBounds_toArray, List.set_cons_zero, List.set_cons_succ]
            refine wpAnyH_take (i := 1) (oi := ⟨some 17, .move (.tmp 3), _, _, _, none⟩) (v := ?_) rfl (by kernel_rfl) (by kernel_rfl) (by kernel_rfl) (fun _ _ _ h => h) (Or.inl ⟨by rfl, ?_⟩) hHeld ?_
            rotate_left
            · intro W _; go_simp; try with_reducible rfl
            try simp only [Act.put, List.setIfInBounds_toArray, List.set_cons_zero, List.set_cons_succ]
            refine wpAnyH_take (i := 2) (oi := ⟨some 18, .indexAddr 22 (.tmp 16) (.tmp 17), _, _, _, none⟩) (v := ?_) rfl (by kernel_rfl) (by kernel_rfl) (by kernel_rfl) (fun _ _ _ h => h) (Or.inl ⟨by rfl, ?_⟩) hHeld ?_
            rotate_left
            · intro W _; go_simp; try with_reducible rfl
            try simp only [Act.put, List.setIfInBounds_toArray, List.set_cons_zero, List.set_cons_succ]
            refine wpAnyH_take (i := 3) (oi := ⟨some 19, .fieldAddr 41 (.tmp 18) 0, _, _, _, none⟩) (v := ?_) rfl (by kernel_rfl) (by kernel_rfl) (by kernel_rfl) (fun _ _ _ h => h) (Or.inl ⟨by rfl, ?_⟩) hHeld ?_
            rotate_left
            · intro W _; go_simp; try with_reducible rfl
            try simp only [Act.put, List.setIfInBounds_toArray, List.set_cons_zero, List.set_cons_succ]
            refine wpAnyH_take (i := 4) (oi := ⟨some 20, .load 24 (.tmp 19), _, _, _, none⟩) (v := .agg (bs pi).toArray) rfl (by kernel_rfl) (by kernel_rfl) (by kernel_rfl) (fun _ _ _ h => h) (yieldsIf_load_mid (by rfl) _ _ rfl bb (off + i * 64) rfl (bs pi) _ (fun W h => rangeAt_below h hgi.out) Tryz.underlying24 rfl H5.out) hHeld ?_
            try simp only [Act.put, List.setIfInBounds_toArray, List.set_cons_zero, List.set_cons_succ]
            refine wpAnyH_take (i := 5) (oi := ⟨some 21, .move (.tmp 0), _, _, _, none⟩) (v := ?_) rfl (by kernel_rfl) (by kernel_rfl) (by kernel_rfl) (fun _ _ _ h => h) (Or.inl ⟨by rfl, ?_⟩) hHeld ?_
            rotate_left
            · intro W _; go_simp; try with_reducible rfl
            try simp only [Act.put, List.setIfInBounds_toArray, List.set_cons_zero, List.set_cons_succ]
            refine wpAnyH_take (i := 6) (oi := ⟨some 22, .move (.tmp 4), _, _, _, none⟩) (v := ?_) rfl (by kernel_rfl) (by kernel_rfl) (by kernel_rfl) (fun _ _ _ h => h) (Or.inl ⟨by rfl, ?_⟩) hHeld ?_
            rotate_left
            · intro W _; go_simp; try with_reducible rfl
            try simp only [Act.put, List.setIfInBounds_toArray, List.set_cons_zero, List.set_cons_succ]
            refine wpAnyH_take (i := 7) (oi := ⟨some 23, .indexAddr 22 (.tmp 21) (.tmp 22), _, _, _, none⟩) (v := ?_) rfl (by kernel_rfl) (by kernel_rfl) (by kernel_rfl) (fun _ _ _ h => h) (Or.inl ⟨by rfl, ?_⟩) hHeld ?_
            rotate_left
            · intro W _; go_simp; try with_reducible rfl
            try simp only [Act.put, List.setIfInBounds_toArray, List.set_cons_zero, List.set_cons_succ]
            refine wpAnyH_take (i := 8) (oi := ⟨some 24, .fieldAddr 41 (.tmp 23) 0, _, _, _, none⟩) (v := ?_) rfl (by kernel_rfl) (by kernel_rfl) (by kernel_rfl) (fun _ _ _ h => h) (Or.inl ⟨by rfl, ?_⟩) hHeld ?_
            rotate_left
            · intro W _; go_simp; try with_reducible rfl
            try simp only [Act.put, List.setIfInBounds_toArray, List.set_cons_zero, List.set_cons_succ]
            refine wpAnyH_take (i := 9) (oi := ⟨some 25, .load 24 (.tmp 24), _, _, _, none⟩) (v := .agg (bs pk).toArray) rfl (by kernel_rfl) (by kernel_rfl) (by kernel_rfl) (fun _ _ _ h => h) (yieldsIf_load_mid (by rfl) _ _ rfl bb (off + k * 64) rfl (bs pk) _ (fun W h => rangeAt_below h hgk.out) Tryz.underlying24 rfl H6.out) hHeld ?_
            try simp only [Act.put, List.setIfInBounds_toArray, List.set_cons_zero, List.set_cons_succ]
            refine wpAnyH_take (i := 10) (oi := ⟨some 26, .binOp .eql 24 (.tmp 20) (.tmp 25) 24, _, _, _, none⟩) (v := .bool true) rfl (by kernel_rfl) (by kernel_rfl) (by kernel_rfl) (fun _ _ _ h => h) (yieldsIf_eqE (by rfl) .eql 24 24 (.tmp 20) (.tmp 25) rfl _ _ rfl rfl guardR _ e1.out) hHeld ?_
            try simp only [Act.put, List.setIfInBounds_toArray, List.set_cons_zero, List.set_cons_succ]
            refine wpAnyH_done (by kernel_rfl) ?_ _
            -- END Twice true
            go_wp2_with fail
            go_ret
            exact ⟨by rw [hT2]; rfl, hHeld⟩
          · have e1 := Lib.hid (show ∀ W : World, (binOp .eql 24 (.agg (bs pi).toArray) (.agg (bs pk).toArray)).run Tryz.prog W = .ok (.bool false) W from fun W => by rw [eqD W _ _ hi1 hk1]; simp [Ne.symm heq])
            have hne1 := Lib.hid (show ∀ j, j < k + 1 → (l.getD j lf0).path ≠ pi from fun j hj => by
              by_cases hjk : j = k
              · rw [hjk, hpk]; exact heq
              · exact hne j (by omega))
            clear hne hel hu hpk hT
            go_wp2_with fail
            -- REGION Twice false
            refine wp_region_held_drew (S := fun W => Below w.heap.size w W) (by kernel_rfl) (below_drew hB) (fun hHeld => ?_)
            refine wpAnyH_take (i := 0) (oi := ⟨some 16, .move (.tmp 0), _, _, _, none⟩) (v := ?_) rfl (by kernel_rfl) (by kernel_rfl) (by kernel_rfl) (fun _ _ _ h => h) (Or.inl ⟨by rfl, ?_⟩) hHeld ?_
            rotate_left
            · intro W _; go_simp; try with_reducible rfl
            try simp only [Act.put, List.setIfInBounds_toArray, List.set_cons_zero, List.set_cons_succ]
            refine wpAnyH_take (i := 1) (oi := ⟨some 17, .move (.tmp 3), _, _, _, none⟩) (v := ?_) rfl (by kernel_rfl) (by kernel_rfl) (by kernel_rfl) (fun _ _ _ h => h) (Or.inl ⟨by rfl, ?_⟩) hHeld ?_
            rotate_left
            · intro W _; go_simp; try with_reducible rfl
            try simp only [Act.put, List.setIfInBounds_toArray, List.set_cons_zero, List.set_cons_succ]
            refine wpAnyH_take (i := 2) (oi := ⟨some 18, .indexAddr 22 (.tmp 16) (.tmp 17), _, _, _, none⟩) (v := ?_) rfl (by kernel_rfl) (by kernel_rfl) (by kernel_rfl) (fun _ _ _ h => h) (Or.inl ⟨by rfl, ?_⟩) hHeld ?_
            rotate_left
            · intro W _; go_simp; try with_reducible rfl
            try simp only [Act.put, List.setIfInBounds_toArray, List.set_cons_zero, List.set_cons_succ]
            refine wpAnyH_take (i := 3) (oi := ⟨some 19, .fieldAddr 41 (.tmp 18) 0, _, _, _, none⟩) (v := ?_) rfl (by kernel_rfl) (by kernel_rfl) (by kernel_rfl) (fun _ _ _ h => h) (Or.inl ⟨by rfl, ?_⟩) hHeld ?_
            rotate_left
            · intro W _; go_simp; try with_reducible rfl
            try simp only [Act.put, List.setIfInBounds_toArray, List.set_cons_zero, List.set_cons_succ]
            refine wpAnyH_take (i := 4) (oi := ⟨some 20, .load 24 (.tmp 19), _, _, _, none⟩) (v := .agg (bs pi).toArray) rfl (by kernel_rfl) (by kernel_rfl) (by kernel_rfl) (fun _ _ _ h => h) (yieldsIf_load_mid (by rfl) _ _ rfl bb (off + i * 64) rfl (bs pi) _ (fun W h => rangeAt_below h hgi.out) Tryz.underlying24 rfl H5.out) hHeld ?_
            try simp only [Act.put, List.setIfInBounds_toArray, List.set_cons_zero, List.set_cons_succ]
            refine wpAnyH_take (i := 5) (oi := ⟨some 21, .move (.tmp 0), _, _, _, none⟩) (v := ?_) rfl (by kernel_rfl) (by kernel_rfl) (by kernel_rfl) (fun _ _ _ h => h) (Or.inl ⟨by rfl, ?_⟩) hHeld ?_
            rotate_left
            · intro W _; go_simp; try with_reducible rfl
            try simp only [Act.put, List.setIfInBounds_toArray, List.set_cons_zero, List.set_cons_succ]
            refine wpAnyH_take (i := 6) (oi := ⟨some 22, .move (.tmp 4), _, _, _, none⟩) (v := ?_) rfl (by kernel_rfl) (by kernel_rfl) (by kernel_rfl) (fun _ _ _ h => h) (Or.inl ⟨by rfl, ?_⟩) hHeld ?_
            rotate_left
            · intro W _; go_simp; try with_reducible rfl
            try simp only [Act.put, List.setIfInBounds_toArray, List.set_cons_zero, List.set_cons_succ]
            refine wpAnyH_take (i := 7) (oi := ⟨some 23, .indexAddr 22 (.tmp 21) (.tmp 22), _, _, _, none⟩) (v := ?_) rfl (by kernel_rfl) (by kernel_rfl) (by kernel_rfl) (fun _ _ _ h => h) (Or.inl ⟨by rfl, ?_⟩) hHeld ?_
            rotate_left
            · intro W _; go_simp; try with_reducible rfl
            try simp only [Act.put, List.setIfInBounds_toArray, List.set_cons_zero, List.set_cons_succ]
            refine wpAnyH_take (i := 8) (oi := ⟨some 24, .fieldAddr 41 (.tmp 23) 0, _, _, _, none⟩) (v := ?_) rfl (by kernel_rfl) (by kernel_rfl) (by kernel_rfl) (fun _ _ _ h => h) (Or.inl ⟨by rfl, ?_⟩) hHeld ?_
            rotate_left
            · intro W _; go_simp; try with_reducible rfl
            try simp only [Act.put, List.setIfInBounds_toArray, List.set_cons_zero, List.set_cons_succ]
            refine wpAnyH_take (i := 9) (oi := ⟨some 25, .load 24 (.tmp 24), _, _, _, none⟩) (v := .agg (bs pk).toArray) rfl (by kernel_rfl) (by kernel_rfl) (by kernel_rfl) (fun _ _ _ h => h) (yieldsIf_load_mid (by rfl) _ _ rfl bb (off + k * 64) rfl (bs pk) _ (fun W h => rangeAt_below h hgk.out) Tryz.underlying24 rfl H6.out) hHeld ?_
            try simp only [Act.put, List.setIfInBounds_toArray, List.set_cons_zero, List.set_cons_succ]
            refine wpAnyH_take (i := 10) (oi := ⟨some 26, .binOp .eql 24 (.tmp 20) (.tmp 25) 24, _, _, _, none⟩) (v := .bool false) rfl (by kernel_rfl) (by kernel_rfl) (by kernel_rfl) (fun _ _ _ h => h) (yieldsIf_eqE (by rfl) .eql 24 24 (.tmp 20) (.tmp 25) rfl _ _ rfl rfl guardR _ e1.out) hHeld ?_
            try simp only [Act.put, List.setIfInBounds_toArray, List.set_cons_zero, List.set_cons_succ]
            refine wpAnyH_done (by kernel_rfl) ?_ _
            -- END Twice false
            go_wp2_with fail
            exact ⟨⟨k + 1, by omega, by go_num, rfl, hne1.out, hHeld⟩, by simp [intOf]; omega⟩
        · obtain rfl : k = i := by omega
          have hki' : ¬ (k : Int) < k := by omega
          have hu1 := Lib.hid (unlike_take k (show k < l.length by rw [hl.out]; omega) hu hne)
          clear hne hel hu
          go_wp2_with fail
          exact ⟨⟨k + 1, by omega, by go_num, rfl, hu1.out, hB⟩, by simp [intOf]; omega⟩
    · obtain rfl : i = n := by omega
      have hlt' : ¬ (i : Int) < i := by omega
      rw [List.take_of_length_le (by rw [hl.out]; exact Nat.le_refl _)] at hu
      have hT := Lib.hid (twiceB_false hu)
      clear hu
      go_wp2_with fail
      go_ret
      exact ⟨by rw [hT.out]; rfl, hB⟩

/-- what Root answers -/
def rootI (x : Int) (l : List Lf) : List UInt8 := if 0 ≤ x ∧ x ≤ 32 then (if l.length ≤ 4096 then (if twiceB l then zero32 else rootL x.toNat l) else zero32) else zero32
def rootE (x : Int) (l : List Lf) : Int := if 0 ≤ x ∧ x ≤ 32 then (if l.length ≤ 4096 then (if twiceB l then 30 else 0) else 2) else 1
theorem rootI_length (x : Int) (l : List Lf) : (rootI x l).length = 32 := by
  unfold rootI
  split
  · split
    · split
      · rfl
      · exact digestF_length _ (by omega) _ _ _
    · rfl
  · rfl

set_option maxRecDepth 100000 in
set_option maxHeartbeats 1000000 in
theorem root_ref (w : World) (x : Int) (a : Option Addr) (n c : Nat) (l : List Lf) (hr : RdL w a n c l) (hT : Tab w 0) (hn : n ≤ 100000) :
    Calls Tryz.prog 22 #[.int .i64 x, .slice a n c] w fun e w' => e = .returned (.tuple #[.agg (bs (rootI x l)).toArray, .int .i64 (rootE x l)]) ∧ Below w.heap.size w w' := by
  have hl := hr.len
  by_cases hx : 0 ≤ x ∧ x ≤ 32
  · have hd : (decide (0 ≤ x) && decide (x ≤ 32)) = true := by simp; omega
    by_cases h4 : n ≤ 4096
    · have h4' : ¬ (4096 : Int) < n := by omega
      cases ht : twiceB l
      · have eI : rootI x l = rootL x.toNat l := by rw [rootI, if_pos hx, if_pos (by omega), ht]; rfl
        have eE : rootE x l = 0 := by rw [rootE, if_pos hx, if_pos (by omega), ht]; rfl
        rw [eI, eE]
        obtain ⟨xn, rfl⟩ := Int.eq_ofNat_of_zero_le hx.1
        rw [Int.toNat_natCast]
        have hun := (twiceB_iff l).1 ht
        have hql : (rootL xn l).length = 32 := digestF_length _ (by omega) _ _ _
        have HDG := Lib.hid (fun (W : World) (h1 : RdL W a n c l) (h2 : Tab W 0) => digest_ref xn (by omega) 256 W a n c l 0 rfl h1 hun (fun _ _ _ _ i hi => absurd hi (Nat.not_lt_zero i)) h2 hn)
        rw [show digestF xn 256 l 0 = rootL xn l from rfl, show ((0 : Nat) : Int) = 0 from rfl] at HDG
        have HTW := Lib.hid (fun (W : World) (h1 : RdL W a n c l) => twice_ref W a n c l h1 hn)
        rw [ht] at HTW
        generalize rootL xn l = q at *
        have H1 := Lib.hid (show (Tryz.prog.info? 24).map (·.size) = some (bs q).length by rw [info_digest, bs_length, hql])
        have H2 := Lib.hid (show (bs zero32).length = (bs q).length by rw [bs_length, bs_length, zero32_length, hql])
        have H3 := bs_one q
        clear hx eI eE ht hun hl
        go_enter Tryz.func22, Tryz.ntmps22
        go_wp2_with ((with_reducible refine wpList_allocB (o := ⟨some 4, _, _, _, _, _⟩) ?_ 24 ?_ zeroD_info ?_); rfl; rfl; intro w0 hr0 hg0 hz0)
        have hB0 : Below w.heap.size w w0 := (Below.refl _ w).grown hg0 (Nat.le_refl _) (fun k e => by cases e)
        refine (width_ref w0 _).mono ?_
        rintro e w1 ⟨rfl, rfl⟩
        rw [hd]
        go_wp2_with fail
        refine (HTW.out w0 (hr.below hB0)).mono ?_
        rintro e w2 ⟨rfl, hB2⟩
        have hB02 := Bt hB0 hB2
        go_wp2_with fail
        refine (HDG.out w2 (hr.below hB02) (hT.below hB02)).mono ?_
        rintro e w3 ⟨rfl, hB3⟩
        have hr3 := (hr0.below hB2).below hB3
        go_wp2_with ((with_reducible refine wpList_storeB (o := ⟨none, .store 24 (.tmp 4) (.tmp 22), _, _, _, _⟩) ?_ 24 (.tmp 4) (.tmp 22) ?_ ?_ ?_ hr3 H1.out H2.out H3 ?_); rfl; rfl; rfl; rfl; intro w8 hb8 hg8 hz8)
        try simp only [Exit.inBlock, Exit.then]
        refine bodyPost_ret (results_digest2 rfl _ _ _ _ _ hql rfl hb8.at_) rfl ⟨rfl, ?_⟩
        exact below_of_grown' (Bt hB02 hB3) hg8 (Nat.le_refl _)
      · have eI : rootI x l = zero32 := by rw [rootI, if_pos hx, if_pos (by omega), ht]; rfl
        have eE : rootE x l = 30 := by rw [rootE, if_pos hx, if_pos (by omega), ht]; rfl
        rw [eI, eE]
        have HTW := Lib.hid (fun (W : World) (h1 : RdL W a n c l) => twice_ref W a n c l h1 hn)
        rw [ht] at HTW
        clear hx eI eE ht hl
        have H5 := Lib.hid (show (Tryz.prog.info? 24).map (·.size) = some (bs zero32).length by rw [info_digest, bs_length, zero32_length])
        have H7 := bs_one zero32
        have HBT := Lib.hid built0
        go_enter Tryz.func22, Tryz.ntmps22
        go_wp2_with ((with_reducible refine wpList_allocB (o := ⟨some 4, _, _, _, _, _⟩) ?_ 24 ?_ zeroD_info ?_); rfl; rfl; intro w0 hr0 hg0 hz0)
        have hB0 : Below w.heap.size w w0 := (Below.refl _ w).grown hg0 (Nat.le_refl _) (fun k e => by cases e)
        refine (width_ref w0 x).mono ?_
        rintro e w1 ⟨rfl, rfl⟩
        rw [hd]
        go_wp2_with fail
        refine (HTW.out w0 (hr.below hB0)).mono ?_
        rintro e w2 ⟨rfl, hB2⟩
        replace hr0 := hr0.below hB2
        go_wp2_with (first | ((with_reducible refine wpList_buildI (dst := some 19) HBT.out ?_ ?_); rfl) | ((with_reducible refine wpList_storeB (o := ⟨none, .store 24 (.tmp 4) (.tmp 19), _, _, _, _⟩) ?_ 24 (.tmp 4) (.tmp 19) ?_ ?_ ?_ hr0 H5.out rfl H7 ?_); rfl; rfl; rfl; rfl; intro w8 hb8 hg8 hz8))
        try simp only [Exit.inBlock, Exit.then]
        refine bodyPost_ret (results_digest2 rfl _ _ _ _ _ zero32_length rfl hb8.at_) rfl ⟨rfl, ?_⟩
        exact below_of_grown' (Bt hB0 hB2) hg8 (Nat.le_refl _)
    · have h4' : (4096 : Int) < n := by omega
      have eI : rootI x l = zero32 := by rw [rootI, if_pos hx, if_neg (by omega)]
      have eE : rootE x l = 2 := by rw [rootE, if_pos hx, if_neg (by omega)]
      rw [eI, eE]
      clear hx eI eE hl
      have H5 := Lib.hid (show (Tryz.prog.info? 24).map (·.size) = some (bs zero32).length by rw [info_digest, bs_length, zero32_length])
      have H7 := bs_one zero32
      have HBT := Lib.hid built0
      go_enter Tryz.func22, Tryz.ntmps22
      go_wp2_with ((with_reducible refine wpList_allocB (o := ⟨some 4, _, _, _, _, _⟩) ?_ 24 ?_ zeroD_info ?_); rfl; rfl; intro w0 hr0 hg0 hz0)
      have hB0 : Below w.heap.size w w0 := (Below.refl _ w).grown hg0 (Nat.le_refl _) (fun k e => by cases e)
      refine (width_ref w0 x).mono ?_
      rintro e w1 ⟨rfl, rfl⟩
      rw [hd]
      go_wp2_with (first | ((with_reducible refine wpList_buildI (dst := some 15) HBT.out ?_ ?_); rfl) | ((with_reducible refine wpList_storeB (o := ⟨none, .store 24 (.tmp 4) (.tmp 15), _, _, _, _⟩) ?_ 24 (.tmp 4) (.tmp 15) ?_ ?_ ?_ hr0 H5.out rfl H7 ?_); rfl; rfl; rfl; rfl; intro w8 hb8 hg8 hz8))
      try simp only [Exit.inBlock, Exit.then]
      refine bodyPost_ret (results_digest2 rfl _ _ _ _ _ zero32_length rfl hb8.at_) rfl ⟨rfl, ?_⟩
      exact below_of_grown' hB0 hg8 (Nat.le_refl _)
  · have hd : (decide (0 ≤ x) && decide (x ≤ 32)) = false := by simp; omega
    have eI : rootI x l = zero32 := by rw [rootI, if_neg hx]
    have eE : rootE x l = 1 := by rw [rootE, if_neg hx]
    rw [eI, eE]
    clear hx eI eE hl
    have H5 := Lib.hid (show (Tryz.prog.info? 24).map (·.size) = some (bs zero32).length by rw [info_digest, bs_length, zero32_length])
    have H7 := bs_one zero32
    have HBT := Lib.hid built0
    go_enter Tryz.func22, Tryz.ntmps22
    go_wp2_with ((with_reducible refine wpList_allocB (o := ⟨some 4, _, _, _, _, _⟩) ?_ 24 ?_ zeroD_info ?_); rfl; rfl; intro w0 hr0 hg0 hz0)
    have hB0 : Below w.heap.size w w0 := (Below.refl _ w).grown hg0 (Nat.le_refl _) (fun k e => by cases e)
    refine (width_ref w0 x).mono ?_
    rintro e w1 ⟨rfl, rfl⟩
    rw [hd]
    go_wp2_with (first | ((with_reducible refine wpList_buildI (dst := some 10) HBT.out ?_ ?_); rfl) | ((with_reducible refine wpList_storeB (o := ⟨none, .store 24 (.tmp 4) (.tmp 10), _, _, _, _⟩) ?_ 24 (.tmp 4) (.tmp 10) ?_ ?_ ?_ hr0 H5.out rfl H7 ?_); rfl; rfl; rfl; rfl; intro w8 hb8 hg8 hz8))
    try simp only [Exit.inBlock, Exit.then]
    refine bodyPost_ret (results_digest2 rfl _ _ _ _ _ zero32_length rfl hb8.at_) rfl ⟨rfl, ?_⟩
    exact below_of_grown' hB0 hg8 (Nat.le_refl _)
end Go.Proofs.YtbbckjpgmpfkgaaGreatDoor
