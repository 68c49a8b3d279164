/-
  The walks of the reference's layer 5: Half, Same, Twice, Get, Drop.
-/
import Derived.Test.YtbbckjpgmpfkgaaGreatDoorRef05B
namespace Go.Proofs.YtbbckjpgmpfkgaaGreatDoor
open Go.RowKit

theorem take_succ_lf (l : List Lf) (k : Nat) (h : k < l.length) : l.take (k + 1) = l.take k ++ [l.getD k lf0] := by
  rw [List.take_succ_eq_append_getElem h]; simp [List.getD, h]
theorem half_step (l : List Lf) (m b k : Nat) (h : k < l.length) : half (l.take (k + 1)) m b = half (l.take k) m b ++ (if bitAt (l.getD k lf0).path m = b then [l.getD k lf0] else []) := by
  rw [take_succ_lf l k h, half, half, List.filter_append]
  congr 1
  generalize l.getD k lf0 = x
  by_cases hb : bitAt x.path m = b
  · rw [if_pos hb]; simp [hb]
  · rw [if_neg hb]; simp [hb]

theorem rangeAt_below {w W : World} {b o : Nat} {cs : List Value} (h : Below w.heap.size w W) (hr : w.rangeAt b o cs) : W.rangeAt b o cs := fun j v hv => cell_later h (hr j v hv)

set_option maxRecDepth 100000 in
set_option maxHeartbeats 1000000 in
theorem half_ref (w : World) (a : Option Addr) (n c : Nat) (l : List Lf) (hr : RdL w a n c l) (m : Nat) (hm : m < 256) (b : Nat) (hn : n ≤ 100000) :
    Calls Tryz.prog 25 #[.slice a n c, .int .i64 (m : Int), .int .i64 (b : Int)] w fun e w' => ∃ a' c', e = .returned (.slice a' (half l m b).length c') ∧ OwnL w' w.heap.size (.slice a' (half l m b).length c') (half l m b) ∧ Below w.heap.size w w' := by
  have hl := hr.len
  go_enter Tryz.func25, Tryz.ntmps25
  go_wp2_with fail
  go_loopw [7, 8] (fun v t wr => ∃ (k : Nat) (q : List Lf) (ao : Option Addr) (co : Nat), k ≤ n ∧ t = .int .i64 k ∧ v = .slice ao q.length co ∧ q = half (l.take k) m b ∧ OwnL wr w.heap.size (.slice ao q.length co) q ∧ Below w.heap.size w wr) (fun _ t _ => n - (intOf t).toNat)
  case atStart => exact ⟨0, [], none, 0, by omega, rfl, rfl, rfl, OwnL.nil0 _ _, Below.refl _ _⟩
  case round =>
    obtain ⟨k, q, ao, co, hk, rfl, rfl, hq, hO, hB⟩ := hrel
    by_cases hlt : k < n
    · have hst := Lib.hid (half_step l m b k (by omega))
      obtain ⟨bb, off, rfl, hbb, hel⟩ := hr.elems (by omega)
      have hok := hr.ok.at (show k < l.length by omega)
      have hrg := hel k hlt
      rw [← hq] at hst
      have hql := Lib.hid (show q.length ≤ k by rw [hq]; exact Nat.le_trans (List.length_filter_le _ _) (by simp; omega))
      generalize l.getD k lf0 = x at *
      clear hel hq
      have hlt' : (k : Int) < n := by omega
      have HP := Lib.hid (show ∀ W, Below w.heap.size w W → W.rangeAt bb (off + k * 64) (bs x.path) from fun W h => rangeAt_below h (range_path hrg))
      have HX := Lib.hid (show ∀ W, Below w.heap.size w W → W.rangeAt bb (off + k * 64) (lc x) from fun W h => rangeAt_below h hrg)
      have HA := Lib.hid (fun W : World => at_ref W x.path hok.1 m hm)
      have H5 := Lib.hid (show (Tryz.prog.info? 24).map (·.size) = some (bs x.path).length by rw [info_digest, bs_length, hok.1])
      have H6 := Lib.hid (show (Tryz.prog.info? 41).map (·.size) = some (lc x).length by rw [infoLeafS, lc_length hok])
      have hHP := HP.out wr hB
      generalize bitAt x.path m = y at *
      by_cases hyb : y = b
      · have hyb' : (y : Int) = b := by omega
        rw [if_pos hyb] at hst
        go_wp2_with ((with_reducible refine wpList_loadM (o := ⟨some 19, _, _, _, _, _⟩) ?_ bb (off + k * 64) 24 (.tmp 18) ?_ ?_ hHP Tryz.underlying24 ?_ H5.out ?_); rfl; rfl; rfl; rfl)
        refine (HA.out wr).mono ?_
        rintro e w1 ⟨rfl, hB1⟩
        have hB01 := Bt hB hB1
        have hO1 := hO.below hB1
        have hHX := HX.out w1 hB01
        have hO2 := hO1.below ((Below.refl _ w1).alloc (Nat.le_refl _) (.cells (lc x).toArray 41))
        have hB2 := hB01.alloc hB01.size (.cells (lc x).toArray 41)
        go_wp2_with (first | ((with_reducible refine wpList_loadM (o := ⟨some 28, _, _, _, _, _⟩) ?_ bb (off + k * 64) 41 (.tmp 27) ?_ ?_ hHX Tryz.underlying41 ?_ H6.out ?_); rfl; rfl; rfl; rfl) | ((with_reducible refine wpList_oneL (o := ⟨some 29, _, _, _, _, _⟩) ?_ (.tmp 28) ?_ (y := x) ?_ hok ?_); rfl; rfl; rfl) | (at_builtin; refine wpList_appL (v := .slice ao q.length co) rfl (.tmp 24) (.tmp 29) rfl rfl hO2 rfl (RdL.one w1 hok) (by have := hql.out; omega) hB2.size ?_; intro a3 c3 w3 hO3 hg3 _))
        have hB3 := hB2.grown hg3 hB2.size (fun k e => (hO2.lt e).1)
        have e : (q ++ [x]).length = q.length + 1 := by simp
        exact ⟨⟨k + 1, q ++ [x], a3, c3, by omega, by go_num, by rw [e], hst.out.symm, by rw [e]; exact hO3, hB3⟩, by simp [intOf]; omega⟩
      · have hyb' : ¬ (y : Int) = b := by omega
        rw [if_neg hyb, List.append_nil] at hst
        go_wp2_with ((with_reducible refine wpList_loadM (o := ⟨some 19, _, _, _, _, _⟩) ?_ bb (off + k * 64) 24 (.tmp 18) ?_ ?_ hHP Tryz.underlying24 ?_ H5.out ?_); rfl; rfl; rfl; rfl)
        refine (HA.out wr).mono ?_
        rintro e w1 ⟨rfl, hB1⟩
        go_wp2_with fail
        exact ⟨⟨k + 1, q, ao, co, by omega, by go_num, rfl, hst.out.symm, hO.below hB1, Bt hB hB1⟩, by simp [intOf]; omega⟩
    · obtain rfl : k = n := by omega
      have hlt' : ¬ (k : Int) < k := by omega
      rw [List.take_of_length_le (by omega)] at hq
      subst hq
      generalize hqe : half l m b = q at *
      go_wp2_with fail
      go_ret
      exact ⟨ao, co, rfl, hO, hB⟩
end Go.Proofs.YtbbckjpgmpfkgaaGreatDoor
