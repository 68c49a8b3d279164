/-
  The walks of the reference's layer 5: Set; and the law's own.
-/
import Derived.Test.YtmfnpjfhijmboaaGreatDoorRef05F
namespace Go.Proofs.YtmfnpjfhijmboaaGreatDoor
open Go.RowKit

set_option maxRecDepth 100000 in
theorem own_ref (w : World) (a : Option Addr) (n c : Nat) (l : List Lf) (hr : RdL w a n c l) (hn : n ≤ 100000) :
    Calls Tryz.prog 12 #[.slice a n c] w fun e w' => ∃ a' c', e = .returned (.slice a' n c') ∧ OwnL w' w.heap.size (.slice a' n c') l ∧ Below w.heap.size w w' := by
  go_enter Tryz.func12, Tryz.ntmps12
  go_wp2_with (at_builtin; refine wpList_appL (base := w.heap.size) (v := .slice none 0 0) (q := []) rfl (.tmp 4) (.tmp 5) rfl rfl (OwnL.nil0 _ _) rfl hr (by simp; omega) (Nat.le_refl _) ?_; intro a1 c1 w1 hO1 hg1 _)
  go_ret
  refine ⟨a1, c1, by simp, by simpa using hO1, (Below.refl _ w).grown hg1 (Nat.le_refl _) (fun k e => by cases e)⟩

/-- what a batch makes of leaves -/
def setF (l : List Lf) : List Lf → List Lf
  | [] => l
  | x :: m => setF (dropL l x.path ++ [x]) m
theorem setF_snoc : ∀ (m l : List Lf) (x : Lf), setF l (m ++ [x]) = dropL (setF l m) x.path ++ [x]
  | [], _, _ => rfl
  | y :: m, l, x => by rw [List.cons_append, setF, setF, setF_snoc m]
theorem setF_ok : ∀ (m l : List Lf), oks l → oks m → oks (setF l m)
  | [], _, h, _ => h
  | x :: m, _, h, hm => setF_ok m _ ((dropL_ok h _).append (oks.single (hm x List.mem_cons_self))) fun y hy => hm y (List.mem_cons_of_mem _ hy)
theorem setF_len : ∀ (m l : List Lf), (setF l m).length ≤ l.length + m.length
  | [], _ => Nat.le_refl _
  | x :: m, l => by
    have h1 := setF_len m (dropL l x.path ++ [x])
    have h2 : (dropL l x.path).length ≤ l.length := List.length_filter_le _ _
    rw [List.length_append] at h1
    simp only [List.length_cons, List.length_nil] at h1 ⊢
    rw [setF]
    omega
/-- what Set answers -/
def setI (l m : List Lf) : List Lf := if 4096 < m.length then l else if twiceB m then l else if 4096 < (setF l m).length then l else setF l m
def setE (l m : List Lf) : Int := if 4096 < m.length then 2 else if twiceB m then 30 else if 4096 < (setF l m).length then 2 else 0

set_option maxRecDepth 100000 in
set_option maxHeartbeats 1000000 in
theorem set_ref (w : World) (a : Option Addr) (n c : Nat) (l : List Lf) (hr : RdL w a n c l) (hn : n ≤ 50000) (a2 : Option Addr) (n2 c2 : Nat) (m : List Lf) (hr2 : RdL w a2 n2 c2 m) (hn2 : n2 ≤ 50000) :
    Calls Tryz.prog 13 #[.slice a n c, .slice a2 n2 c2] w fun e w' => ∃ a' c', e = .returned (.tuple #[.slice a' (setI l m).length c', .int .i64 (setE l m)]) ∧ RdL w' a' (setI l m).length c' (setI l m) ∧ Below w.heap.size w w' := by
  have hl := hr.len
  have hl2 := hr2.len
  by_cases h4 : 4096 < n2
  · have h4' : (4096 : Int) < n2 := by omega
    have eI : setI l m = l := by rw [setI, if_pos (by omega)]
    have eE : setE l m = 2 := by rw [setE, if_pos (by omega)]
    rw [eI, eE, hl]
    clear eI eE hl hl2
    go_enter Tryz.func13, Tryz.ntmps13
    go_wp2_with fail
    go_ret2
    exact ⟨a, c, rfl, hr, Below.refl _ _⟩
  have h4' : ¬ (4096 : Int) < n2 := by omega
  have HTW := Lib.hid (fun (W : World) (h1 : RdL W a2 n2 c2 m) => twice_ref W a2 n2 c2 m h1 (by omega))
  cases ht : twiceB m
  · rw [ht] at HTW
    have eI : setI l m = if 4096 < (setF l m).length then l else setF l m := by rw [setI, if_neg (by omega), ht]; rfl
    have eE : setE l m = if 4096 < (setF l m).length then 2 else 0 := by rw [setE, if_neg (by omega), ht]; rfl
    have EI := Lib.hid eI
    have EE := Lib.hid eE
    clear eI eE ht
    have HL := Lib.hid hl
    have HL2 := Lib.hid hl2
    have HI := Lib.hid (show setF l (m.take n2) = setF l m by rw [List.take_of_length_le (by omega)])
    clear hl hl2
    have hok2 := hr2.ok
    have hlen := Lib.hid (fun k => setF_len (m.take k) l)
    go_enter Tryz.func13, Tryz.ntmps13
    go_wp2_with fail
    refine (HTW.out w hr2).mono ?_
    rintro e w1 ⟨rfl, hB1⟩
    have hr01 := hr.below hB1
    go_wp2_with fail
    go_loopw [6, 7, 8, 9] (fun v t _ _ wr => ∃ (k : Nat) (q : List Lf) (ao : Option Addr) (co : Nat), k ≤ n2 ∧ t = .int .i64 k ∧ v = .slice ao q.length co ∧ q = setF l (m.take k) ∧ RdL wr ao q.length co q ∧ Below w.heap.size w wr) (fun _ t _ _ _ => n2 - (intOf t).toNat)
    case atStart => exact ⟨0, l, a, c, by omega, rfl, by rw [HL.out], rfl, by rw [HL.out]; exact hr01, hB1⟩
    case round =>
      obtain ⟨k, q, ao, co, hk, rfl, rfl, hq, hR, hB⟩ := hrel
      have hql := Lib.hid (show q.length ≤ n + k by have := hlen.out k; rw [← hq, HL.out] at this; exact Nat.le_trans this (by simp; omega))
      by_cases hlt : k < n2
      · have hlt' : (k : Int) < n2 := by omega
        obtain ⟨bb, off, rfl, hbb, hel⟩ := hr2.elems (by omega)
        have hxo := hok2.at (show k < m.length by rw [HL2.out]; omega)
        have hgp := Lib.hid (range_path (hel k hlt))
        have hgx := Lib.hid (hel k hlt)
        have hst := Lib.hid (show setF l (m.take (k + 1)) = dropL q (m.getD k lf0).path ++ [m.getD k lf0] by rw [take_succ_lf m k (by rw [HL2.out]; omega), setF_snoc, hq])
        clear hel hq
        generalize m.getD k lf0 = x at *
        have H5 := Lib.hid (show (Tryz.prog.info? 25).map (·.size) = some (bs x.path).length by rw [info_digest, bs_length, hxo.1])
        have H7 := Lib.hid (show (Tryz.prog.info? 50).map (·.size) = some (lc x).length by rw [infoLeafS, lc_length hxo])
        have hgp2 := rangeAt_below hB hgp.out
        go_wp2_with ((with_reducible refine wpList_loadM (o := ⟨some 30, _, _, _, _, _⟩) ?_ bb (off + k * 64) 25 (.tmp 29) ?_ ?_ hgp2 Tryz.underlying25 ?_ H5.out ?_); rfl; rfl; rfl; rfl)
        refine (drop_ref wr ao q.length co q hR (by have := hql.out; omega) x.path hxo.1).mono ?_
        rintro e w2 ⟨a3, c3, rfl, hO3, hB3⟩
        have hdl := Lib.hid (show (dropL q x.path).length ≤ q.length from List.length_filter_le _ _)
        generalize dropL q x.path = q3 at *
        have hB2 := Bt hB hB3
        have hgx2 := rangeAt_below hB2 hgx.out
        have hO4 := hO3.below ((Below.refl _ w2).alloc (Nat.le_refl _) (.cells (lc x).toArray 50))
        have hB4 := hB2.alloc hB2.size (.cells (lc x).toArray 50)
        have hbs : wr.heap.size ≤ (w2.alloc (.cells (lc x).toArray 50)).heap.size := by have := hB3.size; simp; omega
        have hR1 := RdL.one w2 hxo
        have hws := hB.size
        go_wp2_with (first | ((with_reducible refine wpList_loadM (o := ⟨some 38, _, _, _, _, _⟩) ?_ bb (off + k * 64) 50 (.tmp 37) ?_ ?_ hgx2 Tryz.underlying50 ?_ H7.out ?_); rfl; rfl; rfl; rfl) | ((with_reducible refine wpList_oneL (o := ⟨some 39, _, _, _, _, _⟩) ?_ (.tmp 38) ?_ (y := x) ?_ hxo ?_); rfl; rfl; rfl) | (at_builtin; refine wpList_appL (v := .slice a3 q3.length c3) rfl (.tmp 34) (.tmp 39) rfl rfl hO4 rfl hR1 (by have := hql.out; have := hdl.out; omega) hbs ?_; intro a5 c5 w5 hO5 hg5 _))
        have hB5 := hB4.grown hg5 hB4.size (fun k e => by have := (hO4.lt e).1; omega)
        have e : (q3 ++ [x]).length = q3.length + 1 := by simp
        exact ⟨⟨k + 1, q3 ++ [x], a5, c5, by omega, by go_num, by rw [e], hst.out.symm, by rw [e]; exact hO5.rd, hB5⟩, by simp [intOf]; omega⟩
      · obtain rfl : k = n2 := by omega
        have hlt' : ¬ (k : Int) < k := by omega
        rw [HI.out] at hq
        have HQ := Lib.hid hq
        clear hq
        by_cases h5 : 4096 < q.length
        · have h5' : (4096 : Int) < q.length := by omega
          go_wp2_with fail
          go_ret2
          rw [EI.out, EE.out, ← HQ.out, if_pos h5, if_pos h5, HL.out]
          exact ⟨a, c, rfl, hr.below hB, hB⟩
        · have h5' : ¬ (4096 : Int) < q.length := by omega
          go_wp2_with fail
          go_ret2
          rw [EI.out, EE.out, ← HQ.out, if_neg h5, if_neg h5]
          exact ⟨ao, co, rfl, hR, hB⟩
  · rw [ht] at HTW
    have eI : setI l m = l := by rw [setI, if_neg (by omega), ht]; rfl
    have eE : setE l m = 30 := by rw [setE, if_neg (by omega), ht]; rfl
    rw [eI, eE, hl]
    clear eI eE ht hl hl2
    go_enter Tryz.func13, Tryz.ntmps13
    go_wp2_with fail
    refine (HTW.out w hr2).mono ?_
    rintro e w1 ⟨rfl, hB1⟩
    go_wp2_with fail
    go_ret2
    exact ⟨a, c, rfl, hr.below hB1, hB1⟩
end Go.Proofs.YtmfnpjfhijmboaaGreatDoor
