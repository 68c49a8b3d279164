/-
  Con05R Con05, in one text.
-/
import Derived.Test.YtmfnpjfhijmboaaGreatDoorCon05T
import Derived.Test.YtmfnpjfhijmboaaGreatDoorCon05S
namespace Go.Proofs.YtmfnpjfhijmboaaGreatDoor
/-! Set, Tree.Root, Root. -/
section
open Go.RowKit Go.Sort

/-- a tree behind a batch -/
theorem put_set {t : T} (h : t.wf 0) {l m : List Lf} (hm : oks m) (hp : m.Perm l) (hu : unlike m) (ho : inOrder m) :
    (T.put 257 t m 0).wf 0 ∧ (∀ x, x ∈ (T.put 257 t m 0).lvs ↔ x ∈ setF t.lvs l) ∧ (T.put 257 t m 0).lvs.length = (setF t.lvs l).length := by
  obtain ⟨h1, h2⟩ := put_whole h hm hu ho
  have hul : unlike l := (unlike_perm hp).1 hu
  have h3 : ∀ x, x ∈ (T.put 257 t m 0).lvs ↔ x ∈ setF t.lvs l := fun x => by
    rw [h2, setF_mem m _ hu, setF_mem l _ hul, hp.mem_iff]
    refine or_congr_right (and_congr_right fun _ => ⟨fun h y hy => h y (hp.mem_iff.2 hy), fun h y hy => h y (hp.mem_iff.1 hy)⟩)
  exact ⟨h1, h3, (whole_perm h1 (setF_unlike l _ (T.wf_unlike t 0 h)) h3).length_eq⟩


/-- what Set leaves -/
structure SetTo (base x : Nat) (G : Tag) (w : World) (tp pn : Nat) (L : List Lf) (w' : World) : Prop where
  out : ∃ G' pt' t', Tr base G' w' tp pn pt' t' ∧ Inv base x G' noL w' ∧ More w.heap.size G G' ∧ t'.wf 0 ∧ (∀ y, y ∈ t'.lvs ↔ y ∈ L)
  grown : w.grownBy w' (some tp)
theorem Tr.later {base : Nat} {G G' : Tag} {W W' : World} {tp pn pt : Nat} {t : T} (h : Tr base G W tp pn pt t) (hm : ∀ k u, G k = some u → G' k = some u) (hb : Below W.heap.size W W') : Tr base G' W' tp pn pt t :=
  ⟨h.blk.below hb, h.low, hm _ _ h.no, hm _ _ h.top⟩

set_option maxRecDepth 100000 in
set_option maxHeartbeats 2000000 in
theorem set_any (base x : Nat) (G : Tag) (w : World) (tp pn pt : Nat) (t : T) (a : Option Addr) (n c : Nat) (l : List Lf) (hb : base ≤ w.heap.size) (hI : Inv base x G noL w) (hT : Tr base G w tp pn pt t) (hw : t.wf 0) (h4 : t.lvs.length ≤ 4096)
    (hr : RdL w a n c l) (hs : n ≤ 4096 → SortsAt n) :
    Calls Tryz.prog 14 #[.pointer (some ⟨tp, 0, none⟩), .slice a n c] w fun e w' => e = .returned (.int .i64 (setE t.lvs l)) ∧ SetTo base x G w tp pn (setI t.lvs l) w' := by
  have hl := hr.len
  have hsame : ∀ w', Below w.heap.size w w' → SetTo base x G w tp pn t.lvs w' := fun w' hb' =>
    ⟨⟨G, pt, t, hT.later (fun _ _ h => h) hb', hI.below hb', More.refl _ _, hw, fun _ => Iff.rfl⟩, grown_of hb' _⟩
  by_cases hbig : 4096 < n
  · have hbig' : (4096 : Int) < (n : Int) := by omega
    have e1 : setI t.lvs l = t.lvs := by unfold setI; rw [if_pos (by omega)]
    have e2 : setE t.lvs l = 2 := by unfold setE; rw [if_pos (by omega)]
    rw [e1, e2]
    have S := Lib.hid (hsame w (Below.refl _ _))
    clear hsame e1 e2
    go_enter Tryz.func14, Tryz.ntmps14
    go_wp2_with fail
    go_ret
    exact ⟨rfl, S.out⟩
  · have hbig' : ¬ (4096 : Int) < (n : Int) := by omega
    have hO := ordered_any w a n c l hr (by omega) (hs (by omega))
    go_enter Tryz.func14, Tryz.ntmps14
    go_wp2_with fail
    refine hO.mono ?_
    rintro e w1 ⟨a1, c1, m, rfl, hr1, hp, ho, hb1⟩
    have htw := twiceB_perm hp
    have hH := hasTwice_any w1 a1 n c1 m hr1 (by omega) ho
    rw [htw] at hH
    cases ht : twiceB l with
    | true =>
      rw [ht] at hH
      have e1 : setI t.lvs l = t.lvs := by unfold setI; rw [if_neg (by omega), ht]; rfl
      have e2 : setE t.lvs l = 30 := by unfold setE; rw [if_neg (by omega), ht]; rfl
      go_wp2_with fail
      refine hH.mono ?_
      rintro e w2 ⟨rfl, hb2⟩
      have S := Lib.hid (hsame w2 (Bt hb1 hb2))
      have E1 := Lib.hid e1
      have E2 := Lib.hid e2
      clear hsame e1 e2
      go_wp2_with fail
      go_ret
      rw [E1.out, E2.out]
      exact ⟨rfl, S.out⟩
    | false =>
      rw [ht] at hH htw
      have hu : unlike m := (twiceB_iff m).1 htw
      obtain ⟨q1, q2, q3⟩ := put_set hw hr1.ok hp hu ho
      have hSI := Lib.hid (show setI t.lvs l = if 4096 < (T.put 257 t m 0).lvs.length then t.lvs else setF t.lvs l from by unfold setI; rw [if_neg (by omega), ht, q3]; rfl)
      have hSE := Lib.hid (show setE t.lvs l = if 4096 < (T.put 257 t m 0).lvs.length then 2 else 0 from by unfold setE; rw [if_neg (by omega), ht, q3]; rfl)
      have WA := Lib.hid (fun (w2 : World) (hb2 : Below w1.heap.size w1 w2) =>
        with_any base x 257 G w2 tp pn pt t 0 a1 n c1 m 0 rfl rfl (by omega) (Nat.le_trans hb (Bt hb1 hb2).size) (hI.below (Bt hb1 hb2)) (cell_later (Bt hb1 hb2) hT.c0) hT.no hT.top hw (hr1.below hb2) hu ho (fun _ _ _ _ i hi => by omega) (by omega))
      generalize hput : T.put 257 t m 0 = t' at *
      clear hput
      go_wp2_with fail
      refine hH.mono ?_
      rintro e w2 ⟨rfl, hb2⟩
      have hB2 := Bt hb1 hb2
      have hc0 := cell_later hB2 hT.c0
      have hc1 := cell_later hB2 hT.c1
      go_wp2_with fail
      refine (WA.out w2 hb2).mono ?_
      rintro e w3 ⟨s, G', rfl, hG, hI3, hM, hb3⟩
      have hB3 := Bt hB2 hb3
      obtain ⟨dn, sum, lf, le, ri, hN⟩ := hI3.nd hG
      have hsz := hN.size
      have kb3 := hT.blk.below hB3
      have hc1 := kb3.cell (j := 1) rfl
      have hf1 := kb3.free 1
      have hM' : More w.heap.size G G' := (More.refl _ _).trans hM hB2.size
      by_cases hlen : 4096 < t'.lvs.length
      · have hlen' : (4096 : Int) < (t'.lvs.length : Int) := by omega
        have E1 := Lib.hid (hSI.out.trans (if_pos hlen))
        have E2 := Lib.hid (hSE.out.trans (if_pos hlen))
        have S := Lib.hid (show SetTo base x G w tp pn t.lvs w3 from ⟨⟨G', pt, t, hT.later hM.1 hB3, hI3, hM', hw, fun _ => Iff.rfl⟩, grown_of hB3 _⟩)
        clear hsame hSI hSE
        go_wp2_with fail
        go_ret
        rw [E1.out, E2.out]
        exact ⟨rfl, S.out⟩
      · have hlen' : ¬ (4096 : Int) < (t'.lvs.length : Int) := by omega
        have E1 := Lib.hid (hSI.out.trans (if_neg hlen))
        have E2 := Lib.hid (hSE.out.trans (if_neg hlen))
        have kb4 := kb3.set 1 (.pointer (some ⟨s, 0, none⟩))
        have hg4 := set_grown w3 tp 1 (.pointer (some ⟨s, 0, none⟩))
        have hI4 := hI3.grown hg4 (kb3.not (by decide)) (kb3.not (by decide))
        have S := Lib.hid (show SetTo base x G w tp pn (setF t.lvs l) (w3.setCell ⟨tp, 1, none⟩ (.pointer (some ⟨s, 0, none⟩))) from
          ⟨⟨G', s, t', ⟨kb4, hT.low, hM.1 _ _ hT.no, hG⟩, hI4, hM', q1, q2⟩, grown2 (grown_of hB3 _) hg4 (fun k e => .inr e)⟩)
        clear hsame hSI hSE
        go_wp2_with fail
        go_ret
        rw [E1.out, E2.out]
        exact ⟨rfl, S.out⟩

set_option maxRecDepth 100000 in
set_option maxHeartbeats 1000000 in
theorem troot_any (base x : Nat) (hx : x ≤ 32) (G : Tag) (w : World) (tp pn pt : Nat) (t : T) (hI : Inv base x G noL w) (hTr : Tr base G w tp pn pt t) (hw : t.wf 0) (hTg : G 1 = none) (hT : Tab w 1) :
    Calls Tryz.prog 23 #[.pointer (some ⟨tp, 0, none⟩)] w fun e w' => e = .returned (.agg (bs (t.dig x)).toArray) ∧ Inv base x G noL w' ∧ Fr G w w' := by
  have hl := T.dig_length x hx t
  have DG := Lib.hid (fun (W : World) (h : Below w.heap.size w W) => digest_any base x hx G hTg (t.hgt + 1) noL W pt t 0 (Nat.lt_succ_self _) hw (hI.below h) hTr.top (fun q hq => by cases hq) (hT.below h))
  have hf := hI.free (p := w.heap.size) (Nat.le_refl _)
  have hc1 := hTr.c1
  generalize t.dig x = q at *
  have H1 := Lib.hid (show (Tryz.prog.info? 25).map (·.size) = some (bs q).length by rw [info_digest, bs_length, hl])
  have H2 := Lib.hid (show (bs zero32).length = (bs q).length by rw [bs_length, bs_length, zero32_length, hl])
  have H3 := bs_one q
  have CB := Lib.hid (fun (W : World) (h : Below w.heap.size w W) => cell_later h hc1)
  clear hc1
  go_enter Tryz.func23, Tryz.ntmps23
  go_wp2_with ((with_reducible refine wpList_allocB (o := ⟨some 2, _, _, _, _, _⟩) ?_ 25 ?_ zeroD_info ?_); rfl; rfl; intro w0 hr0 hg0 hz0; have hB0 := (Below.refl _ w).grown hg0 (Nat.le_refl _) (fun k e => by cases e); have hc1 := CB.out w0 hB0)
  refine (DG.out w0 hB0).mono ?_
  rintro e w1 ⟨rfl, hI1, hF1⟩
  have hr1 := Blk.fr hF1 hf hr0
  go_wp2_with ((with_reducible refine wpList_storeB (o := ⟨none, .store 25 (.tmp 2) (.tmp 10), _, _, _, _⟩) ?_ 25 (.tmp 2) (.tmp 10) ?_ ?_ ?_ hr1 H1.out H2.out H3 ?_); rfl; rfl; rfl; rfl; intro w8 hb8 hg8 hz8)
  try simp only [Exit.inBlock, Exit.then]
  refine bodyPost_blk hb8 Tryz.underlying25 H1.out rfl rfl rfl rfl ⟨rfl, ?_, ?_⟩
  · exact hI1.grown hg8 (hr1.not (by decide)) (hr1.not (by decide))
  · exact ((Fr.of hB0).trans hF1).put hg8 (Nat.le_refl _)

/-- a batch onto no leaves -/
theorem set_nil (l : List Lf) : setE [] l = (if l.length ≤ 4096 then (if twiceB l then 30 else 0) else 2) ∧ setI [] l = (if l.length ≤ 4096 then (if twiceB l then [] else setF [] l) else []) := by
  have h := setF_len l []
  simp only [List.length_nil, Nat.zero_add] at h
  unfold setE setI
  by_cases h1 : l.length ≤ 4096
  · have h2 : ¬ 4096 < l.length := by omega
    have h3 : ¬ 4096 < (setF [] l).length := by omega
    simp [h1, h2, h3]
  · have h2 : 4096 < l.length := by omega
    simp [h1, h2]
theorem root_set {t : T} (h : t.wf 0) {l : List Lf} (hu : unlike l) (hm : ∀ y, y ∈ t.lvs ↔ y ∈ setF [] l) (x : Nat) : t.dig x = rootL x l := by
  have h2 : ∀ y, y ∈ t.lvs ↔ y ∈ l := fun y => by rw [hm, setF_mem l _ hu]; simp
  rw [T.root_eq x h, rootL_perm x (whole_perm h hu h2)]

set_option maxRecDepth 100000 in
set_option maxHeartbeats 2000000 in
theorem sroot_any (w : World) (x : Int) (a : Option Addr) (n c : Nat) (l : List Lf) (hr : RdL w a n c l) (hT : Tab w 1) (hs : n ≤ 4096 → SortsAt n) :
    Calls Tryz.prog 26 #[.int .i64 x, .slice a n c] w fun e w' => e = .returned (.tuple #[.agg (bs (rootI x l)).toArray, .int .i64 (rootE x l)]) ∧ Below w.heap.size w w' := by
  have hl := hr.len
  have H5 := Lib.hid (show (Tryz.prog.info? 25).map (·.size) = some (bs zero32).length by rw [info_digest, bs_length, zero32_length])
  have H7 := bs_one zero32
  have HBT := Lib.hid built0
  by_cases hx : 0 ≤ x ∧ x ≤ 32
  · obtain ⟨k, rfl⟩ := Int.eq_ofNat_of_zero_le hx.1
    have hk : k ≤ 32 := by omega
    have eI : rootI (k : Int) l = if n ≤ 4096 then (if twiceB l then zero32 else rootL k l) else zero32 := by rw [rootI, if_pos hx, hl, Int.toNat_natCast]
    have eE : rootE (k : Int) l = setE [] l := by rw [rootE, if_pos hx, (set_nil l).1]
    have hSI := (set_nil l).2
    rw [eE]
    rw [hl] at hSI
    have hE : setE [] l = 0 ∨ setE [] l ≠ 0 := by omega
    have hE0 : setE [] l = 0 → n ≤ 4096 ∧ twiceB l = false := fun h0 => by
      rw [(set_nil l).1, hl] at h0
      by_cases h1 : n ≤ 4096
      · rw [if_pos h1] at h0
        cases ht : twiceB l
        · exact ⟨h1, rfl⟩
        · rw [ht] at h0; simp at h0
      · rw [if_neg h1] at h0; simp at h0
    have hz : setE [] l ≠ 0 → rootI (k : Int) l = zero32 := fun h0 => by
      rw [eI]
      by_cases h1 : n ≤ 4096
      · rw [if_pos h1]
        cases ht : twiceB l
        · rw [(set_nil l).1, hl, if_pos h1, ht] at h0; simp at h0
        · rfl
      · rw [if_neg h1]
    have hrt : setE [] l = 0 → rootI (k : Int) l = rootL k l ∧ setI [] l = setF [] l ∧ unlike l := fun h0 => by
      obtain ⟨h1, h2⟩ := hE0 h0
      rw [eI, hSI, if_pos h1, if_pos h1, h2]
      exact ⟨rfl, rfl, (twiceB_iff l).1 h2⟩
    clear eI eE hE0 hSI
    have SW := Lib.hid (fun (W : World) (base : Nat) (hb : base ≤ W.heap.size) => snew_any W k hk base hb (fun _ => none) (Inv.start base k noL W))
    have hql := rootI_length (k : Int) l
    generalize rootI (k : Int) l = q at *
    have H1 := Lib.hid (show (Tryz.prog.info? 25).map (·.size) = some (bs q).length by rw [info_digest, bs_length, hql])
    have H2 := Lib.hid (show (bs zero32).length = (bs q).length by rw [bs_length, bs_length, zero32_length, hql])
    have H3 := bs_one q
    have HZ := Lib.hid hz
    have HRT := Lib.hid hrt
    clear hz hrt hx
    go_enter Tryz.func26, Tryz.ntmps26
    go_wp2_with ((with_reducible refine wpList_allocB (o := ⟨some 4, _, _, _, _, _⟩) ?_ 25 ?_ zeroD_info ?_); rfl; rfl; intro w0 hr0 hg0 hz0)
    have hB0 : Below w.heap.size w w0 := (Below.refl _ w).grown hg0 (Nat.le_refl _) (fun k e => by cases e)
    refine (SW.out w0 w0.heap.size (Nat.le_refl _)).mono ?_
    rintro e w1 ⟨tp, pn, G1, rfl, hTr, hI1, hM1, htp, hB1⟩
    have hB01 := Bt hB0 hB1
    go_wp2_with fail
    refine (set_any w0.heap.size k G1 w1 tp pn pn .none a n c l hB1.size hI1 hTr trivial (by simp [T.lvs]) (hr.below hB01) hs).mono ?_
    rintro e w2 ⟨rfl, hS2⟩
    rw [show T.none.lvs = [] from rfl] at hS2 ⊢
    have hB02 : Below w.heap.size w w2 := hB01.grown hS2.grown hB01.size (fun k e => by cases e; omega)
    have hr2 := (hr0.below hB1).grown hS2.grown (by simp; omega)
    rcases hE with h0 | h0
    · obtain ⟨rfl, e2, hu⟩ := HRT.out h0
      rw [e2] at hS2
      rw [h0]
      obtain ⟨⟨G', pt', t', hTr2, hI2, hM2, hwf, hmem⟩, hgr⟩ := hS2
      have hdg := root_set hwf hu hmem k
      have hTab2 : Tab w2 1 := hT.below hB02
      have hgl : 1 < w.heap.size := hT.lt
      have hGn : ∀ q, q < w0.heap.size → G' q = none := fun q hq => by rw [hM2.2 q (by have := hB1.size; omega), hM1.2 q hq]
      have TR := troot_any w0.heap.size k hk G' w2 tp pn pt' t' hI2 hTr2 hwf (hGn _ (by omega)) hTab2
      rw [hdg] at TR
      generalize hQ : rootL k l = q at *
      have hlow := hI2.low
      clear hdg HRT HZ e2 hmem hI2 hTr2 hM2 hwf hTab2 hTr hI1
      go_wp2_with fail
      refine TR.mono ?_
      rintro e w3 ⟨rfl, -, hF⟩
      have hr3 := Blk.fr hF (hGn _ (by omega)) hr2
      have hB23 : Below w.heap.size w2 w3 := hF.below (fun q u hq => by have := hlow q u hq; omega) hB02.size
      go_wp2_with ((with_reducible refine wpList_storeB (o := ⟨none, .store 25 (.tmp 4) (.tmp 26), _, _, _, _⟩) ?_ 25 (.tmp 4) (.tmp 26) ?_ ?_ ?_ hr3 H1.out H2.out H3 ?_); rfl; rfl; rfl; rfl; intro w8 hb8 hg8 hz8)
      try simp only [Exit.inBlock, Exit.then]
      refine bodyPost_ret (results_digest2 rfl _ _ _ _ _ hql rfl hb8.at_) rfl ⟨by rw [h0, hQ]; rfl, ?_⟩
      exact below_of_grown' (hB02.trans hB23) hg8 (Nat.le_refl _)
    · obtain rfl := HZ.out h0
      clear hs
      generalize hEr : setE [] l = er at h0 ⊢
      have h0' : (er == 0) = false := by simpa using h0
      clear HRT HZ hS2 hTr hI1
      go_wp2_with (first | ((with_reducible refine wpList_buildI (dst := some 23) HBT.out ?_ ?_); rfl) | ((with_reducible refine wpList_storeB (o := ⟨none, .store 25 (.tmp 4) (.tmp 23), _, _, _, _⟩) ?_ 25 (.tmp 4) (.tmp 23) ?_ ?_ ?_ hr2 H5.out rfl H7 ?_); rfl; rfl; rfl; rfl; intro w8 hb8 hg8 hz8))
      try simp only [Exit.inBlock, Exit.then]
      refine bodyPost_ret (results_digest2 rfl _ _ _ _ _ zero32_length rfl hb8.at_) rfl ⟨by rw [hEr]; rfl, ?_⟩
      exact below_of_grown' hB02 hg8 (Nat.le_refl _)
  · have eI : rootI x l = zero32 := by rw [rootI, if_neg hx]
    have eE : rootE x l = 1 := by rw [rootE, if_neg hx]
    rw [eI, eE]
    clear eI eE hl
    go_enter Tryz.func26, Tryz.ntmps26
    go_wp2_with ((with_reducible refine wpList_allocB (o := ⟨some 4, _, _, _, _, _⟩) ?_ 25 ?_ zeroD_info ?_); rfl; rfl; intro w0 hr0 hg0 hz0)
    have hB0 : Below w.heap.size w w0 := (Below.refl _ w).grown hg0 (Nat.le_refl _) (fun k e => by cases e)
    refine (new_no w0 x (by omega)).mono ?_
    rintro e w1 ⟨rfl, rfl⟩
    go_wp2_with (first | ((with_reducible refine wpList_buildI (dst := some 16) HBT.out ?_ ?_); rfl) | ((with_reducible refine wpList_storeB (o := ⟨none, .store 25 (.tmp 4) (.tmp 16), _, _, _, _⟩) ?_ 25 (.tmp 4) (.tmp 16) ?_ ?_ ?_ hr0 H5.out rfl H7 ?_); rfl; rfl; rfl; rfl; intro w8 hb8 hg8 hz8))
    try simp only [Exit.inBlock, Exit.then]
    refine bodyPost_ret (results_digest2 rfl _ _ _ _ _ zero32_length rfl hb8.at_) rfl ⟨rfl, ?_⟩
    exact below_of_grown' hB0 hg8 (Nat.le_refl _)
end
/-! Package smt: Short, Empty, Leaf, Node, Root. -/
section
open Go.RowKit
/-- Root of 12 leaves at the most -/
theorem sroot12 (w : World) (x : Int) (a : Option Addr) (n c : Nat) (l : List Lf) (hr : RdL w a n c l) (hT : Tab w 1) (hn : n ≤ 12) :
    Calls Tryz.prog 26 #[.int .i64 x, .slice a n c] w fun e w' => e = .returned (.tuple #[.agg (bs (rootI x l)).toArray, .int .i64 (rootE x l)]) ∧ Below w.heap.size w w' :=
  sroot_any w x a n c l hr hT (fun _ => sorts_small n hn)
end
end Go.Proofs.YtmfnpjfhijmboaaGreatDoor
