/-
  WireMore.
-/
import Derived.Test.YteeefehbfamfiaaWirT3
import Derived.Test.YteeefehbfamfiaaWirT4
namespace Go.Proofs.Yteeefehbfamfiaa
open Go.RowKit
set_option maxRecDepth 100000

theorem gRe_more (x : Re) (hx : x.ok) (h : (loR x (0, [])).1 = 0) (c : UInt8) : gRe ((loR x (0, [])).2 ++ [c]) = (re0, 60) := by
  obtain ⟨_, b, e1, g⟩ := back_record hx _ h
  rw [e1, List.nil_append]
  unfold gRe
  rw [g [c]]
theorem loR_pos (x : Re) (hx : x.ok) (h : (loR x (0, [])).1 = 0) : 0 < (loR x (0, [])).2.length := by
  obtain ⟨_, b, e1, g⟩ := back_record hx _ h
  rw [e1]
  cases b with
  | nil => have := g []; simp [gR, gN, cnt] at this
  | cons _ _ => simp

set_option maxHeartbeats 8000000 in
theorem walkWireMore (w : World) (x : Re) (hx : x.ok) (hr : x.rd w) (y : Di) (hy : y.ok) (hry : y.rd w) (cm : UInt8) :
    Calls Try.prog 6 #[.agg (rec x).toArray, .agg (dic y).toArray, .int .u8 (cm.toNat : Int)] w fun f w' => f = .returned (.bool true) ∧ Below w.heap.size w w' := by
  have ISr : Hid ((Try.prog.info? 52).map (·.size) = some (rec x).length) := Lib.hid (by rw [rec_length hx]; exact info_record)
  have ISd : Hid ((Try.prog.info? 62).map (·.size) = some (dic y).length) := Lib.hid (by rw [dic_length hy]; exact info_directory)
  have hbx := (Blk.new w 52 (rec x)).alloc (.cells (dic y).toArray 62)
  have hby := Blk.new (w.alloc (.cells (rec x).toArray 52)) 62 (dic y)
  have hz1 : (w.alloc (.cells (rec x).toArray 52)).heap.size = w.heap.size + 1 := by simp
  rw [hz1] at hby
  have hB0 : Below w.heap.size w ((w.alloc (.cells (rec x).toArray 52)).alloc (.cells (dic y).toArray 62)) := ((Below.refl _ w).alloc (Nat.le_refl _) _).alloc (by simp) _
  have hrx0 := hr.below hB0
  have hry0 := hry.below hB0
  obtain ⟨_, _, _, p3, _, p5, _⟩ := re_parts hx _ _ hbx
  obtain ⟨hcu, hck, p4⟩ := ren_parts hx.1 p3
  obtain ⟨_, _, p6, hcd⟩ := sn_parts _ _ _ _ p5
  simp only [Nat.reduceAdd] at hcu hck p4 p6 hcd
  have I4 : Hid ((Try.prog.info? 30).map (·.size) = some (coc x.en.co).length) := Lib.hid (by rw [coc_length trivial]; kernel_rfl)
  have I5 : Hid ((Try.prog.info? 30).map (·.size) = some (coc x.sn.co).length) := Lib.hid (by rw [coc_length trivial]; kernel_rfl)
  have HX := Lib.hid hx
  have HY := Lib.hid hy
  have HLOW := Lib.hid hB0
  clear p3 p5 hr hry hz1 hB0
  by_cases hl1 : (262144 : Int) < (x.en.cm.us.size : Int)
  · clear hck p4 p6 hcd
    go_enter Try.func6, Try.ntmps6
    go_wp2_with fail
    go_ret
    exact ⟨rfl, HLOW.out⟩
  by_cases hl2 : (262144 : Int) < (x.en.cm.ky.size : Int)
  · clear p4 p6 hcd
    go_enter Try.func6, Try.ntmps6
    go_wp2_with fail
    go_ret
    exact ⟨rfl, HLOW.out⟩
  by_cases hl3 : (262144 : Int) < (x.sn.da.size : Int)
  · clear p4 p6
    go_enter Try.func6, Try.ntmps6
    go_wp2_with fail
    go_ret
    exact ⟨rfl, HLOW.out⟩
  go_enter Try.func6, Try.ntmps6
  go_wp2_with (first | ((with_reducible refine wpList_loadQ (o := ⟨some 41, _, _, _, _, _⟩) ?_ w.heap.size 44 30 (.tmp 40) ?_ ?_ p4 Try.underlying30 ?_ I4.out ?_); rfl; rfl; rfl; rfl))
  clear hcu hck hcd hl1 hl2 hl3 p4
  generalize ((w.alloc (.cells (rec x).toArray 52)).alloc (.cells (dic y).toArray 62)) = w0 at *
  have HRX := Lib.hid hrx0
  have HRY := Lib.hid hry0
  have HBX := Lib.hid hbx
  have HBY := Lib.hid hby
  clear hrx0 hry0 hbx hby
  refine (big_council w0 x.en.co).mono ?_
  rintro e wa ⟨rfl, hBa⟩
  have HBa := Lib.hid hBa
  have p6 := range_below hBa p6
  clear hBa
  cases hbig : bigC x.en.co
  rotate_left
  · clear p6
    go_wp2_with fail
    go_ret
    exact ⟨rfl, HLOW.out.trans (HBa.out.mono HLOW.out.size)⟩
  clear hbig
  go_wp2_with (first | ((with_reducible refine wpList_loadQ (o := ⟨some 47, _, _, _, _, _⟩) ?_ w.heap.size 49 30 (.tmp 46) ?_ ?_ p6 Try.underlying30 ?_ I5.out ?_); rfl; rfl; rfl; rfl))
  refine (big_council wa x.sn.co).mono ?_
  rintro e wb ⟨rfl, hBb⟩
  have HBb := Lib.hid (HBa.out.trans (hBb.mono HBa.out.size))
  clear hBb p6
  cases hbig : bigC x.sn.co
  rotate_left
  · go_wp2_with fail
    go_ret
    exact ⟨rfl, HLOW.out.trans (HBb.out.mono HLOW.out.size)⟩
  clear hbig
  have hbl := HBY.out.below HBb.out
  go_wp2_with (first | ((with_reducible refine wpList_loadR (o := ⟨some 51, _, _, _, _, _⟩) ?_ 62 (.tmp 4) ?_ ?_ hbl Try.underlying62 ?_ ISd.out ?_); rfl; rfl; rfl; rfl))
  refine (big_directory wb y (HRY.out.below HBb.out)).mono ?_
  rintro e wc ⟨⟨big, rfl, _⟩, hBc⟩
  have HBc := Lib.hid (HBb.out.trans (hBc.mono HBb.out.size))
  clear hBc hbl
  cases big
  rotate_left
  · go_wp2_with fail
    go_ret
    exact ⟨rfl, HLOW.out.trans (HBc.out.mono HLOW.out.size)⟩
  have hbl := HBX.out.below HBc.out
  go_wp2_with (first | ((with_reducible refine wpList_loadB (o := ⟨some 55, _, _, _, _, _⟩) ?_ 52 (.tmp 3) ?_ ?_ hbl Try.underlying52 ?_ ISr.out ?_); rfl; rfl; rfl; rfl))
  have hrl := HRX.out.below HBc.out
  refine (putRecord_any wc x HX.out hrl).mono ?_
  rintro e w1 ⟨v1, rfl, hO1, hB1⟩
  have HSW := Lib.hid hB1.size
  have HSZ := Lib.hid HBc.out.size
  have HB1 := Lib.hid (HBc.out.trans (hB1.mono HBc.out.size))
  clear hbl hrl hB1 HBc
  by_cases h0 : (loR x (0, [])).1 = 0
  · rw [if_pos h0] at hO1
    obtain ⟨a1, c1, rfl⟩ := hO1.shape
    have HCUT := Lib.hid (fun l s => gRe_cut x HX.out h0 l s)
    have HMORE := Lib.hid (fun c => gRe_more x HX.out h0 c)
    have hpos := loR_pos x HX.out h0
    have hlen := loR_len x HX.out
    rw [h0]
    generalize (loR x (0, [])).2 = q at *
    generalize hq : q.length = nq at *
    obtain ⟨k, rfl⟩ : ∃ k, nq = k + 1 := ⟨nq - 1, by omega⟩
    have hr1 := hO1.rd
    obtain ⟨gb, go, ha1, _, _⟩ := hr1.at (by omega)
    subst ha1
    have hcap := hr1.cap
    have hr2 := hr1.take k (by omega)
    have HG2 : Hid (gRe (q.take k) = (re0, 60)) := Lib.hid (HCUT.out (q.take k) (q.drop k) (fun e => by have := congrArg List.length e; simp [hq] at this) (by rw [List.take_append_drop]))
    have HG3 := Lib.hid (HMORE.out cm)
    have HQ := Lib.hid hq
    have HO1 := Lib.hid hO1
    have HK : Hid (k ≤ 3000000000000) := Lib.hid (by omega)
    have hk2 : (k : Int) ≤ 3000000000000 := by omega
    clear h0 hlen hpos hq HCUT HMORE hO1 hr1
    go_wp2_with fail
    refine (getRecord_any w1 _ k c1 _ hr2 (by have := HK.out; omega)).mono ?_
    rintro e w2 ⟨z2, _, hz2, rfl, _, hB2⟩
    rw [HG2.out]
    have IS2 : Hid ((Try.prog.info? 52).map (·.size) = some (rec z2).length) := Lib.hid (by rw [rec_length hz2]; exact info_record)
    have HL2 : Hid ((rec re0).length = (rec z2).length) := Lib.hid (by rw [rec_length hz2, rec_length re0_ok])
    have HN2 : Hid (∀ v ∈ rec z2, v.oneCell' = true) := Lib.hid (rec_one _)
    have HB2 := Lib.hid hB2
    clear hB2 hr2
    go_wp2_with (first
      | ((with_reducible refine wpList_allocB (o := ⟨some 9, _, _, _, _, _⟩) ?_ 52 ?_ re0_info ?_); rfl; rfl; intro w3 hb3 hg3 hz3)
      | (((with_reducible refine wpList_storeB (o := ⟨none, .store 52 (.tmp 9) (.tmp 71), _, _, _, _⟩) ?_ 52 (.tmp 9) (.tmp 71) ?_ ?_ ?_ hb3 IS2.out HL2.out HN2.out ?_); rfl; rfl; rfl; rfl; intro w4 hb4 hg4 hz4); have hB14 : Below w1.heap.size w1 w4 := HB2.out.trans ((((Below.refl _ w2).grown hg3 (Nat.le_refl _) (by simp)).grown hg4 (by omega) (fun k e => by cases e; exact Nat.le_refl _)).mono HB2.out.size))
      | ((with_reducible refine wpList_oneU (o := ⟨some 75, _, _, _, _, _⟩) ?_ (.tmp 74) ?_ (k := cm) ?_ w4.heap.size ?_ ?_); rfl; rfl; rfl; exact Nat.le_refl _; intro w5 hO5 hB5 hz5; have hr5 := hO5.rd; have hOq := (HO1.out.below hB14).below hB5; have hbs := Nat.le_trans HSW.out (Nat.le_trans hB14.size hB5.size))
      | ((with_reducible refine wpList_app (o := ⟨some 76, _, _, _, _, _⟩) ?_ (.tmp 73) (.tmp 75) ?_ ?_ hOq ?_ hr5 (by have h1 := HK.out; have h2 := HQ.out; omega) hbs ?_); rfl; rfl; rfl; rfl; intro a6 c6 w6 hO6 hg6))
    have hB15 : Below w1.heap.size w1 w5 := hB14.trans (hB5.mono hB14.size)
    have HB6 : Hid (Below w0.heap.size w0 w6) := Lib.hid ((HB1.out.trans (hB15.mono HB1.out.size)).grown hg6 (Nat.le_trans HB1.out.size hB15.size) (fun k e => Nat.le_trans HSZ.out (hOq.lt e).1))
    have hr6 := hO6.rd
    rw [HQ.out] at hr6 ⊢
    have HK6 : Hid (k + 1 + 1 ≤ 3000000000002) := Lib.hid (by have := HK.out; omega)
    clear hb3 hg3 hz3 hb4 hg4 hz4 hB14 hO5 hB5 hz5 hr5 hOq hbs hB15 hO6 hg6 HO1 HB1 HSZ HB2 HG2 HK HQ IS2 HL2 HN2 hcap HSW hk2
    refine (getRecord_any w6 a6 (k + 1 + 1) c6 _ hr6 (by have := HK6.out; omega)).mono ?_
    rintro e w7 ⟨z3, _, hz3, rfl, _, hB7⟩
    rw [HG3.out]
    have IS3 : Hid ((Try.prog.info? 52).map (·.size) = some (rec z3).length) := Lib.hid (by rw [rec_length hz3]; exact info_record)
    have HL3 : Hid ((rec re0).length = (rec z3).length) := Lib.hid (by rw [rec_length hz3, rec_length re0_ok])
    have HN3 : Hid (∀ v ∈ rec z3, v.oneCell' = true) := Lib.hid (rec_one _)
    have HB7 := Lib.hid (HB6.out.trans (hB7.mono HB6.out.size))
    clear hB7 hr6 HB6 HG3 HK6
    go_wp2_with (first
      | ((with_reducible refine wpList_allocB (o := ⟨some 11, _, _, _, _, _⟩) ?_ 52 ?_ re0_info ?_); rfl; rfl; intro w8 hb8 hg8 hz8)
      | (((with_reducible refine wpList_storeB (o := ⟨none, .store 52 (.tmp 11) (.tmp 80), _, _, _, _⟩) ?_ 52 (.tmp 11) (.tmp 80) ?_ ?_ ?_ hb8 IS3.out HL3.out HN3.out ?_); rfl; rfl; rfl; rfl; intro w9 hb9 hg9 hz9); have HB9 := Lib.hid ((HB7.out.grown hg8 HB7.out.size (by simp)).grown hg9 (by have := HB7.out.size; omega) (fun k e => by cases e; exact HB7.out.size)); clear hb8 hg8 hz8 hb9 hg9 hz9 HB7; have hbl := HBY.out.below HB9.out) | ((with_reducible refine wpList_loadB (o := ⟨some 89, _, _, _, _, _⟩) ?_ 62 (.tmp 4) ?_ ?_ hbl Try.underlying62 ?_ ISd.out ?_); rfl; rfl; rfl; rfl))
    have HBC := HB9
    have hrl := HRY.out.below HBC.out
    refine (putDirectory_any w9 y HY.out hrl).mono ?_
    rintro e w1' ⟨v1, rfl, hO1, hB1'⟩
    have HSW' := Lib.hid hB1'.size
    have HSZ' := Lib.hid HBC.out.size
    have HB1' := Lib.hid (HBC.out.trans (hB1'.mono HBC.out.size))
    clear hbl hrl hB1' HBC
    by_cases h0 : (loDi y (0, [])).1 = 0
    · rw [if_pos h0] at hO1
      obtain ⟨a1, c1, rfl⟩ := hO1.shape
      have HCUT := Lib.hid (fun l s => gDir_cut y HY.out h0 l s)
      have HMORE := Lib.hid (fun c => gDir_more y HY.out h0 c)
      have hpos := loDi_pos y HY.out h0
      have hlen := loDi_len y HY.out
      rw [h0]
      generalize (loDi y (0, [])).2 = q at *
      generalize hq : q.length = nq at *
      obtain ⟨k, rfl⟩ : ∃ k, nq = k + 1 := ⟨nq - 1, by omega⟩
      have hr1 := hO1.rd
      obtain ⟨gb, go, ha1, _, _⟩ := hr1.at (by omega)
      subst ha1
      have hcap := hr1.cap
      have hr2 := hr1.take k (by omega)
      have HG2' : Hid (gDir (q.take k) = (di0, 60)) := Lib.hid (HCUT.out (q.take k) (q.drop k) (fun e => by have := congrArg List.length e; simp [hq] at this) (by rw [List.take_append_drop]))
      have HG3' := Lib.hid (HMORE.out cm)
      have HQ' := Lib.hid hq
      have HO1' := Lib.hid hO1
      have HK' : Hid (k ≤ 3000000000000) := Lib.hid (by omega)
      have hk2 : (k : Int) ≤ 3000000000000 := by omega
      clear h0 hlen hpos hq HCUT HMORE hO1 hr1
      go_wp2_with fail
      refine (getDirectory_any w1' _ k c1 _ hr2 (by have := HK'.out; omega)).mono ?_
      rintro e w2' ⟨z2, _, hz2, rfl, _, hB2'⟩
      rw [HG2'.out]
      have IS2' : Hid ((Try.prog.info? 62).map (·.size) = some (dic z2).length) := Lib.hid (by rw [dic_length hz2]; exact info_directory)
      have HL2' : Hid ((dic di0).length = (dic z2).length) := Lib.hid (by rw [dic_length hz2, dic_length di0_ok])
      have HN2' : Hid (∀ v ∈ dic z2, v.oneCell' = true) := Lib.hid (dic_one _)
      have HB2' := Lib.hid hB2'
      clear hB2' hr2
      go_wp2_with (first
        | ((with_reducible refine wpList_allocB (o := ⟨some 13, _, _, _, _, _⟩) ?_ 62 ?_ di0_info ?_); rfl; rfl; intro w3' hb3 hg3 hz3)
        | (((with_reducible refine wpList_storeB (o := ⟨none, .store 62 (.tmp 13) (.tmp 105), _, _, _, _⟩) ?_ 62 (.tmp 13) (.tmp 105) ?_ ?_ ?_ hb3 IS2'.out HL2'.out HN2'.out ?_); rfl; rfl; rfl; rfl; intro w4' hb4 hg4 hz4); have hB14' : Below w1'.heap.size w1' w4' := HB2'.out.trans ((((Below.refl _ w2').grown hg3 (Nat.le_refl _) (by simp)).grown hg4 (by omega) (fun k e => by cases e; exact Nat.le_refl _)).mono HB2'.out.size))
        | ((with_reducible refine wpList_oneU (o := ⟨some 109, _, _, _, _, _⟩) ?_ (.tmp 108) ?_ (k := cm) ?_ w4'.heap.size ?_ ?_); rfl; rfl; rfl; exact Nat.le_refl _; intro w5' hO5 hB5' hz5; have hr5 := hO5.rd; have hOq := (HO1'.out.below hB14').below hB5'; have hbs := Nat.le_trans HSW'.out (Nat.le_trans hB14'.size hB5'.size))
        | ((with_reducible refine wpList_app (o := ⟨some 110, _, _, _, _, _⟩) ?_ (.tmp 107) (.tmp 109) ?_ ?_ hOq ?_ hr5 (by have h1 := HK'.out; have h2 := HQ'.out; omega) hbs ?_); rfl; rfl; rfl; rfl; intro a6 c6 w6' hO6 hg6))
      have hB15' : Below w1'.heap.size w1' w5' := hB14'.trans (hB5'.mono hB14'.size)
      have HB6' : Hid (Below w0.heap.size w0 w6') := Lib.hid ((HB1'.out.trans (hB15'.mono HB1'.out.size)).grown hg6 (Nat.le_trans HB1'.out.size hB15'.size) (fun k e => Nat.le_trans HSZ'.out (hOq.lt e).1))
      have hr6 := hO6.rd
      rw [HQ'.out] at hr6 ⊢
      have HK6' : Hid (k + 1 + 1 ≤ 3000000000002) := Lib.hid (by have := HK'.out; omega)
      clear hb3 hg3 hz3 hb4 hg4 hz4 hB14' hO5 hB5' hz5 hr5 hOq hbs hB15' hO6 hg6 HO1' HB1' HSZ' HB2' HG2' HK' HQ' IS2' HL2' HN2' hcap HSW' hk2
      refine (getDirectory_any w6' a6 (k + 1 + 1) c6 _ hr6 (by have := HK6'.out; omega)).mono ?_
      rintro e w7' ⟨z3, _, hz3, rfl, _, hB7'⟩
      rw [HG3'.out]
      have IS3' : Hid ((Try.prog.info? 62).map (·.size) = some (dic z3).length) := Lib.hid (by rw [dic_length hz3]; exact info_directory)
      have HL3' : Hid ((dic di0).length = (dic z3).length) := Lib.hid (by rw [dic_length hz3, dic_length di0_ok])
      have HN3' : Hid (∀ v ∈ dic z3, v.oneCell' = true) := Lib.hid (dic_one _)
      have HB7' := Lib.hid (HB6'.out.trans (hB7'.mono HB6'.out.size))
      clear hB7' hr6 HB6' HG3' HK6'
      go_wp2_with (first
        | ((with_reducible refine wpList_allocB (o := ⟨some 15, _, _, _, _, _⟩) ?_ 62 ?_ di0_info ?_); rfl; rfl; intro w8' hb8 hg8 hz8)
        | (((with_reducible refine wpList_storeB (o := ⟨none, .store 62 (.tmp 15) (.tmp 114), _, _, _, _⟩) ?_ 62 (.tmp 15) (.tmp 114) ?_ ?_ ?_ hb8 IS3'.out HL3'.out HN3'.out ?_); rfl; rfl; rfl; rfl; intro w9' hb9 hg9 hz9); have HB9' := Lib.hid ((HB7'.out.grown hg8 HB7'.out.size (by simp)).grown hg9 (by have := HB7'.out.size; omega) (fun k e => by cases e; exact HB7'.out.size)); clear hb8 hg8 hz8 hb9 hg9 hz9 HB7'))
      refine (records_law w9').mono ?_
      rintro e wA ⟨rfl, hBA⟩
      have HBA := Lib.hid (HB9'.out.trans (hBA.mono HB9'.out.size))
      clear hBA
      go_wp2_with fail
      refine (directories_law wA).mono ?_
      rintro e wB ⟨rfl, hBB⟩
      have HBB := Lib.hid (HBA.out.trans (hBB.mono HBA.out.size))
      clear hBB
      go_wp2_with fail
      go_ret
      exact ⟨rfl, HLOW.out.trans (HBB.out.mono HLOW.out.size)⟩
    · generalize (loDi y (0, [])).1 = err at *
      clear hO1 HSZ' HSW'
      go_wp2_with fail
      refine (records_law w1').mono ?_
      rintro e wA ⟨rfl, hBA⟩
      have HBA := Lib.hid (HB1'.out.trans (hBA.mono HB1'.out.size))
      clear hBA
      go_wp2_with fail
      refine (directories_law wA).mono ?_
      rintro e wB ⟨rfl, hBB⟩
      have HBB := Lib.hid (HBA.out.trans (hBB.mono HBA.out.size))
      clear hBB
      go_wp2_with fail
      go_ret
      exact ⟨rfl, HLOW.out.trans (HBB.out.mono HLOW.out.size)⟩
  · generalize (loR x (0, [])).1 = err at *
    clear hO1 HSZ HSW
    have hbl := HBY.out.below HB1.out
    have hrl := HRY.out.below HB1.out
    have HBC := HB1
    go_wp2_with ((with_reducible refine wpList_loadB (o := ⟨some 89, _, _, _, _, _⟩) ?_ 62 (.tmp 4) ?_ ?_ hbl Try.underlying62 ?_ ISd.out ?_); rfl; rfl; rfl; rfl)
    refine (putDirectory_any w1 y HY.out hrl).mono ?_
    rintro e w1' ⟨v1, rfl, hO1, hB1'⟩
    have HSW' := Lib.hid hB1'.size
    have HSZ' := Lib.hid HBC.out.size
    have HB1' := Lib.hid (HBC.out.trans (hB1'.mono HBC.out.size))
    clear hbl hrl hB1' HBC
    by_cases h0 : (loDi y (0, [])).1 = 0
    · rw [if_pos h0] at hO1
      obtain ⟨a1, c1, rfl⟩ := hO1.shape
      have HCUT := Lib.hid (fun l s => gDir_cut y HY.out h0 l s)
      have HMORE := Lib.hid (fun c => gDir_more y HY.out h0 c)
      have hpos := loDi_pos y HY.out h0
      have hlen := loDi_len y HY.out
      rw [h0]
      generalize (loDi y (0, [])).2 = q at *
      generalize hq : q.length = nq at *
      obtain ⟨k, rfl⟩ : ∃ k, nq = k + 1 := ⟨nq - 1, by omega⟩
      have hr1 := hO1.rd
      obtain ⟨gb, go, ha1, _, _⟩ := hr1.at (by omega)
      subst ha1
      have hcap := hr1.cap
      have hr2 := hr1.take k (by omega)
      have HG2' : Hid (gDir (q.take k) = (di0, 60)) := Lib.hid (HCUT.out (q.take k) (q.drop k) (fun e => by have := congrArg List.length e; simp [hq] at this) (by rw [List.take_append_drop]))
      have HG3' := Lib.hid (HMORE.out cm)
      have HQ' := Lib.hid hq
      have HO1' := Lib.hid hO1
      have HK' : Hid (k ≤ 3000000000000) := Lib.hid (by omega)
      have hk2 : (k : Int) ≤ 3000000000000 := by omega
      clear h0 hlen hpos hq HCUT HMORE hO1 hr1
      go_wp2_with fail
      refine (getDirectory_any w1' _ k c1 _ hr2 (by have := HK'.out; omega)).mono ?_
      rintro e w2' ⟨z2, _, hz2, rfl, _, hB2'⟩
      rw [HG2'.out]
      have IS2' : Hid ((Try.prog.info? 62).map (·.size) = some (dic z2).length) := Lib.hid (by rw [dic_length hz2]; exact info_directory)
      have HL2' : Hid ((dic di0).length = (dic z2).length) := Lib.hid (by rw [dic_length hz2, dic_length di0_ok])
      have HN2' : Hid (∀ v ∈ dic z2, v.oneCell' = true) := Lib.hid (dic_one _)
      have HB2' := Lib.hid hB2'
      clear hB2' hr2
      go_wp2_with (first
        | ((with_reducible refine wpList_allocB (o := ⟨some 13, _, _, _, _, _⟩) ?_ 62 ?_ di0_info ?_); rfl; rfl; intro w3' hb3 hg3 hz3)
        | (((with_reducible refine wpList_storeB (o := ⟨none, .store 62 (.tmp 13) (.tmp 105), _, _, _, _⟩) ?_ 62 (.tmp 13) (.tmp 105) ?_ ?_ ?_ hb3 IS2'.out HL2'.out HN2'.out ?_); rfl; rfl; rfl; rfl; intro w4' hb4 hg4 hz4); have hB14' : Below w1'.heap.size w1' w4' := HB2'.out.trans ((((Below.refl _ w2').grown hg3 (Nat.le_refl _) (by simp)).grown hg4 (by omega) (fun k e => by cases e; exact Nat.le_refl _)).mono HB2'.out.size))
        | ((with_reducible refine wpList_oneU (o := ⟨some 109, _, _, _, _, _⟩) ?_ (.tmp 108) ?_ (k := cm) ?_ w4'.heap.size ?_ ?_); rfl; rfl; rfl; exact Nat.le_refl _; intro w5' hO5 hB5' hz5; have hr5 := hO5.rd; have hOq := (HO1'.out.below hB14').below hB5'; have hbs := Nat.le_trans HSW'.out (Nat.le_trans hB14'.size hB5'.size))
        | ((with_reducible refine wpList_app (o := ⟨some 110, _, _, _, _, _⟩) ?_ (.tmp 107) (.tmp 109) ?_ ?_ hOq ?_ hr5 (by have h1 := HK'.out; have h2 := HQ'.out; omega) hbs ?_); rfl; rfl; rfl; rfl; intro a6 c6 w6' hO6 hg6))
      have hB15' : Below w1'.heap.size w1' w5' := hB14'.trans (hB5'.mono hB14'.size)
      have HB6' : Hid (Below w0.heap.size w0 w6') := Lib.hid ((HB1'.out.trans (hB15'.mono HB1'.out.size)).grown hg6 (Nat.le_trans HB1'.out.size hB15'.size) (fun k e => Nat.le_trans HSZ'.out (hOq.lt e).1))
      have hr6 := hO6.rd
      rw [HQ'.out] at hr6 ⊢
      have HK6' : Hid (k + 1 + 1 ≤ 3000000000002) := Lib.hid (by have := HK'.out; omega)
      clear hb3 hg3 hz3 hb4 hg4 hz4 hB14' hO5 hB5' hz5 hr5 hOq hbs hB15' hO6 hg6 HO1' HB1' HSZ' HB2' HG2' HK' HQ' IS2' HL2' HN2' hcap HSW' hk2
      refine (getDirectory_any w6' a6 (k + 1 + 1) c6 _ hr6 (by have := HK6'.out; omega)).mono ?_
      rintro e w7' ⟨z3, _, hz3, rfl, _, hB7'⟩
      rw [HG3'.out]
      have IS3' : Hid ((Try.prog.info? 62).map (·.size) = some (dic z3).length) := Lib.hid (by rw [dic_length hz3]; exact info_directory)
      have HL3' : Hid ((dic di0).length = (dic z3).length) := Lib.hid (by rw [dic_length hz3, dic_length di0_ok])
      have HN3' : Hid (∀ v ∈ dic z3, v.oneCell' = true) := Lib.hid (dic_one _)
      have HB7' := Lib.hid (HB6'.out.trans (hB7'.mono HB6'.out.size))
      clear hB7' hr6 HB6' HG3' HK6'
      go_wp2_with (first
        | ((with_reducible refine wpList_allocB (o := ⟨some 15, _, _, _, _, _⟩) ?_ 62 ?_ di0_info ?_); rfl; rfl; intro w8' hb8 hg8 hz8)
        | (((with_reducible refine wpList_storeB (o := ⟨none, .store 62 (.tmp 15) (.tmp 114), _, _, _, _⟩) ?_ 62 (.tmp 15) (.tmp 114) ?_ ?_ ?_ hb8 IS3'.out HL3'.out HN3'.out ?_); rfl; rfl; rfl; rfl; intro w9' hb9 hg9 hz9); have HB9' := Lib.hid ((HB7'.out.grown hg8 HB7'.out.size (by simp)).grown hg9 (by have := HB7'.out.size; omega) (fun k e => by cases e; exact HB7'.out.size)); clear hb8 hg8 hz8 hb9 hg9 hz9 HB7'))
      refine (records_law w9').mono ?_
      rintro e wA ⟨rfl, hBA⟩
      have HBA := Lib.hid (HB9'.out.trans (hBA.mono HB9'.out.size))
      clear hBA
      go_wp2_with fail
      refine (directories_law wA).mono ?_
      rintro e wB ⟨rfl, hBB⟩
      have HBB := Lib.hid (HBA.out.trans (hBB.mono HBA.out.size))
      clear hBB
      go_wp2_with fail
      go_ret
      exact ⟨rfl, HLOW.out.trans (HBB.out.mono HLOW.out.size)⟩
    · generalize (loDi y (0, [])).1 = err at *
      clear hO1 HSZ' HSW'
      go_wp2_with fail
      refine (records_law w1').mono ?_
      rintro e wA ⟨rfl, hBA⟩
      have HBA := Lib.hid (HB1'.out.trans (hBA.mono HB1'.out.size))
      clear hBA
      go_wp2_with fail
      refine (directories_law wA).mono ?_
      rintro e wB ⟨rfl, hBB⟩
      have HBB := Lib.hid (HBA.out.trans (hBB.mono HBA.out.size))
      clear hBB
      go_wp2_with fail
      go_ret
      exact ⟨rfl, HLOW.out.trans (HBB.out.mono HLOW.out.size)⟩

end Go.Proofs.Yteeefehbfamfiaa
