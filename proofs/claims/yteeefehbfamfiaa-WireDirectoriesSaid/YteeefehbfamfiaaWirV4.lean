/-
  WireDirectories.
-/
import Derived.Test.YteeefehbfamfiaaWirT6
import Derived.Test.YteeefehbfamfiaaWirS5
namespace Go.Proofs.Yteeefehbfamfiaa
open Go.RowKit
set_option maxRecDepth 100000

theorem loL_cl (l : List Ux) (o : Lo) : loL loU (l.map Ux.cl) o = loL loU l o := by
  unfold loL
  rw [List.length_map, List.foldl_map]
  rfl
theorem loDi_cl {x y : Di} (h : y.cl = x.cl) (o : Lo) : loDi y o = loDi x o := by
  have e1 : y.ep = x.ep := by have h2 := congrArg Di.ep h; exact h2
  have e2 : y.us.map Ux.cl = x.us.map Ux.cl := by have h2 := congrArg Di.us h; exact h2
  have e3 : y.hs = x.hs := by have h2 := congrArg Di.hs h; exact h2
  have e4 : y.ss = x.ss := by have h2 := congrArg Di.ss h; exact h2
  unfold loDi
  rw [← loL_cl y.us, ← loL_cl x.us, e1, e2, e3, e4]
theorem di_ok_cl {x y : Di} (h : y.cl = x.cl) (hx : x.ok) : y.ok := by
  have e3 : y.hs = x.hs := by have h2 := congrArg Di.hs h; exact h2
  intro z hz
  rw [e3] at hz
  exact hx z hz

set_option maxHeartbeats 8000000 in
theorem walkWireDirectories (w : World) (x : Di) (hx : x.ok) (hr : x.rd w) :
    Calls Try.prog 5 #[.agg (dic x).toArray] w fun f w' => f = .returned (.bool true) ∧ Below w.heap.size w w' := by
  have IS : Hid ((Try.prog.info? 62).map (·.size) = some (dic x).length) := Lib.hid (by rw [dic_length hx]; exact info_directory)
  have hb0 := Blk.new w 62 (dic x)
  have hB0 : Below w.heap.size w (w.alloc (.cells (dic x).toArray 62)) := (Below.refl _ w).alloc (Nat.le_refl _) _
  have hrd0 := hr.below hB0
  have HX := Lib.hid hx
  clear hr hx
  go_enter Try.func5, Try.ntmps5
  go_wp2_with (first | ((with_reducible refine wpList_loadB (o := ⟨some 10, _, _, _, _, _⟩) ?_ 62 (.tmp 1) ?_ ?_ hb0 Try.underlying62 ?_ IS.out ?_); rfl; rfl; rfl; rfl))
  generalize w.alloc (.cells (dic x).toArray 62) = w00 at *
  refine (big_directory w00 x hrd0).mono ?_
  rintro e w0 ⟨⟨big, rfl, hbig⟩, hB00⟩
  have hb0 := hb0.below hB00
  have hrd0 := hrd0.below hB00
  have hB0 := Bt hB0 hB00
  clear hB00
  cases big
  rotate_left
  · have HB := Lib.hid hB0
    clear hb0 hB0 hrd0 hbig
    go_wp2_with fail
    go_ret
    exact ⟨rfl, HB.out⟩
  have HSM := Lib.hid (hbig rfl)
  clear hbig
  go_wp2_with (first | ((with_reducible refine wpList_loadB (o := ⟨some 12, _, _, _, _, _⟩) ?_ 62 (.tmp 1) ?_ ?_ hb0 Try.underlying62 ?_ IS.out ?_); rfl; rfl; rfl; rfl))
  refine (own_directory w0 x (Di.rd_at hrd0) HSM.out).mono ?_
  rintro e wa ⟨⟨y, hyc, rfl, hyo⟩, hBa⟩
  have hyk : y.ok := di_ok_cl hyc HX.out
  have ISy : Hid ((Try.prog.info? 62).map (·.size) = some (dic y).length) := Lib.hid (by rw [dic_length hyk]; exact info_directory)
  have HLy : Hid ((dic di0).length = (dic y).length) := Lib.hid (by rw [dic_length hyk, dic_length di0_ok])
  have HONEy : Hid (∀ v ∈ dic y, v.oneCell' = true) := Lib.hid (dic_one _)
  have hba := hb0.below hBa
  have hrda := hrd0.below hBa
  have hyra : y.rd wa := Di.own_rd hyo
  have HBa := Lib.hid (Bt hB0 hBa)
  have HYK := Lib.hid hyk
  have HYC := Lib.hid hyc
  have HLO : Hid (∀ o, loDi y o = loDi x o) := Lib.hid (loDi_cl hyc)
  clear hb0 hB0 hrd0 hBa hyo hyk hyc
  go_wp2_with (first
    | ((with_reducible refine wpList_allocB (o := ⟨some 3, _, _, _, _, _⟩) ?_ 62 ?_ di0_info ?_); rfl; rfl; intro wb hbb hgb hzb)
    | (((with_reducible refine wpList_storeB (o := ⟨none, .store 62 (.tmp 3) (.tmp 13), _, _, _, _⟩) ?_ 62 (.tmp 3) (.tmp 13) ?_ ?_ ?_ hbb ISy.out HLy.out HONEy.out ?_); rfl; rfl; rfl; rfl; intro wc hbc hgc hzc); have hBac : Below wa.heap.size wa wc := ((Below.refl _ wa).grown hgb (Nat.le_refl _) (by simp)).grown hgc (by omega) (fun k e => by cases e; exact Nat.le_refl _); have hb1 := hba.below hBac)
    | ((with_reducible refine wpList_loadB (o := ⟨some 15, _, _, _, _, _⟩) ?_ 62 (.tmp 1) ?_ ?_ hb1 Try.underlying62 ?_ IS.out ?_); rfl; rfl; rfl; rfl))
  have hrd1 := hrda.below hBac
  have hyr1 := hyra.below hBac
  have HBc := Lib.hid (Bt HBa.out hBac)
  clear hbb hgb hzb hgc hzc hBac hba hrda hyra HBa
  refine (putDirectory_any wc x HX.out hrd1).mono ?_
  rintro e w1 ⟨v1, rfl, hO1, hB1⟩
  have hb1 := hb1.below hB1
  have hbo1 := hbc.below hB1
  have hrd1 := hrd1.below hB1
  have hyr1 := hyr1.below hB1
  have hback := fun h => gDir_lo x HX.out h
  have hlen := loDi_len x HX.out
  have HB1 := Lib.hid (Bt HBc.out hB1)
  clear hB1 hbc HBc
  by_cases h0 : (loDi x (0, [])).1 = 0
  · rw [if_pos h0] at hO1
    have hg := hback h0
    obtain ⟨a1, c1, rfl⟩ := hO1.shape
    have hr1 := hO1.rd
    rw [h0]
    have HP : Hid (∀ W e W', PutP W (loDi y (0, [])) e W' → ∃ v, e = .returned (.tuple #[v, .int .i64 0]) ∧ Own W' W.heap.size v (loDi x (0, [])).2 ∧ Below W.heap.size W W') := Lib.hid (by rintro W e W' ⟨v, rfl, h1, h2⟩; rw [HLO.out, h0] at *; rw [if_pos rfl] at h1; exact ⟨v, rfl, h1, h2⟩)
    have HPR := Lib.hid (fun W h => putDirectoryR_any W y HYK.out h)
    clear HLO
    generalize loDi x (0, []) = o at *
    obtain ⟨err, q⟩ := o
    simp only at *
    clear hback h0 hO1
    generalize hq : q.length = nq at *
    have HQ := Lib.hid hq
    clear hq
    have HNQ : Hid (nq ≤ 70000000000000) := Lib.hid (by omega)
    clear hlen
    go_wp2_with (first | ((with_reducible refine wpList_loadB (o := ⟨some 20, _, _, _, _, _⟩) ?_ 62 (.tmp 3) ?_ ?_ hbo1 Try.underlying62 ?_ ISy.out ?_); rfl; rfl; rfl; rfl))
    refine (HPR.out w1 hyr1).mono ?_
    intro e w2 hP
    obtain ⟨v2, rfl, hO2, hB2⟩ := HP.out _ _ _ hP
    obtain ⟨a2, c2, rfl⟩ := hO2.shape
    have hr2 := hO2.rd
    rw [HQ.out] at hr2 ⊢
    have hr12 := hr1.below hB2
    have hb2 := hb1.below hB2
    have hbo2 := hbo1.below hB2
    have hrd2 := hrd1.below hB2
    have hyr2 := hyr1.below hB2
    have HB2 := Lib.hid (Bt HB1.out hB2)
    clear hP hO2 hB2 hb1 HB1 hr1 hrd1 hyr1 hbo1
    go_wp2_with fail
    refine (laid_same w2 a1 nq c1 a2 nq c2 q 0 hr12 hr2).mono ?_
    rintro e w3 ⟨rfl, hB3⟩
    have hr3 := hr12.below hB3
    have hb3 := hb2.below hB3
    have hbo3 := hbo2.below hB3
    have hx3 := Di.rd_at (hrd2.below hB3)
    have hy3 := Di.rd_at (hyr2.below hB3)
    have HB3 := Lib.hid (Bt HB2.out hB3)
    clear hr12 hr2 hb2 HB2 hB3 hrd2 hyr2 hbo2
    go_wp2_with (first
      | ((with_reducible refine wpList_loadR (o := ⟨some 31, _, _, _, _, _⟩) ?_ 62 (.tmp 1) ?_ ?_ hb3 Try.underlying62 ?_ IS.out ?_); rfl; rfl; rfl; rfl)
      | ((with_reducible refine wpList_loadR (o := ⟨some 32, _, _, _, _, _⟩) ?_ 62 (.tmp 3) ?_ ?_ hbo3 Try.underlying62 ?_ ISy.out ?_); rfl; rfl; rfl; rfl))
    refine (same_directory w3 x y HYC.out HX.out hx3 hy3).mono ?_
    rintro e w4 ⟨rfl, hB4⟩
    have hr4 := hr3.below hB4
    have hb4 := hb3.below hB4
    have hx4 := hx3.below hB4
    have HB4 := Lib.hid (Bt HB3.out hB4)
    clear hr3 hb3 hx3 hy3 hbo3 HB3 hB4
    go_wp2_with fail
    refine (getDirectory_any w4 a1 nq c1 q hr4 HNQ.out).mono ?_
    rintro e w5 ⟨z, hz1, hz2, rfl, hW5, hB5⟩
    rw [hg] at hz1 ⊢
    have ISz : Hid ((Try.prog.info? 62).map (·.size) = some (dic z).length) := Lib.hid (by rw [dic_length hz2]; exact info_directory)
    have HLz : Hid ((dic di0).length = (dic z).length) := Lib.hid (by rw [dic_length hz2, dic_length di0_ok])
    have HONEz : Hid (∀ v ∈ dic z, v.oneCell' = true) := Lib.hid (dic_one _)
    have hb5 := hb4.below hB5
    have hx5 := hx4.below hB5
    have hz5 := Di.own_at hW5
    have HSE := Lib.hid (fun W h1 h2 => same_directory W x z hz1 HX.out h1 h2)
    have HB5 := Lib.hid (Bt HB4.out hB5)
    clear hr4 hb4 HB4 hB5 hg hx4 hW5 hz1
    go_wp2_with (first | ((with_reducible refine wpList_allocB (o := ⟨some 8, _, _, _, _, _⟩) ?_ 62 ?_ di0_info ?_); rfl; rfl; intro w6 hb6 hg6 hz6) | ((with_reducible refine wpList_storeB (o := ⟨none, .store 62 (.tmp 8) (.tmp 39), _, _, _, _⟩) ?_ 62 (.tmp 8) (.tmp 39) ?_ ?_ ?_ hb6 ISz.out HLz.out HONEz.out ?_); rfl; rfl; rfl; rfl; intro w7 hb7 hg7 hz7))
    have hB57 : Below w5.heap.size w5 w7 := ((Below.refl _ w5).grown hg6 (Nat.le_refl _) (by simp)).grown hg7 (by omega) (fun k e => by cases e; exact Nat.le_refl _)
    have hx7 := hx5.below hB57
    have hza7 := hz5.below hB57
    have hbx7 := hb5.below hB57
    have HB7 := Lib.hid (Bt HB5.out hB57)
    clear hb6 hg6 hz6 hg7 hz7 hb5 hx5 hz5 hB57 HB5
    refine (directories_law w7).mono ?_
    rintro e w8 ⟨rfl, hB8⟩
    have hb8 := hb7.below hB8
    have hbx8 := hbx7.below hB8
    have hx8 := hx7.below hB8
    have hza8 := hza7.below hB8
    have HB8 := Lib.hid (Bt HB7.out hB8)
    clear hb7 hbx7 hx7 hza7 HB7 hB8
    go_wp2_with (first | ((with_reducible refine wpList_loadR (o := ⟨some 49, _, _, _, _, _⟩) ?_ 62 (.tmp 1) ?_ ?_ hbx8 Try.underlying62 ?_ IS.out ?_); rfl; rfl; rfl; rfl) | ((with_reducible refine wpList_loadR (o := ⟨some 50, _, _, _, _, _⟩) ?_ 62 (.tmp 8) ?_ ?_ hb8 Try.underlying62 ?_ ISz.out ?_); rfl; rfl; rfl; rfl))
    refine (HSE.out w8 hx8 hza8).mono ?_
    rintro e w9 ⟨rfl, hB9⟩
    have HB9 := Lib.hid (Bt HB8.out hB9)
    clear hB9
    go_wp2_with fail
    go_ret
    exact ⟨rfl, HB9.out⟩
  · rw [if_neg h0] at hO1
    obtain ⟨a1, c1, rfl⟩ := hO1.shape
    have hr1 := hO1.rd
    have HP : Hid (∀ W e W', PutP W (loDi y (0, [])) e W' → ∃ v, e = .returned (.tuple #[v, .int .i64 (loDi x (0, [])).1]) ∧ Own W' W.heap.size v [] ∧ Below W.heap.size W W') := Lib.hid (by rintro W e W' ⟨v, rfl, h1, h2⟩; rw [HLO.out] at *; rw [if_neg h0] at h1; exact ⟨v, rfl, h1, h2⟩)
    have HPR := Lib.hid (fun W h => putDirectoryR_any W y HYK.out h)
    clear HLO
    generalize loDi x (0, []) = o at *
    obtain ⟨err, q⟩ := o
    simp only [List.length_nil] at *
    clear hback hO1 hlen
    go_wp2_with (first | ((with_reducible refine wpList_loadB (o := ⟨some 20, _, _, _, _, _⟩) ?_ 62 (.tmp 3) ?_ ?_ hbo1 Try.underlying62 ?_ ISy.out ?_); rfl; rfl; rfl; rfl))
    refine (HPR.out w1 hyr1).mono ?_
    intro e w2 hP
    obtain ⟨v2, rfl, hO2, hB2⟩ := HP.out _ _ _ hP
    obtain ⟨a2, c2, rfl⟩ := hO2.shape
    have hr2 := hO2.rd
    simp only [List.length_nil] at hr2 ⊢
    have hr12 := hr1.below hB2
    have hb2 := hb1.below hB2
    have hbo2 := hbo1.below hB2
    have hrd2 := hrd1.below hB2
    have hyr2 := hyr1.below hB2
    have HB2 := Lib.hid (Bt HB1.out hB2)
    clear hP hO2 hB2 hb1 HB1 hr1 hrd1 hyr1 hbo1
    go_wp2_with fail
    refine (laid_same w2 a1 0 c1 a2 0 c2 [] err hr12 hr2).mono ?_
    rintro e w3 ⟨rfl, hB3⟩
    have hr3 := hr12.below hB3
    have hb3 := hb2.below hB3
    have hbo3 := hbo2.below hB3
    have hx3 := Di.rd_at (hrd2.below hB3)
    have hy3 := Di.rd_at (hyr2.below hB3)
    have HB3 := Lib.hid (Bt HB2.out hB3)
    clear hr12 hr2 hb2 HB2 hB3 hrd2 hyr2 hbo2
    go_wp2_with (first
      | ((with_reducible refine wpList_loadR (o := ⟨some 31, _, _, _, _, _⟩) ?_ 62 (.tmp 1) ?_ ?_ hb3 Try.underlying62 ?_ IS.out ?_); rfl; rfl; rfl; rfl)
      | ((with_reducible refine wpList_loadR (o := ⟨some 32, _, _, _, _, _⟩) ?_ 62 (.tmp 3) ?_ ?_ hbo3 Try.underlying62 ?_ ISy.out ?_); rfl; rfl; rfl; rfl))
    refine (same_directory w3 x y HYC.out HX.out hx3 hy3).mono ?_
    rintro e w4 ⟨rfl, hB4⟩
    have hr4 := hr3.below hB4
    have HB4 := Lib.hid (Bt HB3.out hB4)
    clear hr3 hb3 hx3 hy3 hbo3 HB3 hB4
    go_wp2_with fail
    refine (getDirectory_any w4 a1 0 c1 [] hr4 (by decide)).mono ?_
    rintro e w5 ⟨z, _, hz2, rfl, _, hB5⟩
    rw [gDir_nil]
    have ISz : Hid ((Try.prog.info? 62).map (·.size) = some (dic z).length) := Lib.hid (by rw [dic_length hz2]; exact info_directory)
    have HLz : Hid ((dic di0).length = (dic z).length) := Lib.hid (by rw [dic_length hz2, dic_length di0_ok])
    have HONEz : Hid (∀ v ∈ dic z, v.oneCell' = true) := Lib.hid (dic_one _)
    have HB5 := Lib.hid (Bt HB4.out hB5)
    clear hr4 HB4 hB5
    go_wp2_with (first | ((with_reducible refine wpList_allocB (o := ⟨some 8, _, _, _, _, _⟩) ?_ 62 ?_ di0_info ?_); rfl; rfl; intro w6 hb6 hg6 hz6) | ((with_reducible refine wpList_storeB (o := ⟨none, .store 62 (.tmp 8) (.tmp 39), _, _, _, _⟩) ?_ 62 (.tmp 8) (.tmp 39) ?_ ?_ ?_ hb6 ISz.out HLz.out HONEz.out ?_); rfl; rfl; rfl; rfl; intro w7 hb7 hg7 hz7))
    have HB7 := Lib.hid ((HB5.out.grown hg6 HB5.out.size (by simp)).grown hg7 (by have := HB5.out.size; omega) (fun k e => by cases e; exact HB5.out.size))
    clear hb6 hg6 hz6 hb7 hg7 hz7 HB5
    refine (directories_law w7).mono ?_
    rintro e w8 ⟨rfl, hB8⟩
    have HB8 := Lib.hid (Bt HB7.out hB8)
    clear HB7 hB8
    go_wp2_with fail
    go_ret
    exact ⟨rfl, HB8.out⟩
end Go.Proofs.Yteeefehbfamfiaa
