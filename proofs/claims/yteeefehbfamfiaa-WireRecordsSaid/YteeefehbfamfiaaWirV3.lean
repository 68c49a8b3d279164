/-
  WireRecords.
-/
import Derived.Test.YteeefehbfamfiaaWirT3
namespace Go.Proofs.Yteeefehbfamfiaa
open Go.RowKit
set_option maxRecDepth 100000

set_option maxHeartbeats 4000000 in
theorem walkWireRecords (w : World) (x : Re) (hx : x.ok) (hr : x.rd w) :
    Calls Try.prog 4 #[.agg (rec x).toArray] w fun f w' => f = .returned (.bool true) ∧ Below w.heap.size w w' := by
  have IS : Hid ((Try.prog.info? 52).map (·.size) = some (rec x).length) := Lib.hid (by rw [rec_length hx]; exact info_record)
  have hb0 := Blk.new w 52 (rec x)
  have hB0 : Below w.heap.size w (w.alloc (.cells (rec x).toArray 52)) := (Below.refl _ w).alloc (Nat.le_refl _) _
  have hrd0 := hr.below hB0
  obtain ⟨_, _, _, p3, _, p5, _⟩ := re_parts hx _ _ hb0
  obtain ⟨hcu, hck, p4⟩ := ren_parts hx.1 p3
  obtain ⟨_, _, p6, hcd⟩ := sn_parts _ _ _ _ p5
  simp only [Nat.reduceAdd] at hcu hck p4 p6 hcd
  have I4 : Hid ((Try.prog.info? 30).map (·.size) = some (coc x.en.co).length) := Lib.hid (by rw [coc_length trivial]; kernel_rfl)
  have I5 : Hid ((Try.prog.info? 30).map (·.size) = some (coc x.sn.co).length) := Lib.hid (by rw [coc_length trivial]; kernel_rfl)
  have HX := Lib.hid hx
  clear p3 p5 hr
  by_cases hl1 : (262144 : Int) < (x.en.cm.us.size : Int)
  · have HB := Lib.hid hB0
    clear hB0 hb0 hck p4 p6 hcd hrd0
    go_enter Try.func4, Try.ntmps4
    go_wp2_with fail
    go_ret
    exact ⟨rfl, HB.out⟩
  by_cases hl2 : (262144 : Int) < (x.en.cm.ky.size : Int)
  · have HB := Lib.hid hB0
    clear hB0 hb0 p4 p6 hcd hrd0
    go_enter Try.func4, Try.ntmps4
    go_wp2_with fail
    go_ret
    exact ⟨rfl, HB.out⟩
  by_cases hl3 : (262144 : Int) < (x.sn.da.size : Int)
  · have HB := Lib.hid hB0
    clear hB0 hb0 p4 p6 hrd0
    go_enter Try.func4, Try.ntmps4
    go_wp2_with fail
    go_ret
    exact ⟨rfl, HB.out⟩
  go_enter Try.func4, Try.ntmps4
  go_wp2_with (first | ((with_reducible refine wpList_loadQ (o := ⟨some 33, _, _, _, _, _⟩) ?_ w.heap.size 44 30 (.tmp 32) ?_ ?_ p4 Try.underlying30 ?_ I4.out ?_); rfl; rfl; rfl; rfl))
  clear hcu hck hcd hl1 hl2 hl3 p4
  generalize w.alloc (.cells (rec x).toArray 52) = w00 at *
  refine (big_council w00 x.en.co).mono ?_
  rintro e w01 ⟨rfl, hB00⟩
  have hb0 := hb0.below hB00
  have hrd0 := hrd0.below hB00
  have hB0 := Bt hB0 hB00
  have p6 := range_below hB00 p6
  clear hB00
  cases hbig : bigC x.en.co
  rotate_left
  · have HB := Lib.hid hB0
    clear hb0 hB0 hrd0 p6
    go_wp2_with fail
    go_ret
    exact ⟨rfl, HB.out⟩
  clear hbig
  go_wp2_with (first | ((with_reducible refine wpList_loadQ (o := ⟨some 39, _, _, _, _, _⟩) ?_ w.heap.size 49 30 (.tmp 38) ?_ ?_ p6 Try.underlying30 ?_ I5.out ?_); rfl; rfl; rfl; rfl))
  refine (big_council w01 x.sn.co).mono ?_
  rintro e w0 ⟨rfl, hB00⟩
  have hb0 := hb0.below hB00
  have hrd0 := hrd0.below hB00
  have hB0 := Bt hB0 hB00
  clear hB00 p6
  cases hbig : bigC x.sn.co
  rotate_left
  · have HB := Lib.hid hB0
    clear hb0 hB0 hrd0
    go_wp2_with fail
    go_ret
    exact ⟨rfl, HB.out⟩
  clear hbig
  go_wp2_with (first | ((with_reducible refine wpList_loadB (o := ⟨some 43, _, _, _, _, _⟩) ?_ 52 (.tmp 1) ?_ ?_ hb0 Try.underlying52 ?_ IS.out ?_); rfl; rfl; rfl; rfl))
  refine (putRecord_any w0 x HX.out hrd0).mono ?_
  rintro e w1 ⟨v1, rfl, hO1, hB1⟩
  have hb1 := hb0.below hB1
  have hrd1 := hrd0.below hB1
  have hback := fun h => gRe_lo x HX.out h
  have hlen := loR_len x HX.out
  have hB1' := Bt hB0 hB1
  clear hb0 hB0 hB1 hrd0
  by_cases h0 : (loR x (0, [])).1 = 0
  · rw [if_pos h0] at hO1
    have hg := hback h0
    obtain ⟨a1, c1, rfl⟩ := hO1.shape
    have hr1 := hO1.rd
    rw [h0]
    have HP : Hid (∀ W e W', PutP W (loR x (0, [])) e W' → ∃ v, e = .returned (.tuple #[v, .int .i64 0]) ∧ Own W' W.heap.size v (loR x (0, [])).2 ∧ Below W.heap.size W W') := Lib.hid (by rintro W e W' ⟨v, rfl, h1, h2⟩; rw [h0] at *; rw [if_pos rfl] at h1; exact ⟨v, rfl, h1, h2⟩)
    have HPR := Lib.hid (fun W h => putRecordR_any W x HX.out h)
    generalize loR x (0, []) = o at *
    obtain ⟨err, q⟩ := o
    simp only at *
    clear hback h0 hO1
    generalize hq : q.length = nq at *
    have HQ := Lib.hid hq
    clear hq
    have HNQ : Hid (nq ≤ 70000000000000) := Lib.hid (by omega)
    clear hlen
    go_wp2_with (first | ((with_reducible refine wpList_loadB (o := ⟨some 48, _, _, _, _, _⟩) ?_ 52 (.tmp 1) ?_ ?_ hb1 Try.underlying52 ?_ IS.out ?_); rfl; rfl; rfl; rfl))
    refine (HPR.out w1 hrd1).mono ?_
    intro e w2 hP
    obtain ⟨v2, rfl, hO2, hB2⟩ := HP.out _ _ _ hP
    obtain ⟨a2, c2, rfl⟩ := hO2.shape
    have hr2 := hO2.rd
    rw [HQ.out] at hr2 ⊢
    have hr12 := hr1.below hB2
    have hb2 := hb1.below hB2
    have hrd2 := hrd1.below hB2
    have hB2' := Bt hB1' hB2
    clear hP hO2 hB2 hb1 hB1' hr1 hrd1
    go_wp2_with fail
    refine (laid_same w2 a1 nq c1 a2 nq c2 q 0 hr12 hr2).mono ?_
    rintro e w3 ⟨rfl, hB3⟩
    have hr3 := hr12.below hB3
    have hb3 := hb2.below hB3
    have hrd3 := hrd2.below hB3
    have hB3' := Bt hB2' hB3
    clear hr12 hr2 hb2 hB2' hB3 hrd2
    go_wp2_with fail
    refine (getRecord_any w3 a1 nq c1 q hr3 HNQ.out).mono ?_
    rintro e w4 ⟨y, hy1, hy2, rfl, hW4, hB4⟩
    rw [hg] at hy1 ⊢
    have ISy : Hid ((Try.prog.info? 52).map (·.size) = some (rec y).length) := Lib.hid (by rw [rec_length hy2]; exact info_record)
    have HLy : Hid ((rec re0).length = (rec y).length) := Lib.hid (by rw [rec_length hy2, rec_length re0_ok])
    have HONEy : Hid (∀ v ∈ rec y, v.oneCell' = true) := Lib.hid (rec_one _)
    have hb4 := hb3.below hB4
    have hx4 := Re.rd_at (hrd3.below hB4)
    have hy4 := Re.own_at hW4
    have HSE := Lib.hid (fun W h1 h2 => same_record W x y hy1 HX.out hy2 h1 h2)
    have HB4 := Lib.hid (Bt hB3' hB4)
    clear hr3 hb3 hB3' hB4 hg hrd3 hW4 hy1
    go_wp2_with (first | ((with_reducible refine wpList_allocB (o := ⟨some 7, _, _, _, _, _⟩) ?_ 52 ?_ re0_info ?_); rfl; rfl; intro w5 hb5 hg5 hz5) | ((with_reducible refine wpList_storeB (o := ⟨none, .store 52 (.tmp 7) (.tmp 61), _, _, _, _⟩) ?_ 52 (.tmp 7) (.tmp 61) ?_ ?_ ?_ hb5 ISy.out HLy.out HONEy.out ?_); rfl; rfl; rfl; rfl; intro w6 hb6 hg6 hz6))
    have hB46 : Below w4.heap.size w4 w6 := ((Below.refl _ w4).grown hg5 (Nat.le_refl _) (by simp)).grown hg6 (by omega) (fun k e => by cases e; exact Nat.le_refl _)
    have hB6 := Bt HB4.out hB46
    have hx6 := hb4.below hB46
    have hxa6 := hx4.below hB46
    have hya6 := hy4.below hB46
    clear hb5 hg5 hg6 hz5 hz6 hb4 hB46 hx4 hy4
    refine (records_law w6).mono ?_
    rintro e w7 ⟨rfl, hB7⟩
    have hb7 := hb6.below hB7
    have hx7 := hx6.below hB7
    have hxa7 := hxa6.below hB7
    have hya7 := hya6.below hB7
    have HB7 := Lib.hid (Bt hB6 hB7)
    clear hb6 hx6 hB6 hB7 hxa6 hya6
    go_wp2_with (first | ((with_reducible refine wpList_loadR (o := ⟨some 71, _, _, _, _, _⟩) ?_ 52 (.tmp 1) ?_ ?_ hx7 Try.underlying52 ?_ IS.out ?_); rfl; rfl; rfl; rfl) | ((with_reducible refine wpList_loadR (o := ⟨some 72, _, _, _, _, _⟩) ?_ 52 (.tmp 7) ?_ ?_ hb7 Try.underlying52 ?_ ISy.out ?_); rfl; rfl; rfl; rfl))
    refine (HSE.out w7 hxa7 hya7).mono ?_
    rintro e w8 ⟨rfl, hB8⟩
    have HB8 := Lib.hid (Bt HB7.out hB8)
    clear hB8
    go_wp2_with fail
    go_ret
    exact ⟨rfl, HB8.out⟩
  · rw [if_neg h0] at hO1
    obtain ⟨a1, c1, rfl⟩ := hO1.shape
    have hr1 := hO1.rd
    have HP : Hid (∀ W e W', PutP W (loR x (0, [])) e W' → ∃ v, e = .returned (.tuple #[v, .int .i64 (loR x (0, [])).1]) ∧ Own W' W.heap.size v [] ∧ Below W.heap.size W W') := Lib.hid (by rintro W e W' ⟨v, rfl, h1, h2⟩; rw [if_neg h0] at h1; exact ⟨v, rfl, h1, h2⟩)
    have HPR := Lib.hid (fun W h => putRecordR_any W x HX.out h)
    generalize loR x (0, []) = o at *
    obtain ⟨err, q⟩ := o
    simp only [List.length_nil] at *
    clear hback hO1 hlen
    go_wp2_with (first | ((with_reducible refine wpList_loadB (o := ⟨some 48, _, _, _, _, _⟩) ?_ 52 (.tmp 1) ?_ ?_ hb1 Try.underlying52 ?_ IS.out ?_); rfl; rfl; rfl; rfl))
    refine (HPR.out w1 hrd1).mono ?_
    intro e w2 hP
    obtain ⟨v2, rfl, hO2, hB2⟩ := HP.out _ _ _ hP
    obtain ⟨a2, c2, rfl⟩ := hO2.shape
    have hr2 := hO2.rd
    simp only [List.length_nil] at hr2 ⊢
    have hr12 := hr1.below hB2
    have hB2' := Bt hB1' hB2
    clear hP hO2 hB2 hb1 hB1' hr1 hrd1
    go_wp2_with fail
    refine (laid_same w2 a1 0 c1 a2 0 c2 [] err hr12 hr2).mono ?_
    rintro e w3 ⟨rfl, hB3⟩
    have hr3 := hr12.below hB3
    have hB3' := Bt hB2' hB3
    clear hr12 hr2 hB2' hB3
    go_wp2_with fail
    refine (getRecord_any w3 a1 0 c1 [] hr3 (by decide)).mono ?_
    rintro e w4 ⟨y, _, hy2, rfl, _, hB4⟩
    rw [gRe_nil]
    have ISy : Hid ((Try.prog.info? 52).map (·.size) = some (rec y).length) := Lib.hid (by rw [rec_length hy2]; exact info_record)
    have HLy : Hid ((rec re0).length = (rec y).length) := Lib.hid (by rw [rec_length hy2, rec_length re0_ok])
    have HONEy : Hid (∀ v ∈ rec y, v.oneCell' = true) := Lib.hid (rec_one _)
    have HB4 := Lib.hid (Bt hB3' hB4)
    clear hr3 hB3' hB4
    go_wp2_with (first | ((with_reducible refine wpList_allocB (o := ⟨some 7, _, _, _, _, _⟩) ?_ 52 ?_ re0_info ?_); rfl; rfl; intro w5 hb5 hg5 hz5) | ((with_reducible refine wpList_storeB (o := ⟨none, .store 52 (.tmp 7) (.tmp 61), _, _, _, _⟩) ?_ 52 (.tmp 7) (.tmp 61) ?_ ?_ ?_ hb5 ISy.out HLy.out HONEy.out ?_); rfl; rfl; rfl; rfl; intro w6 hb6 hg6 hz6))
    have hB6 := (HB4.out.grown hg5 HB4.out.size (by simp)).grown hg6 (by have := HB4.out.size; omega) (fun k e => by cases e; exact HB4.out.size)
    clear hb5 hg5 hg6 hz5 hz6
    refine (records_law w6).mono ?_
    rintro e w7 ⟨rfl, hB7⟩
    have HB7 := Lib.hid (Bt hB6 hB7)
    clear hb6 hB6 hB7
    go_wp2_with fail
    go_ret
    exact ⟨rfl, HB7.out⟩

end Go.Proofs.Yteeefehbfamfiaa
