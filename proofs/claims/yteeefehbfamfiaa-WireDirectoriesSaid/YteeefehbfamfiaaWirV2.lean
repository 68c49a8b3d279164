/-
  WireEntries: the chapter's example, and the law.
-/
import Derived.Test.YteeefehbfamfiaaWirT2
import Derived.Test.YteeefehbfamfiaaWirK
namespace Go.Proofs.Yteeefehbfamfiaa
open Go.RowKit
set_option maxRecDepth 100000

theorem gEn_lo (x : En) (hx : x.ok) (h : (loE x (0, [])).1 = 0) : gEn (loE x (0, [])).2 = (x.cl, 0) := by
  obtain ⟨_, b, e, g⟩ := back_entry hx _ h
  have := g []
  rw [List.append_nil] at this
  rw [e, List.nil_append]
  unfold gEn
  rw [this]
theorem gEn_nil : gEn [] = (en0, 60) := by simp [gEn, gE, gN, cnt]
theorem built_en0 : Try.prog.built 32 [] = some (enc en0).toArray := by kernel_rfl
theorem loN_0 : loN 0 = fun o => if o.1 ≠ 0 then o else (0, o.2 ++ [0]) := by
  have e0 : encC 0 = [0] := encC_lt (by decide)
  funext o; unfold loN; simp [e0]
theorem loT_0 : loT ByteArray.empty = fun o => if o.1 ≠ 0 then o else (0, o.2 ++ [0]) := by
  have e0 : encC 0 = [0] := encC_lt (by decide)
  funext o; unfold loT; simp [e0]
theorem loL_0 {α : Type} (lo : α → Lo → Lo) : loL lo [] = fun o => if o.1 ≠ 0 then o else (0, o.2 ++ [0]) := by
  have e0 : encC 0 = [0] := encC_lt (by decide)
  funext o
  unfold loL
  split
  · rfl
  · rename_i h
    simp only [ne_eq, Decidable.not_not] at h
    simp [loN, h, e0]
theorem lo_en0 : (loE en0 (0, [])).1 = 0 ∧ (loE en0 (0, [])).2.length = 43 := by
  unfold loE en0 loCo loC cm0 co0
  simp only [loN_0, loT_0, loL_0, loD]
  decide

set_option maxHeartbeats 1000000 in
theorem entries_law (w : World) :
    Calls Try.prog 12 #[] w fun f w' => f = .returned (.bool true) ∧ Below w.heap.size w w' := by
  have B1 := Lib.hid built_en0
  go_enter Try.func12, Try.ntmps12
  go_wp2_with (first | ((with_reducible refine wpList_buildI (dst := some 8) B1.out ?_ ?_); rfl))
  refine (putEntry_any w en0 en0_ok (En.own_rd (base := 0) en0_own)).mono ?_
  rintro e w1 ⟨v, rfl, hO, hB1⟩
  rw [if_pos lo_en0.1] at hO
  obtain ⟨a1, c1, rfl⟩ := hO.shape
  have hr := hO.rd
  have hgs := gEn_lo en0 en0_ok lo_en0.1
  rw [lo_en0.1]
  rw [lo_en0.2] at hr ⊢
  generalize (loE en0 (0, [])).2 = q at hr hgs
  clear hO B1
  go_wp2_with fail
  refine (getEntry_any w1 a1 43 c1 q hr (by decide)).mono ?_
  rintro e w2 ⟨y, _, hy2, rfl, _, hB2⟩
  rw [hgs]
  have IS : Hid ((Try.prog.info? 32).map (·.size) = some (enc y).length) := Lib.hid (by rw [enc_length hy2]; exact info_entry)
  have HL : Hid ((enc en0).length = (enc y).length) := Lib.hid (by rw [enc_length hy2, enc_length en0_ok])
  have HONE : Hid (∀ v ∈ enc y, v.oneCell' = true) := Lib.hid (enc_one _)
  have HB2 := Lib.hid (Bt hB1 hB2)
  clear hB1 hB2 hgs hr
  go_wp2_with (first | ((with_reducible refine wpList_allocB (o := ⟨some 3, _, _, _, _, _⟩) ?_ 32 ?_ en0_info ?_); rfl; rfl; intro w3 hb3 hg3 hz3) | ((with_reducible refine wpList_storeB (o := ⟨none, .store 32 (.tmp 3) (.tmp 15), _, _, _, _⟩) ?_ 32 (.tmp 3) (.tmp 15) ?_ ?_ ?_ hb3 IS.out HL.out HONE.out ?_); rfl; rfl; rfl; rfl; intro w4 hb4 hg4 hz4))
  have hB4 : Below w.heap.size w w4 := (HB2.out.grown hg3 HB2.out.size (by simp)).grown hg4 (by have := HB2.out.size; omega) (fun k e => by cases e; exact HB2.out.size)
  clear hb3 hg3 hg4 hz3 hz4
  refine (getEntry_any w4 none 0 0 [] (Rd.nil0 w4) (by decide)).mono ?_
  rintro e w5 ⟨z, _, hz2, rfl, _, hB5⟩
  rw [gEn_nil]
  have ISz : Hid ((Try.prog.info? 32).map (·.size) = some (enc z).length) := Lib.hid (by rw [enc_length hz2]; exact info_entry)
  have HLz : Hid ((enc en0).length = (enc z).length) := Lib.hid (by rw [enc_length hz2, enc_length en0_ok])
  have HONEz : Hid (∀ v ∈ enc z, v.oneCell' = true) := Lib.hid (enc_one _)
  have HB5 := Lib.hid (Bt hB4 hB5)
  clear hb4 hB4 hB5
  go_wp2_with (first | ((with_reducible refine wpList_allocB (o := ⟨some 5, _, _, _, _, _⟩) ?_ 32 ?_ en0_info ?_); rfl; rfl; intro w6 hb6 hg6 hz6) | ((with_reducible refine wpList_storeB (o := ⟨none, .store 32 (.tmp 5) (.tmp 19), _, _, _, _⟩) ?_ 32 (.tmp 5) (.tmp 19) ?_ ?_ ?_ hb6 ISz.out HLz.out HONEz.out ?_); rfl; rfl; rfl; rfl; intro w7 hb7 hg7 hz7))
  go_ret
  exact ⟨rfl, (HB5.out.grown hg6 HB5.out.size (by simp)).grown hg7 (by have := HB5.out.size; omega) (fun k e => by cases e; exact HB5.out.size)⟩

theorem Co.own_at {w : World} {B : Nat} {x : Co} (h : Co.own w B x) : x.at w := ⟨h.1.rd, h.2.rd⟩
theorem En.own_at {w : World} {B : Nat} {x : En} (h : En.own w B x) : x.co.at w := Co.own_at h
theorem En.rd_at {w : World} {x : En} (h : x.rd w) : x.co.at w := by
  have := h w _ _ (Below.refl _ w) (Nat.le_refl _) (Nat.le_refl _)
  exact ⟨this.1.rd, this.2.rd⟩
theorem loE_len (x : En) (hx : x.ok) : (loE x (0, [])).2.length ≤ 200000 := by
  have := loE_len3 (x := x) hx (0, [])
  simp only [List.length_nil] at this; omega

set_option maxHeartbeats 2000000 in
theorem walkWireEntries (w : World) (x : En) (hx : x.ok) (hr : x.rd w) :
    Calls Try.prog 3 #[.agg (enc x).toArray] w fun f w' => f = .returned (.bool true) ∧ Below w.heap.size w w' := by
  have IS : Hid ((Try.prog.info? 32).map (·.size) = some (enc x).length) := Lib.hid (by rw [enc_length hx]; exact info_entry)
  have hb0 := Blk.new w 32 (enc x)
  have hB0 : Below w.heap.size w (w.alloc (.cells (enc x).toArray 32)) := (Below.refl _ w).alloc (Nat.le_refl _) _
  have hrd0 := hr.below hB0
  obtain ⟨_, _, _, p3, p4⟩ := en_parts hx _ _ hb0
  have hcu : (w.alloc (.cells (enc x).toArray 32)).cell? ⟨w.heap.size, 6, none⟩ = some (.string x.cm.us) := by have := range_cell p3 3 (v := .string x.cm.us) rfl; simpa using this
  have hck : (w.alloc (.cells (enc x).toArray 32)).cell? ⟨w.heap.size, 7, none⟩ = some (.string x.cm.ky) := by have := range_cell p3 4 (v := .string x.cm.ky) rfl; simpa using this
  have I4 : Hid ((Try.prog.info? 30).map (·.size) = some (coc x.co).length) := Lib.hid (by rw [coc_length trivial]; kernel_rfl)
  have HX := Lib.hid hx
  clear p3 hr
  by_cases hl1 : (262144 : Int) < (x.cm.us.size : Int)
  · have HB := Lib.hid hB0
    clear hB0 hb0 hck p4 hrd0
    go_enter Try.func3, Try.ntmps3
    go_wp2_with fail
    go_ret
    exact ⟨rfl, HB.out⟩
  by_cases hl2 : (262144 : Int) < (x.cm.ky.size : Int)
  · have HB := Lib.hid hB0
    clear hB0 hb0 p4 hrd0
    go_enter Try.func3, Try.ntmps3
    go_wp2_with fail
    go_ret
    exact ⟨rfl, HB.out⟩
  go_enter Try.func3, Try.ntmps3
  go_wp2_with (first | ((with_reducible refine wpList_loadQ (o := ⟨some 23, _, _, _, _, _⟩) ?_ w.heap.size 41 30 (.tmp 22) ?_ ?_ p4 Try.underlying30 ?_ I4.out ?_); rfl; rfl; rfl; rfl))
  clear hcu hck hl1 hl2 p4
  generalize w.alloc (.cells (enc x).toArray 32) = w00 at *
  refine (big_council w00 x.co).mono ?_
  rintro e w0 ⟨rfl, hB00⟩
  have hb0 := hb0.below hB00
  have hrd0 := hrd0.below hB00
  have hB0 := Bt hB0 hB00
  clear hB00
  cases hbig : bigC x.co
  rotate_left
  · have HB := Lib.hid hB0
    clear hb0 hB0 hrd0
    go_wp2_with fail
    go_ret
    exact ⟨rfl, HB.out⟩
  clear hbig
  go_wp2_with (first | ((with_reducible refine wpList_loadB (o := ⟨some 27, _, _, _, _, _⟩) ?_ 32 (.tmp 1) ?_ ?_ hb0 Try.underlying32 ?_ IS.out ?_); rfl; rfl; rfl; rfl))
  refine (putEntry_any w0 x HX.out hrd0).mono ?_
  rintro e w1 ⟨v1, rfl, hO1, hB1⟩
  have hb1 := hb0.below hB1
  have hrd1 := hrd0.below hB1
  have hback := fun h => gEn_lo x HX.out h
  have hlen := loE_len x HX.out
  have hB1' := Bt hB0 hB1
  clear hb0 hB0 hB1 hrd0
  by_cases h0 : (loE x (0, [])).1 = 0
  · rw [if_pos h0] at hO1
    have hg := hback h0
    obtain ⟨a1, c1, rfl⟩ := hO1.shape
    have hr1 := hO1.rd
    rw [h0]
    have HP : Hid (∀ W e W', PutP W (loE x (0, [])) e W' → ∃ v, e = .returned (.tuple #[v, .int .i64 0]) ∧ Own W' W.heap.size v (loE x (0, [])).2 ∧ Below W.heap.size W W') := Lib.hid (by rintro W e W' ⟨v, rfl, h1, h2⟩; rw [h0] at *; rw [if_pos rfl] at h1; exact ⟨v, rfl, h1, h2⟩)
    have HPR := Lib.hid (fun W h => putEntryR_any W x HX.out h)
    generalize loE x (0, []) = o at *
    obtain ⟨err, q⟩ := o
    simp only at *
    clear hback h0 hO1
    generalize hq : q.length = nq at *
    have HQ := Lib.hid hq
    clear hq
    have HNQ : Hid (nq ≤ 70000000000000) := Lib.hid (by omega)
    clear hlen
    go_wp2_with (first | ((with_reducible refine wpList_loadB (o := ⟨some 32, _, _, _, _, _⟩) ?_ 32 (.tmp 1) ?_ ?_ hb1 Try.underlying32 ?_ IS.out ?_); rfl; rfl; rfl; rfl))
    refine (HPR.out w1 hrd1).mono ?_
    intro e w2 hP
    obtain ⟨v2, rfl, hO2, hB2⟩ := HP.out _ _ _ hP
    obtain ⟨a2, c2, rfl⟩ := hO2.shape
    have hr2 := hO2.rd
    rw [HQ.out] at hr2 ⊢
    have hr12 := hr1.below hB2
    have hb2 := hb1.below hB2
    have hrd2 := hrd1.below hB2
    have hB2' := Bt hB1' hB2
    clear hP hO2 hB2 hb1 hB1' hr1 hrd1
    go_wp2_with fail
    refine (laid_same w2 a1 nq c1 a2 nq c2 q 0 hr12 hr2).mono ?_
    rintro e w3 ⟨rfl, hB3⟩
    have hr3 := hr12.below hB3
    have hb3 := hb2.below hB3
    have hrd3 := hrd2.below hB3
    have hB3' := Bt hB2' hB3
    clear hr12 hr2 hb2 hB2' hB3 hrd2
    go_wp2_with fail
    refine (getEntry_any w3 a1 nq c1 q hr3 HNQ.out).mono ?_
    rintro e w4 ⟨y, hy1, hy2, rfl, hW4, hB4⟩
    rw [hg] at hy1 ⊢
    have ISy : Hid ((Try.prog.info? 32).map (·.size) = some (enc y).length) := Lib.hid (by rw [enc_length hy2]; exact info_entry)
    have HLy : Hid ((enc en0).length = (enc y).length) := Lib.hid (by rw [enc_length hy2, enc_length en0_ok])
    have HONEy : Hid (∀ v ∈ enc y, v.oneCell' = true) := Lib.hid (enc_one _)
    have hb4 := hb3.below hB4
    have hx4 := En.rd_at (hrd3.below hB4)
    have hy4 := En.own_at hW4
    have HSE := Lib.hid (fun W h1 h2 => same_entry W x y hy1 HX.out hy2 h1 h2)
    have HB4 := Lib.hid (Bt hB3' hB4)
    clear hr3 hb3 hB3' hB4 hg hrd3 hW4 hy1
    go_wp2_with (first | ((with_reducible refine wpList_allocB (o := ⟨some 7, _, _, _, _, _⟩) ?_ 32 ?_ en0_info ?_); rfl; rfl; intro w5 hb5 hg5 hz5) | ((with_reducible refine wpList_storeB (o := ⟨none, .store 32 (.tmp 7) (.tmp 45), _, _, _, _⟩) ?_ 32 (.tmp 7) (.tmp 45) ?_ ?_ ?_ hb5 ISy.out HLy.out HONEy.out ?_); rfl; rfl; rfl; rfl; intro w6 hb6 hg6 hz6))
    have hB46 : Below w4.heap.size w4 w6 := ((Below.refl _ w4).grown hg5 (Nat.le_refl _) (by simp)).grown hg6 (by omega) (fun k e => by cases e; exact Nat.le_refl _)
    have hB6 := Bt HB4.out hB46
    have hx6 := hb4.below hB46
    have hxa6 := hx4.below hB46
    have hya6 := hy4.below hB46
    clear hb5 hg5 hg6 hz5 hz6 hb4 hB46 hx4 hy4
    refine (entries_law w6).mono ?_
    rintro e w7 ⟨rfl, hB7⟩
    have hb7 := hb6.below hB7
    have hx7 := hx6.below hB7
    have hxa7 := hxa6.below hB7
    have hya7 := hya6.below hB7
    have HB7 := Lib.hid (Bt hB6 hB7)
    clear hb6 hx6 hB6 hB7 hxa6 hya6
    go_wp2_with (first | ((with_reducible refine wpList_loadR (o := ⟨some 55, _, _, _, _, _⟩) ?_ 32 (.tmp 1) ?_ ?_ hx7 Try.underlying32 ?_ IS.out ?_); rfl; rfl; rfl; rfl) | ((with_reducible refine wpList_loadR (o := ⟨some 56, _, _, _, _, _⟩) ?_ 32 (.tmp 7) ?_ ?_ hb7 Try.underlying32 ?_ ISy.out ?_); rfl; rfl; rfl; rfl))
    refine (HSE.out w7 hxa7 hya7).mono ?_
    rintro e w8 ⟨rfl, hB8⟩
    have HB8 := Lib.hid (Bt HB7.out hB8)
    clear hB8
    go_wp2_with fail
    go_ret
    exact ⟨rfl, HB8.out⟩
  · rw [if_neg h0] at hO1
    obtain ⟨a1, c1, rfl⟩ := hO1.shape
    have hr1 := hO1.rd
    have HP : Hid (∀ W e W', PutP W (loE x (0, [])) e W' → ∃ v, e = .returned (.tuple #[v, .int .i64 (loE x (0, [])).1]) ∧ Own W' W.heap.size v [] ∧ Below W.heap.size W W') := Lib.hid (by rintro W e W' ⟨v, rfl, h1, h2⟩; rw [if_neg h0] at h1; exact ⟨v, rfl, h1, h2⟩)
    have HPR := Lib.hid (fun W h => putEntryR_any W x HX.out h)
    generalize loE x (0, []) = o at *
    obtain ⟨err, q⟩ := o
    simp only [List.length_nil] at *
    clear hback hO1 hlen
    go_wp2_with (first | ((with_reducible refine wpList_loadB (o := ⟨some 32, _, _, _, _, _⟩) ?_ 32 (.tmp 1) ?_ ?_ hb1 Try.underlying32 ?_ IS.out ?_); rfl; rfl; rfl; rfl))
    refine (HPR.out w1 hrd1).mono ?_
    intro e w2 hP
    obtain ⟨v2, rfl, hO2, hB2⟩ := HP.out _ _ _ hP
    obtain ⟨a2, c2, rfl⟩ := hO2.shape
    have hr2 := hO2.rd
    simp only [List.length_nil] at hr2 ⊢
    have hr12 := hr1.below hB2
    have hB2' := Bt hB1' hB2
    clear hP hO2 hB2 hb1 hB1' hr1 hrd1
    go_wp2_with fail
    refine (laid_same w2 a1 0 c1 a2 0 c2 [] err hr12 hr2).mono ?_
    rintro e w3 ⟨rfl, hB3⟩
    have hr3 := hr12.below hB3
    have hB3' := Bt hB2' hB3
    clear hr12 hr2 hB2' hB3
    go_wp2_with fail
    refine (getEntry_any w3 a1 0 c1 [] hr3 (by decide)).mono ?_
    rintro e w4 ⟨y, _, hy2, rfl, _, hB4⟩
    rw [gEn_nil]
    have ISy : Hid ((Try.prog.info? 32).map (·.size) = some (enc y).length) := Lib.hid (by rw [enc_length hy2]; exact info_entry)
    have HLy : Hid ((enc en0).length = (enc y).length) := Lib.hid (by rw [enc_length hy2, enc_length en0_ok])
    have HONEy : Hid (∀ v ∈ enc y, v.oneCell' = true) := Lib.hid (enc_one _)
    have HB4 := Lib.hid (Bt hB3' hB4)
    clear hr3 hB3' hB4
    go_wp2_with (first | ((with_reducible refine wpList_allocB (o := ⟨some 7, _, _, _, _, _⟩) ?_ 32 ?_ en0_info ?_); rfl; rfl; intro w5 hb5 hg5 hz5) | ((with_reducible refine wpList_storeB (o := ⟨none, .store 32 (.tmp 7) (.tmp 45), _, _, _, _⟩) ?_ 32 (.tmp 7) (.tmp 45) ?_ ?_ ?_ hb5 ISy.out HLy.out HONEy.out ?_); rfl; rfl; rfl; rfl; intro w6 hb6 hg6 hz6))
    have hB6 := (HB4.out.grown hg5 HB4.out.size (by simp)).grown hg6 (by have := HB4.out.size; omega) (fun k e => by cases e; exact HB4.out.size)
    clear hb5 hg5 hg6 hz5 hz6
    refine (entries_law w6).mono ?_
    rintro e w7 ⟨rfl, hB7⟩
    have HB7 := Lib.hid (Bt hB6 hB7)
    clear hb6 hB6 hB7
    go_wp2_with fail
    go_ret
    exact ⟨rfl, HB7.out⟩

end Go.Proofs.Yteeefehbfamfiaa
