/-
  WireEntries: the chapter's example, and the law.
-/
import Derived.Test.YtoclahcibilbhaaGreatWirT2
import Derived.Test.YtoclahcibilbhaaGreatWirK
namespace Go.Proofs.YtoclahcibilbhaaGreat
open Go.RowKit
set_option maxRecDepth 100000

theorem gEn_lo (x : En) (hx : x.ok) (h : (loE x (0, [])).1 = 0) : gEn (loE x (0, [])).2 = (x.cl, 0) := by
  obtain ⟨_, b, e, g⟩ := back_entry hx _ h
  have := g []
  rw [List.append_nil] at this
  rw [e, List.nil_append]
  unfold gEn
  rw [this]
theorem gEn_nil : gEn [] = (en0, 60) := by simp [gEn, gE, gN, cnt]
theorem built_en0 : Tryz.prog.built 38 [] = some (enc en0).toArray := by kernel_rfl
theorem loN_0 : loN 0 = fun o => if o.1 ≠ 0 then o else (0, o.2 ++ [0]) := by
  have e0 : encC 0 = [0] := encC_lt (by decide)
  funext o; unfold loN; simp [e0]
theorem loT_0 : loT ByteArray.empty = fun o => if o.1 ≠ 0 then o else (0, o.2 ++ [0]) := by
  have e0 : encC 0 = [0] := encC_lt (by decide)
  funext o; unfold loT; simp [e0]
theorem loL_0 {α : Type} (lo : α → Lo → Lo) : loL lo [] = fun o => if o.1 ≠ 0 then o else (0, o.2 ++ [0]) := by
  have e0 : encC 0 = [0] := encC_lt (by decide)
  funext o
  unfold loL
  split
  · rfl
  · rename_i h
    simp only [ne_eq, Decidable.not_not] at h
    simp [loN, h, e0]
theorem lo_en0 : (loE en0 (0, [])).1 = 0 ∧ (loE en0 (0, [])).2.length = 43 := by
  unfold loE en0 loCo loC cm0 co0
  simp only [loN_0, loT_0, loL_0, loD]
  decide

set_option maxHeartbeats 1000000 in
theorem entries_law (w : World) :
    Calls Tryz.prog 23 #[] w fun f w' => f = .returned (.bool true) ∧ Below w.heap.size w w' := by
  have B1 := Lib.hid built_en0
  go_enter Tryz.func23, Tryz.ntmps23
  go_wp2_with (first | ((with_reducible refine wpList_buildI (dst := some 8) B1.out ?_ ?_); rfl))
  refine (putEntry_any w en0 en0_ok (En.own_rd (base := 0) en0_own)).mono ?_
  rintro e w1 ⟨v, rfl, hO, hB1⟩
  rw [if_pos lo_en0.1] at hO
  obtain ⟨a1, c1, rfl⟩ := hO.shape
  have hr := hO.rd
  have hgs := gEn_lo en0 en0_ok lo_en0.1
  rw [lo_en0.1]
  rw [lo_en0.2] at hr ⊢
  generalize (loE en0 (0, [])).2 = q at hr hgs
  clear hO B1
  go_wp2_with fail
  refine (getEntry_any w1 a1 43 c1 q hr (by decide)).mono ?_
  rintro e w2 ⟨y, _, hy2, rfl, _, hB2⟩
  rw [hgs]
  have IS : Hid ((Tryz.prog.info? 38).map (·.size) = some (enc y).length) := Lib.hid (by rw [enc_length hy2]; exact info_entry)
  have HL : Hid ((enc en0).length = (enc y).length) := Lib.hid (by rw [enc_length hy2, enc_length en0_ok])
  have HONE : Hid (∀ v ∈ enc y, v.oneCell' = true) := Lib.hid (enc_one _)
  have HB2 := Lib.hid (Bt hB1 hB2)
  clear hB1 hB2 hgs hr
  go_wp2_with (first | ((with_reducible refine wpList_allocB (o := ⟨some 3, _, _, _, _, _⟩) ?_ 38 ?_ en0_info ?_); rfl; rfl; intro w3 hb3 hg3 hz3) | ((with_reducible refine wpList_storeB (o := ⟨none, .store 38 (.tmp 3) (.tmp 15), _, _, _, _⟩) ?_ 38 (.tmp 3) (.tmp 15) ?_ ?_ ?_ hb3 IS.out HL.out HONE.out ?_); rfl; rfl; rfl; rfl; intro w4 hb4 hg4 hz4))
  have hB4 : Below w.heap.size w w4 := (HB2.out.grown hg3 HB2.out.size (by simp)).grown hg4 (by have := HB2.out.size; omega) (fun k e => by cases e; exact HB2.out.size)
  clear hb3 hg3 hg4 hz3 hz4
  refine (getEntry_any w4 none 0 0 [] (Rd.nil0 w4) (by decide)).mono ?_
  rintro e w5 ⟨z, _, hz2, rfl, _, hB5⟩
  rw [gEn_nil]
  have ISz : Hid ((Tryz.prog.info? 38).map (·.size) = some (enc z).length) := Lib.hid (by rw [enc_length hz2]; exact info_entry)
  have HLz : Hid ((enc en0).length = (enc z).length) := Lib.hid (by rw [enc_length hz2, enc_length en0_ok])
  have HONEz : Hid (∀ v ∈ enc z, v.oneCell' = true) := Lib.hid (enc_one _)
  have HB5 := Lib.hid (Bt hB4 hB5)
  clear hb4 hB4 hB5
  go_wp2_with (first | ((with_reducible refine wpList_allocB (o := ⟨some 5, _, _, _, _, _⟩) ?_ 38 ?_ en0_info ?_); rfl; rfl; intro w6 hb6 hg6 hz6) | ((with_reducible refine wpList_storeB (o := ⟨none, .store 38 (.tmp 5) (.tmp 19), _, _, _, _⟩) ?_ 38 (.tmp 5) (.tmp 19) ?_ ?_ ?_ hb6 ISz.out HLz.out HONEz.out ?_); rfl; rfl; rfl; rfl; intro w7 hb7 hg7 hz7))
  go_ret
  exact ⟨rfl, (HB5.out.grown hg6 HB5.out.size (by simp)).grown hg7 (by have := HB5.out.size; omega) (fun k e => by cases e; exact HB5.out.size)⟩

theorem Co.own_at {w : World} {B : Nat} {x : Co} (h : Co.own w B x) : x.at w := ⟨h.1.rd, h.2.rd⟩
theorem En.own_at {w : World} {B : Nat} {x : En} (h : En.own w B x) : x.co.at w := Co.own_at h
theorem En.rd_at {w : World} {x : En} (h : x.rd w) : x.co.at w := by
  have := h w _ _ (Below.refl _ w) (Nat.le_refl _) (Nat.le_refl _)
  exact ⟨this.1.rd, this.2.rd⟩
theorem loE_len (x : En) (hx : x.ok) : (loE x (0, [])).2.length ≤ 200000 := by
  have := loE_len3 (x := x) hx (0, [])
  simp only [List.length_nil] at this; omega

end Go.Proofs.YtoclahcibilbhaaGreat
