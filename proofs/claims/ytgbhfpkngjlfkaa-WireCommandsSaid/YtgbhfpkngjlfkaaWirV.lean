/-
  WireCommands, walked.
-/
import Derived.Test.YtgbhfpkngjlfkaaWirU
namespace Go.Proofs.Ytgbhfpkngjlfkaa
open Go.RowKit
set_option maxRecDepth 100000

theorem gCm_nil : gCm [] = (cm0, 60) := by
  simp [gCm, gC, gN, cnt]

set_option maxHeartbeats 1000000 in
theorem walkWireCommands (w : World) (x : Cm) (hx : x.ok) :
    Calls Try.prog 3 #[.agg (cmc x).toArray] w fun f w' => f = .returned (.bool true) ∧ Below w.heap.size w w' := by
  have IS : Hid ((Try.prog.info? 26).map (·.size) = some (cmc x).length) := Lib.hid (by rw [cmc_length hx]; exact info_cm)
  have IS0 : Hid ((Try.prog.info? 26).map (·.size) = some (cmc cm0).length) := Lib.hid (by rw [cmc_length cm0_ok]; exact info_cm)
  have HL : Hid ((cmc cm0).length = (cmc x).length) := Lib.hid (by rw [cmc_length hx, cmc_length cm0_ok])
  have HONE : Hid (∀ v ∈ cmc x, v.oneCell' = true) := Lib.hid (cmc_one _)
  have HONE0 : Hid (∀ v ∈ cmc cm0, v.oneCell' = true) := Lib.hid (cmc_one _)
  have heq := fun w => eqCm w x hx
  have hb0 := Blk.new w 26 (cmc x)
  have hB0 : Below w.heap.size w (w.alloc (.cells (cmc x).toArray 26)) := (Below.refl _ w).alloc (Nat.le_refl _) _
  have hc3 := hb0.cell (j := 3) (v := .string x.us) rfl
  have hc4 := hb0.cell (j := 4) (v := .string x.ky) rfl
  by_cases hl1 : (262144 : Int) < (x.us.size : Int)
  · have HB := Lib.hid hB0
    clear hB0 hb0 heq hc4
    go_enter Try.func3, Try.ntmps3
    go_wp2
    go_ret
    exact ⟨rfl, HB.out⟩
  by_cases hl2 : (262144 : Int) < (x.ky.size : Int)
  · have HB := Lib.hid hB0
    clear hB0 hb0 heq
    go_enter Try.func3, Try.ntmps3
    go_wp2
    go_ret
    exact ⟨rfl, HB.out⟩
  go_enter Try.func3, Try.ntmps3
  go_wp2_with (first | ((with_reducible refine wpList_loadB (o := ⟨some 20, _, _, _, _, _⟩) ?_ 26 (.tmp 1) ?_ ?_ hb0 Try.underlying26 ?_ IS.out ?_); rfl; rfl; rfl; rfl))
  clear hc3 hc4 hl1 hl2
  generalize w.alloc (.cells (cmc x).toArray 26) = w0 at *
  refine (putCommand_any w0 x hx).mono ?_
  rintro e w1 ⟨v1, rfl, hO1, hB1⟩
  have hb1 := hb0.below hB1
  have hback := fun h => gCm_lo x hx h
  have hlen : (loC x (0, [])).2.length ≤ 200000 := by
    have h0 := loN_len2 x.kd (0, [])
    have h1 := loN_len2 x.cl (loN x.kd (0, []))
    have h2 := loN_len2 x.sq (loN x.cl (loN x.kd (0, [])))
    have h3 := loT_len2 x.us (loN x.sq (loN x.cl (loN x.kd (0, []))))
    have h4 := loT_len2 x.ky (loT x.us (loN x.sq (loN x.cl (loN x.kd (0, [])))))
    have h5 := loN_len2 x.ep (loT x.ky (loT x.us (loN x.sq (loN x.cl (loN x.kd (0, []))))))
    have h6 := loD_len2 hx (loN x.ep (loT x.ky (loT x.us (loN x.sq (loN x.cl (loN x.kd (0, [])))))))
    unfold loC; simp only [List.length_nil] at h0; omega
  have hB1' := Bt hB0 hB1
  clear hb0 hB0 hB1
  by_cases h0 : (loC x (0, [])).1 = 0
  · rw [if_pos h0] at hO1
    have hg := hback h0
    obtain ⟨a1, c1, rfl⟩ := hO1.shape
    have hr1 := hO1.rd
    rw [h0]
    have HP : Hid (∀ W e W', PutP W (loC x (0, [])) e W' → ∃ v, e = .returned (.tuple #[v, .int .i64 0]) ∧ Own W' W.heap.size v (loC x (0, [])).2 ∧ Below W.heap.size W W') := Lib.hid (by rintro W e W' ⟨v, rfl, h1, h2⟩; rw [h0] at *; rw [if_pos rfl] at h1; exact ⟨v, rfl, h1, h2⟩)
    have HPR := Lib.hid (fun W => putCommandR_any W x hx)
    generalize loC x (0, []) = o at *
    obtain ⟨err, q⟩ := o
    simp only at *
    clear hback h0 hO1
    generalize hq : q.length = nq at *
    have HQ := Lib.hid hq
    clear hq
    have HNQ : Hid (nq ≤ 1099511627776) := Lib.hid (by omega)
    clear hlen
    go_wp2_with (first | ((with_reducible refine wpList_loadB (o := ⟨some 25, _, _, _, _, _⟩) ?_ 26 (.tmp 1) ?_ ?_ hb1 Try.underlying26 ?_ IS.out ?_); rfl; rfl; rfl; rfl))
    refine (HPR.out w1).mono ?_
    intro e w2 hP
    obtain ⟨v2, rfl, hO2, hB2⟩ := HP.out _ _ _ hP
    obtain ⟨a2, c2, rfl⟩ := hO2.shape
    have hr2 := hO2.rd
    rw [HQ.out] at hr2 ⊢
    have hr12 := hr1.below hB2
    have hb2 := hb1.below hB2
    have hB2' := Bt hB1' hB2
    clear hP hO2 hB2 hb1 hB1' hr1
    go_wp2_with fail
    refine (laid_same w2 a1 nq c1 a2 nq c2 q 0 hr12 hr2).mono ?_
    rintro e w3 ⟨rfl, hB3⟩
    have hr3 := hr12.below hB3
    have hb3 := hb2.below hB3
    have hB3' := Bt hB2' hB3
    clear hr12 hr2 hb2 hB2' hB3
    go_wp2_with fail
    refine (getCommand_any w3 a1 nq c1 q hr3 HNQ.out).mono ?_
    rintro e w4 ⟨rfl, hB4⟩
    rw [hg]
    have hb4 := hb3.below hB4
    have HB4 := Lib.hid (Bt hB3' hB4)
    clear hr3 hb3 hB3' hB4 hg
    go_wp2_with (first | ((with_reducible refine wpList_allocB (o := ⟨some 7, _, _, _, _, _⟩) ?_ 26 ?_ cm0_info ?_); rfl; rfl; intro w5 hb5 hg5 hz5) | ((with_reducible refine wpList_storeB (o := ⟨none, .store 26 (.tmp 7) (.tmp 38), _, _, _, _⟩) ?_ 26 (.tmp 7) (.tmp 38) ?_ ?_ ?_ hb5 IS.out HL.out HONE.out ?_); rfl; rfl; rfl; rfl; intro w6 hb6 hg6 hz6))
    have hB6 := (HB4.out.grown hg5 HB4.out.size (by simp)).grown hg6 (by have := HB4.out.size; omega) (fun k e => by cases e; exact HB4.out.size)
    have hx6 := (hb4.grown hg5 (by simp)).grown hg6 (by have := hb4.lt; simp; omega)
    clear hb5 hg5 hg6 hz5 hz6 hb4
    refine (commands_law w6).mono ?_
    rintro e w7 ⟨rfl, hB7⟩
    have hb7 := hb6.below hB7
    have hx7 := hx6.below hB7
    have HB7 := Lib.hid (Bt hB6 hB7)
    clear hb6 hx6 hB6 hB7
    go_wp2_with (first | ((with_reducible refine wpList_loadR (o := ⟨some 48, _, _, _, _, _⟩) ?_ 26 (.tmp 1) ?_ ?_ hx7 Try.underlying26 ?_ IS.out ?_); rfl; rfl; rfl; rfl) | ((with_reducible refine wpList_loadR (o := ⟨some 49, _, _, _, _, _⟩) ?_ 26 (.tmp 7) ?_ ?_ hb7 Try.underlying26 ?_ IS.out ?_); rfl; rfl; rfl; rfl))
    go_ret
    exact ⟨rfl, HB7.out⟩
  · rw [if_neg h0] at hO1
    obtain ⟨a1, c1, rfl⟩ := hO1.shape
    have hr1 := hO1.rd
    have HP : Hid (∀ W e W', PutP W (loC x (0, [])) e W' → ∃ v, e = .returned (.tuple #[v, .int .i64 (loC x (0, [])).1]) ∧ Own W' W.heap.size v [] ∧ Below W.heap.size W W') := Lib.hid (by rintro W e W' ⟨v, rfl, h1, h2⟩; rw [if_neg h0] at h1; exact ⟨v, rfl, h1, h2⟩)
    have HPR := Lib.hid (fun W => putCommandR_any W x hx)
    generalize loC x (0, []) = o at *
    obtain ⟨err, q⟩ := o
    simp only [List.length_nil] at *
    clear hback hO1 hlen
    go_wp2_with (first | ((with_reducible refine wpList_loadB (o := ⟨some 25, _, _, _, _, _⟩) ?_ 26 (.tmp 1) ?_ ?_ hb1 Try.underlying26 ?_ IS.out ?_); rfl; rfl; rfl; rfl))
    refine (HPR.out w1).mono ?_
    intro e w2 hP
    obtain ⟨v2, rfl, hO2, hB2⟩ := HP.out _ _ _ hP
    obtain ⟨a2, c2, rfl⟩ := hO2.shape
    have hr2 := hO2.rd
    simp only [List.length_nil] at hr2 ⊢
    have hr12 := hr1.below hB2
    have hb2 := hb1.below hB2
    have hB2' := Bt hB1' hB2
    clear hP hO2 hB2 hb1 hB1' hr1
    go_wp2_with fail
    refine (laid_same w2 a1 0 c1 a2 0 c2 [] err hr12 hr2).mono ?_
    rintro e w3 ⟨rfl, hB3⟩
    have hr3 := hr12.below hB3
    have hb3 := hb2.below hB3
    have hB3' := Bt hB2' hB3
    clear hr12 hr2 hb2 hB2' hB3
    go_wp2_with fail
    refine (getCommand_any w3 a1 0 c1 [] hr3 (by decide)).mono ?_
    rintro e w4 ⟨rfl, hB4⟩
    rw [gCm_nil]
    have HB4 := Lib.hid (Bt hB3' hB4)
    clear hr3 hb3 hB3' hB4
    go_wp2_with (first | ((with_reducible refine wpList_allocB (o := ⟨some 7, _, _, _, _, _⟩) ?_ 26 ?_ cm0_info ?_); rfl; rfl; intro w5 hb5 hg5 hz5) | ((with_reducible refine wpList_storeB (o := ⟨none, .store 26 (.tmp 7) (.tmp 38), _, _, _, _⟩) ?_ 26 (.tmp 7) (.tmp 38) ?_ ?_ ?_ hb5 IS0.out rfl HONE0.out ?_); rfl; rfl; rfl; rfl; intro w6 hb6 hg6 hz6))
    have hB6 := (HB4.out.grown hg5 HB4.out.size (by simp)).grown hg6 (by have := HB4.out.size; omega) (fun k e => by cases e; exact HB4.out.size)
    clear hb5 hg5 hg6 hz5 hz6
    refine (commands_law w6).mono ?_
    rintro e w7 ⟨rfl, hB7⟩
    have HB7 := Lib.hid (Bt hB6 hB7)
    clear hb6 hB6 hB7
    go_wp2_with fail
    go_ret
    exact ⟨rfl, HB7.out⟩

end Go.Proofs.Ytgbhfpkngjlfkaa
