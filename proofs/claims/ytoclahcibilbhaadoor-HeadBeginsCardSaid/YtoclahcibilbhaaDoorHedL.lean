/-
  The statements of layer 9: H, what it is laid as; the encodings of heads are apart.
-/
import Derived.Test.YtoclahcibilbhaaDoorHedB
import Derived.Test.YtoclahcibilbhaaDoorPure01
import Derived.Deep.CutBlock
namespace Go.Proofs.YtoclahcibilbhaaDoor
open Go.RowKit
set_option maxRecDepth 100000

def Yes9 (w : World) (e : Ending) (w' : World) : Prop := e = .returned (.bool true) ∧ Below w.heap.size w w'
theorem Yes9.mk {w w' : World} (h : Below w.heap.size w w') : Yes9 w (.returned (.bool true)) w' := ⟨rfl, h⟩
theorem encC_inj {m n : Nat} (hm : m ≤ 2147483647) (hn : n ≤ 2147483647) (h : encC m = encC n) : m = n := by
  have h1 := cnt_enc0 m [] hm
  have h2 := cnt_enc0 n [] hn
  rw [h, h2] at h1
  simpa using (congrArg Prod.fst h1).symm
theorem encH_inj {x y : Hd} (hx : x.ok) (hy : y.ok) (vx : hvalid x = true) (vy : hvalid y = true) (h : encH x = encH y) : x = y := by
  obtain ⟨a1, a2⟩ := hvalid_iff.1 vx
  obtain ⟨b1, b2⟩ := hvalid_iff.1 vy
  have hlen := congrArg List.length h
  unfold encH at h hlen
  simp only [List.length_append, hx.1, hx.2, hy.1, hy.2] at hlen
  have h1 := List.append_inj h (by simp only [List.length_append, hx.1, hy.1]; omega)
  have h2 := List.append_inj h1.1 (by omega)
  have h3 := encC_inj (by omega) (by omega) h2.1
  obtain ⟨e, r, p⟩ := x
  obtain ⟨e', r', p'⟩ := y
  simp only at *
  rw [show e = e' by omega, h2.2, h1.2]
theorem encH_eq {x y : Hd} (hx : x.ok) (hy : y.ok) (vx : hvalid x = true) (vy : hvalid y = true) : (encH x == encH y) = eqHd x y := by
  by_cases h : x = y
  · subst h
    rw [eqHd_self]
    exact beq_iff_eq.2 rfl
  · have h2 : eqHd x y = false := by
      cases h3 : eqHd x y
      · rfl
      · exact absurd ((eqHd_iff x y).1 h3) h
    rw [h2]
    exact beq_eq_false_iff_ne.2 fun e => h (encH_inj hx hy vx vy e)

theorem first_any (w : World) : Calls Tryd.prog 28 #[] w fun e w' => e = .returned (.agg (hdc hOne).toArray) ∧ Below w.heap.size w w' := by
  have HB := Lib.hid built_h1x
  have IS : Hid ((Tryd.prog.info? 25).map (·.size) = some (hdc hOne).length) := Lib.hid (by rw [hdc_length hOne_ok]; exact info_head0)
  have HL : Hid ((hdc hd0).length = (hdc hOne).length) := Lib.hid (by rw [hdc_length hOne_ok, hdc_length hd0_ok])
  have HO : Hid (∀ v ∈ hdc hOne, v.oneCell' = true) := Lib.hid (hdc_one _)
  go_enter Tryd.func28, Tryd.ntmps28
  go_wp2_with (first
    | ((with_reducible refine wpList_allocB (o := ⟨some 0, _, _, _, _, _⟩) ?_ 25 ?_ hd0_info0 ?_); rfl; rfl; intro w1 hb1 hg1 hz1)
    | ((with_reducible refine wpList_buildI (dst := some 1) HB.out ?_ ?_); rfl)
    | ((with_reducible refine wpList_storeB (o := ⟨none, .store 25 (.tmp 0) (.tmp 1), _, _, _, _⟩) ?_ 25 (.tmp 0) (.tmp 1) ?_ ?_ ?_ hb1 IS.out HL.out HO.out ?_); rfl; rfl; rfl; rfl; intro w2 hb2 hg2 hz2))
  apply bodyPost_ret
  exact results_blk rfl _ _ _ _ _ _ rfl hb2 Tryd.underlying25 rfl IS.out
  rfl
  exact ⟨rfl, ((Below.refl _ w).grown hg1 (Nat.le_refl _) (by simp)).grown hg2 (by omega) (fun k e => by cases e; exact Nat.le_refl _)⟩

set_option maxHeartbeats 1000000 in
theorem lays_any (w : World) : Calls Tryd.prog 12 #[] w fun e w' => e = .returned (.bool true) ∧ Below w.heap.size w w' := by
  have HB := Lib.hid built_h0x
  go_enter Tryd.func12, Tryd.ntmps12
  go_wp2_with fail
  refine (first_any w).mono ?_
  rintro e w1 ⟨rfl, hB1⟩
  go_wp2_with fail
  refine (hbytes_yes w1 hOne hOne_ok hOne_valid).mono ?_
  rintro e w2 ⟨a, n, c, hn, rfl, hO, hB2⟩
  obtain rfl : n = 65 := by rw [hn.out, encH_hOne]; rfl
  have hB2 := Bt hB1 hB2
  have hr := hO.rd
  clear hn hO hB1
  go_wp2_with (first | ((with_reducible refine wpList_buildI (dst := some 11) HB.out ?_ ?_); rfl))
  refine (hbytes_no w2 hd0 hd0_ok h0_valid).mono ?_
  rintro e w3 ⟨rfl, hB3⟩
  obtain ⟨b, off, rfl, _, hcell⟩ := (hr.below hB3).at (by decide)
  have hc := hcell 0 (by decide)
  rw [encH_hOne] at hc
  simp only [List.map_cons, List.getD_cons_zero, Nat.add_zero] at hc
  have HB3 := Lib.hid (Bt hB2 hB3)
  clear hr hB2 hB3 hcell
  go_wp2_with fail
  go_ret
  exact ⟨rfl, HB3.out⟩
end Go.Proofs.YtoclahcibilbhaaDoor
