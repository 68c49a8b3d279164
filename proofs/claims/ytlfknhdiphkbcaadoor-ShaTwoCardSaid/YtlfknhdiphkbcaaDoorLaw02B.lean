/-
  The walk of ShaTwo.
-/
import Derived.Test.YtlfknhdiphkbcaaDoorLaw02A
namespace Go.Proofs.YtlfknhdiphkbcaaDoor
open Go.RowKit

theorem eqSelf (D : List UInt8) (h : D.length = 32) (W : World) : (Op.equalIn 10000 26 (.agg (bs D).toArray) (.agg (bs D).toArray)).run Tryd.prog W = .ok true W := by
  rw [eqInD W D D h h]; simp

theorem HashAt.own {w w' : World} {r base : Nat} {l q : List UInt8} {v : Value} (h : HashAt w r l) (hO : Own w base v q) (hg : w.grownBy w' v.ownBlock) : HashAt w' r l := by
  obtain ⟨s, bl, h1, h2⟩ := h
  exact ⟨s, bl, h1, h2.grown hg (Own.ne hO h2.at_ (by decide))⟩
set_option maxRecDepth 100000 in
set_option maxHeartbeats 2000000 in
theorem walkShaTwo (w : World) (hT : Tab w 1) (a : Option Addr) (n c : Nat) (l : List UInt8) (hr : Rd w a n c l) (b : Option Addr) (m d : Nat) (k : List UInt8) (hs : Rd w b m d k) :
    Calls Tryd.prog 6 #[.slice a n c, .slice b m d] w (Yes2 w) := by
  by_cases hn : 131072 < n
  · go_enter Tryd.func6, Tryd.ntmps6
    go_wp2_with fail
    go_ret
    exact Yes2.mk (Below.refl _ _)
  by_cases hm : 131072 < m
  · go_enter Tryd.func6, Tryd.ntmps6
    go_wp2_with fail
    go_ret
    exact Yes2.mk (Below.refl _ _)
  have hTl := hT.lt
  have hln := Lib.hid hr.len
  have hlm := Lib.hid hs.len
  go_enter Tryd.func6, Tryd.ntmps6
  go_wp2_with fail
  refine (new_any w).mono ?_
  rintro e w1 ⟨r1, rfl, hr1, hh1, hB1⟩
  go_wp2_with fail
  refine (new_any w1).mono ?_
  rintro e w2 ⟨r2, rfl, hr2, hh2, hB2⟩
  have hl1 := hh1.lt
  have hB02 := Bt hB1 hB2
  have h12 := hh1.below hB2
  go_wp2_with fail
  refine (write_any w2 r1 [] l a n c h12 (hr.below hB02) (hr.ap (by omega)) (hT.below hB02) (by omega) (by simp; omega)).mono ?_
  rintro e w3 ⟨rfl, hh3, hg3⟩
  have h23 := hh2.grown hg3 (by simp; omega)
  have hB03 := below_of_grown hB02 hg3 (by omega)
  go_wp2_with fail
  refine (write_any w3 r2 [] k b m d h23 (hs.below hB03) (hs.ap (by omega)) (hT.below hB03) (by omega) (by simp; omega)).mono ?_
  rintro e w4 ⟨rfl, hh4, hg4⟩
  have h14 := hh3.grown hg4 (by simp; omega)
  have hB04 := below_of_grown hB03 hg4 (by omega)
  go_wp2_with fail
  refine (write_any w4 r1 ([] ++ l) k b m d h14 (hs.below hB04) (hs.ap (by omega)) (hT.below hB04) (by omega) (by have := hln.out; simp; omega)).mono ?_
  rintro e w5 ⟨rfl, hh5, hg5⟩
  have h25 := hh4.grown hg5 (by simp; omega)
  have hB05 := below_of_grown hB04 hg5 (by omega)
  rw [List.nil_append] at hh5 h25
  have hcat : (l ++ k).length ≤ 262144 := by have := hln.out; have := hlm.out; simp; omega
  have hr5 := hr.below hB05
  have hs5 := hs.below hB05
  clear hh1 hh2 hB1 hB2 h12 hh3 hg3 h23 hh4 hg4 h14 hg5 hB02 hB03 hB04
  have hln' := hln.out
  have HLN := Lib.hid hln'
  have hlb : l.length ≤ 131072 := by omega
  clear hln'
  go_wp2_with (first | (at_builtin; refine wpList_app rfl (.tmp 36) (.tmp 37) rfl (base := w.heap.size) (v := .slice none 0 0) (q := []) rfl (Own.nil0 _ _) rfl hr5 (by simp; omega) hB05.size ?_; intro a6 c6 w6 hO6 hg6; have hB6 : Below w5.heap.size w5 w6 := (Below.refl _ w5).grown hg6 (Nat.le_refl _) (fun k e => (by cases e)); have hs6 := hs5.below hB6; have hO6' : Own w6 w.heap.size (.slice a6 n c6) l := (by simpa using hO6); clear hg6 hO6) | (at_builtin; refine wpList_app rfl (.tmp 39) (.tmp 40) rfl (base := w.heap.size) (v := .slice a6 n c6) (q := l) rfl hO6' rfl hs6 (by omega) (by have := hB05.size; have := hB6.size; omega) ?_; intro a7 c7 w7 hO7 hg7))
  have hB07 : Below w.heap.size w w7 := (Bt hB05 hB6).grown hg7 (by have := hB05.size; have := hB6.size; omega) (fun k e => (World.ownsRow.lt hO6' k e).1)
  have h17 := (hh5.below hB6).own hO6' hg7
  have h27 := (h25.below hB6).own hO6' hg7
  have hrd7 := hO7.rd
  clear hO7 hg7 hO6' hs6 hB6 hB05 hh5 h25 hr5 hs5
  refine (sums_any w7 (hT.below hB07)).mono ?_
  rintro e w8 ⟨rfl, hB8⟩
  have hB08 := Bt hB07 hB8
  go_wp2_with fail
  refine (hsum_any w8 r1 _ (h17.below hB8) (hT.below hB08) (by omega)).mono ?_
  rintro e w9 ⟨rfl, hB9⟩
  have hB09 := Bt hB08 hB9
  go_wp2_with fail
  refine (sum_any w9 a7 _ c7 _ ((hrd7.below hB8).below hB9) (hT.below hB09) (by omega)).mono ?_
  rintro e w10 ⟨rfl, hB10⟩
  have hB010 := Bt hB09 hB10
  have hq1 := eqSelf (sha (l ++ k)) (sha_length _)
  generalize sha (l ++ k) = D1 at *
  go_wp2_with fail
  refine (hsum_any w10 r2 _ ((h27.below hB8).below (Bt hB9 hB10)) (hT.below hB010) (by have := hlm.out; omega)).mono ?_
  rintro e w11 ⟨rfl, hB11⟩
  have hB011 := Bt hB010 hB11
  go_wp2_with fail
  refine (sum_any w11 b m d k (hs.below hB011) (hT.below hB011) (by omega)).mono ?_
  rintro e w12 ⟨rfl, hB12⟩
  have hB012 := Bt hB011 hB12
  have hq2 := eqSelf (sha k) (sha_length _)
  generalize sha k = D2 at *
  go_wp2_with fail
  go_ret
  exact Yes2.mk hB012
end Go.Proofs.YtlfknhdiphkbcaaDoor
