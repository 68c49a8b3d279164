/-
  The walks of the reference's layer 5: Width, Short, the bytes, Empty, Leaf, Node.
-/
import Derived.Test.YtgbhfpkngjlfkaaDoorSmt0
import Derived.Test.YtgbhfpkngjlfkaaDoorRef02C
import Derived.Test.YtgbhfpkngjlfkaaDoorRef04
namespace Go.Proofs.YtgbhfpkngjlfkaaDoor
open Go.RowKit

set_option maxRecDepth 100000 in
theorem width_ref (w : World) (x : Int) :
    Calls Tryd.prog 23 #[.int .i64 x] w fun e w' => e = .returned (.bool (decide (0 ≤ x) && decide (x ≤ 32))) ∧ w = w' := by
  by_cases h0 : 0 ≤ x
  · go_enter Tryd.func23, Tryd.ntmps23
    go_wp2_with fail
    go_ret
    exact ⟨by simp [h0], rfl⟩
  · go_enter Tryd.func23, Tryd.ntmps23
    go_wp2_with fail
    go_ret
    exact ⟨by simp; omega, rfl⟩

/-- a part of a block as a slice of bytes -/
theorem Rd.part {w : World} {g o n : Nat} {l : List UInt8} (h : w.rangeAt g o (bs l)) (hn : l.length = n) (hm : n ≤ maxLen) : Rd w (some ⟨g, o, none⟩) n n l := by
  refine ⟨hn, Nat.le_refl _, hm, (fun e => by cases e), fun ad e j u hu => ?_⟩
  cases e
  rw [Addr.add_lit]
  exact h j u hu
theorem below_of_grown' {w w1 w' : World} {r : Nat} (h1 : Below w.heap.size w w1) (h2 : w1.grownBy w' (some r)) (hr : w.heap.size ≤ r) : Below w.heap.size w w' :=
  h1.grown h2 h1.size (fun k e => by cases e; exact hr)
theorem Own.lit (w : World) (base : Nat) (l : List UInt8) (n : Nat) (hn : l.length = n) (hm : n ≤ maxLen) (hb : base ≤ w.heap.size) : Own (w.alloc (.cells (bs l).toArray 5)) base (.slice (some ⟨w.heap.size, 0, none⟩) n n) l := by
  subst hn
  refine ⟨by simp [bs_length], .inr ⟨w.heap.size, l.length, (bs l).toArray, rfl, hb, World.alloc_heap_new w _, Nat.le_refl _, hm, by simp [bs_length], ?_⟩⟩
  simp [List.take_of_length_le, bs_length]

set_option maxRecDepth 100000 in
set_option maxHeartbeats 1000000 in
theorem leafBytes_ref (w : World) (x : Lf) (hx : x.ok) :
    Calls Tryd.prog 70 #[.agg (lc x).toArray] w fun e w' => ∃ a c, e = .returned (.slice a 65 c) ∧ Rd w' a 65 c ([0] ++ x.path ++ x.val) ∧ Below w.heap.size w w' := by
  have hb0 := Blk.new w 46 (lc x)
  have hB0 : Below w.heap.size w (w.alloc (.cells (lc x).toArray 46)) := (Below.refl _ w).alloc (Nat.le_refl _) _
  have hz : (w.alloc (.cells (lc x).toArray 46)).heap.size = w.heap.size + 1 := by simp
  have hO := Own.lit (w.alloc (.cells (lc x).toArray 46)) (w.heap.size + 1) [0] 1 rfl (by decide) (by omega)
  rw [hz] at hO
  have hB1 := hB0.alloc (by omega) (.cells (bs [0]).toArray 5)
  have hb1 := hb0.alloc (.cells (bs [0]).toArray 5)
  have hp := Lib.hid (show ∀ W, Blk W w.heap.size 46 (lc x) → Rd W (some ⟨w.heap.size, 0, none⟩) 32 32 x.path from fun W h => Rd.part (range_path (h.range 0 (fun j hj => by simp))) hx.1 (by decide))
  have hv := Lib.hid (show ∀ W, Blk W w.heap.size 46 (lc x) → Rd W (some ⟨w.heap.size, 32, none⟩) 32 32 x.val from fun W h => by
    have h2 := range_val (o := 0) hx (h.range 0 (fun j hj => by simp))
    rw [Nat.zero_add] at h2
    exact Rd.part h2 hx.2 (by decide))
  have hl1 := Lib.hid hx.1
  have hl2 := Lib.hid hx.2
  go_enter Tryd.func70, Tryd.ntmps70
  go_wp2_with (first | (at_builtin; refine wpList_app (base := w.heap.size + 1) (v := .slice (some ⟨w.heap.size + 1, 0, none⟩) 1 1) rfl (.tmp 5) (.tmp 7) rfl rfl hO rfl (hp.out _ hb1) (by decide) (by simp) ?_; intro a1 c1 w1 hO1 hg1; have hb2 := hb1.grown hg1 (by simp [Value.ownBlock])) | (at_builtin; refine wpList_app (base := w.heap.size + 1) (v := .slice a1 33 c1) rfl (.tmp 9) (.tmp 11) rfl rfl hO1 rfl (hv.out _ hb2) (by simp [hl1.out]) (by have := hg1.size; simp at this; omega) ?_; intro a2 c2 w2 hO2 hg2))
  go_ret
  have e : ([0] ++ x.path).length + 32 = 65 := by simp [hl1.out]
  rw [e] at hO2
  have hB2 := hB1.grown hg1 hB1.size (fun k e => by cases e; show w.heap.size ≤ w.heap.size + 1; omega)
  have hB3 := hB2.grown hg2 hB2.size (fun k e => by have := (World.ownsRow.lt hO1 k (by rw [← e]; simp [Value.ownBlock])).1; omega)
  exact ⟨a2, c2, by rw [hl1.out]; rfl, by simpa using hO2.rd, hB3⟩

set_option maxRecDepth 100000 in
set_option maxHeartbeats 1000000 in
theorem nodeBytes_ref (w : World) (p q : List UInt8) (hp : p.length = 32) (hq : q.length = 32) :
    Calls Tryd.prog 48 #[.agg (bs p).toArray, .agg (bs q).toArray] w fun e w' => ∃ a c, e = .returned (.slice a 65 c) ∧ Rd w' a 65 c ([1] ++ p ++ q) ∧ Below w.heap.size w w' := by
  have hS := PairAt.start w p q
  have hz : ((w.alloc (.cells (bs p).toArray 23)).alloc (.cells (bs q).toArray 23)).heap.size = w.heap.size + 1 + 1 := by simp
  have hO := Own.lit ((w.alloc (.cells (bs p).toArray 23)).alloc (.cells (bs q).toArray 23)) (w.heap.size + 1 + 1) [1] 1 rfl (by decide) (by omega)
  rw [hz] at hO
  have hS1 := hS.below ((Below.refl _ _).alloc (Nat.le_refl _) (.cells (bs [1]).toArray 5))
  have hl1 := Lib.hid hp
  have hl2 := Lib.hid hq
  have hR1 := Lib.hid (fun (W : World) (h : PairAt w W p q) => Rd.block h.b0.at_ hp (by decide))
  have hR2 := Lib.hid (fun (W : World) (h : PairAt w W p q) => Rd.block h.b1.at_ hq (by decide))
  clear hp hq
  go_enter Tryd.func48, Tryd.ntmps48
  go_wp2_with (first | (at_builtin; refine wpList_app (base := w.heap.size + 1 + 1) (v := .slice (some ⟨w.heap.size + 1 + 1, 0, none⟩) 1 1) rfl (.tmp 7) (.tmp 8) rfl rfl hO rfl (hR1.out _ hS1) (by decide) (by simp) ?_; intro a1 c1 w1 hO1 hg1; have hS2 : PairAt w w1 p q := ⟨hS1.b0.grown hg1 (by simp only [Value.ownBlock, ne_eq, Option.some.injEq]; omega), hS1.b1.grown hg1 (by simp only [Value.ownBlock, ne_eq, Option.some.injEq]; omega), hS1.bel.grown hg1 hS1.bel.size (fun k e => by cases e; show w.heap.size ≤ w.heap.size + 1 + 1; omega)⟩; have hs2 := hg1.size) | (at_builtin; refine wpList_app (base := w.heap.size + 1 + 1) (v := .slice a1 33 c1) rfl (.tmp 10) (.tmp 11) rfl rfl hO1 rfl (hR2.out _ hS2) (by simp [hl1.out]) (by simp at hs2; omega) ?_; intro a2 c2 w2 hO2 hg2))
  go_ret
  have e : ([1] ++ p).length + 32 = 65 := by simp [hl1.out]
  rw [e] at hO2
  have hB3 := hS2.bel.grown hg2 hS2.bel.size (fun k e => by have := (World.ownsRow.lt hO1 k (by rw [← e]; simp [Value.ownBlock])).1; omega)
  exact ⟨a2, c2, by rw [hl1.out]; rfl, by simpa using hO2.rd, hB3⟩

/-- what the walk of Short knows of a world -/
structure ShAt (w W : World) (D d : List UInt8) (k g : Nat) : Prop where
  res : Blk W w.heap.size 23 (bs zero32)
  out : Blk W (w.heap.size + 1) 23 (bs (shAt D k))
  sum : Blk W g 23 (bs D)
  bel : Below w.heap.size w W
  gt : w.heap.size + 1 < g
theorem ShAt.step {w W : World} {D d : List UInt8} {k g : Nat} (h : ShAt w W D d k g) (hD : D.length = 32) (hk : k < 32) : ShAt w (W.setCell ⟨w.heap.size + 1, k, none⟩ (.int .u8 ((D.getD k 0).toNat : Int))) D d (k + 1) g := by
  have hg := h.gt
  refine ⟨h.res.setOther _ _ (by simp), ?_, h.sum.setOther _ _ (by simp; omega), h.bel.setCell (by simp) _, h.gt⟩
  have hs := h.out.set k (.int .u8 ((D.getD k 0).toNat : Int))
  rwa [bs_set _ _ _ (UInt8.toNat_lt _), UInt8.ofNat_toNat, shAt_step _ _ hD hk] at hs

set_option maxRecDepth 100000 in
set_option maxHeartbeats 1000000 in
theorem short_ref_no (w : World) (x : Int) (a : Option Addr) (n c : Nat) (hx : x < 0 ∨ 32 < x) :
    Calls Tryd.prog 25 #[.int .i64 x, .slice a n c] w fun e w' => e = .returned (.tuple #[.agg (bs zero32).toArray, .int .i64 1]) ∧ Below w.heap.size w w' := by
  have hd : (decide (0 ≤ x) && decide (x ≤ 32)) = false := by simp; omega
  have H5 := Lib.hid (show (Tryd.prog.info? 23).map (·.size) = some (bs zero32).length by rw [info_digest, bs_length, zero32_length])
  have H7 := bs_one zero32
  go_enter Tryd.func25, Tryd.ntmps25
  go_wp2_with (first | ((with_reducible refine wpList_allocB (o := ⟨some 4, _, _, _, _, _⟩) ?_ 23 ?_ zeroD_info ?_); rfl; rfl; intro w0 hr0 hg0 hz0) | ((with_reducible refine wpList_allocB (o := ⟨some 6, _, _, _, _, _⟩) ?_ 23 ?_ zeroD_info ?_); rfl; rfl; intro w1 hr1 hg1 hz1; rw [hz0] at hr1; have hr01 := hr0.grown hg1 (by simp)))
  refine (width_ref w1 x).mono ?_
  rintro e w2 ⟨rfl, rfl⟩
  rw [hd]
  go_wp2_with (first | ((with_reducible refine wpList_loadB (o := ⟨some 12, _, _, _, _, _⟩) ?_ 23 (.tmp 6) ?_ ?_ hr1 Tryd.underlying23 ?_ H5.out ?_); rfl; rfl; rfl; rfl) | ((with_reducible refine wpList_storeB (o := ⟨none, .store 23 (.tmp 4) (.tmp 12), _, _, _, _⟩) ?_ 23 (.tmp 4) (.tmp 12) ?_ ?_ ?_ hr01 H5.out rfl H7 ?_); rfl; rfl; rfl; rfl; intro w8 hb8 hg8 hz8))
  try simp only [Exit.inBlock, Exit.then]
  refine bodyPost_ret (results_digest2 rfl _ _ _ _ _ zero32_length rfl hb8.at_) rfl ⟨rfl, ?_⟩
  exact (((Below.refl _ w).grown hg0 (Nat.le_refl _) (fun k e => by cases e)).grown hg1 (by omega) (fun k e => by cases e)).grown hg8 (by omega) (fun k e => by cases e; omega)

set_option maxRecDepth 100000 in
set_option maxHeartbeats 1000000 in
theorem short_ref (w : World) (x : Nat) (hx : x ≤ 32) (a : Option Addr) (n c : Nat) (l : List UInt8) (hr : Rd w a n c l) (hT : Tab w 0) (hn : n ≤ 1000000) :
    Calls Tryd.prog 25 #[.int .i64 (x : Int), .slice a n c] w fun e w' => e = .returned (.tuple #[.agg (bs (shortB x l)).toArray, .int .i64 0]) ∧ Below w.heap.size w w' := by
  have hd : (decide (0 ≤ (x : Int)) && decide ((x : Int) ≤ 32)) = true := by simp; omega
  have hD := sha_length l
  have hSB := Lib.hid (show shortB x l = shAt (sha l) x from rfl)
  have HSUM := Lib.hid (fun (W : World) (h1 : Rd W a n c l) (h2 : Tab W 0) => sum_ref W a n c l h1 h2 (by omega))
  generalize sha l = D at *
  have H1 := Lib.hid (show (Tryd.prog.info? 23).map (·.size) = some (bs D).length by rw [info_digest, bs_length, hD])
  have H2 := Lib.hid (show (bs zero32).length = (bs D).length by rw [bs_length, bs_length, zero32_length, hD])
  have H3 := bs_one D
  go_enter Tryd.func25, Tryd.ntmps25
  go_wp2_with (first | ((with_reducible refine wpList_allocB (o := ⟨some 4, _, _, _, _, _⟩) ?_ 23 ?_ zeroD_info ?_); rfl; rfl; intro w0 hr0 hg0 hz0) | ((with_reducible refine wpList_allocB (o := ⟨some 6, _, _, _, _, _⟩) ?_ 23 ?_ zeroD_info ?_); rfl; rfl; intro w1 hr1 hg1 hz1; rw [hz0] at hr1; have hr01 := hr0.grown hg1 (by simp); have hB1 := ((Below.refl _ w).grown hg0 (Nat.le_refl _) (fun k e => by cases e)).grown hg1 (by omega) (fun k e => by cases e)))
  refine (width_ref w1 x).mono ?_
  rintro e w2 ⟨rfl, rfl⟩
  rw [hd]
  go_wp2_with fail
  refine (HSUM.out w1 (hr.below hB1) (hT.below hB1)).mono ?_
  rintro e w3 ⟨rfl, hB3⟩
  have hs3 := hB3.size
  have hr03 := hr01.below hB3
  have hr13 := hr1.below hB3
  go_wp2_with (first | ((with_reducible refine wpList_allocB (o := ⟨some 7, _, _, _, _, _⟩) ?_ 23 ?_ zeroD_info ?_); rfl; rfl; intro w4 hr4 hg4 hz4) | ((with_reducible refine wpList_storeB (o := ⟨none, .store 23 (.tmp 7) (.tmp 14), _, _, _, _⟩) ?_ 23 (.tmp 7) (.tmp 14) ?_ ?_ ?_ hr4 H1.out H2.out H3 ?_); rfl; rfl; rfl; rfl; intro w5 hr5 hg5 hz5))
  have hS : ShAt w w5 D D 0 w3.heap.size := by
    refine ⟨(hr03.grown hg4 (by simp)).grown hg5 (by simp; omega), ?_, hr5, below_of_grown' ((Bt hB1 hB3).grown hg4 (by omega) (fun k e => by cases e)) hg5 (by omega), by omega⟩
    rw [shAt_zero]
    exact (hr13.grown hg4 (by simp)).grown hg5 (by simp; omega)
  generalize w3.heap.size = g at *
  clear hr0 hg0 hz0 hr1 hg1 hz1 hr01 hB1 hB3 hs3 hr03 hr13 hr4 hg4 hz4 hr5 hg5 hz5 hr hT
  go_loopw [8] (fun t wr => ∃ k : Nat, k ≤ x ∧ t = .int .i64 k ∧ ShAt w wr D D k g) (fun t _ => 32 - (intOf t).toNat)
  case atStart => exact ⟨0, by omega, rfl, hS⟩
  case round =>
    obtain ⟨k, hk, rfl, hS⟩ := hrel
    by_cases hlt : k < x
    · have hlt' : (k : Int) < x := by omega
      have hk32 : (k : Int) < 32 := by omega
      have c0 := hS.sum.cell (bs_at D k (by omega))
      have c1 := hS.out.cell (bs_at _ k (by rw [shAt_length _ _ hD (by omega)]; omega))
      have f1 := hS.out.free k
      have hst := Lib.hid (hS.step hD (by omega))
      generalize D.getD k 0 = z at *
      go_wp2_with fail
      exact ⟨⟨k + 1, by omega, by go_num, hst.out⟩, by simp [intOf]; omega⟩
    · obtain rfl : k = x := by omega
      have hlt' : ¬ (k : Int) < k := by omega
      have hb0 := hS.res
      have hb1 := hS.out
      have hl := shAt_length D k hD hx
      rw [← hSB.out] at hb1 hl
      have H4 := Lib.hid (show (Tryd.prog.info? 23).map (·.size) = some (bs (shortB k l)).length by rw [info_digest, bs_length, hl])
      have H5 := Lib.hid (show (bs zero32).length = (bs (shortB k l)).length by rw [bs_length, bs_length, zero32_length, hl])
      have H6 := bs_one (shortB k l)
      generalize hqe : shortB k l = q at *
      have HQE := Lib.hid hqe
      clear hqe
      go_wp2_with (first | ((with_reducible refine wpList_loadB (o := ⟨some 25, _, _, _, _, _⟩) ?_ 23 (.tmp 6) ?_ ?_ hb1 Tryd.underlying23 ?_ H4.out ?_); rfl; rfl; rfl; rfl) | ((with_reducible refine wpList_storeB (o := ⟨none, .store 23 (.tmp 4) (.tmp 25), _, _, _, _⟩) ?_ 23 (.tmp 4) (.tmp 25) ?_ ?_ ?_ hb0 H4.out H5.out H6 ?_); rfl; rfl; rfl; rfl; intro w8 hb8 hg8 hz8))
      try simp only [Exit.inBlock, Exit.then]
      refine bodyPost_ret (results_digest2 rfl _ _ _ _ _ hl rfl hb8.at_) rfl ⟨by rw [HQE.out]; rfl, ?_⟩
      exact hS.bel.grown hg8 hS.bel.size (fun k e => by cases e; exact Nat.le_refl _)
end Go.Proofs.YtgbhfpkngjlfkaaDoor
