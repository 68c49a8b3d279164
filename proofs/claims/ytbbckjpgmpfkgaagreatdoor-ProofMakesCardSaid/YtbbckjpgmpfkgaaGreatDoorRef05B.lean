/-
  The walks of the reference's layer 5: Short at any width, Empty, Leaf, Node.
-/
import Derived.Test.YtbbckjpgmpfkgaaGreatDoorRef05A
namespace Go.Proofs.YtbbckjpgmpfkgaaGreatDoor
open Go.RowKit

theorem infoLeafS : (Tryz.prog.info? 41).map (·.size) = some 64 := by kernel_rfl

/-- a short digest at any width: a zero digest if it is none -/
def shortI (x : Int) (l : List UInt8) : List UInt8 := if 0 ≤ x ∧ x ≤ 32 then shortB x.toNat l else zero32
def errW (x : Int) : Int := if 0 ≤ x ∧ x ≤ 32 then 0 else 1
theorem shortI_length (x : Int) (l : List UInt8) : (shortI x l).length = 32 := by
  unfold shortI
  split
  · exact shortB_length _ _ (by omega)
  · rfl
theorem shortI_nat (x : Nat) (h : x ≤ 32) (l : List UInt8) : shortI (x : Int) l = shortB x l := by
  unfold shortI
  rw [if_pos (by omega)]
  rfl

theorem short_any (w : World) (x : Int) (a : Option Addr) (n c : Nat) (l : List UInt8) (hr : Rd w a n c l) (hT : Tab w 0) (hn : n ≤ 1000000) :
    Calls Tryz.prog 64 #[.int .i64 x, .slice a n c] w fun e w' => e = .returned (.tuple #[.agg (bs (shortI x l)).toArray, .int .i64 (errW x)]) ∧ Below w.heap.size w w' := by
  by_cases h : 0 ≤ x ∧ x ≤ 32
  · obtain ⟨k, rfl⟩ := Int.eq_ofNat_of_zero_le h.1
    rw [shortI_nat k (by omega), errW, if_pos h]
    exact short_ref w k (by omega) a n c l hr hT hn
  · rw [shortI, if_neg h, errW, if_neg h]
    exact short_ref_no w x a n c (by omega)

set_option maxRecDepth 100000 in
set_option maxHeartbeats 1000000 in
theorem empty_ref (w : World) (x : Int) (hT : Tab w 0) :
    Calls Tryz.prog 43 #[.int .i64 x] w fun e w' => e = .returned (.agg (bs (shortI x [2])).toArray) ∧ Below w.heap.size w w' := by
  have hl := shortI_length x [2]
  have HS := Lib.hid (fun (W : World) (g : Nat) (h1 : Rd W (some ⟨g, 0, none⟩) 1 1 [2]) (h2 : Tab W 0) => short_any W x _ 1 1 [2] h1 h2 (by decide))
  generalize shortI x [2] = q at *
  have H1 := Lib.hid (show (Tryz.prog.info? 24).map (·.size) = some (bs q).length by rw [info_digest, bs_length, hl])
  have H2 := Lib.hid (show (bs zero32).length = (bs q).length by rw [bs_length, bs_length, zero32_length, hl])
  have H3 := bs_one q
  go_enter Tryz.func43, Tryz.ntmps43
  go_wp2_with ((with_reducible refine wpList_allocB (o := ⟨some 2, _, _, _, _, _⟩) ?_ 24 ?_ zeroD_info ?_); rfl; rfl; intro w0 hr0 hg0 hz0)
  have hB0 : Below w.heap.size w w0 := (Below.refl _ w).grown hg0 (Nat.le_refl _) (fun k e => by cases e)
  have hB1 := hB0.alloc hB0.size (.cells #[.int .u8 2] 5)
  have hR := Rd.lit w0 [2] 1 rfl (by decide)
  rw [hz0] at hR
  have hr1 := hr0.alloc (.cells #[.int .u8 2] 5)
  have hs0 : (w0.alloc (.cells #[.int .u8 2] 5)).heap.size = w0.heap.size + 1 := by simp
  refine (HS.out _ _ hR (hT.below hB1)).mono ?_
  rintro e w2 ⟨rfl, hB2⟩
  have hr2 := hr1.below hB2
  have hB02 := Bt hB1 hB2
  have hs2 := hB2.size
  have hlt2 := hr2.lt
  go_wp2_with (first | ((with_reducible refine wpList_allocB (o := ⟨some 3, _, _, _, _, _⟩) ?_ 24 ?_ zeroD_info ?_); rfl; rfl; intro w3 hr3 hg3 hz3) | ((with_reducible refine wpList_storeB (o := ⟨none, .store 24 (.tmp 3) (.tmp 9), _, _, _, _⟩) ?_ 24 (.tmp 3) (.tmp 9) ?_ ?_ ?_ hr3 H1.out H2.out H3 ?_); rfl; rfl; rfl; rfl; intro w4 hr4 hg4 hz4; have hr24 := (hr2.grown hg3 (by simp)).grown hg4 (by simp; omega)) | ((with_reducible refine wpList_loadB (o := ⟨some 11, _, _, _, _, _⟩) ?_ 24 (.tmp 3) ?_ ?_ hr4 Tryz.underlying24 ?_ H1.out ?_); rfl; rfl; rfl; rfl) | ((with_reducible refine wpList_storeB (o := ⟨none, .store 24 (.tmp 2) (.tmp 11), _, _, _, _⟩) ?_ 24 (.tmp 2) (.tmp 11) ?_ ?_ ?_ hr24 H1.out H2.out H3 ?_); rfl; rfl; rfl; rfl; intro w5 hb5 hg5 hz5))
  try simp only [Exit.inBlock, Exit.then]
  refine bodyPost_blk hb5 Tryz.underlying24 H1.out rfl rfl rfl rfl ⟨rfl, ?_⟩
  exact below_of_grown' (below_of_grown' (hB02.grown hg3 (by omega) (fun k e => by cases e)) hg4 (by omega)) hg5 (Nat.le_refl _)

set_option maxRecDepth 100000 in
set_option maxHeartbeats 1000000 in
theorem leaf_ref (w : World) (x : Int) (y : Lf) (hy : y.ok) (hT : Tab w 0) :
    Calls Tryz.prog 44 #[.int .i64 x, .agg (lc y).toArray] w fun e w' => e = .returned (.agg (bs (shortI x ([0] ++ y.path ++ y.val))).toArray) ∧ Below w.heap.size w w' := by
  have hl := shortI_length x ([0] ++ y.path ++ y.val)
  have HS := Lib.hid (fun (W : World) (a : Option Addr) (c : Nat) (h1 : Rd W a 65 c ([0] ++ y.path ++ y.val)) (h2 : Tab W 0) => short_any W x a 65 c _ h1 h2 (by decide))
  have HB := Lib.hid (fun W : World => leafBytes_ref W y hy)
  have HY := Lib.hid (show (Tryz.prog.info? 41).map (·.size) = some (lc y).length by rw [lc_length hy]; exact infoLeafS)
  generalize shortI x ([0] ++ y.path ++ y.val) = q at *
  have H1 := Lib.hid (show (Tryz.prog.info? 24).map (·.size) = some (bs q).length by rw [info_digest, bs_length, hl])
  have H2 := Lib.hid (show (bs zero32).length = (bs q).length by rw [bs_length, bs_length, zero32_length, hl])
  have H3 := bs_one q
  have hb0 := Blk.new w 41 (lc y)
  have hB0 : Below w.heap.size w (w.alloc (.cells (lc y).toArray 41)) := (Below.refl _ w).alloc (Nat.le_refl _) _
  have hz : (w.alloc (.cells (lc y).toArray 41)).heap.size = w.heap.size + 1 := by simp
  go_enter Tryz.func44, Tryz.ntmps44
  go_wp2_with (first | ((with_reducible refine wpList_allocB (o := ⟨some 4, _, _, _, _, _⟩) ?_ 24 ?_ zeroD_info ?_); rfl; rfl; intro w0 hr0 hg0 hz0; have hb01 := hb0.grown hg0 (by simp); rw [hz] at hr0) | ((with_reducible refine wpList_loadB (o := ⟨some 9, _, _, _, _, _⟩) ?_ 41 (.tmp 3) ?_ ?_ hb01 Tryz.underlying41 ?_ HY.out ?_); rfl; rfl; rfl; rfl))
  have hB1 := hB0.grown hg0 hB0.size (fun k e => by cases e)
  refine (HB.out w0).mono ?_
  rintro e w1 ⟨a1, c1, rfl, hR1, hB01⟩
  have hr1 := hr0.below hB01
  replace hB1 := Bt hB1 hB01
  go_wp2_with fail
  refine (HS.out _ _ _ hR1 (hT.below hB1)).mono ?_
  rintro e w2 ⟨rfl, hB2⟩
  have hr2 := hr1.below hB2
  have hB02 := Bt hB1 hB2
  have hs2 := hB02.size
  have hlt2 := hr2.lt
  go_wp2_with (first | ((with_reducible refine wpList_allocB (o := ⟨some 5, _, _, _, _, _⟩) ?_ 24 ?_ zeroD_info ?_); rfl; rfl; intro w3 hr3 hg3 hz3) | ((with_reducible refine wpList_storeB (o := ⟨none, .store 24 (.tmp 5) (.tmp 12), _, _, _, _⟩) ?_ 24 (.tmp 5) (.tmp 12) ?_ ?_ ?_ hr3 H1.out H2.out H3 ?_); rfl; rfl; rfl; rfl; intro w4 hr4 hg4 hz4; have hr24 := (hr2.grown hg3 (by simp)).grown hg4 (by simp; omega)) | ((with_reducible refine wpList_loadB (o := ⟨some 14, _, _, _, _, _⟩) ?_ 24 (.tmp 5) ?_ ?_ hr4 Tryz.underlying24 ?_ H1.out ?_); rfl; rfl; rfl; rfl) | ((with_reducible refine wpList_storeB (o := ⟨none, .store 24 (.tmp 4) (.tmp 14), _, _, _, _⟩) ?_ 24 (.tmp 4) (.tmp 14) ?_ ?_ ?_ hr24 H1.out H2.out H3 ?_); rfl; rfl; rfl; rfl; intro w5 hb5 hg5 hz5))
  try simp only [Exit.inBlock, Exit.then]
  refine bodyPost_blk hb5 Tryz.underlying24 H1.out rfl rfl rfl rfl ⟨rfl, ?_⟩
  exact below_of_grown' (below_of_grown' (hB02.grown hg3 hs2 (fun k e => by cases e)) hg4 (by omega)) hg5 (by omega)

set_option maxRecDepth 100000 in
set_option maxHeartbeats 1000000 in
theorem node_ref (w : World) (x : Int) (l r : List UInt8) (hll : l.length = 32) (hrl : r.length = 32) (hT : Tab w 0) :
    Calls Tryz.prog 45 #[.int .i64 x, .agg (bs l).toArray, .agg (bs r).toArray] w fun e w' => e = .returned (.agg (bs (shortI x ([1] ++ l ++ r))).toArray) ∧ Below w.heap.size w w' := by
  have hl := shortI_length x ([1] ++ l ++ r)
  have HS := Lib.hid (fun (W : World) (a : Option Addr) (c : Nat) (h1 : Rd W a 65 c ([1] ++ l ++ r)) (h2 : Tab W 0) => short_any W x a 65 c _ h1 h2 (by decide))
  have HB := Lib.hid (fun W : World => nodeBytes_ref W l r hll hrl)
  have HY := Lib.hid (show (Tryz.prog.info? 24).map (·.size) = some (bs l).length by rw [info_digest, bs_length, hll])
  have HX := Lib.hid (show (Tryz.prog.info? 24).map (·.size) = some (bs r).length by rw [info_digest, bs_length, hrl])
  generalize shortI x ([1] ++ l ++ r) = q at *
  have H1 := Lib.hid (show (Tryz.prog.info? 24).map (·.size) = some (bs q).length by rw [info_digest, bs_length, hl])
  have H2 := Lib.hid (show (bs zero32).length = (bs q).length by rw [bs_length, bs_length, zero32_length, hl])
  have H3 := bs_one q
  have hS := PairAt.start w l r
  have hz : ((w.alloc (.cells (bs l).toArray 24)).alloc (.cells (bs r).toArray 24)).heap.size = w.heap.size + 1 + 1 := by simp
  go_enter Tryz.func45, Tryz.ntmps45
  go_wp2_with (first | ((with_reducible refine wpList_allocB (o := ⟨some 6, _, _, _, _, _⟩) ?_ 24 ?_ zeroD_info ?_); rfl; rfl; intro w0 hr0 hg0 hz0; have hb0 := hS.b0.grown hg0 (by simp); have hb1 := hS.b1.grown hg0 (by simp); rw [hz] at hr0) | ((with_reducible refine wpList_loadB (o := ⟨some 11, _, _, _, _, _⟩) ?_ 24 (.tmp 4) ?_ ?_ hb0 Tryz.underlying24 ?_ HY.out ?_); rfl; rfl; rfl; rfl) | ((with_reducible refine wpList_loadB (o := ⟨some 12, _, _, _, _, _⟩) ?_ 24 (.tmp 5) ?_ ?_ hb1 Tryz.underlying24 ?_ HX.out ?_); rfl; rfl; rfl; rfl))
  have hB1 := hS.bel.grown hg0 hS.bel.size (fun k e => by cases e)
  refine (HB.out w0).mono ?_
  rintro e w1 ⟨a1, c1, rfl, hR1, hB01⟩
  have hr1 := hr0.below hB01
  replace hB1 := Bt hB1 hB01
  go_wp2_with fail
  refine (HS.out _ _ _ hR1 (hT.below hB1)).mono ?_
  rintro e w2 ⟨rfl, hB2⟩
  have hr2 := hr1.below hB2
  have hB02 := Bt hB1 hB2
  have hs2 := hB02.size
  have hlt2 := hr2.lt
  go_wp2_with (first | ((with_reducible refine wpList_allocB (o := ⟨some 7, _, _, _, _, _⟩) ?_ 24 ?_ zeroD_info ?_); rfl; rfl; intro w3 hr3 hg3 hz3) | ((with_reducible refine wpList_storeB (o := ⟨none, .store 24 (.tmp 7) (.tmp 15), _, _, _, _⟩) ?_ 24 (.tmp 7) (.tmp 15) ?_ ?_ ?_ hr3 H1.out H2.out H3 ?_); rfl; rfl; rfl; rfl; intro w4 hr4 hg4 hz4; have hr24 := (hr2.grown hg3 (by simp)).grown hg4 (by simp; omega)) | ((with_reducible refine wpList_loadB (o := ⟨some 17, _, _, _, _, _⟩) ?_ 24 (.tmp 7) ?_ ?_ hr4 Tryz.underlying24 ?_ H1.out ?_); rfl; rfl; rfl; rfl) | ((with_reducible refine wpList_storeB (o := ⟨none, .store 24 (.tmp 6) (.tmp 17), _, _, _, _⟩) ?_ 24 (.tmp 6) (.tmp 17) ?_ ?_ ?_ hr24 H1.out H2.out H3 ?_); rfl; rfl; rfl; rfl; intro w5 hb5 hg5 hz5))
  try simp only [Exit.inBlock, Exit.then]
  refine bodyPost_blk hb5 Tryz.underlying24 H1.out rfl rfl rfl rfl ⟨rfl, ?_⟩
  exact below_of_grown' (below_of_grown' (hB02.grown hg3 hs2 (fun k e => by cases e)) hg4 (by omega)) hg5 (by omega)
end Go.Proofs.YtbbckjpgmpfkgaaGreatDoor
