/-
  The walk of the reference's Digest: the digest of leaves of unlike paths.
-/
import Derived.Test.YtbbckjpgmpfkgaaGreatDoorRef05C
namespace Go.Proofs.YtbbckjpgmpfkgaaGreatDoor
open Go.RowKit

theorem half_len (l : List Lf) (m b : Nat) : (half l m b).length ≤ l.length := List.length_filter_le _ _

set_option maxRecDepth 100000 in
set_option maxHeartbeats 1000000 in
theorem digest_nil (w : World) (x : Nat) (hx : x ≤ 32) (a : Option Addr) (c : Nat) (m : Int) (hT : Tab w 0) :
    Calls Tryz.prog 26 #[.int .i64 (x : Int), .slice a 0 c, .int .i64 m] w fun e w' => e = .returned (.agg (bs (emptyD x)).toArray) ∧ Below w.heap.size w w' := by
  have hl := shortB_length x [2] hx
  have HE := Lib.hid (fun (W : World) (h : Tab W 0) => empty_ref W x h)
  rw [shortI_nat x hx] at HE
  rw [show emptyD x = shortB x [2] from rfl]
  generalize shortB x [2] = q at *
  have H1 := Lib.hid (show (Tryz.prog.info? 24).map (·.size) = some (bs q).length by rw [info_digest, bs_length, hl])
  have H2 := Lib.hid (show (bs zero32).length = (bs q).length by rw [bs_length, bs_length, zero32_length, hl])
  have H3 := bs_one q
  go_enter Tryz.func26, Tryz.ntmps26
  go_wp2_with ((with_reducible refine wpList_allocB (o := ⟨some 6, _, _, _, _, _⟩) ?_ 24 ?_ zeroD_info ?_); rfl; rfl; intro w0 hr0 hg0 hz0)
  have hB0 : Below w.heap.size w w0 := (Below.refl _ w).grown hg0 (Nat.le_refl _) (fun k e => by cases e)
  refine (HE.out w0 (hT.below hB0)).mono ?_
  rintro e w1 ⟨rfl, hB1⟩
  have hr1 := hr0.below hB1
  go_wp2_with ((with_reducible refine wpList_storeB (o := ⟨none, .store 24 (.tmp 6) (.tmp 13), _, _, _, _⟩) ?_ 24 (.tmp 6) (.tmp 13) ?_ ?_ ?_ hr1 H1.out H2.out H3 ?_); rfl; rfl; rfl; rfl; intro w8 hb8 hg8 hz8)
  try simp only [Exit.inBlock, Exit.then]
  refine bodyPost_blk hb8 Tryz.underlying24 H1.out rfl rfl rfl rfl ⟨rfl, ?_⟩
  exact below_of_grown' (Bt hB0 hB1) hg8 (Nat.le_refl _)

set_option maxRecDepth 100000 in
set_option maxHeartbeats 1000000 in
theorem digest_one (w : World) (x : Nat) (hx : x ≤ 32) (a : Option Addr) (c : Nat) (y : Lf) (hr : RdL w a 1 c [y]) (m : Int) (hT : Tab w 0) :
    Calls Tryz.prog 26 #[.int .i64 (x : Int), .slice a 1 c, .int .i64 m] w fun e w' => e = .returned (.agg (bs (leafD x y)).toArray) ∧ Below w.heap.size w w' := by
  have hy : y.ok := hr.ok y (by simp)
  obtain ⟨bb, off, rfl, hbb, hel⟩ := hr.elems (by decide)
  have hrg := hel 0 (by decide)
  rw [Nat.zero_mul, Nat.add_zero, show [y].getD 0 lf0 = y from rfl] at hrg
  have hl := shortB_length x ([0] ++ y.path ++ y.val) hx
  have HE := Lib.hid (fun (W : World) (h : Tab W 0) => leaf_ref W x y hy h)
  rw [shortI_nat x hx] at HE
  rw [show leafD x y = shortB x ([0] ++ y.path ++ y.val) from rfl]
  generalize shortB x ([0] ++ y.path ++ y.val) = q at *
  have H1 := Lib.hid (show (Tryz.prog.info? 24).map (·.size) = some (bs q).length by rw [info_digest, bs_length, hl])
  have H2 := Lib.hid (show (bs zero32).length = (bs q).length by rw [bs_length, bs_length, zero32_length, hl])
  have H3 := bs_one q
  have H6 := Lib.hid (show (Tryz.prog.info? 41).map (·.size) = some (lc y).length by rw [infoLeafS, lc_length hy])
  go_enter Tryz.func26, Tryz.ntmps26
  go_wp2_with (first | ((with_reducible refine wpList_allocB (o := ⟨some 6, _, _, _, _, _⟩) ?_ 24 ?_ zeroD_info ?_); rfl; rfl; intro w0 hr0 hg0 hz0; have hB0 : Below w.heap.size w w0 := (Below.refl _ w).grown hg0 (Nat.le_refl _) (fun k e => by cases e); have hc0 := rangeAt_below hB0 hrg) | ((with_reducible refine wpList_loadM (o := ⟨some 20, _, _, _, _, _⟩) ?_ bb off 41 (.tmp 19) ?_ ?_ hc0 Tryz.underlying41 ?_ H6.out ?_); rfl; rfl; rfl; rfl))
  refine (HE.out w0 (hT.below hB0)).mono ?_
  rintro e w1 ⟨rfl, hB1⟩
  have hr1 := hr0.below hB1
  go_wp2_with ((with_reducible refine wpList_storeB (o := ⟨none, .store 24 (.tmp 6) (.tmp 21), _, _, _, _⟩) ?_ 24 (.tmp 6) (.tmp 21) ?_ ?_ ?_ hr1 H1.out H2.out H3 ?_); rfl; rfl; rfl; rfl; intro w8 hb8 hg8 hz8)
  try simp only [Exit.inBlock, Exit.then]
  refine bodyPost_blk hb8 Tryz.underlying24 H1.out rfl rfl rfl rfl ⟨rfl, ?_⟩
  exact below_of_grown' (Bt hB0 hB1) hg8 (Nat.le_refl _)

/-- what the walk of Digest knows of a world: its result's variable -/
structure DgsAt (w W : World) : Prop where
  res : Blk W w.heap.size 24 (bs zero32)
  bel : Below w.heap.size w W
theorem DgsAt.below {w W W' : World} (h : DgsAt w W) (hb : Below W.heap.size W W') : DgsAt w W' := ⟨h.res.below hb, Bt h.bel hb⟩

set_option maxRecDepth 100000 in
set_option maxHeartbeats 2000000 in
theorem digest_many (w : World) (x : Nat) (hx : x ≤ 32) (a : Option Addr) (n c : Nat) (l : List Lf) (hr : RdL w a n c l) (m : Nat) (hm : m < 256) (hT : Tab w 0) (h2 : 2 ≤ n) (hn : n ≤ 100000) (D0 D1 : List UInt8) (hD0 : D0.length = 32) (hD1 : D1.length = 32)
    (ih0 : ∀ (W : World) (a' : Option Addr) (c' : Nat), RdL W a' (half l m 0).length c' (half l m 0) → Tab W 0 → Calls Tryz.prog 26 #[.int .i64 (x : Int), .slice a' (half l m 0).length c', .int .i64 ((m + 1 : Nat) : Int)] W fun e w' => e = .returned (.agg (bs D0).toArray) ∧ Below W.heap.size W w')
    (ih1 : ∀ (W : World) (a' : Option Addr) (c' : Nat), RdL W a' (half l m 1).length c' (half l m 1) → Tab W 0 → Calls Tryz.prog 26 #[.int .i64 (x : Int), .slice a' (half l m 1).length c', .int .i64 ((m + 1 : Nat) : Int)] W fun e w' => e = .returned (.agg (bs D1).toArray) ∧ Below W.heap.size W w') :
    Calls Tryz.prog 26 #[.int .i64 (x : Int), .slice a n c, .int .i64 (m : Int)] w fun e w' => e = .returned (.agg (bs (nodeD x D0 D1)).toArray) ∧ Below w.heap.size w w' := by
  have hl := shortB_length x ([1] ++ D0 ++ D1) hx
  have HE := Lib.hid (fun (W : World) (h : Tab W 0) => node_ref W x D0 D1 hD0 hD1 h)
  rw [shortI_nat x hx] at HE
  rw [show nodeD x D0 D1 = shortB x ([1] ++ D0 ++ D1) from rfl]
  generalize shortB x ([1] ++ D0 ++ D1) = q at *
  have H1 := Lib.hid (show (Tryz.prog.info? 24).map (·.size) = some (bs q).length by rw [info_digest, bs_length, hl])
  have H2 := Lib.hid (show (bs zero32).length = (bs q).length by rw [bs_length, bs_length, zero32_length, hl])
  have H3 := bs_one q
  have K0 := Lib.hid (show (Tryz.prog.info? 24).map (·.size) = some (bs D0).length by rw [info_digest, bs_length, hD0])
  have K1 := Lib.hid (show (Tryz.prog.info? 24).map (·.size) = some (bs D1).length by rw [info_digest, bs_length, hD1])
  have L0 := Lib.hid (show (bs zero32).length = (bs D0).length by rw [bs_length, bs_length, zero32_length, hD0])
  have L1 := Lib.hid (show (bs zero32).length = (bs D1).length by rw [bs_length, bs_length, zero32_length, hD1])
  have O0 := bs_one D0
  have O1 := bs_one D1
  have HH0 := Lib.hid (fun (W : World) (h : RdL W a n c l) => half_ref W a n c l h m hm 0 hn)
  have HH1 := Lib.hid (fun (W : World) (h : RdL W a n c l) => half_ref W a n c l h m hm 1 hn)
  rw [show ((0 : Nat) : Int) = 0 from rfl] at HH0
  rw [show ((1 : Nat) : Int) = 1 from rfl] at HH1
  have I0 := Lib.hid ih0
  have I1 := Lib.hid ih1
  clear ih0 ih1 hD0 hD1
  generalize half l m 0 = l0 at *
  generalize half l m 1 = l1 at *
  obtain ⟨m1, hm1⟩ : ∃ m1, m + 1 = m1 := ⟨_, rfl⟩
  have hw1 : IntKind.i64.wrap ((m : Int) + 1) = (m1 : Int) := by rw [IntWalk.i64_in _ (by omega)]; omega
  have hw2 : (m : Int) + 1 = (m1 : Int) := by omega
  rw [hm1] at I0 I1
  clear hm1
  have h2' : ¬ (n : Int) = 0 := by omega
  have h3' : ¬ (n : Int) = 1 := by omega
  have h4' : ¬ n = 0 := by omega
  have h5' : ¬ n = 1 := by omega
  go_enter Tryz.func26, Tryz.ntmps26
  go_wp2_with ((with_reducible refine wpList_allocB (o := ⟨some 6, _, _, _, _, _⟩) ?_ 24 ?_ zeroD_info ?_); rfl; rfl; intro w0 hr0 hg0 hz0)
  have hS : DgsAt w w0 := ⟨hr0, (Below.refl _ w).grown hg0 (Nat.le_refl _) (fun k e => by cases e)⟩
  clear hr0 hg0 hz0
  refine (HH0.out w0 (hr.below hS.bel)).mono ?_
  rintro e w1 ⟨a1, c1, rfl, hO1, hB1⟩
  have hS1 := hS.below hB1
  go_wp2_with fail
  refine (I0.out w1 a1 c1 hO1.rd (hT.below hS1.bel)).mono ?_
  rintro e w2 ⟨rfl, hB2⟩
  have hS2 := hS1.below hB2
  go_wp2_with (first | ((with_reducible refine wpList_allocB (o := ⟨some 7, _, _, _, _, _⟩) ?_ 24 ?_ zeroD_info ?_); rfl; rfl; intro w3 hr7 hg7 hz7) | ((with_reducible refine wpList_storeB (o := ⟨none, .store 24 (.tmp 7) (.tmp 28), _, _, _, _⟩) ?_ 24 (.tmp 7) (.tmp 28) ?_ ?_ ?_ hr7 K0.out L0.out O0 ?_); rfl; rfl; rfl; rfl; intro w4 hb7 hh7 hy7; have hC7 := below_of_grown' ((Below.refl _ w2).grown hg7 (Nat.le_refl _) (fun k e => by cases e)) hh7 (Nat.le_refl _)))
  have hS4 := hS2.below hC7
  refine (HH1.out w4 (hr.below hS4.bel)).mono ?_
  rintro e w5 ⟨a5, c5, rfl, hO5, hB5⟩
  have hS5 := hS4.below hB5
  go_wp2_with fail
  refine (I1.out w5 a5 c5 hO5.rd (hT.below hS5.bel)).mono ?_
  rintro e w6 ⟨rfl, hB6⟩
  have hS6 := hS5.below hB6
  have hr7' := (hb7.below hB5).below hB6
  go_wp2_with (first | ((with_reducible refine wpList_allocB (o := ⟨some 8, _, _, _, _, _⟩) ?_ 24 ?_ zeroD_info ?_); rfl; rfl; intro w9 hr8 hg8 hz8) | ((with_reducible refine wpList_storeB (o := ⟨none, .store 24 (.tmp 8) (.tmp 35), _, _, _, _⟩) ?_ 24 (.tmp 8) (.tmp 35) ?_ ?_ ?_ hr8 K1.out L1.out O1 ?_); rfl; rfl; rfl; rfl; intro w10 hb8 hh8 hy8; have hC8 := below_of_grown' ((Below.refl _ w6).grown hg8 (Nat.le_refl _) (fun k e => by cases e)) hh8 (Nat.le_refl _); have hr7x := hr7'.below hC8) | ((with_reducible refine wpList_loadB (o := ⟨some 37, _, _, _, _, _⟩) ?_ 24 (.tmp 7) ?_ ?_ hr7x Tryz.underlying24 ?_ K0.out ?_); rfl; rfl; rfl; rfl) | ((with_reducible refine wpList_loadB (o := ⟨some 38, _, _, _, _, _⟩) ?_ 24 (.tmp 8) ?_ ?_ hb8 Tryz.underlying24 ?_ K1.out ?_); rfl; rfl; rfl; rfl))
  have hS10 := hS6.below hC8
  refine (HE.out w10 (hT.below hS10.bel)).mono ?_
  rintro e w11 ⟨rfl, hB11⟩
  have hS11 := hS10.below hB11
  have hrz := hS11.res
  go_wp2_with ((with_reducible refine wpList_storeB (o := ⟨none, .store 24 (.tmp 6) (.tmp 39), _, _, _, _⟩) ?_ 24 (.tmp 6) (.tmp 39) ?_ ?_ ?_ hrz H1.out H2.out H3 ?_); rfl; rfl; rfl; rfl; intro wz hbz hgz hzz)
  try simp only [Exit.inBlock, Exit.then]
  refine bodyPost_blk hbz Tryz.underlying24 H1.out rfl rfl rfl rfl ⟨rfl, ?_⟩
  exact below_of_grown' hS11.bel hgz (Nat.le_refl _)

theorem digest_ref (x : Nat) (hx : x ≤ 32) : ∀ (k : Nat) (w : World) (a : Option Addr) (n c : Nat) (l : List Lf) (m : Nat), m + k = 256 → RdL w a n c l → unlike l → agree l m → Tab w 0 → n ≤ 100000 →
    Calls Tryz.prog 26 #[.int .i64 (x : Int), .slice a n c, .int .i64 (m : Int)] w fun e w' => e = .returned (.agg (bs (digestF x k l m)).toArray) ∧ Below w.heap.size w w' := by
  intro k
  induction k with
  | zero =>
    intro w a n c l m hmk hr hun hag hT hn
    have hl := hr.len
    have h1 := unlike_agree hr.ok hun hag (by omega)
    match l, hr, hl, h1 with
    | [], hr, hl, _ =>
      subst hl
      rw [digestF]
      exact digest_nil w x hx a c _ hT
    | [y], hr, hl, _ =>
      subst hl
      rw [digestF]
      exact digest_one w x hx a c y hr _ hT
    | _ :: _ :: _, _, _, h1 => simp at h1
  | succ k ih =>
    intro w a n c l m hmk hr hun hag hT hn
    have hl := hr.len
    match l, hr, hl, hun, hag with
    | [], hr, hl, _, _ =>
      subst hl
      rw [digestF]
      exact digest_nil w x hx a c _ hT
    | [y], hr, hl, _, _ =>
      subst hl
      rw [digestF]
      exact digest_one w x hx a c y hr _ hT
    | y :: z :: l, hr, hl, hun, hag =>
      rw [digestF]
      have h0 := half_len (y :: z :: l) m 0
      have h1 := half_len (y :: z :: l) m 1
      refine digest_many w x hx a n c (y :: z :: l) hr m (by omega) hT (by simp at hl; omega) hn _ _ (digestF_length x hx _ _ _) (digestF_length x hx _ _ _) (fun W a' c' h hT' => ih W a' _ c' _ (m + 1) (by omega) h (half_unlike hun m 0) (half_agree hag 0) hT' (by omega)) (fun W a' c' h hT' => ih W a' _ c' _ (m + 1) (by omega) h (half_unlike hun m 1) (half_agree hag 1) hT' (by omega))

end Go.Proofs.YtbbckjpgmpfkgaaGreatDoor
