/-
  The statement VersionGrows of layer 7.
-/
import Derived.Test.YtbbckjpgmpfkgaaLaw07C
import Derived.Test.YtbbckjpgmpfkgaaPure07
namespace Go.Proofs.Ytbbckjpgmpfkgaa
open Go.RowKit

set_option maxRecDepth 100000 in
set_option maxHeartbeats 2000000 in
theorem walkVersionGrows (w : World) (a : Option Addr) (n c : Nat) (l : List Vn) (hr : RdV w a n c l) (v : Vn) (ep : Int) (_wf : (Lit.int .i64 ep).wf = true) :
    Calls Try.prog 7 #[.slice a n c, .agg (vc v).toArray, .int .i64 ep] w (Yes7 w) := by
  have hS := VAt.start w v
  have hB0 := hS.bel
  have hb0 := hS.blk
  clear hS
  by_cases hn : n ≤ 1000
  · have hn' : ¬ (1000 : Int) < (n : Int) := by omega
    have HI := Lib.hid (fun W : World => histories_any W)
    have NS := Lib.hid (fun W : World => nexts_any W)
    have hlen := Lib.hid hr.len
    have hv0 := hb0.vr
    by_cases hi : nextI l v = 0
    · have NY := Lib.hid (fun (W : World) (h : RdV W a n c l) => next_yes h hi)
      have A1 := Lib.hid (fun (W : World) (h : RdV W a n c l) => at_any W a n c l h ep)
      have A2 := Lib.hid (fun (W : World) (a1 : Option Addr) (c1 : Nat) (h : RdV W a1 (n + 1) c1 (l ++ [v])) => at_any W a1 (n + 1) c1 (l ++ [v]) h ep)
      have C1 := Lib.hid (fun (W : World) (a1 : Option Addr) (c1 : Nat) (h : RdV W a1 (n + 1) c1 (l ++ [v])) => check_any W a1 (n + 1) c1 (l ++ [v]) h)
      rw [show chkI (l ++ [v]) = 0 by rw [chkI, isB_next hi]; rfl] at C1
      have HE := Lib.hid (fun he : ep < v.ep => at_next (ep := ep) hi (by omega))
      have C2 := Lib.hid (fun (W : World) (a1 : Option Addr) (m1 c1 : Nat) (h : RdV W a1 m1 c1 (atL (l ++ [v]) ep)) => check_any W a1 m1 c1 (atL (l ++ [v]) ep) h)
      rw [show chkI (atL (l ++ [v]) ep) = 0 by rw [chkI, isB_at]; rfl] at C2
      have SM := Lib.hid (fun (W : World) (a1 : Option Addr) (c1 : Nat) (h' : RdV W a1 n c1 l) (h : RdV W a n c l) => sameV_any W a1 n c1 l h' a n c l h)
      rw [show decide (l = l) = true from decide_eq_true rfl] at SM
      have htk : Hid ((l ++ [v]).take n = l) := Lib.hid (by rw [← hlen.out, List.take_left])
      have hn1 : IntKind.i64.wrap ((n : Int) + 1) = (n : Int) + 1 := IntWalk.i64_in _ (by omega)
      clear hi
      go_enter Try.func7, Try.ntmps7
      go_wp2_with ((with_reducible refine wpList_loadV (o := ⟨some 17, _, _, _, _, _⟩) ?_ w.heap.size 0 (.tmp 4) ?_ ?_ hv0 ?_); rfl; rfl; rfl)
      refine (NY.out _ (hr.below hB0)).mono ?_
      rintro e w1 ⟨a1, c1, rfl, hO1, hB1⟩
      have hB01 := Bt hB0 hB1
      have hr1 := hO1.rd
      have hb1 := hb0.below hB1
      go_wp2_with fail
      refine (A1.out _ (hr.below hB01)).mono ?_
      rintro e w2 ⟨a2, m2, c2, hm2, rfl, hO2, hB2⟩
      have hB02 := Bt hB01 hB2
      have hr2 := hr1.below hB2
      have hb2 := hb1.below hB2
      go_wp2_with fail
      refine (A2.out _ _ _ hr2).mono ?_
      rintro e w3 ⟨a3, m3, c3, hm3, rfl, hO3, hB3⟩
      have hB03 := Bt hB02 hB3
      have hr3 := hr2.below hB3
      have hb3 := hb2.below hB3
      have hx3 := (hO2.below hB3).rd
      have hy3 := hO3.rd
      have hcap : n ≤ c1 := by have := hr3.cap; omega
      go_wp2_with fail
      refine (C1.out _ _ _ hr3).mono ?_
      rintro e w4 ⟨rfl, hB4⟩
      have hB04 := Bt hB03 hB4
      have hr4 := hr3.below hB4
      have hb4 := hb3.below hB4
      have hx4 := hx3.below hB4
      have hy4 := hy3.below hB4
      have hR4 := hr4.take n (by omega)
      rw [htk.out] at hR4
      obtain ⟨g, rfl, -, -, -⟩ := hO1.block (by omega)
      clear hO1 hO2 hO3 hr1 hr2 hr3 hx3 hy3 hb1 hb2 hb3 hb0
      go_wp2_with fail
      refine (SM.out _ _ _ hR4 (hr.below hB04)).mono ?_
      rintro e w5 ⟨rfl, hB5⟩
      have hB05 := Bt hB04 hB5
      have hb5 := hb4.below hB5
      have hx5 := hx4.below hB5
      have hy5 := hy4.below hB5
      go_wp2_with fail
      refine (C2.out _ _ _ _ hy5).mono ?_
      rintro e w6 ⟨rfl, hB6⟩
      have hB06 := Bt hB05 hB6
      have hb6 := hb5.below hB6
      have hx6 := hx5.below hB6
      have hy6 := hy5.below hB6
      go_wp2_with fail
      refine (HI.out _).mono ?_
      rintro e w7 ⟨rfl, hB7⟩
      go_wp2_with fail
      refine (NS.out _).mono ?_
      rintro e w8 ⟨rfl, hB8⟩
      have hB78 := Bt hB7 hB8
      have hB08 := Bt hB06 hB78
      have hb8 := hb6.below hB78
      have hx8 := hx6.below hB78
      have hy8 := hy6.below hB78
      have hc0 := hb8.v0
      clear hb4 hb5 hb6 hx4 hx5 hx6 hy4 hy5 hy6 hr4 hR4
      by_cases he : v.ep ≤ ep
      · have hd : decide (v.ep ≤ ep) = true := by simpa using he
        go_wp2_with fail
        go_ret
        exact Yes7.mk hB08
      · have hd : decide (v.ep ≤ ep) = false := by simpa using he
        have hXY := HE.out (by omega)
        rw [hXY] at hm3 hy8
        obtain rfl : m3 = m2 := by rw [hm3.out, hm2.out]
        have SX := Lib.hid (sameV_any w8 a2 m3 c2 _ hx8 a3 m3 c3 _ hy8)
        rw [show decide (atL l ep = atL l ep) = true from decide_eq_true rfl] at SX
        go_wp2_with fail
        refine SX.out.mono ?_
        rintro e w9 ⟨rfl, hB9⟩
        go_wp2_with fail
        go_ret
        exact Yes7.mk (Bt hB08 hB9)
    · obtain ⟨i, hii⟩ : ∃ i, nextI l v = i := ⟨_, rfl⟩
      have hi0 : i ≠ 0 := by rw [← hii]; exact hi
      have hi1 : (i != 0) = true := by simpa using hi0
      have NY := Lib.hid (fun (W : World) (h : RdV W a n c l) => next_no h hii hi0)
      clear hi hii
      go_enter Try.func7, Try.ntmps7
      go_wp2_with ((with_reducible refine wpList_loadV (o := ⟨some 17, _, _, _, _, _⟩) ?_ w.heap.size 0 (.tmp 4) ?_ ?_ hv0 ?_); rfl; rfl; rfl)
      refine (NY.out _ (hr.below hB0)).mono ?_
      rintro e w1 ⟨rfl, hB1⟩
      go_wp2_with fail
      refine (HI.out _).mono ?_
      rintro e w7 ⟨rfl, hB7⟩
      go_wp2_with fail
      refine (NS.out _).mono ?_
      rintro e w8 ⟨rfl, hB8⟩
      go_wp2_with fail
      go_ret
      exact Yes7.mk (Bt (Bt (Bt hB0 hB1) hB7) hB8)
  · have hn' : (1000 : Int) < (n : Int) := by omega
    go_enter Try.func7, Try.ntmps7
    go_wp2_with fail
    go_ret
    exact Yes7.mk hB0
end Go.Proofs.Ytbbckjpgmpfkgaa
