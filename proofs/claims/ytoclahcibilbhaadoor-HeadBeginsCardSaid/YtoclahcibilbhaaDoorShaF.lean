/-
  The walks of package sha: Sum, New, Write, (*Hash).Sum, Len.
-/
import Derived.Test.YtoclahcibilbhaaDoorShaE
namespace Go.Proofs.YtoclahcibilbhaaDoor
open Go.RowKit

theorem Rd.ap {w : World} {a : Option Addr} {n c r : Nat} {l : List UInt8} (h : Rd w a n c l) (hr : w.heap.size ≤ r) : Ap a n r := fun hn ad e => by
  obtain ⟨b, off, rfl, hb, _⟩ := h.at hn
  cases e
  simp; omega

theorem below_of_grown {w w1 w' : World} {r : Nat} (h1 : Below w.heap.size w w1) (h2 : w1.grownBy w' (some r)) (hr : w.heap.size ≤ r) : Below w.heap.size w w' :=
  h1.grown h2 h1.size (fun k e => by cases e; exact hr)

theorem HashAt.fresh {w : World} {r : Nat} (h : Blk w r 56 (hcells H8.init zeros64 0)) : HashAt w r [] := ⟨_, _, Holds.zero, h⟩

theorem zeroH : (Tryd.prog.info? 56).map (fun i => (i.zero, i.size)) = some (some (.agg (hcells ⟨0, 0, 0, 0, 0, 0, 0, 0⟩ zeros64 0).toArray), 73) := by kernel_rfl

set_option maxRecDepth 100000 in
set_option maxHeartbeats 1000000 in
theorem new_any (w : World) :
    Calls Tryd.prog 47 #[] w fun e w' => ∃ r, e = .returned (.pointer (some ⟨r, 0, none⟩)) ∧ w.heap.size ≤ r ∧ HashAt w' r [] ∧ Below w.heap.size w w' := by
  have H1 := Lib.hid (show (Tryd.prog.info? 56).map (·.size) = some (hcells H8.init zeros64 0).length by rw [infoH, hcells_length _ _ _ zeros64_length])
  have H2 := Lib.hid (show (hcells ⟨0, 0, 0, 0, 0, 0, 0, 0⟩ zeros64 0).length = (hcells H8.init zeros64 0).length by rw [hcells_length _ _ _ zeros64_length, hcells_length _ _ _ zeros64_length])
  have H3 := hcells_one H8.init zeros64 0
  have HF := Lib.hid (fun (W : World) (r : Nat) (h : Blk W r 56 (hcells H8.init zeros64 0)) => HashAt.fresh h)
  have HEM := Lib.hid (empty_any w)
  generalize hcells H8.init zeros64 0 = hi at *
  go_enter Tryd.func47, Tryd.ntmps47
  go_wp2_with fail
  refine (HEM.out).mono ?_
  rintro e w1 ⟨rfl, hB1⟩
  go_wp2_with (first | ((with_reducible refine wpList_allocB (o := ⟨some 1, _, _, _, _, _⟩) ?_ 56 ?_ zeroH ?_); rfl; rfl; intro w2 hr2 hg2 hz2) | ((with_reducible refine wpList_storeB (o := ⟨none, .store 56 (.tmp 1) (.tmp 2), _, _, _, _⟩) ?_ 56 (.tmp 1) (.tmp 2) ?_ ?_ ?_ hr2 H1.out H2.out H3 ?_); rfl; rfl; rfl; rfl; intro w3 hr3 hg3 hz3))
  go_ret
  exact ⟨w1.heap.size, rfl, hB1.size, HF.out _ _ hr3, (hB1.grown hg2 hB1.size (fun k e => by cases e)).grown hg3 (by have := hB1.size; omega) (fun k e => by cases e; exact hB1.size)⟩

set_option maxRecDepth 100000 in
set_option maxHeartbeats 1000000 in
theorem sum_any (w : World) (a : Option Addr) (n c : Nat) (l : List UInt8) (hr : Rd w a n c l) (hT : Tab w 0) (hlen : n ≤ 576460752303423488) :
    Calls Tryd.prog 13 #[.slice a n c] w fun e w' => e = .returned (.agg (bs (sha l)).toArray) ∧ Below w.heap.size w w' := by
  have H1 := Lib.hid (show (Tryd.prog.info? 56).map (·.size) = some (hcells H8.init zeros64 0).length by rw [infoH, hcells_length _ _ _ zeros64_length])
  have H2 := Lib.hid (show (hcells ⟨0, 0, 0, 0, 0, 0, 0, 0⟩ zeros64 0).length = (hcells H8.init zeros64 0).length by rw [hcells_length _ _ _ zeros64_length, hcells_length _ _ _ zeros64_length])
  have H3 := hcells_one H8.init zeros64 0
  have HF := Lib.hid (fun (W : World) (r : Nat) (h : Blk W r 56 (hcells H8.init zeros64 0)) => HashAt.fresh h)
  have HEM := Lib.hid empty_any
  have hl := Lib.hid hr.len
  generalize hcells H8.init zeros64 0 = hi at *
  go_enter Tryd.func13, Tryd.ntmps13
  go_wp2_with ((with_reducible refine wpList_allocB (o := ⟨some 2, _, _, _, _, _⟩) ?_ 23 ?_ zero32_info ?_); rfl; rfl; intro w0 hr0 hg0 hz0)
  refine (HEM.out w0).mono ?_
  rintro e w1 ⟨rfl, hB1⟩
  go_wp2_with (first | ((with_reducible refine wpList_allocB (o := ⟨some 3, _, _, _, _, _⟩) ?_ 56 ?_ zeroH ?_); rfl; rfl; intro w2 hr2 hg2 hz2) | ((with_reducible refine wpList_storeB (o := ⟨none, .store 56 (.tmp 3) (.tmp 4), _, _, _, _⟩) ?_ 56 (.tmp 3) (.tmp 4) ?_ ?_ ?_ hr2 H1.out H2.out H3 ?_); rfl; rfl; rfl; rfl; intro w3 hr3 hg3 hz3))
  have hs1 := hB1.size
  have hB0 : Below w.heap.size w w0 := (Below.refl _ w).grown hg0 (Nat.le_refl _) (fun k e => by cases e)
  have hB3 : Below w0.heap.size w0 w3 := (hB1.grown hg2 hs1 (fun k e => by cases e)).grown hg3 (by omega) (fun k e => by cases e; exact hs1)
  have hB03 := Bt hB0 hB3
  have hh3 := HF.out _ _ hr3
  have hr03 : Blk w3 w.heap.size 23 (bs zero32) := hr0.below hB3
  generalize w1.heap.size = r at *
  have hTl := hT.lt
  have hG : 0 ≠ r := by omega
  refine (add_any w3 r [] l a n c hh3 (hr.below hB03) (hr.ap (by omega)) (hT.below hB03) hG (by simp; omega)).mono ?_
  rintro e w4 ⟨rfl, hh4, hg4⟩
  go_wp2_with fail
  refine (end_any w4 r l (by simpa using hh4) ((hT.below hB03).grown hg4 hG) hG (by have := hl.out; omega)).mono ?_
  rintro e w5 ⟨rfl, hg5⟩
  have hr5 := (hr03.grown hg4 (by simp; omega)).grown hg5 (by simp; omega)
  have H5 := Lib.hid (show (Tryd.prog.info? 23).map (·.size) = some (bs (sha l)).length by rw [info_digest, bs_length, sha_length])
  have H6 := Lib.hid (show (bs zero32).length = (bs (sha l)).length by rw [bs_length, bs_length, zero32_length, sha_length])
  have H7 := bs_one (sha l)
  go_wp2_with ((with_reducible refine wpList_storeB (o := ⟨none, .store 23 (.tmp 2) (.tmp 7), _, _, _, _⟩) ?_ 23 (.tmp 2) (.tmp 7) ?_ ?_ ?_ hr5 H5.out H6.out H7 ?_); rfl; rfl; rfl; rfl; intro w8 hb8 hg8 hz8)
  try simp only [Exit.inBlock, Exit.then]
  refine bodyPost_blk hb8 Tryd.underlying23 H5.out rfl rfl rfl rfl ⟨rfl, ?_⟩
  exact below_of_grown (below_of_grown (below_of_grown hB03 hg4 (by omega)) hg5 (by omega)) hg8 (Nat.le_refl _)

set_option maxRecDepth 100000 in
theorem write_any (w : World) (r : Nat) (l m : List UInt8) (a : Option Addr) (n c : Nat) (hh : HashAt w r l) (hr : Rd w a n c m) (hap : Ap a n r) (hT : Tab w 0) (hG : 0 ≠ r) (hlen : l.length + n ≤ 1152921504606846976) :
    Calls Tryd.prog 48 #[.pointer (some ⟨r, 0, none⟩), .slice a n c] w fun e w' => e = .returned (.int .i64 0) ∧ HashAt w' r (l ++ m) ∧ w.grownBy w' (some r) := by
  go_enter Tryd.func48, Tryd.ntmps48
  go_wp2_with fail
  refine (add_any w r l m a n c hh hr hap hT hG hlen).mono ?_
  rintro e w1 ⟨rfl, h1, h2⟩
  go_wp2_with fail
  go_ret
  exact ⟨rfl, h1, h2⟩

set_option maxRecDepth 100000 in
theorem write_nil (w : World) (a : Option Addr) (n c : Nat) :
    Calls Tryd.prog 48 #[.pointer none, .slice a n c] w fun e w' => e = .returned (.int .i64 3) ∧ w = w' := by
  go_enter Tryd.func48, Tryd.ntmps48
  go_wp2_with fail
  go_ret
  exact ⟨rfl, rfl⟩

set_option maxRecDepth 100000 in
set_option maxHeartbeats 1000000 in
theorem hsum_any (w : World) (r : Nat) (l : List UInt8) (hh : HashAt w r l) (hT : Tab w 0) (hlen : l.length ≤ 576460752303423488) :
    Calls Tryd.prog 49 #[.pointer (some ⟨r, 0, none⟩)] w fun e w' => e = .returned (.agg (bs (sha l)).toArray) ∧ Below w.heap.size w w' := by
  have hh0 := hh
  obtain ⟨s, bl, h1, h2⟩ := hh
  have H1 := Lib.hid (show (Tryd.prog.info? 56).map (·.size) = some (hcells s bl l.length).length by rw [infoH, hcells_length _ _ _ h1.len])
  have H2 := Lib.hid (show (hcells ⟨0, 0, 0, 0, 0, 0, 0, 0⟩ zeros64 0).length = (hcells s bl l.length).length by rw [hcells_length _ _ _ zeros64_length, hcells_length _ _ _ h1.len])
  have H3 := hcells_one s bl l.length
  have HF := Lib.hid (fun (W : World) (r : Nat) (h : Blk W r 56 (hcells s bl l.length)) => (⟨s, bl, h1, h⟩ : HashAt W r l))
  generalize hcells s bl l.length = hi at *
  go_enter Tryd.func49, Tryd.ntmps49
  go_wp2_with (first | ((with_reducible refine wpList_allocB (o := ⟨some 2, _, _, _, _, _⟩) ?_ 23 ?_ zero32_info ?_); rfl; rfl; intro w0 hr0 hg0 hz0; have h20 := h2.grown hg0 (by simp)) | ((with_reducible refine wpList_loadB (o := ⟨some 9, _, _, _, _, _⟩) ?_ 56 (.tmp 8) ?_ ?_ h20 Tryd.underlying56 ?_ H1.out ?_); rfl; rfl; rfl; rfl) | ((with_reducible refine wpList_allocB (o := ⟨some 3, _, _, _, _, _⟩) ?_ 56 ?_ zeroH ?_); rfl; rfl; intro w2 hr2 hg2 hz2) | ((with_reducible refine wpList_storeB (o := ⟨none, .store 56 (.tmp 3) (.tmp 9), _, _, _, _⟩) ?_ 56 (.tmp 3) (.tmp 9) ?_ ?_ ?_ hr2 H1.out H2.out H3 ?_); rfl; rfl; rfl; rfl; intro w3 hr3 hg3 hz3))
  have hB3 : Below w.heap.size w w3 := (((Below.refl _ w).grown hg0 (Nat.le_refl _) (fun k e => by cases e)).grown hg2 (by omega) (fun k e => by cases e)).grown hg3 (by omega) (fun k e => by cases e; omega)
  have hr03 : Blk w3 w.heap.size 23 (bs zero32) := (hr0.grown hg2 (by simp)).grown hg3 (by simp; omega)
  have hh3 := HF.out _ _ hr3
  have hTl := hT.lt
  rw [hz0] at hh3
  have hG : 0 ≠ w.heap.size + 1 := by omega
  refine (end_any w3 (w.heap.size + 1) l hh3 (hT.below hB3) hG hlen).mono ?_
  rintro e w5 ⟨rfl, hg5⟩
  have hr5 := hr03.grown hg5 (by simp)
  have H5 := Lib.hid (show (Tryd.prog.info? 23).map (·.size) = some (bs (sha l)).length by rw [info_digest, bs_length, sha_length])
  have H6 := Lib.hid (show (bs zero32).length = (bs (sha l)).length by rw [bs_length, bs_length, zero32_length, sha_length])
  have H7 := bs_one (sha l)
  go_wp2_with ((with_reducible refine wpList_storeB (o := ⟨none, .store 23 (.tmp 2) (.tmp 10), _, _, _, _⟩) ?_ 23 (.tmp 2) (.tmp 10) ?_ ?_ ?_ hr5 H5.out H6.out H7 ?_); rfl; rfl; rfl; rfl; intro w8 hb8 hg8 hz8)
  try simp only [Exit.inBlock, Exit.then]
  refine bodyPost_blk hb8 Tryd.underlying23 H5.out rfl rfl rfl rfl ⟨rfl, ?_⟩
  exact below_of_grown (below_of_grown hB3 hg5 (by omega)) hg8 (Nat.le_refl _)

end Go.Proofs.YtoclahcibilbhaaDoor
