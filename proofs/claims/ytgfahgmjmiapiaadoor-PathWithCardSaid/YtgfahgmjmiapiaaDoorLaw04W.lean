/-
  The walk of PathWith.
-/
import Derived.Test.YtgfahgmjmiapiaaDoorCon04W
import Derived.Test.YtgfahgmjmiapiaaDoorLaw04A
import Derived.Test.YtgfahgmjmiapiaaDoorRef04O
namespace Go.Proofs.YtgfahgmjmiapiaaDoor
open Go.RowKit

set_option maxRecDepth 100000 in
set_option maxHeartbeats 1000000 in
theorem walkPathWith (w : World) (hT : Tab w 1) (hK : Tab w 0) (p : List UInt8) (hp : p.length = 32) (i : Int) (_wf : (Lit.int .i64 i).wf = true) (b : Int) (_wf2 : (Lit.int .i64 b).wf = true) (s : ByteArray) (_wf3 : s.size ≤ maxLen) :
    Calls Tryd.prog 3 #[.agg (bs p).toArray, .int .i64 i, .int .i64 b, .string s] w (Yes4 w) := by
  have hb0 := Blk.new w 23 (bs p)
  have hB0 : Below w.heap.size w (w.alloc (.cells (bs p).toArray 23)) := (Below.refl _ w).alloc (Nat.le_refl _) _
  have H5 := Lib.hid (show (Tryd.prog.info? 23).map (·.size) = some (bs p).length by rw [info_digest, bs_length, hp])
  by_cases hlong : (65536 : Int) < (s.size : Int)
  · go_enter Tryd.func3, Tryd.ntmps3
    go_wp2_with fail
    go_ret
    exact Yes4.mk hB0
  · obtain ⟨q, e, hq, F1, F2⟩ : ∃ (q : List UInt8) (e : Int), q.length = 32 ∧ (∀ W : World, Calls Tryd.prog 4 #[.agg (bs p).toArray, .int .i64 i, .int .i64 b] W fun x W' => x = .returned (.tuple #[.agg (bs q).toArray, .int .i64 e]) ∧ Below W.heap.size W W') ∧
        (∀ W : World, Calls Tryd.prog 5 #[.agg (bs p).toArray, .int .i64 i, .int .i64 b] W fun x W' => x = .returned (.tuple #[.agg (bs q).toArray, .int .i64 e]) ∧ Below W.heap.size W W') := by
      by_cases hi : i < 0 ∨ 255 < i
      · exact ⟨zero32, 20, zero32_length, fun W => with_any_no W p hp i b hi, fun W => with_ref_no W p i b hi⟩
      · by_cases hb : b = 0 ∨ b = 1
        · obtain ⟨k, rfl⟩ := Int.eq_ofNat_of_zero_le (show 0 ≤ i by omega)
          obtain ⟨c, rfl⟩ := Int.eq_ofNat_of_zero_le (show 0 ≤ b by omega)
          exact ⟨withBit p k c, 0, by rw [withBit_length, hp], fun W => with_any W p hp k (by omega) c (by omega), fun W => with_ref W p hp k (by omega) c (by omega)⟩
        · exact ⟨zero32, 1, zero32_length, fun W => with_any_arg W p hp i b (by omega) (by omega), fun W => with_ref_arg W p i b (by omega) (by omega)⟩
    have G1 := Lib.hid F1
    have G2 := Lib.hid F2
    clear F1 F2
    have hs : s.size ≤ 65536 := by omega
    have O1 := Lib.hid (fun (W : World) (hb : Below w.heap.size w W) => of_any W s (by omega) (hT.below hb))
    have O2 := Lib.hid (fun (W : World) (hb : Below w.heap.size w W) => of_ref W s (by omega) (hK.below hb))
    have hsl := sha_length (byt s)
    generalize sha (byt s) = d at *
    have J5 := Lib.hid (show (Tryd.prog.info? 23).map (·.size) = some (bs q).length by rw [info_digest, bs_length, hq])
    have J6 := Lib.hid (show (bs zero32).length = (bs q).length by rw [bs_length, bs_length, zero32_length, hq])
    have J7 := bs_one q
    have e1 := Lib.hid (show ∀ W : World, (binOp .eql 23 (.agg (bs q).toArray) (.agg (bs q).toArray)).run Tryd.prog W = .ok (.bool true) W from fun W => by rw [eqD W _ _ hq hq]; simp)
    have e2 := Lib.hid (show ∀ W : World, (binOp .eql 23 (.agg (bs d).toArray) (.agg (bs d).toArray)).run Tryd.prog W = .ok (.bool true) W from fun W => by rw [eqD W _ _ hsl hsl]; simp)
    go_enter Tryd.func3, Tryd.ntmps3
    go_wp2_with ((with_reducible refine wpList_loadB (o := ⟨some 17, _, _, _, _, _⟩) ?_ 23 (.tmp 4) ?_ ?_ hb0 Tryd.underlying23 ?_ H5.out ?_); rfl; rfl; rfl; rfl)
    refine (G1.out _).mono ?_
    rintro x w1 ⟨rfl, hB1⟩
    have hb1 := hb0.below hB1
    have hB1' := Bt hB0 hB1
    go_wp2_with (first | ((with_reducible refine wpList_allocB (o := ⟨some 9, _, _, _, _, _⟩) ?_ 23 ?_ zeroD_info ?_); rfl; rfl; intro w2 hr2 hg2 hz2) | ((with_reducible refine wpList_storeB (o := ⟨none, .store 23 (.tmp 9) (.tmp 21), _, _, _, _⟩) ?_ 23 (.tmp 9) (.tmp 21) ?_ ?_ ?_ hr2 J5.out J6.out J7 ?_); rfl; rfl; rfl; rfl; intro w3 hr3 hg3 hz3; have hb3 := (hb1.grown hg2 (by simp)).grown hg3 (by have := hb1.lt; simp; omega)) | ((with_reducible refine wpList_loadB (o := ⟨some 24, _, _, _, _, _⟩) ?_ 23 (.tmp 4) ?_ ?_ hb3 Tryd.underlying23 ?_ H5.out ?_); rfl; rfl; rfl; rfl))
    have hB3 := below4 (hB1'.grown hg2 hB1'.size (fun k e => by cases e)) hg3 hB1'.size
    refine (G2.out _).mono ?_
    rintro x w4 ⟨rfl, hB4⟩
    have hr4 := hr3.below hB4
    have hB4' := Bt hB3 hB4
    go_wp2_with (first | ((with_reducible refine wpList_allocB (o := ⟨some 11, _, _, _, _, _⟩) ?_ 23 ?_ zeroD_info ?_); rfl; rfl; intro w5 hr5 hg5 hz5) | ((with_reducible refine wpList_storeB (o := ⟨none, .store 23 (.tmp 11) (.tmp 28), _, _, _, _⟩) ?_ 23 (.tmp 11) (.tmp 28) ?_ ?_ ?_ hr5 J5.out J6.out J7 ?_); rfl; rfl; rfl; rfl; intro w6 hr6 hg6 hz6))
    have hB6 := below4 (hB4'.grown hg5 hB4'.size (fun k e => by cases e)) hg6 hB4'.size
    have hr46 := (hr4.grown hg5 (by simp)).grown hg6 (by have := hr4.lt; simp; omega)
    refine (bits_any _).mono ?_
    rintro x w7 ⟨rfl, hB7⟩
    have hr47 := hr46.below hB7
    have hr67 := hr6.below hB7
    have hB7' := Bt hB6 hB7
    go_wp2_with (first | ((with_reducible refine wpList_loadH (o := ⟨some 32, _, _, _, _, _⟩) ?_ 23 (.tmp 9) ?_ ?_ hr47 Tryd.underlying23 ?_ J5.out ?_); rfl; rfl; rfl; rfl) | ((with_reducible refine wpList_loadH (o := ⟨some 33, _, _, _, _, _⟩) ?_ 23 (.tmp 11) ?_ ?_ hr67 Tryd.underlying23 ?_ J5.out ?_); rfl; rfl; rfl; rfl) | ((with_reducible refine wpList_eqH (o := ⟨some 34, _, _, _, _, _⟩) ?_ .eql 23 23 (.tmp 32) (.tmp 33) ?_ (bs q).toArray (bs q).toArray ?_ ?_ guardH _ e1.out ?_); rfl; rfl; rfl; rfl))
    refine (O1.out _ hB7').mono ?_
    rintro x w8 ⟨rfl, hB8⟩
    have hB8' := Bt hB7' hB8
    go_wp2_with fail
    refine (O2.out _ hB8').mono ?_
    rintro x w9 ⟨rfl, hB9⟩
    go_wp2_with ((with_reducible refine wpList_eqH (o := ⟨some 46, _, _, _, _, _⟩) ?_ .eql 23 23 (.tmp 43) (.tmp 45) ?_ (bs d).toArray (bs d).toArray ?_ ?_ guardH _ e2.out ?_); rfl; rfl; rfl; rfl)
    go_ret
    exact Yes4.mk (Bt hB8' hB9)
end Go.Proofs.YtgfahgmjmiapiaaDoor
