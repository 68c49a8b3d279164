/-
  The walk of PathPrefix.
-/
import Derived.Test.YtgfahgmjmiapiaaLaw04A
import Derived.Test.YtgfahgmjmiapiaaRef04P
namespace Go.Proofs.Ytgfahgmjmiapiaa
open Go.RowKit

set_option maxRecDepth 100000 in
set_option maxHeartbeats 1000000 in
theorem walkPathPrefix (w : World) (p : List UInt8) (hp : p.length = 32) (n : Int) (_wf : (Lit.int .i64 n).wf = true) :
    Calls Try.prog 4 #[.agg (bs p).toArray, .int .i64 n] w (Yes4 w) := by
  have hb0 := Blk.new w 23 (bs p)
  have hB0 : Below w.heap.size w (w.alloc (.cells (bs p).toArray 23)) := (Below.refl _ w).alloc (Nat.le_refl _) _
  have H5 := Lib.hid (show (Try.prog.info? 23).map (·.size) = some (bs p).length by rw [info_digest, bs_length, hp])
  obtain ⟨q, e, hq, F1, F2⟩ : ∃ (q : List UInt8) (e : Int), q.length = 32 ∧ (∀ W : World, Calls Try.prog 12 #[.agg (bs p).toArray, .int .i64 n] W fun x W' => x = .returned (.tuple #[.agg (bs q).toArray, .int .i64 e]) ∧ Below W.heap.size W W') ∧
      (∀ W : World, Calls Try.prog 13 #[.agg (bs p).toArray, .int .i64 n] W fun x W' => x = .returned (.tuple #[.agg (bs q).toArray, .int .i64 e]) ∧ Below W.heap.size W W') := by
    by_cases hi : n < 0 ∨ 256 < n
    · exact ⟨zero32, 20, zero32_length, fun W => prefix_any_no W p hp n hi, fun W => prefix_ref_no W p n hi⟩
    · obtain ⟨k, rfl⟩ := Int.eq_ofNat_of_zero_le (show 0 ≤ n by omega)
      exact ⟨pref p k, 0, by rw [pref_length, hp], fun W => prefix_any W p hp k (by omega), fun W => prefix_ref W p hp k (by omega)⟩
  have G1 := Lib.hid F1
  have G2 := Lib.hid F2
  clear F1 F2
  have J5 := Lib.hid (show (Try.prog.info? 23).map (·.size) = some (bs q).length by rw [info_digest, bs_length, hq])
  have J6 := Lib.hid (show (bs zero32).length = (bs q).length by rw [bs_length, bs_length, zero32_length, hq])
  have J7 := bs_one q
  have e1 := Lib.hid (show ∀ W : World, (binOp .eql 23 (.agg (bs q).toArray) (.agg (bs q).toArray)).run Try.prog W = .ok (.bool true) W from fun W => by rw [eqD W _ _ hq hq]; simp)
  go_enter Try.func4, Try.ntmps4
  go_wp2_with ((with_reducible refine wpList_loadB (o := ⟨some 10, _, _, _, _, _⟩) ?_ 23 (.tmp 2) ?_ ?_ hb0 Try.underlying23 ?_ H5.out ?_); rfl; rfl; rfl; rfl)
  refine (G1.out _).mono ?_
  rintro x w1 ⟨rfl, hB1⟩
  have hb1 := hb0.below hB1
  have hB1' := Bt hB0 hB1
  go_wp2_with (first | ((with_reducible refine wpList_allocB (o := ⟨some 5, _, _, _, _, _⟩) ?_ 23 ?_ zeroD_info ?_); rfl; rfl; intro w2 hr2 hg2 hz2) | ((with_reducible refine wpList_storeB (o := ⟨none, .store 23 (.tmp 5) (.tmp 13), _, _, _, _⟩) ?_ 23 (.tmp 5) (.tmp 13) ?_ ?_ ?_ hr2 J5.out J6.out J7 ?_); rfl; rfl; rfl; rfl; intro w3 hr3 hg3 hz3; have hb3 := (hb1.grown hg2 (by simp)).grown hg3 (by have := hb1.lt; simp; omega)) | ((with_reducible refine wpList_loadB (o := ⟨some 16, _, _, _, _, _⟩) ?_ 23 (.tmp 2) ?_ ?_ hb3 Try.underlying23 ?_ H5.out ?_); rfl; rfl; rfl; rfl))
  have hB3 := below4 (hB1'.grown hg2 hB1'.size (fun k e => by cases e)) hg3 hB1'.size
  refine (G2.out _).mono ?_
  rintro x w4 ⟨rfl, hB4⟩
  have hr4 := hr3.below hB4
  have hB4' := Bt hB3 hB4
  go_wp2_with (first | ((with_reducible refine wpList_allocB (o := ⟨some 7, _, _, _, _, _⟩) ?_ 23 ?_ zeroD_info ?_); rfl; rfl; intro w5 hr5 hg5 hz5) | ((with_reducible refine wpList_storeB (o := ⟨none, .store 23 (.tmp 7) (.tmp 19), _, _, _, _⟩) ?_ 23 (.tmp 7) (.tmp 19) ?_ ?_ ?_ hr5 J5.out J6.out J7 ?_); rfl; rfl; rfl; rfl; intro w6 hr6 hg6 hz6))
  have hB6 := below4 (hB4'.grown hg5 hB4'.size (fun k e => by cases e)) hg6 hB4'.size
  have hr46 := (hr4.grown hg5 (by simp)).grown hg6 (by have := hr4.lt; simp; omega)
  refine (commons_any _).mono ?_
  rintro x w7 ⟨rfl, hB7⟩
  have hr47 := hr46.below hB7
  have hr67 := hr6.below hB7
  go_wp2_with (first | ((with_reducible refine wpList_loadH (o := ⟨some 23, _, _, _, _, _⟩) ?_ 23 (.tmp 5) ?_ ?_ hr47 Try.underlying23 ?_ J5.out ?_); rfl; rfl; rfl; rfl) | ((with_reducible refine wpList_loadH (o := ⟨some 24, _, _, _, _, _⟩) ?_ 23 (.tmp 7) ?_ ?_ hr67 Try.underlying23 ?_ J5.out ?_); rfl; rfl; rfl; rfl) | ((with_reducible refine wpList_eqH (o := ⟨some 25, _, _, _, _, _⟩) ?_ .eql 23 23 (.tmp 23) (.tmp 24) ?_ (bs q).toArray (bs q).toArray ?_ ?_ guardH _ e1.out ?_); rfl; rfl; rfl; rfl))
  go_ret
  exact Yes4.mk (Bt hB6 hB7)
end Go.Proofs.Ytgfahgmjmiapiaa
