/-
  The walks of layer 4's statements: bits, commons.
-/
import Derived.Test.YtgfahgmjmiapiaaCon04
import Derived.Test.YtgfahgmjmiapiaaPath1
namespace Go.Proofs.Ytgfahgmjmiapiaa
open Go.RowKit

/-- what a statement's walk comes to: true, and nothing that was there has turned -/
def Yes4 (w : World) (e : Ending) (w' : World) : Prop := e = .returned (.bool true) ∧ Below w.heap.size w w'
theorem Yes4.mk {w w' : World} (h : Below w.heap.size w w') : Yes4 w (.returned (.bool true)) w' := ⟨rfl, h⟩

theorem below4 {w w1 w2 : World} {g : Nat} (h : Below w.heap.size w w1) (hg : w1.grownBy w2 (some g)) (hb : w.heap.size ≤ g) : Below w.heap.size w w2 := h.grown hg h.size (fun k e => by cases e; exact hb)
/-- three paths in a row -/
structure TriAt (w W : World) (a b c : List UInt8) : Prop where
  b0 : Blk W w.heap.size 23 (bs a)
  b1 : Blk W (w.heap.size + 1) 23 (bs b)
  b2 : Blk W (w.heap.size + 1 + 1) 23 (bs c)
  bel : Below w.heap.size w W
theorem TriAt.below {w W W' : World} {a b c : List UInt8} (h : TriAt w W a b c) (hb : Below W.heap.size W W') : TriAt w W' a b c :=
  ⟨h.b0.below hb, h.b1.below hb, h.b2.below hb, Bt h.bel hb⟩
theorem TriAt.drew {w W : World} {a b c : List UInt8} (h : TriAt w W a b c) : TriAt w W.drew a b c := h.below ⟨rfl, rfl, rfl, Nat.le_refl _, fun _ _ => rfl⟩
theorem TriAt.start (w : World) (a b c : List UInt8) : TriAt w (((w.alloc (.cells (bs a).toArray 23)).alloc (.cells (bs b).toArray 23)).alloc (.cells (bs c).toArray 23)) a b c := by
  have h := PairAt.start w a b
  have hb2 := Blk.new ((w.alloc (.cells (bs a).toArray 23)).alloc (.cells (bs b).toArray 23)) 23 (bs c)
  rw [show ((w.alloc (.cells (bs a).toArray 23)).alloc (.cells (bs b).toArray 23)).heap.size = w.heap.size + 1 + 1 by simp] at hb2
  exact ⟨h.b0.alloc _, h.b1.alloc _, hb2, h.bel.alloc (by simp; omega) _⟩

def d128 : List UInt8 := 128 :: List.replicate 31 0
def d129 : List UInt8 := 129 :: List.replicate 31 0
theorem built128 : Try.prog.built 23 [(0, .int .u8 128)] = some (bs d128).toArray := by kernel_rfl
theorem built129 : Try.prog.built 23 [(0, .int .u8 129)] = some (bs d129).toArray := by kernel_rfl

set_option maxRecDepth 100000 in
set_option maxHeartbeats 1000000 in
theorem bits_any (w : World) :
    Calls Try.prog 11 #[] w fun e w' => e = .returned (.bool true) ∧ Below w.heap.size w w' := by
  have hD : d128.length = 32 := by decide
  have H5 := Lib.hid (show (Try.prog.info? 23).map (·.size) = some (bs d128).length by rw [info_digest, bs_length, hD])
  have H6 := Lib.hid (show (bs zero32).length = (bs d128).length by rw [bs_length, bs_length, zero32_length, hD])
  have H7 := bs_one d128
  have HBT := Lib.hid built128
  have v0 : bitAt d128 0 = 1 := by decide
  have v1 : bitAt d128 1 = 0 := by decide
  have F0 := Lib.hid (fun W : World => bit_any W d128 hD 0 (by decide))
  have F1 := Lib.hid (fun W : World => bit_any W d128 hD 1 (by decide))
  have F2 := Lib.hid (fun W : World => bit_any_no W d128 hD 256 (by decide))
  rw [v0] at F0
  rw [v1] at F1
  clear v0 v1
  generalize d128 = D at *
  go_enter Try.func11, Try.ntmps11
  go_wp2_with (first | ((with_reducible refine wpList_allocB (o := ⟨some 1, _, _, _, _, _⟩) ?_ 23 ?_ zeroD_info ?_); rfl; rfl; intro w2 hr2 hg2 hz2) | ((with_reducible refine wpList_buildI (dst := some 8) HBT.out ?_ ?_); rfl) | ((with_reducible refine wpList_storeB (o := ⟨none, .store 23 (.tmp 1) (.tmp 8), _, _, _, _⟩) ?_ 23 (.tmp 1) (.tmp 8) ?_ ?_ ?_ hr2 H5.out H6.out H7 ?_); rfl; rfl; rfl; rfl; intro w3 hr3 hg3 hz3) | ((with_reducible refine wpList_loadB (o := ⟨some 10, _, _, _, _, _⟩) ?_ 23 (.tmp 1) ?_ ?_ hr3 Try.underlying23 ?_ H5.out ?_); rfl; rfl; rfl; rfl))
  have hB3 := below4 ((Below.refl _ w).grown hg2 (Nat.le_refl _) (fun k e => by cases e)) hg3 (Nat.le_refl _)
  refine (F0.out w3).mono ?_
  rintro e w4 ⟨rfl, hB4⟩
  have hr4 := hr3.below hB4
  go_wp2_with ((with_reducible refine wpList_loadB (o := ⟨some 15, _, _, _, _, _⟩) ?_ 23 (.tmp 1) ?_ ?_ hr4 Try.underlying23 ?_ H5.out ?_); rfl; rfl; rfl; rfl)
  refine (F1.out w4).mono ?_
  rintro e w5 ⟨rfl, hB5⟩
  have hr5 := hr4.below hB5
  go_wp2_with ((with_reducible refine wpList_loadB (o := ⟨some 20, _, _, _, _, _⟩) ?_ 23 (.tmp 1) ?_ ?_ hr5 Try.underlying23 ?_ H5.out ?_); rfl; rfl; rfl; rfl)
  refine (F2.out w5).mono ?_
  rintro e w6 ⟨rfl, hB6⟩
  go_wp2_with fail
  go_ret
  exact ⟨rfl, Bt (Bt (Bt hB3 hB4) hB5) hB6⟩

set_option maxRecDepth 100000 in
set_option maxHeartbeats 1000000 in
theorem commons_any (w : World) :
    Calls Try.prog 14 #[] w fun e w' => e = .returned (.bool true) ∧ Below w.heap.size w w' := by
  have hD : d128.length = 32 := by decide
  have hE : d129.length = 32 := by decide
  have H5 := Lib.hid (show (Try.prog.info? 23).map (·.size) = some (bs d128).length by rw [info_digest, bs_length, hD])
  have H6 := Lib.hid (show (bs zero32).length = (bs d128).length by rw [bs_length, bs_length, zero32_length, hD])
  have H7 := bs_one d128
  have J5 := Lib.hid (show (Try.prog.info? 23).map (·.size) = some (bs d129).length by rw [info_digest, bs_length, hE])
  have J6 := Lib.hid (show (bs zero32).length = (bs d129).length by rw [bs_length, bs_length, zero32_length, hE])
  have J7 := bs_one d129
  have HBT := Lib.hid built128
  have HBE := Lib.hid built129
  have v0 : pref d129 1 = d128 := by decide +kernel
  have v1 : comm d128 d129 = 7 := by decide +kernel
  have v2 : lessB d128 d129 = true := by decide +kernel
  have v3 : lessB d129 d128 = false := by decide +kernel
  have F0 := Lib.hid (fun W : World => prefix_any W d129 hE 1 (by decide))
  have F1 := Lib.hid (fun W : World => common_any W d128 d129 hD hE)
  have F2 := Lib.hid (fun W : World => less_any W d128 d129 hD hE)
  have F3 := Lib.hid (fun W : World => less_any W d129 d128 hE hD)
  have e1 := Lib.hid (show ∀ W : World, (binOp .eql 23 (.agg (bs d128).toArray) (.agg (bs d128).toArray)).run Try.prog W = .ok (.bool true) W from fun W => by rw [eqD W _ _ hD hD]; simp)
  rw [v0] at F0
  rw [v1] at F1
  rw [v2] at F2
  rw [v3] at F3
  clear v0 v1 v2 v3
  generalize d128 = D at *
  generalize d129 = E at *
  go_enter Try.func14, Try.ntmps14
  go_wp2_with (first | ((with_reducible refine wpList_allocB (o := ⟨some 1, _, _, _, _, _⟩) ?_ 23 ?_ zeroD_info ?_); rfl; rfl; intro w2 hr2 hg2 hz2) | ((with_reducible refine wpList_buildI (dst := some 5) HBT.out ?_ ?_); rfl) | ((with_reducible refine wpList_storeB (o := ⟨none, .store 23 (.tmp 1) (.tmp 5), _, _, _, _⟩) ?_ 23 (.tmp 1) (.tmp 5) ?_ ?_ ?_ hr2 H5.out H6.out H7 ?_); rfl; rfl; rfl; rfl; intro w3 hr3 hg3 hz3) | ((with_reducible refine wpList_allocB (o := ⟨some 2, _, _, _, _, _⟩) ?_ 23 ?_ zeroD_info ?_); rfl; rfl; intro w4 hr4 hg4 hz4) | ((with_reducible refine wpList_buildI (dst := some 6) HBE.out ?_ ?_); rfl) | ((with_reducible refine wpList_storeB (o := ⟨none, .store 23 (.tmp 2) (.tmp 6), _, _, _, _⟩) ?_ 23 (.tmp 2) (.tmp 6) ?_ ?_ ?_ hr4 J5.out J6.out J7 ?_); rfl; rfl; rfl; rfl; intro w5 hr5 hg5 hz5) | ((with_reducible refine wpList_loadB (o := ⟨some 8, _, _, _, _, _⟩) ?_ 23 (.tmp 2) ?_ ?_ hr5 Try.underlying23 ?_ J5.out ?_); rfl; rfl; rfl; rfl))
  have hB3 := below4 ((Below.refl _ w).grown hg2 (Nat.le_refl _) (fun k e => by cases e)) hg3 (Nat.le_refl _)
  have hB5 := below4 (hB3.grown hg4 hB3.size (fun k e => by cases e)) hg5 hB3.size
  rw [hz3, hz2] at hr5
  have hr35 := (hr3.grown hg4 (by simp)).grown hg5 (by have := hr3.lt; simp; omega)
  refine (F0.out w5).mono ?_
  rintro e w6 ⟨rfl, hB6⟩
  have hr36 := hr35.below hB6
  have hr56 := hr5.below hB6
  go_wp2_with (first | ((with_reducible refine wpList_allocB (o := ⟨some 3, _, _, _, _, _⟩) ?_ 23 ?_ zeroD_info ?_); rfl; rfl; intro w7 hr7 hg7 hz7) | ((with_reducible refine wpList_storeB (o := ⟨none, .store 23 (.tmp 3) (.tmp 10), _, _, _, _⟩) ?_ 23 (.tmp 3) (.tmp 10) ?_ ?_ ?_ hr7 H5.out H6.out H7 ?_); rfl; rfl; rfl; rfl; intro w8 hr8 hg8 hz8; have hr38 := (hr36.grown hg7 (by simp)).grown hg8 (by have := hr36.lt; simp; omega); have hr58 := (hr56.grown hg7 (by simp)).grown hg8 (by have := hr56.lt; simp; omega)) | ((with_reducible refine wpList_loadB (o := ⟨some 12, _, _, _, _, _⟩) ?_ 23 (.tmp 1) ?_ ?_ hr38 Try.underlying23 ?_ H5.out ?_); rfl; rfl; rfl; rfl) | ((with_reducible refine wpList_loadB (o := ⟨some 13, _, _, _, _, _⟩) ?_ 23 (.tmp 2) ?_ ?_ hr58 Try.underlying23 ?_ J5.out ?_); rfl; rfl; rfl; rfl))
  have hB6' := Bt hB5 hB6
  have hB8 := below4 (hB6'.grown hg7 hB6'.size (fun k e => by cases e)) hg8 hB6'.size
  refine (F1.out w8).mono ?_
  rintro e w9 ⟨rfl, hB9⟩
  have hr39 := hr38.below hB9
  have hr59 := hr58.below hB9
  have hr89 := hr8.below hB9
  go_wp2_with (first | ((with_reducible refine wpList_loadH (o := ⟨some 17, _, _, _, _, _⟩) ?_ 23 (.tmp 3) ?_ ?_ hr89 Try.underlying23 ?_ H5.out ?_); rfl; rfl; rfl; rfl) | ((with_reducible refine wpList_loadH (o := ⟨some 18, _, _, _, _, _⟩) ?_ 23 (.tmp 1) ?_ ?_ hr39 Try.underlying23 ?_ H5.out ?_); rfl; rfl; rfl; rfl) | ((with_reducible refine wpList_eqH (o := ⟨some 19, _, _, _, _, _⟩) ?_ .eql 23 23 (.tmp 17) (.tmp 18) ?_ (bs D).toArray (bs D).toArray ?_ ?_ guardH _ e1.out ?_); rfl; rfl; rfl; rfl) | ((with_reducible refine wpList_loadH (o := ⟨some 26, _, _, _, _, _⟩) ?_ 23 (.tmp 1) ?_ ?_ hr39 Try.underlying23 ?_ H5.out ?_); rfl; rfl; rfl; rfl) | ((with_reducible refine wpList_loadH (o := ⟨some 27, _, _, _, _, _⟩) ?_ 23 (.tmp 2) ?_ ?_ hr59 Try.underlying23 ?_ J5.out ?_); rfl; rfl; rfl; rfl))
  refine (F2.out w9).mono ?_
  rintro e w10 ⟨rfl, hB10⟩
  have hr310 := hr39.below hB10
  have hr510 := hr59.below hB10
  go_wp2_with (first | ((with_reducible refine wpList_loadH (o := ⟨some 31, _, _, _, _, _⟩) ?_ 23 (.tmp 2) ?_ ?_ hr510 Try.underlying23 ?_ J5.out ?_); rfl; rfl; rfl; rfl) | ((with_reducible refine wpList_loadH (o := ⟨some 32, _, _, _, _, _⟩) ?_ 23 (.tmp 1) ?_ ?_ hr310 Try.underlying23 ?_ H5.out ?_); rfl; rfl; rfl; rfl))
  refine (F3.out w10).mono ?_
  rintro e w11 ⟨rfl, hB11⟩
  go_wp2_with fail
  go_ret
  exact ⟨rfl, Bt (Bt (Bt hB8 hB9) hB10) hB11⟩
end Go.Proofs.Ytgfahgmjmiapiaa
