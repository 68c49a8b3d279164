/-
  The walk of PathTurns.
-/
import Derived.Test.YtgfahgmjmiapiaaLaw04A
namespace Go.Proofs.Ytgfahgmjmiapiaa
open Go.RowKit

/-- a composite literal whose cells are known, behind a guard that says yes -/
theorem wpList_buildH {w : World} {ops : Array Oper} {rest : List Oper} {o : Oper} {a : Act} {Q : Exit → Act → World → Prop} (hw : Region.wanted o (yielded ops a.tmps) = true) (T : TypeId) (parts : Array (Nat × Operand)) (ho : o.op = .build T parts)
    {vs : List Value} {ps : List (Nat × Value)} (hp : parts.toList.map (fun p => (p.1, a.eval p.2)) = ps) (hb : Try.prog.built T ps = some vs.toArray)
    (h : wpList Try.prog ops Q rest (a.put o.dst (.agg vs.toArray)) w) : wpList Try.prog ops Q (o :: rest) a w :=
  wpList_step fun K hK => by
    rw [if_pos hw]
    have hb : Try.prog.built T (parts.map fun (i, x) => (i, a.eval x)).toList = some vs.toArray := by rw [Array.toList_map]; rw [← hb, ← hp]
    refine wp_build T parts ho (by rw [hb]; rfl) ?_
    rw [hb]
    exact hK _ _ h

/-- what the walk of PathTurns knows of a world: the path and the turned one -/
structure TurnAt (w W : World) (p q : List UInt8) (g : Nat) : Prop where
  b0 : Blk W w.heap.size 23 (bs p)
  b1 : Blk W g 23 (bs q)
  bel : Below w.heap.size w W
theorem TurnAt.below {w W W' : World} {p q : List UInt8} {g : Nat} (h : TurnAt w W p q g) (hb : Below W.heap.size W W') : TurnAt w W' p q g := ⟨h.b0.below hb, h.b1.below hb, Bt h.bel hb⟩

set_option maxRecDepth 100000 in
set_option maxHeartbeats 1000000 in
theorem turns_no (w : World) (p : List UInt8) (hp : p.length = 32) (i b : Int) (e : Int) (he : e ≠ 0)
    (FW : ∀ W : World, Calls Try.prog 21 #[.agg (bs p).toArray, .int .i64 i, .int .i64 b] W fun x W' => x = .returned (.tuple #[.agg (bs zero32).toArray, .int .i64 e]) ∧ Below W.heap.size W W') :
    Calls Try.prog 8 #[.agg (bs p).toArray, .int .i64 i, .int .i64 b] w (Yes4 w) := by
  have hb0 := Blk.new w 23 (bs p)
  have hB0 : Below w.heap.size w (w.alloc (.cells (bs p).toArray 23)) := (Below.refl _ w).alloc (Nat.le_refl _) _
  have HP := Lib.hid (show (Try.prog.info? 23).map (·.size) = some (bs p).length by rw [info_digest, bs_length, hp])
  have HZ := Lib.hid (show (Try.prog.info? 23).map (·.size) = some (bs zero32).length by rw [info_digest, bs_length, zero32_length])
  have H7 := bs_one zero32
  have HBT := Lib.hid built0
  have G := Lib.hid FW
  clear FW
  have e1 := Lib.hid (show ∀ W : World, (binOp .eql 23 (.agg (bs zero32).toArray) (.agg (bs zero32).toArray)).run Try.prog W = .ok (.bool true) W from fun W => by rw [eqD W _ _ zero32_length zero32_length]; simp)
  go_enter Try.func8, Try.ntmps8
  go_wp2_with ((with_reducible refine wpList_loadB (o := ⟨some 15, _, _, _, _, _⟩) ?_ 23 (.tmp 3) ?_ ?_ hb0 Try.underlying23 ?_ HP.out ?_); rfl; rfl; rfl; rfl)
  refine (G.out _).mono ?_
  rintro x w1 ⟨rfl, hB1⟩
  have hB1' := Bt hB0 hB1
  go_wp2_with (first | ((with_reducible refine wpList_allocB (o := ⟨some 7, _, _, _, _, _⟩) ?_ 23 ?_ zeroD_info ?_); rfl; rfl; intro w2 hr2 hg2 hz2) | ((with_reducible refine wpList_storeB (o := ⟨none, .store 23 (.tmp 7) (.tmp 19), _, _, _, _⟩) ?_ 23 (.tmp 7) (.tmp 19) ?_ ?_ ?_ hr2 HZ.out rfl H7 ?_); rfl; rfl; rfl; rfl; intro w3 hr3 hg3 hz3))
  have hB3 := below4 (hB1'.grown hg2 hB1'.size (fun k e => by cases e)) hg3 hB1'.size
  refine (bits_any _).mono ?_
  rintro x w4 ⟨rfl, hB4⟩
  go_wp2_with fail
  refine (commons_any _).mono ?_
  rintro x w5 ⟨rfl, hB5⟩
  have hr5 := (hr3.below hB4).below hB5
  go_wp2_with (first | ((with_reducible refine wpList_loadH (o := ⟨some 28, _, _, _, _, _⟩) ?_ 23 (.tmp 7) ?_ ?_ hr5 Try.underlying23 ?_ HZ.out ?_); rfl; rfl; rfl; rfl) | ((with_reducible refine wpList_buildH (o := ⟨some 29, _, _, _, _, _⟩) ?_ 23 #[] ?_ ?_ HBT.out ?_); rfl; rfl; rfl) | ((with_reducible refine wpList_eqH (o := ⟨some 30, _, _, _, _, _⟩) ?_ .eql 23 23 (.tmp 28) (.tmp 29) ?_ (bs zero32).toArray (bs zero32).toArray ?_ ?_ guardH _ e1.out ?_); rfl; rfl; rfl; rfl))
  go_ret
  exact Yes4.mk (Bt (Bt hB3 hB4) hB5)

set_option maxRecDepth 100000 in
set_option maxHeartbeats 1000000 in
theorem turns_yes (w : World) (p : List UInt8) (hp : p.length = 32) (i : Nat) (hi : i < 256) (b : Nat) (hb : b < 2) :
    Calls Try.prog 8 #[.agg (bs p).toArray, .int .i64 (i : Int), .int .i64 (b : Int)] w (Yes4 w) := by
  have hb0 := Blk.new w 23 (bs p)
  have hB0 : Below w.heap.size w (w.alloc (.cells (bs p).toArray 23)) := (Below.refl _ w).alloc (Nat.le_refl _) _
  have HP := Lib.hid (show (Try.prog.info? 23).map (·.size) = some (bs p).length by rw [info_digest, bs_length, hp])
  have G := Lib.hid (fun W : World => with_any W p hp i hi b hb)
  have hql : (withBit p i b).length = 32 := by rw [withBit_length, hp]
  have hbits := Lib.hid (fun k (_ : k < 256) => bitAt_with p i b k hb (by omega))
  have hcase : ((p == withBit p i b) = true) ∨ ((p == withBit p i b) = false ∧ comm p (withBit p i b) = i ∧ lessB p (withBit p i b) = decide (b = 1)) := by
    by_cases h : bitAt p i = b
    · exact .inl (by rw [with_same p hp i b hi hb h]; simp)
    · refine .inr ⟨?_, comm_with p hp i b hi hb h, less_with p hp i b hi hb h⟩
      have hc := comm_with p hp i b hi hb h
      cases he : (p == withBit p i b)
      · rfl
      · have he' : p = withBit p i b := by simpa using he
        rw [← he', comm_self] at hc
        omega
  generalize withBit p i b = q at *
  have HQ := Lib.hid (show (Try.prog.info? 23).map (·.size) = some (bs q).length by rw [info_digest, bs_length, hql])
  have H6 := Lib.hid (show (bs zero32).length = (bs q).length by rw [bs_length, bs_length, zero32_length, hql])
  have H7 := bs_one q
  have e1 := Lib.hid (fun W : World => eqD W p q hp hql)
  have C1 := Lib.hid (fun W : World => common_any W p q hp hql)
  have L1 := Lib.hid (fun W : World => less_any W p q hp hql)
  have HCASE := Lib.hid hcase
  clear hcase
  have BP := Lib.hid (fun (k : Nat) (hk : k < 256) (W : World) => bit_any W p hp k hk)
  have BQ := Lib.hid (fun (k : Nat) (hk : k < 256) (W : World) => bit_any W q hql k hk)
  go_enter Try.func8, Try.ntmps8
  go_wp2_with ((with_reducible refine wpList_loadB (o := ⟨some 15, _, _, _, _, _⟩) ?_ 23 (.tmp 3) ?_ ?_ hb0 Try.underlying23 ?_ HP.out ?_); rfl; rfl; rfl; rfl)
  refine (G.out _).mono ?_
  rintro x w1 ⟨rfl, hB1⟩
  have hb1 := hb0.below hB1
  have hB1' := Bt hB0 hB1
  go_wp2_with (first | ((with_reducible refine wpList_allocB (o := ⟨some 7, _, _, _, _, _⟩) ?_ 23 ?_ zeroD_info ?_); rfl; rfl; intro w2 hr2 hg2 hz2) | ((with_reducible refine wpList_storeB (o := ⟨none, .store 23 (.tmp 7) (.tmp 19), _, _, _, _⟩) ?_ 23 (.tmp 7) (.tmp 19) ?_ ?_ ?_ hr2 HQ.out H6.out H7 ?_); rfl; rfl; rfl; rfl; intro w3 hr3 hg3 hz3))
  have hS : TurnAt w w3 p q w1.heap.size := ⟨(hb1.grown hg2 (by simp)).grown hg3 (by have := hb1.lt; simp; omega), hr3, below4 (hB1'.grown hg2 hB1'.size (fun k e => by cases e)) hg3 hB1'.size⟩
  clear hr2 hg2 hz2 hr3 hg3 hz3 hb1 hB1' hB1 hb0 hB0
  generalize w1.heap.size = gq at *
  go_loopw [9, 10, 11, 12, 13] (fun t _ _ _ _ wr => ∃ k : Nat, k ≤ 256 ∧ t = .int .i64 (k : Int) ∧ TurnAt w wr p q gq) (fun t _ _ _ _ _ => 256 - (intOf t).toNat)
  case atStart => exact ⟨0, by omega, rfl, hS⟩
  case round =>
    obtain ⟨k, hk, rfl, hS⟩ := hrel
    have r0 := hS.b0
    by_cases hlt : k < 256
    · have hlt' : (k : Int) < 256 := by omega
      have hbk := hbits.out k hlt
      have F1 := Lib.hid (BP.out k hlt)
      have F2 := Lib.hid (BQ.out k hlt)
      generalize bitAt p k = u at *
      generalize bitAt q k = v at *
      go_wp2_with ((with_reducible refine wpList_loadB (o := ⟨some 37, _, _, _, _, _⟩) ?_ 23 (.tmp 3) ?_ ?_ r0 Try.underlying23 ?_ HP.out ?_); rfl; rfl; rfl; rfl)
      refine (F1.out _).mono ?_
      rintro x w4 ⟨rfl, hB4⟩
      have hS4 := hS.below hB4
      have r1 := hS4.b1
      go_wp2_with ((with_reducible refine wpList_loadB (o := ⟨some 43, _, _, _, _, _⟩) ?_ 23 (.tmp 7) ?_ ?_ r1 Try.underlying23 ?_ HQ.out ?_); rfl; rfl; rfl; rfl)
      refine (F2.out _).mono ?_
      rintro x w5 ⟨rfl, hB5⟩
      have hS5 := hS4.below hB5
      by_cases hki : k = i
      · rw [if_pos hki] at hbk
        subst hki
        subst hbk
        go_wp2_with fail
        exact ⟨⟨k + 1, by omega, rfl, hS5⟩, by simp [intOf]; omega⟩
      · rw [if_neg hki] at hbk
        subst hbk
        have hki' : ¬ (k : Int) = (i : Int) := by omega
        go_wp2_with fail
        exact ⟨⟨k + 1, by omega, rfl, hS5⟩, by simp [intOf]; omega⟩
    · obtain rfl : k = 256 := by omega
      rw [show ((256 : Nat) : Int) = 256 from rfl]
      go_wp2_with fail
      refine (bits_any _).mono ?_
      rintro x w4 ⟨rfl, hB4⟩
      go_wp2_with fail
      refine (commons_any _).mono ?_
      rintro x w5 ⟨rfl, hB5⟩
      have hS5 := (hS.below hB4).below hB5
      have c0 := hS5.b0
      have c1 := hS5.b1
      rcases HCASE.out with hpq | ⟨hpq, hcm, hls⟩
      · rw [hpq] at e1
        go_wp2_with (first | ((with_reducible refine wpList_loadH (o := ⟨some 79, _, _, _, _, _⟩) ?_ 23 (.tmp 3) ?_ ?_ c0 Try.underlying23 ?_ HP.out ?_); rfl; rfl; rfl; rfl) | ((with_reducible refine wpList_loadH (o := ⟨some 80, _, _, _, _, _⟩) ?_ 23 (.tmp 7) ?_ ?_ c1 Try.underlying23 ?_ HQ.out ?_); rfl; rfl; rfl; rfl) | ((with_reducible refine wpList_eqH (o := ⟨some 81, _, _, _, _, _⟩) ?_ .eql 23 23 (.tmp 79) (.tmp 80) ?_ (bs p).toArray (bs q).toArray ?_ ?_ guardH _ e1.out ?_); rfl; rfl; rfl; rfl))
        go_ret
        exact Yes4.mk hS5.bel
      · rw [hpq] at e1
        rw [hcm] at C1
        have hb1 : decide (b = 1) = ((b : Int) == 1) := by
          rw [Bool.eq_iff_iff, decide_eq_true_iff, beq_iff_eq]; omega
        rw [hls, hb1] at L1
        clear hcm hls hpq hb1
        go_wp2_with (first | ((with_reducible refine wpList_loadH (o := ⟨some 79, _, _, _, _, _⟩) ?_ 23 (.tmp 3) ?_ ?_ c0 Try.underlying23 ?_ HP.out ?_); rfl; rfl; rfl; rfl) | ((with_reducible refine wpList_loadH (o := ⟨some 80, _, _, _, _, _⟩) ?_ 23 (.tmp 7) ?_ ?_ c1 Try.underlying23 ?_ HQ.out ?_); rfl; rfl; rfl; rfl) | ((with_reducible refine wpList_eqH (o := ⟨some 81, _, _, _, _, _⟩) ?_ .eql 23 23 (.tmp 79) (.tmp 80) ?_ (bs p).toArray (bs q).toArray ?_ ?_ guardH _ e1.out ?_); rfl; rfl; rfl; rfl) | ((with_reducible refine wpList_loadH (o := ⟨some 83, _, _, _, _, _⟩) ?_ 23 (.tmp 3) ?_ ?_ c0 Try.underlying23 ?_ HP.out ?_); rfl; rfl; rfl; rfl) | ((with_reducible refine wpList_loadH (o := ⟨some 84, _, _, _, _, _⟩) ?_ 23 (.tmp 7) ?_ ?_ c1 Try.underlying23 ?_ HQ.out ?_); rfl; rfl; rfl; rfl))
        refine (C1.out _).mono ?_
        rintro x w6 ⟨rfl, hB6⟩
        have hS6 := hS5.below hB6
        have d0 := hS6.b0
        have d1 := hS6.b1
        go_wp2_with (first | ((with_reducible refine wpList_loadH (o := ⟨some 89, _, _, _, _, _⟩) ?_ 23 (.tmp 3) ?_ ?_ d0 Try.underlying23 ?_ HP.out ?_); rfl; rfl; rfl; rfl) | ((with_reducible refine wpList_loadH (o := ⟨some 90, _, _, _, _, _⟩) ?_ 23 (.tmp 7) ?_ ?_ d1 Try.underlying23 ?_ HQ.out ?_); rfl; rfl; rfl; rfl))
        refine (L1.out _).mono ?_
        rintro x w7 ⟨rfl, hB7⟩
        have hS7 := hS6.below hB7
        go_wp2_with fail
        go_ret
        exact Yes4.mk hS7.bel

theorem walkPathTurns (w : World) (p : List UInt8) (hp : p.length = 32) (i : Int) (_wf : (Lit.int .i64 i).wf = true) (b : Int) (_wf2 : (Lit.int .i64 b).wf = true) :
    Calls Try.prog 8 #[.agg (bs p).toArray, .int .i64 i, .int .i64 b] w (Yes4 w) := by
  by_cases hi : i < 0 ∨ 255 < i
  · exact turns_no w p hp i b 20 (by decide) (fun W => with_any_no W p hp i b hi)
  · by_cases hb : b = 0 ∨ b = 1
    · obtain ⟨k, rfl⟩ := Int.eq_ofNat_of_zero_le (show 0 ≤ i by omega)
      obtain ⟨c, rfl⟩ := Int.eq_ofNat_of_zero_le (show 0 ≤ b by omega)
      exact turns_yes w p hp k (by omega) c (by omega)
    · exact turns_no w p hp i b 1 (by decide) (fun W => with_any_arg W p hp i b (by omega) (by omega))
end Go.Proofs.Ytgfahgmjmiapiaa
