/-
  The walk of SmtRoots.
-/
import Derived.Test.YtielmijahccgkaaGreatDoorLaw05A
import Derived.Test.YtielmijahccgkaaGreatDoorRef05G
import Derived.Test.YtielmijahccgkaaGreatDoorCon05F
namespace Go.Proofs.YtielmijahccgkaaGreatDoor
open Go.RowKit
/-- Root of whatever leaves -/
theorem sroot_all (w : World) (x : Int) (a : Option Addr) (n c : Nat) (l : List Lf) (hr : RdL w a n c l) (hT : Tab w 1) :
    Calls Tryz.prog 21 #[.int .i64 x, .slice a n c] w fun e w' => e = .returned (.tuple #[.agg (bs (rootI x l)).toArray, .int .i64 (rootE x l)]) ∧ Below w.heap.size w w' :=
  sroot_any w x a n c l hr hT (fun h => sorts_all n (by omega))

/-- a whole array out of a variable, behind a guard that says yes -/
theorem wpList_loadF {w : World} {ops : Array Oper} {rest : List Oper} {o : Oper} {a : Act} {Q : Exit → Act → World → Prop} (hw : Region.wanted o (yielded ops a.tmps) = true) (ty : TypeId) (x : Operand) (ho : o.op = .load ty x)
    {g : Nat} (hx : a.eval x = .pointer (some ⟨g, 0, none⟩)) {t : TypeId} {vs : List Value} {d : TypeDesc} (hg : Blk w g t vs) (hu : Tryz.prog.underlying ty = some d) (hd : d.isRow = true)
    (hi : (Tryz.prog.info? ty).map (·.size) = some vs.length)
    (h : wpList Tryz.prog ops Q rest (a.put o.dst (.agg vs.toArray)) w) : wpList Tryz.prog ops Q (o :: rest) a w :=
  wpList_step fun K hK => by
    rw [if_pos hw]
    exact wp_load_mid ty x ho g 0 hx vs d (hg.range 0 (fun j hj => by simp)) hu hd hi (hK _ _ h)
/-- two arrays held against each other, behind a guard that says yes -/
theorem wpList_eqF {w : World} {ops : Array Oper} {rest : List Oper} {o : Oper} {a : Act} {Q : Exit → Act → World → Prop} (hw : Region.wanted o (yielded ops a.tmps) = true) (op : BinOp) (t t' : TypeId) (x y : Operand) (ho : o.op = .binOp op t x y t')
    (xs ys : Array Value) (hx : a.eval x = .agg xs) (hy : a.eval y = .agg ys) (hm : Tryz.prog.eqGuardType Tryz.prog.depth t = false) (v : Value) (hrun : ∀ W : World, (binOp op t (.agg xs) (.agg ys)).run Tryz.prog W = .ok v W)
    (h : wpList Tryz.prog ops Q rest (a.put o.dst v) w) : wpList Tryz.prog ops Q (o :: rest) a w :=
  wpList_step fun K hK => by
    rw [if_pos hw]
    have hr : (execOp a.eval o).run Tryz.prog w = .ok (.value v) w := by
      simp [execOp, ho, hx, hy, run_eqGuard_agg w op t x y xs ys hm, hrun]
    unfold Oper.wp
    rw [hr, Oper.upon_value]
    exact hK _ _ h

set_option maxRecDepth 100000 in
theorem same_law (w : World) (a : Option Addr) (n c : Nat) (l : List Lf) (hr : RdL w a n c l) (hn : n ≤ 100000) (a2 : Option Addr) (n2 c2 : Nat) (m : List Lf) (hr2 : RdL w a2 n2 c2 m) :
    Calls Tryz.prog 26 #[.slice a n c, .slice a2 n2 c2] w fun e w' => e = .returned (.bool (sameLL l m)) ∧ Below w.heap.size w w' := by
  go_enter Tryz.func26, Tryz.ntmps26
  go_wp2_with fail
  refine (same_ref w a n c l hr hn a2 n2 c2 m hr2).mono ?_
  rintro e w1 ⟨rfl, hB1⟩
  go_wp2_with fail
  go_ret
  exact ⟨rfl, hB1⟩

/-- the error alone, of many leaves -/
theorem rootE_not {x : Int} (h : ¬ (0 ≤ x ∧ x ≤ 32)) (l : List Lf) : rootE x l = 1 := by simp only [rootE, if_neg h]
theorem rootE_long {x : Int} (h : 0 ≤ x ∧ x ≤ 32) {l : List Lf} (hl : 4096 < l.length) : rootE x l = 2 := by simp only [rootE, if_pos h, if_neg (by omega : ¬ l.length ≤ 4096)]
theorem rootE_fits {x : Int} (h : 0 ≤ x ∧ x ≤ 32) {l : List Lf} (hl : l.length ≤ 4096) : rootE x l = if twiceB l then 30 else 0 := by simp only [rootE, if_pos h, if_pos hl]

set_option maxRecDepth 100000 in
set_option maxHeartbeats 2000000 in
theorem roots_long (w : World) (hT : Tab w 1) (x : Int) (a : Option Addr) (n c : Nat) (l : List Lf) (hr : RdL w a n c l) (hlong : 200 < n) :
    Calls Tryz.prog 4 #[.int .i64 x, .slice a n c] w (Yes5 w) := by
  have hl := hr.len
  have R1 := Lib.hid (sroot_all w x a n c l hr hT)
  have RO := Lib.hid (fun (W : World) (hb : Below w.heap.size w W) => roots_any W (hT.below hb))
  have WI := Lib.hid (fun (W : World) => width_ref W x)
  have hd := rootI_length x l
  have i5 := Lib.hid (dig5 hd).1
  have j5 := Lib.hid (dig5 hd).2
  have o5 := bs_one (rootI x l)
  have hlong' : (200 : Int) < (n : Int) := by omega
  clear hd
  generalize rootI x l = D at *
  generalize hE : rootE x l = er at *
  by_cases hx : 0 ≤ x ∧ x ≤ 32
  case' neg =>
    have hd : (decide (0 ≤ x) && decide (x ≤ 32)) = false := by simp; omega
    obtain rfl : er = 1 := by rw [← hE]; exact rootE_not hx l
  case' pos =>
    have hd : (decide (0 ≤ x) && decide (x ≤ 32)) = true := by simp; omega
  all_goals
    rw [hd] at WI
    clear hd
    go_enter Tryz.func4, Tryz.ntmps4
    go_wp2_with fail
    refine R1.out.mono ?_
    rintro e w1 ⟨rfl, hB1⟩
    go_wp2_with (first | ((with_reducible refine wpList_allocB (o := ⟨some 5, _, _, _, _, _⟩) ?_ 24 ?_ zeroD_info ?_); rfl; rfl; intro w2 hr2 hg2 hz2) | ((with_reducible refine wpList_storeB (o := ⟨none, .store 24 (.tmp 5) (.tmp 20), _, _, _, _⟩) ?_ 24 (.tmp 5) (.tmp 20) ?_ ?_ ?_ hr2 i5.out j5.out o5 ?_); rfl; rfl; rfl; rfl; intro w3 hr3 hg3 hz3))
    have hB3 := below5 (hB1.grown hg2 hB1.size (fun k e => by cases e)) hg3 hB1.size
    refine (WI.out _).mono ?_
    rintro e w4 ⟨rfl, rfl⟩
  · by_cases h4 : (4096 : Int) < (n : Int)
    · obtain rfl : er = 2 := by rw [← hE]; exact rootE_long hx (by omega)
      go_wp2_with fail
      refine (RO.out _ hB3).mono ?_
      rintro e w5 ⟨rfl, hB5⟩
      go_wp2_with fail
      go_ret
      exact Yes5.mk (Bt hB3 hB5)
    · have hE2 := rootE_fits hx (l := l) (by omega)
      rw [hE] at hE2
      have HE2 := Lib.hid hE2
      clear hE2
      go_wp2_with fail
      refine (twice_ref _ a n c l (hr.below hB3) (by omega)).mono ?_
      rintro e w5 ⟨rfl, hB5⟩
      have hC5 := Bt hB3 hB5
      cases ht : twiceB l
      case' true =>
        obtain rfl : er = 30 := by rw [HE2.out, ht]; rfl
      case' false =>
        obtain rfl : er = 0 := by rw [HE2.out, ht]; rfl
      all_goals
        go_wp2_with fail
        refine (RO.out _ hC5).mono ?_
        rintro e w6 ⟨rfl, hB6⟩
        go_wp2_with fail
        go_ret
        exact Yes5.mk (Bt hC5 hB6)
  · go_wp2_with fail
    refine (RO.out _ hB3).mono ?_
    rintro e w5 ⟨rfl, hB5⟩
    go_wp2_with fail
    go_ret
    exact Yes5.mk (Bt hB3 hB5)

set_option maxRecDepth 100000 in
set_option maxHeartbeats 2000000 in
theorem walkSmtRoots (w : World) (hT : Tab w 1) (hK : Tab w 0) (x : Int) (_wf : (Lit.int .i64 x).wf = true) (a : Option Addr) (n c : Nat) (l : List Lf) (hr : RdL w a n c l) :
    Calls Tryz.prog 4 #[.int .i64 x, .slice a n c] w (Yes5 w) := by
  by_cases hlong : 200 < n
  · exact roots_long w hT x a n c l hr hlong
  have RO := Lib.hid (fun (W : World) (hb : Below w.heap.size w W) => roots_any W (hT.below hb))
  have R1 := Lib.hid (fun (W : World) (hb : Below w.heap.size w W) => sroot_all W x a n c l (hr.below hb) (hT.below hb))
  have R2 := Lib.hid (fun (W : World) (hb : Below w.heap.size w W) (a' : Option Addr) (c' : Nat) (h : RdL W a' n c' l) => root_ref W x a' n c' l h (hK.below hb) (by omega))
  have hs := (sameLL_iff l l).2 rfl
  have hd := rootI_length x l
  have i5 := Lib.hid (dig5 hd).1
  have j5 := Lib.hid (dig5 hd).2
  have o5 := bs_one (rootI x l)
  have e5 := Lib.hid (eq5 hd)
  have hlong' : ¬ (200 : Int) < (n : Int) := by omega
  clear hd
  generalize rootI x l = D at *
  generalize rootE x l = er at *
  go_enter Tryz.func4, Tryz.ntmps4
  go_wp2_with fail
  refine (own_ref w a n c l hr (by omega)).mono ?_
  rintro e w1 ⟨a1, c1, rfl, hO1, hB1⟩
  go_wp2_with fail
  refine (R1.out _ hB1).mono ?_
  rintro e w2 ⟨rfl, hB2⟩
  have hC2 := Bt hB1 hB2
  have hO2 := hO1.below hB2
  go_wp2_with (first | ((with_reducible refine wpList_allocB (o := ⟨some 9, _, _, _, _, _⟩) ?_ 24 ?_ zeroD_info ?_); rfl; rfl; intro w3 hr3 hg3 hz3) | ((with_reducible refine wpList_storeB (o := ⟨none, .store 24 (.tmp 9) (.tmp 42), _, _, _, _⟩) ?_ 24 (.tmp 9) (.tmp 42) ?_ ?_ ?_ hr3 i5.out j5.out o5 ?_); rfl; rfl; rfl; rfl; intro w4 hr4 hg4 hz4))
  have hB4 := below5 (hC2.grown hg3 hC2.size (fun k e => by cases e)) hg4 hC2.size
  have hB24 : Below w2.heap.size w2 w4 := below5 ((Below.refl _ w2).grown hg3 (Nat.le_refl _) (fun k e => by cases e)) hg4 (Nat.le_refl _)
  have hO4 := hO2.below hB24
  refine (R2.out _ hB4 a1 c1 hO4.rd).mono ?_
  rintro e w5 ⟨rfl, hB5⟩
  have hC5 := Bt hB4 hB5
  have hO5 := hO4.below hB5
  have k4 := hr4.below hB5
  go_wp2_with (first | ((with_reducible refine wpList_allocB (o := ⟨some 11, _, _, _, _, _⟩) ?_ 24 ?_ zeroD_info ?_); rfl; rfl; intro w6 hr6 hg6 hz6) | ((with_reducible refine wpList_storeB (o := ⟨none, .store 24 (.tmp 11) (.tmp 48), _, _, _, _⟩) ?_ 24 (.tmp 11) (.tmp 48) ?_ ?_ ?_ hr6 i5.out j5.out o5 ?_); rfl; rfl; rfl; rfl; intro w7 hr7 hg7 hz7))
  have hB7 := below5 (hC5.grown hg6 hC5.size (fun k e => by cases e)) hg7 hC5.size
  have hB57 : Below w5.heap.size w5 w7 := below5 ((Below.refl _ w5).grown hg6 (Nat.le_refl _) (fun k e => by cases e)) hg7 (Nat.le_refl _)
  have hO7 := hO5.below hB57
  have k7 := k4.below hB57
  refine (RO.out _ hB7).mono ?_
  rintro e w8 ⟨rfl, hB8⟩
  have hC8 := Bt hB7 hB8
  have hO8 := hO7.below hB8
  have m4 := k7.below hB8
  have m7 := hr7.below hB8
  go_wp2_with (first | ((with_reducible refine wpList_loadF (o := ⟨some 52, _, _, _, _, _⟩) ?_ 24 (.tmp 9) ?_ ?_ m4 Tryz.underlying24 ?_ i5.out ?_); rfl; rfl; rfl; rfl) | ((with_reducible refine wpList_loadF (o := ⟨some 53, _, _, _, _, _⟩) ?_ 24 (.tmp 11) ?_ ?_ m7 Tryz.underlying24 ?_ i5.out ?_); rfl; rfl; rfl; rfl) | ((with_reducible refine wpList_eqF (o := ⟨some 54, _, _, _, _, _⟩) ?_ .eql 24 24 (.tmp 52) (.tmp 53) ?_ (bs D).toArray (bs D).toArray ?_ ?_ guardR _ e5.out ?_); rfl; rfl; rfl; rfl))
  refine (same_law _ a n c l (hr.below hC8) (by omega) a1 n c1 l hO8.rd).mono ?_
  rintro e w9 ⟨rfl, hB9⟩
  rw [hs]
  go_wp2_with fail
  go_ret
  exact Yes5.mk (Bt hC8 hB9)
end Go.Proofs.YtielmijahccgkaaGreatDoor
