/-
  Law05C Law05E, in one text.
-/
import Derived.Test.YtielmijahccgkaaGreatDoorLaw05A
import Derived.Test.YtielmijahccgkaaGreatDoorRef05G
import Derived.Test.YtielmijahccgkaaGreatDoorCon05F
namespace Go.Proofs.YtielmijahccgkaaGreatDoor
/-! The walk of SmtRoots. -/
section
open Go.RowKit
/-- Root of whatever leaves -/
theorem sroot_all (w : World) (x : Int) (a : Option Addr) (n c : Nat) (l : List Lf) (hr : RdL w a n c l) (hT : Tab w 1) :
    Calls Tryz.prog 21 #[.int .i64 x, .slice a n c] w fun e w' => e = .returned (.tuple #[.agg (bs (rootI x l)).toArray, .int .i64 (rootE x l)]) ∧ Below w.heap.size w w' :=
  sroot_any w x a n c l hr hT (fun h => sorts_all n (by omega))

/-- a whole array out of a variable, behind a guard that says yes -/
theorem wpList_loadF {w : World} {ops : Array Oper} {rest : List Oper} {o : Oper} {a : Act} {Q : Exit → Act → World → Prop} (hw : Region.wanted o (yielded ops a.tmps) = true) (ty : TypeId) (x : Operand) (ho : o.op = .load ty x)
    {g : Nat} (hx : a.eval x = .pointer (some ⟨g, 0, none⟩)) {t : TypeId} {vs : List Value} {d : TypeDesc} (hg : Blk w g t vs) (hu : Tryz.prog.underlying ty = some d) (hd : d.isRow = true)
    (hi : (Tryz.prog.info? ty).map (·.size) = some vs.length)
    (h : wpList Tryz.prog ops Q rest (a.put o.dst (.agg vs.toArray)) w) : wpList Tryz.prog ops Q (o :: rest) a w :=
  wpList_step fun K hK => by
    rw [if_pos hw]
    exact wp_load_mid ty x ho g 0 hx vs d (hg.range 0 (fun j hj => by simp)) hu hd hi (hK _ _ h)
/-- two arrays held against each other, behind a guard that says yes -/
theorem wpList_eqF {w : World} {ops : Array Oper} {rest : List Oper} {o : Oper} {a : Act} {Q : Exit → Act → World → Prop} (hw : Region.wanted o (yielded ops a.tmps) = true) (op : BinOp) (t t' : TypeId) (x y : Operand) (ho : o.op = .binOp op t x y t')
    (xs ys : Array Value) (hx : a.eval x = .agg xs) (hy : a.eval y = .agg ys) (hm : Tryz.prog.eqGuardType Tryz.prog.depth t = false) (v : Value) (hrun : ∀ W : World, (binOp op t (.agg xs) (.agg ys)).run Tryz.prog W = .ok v W)
    (h : wpList Tryz.prog ops Q rest (a.put o.dst v) w) : wpList Tryz.prog ops Q (o :: rest) a w :=
  wpList_step fun K hK => by
    rw [if_pos hw]
    have hr : (execOp a.eval o).run Tryz.prog w = .ok (.value v) w := by
      simp [execOp, ho, hx, hy, run_eqGuard_agg w op t x y xs ys hm, hrun]
    unfold Oper.wp
    rw [hr, Oper.upon_value]
    exact hK _ _ h

set_option maxRecDepth 100000 in
theorem same_law (w : World) (a : Option Addr) (n c : Nat) (l : List Lf) (hr : RdL w a n c l) (hn : n ≤ 100000) (a2 : Option Addr) (n2 c2 : Nat) (m : List Lf) (hr2 : RdL w a2 n2 c2 m) :
    Calls Tryz.prog 26 #[.slice a n c, .slice a2 n2 c2] w fun e w' => e = .returned (.bool (sameLL l m)) ∧ Below w.heap.size w w' := by
  go_enter Tryz.func26, Tryz.ntmps26
  go_wp2_with fail
  refine (same_ref w a n c l hr hn a2 n2 c2 m hr2).mono ?_
  rintro e w1 ⟨rfl, hB1⟩
  go_wp2_with fail
  go_ret
  exact ⟨rfl, hB1⟩

/-- the error alone, of many leaves -/
theorem rootE_not {x : Int} (h : ¬ (0 ≤ x ∧ x ≤ 32)) (l : List Lf) : rootE x l = 1 := by simp only [rootE, if_neg h]
theorem rootE_long {x : Int} (h : 0 ≤ x ∧ x ≤ 32) {l : List Lf} (hl : 4096 < l.length) : rootE x l = 2 := by simp only [rootE, if_pos h, if_neg (by omega : ¬ l.length ≤ 4096)]
theorem rootE_fits {x : Int} (h : 0 ≤ x ∧ x ≤ 32) {l : List Lf} (hl : l.length ≤ 4096) : rootE x l = if twiceB l then 30 else 0 := by simp only [rootE, if_pos h, if_pos hl]

set_option maxRecDepth 100000 in
set_option maxHeartbeats 2000000 in
theorem roots_long (w : World) (hT : Tab w 1) (x : Int) (a : Option Addr) (n c : Nat) (l : List Lf) (hr : RdL w a n c l) (hlong : 200 < n) :
    Calls Tryz.prog 4 #[.int .i64 x, .slice a n c] w (Yes5 w) := by
  have hl := hr.len
  have R1 := Lib.hid (sroot_all w x a n c l hr hT)
  have RO := Lib.hid (fun (W : World) (hb : Below w.heap.size w W) => roots_any W (hT.below hb))
  have WI := Lib.hid (fun (W : World) => width_ref W x)
  have hd := rootI_length x l
  have i5 := Lib.hid (dig5 hd).1
  have j5 := Lib.hid (dig5 hd).2
  have o5 := bs_one (rootI x l)
  have hlong' : (200 : Int) < (n : Int) := by omega
  clear hd
  generalize rootI x l = D at *
  generalize hE : rootE x l = er at *
  by_cases hx : 0 ≤ x ∧ x ≤ 32
  case' neg =>
    have hd : (decide (0 ≤ x) && decide (x ≤ 32)) = false := by simp; omega
    obtain rfl : er = 1 := by rw [← hE]; exact rootE_not hx l
  case' pos =>
    have hd : (decide (0 ≤ x) && decide (x ≤ 32)) = true := by simp; omega
  all_goals
    rw [hd] at WI
    clear hd
    go_enter Tryz.func4, Tryz.ntmps4
    go_wp2_with fail
    refine R1.out.mono ?_
    rintro e w1 ⟨rfl, hB1⟩
    go_wp2_with (first | ((with_reducible refine wpList_allocB (o := ⟨some 5, _, _, _, _, _⟩) ?_ 24 ?_ zeroD_info ?_); rfl; rfl; intro w2 hr2 hg2 hz2) | ((with_reducible refine wpList_storeB (o := ⟨none, .store 24 (.tmp 5) (.tmp 20), _, _, _, _⟩) ?_ 24 (.tmp 5) (.tmp 20) ?_ ?_ ?_ hr2 i5.out j5.out o5 ?_); rfl; rfl; rfl; rfl; intro w3 hr3 hg3 hz3))
    have hB3 := below5 (hB1.grown hg2 hB1.size (fun k e => by cases e)) hg3 hB1.size
    refine (WI.out _).mono ?_
    rintro e w4 ⟨rfl, rfl⟩
  · by_cases h4 : (4096 : Int) < (n : Int)
    · obtain rfl : er = 2 := by rw [← hE]; exact rootE_long hx (by omega)
      go_wp2_with fail
      refine (RO.out _ hB3).mono ?_
      rintro e w5 ⟨rfl, hB5⟩
      go_wp2_with fail
      go_ret
      exact Yes5.mk (Bt hB3 hB5)
    · have hE2 := rootE_fits hx (l := l) (by omega)
      rw [hE] at hE2
      have HE2 := Lib.hid hE2
      clear hE2
      go_wp2_with fail
      refine (twice_ref _ a n c l (hr.below hB3) (by omega)).mono ?_
      rintro e w5 ⟨rfl, hB5⟩
      have hC5 := Bt hB3 hB5
      cases ht : twiceB l
      case' true =>
        obtain rfl : er = 30 := by rw [HE2.out, ht]; rfl
      case' false =>
        obtain rfl : er = 0 := by rw [HE2.out, ht]; rfl
      all_goals
        go_wp2_with fail
        refine (RO.out _ hC5).mono ?_
        rintro e w6 ⟨rfl, hB6⟩
        go_wp2_with fail
        go_ret
        exact Yes5.mk (Bt hC5 hB6)
  · go_wp2_with fail
    refine (RO.out _ hB3).mono ?_
    rintro e w5 ⟨rfl, hB5⟩
    go_wp2_with fail
    go_ret
    exact Yes5.mk (Bt hB3 hB5)

set_option maxRecDepth 100000 in
set_option maxHeartbeats 2000000 in
theorem walkSmtRoots (w : World) (hT : Tab w 1) (hK : Tab w 0) (x : Int) (_wf : (Lit.int .i64 x).wf = true) (a : Option Addr) (n c : Nat) (l : List Lf) (hr : RdL w a n c l) :
    Calls Tryz.prog 4 #[.int .i64 x, .slice a n c] w (Yes5 w) := by
  by_cases hlong : 200 < n
  · exact roots_long w hT x a n c l hr hlong
  have RO := Lib.hid (fun (W : World) (hb : Below w.heap.size w W) => roots_any W (hT.below hb))
  have R1 := Lib.hid (fun (W : World) (hb : Below w.heap.size w W) => sroot_all W x a n c l (hr.below hb) (hT.below hb))
  have R2 := Lib.hid (fun (W : World) (hb : Below w.heap.size w W) (a' : Option Addr) (c' : Nat) (h : RdL W a' n c' l) => root_ref W x a' n c' l h (hK.below hb) (by omega))
  have hs := (sameLL_iff l l).2 rfl
  have hd := rootI_length x l
  have i5 := Lib.hid (dig5 hd).1
  have j5 := Lib.hid (dig5 hd).2
  have o5 := bs_one (rootI x l)
  have e5 := Lib.hid (eq5 hd)
  have hlong' : ¬ (200 : Int) < (n : Int) := by omega
  clear hd
  generalize rootI x l = D at *
  generalize rootE x l = er at *
  go_enter Tryz.func4, Tryz.ntmps4
  go_wp2_with fail
  refine (own_ref w a n c l hr (by omega)).mono ?_
  rintro e w1 ⟨a1, c1, rfl, hO1, hB1⟩
  go_wp2_with fail
  refine (R1.out _ hB1).mono ?_
  rintro e w2 ⟨rfl, hB2⟩
  have hC2 := Bt hB1 hB2
  have hO2 := hO1.below hB2
  go_wp2_with (first | ((with_reducible refine wpList_allocB (o := ⟨some 9, _, _, _, _, _⟩) ?_ 24 ?_ zeroD_info ?_); rfl; rfl; intro w3 hr3 hg3 hz3) | ((with_reducible refine wpList_storeB (o := ⟨none, .store 24 (.tmp 9) (.tmp 42), _, _, _, _⟩) ?_ 24 (.tmp 9) (.tmp 42) ?_ ?_ ?_ hr3 i5.out j5.out o5 ?_); rfl; rfl; rfl; rfl; intro w4 hr4 hg4 hz4))
  have hB4 := below5 (hC2.grown hg3 hC2.size (fun k e => by cases e)) hg4 hC2.size
  have hB24 : Below w2.heap.size w2 w4 := below5 ((Below.refl _ w2).grown hg3 (Nat.le_refl _) (fun k e => by cases e)) hg4 (Nat.le_refl _)
  have hO4 := hO2.below hB24
  refine (R2.out _ hB4 a1 c1 hO4.rd).mono ?_
  rintro e w5 ⟨rfl, hB5⟩
  have hC5 := Bt hB4 hB5
  have hO5 := hO4.below hB5
  have k4 := hr4.below hB5
  go_wp2_with (first | ((with_reducible refine wpList_allocB (o := ⟨some 11, _, _, _, _, _⟩) ?_ 24 ?_ zeroD_info ?_); rfl; rfl; intro w6 hr6 hg6 hz6) | ((with_reducible refine wpList_storeB (o := ⟨none, .store 24 (.tmp 11) (.tmp 48), _, _, _, _⟩) ?_ 24 (.tmp 11) (.tmp 48) ?_ ?_ ?_ hr6 i5.out j5.out o5 ?_); rfl; rfl; rfl; rfl; intro w7 hr7 hg7 hz7))
  have hB7 := below5 (hC5.grown hg6 hC5.size (fun k e => by cases e)) hg7 hC5.size
  have hB57 : Below w5.heap.size w5 w7 := below5 ((Below.refl _ w5).grown hg6 (Nat.le_refl _) (fun k e => by cases e)) hg7 (Nat.le_refl _)
  have hO7 := hO5.below hB57
  have k7 := k4.below hB57
  refine (RO.out _ hB7).mono ?_
  rintro e w8 ⟨rfl, hB8⟩
  have hC8 := Bt hB7 hB8
  have hO8 := hO7.below hB8
  have m4 := k7.below hB8
  have m7 := hr7.below hB8
  go_wp2_with (first | ((with_reducible refine wpList_loadF (o := ⟨some 52, _, _, _, _, _⟩) ?_ 24 (.tmp 9) ?_ ?_ m4 Tryz.underlying24 ?_ i5.out ?_); rfl; rfl; rfl; rfl) | ((with_reducible refine wpList_loadF (o := ⟨some 53, _, _, _, _, _⟩) ?_ 24 (.tmp 11) ?_ ?_ m7 Tryz.underlying24 ?_ i5.out ?_); rfl; rfl; rfl; rfl) | ((with_reducible refine wpList_eqF (o := ⟨some 54, _, _, _, _, _⟩) ?_ .eql 24 24 (.tmp 52) (.tmp 53) ?_ (bs D).toArray (bs D).toArray ?_ ?_ guardR _ e5.out ?_); rfl; rfl; rfl; rfl))
  refine (same_law _ a n c l (hr.below hC8) (by omega) a1 n c1 l hO8.rd).mono ?_
  rintro e w9 ⟨rfl, hB9⟩
  rw [hs]
  go_wp2_with fail
  go_ret
  exact Yes5.mk (Bt hC8 hB9)
end
/-! SmtOrder: leaves in another order. -/
section
open Go.RowKit Go.Sort

theorem RdI.ints {w : World} {a : Option Addr} {n c : Nat} {zs : List Int} (h : RdI w a n c zs) (hn : 0 < n) : ∃ b off, a = some ⟨b, off, none⟩ ∧ ∀ i, i < n → w.cell? ⟨b, off + i, none⟩ = some (.int .i64 (zs.getD i 0)) := by
  cases a with
  | none => have := h.nil rfl; omega
  | some ad =>
    have hl := h.len
    obtain ⟨b, off, sp⟩ := ad
    have h0 := h.cell _ rfl 0 (by omega)
    obtain rfl : sp = none := by simpa [Addr.add] using World.cell?_spot h0
    refine ⟨b, off, rfl, fun i hi => ?_⟩
    have := h.cell _ rfl i (by omega)
    rw [Addr.add_lit] at this
    rw [this]
    simp [List.getD, show i < zs.length by omega]
theorem swap_splice {d : Array Lf} (hok : oks d.toList) {n i j : Nat} (hn : d.size = n) (hi : i < n) (hj : j < n) (rest : List Value) :
    splice (splice (lcs d.toList ++ rest) (i * 64) (lc d[j]!)) (j * 64) (lc d[i]!) = lcs (swp d i j).toList ++ rest := by
  have g : ∀ q, q < n → d[q]!.ok := fun q hq => by rw [getElem!_pos d q (by omega)]; exact hok _ (by simp)
  have hl : (lcs d.toList).length = n * 64 := by rw [lcs_length hok, Array.length_toList, hn]
  have hL : (lcs d.toList ++ rest).length = n * 64 + rest.length := by rw [List.length_append, hl]
  have hxi := lc_length (g i hi)
  have hxj := lc_length (g j hj)
  have hi64 : i * 64 + 64 ≤ n * 64 := by omega
  have hj64 : j * 64 + 64 ≤ n * 64 := by omega
  have hok2 := swp_oks hok (i := i) (j := j) (by omega) (by omega)
  have hsz : (swp d i j).size = n := by rw [size_swp, hn]
  have hs1 : (splice (lcs d.toList ++ rest) (i * 64) (lc d[j]!)).length = n * 64 + rest.length := by
    unfold splice
    simp only [List.length_append, List.length_take, List.length_drop, hxj, hl]
    omega
  refine List.ext_getElem? fun t => ?_
  have hl2 : (lcs (swp d i j).toList).length = n * 64 := by rw [lcs_length hok2, Array.length_toList, hsz]
  rw [splice_get _ _ _ (by rw [hxi, hs1]; omega), splice_get _ _ _ (by rw [hxj, hL]; omega), hxi, hxj]
  by_cases ht : t < n * 64
  · rw [List.getElem?_append_left (by omega : t < (lcs (swp d i j).toList).length), List.getElem?_append_left (by omega : t < (lcs d.toList).length)]
    have hq : t / 64 < n := by omega
    have hr : t % 64 < 64 := Nat.mod_lt _ (by decide)
    have et : t = t / 64 * 64 + t % 64 := by omega
    have a1 := lcs_at hok2 (t / 64) (t % 64) (by simp [size_swp, hn, hq]) hr
    have a2 := lcs_at hok (t / 64) (t % 64) (by simp [hn, hq]) hr
    rw [← et, get_list] at a1 a2
    rw [a1, a2, swp_get d (by omega) (by omega)]
    by_cases h1 : t / 64 = j
    · rw [if_pos (by omega), if_pos h1, show t - j * 64 = t % 64 by omega]
    · rw [if_neg (by omega), if_neg h1]
      by_cases h2 : t / 64 = i
      · rw [if_pos (by omega), if_pos h2, show t - i * 64 = t % 64 by omega]
      · rw [if_neg (by omega), if_neg h2]
  · rw [if_neg (by omega), if_neg (by omega), List.getElem?_append_right (by omega), List.getElem?_append_right (by omega), hl, hl2]

/-- the own row, in whatever order -/
structure Oth (w W : World) (a1 : Option Addr) (n c1 : Nat) (l : List Lf) (d : Array Lf) : Prop where
  rd : RdL W a1 n c1 d.toList
  perm : d.toList.Perm l
  bel : Below w.heap.size w W
  blk : 0 < n → ∃ g rest, a1 = some ⟨g, 0, none⟩ ∧ w.heap.size ≤ g ∧ Blk W g 26 (lcs d.toList ++ rest)
theorem swp_perm {d : Array Lf} {i j : Nat} (hi : i < d.size) (hj : j < d.size) : (swp d i j).toList.Perm d.toList := by
  have h := (swp_permIn d 0 d.size i j (Nat.zero_le _) hi (Nat.zero_le _) hj (Nat.le_refl _)).2.2
  have e1 : (swp d i j).extract 0 d.size = swp d i j := by rw [← size_swp d i j]; simp
  have e2 : d.extract 0 d.size = d := by simp
  rwa [e1, e2] at h

set_option maxRecDepth 100000 in
set_option maxHeartbeats 4000000 in
theorem walkSmtOrder (w : World) (hT : Tab w 1) (x : Int) (_wf : (Lit.int .i64 x).wf = true) (a : Option Addr) (n c : Nat) (l : List Lf) (hr : RdL w a n c l) (a2 : Option Addr) (n2 c2 : Nat) (zs : List Int) (hz : RdI w a2 n2 c2 zs) :
    Calls Tryz.prog 5 #[.int .i64 x, .slice a n c, .slice a2 n2 c2] w (Yes5 w) := by
  by_cases h200 : 200 < n
  · have h200' : (200 : Int) < (n : Int) := by omega
    go_enter Tryz.func5, Tryz.ntmps5
    go_wp2_with fail
    go_ret
    exact Yes5.mk (Below.refl _ _)
  have h200' : ¬ (200 : Int) < (n : Int) := by omega
  by_cases h400 : 400 < n2
  · have h400' : (400 : Int) < (n2 : Int) := by omega
    go_enter Tryz.func5, Tryz.ntmps5
    go_wp2_with fail
    go_ret
    exact Yes5.mk (Below.refl _ _)
  have h400' : ¬ (400 : Int) < (n2 : Int) := by omega
  have OW := own_ref w a n c l hr (by omega)
  have hl := hr.len
  go_enter Tryz.func5, Tryz.ntmps5
  go_wp2_with fail
  refine OW.mono ?_
  rintro e w1 ⟨a1, c1, rfl, hO1, hB1⟩
  have hS : Oth w w1 a1 n c1 l l.toArray := by
    refine ⟨by simpa using hO1.rd, by simp, hB1, fun h0 => ?_⟩
    rcases hO1.2.2 with ⟨hv, h1⟩ | ⟨g', cap, cur, hv, hg', hg, hnc, hcm, hcs, htake⟩
    · omega
    · cases hv
      refine ⟨g', cur.toList.drop (l.length * 64), rfl, hg', ⟨?_⟩⟩
      rw [hg]
      have e : lcs l.toArray.toList ++ cur.toList.drop (l.length * 64) = cur.toList := by rw [← htake, List.take_append_drop]
      rw [e]
  clear hO1 OW
  go_wp2_with fail
  go_loopw [8] (fun v wr => ∃ (i : Nat) (d : Array Lf), v = .int .i64 i ∧ i ≤ n2 + 1 ∧ Oth w wr a1 n c1 l d) (fun v _ => n2 + 2 - (intOf v).toNat)
  case atStart => exact ⟨0, _, rfl, by omega, hS⟩
  case round =>
    clear hS
    obtain ⟨i, d, rfl, hi, hS⟩ := hrel
    by_cases hlt : i + 1 < n2
    · have hlt' : (i : Int) + 1 < (n2 : Int) := by omega
      obtain ⟨b, off, rfl, hcz⟩ := (hz.below hS.bel).ints (by omega)
      have k1 := hcz i (by omega)
      have k2 := hcz (i + 1) hlt
      clear hcz
      generalize zs.getD i 0 = z1 at *
      generalize zs.getD (i + 1) 0 = z2 at *
      have hend : Oth w wr a1 n c1 l d := hS
      have HE := Lib.hid hend
      clear hend
      by_cases hc : (0 ≤ z1 ∧ z1 < (n : Int)) ∧ 0 ≤ z2 ∧ z2 < (n : Int)
      case neg =>
        go_wp2_with fail
        all_goals first
          | exact ⟨⟨i + 2, d, by go_num, by omega, HE.out⟩, by simp [intOf]; omega⟩
          | (exfalso; omega)
      case pos =>
        obtain ⟨⟨p1, p2⟩, p3, p4⟩ := hc
        obtain ⟨x1, rfl⟩ := Int.eq_ofNat_of_zero_le p1
        obtain ⟨x2, rfl⟩ := Int.eq_ofNat_of_zero_le p3
        have q1 : x1 < n := by omega
        have q2 : x2 < n := by omega
        obtain ⟨g, rest, rfl, hg0, hBk⟩ := hS.blk (by omega)
        have hds : d.size = n := by have := hS.rd.len; simpa using this
        have hok := hS.rd.ok
        have hd1 : d[x1]!.ok := by rw [getElem!_pos d x1 (by omega)]; exact hok _ (by simp)
        have hd2 : d[x2]!.ok := by rw [getElem!_pos d x2 (by omega)]; exact hok _ (by simp)
        have rng : ∀ q, q < n → ∀ j, j < (lc d[q]!).length → (lcs d.toList ++ rest)[q * 64 + j]? = (lc d[q]!)[j]? := fun q hq => (fun j hj => by
          have hqo : d[q]!.ok := by rw [getElem!_pos d q (by omega)]; exact hok _ (by simp)
          rw [lc_length hqo] at hj
          rw [List.getElem?_append_left (by rw [lcs_length hok, Array.length_toList, hds]; omega), lcs_at hok q j (by simp [hds, hq]) hj, get_list])
        have r1 := hBk.range _ (rng x1 q1)
        have V2 := Lib.hid (rng x2 q2)
        have HSW := Lib.hid (swap_splice hok hds q1 q2 rest)
        have l1 := lc_length hd1
        have l2 := lc_length hd2
        have hvl : (lcs d.toList ++ rest).length = n * 64 + rest.length := by rw [List.length_append, lcs_length hok, Array.length_toList, hds]
        have sok := swp_oks hok (i := x1) (j := x2) (by omega) (by omega)
        have sp := (swp_perm (d := d) (i := x1) (j := x2) (by omega) (by omega)).trans hS.perm
        have ssz : (swp d x1 x2).size = n := by rw [size_swp, hds]
        have hcap := hS.rd.cap
        have hmax := hS.rd.max
        have hbel := hS.bel
        generalize d[x1]! = y1 at *
        generalize d[x2]! = y2 at *
        have I1 := Lib.hid (show (Tryz.prog.info? 26).map (·.size) = some (lc y1).length by rw [l1]; exact infoLeafS)
        have I2 := Lib.hid (show (Tryz.prog.info? 26).map (·.size) = some (lc y2).length by rw [l2]; exact infoLeafS)
        have J1 := Lib.hid (show (bs (zero32 ++ zero32)).length = (lc y1).length by rw [l1, bs_length]; rfl)
        have O1 := lc_one y1
        have O2 := lc_one y2
        have fit1 := Lib.hid (show x1 * 64 + (lc y2).length ≤ (lcs d.toList ++ rest).length by rw [l2, hvl]; omega)
        have hl1 : (splice (lcs d.toList ++ rest) (x1 * 64) (lc y2)).length = n * 64 + rest.length := by
          unfold splice
          simp only [List.length_append, List.length_take, List.length_drop, l2] at hvl ⊢
          omega
        have fit2 := Lib.hid (show x2 * 64 + (lc y1).length ≤ (splice (lcs d.toList ++ rest) (x1 * 64) (lc y2)).length by rw [l1, hl1]; omega)
        clear hl1 hvl rng hS
        generalize lcs d.toList ++ rest = vs at *
        have hgl := hBk.lt
        go_wp2_with (first | ((with_reducible refine wpList_loadM (o := ⟨some 63, _, _, _, _, _⟩) ?_ g (x1 * 64) 26 (.tmp 62) ?_ ?_ r1 Tryz.underlying26 ?_ I1.out ?_); rfl; rfl; rfl; rfl) | ((with_reducible refine wpList_allocB (o := ⟨some 11, _, _, _, _, _⟩) ?_ 26 ?_ zeroL_info ?_); rfl; rfl; intro w4 hr4 hg4 hz4; have hBk4 := hBk.grown hg4 (by simp)) | ((with_reducible refine wpList_storeB (o := ⟨none, .store 26 (.tmp 11) (.tmp 63), _, _, _, _⟩) ?_ 26 (.tmp 11) (.tmp 63) ?_ ?_ ?_ hr4 I1.out J1.out O1 ?_); rfl; rfl; rfl; rfl; intro w5 hr5 hg5 hz5; have hBk5 := hBk4.grown hg5 (by simp; omega); have r25 := hBk5.range _ V2.out) | ((with_reducible refine wpList_loadM (o := ⟨some 69, _, _, _, _, _⟩) ?_ g (x2 * 64) 26 (.tmp 68) ?_ ?_ r25 Tryz.underlying26 ?_ I2.out ?_); rfl; rfl; rfl; rfl) | ((with_reducible refine wpList_storeM (o := ⟨none, .store 26 (.tmp 70) (.tmp 69), _, _, _, _⟩) ?_ g (x1 * 64) 26 (.tmp 70) (.tmp 69) ?_ ?_ ?_ hBk5 fit1.out I2.out O2 ?_); rfl; rfl; rfl; rfl; intro w6 hBk6 hg6 hz6; have hr6 := (hr5.grown hg6 (by simp; omega)).allR) | ((with_reducible refine wpList_loadM (o := ⟨some 73, _, _, _, _, _⟩) ?_ wr.heap.size (0) 26 (.tmp 11) ?_ ?_ hr6 Tryz.underlying26 ?_ I1.out ?_); rfl; rfl; rfl; rfl) | ((with_reducible refine wpList_storeM (o := ⟨none, .store 26 (.tmp 74) (.tmp 73), _, _, _, _⟩) ?_ g (x2 * 64) 26 (.tmp 74) (.tmp 73) ?_ ?_ ?_ hBk6 fit2.out I1.out O1 ?_); rfl; rfl; rfl; rfl; intro w7 hBk7 hg7 hz7))
        rw [HSW.out] at hBk7
        have hsz := hbel.size
        have hB5 : Below w.heap.size w w5 := (hbel.grown hg4 hsz (fun k e => by cases e)).grown hg5 (by omega) (fun k e => by cases e; omega)
        have hB7 : Below w.heap.size w w7 := (hB5.grown hg6 hB5.size (fun k e => by cases e; exact hg0)).grown hg7 (by omega) (fun k e => by cases e; exact hg0)
        refine ⟨⟨i + 2, swp d x1 x2, by go_num, by omega, ⟨⟨by simp [ssz], sok, hcap, hmax, (fun e => by cases e), fun ad e j u hu => ?_⟩, sp, hB7, fun _ => ⟨g, rest, rfl, hg0, hBk7⟩⟩⟩, by simp [intOf]; omega⟩
        cases e
        rw [Addr.add_lit, Nat.zero_add]
        exact hBk7.cell (by rw [List.getElem?_append_left (List.getElem?_eq_some_iff.1 hu).1]; exact hu)
    · have hlt' : ¬ (i : Int) + 1 < (n2 : Int) := by omega
      have R1 := sroot_all wr x a n c l (hr.below hS.bel) (hT.below hS.bel)
      have R2 := Lib.hid (fun (W : World) (hb : Below wr.heap.size wr W) => sroot_all W x a1 n c1 d.toList (hS.rd.below hb) (hT.below (Bt hS.bel hb)))
      rw [(rootI_perm x hS.perm).1, (rootI_perm x hS.perm).2] at R2
      have RT := Lib.hid (fun (W : World) (h : Below w.heap.size w W) => roots_any W (hT.below h))
      have hbel := hS.bel
      have hdl := rootI_length x l
      have i1 := Lib.hid (dig5 hdl).1
      have j1 := Lib.hid (dig5 hdl).2
      have o1 := bs_one (rootI x l)
      have eI : ∀ W : World, (Op.equalIn 10000 24 (.agg (bs (rootI x l)).toArray) (.agg (bs (rootI x l)).toArray)).run Tryz.prog W = .ok true W := fun W => by rw [eqInD W _ _ hdl hdl]; simp
      generalize rootI x l = D at *
      generalize rootE x l = E at *
      clear hS
      go_wp2_with fail
      refine R1.mono ?_
      rintro e w2 ⟨rfl, hB2⟩
      go_wp2_with (first | ((with_reducible refine wpList_allocB (o := ⟨some 12, _, _, _, _, _⟩) ?_ 24 ?_ zeroD_info ?_); rfl; rfl; intro w3 hrw3 hgw3 hzw3) | ((with_reducible refine wpList_storeB (o := ⟨none, .store 24 (.tmp 12) (.tmp 79), _, _, _, _⟩) ?_ 24 (.tmp 12) (.tmp 79) ?_ ?_ ?_ hrw3 i1.out j1.out o1 ?_); rfl; rfl; rfl; rfl; intro w4 hrw4 hgw4 hzw4))
      have hB4 : Below wr.heap.size wr w4 := below5 (hB2.grown hgw3 hB2.size (fun k e => by cases e)) hgw4 hB2.size
      refine (R2.out w4 hB4).mono ?_
      rintro e w5 ⟨rfl, hB5⟩
      have hk5 := hrw4.below hB5
      have hl5 := hk5.lt
      go_wp2_with (first | ((with_reducible refine wpList_allocB (o := ⟨some 14, _, _, _, _, _⟩) ?_ 24 ?_ zeroD_info ?_); rfl; rfl; intro w6 hrw6 hgw6 hzw6) | ((with_reducible refine wpList_storeB (o := ⟨none, .store 24 (.tmp 14) (.tmp 85), _, _, _, _⟩) ?_ 24 (.tmp 14) (.tmp 85) ?_ ?_ ?_ hrw6 i1.out j1.out o1 ?_); rfl; rfl; rfl; rfl; intro w7 hrw7 hgw7 hzw7))
      have hB05 := Bt hB4 hB5
      have hB7 : Below wr.heap.size wr w7 := below5 (hB05.grown hgw6 hB05.size (fun k e => by cases e)) hgw7 hB05.size
      have hk7 := (hk5.grown hgw6 (by simp)).grown hgw7 (by simp; omega)
      have hBw := Bt hbel hB7
      refine (RT.out w7 hBw).mono ?_
      rintro e w8 ⟨rfl, hB8⟩
      have a8 := (hk7.below hB8).allR
      have b8 := (hrw7.below hB8).allR
      have e8 := eI w8
      go_wp2_with (first | ((with_reducible refine wpList_loadG (o := ⟨some 89, _, _, _, _, _⟩) ?_ w2.heap.size 0 24 (.tmp 12) ?_ ?_ a8 Tryz.underlying24 ?_ i1.out ?_); rfl; rfl; rfl; rfl) | ((with_reducible refine wpList_loadG (o := ⟨some 90, _, _, _, _, _⟩) ?_ w5.heap.size 0 24 (.tmp 14) ?_ ?_ b8 Tryz.underlying24 ?_ i1.out ?_); rfl; rfl; rfl; rfl))
      go_ret
      exact Yes5.mk (Bt hBw hB8)
end
end Go.Proofs.YtielmijahccgkaaGreatDoor
