/-
  The walk of ShaParts.
-/
import Derived.Test.YteanlgakdffibaaDoorLaw02E
import Derived.Test.YteanlgakdffibaaDoorRef02C
import Derived.Test.YteanlgakdffibaaDoorKeepA
import Derived.Test.YteanlgakdffibaaDoorLibT
import Derived.Test.YteanlgakdffibaaDoorLibP
namespace Go.Proofs.YteanlgakdffibaaDoor
open Go.RowKit

/-- two arrays held against each other, behind a guard that says yes -/
theorem wpList_eqP {w : World} {ops : Array Oper} {rest : List Oper} {o : Oper} {a : Act} {Q : Exit → Act → World → Prop} (hw : Region.wanted o (yielded ops a.tmps) = true) (op : BinOp) (t t' : TypeId) (x y : Operand) (ho : o.op = .binOp op t x y t')
    (xs ys : Array Value) (hx : a.eval x = .agg xs) (hy : a.eval y = .agg ys) (hm : Tryd.prog.eqGuardType Tryd.prog.depth t = false) (v : Value) (hrun : ∀ W : World, (binOp op t (.agg xs) (.agg ys)).run Tryd.prog W = .ok v W)
    (h : wpList Tryd.prog ops Q rest (a.put o.dst v) w) : wpList Tryd.prog ops Q (o :: rest) a w :=
  wpList_step fun K hK => by
    rw [if_pos hw]
    have hr : (execOp a.eval o).run Tryd.prog w = .ok (.value v) w := by
      simp [execOp, ho, hx, hy, run_eqGuard_agg w op t x y xs ys hm, hrun]
    unfold Oper.wp
    rw [hr, Oper.upon_value]
    exact hK _ _ h
theorem guardP : Tryd.prog.eqGuardType Tryd.prog.depth 32 = false := by kernel_rfl

/-- what the loop of ShaParts knows of a world: the row of all bytes, the hash -/
structure ParAt (w W : World) (B r : Nat) (v : Value) (p q : List UInt8) : Prop where
  own : Own W B v p
  hash : HashAt W r q
  le : B ≤ W.heap.size
  rlt : r < B
  up : w.heap.size ≤ r
  bel : Below w.heap.size w W
theorem ParAt.below {w W W' : World} {B r : Nat} {v : Value} {p q : List UInt8} (h : ParAt w W B r v p q) (hb : Below W.heap.size W W') : ParAt w W' B r v p q :=
  ⟨h.own.below hb, h.hash.below hb, Nat.le_trans h.le hb.size, h.rlt, h.up, Bt h.bel hb⟩
/-- the hash is written to -/
theorem ParAt.wrote {w W W' : World} {B r : Nat} {v : Value} {p q q' : List UInt8} (h : ParAt w W B r v p q) (hh : HashAt W' r q') (hg : W.grownBy W' (some r)) : ParAt w W' B r v p q' := by
  have h1 := h.rlt
  exact ⟨h.own.kept hg (fun x e e' => by cases e'; have := (h.own.lt e).1; omega), hh, Nat.le_trans h.le hg.size, h.rlt, h.up, below_of_grown h.bel hg h.up⟩
/-- another row of the call's own is written to -/
theorem ParAt.other {w W W' : World} {B r g : Nat} {v : Value} {p q : List UInt8} (h : ParAt w W B r v p q) (hg : W.grownBy W' (some g)) (h1 : ∀ x, v.ownBlock = some x → x ≠ g) (h2 : B ≤ g) : ParAt w W' B r v p q := by
  have h3 := h.rlt
  have h4 := h.up
  exact ⟨h.own.kept hg (fun x e e' => by cases e'; exact h1 _ e rfl), h.hash.grown hg (by simp; omega), Nat.le_trans h.le hg.size, h.rlt, h.up, below_of_grown h.bel hg (by omega)⟩
/-- the row of all bytes grows -/
theorem ParAt.app {w W W' : World} {B r : Nat} {v v' : Value} {p p' q : List UInt8} (h : ParAt w W B r v p q) (hO : Own W' B v' p') (hg : W.grownBy W' v.ownBlock) : ParAt w W' B r v' p' q := by
  have h3 := h.rlt
  have h4 := h.up
  exact ⟨hO, h.hash.grown hg (fun e => by have := (h.own.lt e).1; omega), Nat.le_trans h.le hg.size, h.rlt, h.up, h.bel.grown hg h.bel.size (fun x e => by have := (h.own.lt e).1; omega)⟩

theorem LentAt.blk {W : World} {base g n c : Nat} {l : List UInt8} (h : LentAt W base g n c l) : ∃ cur, Blk W g 5 cur ∧ n ≤ cur.length ∧ base ≤ g := by
  rcases h.2.2 with ⟨hv, _⟩ | ⟨g', cap, cur, hv, hb, hg, hnc, _, hcs, _⟩
  · cases hv
  · simp only [Value.slice.injEq, Option.some.injEq, Addr.mk.injEq, and_true] at hv
    obtain ⟨rfl, h2, rfl⟩ := hv
    have hl := h.1
    refine ⟨cur.toList, ⟨by simpa using hg⟩, ?_, hb⟩
    simp at hcs hnc h2 ⊢
    omega
theorem LentAt.kept {W W' : World} {base g n c : Nat} {l : List UInt8} {row : Option Nat} (h : LentAt W base g n c l) (hg : W.grownBy W' row) (hne : row ≠ some g) : LentAt W' base g n c l :=
  ⟨h.1, h.2.kept hg (fun x e => by simp [Value.ownBlock] at e; subst e; exact hne)⟩

set_option maxRecDepth 100000 in
set_option maxHeartbeats 2000000 in
theorem walkShaParts (w : World) (hT : Tab w 1) (hK : Tab w 0) (pa : Option Addr) (pn pc : Nat) (ps : List (List UInt8)) (hp : RdP w pa pn pc ps) (qa : Option Addr) (qn qc : Nat) (qs : List Bool) (hq : RdB w qa qn qc qs) :
    Calls Tryd.prog 3 #[.slice pa pn pc, .slice qa qn qc] w (Yes2 w) := by
  by_cases hpn : 1000 < pn
  · have h1 : (1000 : Int) < pn := by omega
    go_enter Tryd.func3, Tryd.ntmps3
    go_wp2_with fail
    go_ret
    exact Yes2.mk (Below.refl _ _)
  have h1 : ¬ (1000 : Int) < pn := by omega
  have hTl := hT.lt
  have hcap := hq.cap
  have hmax := hq.max
  go_enter Tryd.func3, Tryd.ntmps3
  go_wp2_with fail
  refine (new_any w).mono ?_
  rintro e w1 ⟨r, rfl, hr1, hh1, hB1⟩
  go_wp2_with fail
  have hP : ParAt w w1 w1.heap.size r (.slice none 0 0) [] [] := ⟨Own.nil0 _ _, hh1, Nat.le_refl _, hh1.lt, hr1, hB1⟩
  generalize w1.heap.size = B at *
  go_loopw [6, 7, 8, 9] (fun all i _ _ wr => ∃ (k : Nat) (q : List UInt8) (ai : Option Addr) (ci : Nat), k ≤ pn ∧ i = .int .i64 k ∧ all = .slice ai q.length ci ∧ q.length ≤ 131072 ∧ ParAt w wr B r (.slice ai q.length ci) q q) (fun _ i _ _ _ => 1000 - (intOf i).toNat)
  case atStart => exact ⟨0, [], none, 0, by omega, rfl, rfl, by decide, hP⟩
  case round =>
    obtain ⟨k, q, ai, ci, hk, rfl, rfl, hql, hP⟩ := hrel
    have hsz := hP.bel.size
    by_cases hlt : k < pn
    · obtain ⟨b, off, aj, nj, cj, rfl, hc, hrj⟩ := hp.at hlt
      have c0 := cell_later hP.bel hc
      generalize ps.getD k [] = l at *
      have hjl := Lib.hid hrj.len
      have hkn : (k : Int) < pn := by omega
      have hw : IntKind.i64.wrap (131072 - (q.length : Int)) = 131072 - q.length := IntWalk.i64_in _ (by omega)
      have HQL := Lib.hid hql
      clear hql
      by_cases hbig : 131072 - q.length < nj
      · have hbig' : 131072 - (q.length : Int) < nj := by have := HQL.out; omega
        go_wp2_with fail
        go_ret
        exact Yes2.mk hP.bel
      · have hbig' : ¬ 131072 - (q.length : Int) < nj := by have := HQL.out; omega
        have hnj : q.length + nj ≤ 131072 := by have := HQL.out; omega
        have HNJ := Lib.hid hnj
        clear hnj hbig
        go_wp2_with fail
        refine (lent_any wr aj nj cj l (hrj.below hP.bel) (by have := HNJ.out; omega)).mono ?_
        rintro e w2 ⟨g, cg, rfl, hL2, hB2⟩
        have hP2 := hP.below hB2
        have hgw : wr.heap.size ≤ g := by obtain ⟨_, _, _, h⟩ := hL2.blk; exact h
        have hBw := hP.le
        have hrB := hP.rlt
        have hup := hP.up
        go_wp2_with fail
        refine (write_any w2 r q l (some ⟨g, 0, none⟩) nj cg hP2.hash hL2.rd (fun _ ad e => by cases e; simp; omega) (hT.below hP2.bel) (by omega) (by have := HNJ.out; omega)).mono ?_
        rintro e w3 ⟨rfl, hh3, hg3⟩
        have hP3 := hP2.wrote hh3 hg3
        have hL3 := hL2.kept hg3 (by simp; omega)
        have c3 := cell_later hP3.bel hc
        go_wp2_with fail
        refine (kept_any w3 wr.heap.size g nj cg aj cj l hL3 (hrj.below hP3.bel) (by have := HNJ.out; omega)).mono ?_
        rintro e w4 ⟨rfl, rfl⟩
        obtain ⟨cur, hcur, hcl, -⟩ := hL3.blk
        go_wp2_with fail
        go_loopw [9] (fun t wx => ∃ (m : Nat) (cur : List Value), m ≤ nj ∧ t = .int .i64 m ∧ nj ≤ cur.length ∧ Blk wx g 5 cur ∧ w3.grownBy wx (some g)) (fun t _ => nj - (intOf t).toNat)
        case atStart => exact ⟨0, cur, by omega, rfl, hcl, hcur, World.grownBy.refl _ _⟩
        case round =>
          obtain ⟨m, cur, hm, rfl, hcl, hcur, hgx⟩ := hrel
          by_cases hmn : m < nj
          · have hmn' : (m : Int) < nj := by omega
            have c5 := hcur.cell (List.getElem?_eq_getElem (show m < cur.length by omega))
            have f5 := hcur.free m
            have hs5 := Lib.hid (show Blk (wr.setCell ⟨g, m, none⟩ (.int .u8 85)) g 5 (cur.set m (.int .u8 85)) ∧ w3.grownBy (wr.setCell ⟨g, m, none⟩ (.int .u8 85)) (some g) from ⟨hcur.set m _, grown2 hgx (set_grown wr g m _) (fun k e => .inr e)⟩)
            go_wp2_with fail
            refine ⟨⟨m + 1, _, by omega, by go_num, by simpa using hcl, hs5.out.1, hs5.out.2⟩, by simp [intOf]; omega⟩
          · obtain rfl : m = nj := by omega
            have hP5 := hP3.other hgx (fun x e => by have := (hP.own.lt e).2; omega) (by omega)
            have c6 := cell_later hP5.bel hc
            have hrd5 := hrj.below hP5.bel
            have hlen : (q ++ l).length = q.length + m := by rw [List.length_append, hjl.out]
            have HLEN := Lib.hid hlen
            clear hlen hcur hcl hgx hP2 hP3 hL2 hL3 c3 hh3 hg3 hB2
            by_cases hkq : k < qn
            case' pos =>
              have hkq' : (k : Int) < qn := by omega
              obtain ⟨b2, off2, rfl, hcq⟩ := hq.at hkq
              generalize qs.getD k false = bv at *
              cases bv
              case' false =>
                go_wp2_with (at_builtin; refine wpList_app (base := B) (v := .slice ai q.length ci) rfl (.tmp 58) (.tmp 62) rfl rfl hP5.own rfl hrd5 (by have := HNJ.out; omega) hP5.le ?_; intro a7 c7 w7 hO7 hg7; have hP7 := hP5.app hO7 hg7; have c8 := cell_later hP7.bel hcq)
              case' true =>
                have hsl2 := sha_length (q ++ l)
                have e2 := Lib.hid (show ∀ W : World, (binOp .neq 32 (.agg (bs (sha (q ++ l))).toArray) (.agg (bs (sha (q ++ l))).toArray)).run Tryd.prog W = .ok (.bool false) W from fun W => by rw [neqD W _ _ hsl2 hsl2]; simp)
                go_wp2_with (at_builtin; refine wpList_app (base := B) (v := .slice ai q.length ci) rfl (.tmp 58) (.tmp 62) rfl rfl hP5.own rfl hrd5 (by have := HNJ.out; omega) hP5.le ?_; intro a7 c7 w7 hO7 hg7; have hP7 := hP5.app hO7 hg7; have c8 := cell_later hP7.bel hcq)
                refine (hsum_any w7 r (q ++ l) hP7.hash (hT.below hP7.bel) (by have := HNJ.out; have := HLEN.out; omega)).mono ?_
                rintro e w8 ⟨rfl, hB8⟩
                replace hP7 := hP7.below hB8
                have hrd8 := hP7.own.rd
                go_wp2_with fail
                refine (sum_any w8 a7 _ c7 (q ++ l) hrd8 (hT.below hP7.bel) (by have := HNJ.out; omega)).mono ?_
                rintro e w9 ⟨rfl, hB9⟩
                replace hP7 := hP7.below hB9
                clear hrd8
                go_wp2_with ((with_reducible refine wpList_eqP (o := ⟨some 79, _, _, _, _, _⟩) ?_ .neq 32 32 (.tmp 76) (.tmp 78) ?_ (bs (sha (q ++ l))).toArray (bs (sha (q ++ l))).toArray ?_ ?_ guardP _ e2.out ?_); rfl; rfl; rfl; rfl)
            case' neg =>
              have hkq' : ¬ (k : Int) < qn := by omega
              go_wp2_with (at_builtin; refine wpList_app (base := B) (v := .slice ai q.length ci) rfl (.tmp 58) (.tmp 62) rfl rfl hP5.own rfl hrd5 (by have := HNJ.out; omega) hP5.le ?_; intro a7 c7 w7 hO7 hg7; have hP7 := hP5.app hO7 hg7)
            all_goals
              refine (len_any _ r (q ++ l) hP7.hash).mono ?_
              rintro e wz ⟨rfl, rfl⟩
              rw [HLEN.out]
              go_wp2_with fail
              refine ⟨⟨k + 1, q ++ l, a7, c7, by omega, by go_num, by rw [HLEN.out], by have := HNJ.out; have := HLEN.out; omega, by rw [HLEN.out]; exact hP7⟩, by simp [intOf]; omega⟩
    · obtain rfl : k = pn := by omega
      have hsl2 := sha_length q
      have e1 := Lib.hid (show ∀ W : World, (binOp .eql 32 (.agg (bs (sha q)).toArray) (.agg (bs (sha q)).toArray)).run Tryd.prog W = .ok (.bool true) W from fun W => by rw [eqD W _ _ hsl2 hsl2]; simp)
      have HQL := Lib.hid hql
      clear hql hlt hk hp hq hcap hmax
      go_wp2_with fail
      refine (sums_any wr (hT.below hP.bel)).mono ?_
      rintro e w2 ⟨rfl, hB2⟩
      have hP2 := hP.below hB2
      go_wp2_with fail
      refine (writes_any w2 (hT.below hP2.bel)).mono ?_
      rintro e w3 ⟨rfl, hB3⟩
      have hP3 := hP2.below hB3
      go_wp2_with fail
      refine (hsum_any w3 r q hP3.hash (hT.below hP3.bel) (by have := HQL.out; omega)).mono ?_
      rintro e w4 ⟨rfl, hB4⟩
      have hP4 := hP3.below hB4
      have hr4 := hP4.own.rd
      go_wp2_with fail
      refine (sum_any w4 ai _ ci q hr4 (hT.below hP4.bel) (by have := HQL.out; omega)).mono ?_
      rintro e w5 ⟨rfl, hB5⟩
      have hP5 := hP4.below hB5
      clear hr4
      go_wp2_with ((with_reducible refine wpList_eqP (o := ⟨some 95, _, _, _, _, _⟩) ?_ .eql 32 32 (.tmp 92) (.tmp 94) ?_ (bs (sha q)).toArray (bs (sha q)).toArray ?_ ?_ guardP _ e1.out ?_); rfl; rfl; rfl; rfl)
      refine (hsum_any w5 r q hP5.hash (hT.below hP5.bel) (by have := HQL.out; omega)).mono ?_
      rintro e w6 ⟨rfl, hB6⟩
      have hP6 := hP5.below hB6
      have hr6 := hP6.own.rd
      go_wp2_with fail
      refine (sum_ref w6 ai _ ci q hr6 (hK.below hP6.bel) (by have := HQL.out; omega)).mono ?_
      rintro e w7 ⟨rfl, hB7⟩
      have hP7 := hP6.below hB7
      clear hr6
      go_wp2_with ((with_reducible refine wpList_eqP (o := ⟨some 102, _, _, _, _, _⟩) ?_ .eql 32 32 (.tmp 99) (.tmp 101) ?_ (bs (sha q)).toArray (bs (sha q)).toArray ?_ ?_ guardP _ e1.out ?_); rfl; rfl; rfl; rfl)
      go_ret
      exact Yes2.mk hP7.bel
end Go.Proofs.YteanlgakdffibaaDoor
