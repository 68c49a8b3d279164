/-
  The walks of package proof: followed; of the library: Grow on a row of the call's own.
-/
import Derived.Test.YtmfnpjfhijmboaaPrf0
namespace Go.Proofs.Ytmfnpjfhijmboaa
open Go.RowKit

/-- append(s, make([]byte, m)...) onto a row that is full -/
theorem wpList_zerosU {w : World} {ops : Array Oper} {rest : List Oper} {o : Oper} {a : Act} {Q : Exit → Act → World → Prop} (hgd : o.guard = none) (s x : Operand)
    (ho : o.op = Op.call { callee := Callee.builtin Builtin.append, args := #[s, x], argTypes := #[28, 3] })
    {g cap m : Nat} {cur : Array Value} (hs : a.eval s = .slice (some ⟨g, 0, none⟩) cap cap) (hg : w.heap[g]? = some (.cells cur 5 (0, 0))) (hcur : cur.size = cap) (hx : a.eval x = .int .i64 (m : Int)) (hm : 0 < m) (hsz : cap + m ≤ 100000000)
    (h : ∀ C w', cap + m ≤ C → (∀ q : List UInt8, q.length ≤ cap → cur.toList.take q.length = bs q → Own w' w.heap.size (.slice (some ⟨w.heap.size, 0, none⟩) q.length C) q) → Below w.heap.size w w' →
      wpList Try.prog ops Q rest (a.put o.dst (.slice (some ⟨w.heap.size, 0, none⟩) (cap + m) C)) w') :
    wpList Try.prog ops Q (o :: rest) a w := by
  obtain ⟨i, hi, hz0, hz1, hz2⟩ := info_parts info5
  have hold : (Builtin.firstCells i.size cap (.slice (some ⟨g, 0, none⟩) cap cap)).run Try.prog w.drew = .ok cur.toList.toArray w.drew :=
    run_firstCells_some w.drew i.size cap ⟨g, 0, none⟩ cap cap cur.toList (by rw [hz1]; simpa using hcur) (fun j v hj => by
      rw [Addr.add_lit, Nat.zero_add]
      have hB : Blk w g 5 cur.toList := ⟨by simpa using hg⟩
      exact (hB.drew).cell hj)
  have hrun := Lib.run_append_grow_zeros (P := Try.prog) w 28 3 o.type 5 i (.int .u8 0) .i64 .i64 Try.underlying28 Try.underlying3 hi hz0 (some ⟨g, 0, none⟩) cap cap cur.toList hold m hm (by rw [hz1]; decide) (by omega) (by omega) (by rw [hz2]; omega)
    (by rw [hz2]; exact growslice_fits (by omega) (by omega))
  have hG1 := grownCap_ge w (cap + m) cap 5
  have hG2 := grownCap_le_maxLen w (cap + m) cap 5 (by unfold maxLen; omega)
  have hW : ∀ q : List UInt8, q.length ≤ cap → cur.toList.take q.length = bs q → Own (w.drew.alloc (.cells (cur.toList.toArray ++ Builtin.zeroCells (Value.int .u8 0).cells m ++ Builtin.zeroCells (Value.int .u8 0).cells (grownCap w (cap + m) cap 5 - (cap + m))) 5)) w.heap.size (.slice (some ⟨w.heap.size, 0, none⟩) q.length (grownCap w (cap + m) cap 5)) q := fun q hq ht => by
    refine ⟨by simp [bs_length], .inr ⟨w.heap.size, grownCap w (cap + m) cap 5, _, rfl, Nat.le_refl _, World.alloc_heap_new w.drew _, by omega, hG2, ?_, ?_⟩⟩
    · simp [Builtin.zeroCells, hcur, Value.cells]
      omega
    · simp only [Array.toList_append, Nat.mul_one, List.append_assoc]
      rw [List.take_append_of_le_length (by simp; omega)]
      exact ht
  have h' := h (grownCap w (cap + m) cap 5) _ hG1 hW ((Below.refl _ w).drew.alloc (Nat.le_refl _) _)
  clear hW
  generalize w.drew.alloc _ = W1 at hrun h'
  refine wpList_plain hgd fun K hK' => ?_
  unfold Oper.wp
  simp [execOp, ho, resolve, invoke, builtin, hs, hx, hrun, Result.andThen]
  exact hK' _ _ h'

set_option maxRecDepth 100000 in
theorem sgrow_own (w : World) (base : Nat) (a : Option Addr) (m c n : Nat) (q : List UInt8) (hO : Own w base (.slice a m c) q) (hm : q.length = m) (hq : 0 < m) (hb : base ≤ w.heap.size) (hsz : m + n ≤ 1000000) :
    Calls Try.prog 22 #[.slice a m c, .int .i64 (n : Int)] w fun e w' => ∃ a' c', e = .returned (.slice a' m c') ∧ Own w' base (.slice a' m c') q ∧ Below w.heap.size w w' ∧ ((Value.slice a' m c').ownBlock = (Value.slice a m c).ownBlock ∨ (Value.slice a' m c').ownBlock = some w.heap.size) := by
  obtain ⟨g, rfl, hg, cur, hcur, hmc, hcm, hcs, htk⟩ : ∃ g, a = some ⟨g, 0, none⟩ ∧ base ≤ g ∧ ∃ cur : Array Value, w.heap[g]? = some (.cells cur 5 (0, 0)) ∧ m ≤ c ∧ c ≤ maxLen ∧ cur.size = c ∧ cur.toList.take m = bs q := by
    rcases hO.2 with ⟨hv, h2⟩ | ⟨g, cap, cur, hv, hg, hh, h1, h2, h3, h4⟩
    · omega
    · cases hv
      exact ⟨g, rfl, hg, cur, hh, h1, h2, by omega, by rw [Nat.mul_one, hm] at h4; exact h4⟩
  have h1 : ¬ ((n : Int) < 0) := by omega
  have hc : c ≤ 9223372036854775807 := by unfold maxLen at hcm; omega
  have hmc' : (m : Int) ≤ (c : Int) := by omega
  have HM := Lib.hid hm
  have HO := Lib.hid hO
  clear hm hO
  by_cases h2 : c - m < n
  · obtain ⟨k, hk⟩ : ∃ k, k = n - (c - m) := ⟨_, rfl⟩
    have e1 : IntKind.i64.wrap ((c : Int) - (m : Int)) = (c : Int) - (m : Int) := IntWalk.i64_in _ (by omega)
    have e2 : IntKind.i64.wrap ((n : Int) - ((c : Int) - (m : Int))) = (k : Int) := by rw [show (n : Int) - ((c : Int) - (m : Int)) = (k : Int) by omega]; exact IntWalk.i64_in _ (by omega)
    have e3 : (n : Int) - ((c : Int) - (m : Int)) = (k : Int) := by omega
    have h3 : (0 : Int) < (k : Int) := by omega
    have hks : c + k ≤ 100000000 := by omega
    have hk0 : 0 < k := by omega
    have hck : m ≤ c + k := by omega
    clear h2 hk
    have HCUR := Lib.hid hcur
    have HTK := Lib.hid htk
    have HCS := Lib.hid hcs
    clear hcur htk hcs
    go_enter Try.func22, Try.ntmps22
    go_wp2_with ((with_reducible refine wpList_zerosU (o := ⟨some 22, _, _, _, _, _⟩) ?_ (.tmp 20) (.tmp 21) ?_ ?_ HCUR.out HCS.out ?_ hk0 hks ?_); rfl; rfl; rfl; rfl; intro C w1 hC hOw hB1; have hmC : (m : Int) ≤ (C : Int) := by omega)
    go_ret
    have hO' := hOw q (by rw [HM.out]; omega) (by rw [HM.out]; exact HTK.out)
    rw [HM.out] at hO'
    exact ⟨_, _, rfl, Own.lower hO' hb, hB1, .inr rfl⟩
  · have e1 : IntKind.i64.wrap ((c : Int) - (m : Int)) = (c : Int) - (m : Int) := IntWalk.i64_in _ (by omega)
    have h3 : ¬ (0 : Int) < (n : Int) - ((c : Int) - (m : Int)) := by omega
    clear h2 hcur htk hcs
    go_enter Try.func22, Try.ntmps22
    go_wp2_with fail
    go_ret
    exact ⟨_, _, rfl, HO.out, Below.refl _ _, .inl rfl⟩


theorem fol_take (ps : List (List UInt8)) (k : Nat) (h : k < ps.length) : (ps.take (k + 1)).flatten = (ps.take k).flatten ++ ps.getD k [] := by
  have e : ps.getD k [] = ps[k] := by simp [List.getD, h]
  rw [e, List.take_succ_eq_append_getElem h, List.flatten_append]
  simp only [List.flatten_cons, List.flatten_nil, List.append_nil]
theorem range_below {w w' : World} {b o : Nat} {cs : List Value} (hb : Below w.heap.size w w') (h : w.rangeAt b o cs) : w'.rangeAt b o cs := fun j v hv => cell_later hb (h j v hv)
theorem range_kept {w w' : World} {b o : Nat} {cs : List Value} {row : Option Nat} (h : w.rangeAt b o cs) (hg : w.grownBy w' row) (hne : row ≠ some b) : w'.rangeAt b o cs :=
  fun j v hv => hg.cell (h j v hv) (by simpa using fun e => hne e.symm)

/-- what followed knows in its rounds -/
structure Fol (w wr : World) (base b off n : Nat) (l : List (List UInt8)) (q : List UInt8) (k : Nat) (v : Value) (q' : List UInt8) : Prop where
  own : Own wr base v q'
  eq : q' = q ++ (l.take k).flatten
  rng : ∀ i, i < n → wr.rangeAt b (off + i * 32) (bs (l.getD i []))
  apart : v.ownBlock ≠ some b
  lt : b < wr.heap.size
  bel : Below base w wr
theorem Fol.step {w wr w2 w3 : World} {base b off n : Nat} {l : List (List UInt8)} {q : List UInt8} {k : Nat} {v v3 : Value} {q' : List UInt8} (h : Fol w wr base b off n l q k v q') (hbase : base ≤ w.heap.size) (hk : k < l.length)
    (hB : Below wr.heap.size wr w2) (hO : Own w3 base v3 (q' ++ l.getD k [])) (hg : w2.grownBy w3 v.ownBlock) (hx : v3.ownBlock = v.ownBlock ∨ v3.ownBlock = some w2.heap.size) : Fol w w3 base b off n l q (k + 1) v3 (q' ++ l.getD k []) := by
  have h1 := h.bel.size
  have h2 := hB.size
  have h3 := hg.size
  have h4 := h.lt
  refine ⟨hO, ?_, fun i hi => range_kept (range_below hB (h.rng i hi)) hg h.apart, ?_, by omega, (h.bel.trans (hB.mono (by omega))).grown hg (by omega) (fun x e => (h.own.lt e).1)⟩
  · rw [fol_take l k hk, h.eq, List.append_assoc]
  · rcases hx with hx | hx
    · rw [hx]; exact h.apart
    · rw [hx]
      simp only [ne_eq, Option.some.injEq]
      omega

set_option maxRecDepth 100000 in
set_option maxHeartbeats 1000000 in
theorem followed_any (w : World) (base : Nat) (a : Option Addr) (m c : Nat) (q : List UInt8) (hO : Own w base (.slice a m c) q) (hm : q.length = m) (hq : 0 < m) (hb : base ≤ w.heap.size)
    (ad : Option Addr) (n cd : Nat) (l : List (List UInt8)) (hr : RdD w ad n cd l) (hne : 0 < n → ∀ x, ad = some x → (Value.slice a m c).ownBlock ≠ some x.block) (hsz : m + n * 32 ≤ 1000000) :
    Calls Try.prog 13 #[.slice a m c, .slice ad n cd] w fun e w' => ∃ a' c', e = .returned (.slice a' (m + n * 32) c') ∧ Own w' base (.slice a' (m + n * 32) c') (q ++ l.flatten) ∧ Below base w w' := by
  have hlen := Lib.hid hr.len
  by_cases h0 : n = 0
  · subst h0
    have hl : l = [] := List.eq_nil_of_length_eq_zero hlen.out
    have HL := Lib.hid hl
    clear hl
    go_enter Try.func13, Try.ntmps13
    go_wp2_with fail
    refine (sgrow_own w base a m c 0 q hO hm hq hb (by omega)).mono ?_
    rintro e w1 ⟨a1, c1, rfl, hO1, hB1, -⟩
    have hB2 : Below base w w1 := hB1.mono hb
    go_wp2_with fail
    go_loopw [0, 14] (fun v i wr => i = .int .i64 0 ∧ v = .slice a1 m c1 ∧ wr = w1) (fun _ i _ => 0)
    case atStart => exact ⟨rfl, rfl, rfl⟩
    case round =>
      obtain ⟨rfl, rfl, rfl⟩ := hrel
      go_wp2_with fail
      go_ret
      exact ⟨a1, c1, rfl, by rw [HL.out]; simpa using hO1, hB2⟩
  · obtain ⟨b, off, rfl, hlt, hel⟩ := hr.elems (by omega)
    have hne' := hne (by omega) _ rfl
    have hok := hr.ok
    have hoff := hr.max
    clear hne h0
    have HEL := Lib.hid hel
    clear hel
    go_enter Try.func13, Try.ntmps13
    go_wp2_with fail
    rw [show (n : Int) * 32 = ((n * 32 : Nat) : Int) by omega]
    refine (sgrow_own w base a m c (n * 32) q hO hm hq hb (by omega)).mono ?_
    rintro e w1 ⟨a1, c1, rfl, hO1, hB1, hx1⟩
    have hF1 : Fol w w1 base b off n l q 0 (.slice a1 m c1) q := ⟨hO1, by simp, fun i hi => range_below hB1 (HEL.out i hi), by
      rcases hx1 with hx | hx
      · rw [hx]; exact hne'
      · rw [hx]; simp only [ne_eq, Option.some.injEq]; omega, Nat.lt_of_lt_of_le hlt hB1.size, hB1.mono hb⟩
    have HQ := Lib.hid hm
    clear hO1 hB1 hx1 hne' hm
    go_wp2_with fail
    go_loopw [0, 14] (fun v i wr => ∃ (k m' : Nat) (a' : Option Addr) (c' : Nat) (q' : List UInt8), k ≤ n ∧ i = .int .i64 (k : Int) ∧ v = .slice a' m' c' ∧ Hid (q'.length = m' ∧ m' = m + k * 32) ∧ Fol w wr base b off n l q k (.slice a' m' c') q') (fun _ i _ => n - (intOf i).toNat)
    case atStart => exact ⟨0, m, a1, c1, q, by omega, rfl, rfl, Lib.hid ⟨HQ.out, by omega⟩, hF1⟩
    case round =>
      obtain ⟨k, m', a', c', q', hk, rfl, rfl, HM, hF⟩ := hrel
      by_cases hlt : k < n
      · have hd := hok.at (show k < l.length by rw [hlen.out]; exact hlt)
        have hrg := hF.rng k hlt
        have hkl : (k : Int) < (n : Int) := by omega
        have H5 := Lib.hid (show (Try.prog.info? 24).map (·.size) = some (bs (l.getD k [])).length from digP hd)
        have H6 := Lib.hid (show (bs zero32).length = (bs (l.getD k [])).length by rw [bs_length, bs_length, zero32_length, hd])
        have H7 := bs_one (l.getD k [])
        have hFS := Lib.hid (fun (w2 w3 : World) (v3 : Value) => hF.step (w2 := w2) (w3 := w3) (v3 := v3) hb (show k < l.length by rw [hlen.out]; exact hlt))
        have hO := hF.own
        have hq' : q'.length ≤ 1000000 := by have := HM.out; omega
        have hm' : q'.length + 32 ≤ 1000064 := by omega
        have hbs := hF.bel.size
        have hdl : Hid ((l.getD k []).length = 32) := Lib.hid hd
        clear hd
        have HQL : Hid (q'.length = m') := Lib.hid HM.out.1
        generalize l.getD k [] = d at *
        go_wp2_with (first | ((with_reducible refine wpList_loadP (o := ⟨some 17, _, _, _, _, _⟩) ?_ b (off + k * 32) 24 (.tmp 16) ?_ ?_ hrg Try.underlying24 ?_ H5.out ?_); rfl; rfl; rfl; rfl) | ((with_reducible refine wpList_allocB (o := ⟨some 6, _, _, _, _, _⟩) ?_ 24 ?_ zeroD_info ?_); rfl; rfl; intro w1 hr1 hg1 hz1) | ((with_reducible refine wpList_storeB (o := ⟨none, .store 24 (.tmp 6) (.tmp 17), _, _, _, _⟩) ?_ 24 (.tmp 6) (.tmp 17) ?_ ?_ ?_ hr1 H5.out H6.out H7 ?_); rfl; rfl; rfl; rfl; intro w2 hr2 hg2 hz2; have hB2 : Below wr.heap.size wr w2 := ((Below.refl _ wr).grown hg1 (Nat.le_refl _) (fun k e => by cases e)).grown hg2 (by omega) (fun k e => by cases e; omega); have hR2 : Rd w2 (some ⟨wr.heap.size, 0, none⟩) 32 32 d := Rd.block hr2.at_ hdl.out (by decide); have hO2 := hO.below hB2; have hbs2 : base ≤ w2.heap.size := by omega) | ((with_reducible refine wpList_app2 (o := ⟨some 20, _, _, _, _, _⟩) ?_ (.tmp 18) (.tmp 19) ?_ ?_ hO2 ?_ hR2 ?_ hbs2 ?_); rfl; rfl; rfl; rfl; omega; intro a3 c3 w3 hO3 hg3 hx3; rw [HQL.out] at hO3 hx3))
        go_roundw
        case rel =>
          have hst := hFS.out w2 w3 _ hB2 hO3 hg3 hx3
          exact ⟨k + 1, m' + 32, a3, c3, q' ++ d, by omega, by go_num, by rw [HQL.out], Lib.hid ⟨by rw [List.length_append, HQL.out, hdl.out], by have := HM.out; omega⟩, hst⟩
        case measure => simp [intOf]; omega
      · obtain rfl : k = n := by omega
        have hkl : ¬ (k : Int) < (k : Int) := by omega
        obtain ⟨h1, h2⟩ := HM.out
        have hO := hF.own
        have hE := hF.eq
        rw [List.take_of_length_le (by rw [hlen.out]; omega)] at hE
        have HE := Lib.hid hE
        clear hE h1
        subst h2
        have hbel := hF.bel
        go_wp2_with fail
        go_ret
        exact ⟨a', c', rfl, by rw [← HE.out]; exact hO, hbel⟩
end Go.Proofs.Ytmfnpjfhijmboaa
