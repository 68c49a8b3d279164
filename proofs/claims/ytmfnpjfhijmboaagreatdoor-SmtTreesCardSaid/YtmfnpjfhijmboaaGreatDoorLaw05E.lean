/-
  Law05C Con05W Law05E, in one text.
-/
import Derived.Test.YtmfnpjfhijmboaaGreatDoorLaw05D
import Derived.Test.YtmfnpjfhijmboaaGreatDoorRef05G
import Derived.Test.YtmfnpjfhijmboaaGreatDoorCon05F
import Derived.Test.YtmfnpjfhijmboaaGreatDoorCon05
import Derived.Test.YtmfnpjfhijmboaaGreatDoorLibG
namespace Go.Proofs.YtmfnpjfhijmboaaGreatDoor
/-! Law05C Law05E, in one text. -/
section
/-! The walk of SmtRoots. -/
section
open Go.RowKit
/-- Root of whatever leaves -/
theorem sroot_all (w : World) (x : Int) (a : Option Addr) (n c : Nat) (l : List Lf) (hr : RdL w a n c l) (hT : Tab w 1) :
    Calls Tryz.prog 26 #[.int .i64 x, .slice a n c] w fun e w' => e = .returned (.tuple #[.agg (bs (rootI x l)).toArray, .int .i64 (rootE x l)]) ∧ Below w.heap.size w w' :=
  sroot_any w x a n c l hr hT (fun h => sorts_all n (by omega))

/-- a whole array out of a variable, behind a guard that says yes -/
theorem wpList_loadF {w : World} {ops : Array Oper} {rest : List Oper} {o : Oper} {a : Act} {Q : Exit → Act → World → Prop} (hw : Region.wanted o (yielded ops a.tmps) = true) (ty : TypeId) (x : Operand) (ho : o.op = .load ty x)
    {g : Nat} (hx : a.eval x = .pointer (some ⟨g, 0, none⟩)) {t : TypeId} {vs : List Value} {d : TypeDesc} (hg : Blk w g t vs) (hu : Tryz.prog.underlying ty = some d) (hd : d.isRow = true)
    (hi : (Tryz.prog.info? ty).map (·.size) = some vs.length)
    (h : wpList Tryz.prog ops Q rest (a.put o.dst (.agg vs.toArray)) w) : wpList Tryz.prog ops Q (o :: rest) a w :=
  wpList_step fun K hK => by
    rw [if_pos hw]
    exact wp_load_mid ty x ho g 0 hx vs d (hg.range 0 (fun j hj => by simp)) hu hd hi (hK _ _ h)
/-- two arrays held against each other, behind a guard that says yes -/
theorem wpList_eqF {w : World} {ops : Array Oper} {rest : List Oper} {o : Oper} {a : Act} {Q : Exit → Act → World → Prop} (hw : Region.wanted o (yielded ops a.tmps) = true) (op : BinOp) (t t' : TypeId) (x y : Operand) (ho : o.op = .binOp op t x y t')
    (xs ys : Array Value) (hx : a.eval x = .agg xs) (hy : a.eval y = .agg ys) (hm : Tryz.prog.eqGuardType Tryz.prog.depth t = false) (v : Value) (hrun : ∀ W : World, (binOp op t (.agg xs) (.agg ys)).run Tryz.prog W = .ok v W)
    (h : wpList Tryz.prog ops Q rest (a.put o.dst v) w) : wpList Tryz.prog ops Q (o :: rest) a w :=
  wpList_step fun K hK => by
    rw [if_pos hw]
    have hr : (execOp a.eval o).run Tryz.prog w = .ok (.value v) w := by
      simp [execOp, ho, hx, hy, run_eqGuard_agg w op t x y xs ys hm, hrun]
    unfold Oper.wp
    rw [hr, Oper.upon_value]
    exact hK _ _ h

set_option maxRecDepth 100000 in
theorem same_law (w : World) (a : Option Addr) (n c : Nat) (l : List Lf) (hr : RdL w a n c l) (hn : n ≤ 100000) (a2 : Option Addr) (n2 c2 : Nat) (m : List Lf) (hr2 : RdL w a2 n2 c2 m) :
    Calls Tryz.prog 15 #[.slice a n c, .slice a2 n2 c2] w fun e w' => e = .returned (.bool (sameLL l m)) ∧ Below w.heap.size w w' := by
  go_enter Tryz.func15, Tryz.ntmps15
  go_wp2_with fail
  refine (same_ref w a n c l hr hn a2 n2 c2 m hr2).mono ?_
  rintro e w1 ⟨rfl, hB1⟩
  go_wp2_with fail
  go_ret
  exact ⟨rfl, hB1⟩

/-- the error alone, of many leaves -/
theorem rootE_not {x : Int} (h : ¬ (0 ≤ x ∧ x ≤ 32)) (l : List Lf) : rootE x l = 1 := by simp only [rootE, if_neg h]
theorem rootE_long {x : Int} (h : 0 ≤ x ∧ x ≤ 32) {l : List Lf} (hl : 4096 < l.length) : rootE x l = 2 := by simp only [rootE, if_pos h, if_neg (by omega : ¬ l.length ≤ 4096)]
theorem rootE_fits {x : Int} (h : 0 ≤ x ∧ x ≤ 32) {l : List Lf} (hl : l.length ≤ 4096) : rootE x l = if twiceB l then 30 else 0 := by simp only [rootE, if_pos h, if_pos hl]

end
/-! SmtOrder: leaves in another order. -/
section
open Go.RowKit Go.Sort

theorem RdI.ints {w : World} {a : Option Addr} {n c : Nat} {zs : List Int} (h : RdI w a n c zs) (hn : 0 < n) : ∃ b off, a = some ⟨b, off, none⟩ ∧ ∀ i, i < n → w.cell? ⟨b, off + i, none⟩ = some (.int .i64 (zs.getD i 0)) := by
  cases a with
  | none => have := h.nil rfl; omega
  | some ad =>
    have hl := h.len
    obtain ⟨b, off, sp⟩ := ad
    have h0 := h.cell _ rfl 0 (by omega)
    obtain rfl : sp = none := by simpa [Addr.add] using World.cell?_spot h0
    refine ⟨b, off, rfl, fun i hi => ?_⟩
    have := h.cell _ rfl i (by omega)
    rw [Addr.add_lit] at this
    rw [this]
    simp [List.getD, show i < zs.length by omega]
theorem swap_splice {d : Array Lf} (hok : oks d.toList) {n i j : Nat} (hn : d.size = n) (hi : i < n) (hj : j < n) (rest : List Value) :
    splice (splice (lcs d.toList ++ rest) (i * 64) (lc d[j]!)) (j * 64) (lc d[i]!) = lcs (swp d i j).toList ++ rest := by
  have g : ∀ q, q < n → d[q]!.ok := fun q hq => by rw [getElem!_pos d q (by omega)]; exact hok _ (by simp)
  have hl : (lcs d.toList).length = n * 64 := by rw [lcs_length hok, Array.length_toList, hn]
  have hL : (lcs d.toList ++ rest).length = n * 64 + rest.length := by rw [List.length_append, hl]
  have hxi := lc_length (g i hi)
  have hxj := lc_length (g j hj)
  have hi64 : i * 64 + 64 ≤ n * 64 := by omega
  have hj64 : j * 64 + 64 ≤ n * 64 := by omega
  have hok2 := swp_oks hok (i := i) (j := j) (by omega) (by omega)
  have hsz : (swp d i j).size = n := by rw [size_swp, hn]
  have hs1 : (splice (lcs d.toList ++ rest) (i * 64) (lc d[j]!)).length = n * 64 + rest.length := by
    unfold splice
    simp only [List.length_append, List.length_take, List.length_drop, hxj, hl]
    omega
  refine List.ext_getElem? fun t => ?_
  have hl2 : (lcs (swp d i j).toList).length = n * 64 := by rw [lcs_length hok2, Array.length_toList, hsz]
  rw [splice_get _ _ _ (by rw [hxi, hs1]; omega), splice_get _ _ _ (by rw [hxj, hL]; omega), hxi, hxj]
  by_cases ht : t < n * 64
  · rw [List.getElem?_append_left (by omega : t < (lcs (swp d i j).toList).length), List.getElem?_append_left (by omega : t < (lcs d.toList).length)]
    have hq : t / 64 < n := by omega
    have hr : t % 64 < 64 := Nat.mod_lt _ (by decide)
    have et : t = t / 64 * 64 + t % 64 := by omega
    have a1 := lcs_at hok2 (t / 64) (t % 64) (by simp [size_swp, hn, hq]) hr
    have a2 := lcs_at hok (t / 64) (t % 64) (by simp [hn, hq]) hr
    rw [← et, get_list] at a1 a2
    rw [a1, a2, swp_get d (by omega) (by omega)]
    by_cases h1 : t / 64 = j
    · rw [if_pos (by omega), if_pos h1, show t - j * 64 = t % 64 by omega]
    · rw [if_neg (by omega), if_neg h1]
      by_cases h2 : t / 64 = i
      · rw [if_pos (by omega), if_pos h2, show t - i * 64 = t % 64 by omega]
      · rw [if_neg (by omega), if_neg h2]
  · rw [if_neg (by omega), if_neg (by omega), List.getElem?_append_right (by omega), List.getElem?_append_right (by omega), hl, hl2]

/-- the own row, in whatever order -/
structure Oth (w W : World) (a1 : Option Addr) (n c1 : Nat) (l : List Lf) (d : Array Lf) : Prop where
  rd : RdL W a1 n c1 d.toList
  perm : d.toList.Perm l
  bel : Below w.heap.size w W
  blk : 0 < n → ∃ g rest, a1 = some ⟨g, 0, none⟩ ∧ w.heap.size ≤ g ∧ Blk W g 50 (lcs d.toList ++ rest)
theorem swp_perm {d : Array Lf} {i j : Nat} (hi : i < d.size) (hj : j < d.size) : (swp d i j).toList.Perm d.toList := by
  have h := (swp_permIn d 0 d.size i j (Nat.zero_le _) hi (Nat.zero_le _) hj (Nat.le_refl _)).2.2
  have e1 : (swp d i j).extract 0 d.size = swp d i j := by rw [← size_swp d i j]; simp
  have e2 : d.extract 0 d.size = d := by simp
  rwa [e1, e2] at h

end
end
/-! list: the leaves below a node, appended to a row of one's own. -/
section
open Go.RowKit
theorem below_drew0 {w W : World} {B : Nat} (h : Below B w W) : Below B w W.drew := ⟨h.os, h.tape, h.output, h.size, h.block⟩

set_option maxRecDepth 100000 in
set_option maxHeartbeats 2000000 in
theorem list_any (base x : Nat) (G : Tag) (w0 : World) (hI : Inv base x G noL w0) : ∀ (t : T) (n p : Nat) (W : World) (a : Option Addr) (m c : Nat) (q : List Lf), G p = some t → t.wf n → Below w0.heap.size w0 W → OwnL W w0.heap.size (.slice a m c) q → q.length + t.lvs.length ≤ 100000 →
    Calls Tryz.prog 46 #[.pointer (some ⟨p, 0, none⟩), .slice a m c] W fun e w' => ∃ a' c', e = .returned (.slice a' (m + t.lvs.length) c') ∧ OwnL w' w0.heap.size (.slice a' (m + t.lvs.length) c') (q ++ t.lvs) ∧ Below w0.heap.size w0 w' := by
  intro t
  induction t with
  | none =>
    intro n p W a m c q hp ht hB hO hsz
    obtain ⟨dn, sum, lf, le, ri, hN⟩ := hI.nd hp
    have c2 : W.cell? ⟨p, 36, none⟩ = some (.int .i64 0) := cell_later hB hN.size
    go_enter Tryz.func46, Tryz.ntmps46
    go_wp2_with fail
    go_ret
    exact ⟨a, c, by simp [T.lvs], by simpa [T.lvs] using hO, hB⟩
  | one y =>
    intro n p W a m c q hp ht hB hO hsz
    obtain ⟨dn, sum, lf, le, ri, hN⟩ := hI.nd hp
    have c2 : W.cell? ⟨p, 36, none⟩ = some (.int .i64 1) := cell_later hB hN.size
    have hk := hN.kids
    obtain ⟨ql, rfl, hql, hqb⟩ := hk
    have c3 := cell_later hB hN.leaf
    have hyo : y.ok := ht
    have HY := Lib.hid (show (Tryz.prog.info? 50).map (·.size) = some (lc y).length by rw [lc_length hyo]; exact infoLeafS)
    have hqW := hqb.below hB
    have rl := hqW.allR
    have hm : m = q.length := by
      obtain ⟨a', c', e⟩ := hO.shape
      cases e; rfl
    subst hm
    have hr1 := RdL.one W hyo
    have hO1 := hO.below ((Below.refl _ W).alloc (Nat.le_refl _) (.cells (lc y).toArray 50))
    have hB1 := hB.alloc hB.size (.cells (lc y).toArray 50)
    have hlow := fun z (e : (Value.slice a q.length c).ownBlock = some z) => (hO.lt e).1
    go_enter Tryz.func46, Tryz.ntmps46
    go_wp2_with (first | ((with_reducible refine wpList_loadM (o := ⟨some 20, _, _, _, _, _⟩) ?_ ql 0 50 (.tmp 19) ?_ ?_ rl Tryz.underlying50 ?_ HY.out ?_); rfl; rfl; rfl; rfl) | ((with_reducible refine wpList_oneL (o := ⟨some 21, _, _, _, _, _⟩) ?_ (.tmp 20) ?_ ?_ hyo ?_); rfl; rfl; rfl) | (at_builtin; refine wpList_appL (base := w0.heap.size) (v := .slice a q.length c) (q := q) rfl (.tmp 14) (.tmp 21) rfl rfl hO1 rfl hr1 (by simp [T.lvs] at hsz; omega) (by have := hB1.size; exact this) ?_; intro a3 c3 w3 hO3 hg3 _))
    go_ret
    exact ⟨a3, c3, by simp [T.lvs], by simpa [T.lvs] using hO3, hB1.grown hg3 hB1.size (fun z e => hlow z e)⟩
  | two l r ihl ihr =>
    intro n p W a m c q hp ht hB hO hsz
    obtain ⟨dn, sum, lf, le, ri, hN⟩ := hI.nd hp
    have hk := hN.kids
    obtain ⟨pl, pr, rfl, rfl, hpl, hpr⟩ := hk
    have h2 := T.size_two ht
    have c2 := cell_later hB hN.size
    have hlen : (T.two l r).lvs.length = l.lvs.length + r.lvs.length := by simp [T.lvs]
    have hne0 : (((T.two l r).lvs.length : Int) == 0) = false := by rw [beq_eq_false_iff_ne]; omega
    have hne1 : (((T.two l r).lvs.length : Int) == 1) = false := by rw [beq_eq_false_iff_ne]; omega
    rw [hlen] at hsz
    have IL := Lib.hid (fun (W' : World) (hB' : Below w0.heap.size w0 W') hO' => ihl (n + 1) pl W' a m c q hpl ht.2.1 hB' hO' (by omega))
    have IR := Lib.hid (fun (W' : World) (hB' : Below w0.heap.size w0 W') (a' : Option Addr) (c' : Nat) hO' => ihr (n + 1) pr W' a' (m + l.lvs.length) c' (q ++ l.lvs) hpr ht.2.2.1 hB' hO' (by rw [List.length_append]; omega))
    have HL := Lib.hid (show (T.two l r).lvs = l.lvs ++ r.lvs from rfl)
    have HLEN := Lib.hid hlen
    have hOd := hO.below (below_drew (Below.refl W.heap.size W))
    have hwl := ht.2.1
    generalize (T.two l r).lvs = LV at *
    generalize LV.length = ln at *
    generalize hml : m + l.lvs.length = ml at *
    have HML := Lib.hid hml
    clear hml hsz h2 ht
    clear hlen ihl ihr
    go_enter Tryz.func46, Tryz.ntmps46
    go_wp2_with fail
    -- REGION list 4
    refine wp_region_held_drew (S := fun W => Below w0.heap.size w0 W) (by kernel_rfl) (below_drew0 hB) (fun hHeld => ?_)
    refine wpAnyH_take (i := 0) (oi := ⟨some 23, .move (.tmp 0), _, _, _, none⟩) (v := ?_) rfl (by kernel_rfl) (by kernel_rfl) (by kernel_rfl) (fun _ _ _ h => h) (Or.inl ⟨by rfl, ?_⟩) hHeld ?_
    rotate_left
    · intro W _; go_simp; try with_reducible rfl
    try simp only [Act.put, List.setIfInBounds_toArray, List.set_cons_zero, List.set_cons_succ]
    refine wpAnyH_take (i := 1) (oi := ⟨some 24, .nilCheck (.tmp 23), _, _, _, none⟩) (v := ?_) rfl (by kernel_rfl) (by kernel_rfl) (by kernel_rfl) (fun _ _ _ h => h) (Or.inl ⟨by rfl, ?_⟩) hHeld ?_
    rotate_left
    · intro W _; go_simp; try with_reducible rfl
    try simp only [Act.put, List.setIfInBounds_toArray, List.set_cons_zero, List.set_cons_succ]
    refine wpAnyH_take (i := 2) (oi := ⟨some 25, .fieldAddr 86 (.tmp 24) 5, _, _, _, none⟩) (v := ?_) rfl (by kernel_rfl) (by kernel_rfl) (by kernel_rfl) (fun _ _ _ h => h) (Or.inl ⟨by rfl, ?_⟩) hHeld ?_
    rotate_left
    · intro W _; go_simp; try with_reducible rfl
    try simp only [Act.put, List.setIfInBounds_toArray, List.set_cons_zero, List.set_cons_succ]
    refine wpAnyH_take (i := 3) (oi := ⟨some 26, .load 69 (.tmp 25), _, _, _, none⟩) (v := ?_) rfl (by kernel_rfl) (by kernel_rfl) (by kernel_rfl) (fun _ _ _ h => h) (Or.inl ⟨by rfl, ?_⟩) hHeld ?_
    rotate_left
    · intro W hS; have h0 := cell_later hS hN.right; go_simp; try with_reducible rfl
    try simp only [Act.put, List.setIfInBounds_toArray, List.set_cons_zero, List.set_cons_succ]
    refine wpAnyH_take (i := 4) (oi := ⟨some 27, .move (.tmp 0), _, _, _, none⟩) (v := ?_) rfl (by kernel_rfl) (by kernel_rfl) (by kernel_rfl) (fun _ _ _ h => h) (Or.inl ⟨by rfl, ?_⟩) hHeld ?_
    rotate_left
    · intro W _; go_simp; try with_reducible rfl
    try simp only [Act.put, List.setIfInBounds_toArray, List.set_cons_zero, List.set_cons_succ]
    refine wpAnyH_take (i := 5) (oi := ⟨some 28, .nilCheck (.tmp 27), _, _, _, none⟩) (v := ?_) rfl (by kernel_rfl) (by kernel_rfl) (by kernel_rfl) (fun _ _ _ h => h) (Or.inl ⟨by rfl, ?_⟩) hHeld ?_
    rotate_left
    · intro W _; go_simp; try with_reducible rfl
    try simp only [Act.put, List.setIfInBounds_toArray, List.set_cons_zero, List.set_cons_succ]
    refine wpAnyH_take (i := 6) (oi := ⟨some 29, .fieldAddr 86 (.tmp 28) 4, _, _, _, none⟩) (v := ?_) rfl (by kernel_rfl) (by kernel_rfl) (by kernel_rfl) (fun _ _ _ h => h) (Or.inl ⟨by rfl, ?_⟩) hHeld ?_
    rotate_left
    · intro W _; go_simp; try with_reducible rfl
    try simp only [Act.put, List.setIfInBounds_toArray, List.set_cons_zero, List.set_cons_succ]
    refine wpAnyH_take (i := 7) (oi := ⟨some 30, .load 69 (.tmp 29), _, _, _, none⟩) (v := ?_) rfl (by kernel_rfl) (by kernel_rfl) (by kernel_rfl) (fun _ _ _ h => h) (Or.inl ⟨by rfl, ?_⟩) hHeld ?_
    rotate_left
    · intro W hS; have h0 := cell_later hS hN.left; go_simp; try with_reducible rfl
    try simp only [Act.put, List.setIfInBounds_toArray, List.set_cons_zero, List.set_cons_succ]
    refine wpAnyH_take (i := 8) (oi := ⟨some 31, .move (.tmp 1), _, _, _, none⟩) (v := ?_) rfl (by kernel_rfl) (by kernel_rfl) (by kernel_rfl) (fun _ _ _ h => h) (Or.inl ⟨by rfl, ?_⟩) hHeld ?_
    rotate_left
    · intro W _; go_simp; try with_reducible rfl
    try simp only [Act.put, List.setIfInBounds_toArray, List.set_cons_zero, List.set_cons_succ]
    refine wpAnyH_ready (rs := [9]) (by kernel_rfl) (by simp) ?_
    refine AllReadyH.cons (o := ⟨some 32, .call { callee := .value (.func 46), args := #[.tmp 30, .tmp 31], argTypes := #[69, 23] }, _, _, _, none⟩) rfl (fun K hK => ?_) AllReadyH.nil
    refine step_ofR (by rfl) ?_
    go_simp
    refine (IL.out _ hHeld hOd).mono ?_
    rintro x W1 ⟨a3, c3, rfl, hO3, hB3⟩
    refine hK.out _ _ (hB3) (fun hHeld => ?_)
    clear hK K
    try simp only [Act.put, List.setIfInBounds_toArray, List.set_cons_zero, List.set_cons_succ]
    refine wpAnyH_ready (rs := [10]) (by kernel_rfl) (by simp) ?_
    refine AllReadyH.cons (o := ⟨some 33, .call { callee := .value (.func 46), args := #[.tmp 26, .tmp 32], argTypes := #[69, 23] }, _, _, _, none⟩) rfl (fun K hK => ?_) AllReadyH.nil
    refine step_ofR (by rfl) ?_
    go_simp
    refine (IR.out _ hB3 a3 c3 hO3).mono ?_
    rintro x W1 ⟨a4, c4, rfl, hO4, hB4⟩
    refine hK.out _ _ (hB4) (fun hHeld => ?_)
    clear hK K
    try simp only [Act.put, List.setIfInBounds_toArray, List.set_cons_zero, List.set_cons_succ]
    refine wpAnyH_ready (rs := [11]) (by kernel_rfl) (by simp) ?_
    refine AllReadyH.cons (o := ⟨some 4, .assign (.tmp 33), _, _, _, none⟩) rfl (fun K hK => ?_) AllReadyH.nil
    refine step_ofR (by rfl) ?_
    go_simp
    refine hK.out _ _ (hHeld) (fun hHeld => ?_)
    clear hK K
    try simp only [Act.put, List.setIfInBounds_toArray, List.set_cons_zero, List.set_cons_succ]
    refine wpAnyH_done (by kernel_rfl) ?_ _
    -- END list
    go_wp2_with fail
    go_ret
    have e : m + ln = ml + r.lvs.length := by have := HLEN.out; have := HML.out; omega
    exact ⟨a4, c4, by rw [e]; rfl, by rw [e, HL.out, ← List.append_assoc]; exact hO4, hB4⟩

/-- make([]api.Leaf, 0, n), as one step of a region that draws its order -/
theorem step_makeL {ops : Array Oper} {o : Oper} {a : Act} {w : World} {K : Act → World → Prop} {Q : Exit → Act → World → Prop} {E : Prop} (hgd : o.guard = none) (l c : Operand) (ho : o.op = .makeSlice 23 l c)
    (hl : a.eval l = .int .i64 0) (n : Nat) (hc : a.eval c = .int .i64 (n : Int)) (hn : n ≤ 100000) (base : Nat) (hb : base ≤ w.heap.size)
    (h : ∀ w', OwnL w' base (.slice (some ⟨w.heap.size, 0, none⟩) 0 n) [] → Below w.heap.size w w' → K (a.put o.dst (.slice (some ⟨w.heap.size, 0, none⟩) 0 n)) w') :
    if Region.wanted o (yielded ops a.tmps) = true then Oper.wp Tryz.prog o a w K Q else E := by
  have hw : Region.wanted o (yielded ops a.tmps) = true := by simp [Region.wanted, hgd]
  obtain ⟨i, hi, hz0, hz1, hz2⟩ := info_parts infoLeaf
  obtain ⟨w', hrun, r1, r2⟩ := run_make_own (P := Tryz.prog) w base 23 50 i _ 64 Tryz.underlying23 hi hz0 hz1 .i64 .i64 n (by rw [hz2]; omega) (by unfold maxLen; omega) hb
  have h' := h w' ⟨fun _ h => (by simp at h), r1⟩ ((Below.refl _ w).grown r2 (Nat.le_refl _) (fun k e => by cases e))
  rw [if_pos hw]
  unfold Oper.wp
  simp [execOp, ho, hl, hc, hrun, Result.andThen]
  exact h'

set_option maxRecDepth 100000 in
set_option maxHeartbeats 2000000 in
theorem leaves_any (base x : Nat) (G : Tag) (w : World) (tp pn pt : Nat) (t : T) (hI : Inv base x G noL w) (hTr : Tr base G w tp pn pt t) (hw : t.wf 0) (hsz : t.lvs.length ≤ 100000) :
    Calls Tryz.prog 20 #[.pointer (some ⟨tp, 0, none⟩)] w fun e w' => ∃ a c, e = .returned (.slice a t.lvs.length c) ∧ OwnL w' w.heap.size (.slice a t.lvs.length c) t.lvs ∧ Below w.heap.size w w' := by
  obtain ⟨dn, sum, lf, le, ri, hN⟩ := hI.nd hTr.top
  have hc1 := hTr.c1
  have hcs := hN.size
  have LI := Lib.hid (fun (W : World) (a : Option Addr) (c : Nat) (hB : Below w.heap.size w W) (hO : OwnL W w.heap.size (.slice a 0 c) []) => list_any base x G w hI t 0 pt W a 0 c [] hTr.top hw hB hO (by simpa using hsz))
  generalize hm : t.lvs.length = m at *
  go_enter Tryz.func20, Tryz.ntmps20
  go_wp2_with fail
  -- REGION leaves 2
  refine wp_region_held_drew (S := fun W => Below w.heap.size w W) (by kernel_rfl) (Below.refl _ w).drew (fun hHeld => ?_)
  refine wpAnyH_take (i := 0) (oi := ⟨some 5, .move (.tmp 0), _, _, _, none⟩) (v := ?_) rfl (by kernel_rfl) (by kernel_rfl) (by kernel_rfl) (fun _ _ _ h => h) (Or.inl ⟨by rfl, ?_⟩) hHeld ?_
  rotate_left
  · intro W _; go_simp; try with_reducible rfl
  try simp only [Act.put, List.setIfInBounds_toArray, List.set_cons_zero, List.set_cons_succ]
  refine wpAnyH_take (i := 1) (oi := ⟨some 6, .nilCheck (.tmp 5), _, _, _, none⟩) (v := ?_) rfl (by kernel_rfl) (by kernel_rfl) (by kernel_rfl) (fun _ _ _ h => h) (Or.inl ⟨by rfl, ?_⟩) hHeld ?_
  rotate_left
  · intro W _; go_simp; try with_reducible rfl
  try simp only [Act.put, List.setIfInBounds_toArray, List.set_cons_zero, List.set_cons_succ]
  refine wpAnyH_take (i := 2) (oi := ⟨some 7, .fieldAddr 88 (.tmp 6) 1, _, _, _, none⟩) (v := ?_) rfl (by kernel_rfl) (by kernel_rfl) (by kernel_rfl) (fun _ _ _ h => h) (Or.inl ⟨by rfl, ?_⟩) hHeld ?_
  rotate_left
  · intro W _; go_simp; try with_reducible rfl
  try simp only [Act.put, List.setIfInBounds_toArray, List.set_cons_zero, List.set_cons_succ]
  refine wpAnyH_take (i := 3) (oi := ⟨some 8, .load 69 (.tmp 7), _, _, _, none⟩) (v := ?_) rfl (by kernel_rfl) (by kernel_rfl) (by kernel_rfl) (fun _ _ _ h => h) (Or.inl ⟨by rfl, ?_⟩) hHeld ?_
  rotate_left
  · intro W hS; have h0 := cell_later hS hc1; go_simp; try with_reducible rfl
  try simp only [Act.put, List.setIfInBounds_toArray, List.set_cons_zero, List.set_cons_succ]
  refine wpAnyH_take (i := 4) (oi := ⟨some 9, .move (.tmp 0), _, _, _, none⟩) (v := ?_) rfl (by kernel_rfl) (by kernel_rfl) (by kernel_rfl) (fun _ _ _ h => h) (Or.inl ⟨by rfl, ?_⟩) hHeld ?_
  rotate_left
  · intro W _; go_simp; try with_reducible rfl
  try simp only [Act.put, List.setIfInBounds_toArray, List.set_cons_zero, List.set_cons_succ]
  refine wpAnyH_take (i := 5) (oi := ⟨some 10, .nilCheck (.tmp 9), _, _, _, none⟩) (v := ?_) rfl (by kernel_rfl) (by kernel_rfl) (by kernel_rfl) (fun _ _ _ h => h) (Or.inl ⟨by rfl, ?_⟩) hHeld ?_
  rotate_left
  · intro W _; go_simp; try with_reducible rfl
  try simp only [Act.put, List.setIfInBounds_toArray, List.set_cons_zero, List.set_cons_succ]
  refine wpAnyH_take (i := 6) (oi := ⟨some 11, .fieldAddr 88 (.tmp 10) 1, _, _, _, none⟩) (v := ?_) rfl (by kernel_rfl) (by kernel_rfl) (by kernel_rfl) (fun _ _ _ h => h) (Or.inl ⟨by rfl, ?_⟩) hHeld ?_
  rotate_left
  · intro W _; go_simp; try with_reducible rfl
  try simp only [Act.put, List.setIfInBounds_toArray, List.set_cons_zero, List.set_cons_succ]
  refine wpAnyH_take (i := 7) (oi := ⟨some 12, .load 69 (.tmp 11), _, _, _, none⟩) (v := ?_) rfl (by kernel_rfl) (by kernel_rfl) (by kernel_rfl) (fun _ _ _ h => h) (Or.inl ⟨by rfl, ?_⟩) hHeld ?_
  rotate_left
  · intro W hS; have h0 := cell_later hS hc1; go_simp; try with_reducible rfl
  try simp only [Act.put, List.setIfInBounds_toArray, List.set_cons_zero, List.set_cons_succ]
  refine wpAnyH_take (i := 8) (oi := ⟨some 13, .nilCheck (.tmp 12), _, _, _, none⟩) (v := ?_) rfl (by kernel_rfl) (by kernel_rfl) (by kernel_rfl) (fun _ _ _ h => h) (Or.inl ⟨by rfl, ?_⟩) hHeld ?_
  rotate_left
  · intro W _; go_simp; try with_reducible rfl
  try simp only [Act.put, List.setIfInBounds_toArray, List.set_cons_zero, List.set_cons_succ]
  refine wpAnyH_take (i := 9) (oi := ⟨some 14, .fieldAddr 86 (.tmp 13) 2, _, _, _, none⟩) (v := ?_) rfl (by kernel_rfl) (by kernel_rfl) (by kernel_rfl) (fun _ _ _ h => h) (Or.inl ⟨by rfl, ?_⟩) hHeld ?_
  rotate_left
  · intro W _; go_simp; try with_reducible rfl
  try simp only [Act.put, List.setIfInBounds_toArray, List.set_cons_zero, List.set_cons_succ]
  refine wpAnyH_take (i := 10) (oi := ⟨some 15, .load 3 (.tmp 14), _, _, _, none⟩) (v := ?_) rfl (by kernel_rfl) (by kernel_rfl) (by kernel_rfl) (fun _ _ _ h => h) (Or.inl ⟨by rfl, ?_⟩) hHeld ?_
  rotate_left
  · intro W hS; have h0 := cell_later hS hcs; go_simp; try with_reducible rfl
  try simp only [Act.put, List.setIfInBounds_toArray, List.set_cons_zero, List.set_cons_succ]
  refine wpAnyH_ready (rs := [11]) (by kernel_rfl) (by simp) ?_
  refine AllReadyH.cons (o := ⟨some 16, .makeSlice 23 (.const (.int .i64 0)) (.tmp 15), _, _, _, none⟩) rfl (fun K hK => ?_) AllReadyH.nil
  refine step_makeL rfl _ _ rfl rfl m rfl hsz w.heap.size hHeld.size ?_
  intro W1 hO1 hB1
  refine hK.out _ _ (Bt hHeld hB1) (fun hHeld => ?_)
  clear hK K
  try simp only [Act.put, List.setIfInBounds_toArray, List.set_cons_zero, List.set_cons_succ]
  refine wpAnyH_ready (rs := [12]) (by kernel_rfl) (by simp) ?_
  refine AllReadyH.cons (o := ⟨some 17, .call { callee := .value (.func 46), args := #[.tmp 8, .tmp 16], argTypes := #[69, 23] }, _, _, _, none⟩) rfl (fun K hK => ?_) AllReadyH.nil
  refine step_ofR (by rfl) ?_
  go_simp
  refine (LI.out _ _ _ hHeld hO1).mono ?_
  rintro x W2 ⟨a2, c2, rfl, hO2, hB2⟩
  refine hK.out _ _ (hB2) (fun hHeld => ?_)
  clear hK K
  try simp only [Act.put, List.setIfInBounds_toArray, List.set_cons_zero, List.set_cons_succ]
  refine wpAnyH_ready (rs := [13]) (by kernel_rfl) (by simp) ?_
  refine AllReadyH.cons (o := ⟨some 2, .assign (.tmp 17), _, _, _, none⟩) rfl (fun K hK => ?_) AllReadyH.nil
  refine step_ofR (by rfl) ?_
  go_simp
  refine hK.out _ _ (hHeld) (fun hHeld => ?_)
  clear hK K
  try simp only [Act.put, List.setIfInBounds_toArray, List.set_cons_zero, List.set_cons_succ]
  refine wpAnyH_done (by kernel_rfl) ?_ _
  -- END leaves
  go_wp2_with fail
  go_ret
  exact ⟨a2, c2, by simp, by simpa using hO2, hB2⟩
end
/-! Leaves of a tree as the set of its leaves; slices of one leaf; the walk of SmtGrows. -/
section
open Go.RowKit

theorem leaves_sorted {t : T} {L : List Lf} (hw : t.wf 0) (hu : unlike L) (h : ∀ y, y ∈ t.lvs ↔ y ∈ L) : t.lvs = sortedL L := by
  have hp := whole_perm hw hu h
  have hk : oks t.lvs := T.wf_oks t 0 hw
  have hkL : oks L := fun y hy => hk y ((h y).2 hy)
  exact order_unique hk (T.wf_order t 0 hw (fun _ _ _ _ i hi => by omega)) (sortedL_order hkL) (T.wf_unlike t 0 hw) (hp.trans (sortedL_perm L).symm)
section
variable {w0 W : World} {x tp : Nat} {L : List Lf}
theorem sm_leaves (h : Sm w0 x tp L W) :
    Calls Tryz.prog 20 #[.pointer (some ⟨tp, 0, none⟩)] W fun e w' => ∃ a c, e = .returned (.slice a L.length c) ∧ OwnL w' W.heap.size (.slice a L.length c) (sortedL L) ∧ Below W.heap.size W w' := by
  obtain ⟨⟨G, pn, pt, t, q1, q2, q3, q4⟩, h5, h6, h7⟩ := h
  have hl := (whole_perm q3 h6 q4).length_eq
  have he := leaves_sorted q3 h6 q4
  refine (leaves_any w0.heap.size x G W tp pn pt t q1 q2 q3 (by omega)).mono ?_
  rintro e w' ⟨a, c, rfl, hO, hB⟩
  rw [hl, he] at hO
  exact ⟨a, c, by rw [hl], hO, hB⟩
end

/-! s[i:i+1] of leaves -/
section
theorem cutOne (W : World) (a : Option Addr) (n c k : Nat) (x y : Int) (hx : x = (k : Int)) (hy : y = (k : Int) + 1) (hk : k + 1 ≤ c) :
    (Instr.slice 23 (.slice a n c) (some (.int .i64 x)) (some (.int .i64 y)) none).run Tryz.prog W = .ok (.slice (tailA a c k) 1 (c - k)) W ∧
    (Instr.sliceAt 23 (.slice a n c) (some (.int .i64 x)) (some (.int .i64 y)) none).run Tryz.prog W = .ok (.slice (tailA a c k) 1 (c - k)) W := by
  subst hx; subst hy
  have h : (Instr.slice 23 (.slice a n c) (some (.int .i64 (k : Int))) (some (.int .i64 ((k : Int) + 1))) none).run Tryz.prog W = .ok (.slice (tailA a c k) 1 (c - k)) W := by
    rw [run_slice_lh W 23 a n c underL .i64 .i64 (k : Int) ((k : Int) + 1) (by omega) (by omega) (by omega), elemL, sizeLf]
    have e : ((k : Int) + 1).toNat = k + 1 := by omega
    simp [sliced, Result.andThen, tailA, e]
  exact ⟨h, by rw [run_sliceAt_slice W 23 _ _ _ _ underL]; exact h⟩
theorem leaf_at1 {w : World} {a : Option Addr} {n c : Nat} {l : List Lf} (h : RdL w a n c l) {k : Nat} (hk : k < n) : RdL w (tailA a c k) 1 (c - k) [l.getD k lf0] := by
  have hc := h.cap
  have hm := h.max
  have hl := h.len
  have h2 := h.tailA k (by omega)
  have hd : l.drop k = l.getD k lf0 :: l.drop (k + 1) := by
    rw [List.drop_eq_getElem_cons (by omega)]
    congr 1
    simp [List.getD, show k < l.length by omega]
  rw [hd] at h2
  refine ⟨rfl, oks.single (h.ok.at (by omega)), by omega, by omega, fun e => ?_, fun ad e j u hu => h2.cell ad e j u ?_⟩
  · have := h2.nil e; omega
  · have e2 : lcs (l.getD k lf0 :: l.drop (k + 1)) = lcs [l.getD k lf0] ++ lcs (l.drop (k + 1)) := by simp [lcs]
    rw [e2, List.getElem?_append_left (List.getElem?_eq_some_iff.1 hu).1]
    exact hu
theorem set_single (L : List Lf) (y : Lf) (h : L.length + 1 ≤ 4096) : setE L [y] = 0 ∧ setI L [y] = dropL L y.path ++ [y] := by
  have h1 : setF L [y] = dropL L y.path ++ [y] := by rw [setF, setF]
  have h2 : twiceB [y] = false := by simp [twiceB]
  have h3 : ¬ 4096 < [y].length := by simp
  have h5 : (dropL L y.path).length ≤ L.length := List.length_filter_le _ _
  have h4 : ¬ 4096 < (dropL L y.path ++ [y]).length := by rw [List.length_append]; simp; omega
  unfold setE setI
  rw [h1, h2, if_neg h3, if_neg h3]
  simp only [Bool.false_eq_true, if_false, if_neg h4]
  exact ⟨trivial, trivial⟩
theorem drop_len (L : List Lf) (d : List UInt8) : (dropL L d).length ≤ L.length := List.length_filter_le _ _
end

/-- what SmtGrows' last region knows of a world -/
structure GwAt (w W : World) (g : Nat) (d : List UInt8) : Prop where
  dig : Blk W g 25 (bs d)
  bel : Below w.heap.size w W
section
variable {w W W' : World} {g : Nat} {d : List UInt8}
theorem GwAt.below (h : GwAt w W g d) (hb : Below W.heap.size W W') : GwAt w W' g d := ⟨h.dig.below hb, Bt h.bel hb⟩
theorem GwAt.drew (h : GwAt w W g d) : GwAt w W.drew g d := h.below ⟨rfl, rfl, rfl, Nat.le_refl _, fun _ _ => rfl⟩
theorem GwAt.kept (h : GwAt w W g d) (hk : Keeps W W') (hB : Below w.heap.size W W') : GwAt w W' g d := ⟨hk _ _ _ h.dig (by decide), h.bel.trans hB⟩
end

set_option maxRecDepth 100000 in
set_option maxHeartbeats 4000000 in
theorem walkSmtGrows (w : World) (hT : Tab w 1) (x : Int) (_wf : (Lit.int .i64 x).wf = true) (a : Option Addr) (n c : Nat) (l : List Lf) (hr : RdL w a n c l) (a2 : Option Addr) (m c2 : Nat) (ds : List (List UInt8)) (hd : RdD w a2 m c2 ds) :
    Calls Tryz.prog 4 #[.int .i64 x, .slice a n c, .slice a2 m c2] w (Yes5 w) := by
  have GR := Lib.hid (fun (W : World) (h : Below w.heap.size w W) => grows_any W (hT.below h))
  have RT := Lib.hid (fun (W : World) (h : Below w.heap.size w W) => roots_any W (hT.below h))
  by_cases h200 : 200 < n
  · have h200' : (200 : Int) < (n : Int) := by omega
    go_enter Tryz.func4, Tryz.ntmps4
    go_wp2_with fail
    go_ret
    exact Yes5.mk (Below.refl _ _)
  have h200' : ¬ (200 : Int) < (n : Int) := by omega
  by_cases hm200 : 200 < m
  · have hm' : (200 : Int) < (m : Int) := by omega
    go_enter Tryz.func4, Tryz.ntmps4
    go_wp2_with fail
    go_ret
    exact Yes5.mk (Below.refl _ _)
  have hm' : ¬ (200 : Int) < (m : Int) := by omega
  by_cases hx : 0 ≤ x ∧ x ≤ 32
  case neg =>
    go_enter Tryz.func4, Tryz.ntmps4
    go_wp2_with fail
    refine (new_no _ x (by omega)).mono ?_
    rintro e w1 ⟨rfl, rfl⟩
    go_wp2_with fail
    refine (GR.out _ (Below.refl _ _)).mono ?_
    rintro e w2 ⟨rfl, hB2⟩
    go_wp2_with fail
    refine (RT.out _ hB2).mono ?_
    rintro e w3 ⟨rfl, hB3⟩
    go_wp2_with fail
    go_ret
    exact Yes5.mk (Bt hB2 hB3)
  case pos =>
    obtain ⟨k, rfl⟩ := Int.eq_ofNat_of_zero_le hx.1
    have hk : k ≤ 32 := by omega
    have NW := Lib.hid (sm_new w w k hk (Below.refl _ _))
    have hcap := hr.cap
    go_enter Tryz.func4, Tryz.ntmps4
    go_wp2_with fail
    refine NW.out.mono ?_
    rintro e w1 ⟨tp, rfl, hS1, -⟩
    go_wp2_with fail
    go_loopw [9] (fun t wr => ∃ (i : Nat) (L : List Lf), i ≤ n ∧ t = .int .i64 (i : Int) ∧ Sm w k tp L wr ∧ L.length ≤ i) (fun t _ => n - (intOf t).toNat)
    case atStart => exact ⟨0, [], by omega, rfl, hS1, by simp⟩
    case round =>
      obtain ⟨i, L, hi, rfl, hS, hLi⟩ := hrel
      by_cases hlt : i < n
      · have hil : (i : Int) < (n : Int) := by omega
        obtain ⟨e1, e2⟩ := set_single L (l.getD i lf0) (by omega)
        have ST := Lib.hid (sm_set hS (tailA a c i) 1 (c - i) [l.getD i lf0] (leaf_at1 (hr.below hS.bel) hlt) (fun _ => sorts_all 1 (by decide)))
        rw [e1, e2] at ST
        have hdl := drop_len L (l.getD i lf0).path
        have CU := fun (W : World) => (cutOne W a n c i (i : Int) ((i : Int) + 1) rfl rfl (by omega)).1
        have CU' := fun (W : World) => (cutOne W a n c i (i : Int) ((i : Int) + 1) rfl rfl (by omega)).2
        clear hS
        go_wp2_with fail
        refine ST.out.mono ?_
        rintro e w2 ⟨rfl, hS2, -⟩
        go_wp2_with fail
        go_roundw
        case rel => exact ⟨i + 1, _, by omega, by go_num, hS2, by rw [List.length_append, List.length_singleton]; omega⟩
        case measure => simp [intOf]; omega
      · obtain rfl : i = n := by omega
        have hil : ¬ (i : Int) < (i : Int) := by omega
        go_wp2_with fail
        go_loopw [10] (fun t wr => ∃ (j : Nat) (L : List Lf), j ≤ m ∧ t = .int .i64 (j : Int) ∧ Sm w k tp L wr ∧ L.length ≤ i) (fun t _ => m - (intOf t).toNat)
        case atStart => exact ⟨0, L, by omega, rfl, hS, hLi⟩
        case round =>
          obtain ⟨j, L, hj, rfl, hS, hLi⟩ := hrel
          by_cases hjt : j < m
          · have hjl : (j : Int) < (m : Int) := by omega
            obtain ⟨b, off, hae, -, hel⟩ := (hd.below hS.bel).elems (by omega)
            subst hae
            have hdl := hd.ok.at (i := j) (by rw [hd.len]; exact hjt)
            have hrg := hel j hjt
            have DR := Lib.hid (sm_drop hS (ds.getD j []) hdl)
            have H5 := Lib.hid (dig5 hdl).1
            have hlen := drop_len L (ds.getD j [])
            clear hel hS
            generalize ds.getD j [] = d at *
            go_wp2_with ((with_reducible refine wpList_loadG (o := ⟨some 61, _, _, _, _, _⟩) ?_ b (off + j * 32) 25 (.tmp 60) ?_ ?_ hrg Tryz.underlying25 ?_ H5.out ?_); rfl; rfl; rfl; rfl)
            refine DR.out.mono ?_
            rintro e w2 ⟨rfl, hS2, -⟩
            go_wp2_with fail
            go_roundw
            case rel => exact ⟨j + 1, _, by omega, by go_num, hS2, by omega⟩
            case measure => simp [intOf]; omega
          · obtain rfl : j = m := by omega
            have hjl : ¬ (j : Int) < (j : Int) := by omega
            have LV := Lib.hid (sm_leaves hS)
            have hpm := sortedL_perm L
            have hrl : rootI (k : Int) (sortedL L) = rootL k L := by
              have hu := (unlike_perm hpm).2 hS.unl
              have ht := (twiceB_iff _).2 hu
              have h4 : (sortedL L).length ≤ 4096 := by rw [hpm.length_eq]; exact hS.few
              rw [← rootL_perm k hpm]
              unfold rootI
              simp [ht, h4, hx.2]
            have hre : rootE (k : Int) (sortedL L) = 0 := by
              have hu := (unlike_perm hpm).2 hS.unl
              have ht := (twiceB_iff _).2 hu
              rw [rootE_fits ⟨by omega, by omega⟩ (by rw [hpm.length_eq]; exact hS.few), ht]
              rfl
            have hdl := digestF_length k hk 256 L 0
            have RO := Lib.hid (fun (W : World) (h : Sm w k tp L W) => sm_root2 h hk hT)
            have LE := Lib.hid (fun (W : World) (h : Sm w k tp L W) => sm_len h)
            have RR := Lib.hid (fun (W : World) (a' : Option Addr) (c' : Nat) (h : RdL W a' L.length c' (sortedL L)) (hB : Below w.heap.size w W) => sroot_all W (k : Int) a' L.length c' (sortedL L) h (hT.below hB))
            rw [hrl, hre] at RR
            rw [show rootL k L = digestF k 256 L 0 from rfl] at RO RR
            clear hrl hre
            generalize digestF k 256 L 0 = d at *
            have i1 := Lib.hid (dig5 hdl).1
            have j1 := Lib.hid (dig5 hdl).2
            have o1 := bs_one d
            clear hpm
            go_wp2_with fail
            refine LV.out.mono ?_
            rintro e w5 ⟨a5, c5, rfl, hO5, hB5⟩
            have hS5 := hS.below hB5
            go_wp2_with fail
            refine (RR.out w5 a5 c5 hO5.rd hS5.bel).mono ?_
            rintro e w6 ⟨rfl, hB6⟩
            have hS6 := hS5.below hB6
            go_wp2_with (first | ((with_reducible refine wpList_allocB (o := ⟨some 12, _, _, _, _, _⟩) ?_ 25 ?_ zeroD_info ?_); rfl; rfl; intro w7 hr7 hg7 hz7) | ((with_reducible refine wpList_storeB (o := ⟨none, .store 25 (.tmp 12) (.tmp 69), _, _, _, _⟩) ?_ 25 (.tmp 12) (.tmp 69) ?_ ?_ ?_ hr7 i1.out j1.out o1 ?_); rfl; rfl; rfl; rfl; intro w8 hr8 hg8 hz8))
            have hB8 : Below w6.heap.size w6 w8 := ((Below.refl _ w6).grown hg7 (Nat.le_refl _) (fun k e => by cases e)).grown hg8 (by omega) (fun k e => by cases e; omega)
            have hS8 := hS6.below hB8
            have hT8 : GwAt w w8 w6.heap.size d := ⟨hr8, hS8.bel⟩
            have hSd := hS8.below (below_drew (Below.refl w8.heap.size w8))
            clear hz7 hz8 hg7 hg8 hr7
            -- REGION grows 6
            refine wp_region_held_drew (S := fun W => GwAt w W w6.heap.size d) (by kernel_rfl) hT8.drew (fun hHeld => ?_)
            refine wpAnyH_ready (rs := [0]) (by kernel_rfl) (by simp) ?_
            refine AllReadyH.cons (o := ⟨some 71, .call { callee := .value (.func 10), args := #[], argTypes := #[] }, _, _, _, none⟩) rfl (fun K hK => ?_) AllReadyH.nil
            refine step_ofR (by rfl) ?_
            go_simp
            refine (GR.out _ hHeld.bel).mono ?_
            rintro x W1 ⟨rfl, hb1⟩
            refine hK.out _ _ (hHeld.below hb1) (fun hHeld => ?_)
            clear hK K
            try simp only [Act.put, List.setIfInBounds_toArray, List.set_cons_zero, List.set_cons_succ]
            refine wpAnyH_take (i := 1) (oi := ⟨some 72, .move (.tmp 71), _, _, _, none⟩) (v := ?_) rfl (by kernel_rfl) (by kernel_rfl) (by kernel_rfl) (fun _ _ _ h => h) (Or.inl ⟨by rfl, ?_⟩) hHeld ?_
            rotate_left
            · intro W _; go_simp; try with_reducible rfl
            try simp only [Act.put, List.setIfInBounds_toArray, List.set_cons_zero, List.set_cons_succ]
            refine wpAnyH_ready (rs := [2]) (by kernel_rfl) (by simp) ?_
            refine AllReadyH.cons (o := ⟨some 73, .call { callee := .value (.func 25), args := #[], argTypes := #[] }, _, _, _, some (1, true)⟩) rfl (fun K hK => ?_) AllReadyH.nil
            refine step_ofR (by rfl) ?_
            go_simp
            refine (RT.out _ hHeld.bel).mono ?_
            rintro x W1 ⟨rfl, hb2⟩
            refine hK.out _ _ (hHeld.below hb2) (fun hHeld => ?_)
            clear hK K
            try simp only [Act.put, List.setIfInBounds_toArray, List.set_cons_zero, List.set_cons_succ]
            refine wpAnyH_take (i := 3) (oi := ⟨some 74, .pick (.tmp 72) (.tmp 73) (.const (.bool false)), _, _, _, none⟩) (v := ?_) rfl (by kernel_rfl) (by kernel_rfl) (by kernel_rfl) (fun _ _ _ h => h) (Or.inl ⟨by rfl, ?_⟩) hHeld ?_
            rotate_left
            · intro W _; go_simp; try with_reducible rfl
            try simp only [Act.put, List.setIfInBounds_toArray, List.set_cons_zero, List.set_cons_succ]
            refine wpAnyH_take (i := 4) (oi := ⟨some 75, .move (.tmp 74), _, _, _, none⟩) (v := ?_) rfl (by kernel_rfl) (by kernel_rfl) (by kernel_rfl) (fun _ _ _ h => h) (Or.inl ⟨by rfl, ?_⟩) hHeld ?_
            rotate_left
            · intro W _; go_simp; try with_reducible rfl
            try simp only [Act.put, List.setIfInBounds_toArray, List.set_cons_zero, List.set_cons_succ]
            refine wpAnyH_take (i := 5) (oi := ⟨some 76, .move (.tmp 13), _, _, _, some (4, true)⟩) (v := ?_) rfl (by kernel_rfl) (by kernel_rfl) (by kernel_rfl) (fun _ _ _ h => h) (Or.inl ⟨by rfl, ?_⟩) hHeld ?_
            rotate_left
            · intro W _; go_simp; try with_reducible rfl
            try simp only [Act.put, List.setIfInBounds_toArray, List.set_cons_zero, List.set_cons_succ]
            refine wpAnyH_take (i := 6) (oi := ⟨some 77, .binOp .eql 29 (.tmp 76) (.const (.int .i64 0)) 29, _, _, _, some (4, true)⟩) (v := ?_) rfl (by kernel_rfl) (by kernel_rfl) (by kernel_rfl) (fun _ _ _ h => h) (Or.inl ⟨by rfl, ?_⟩) hHeld ?_
            rotate_left
            · intro W _; go_simp; try with_reducible rfl
            try simp only [Act.put, List.setIfInBounds_toArray, List.set_cons_zero, List.set_cons_succ]
            refine wpAnyH_take (i := 7) (oi := ⟨some 78, .pick (.tmp 75) (.tmp 77) (.const (.bool false)), _, _, _, none⟩) (v := ?_) rfl (by kernel_rfl) (by kernel_rfl) (by kernel_rfl) (fun _ _ _ h => h) (Or.inl ⟨by rfl, ?_⟩) hHeld ?_
            rotate_left
            · intro W _; go_simp; try with_reducible rfl
            try simp only [Act.put, List.setIfInBounds_toArray, List.set_cons_zero, List.set_cons_succ]
            refine wpAnyH_take (i := 8) (oi := ⟨some 79, .move (.tmp 78), _, _, _, none⟩) (v := ?_) rfl (by kernel_rfl) (by kernel_rfl) (by kernel_rfl) (fun _ _ _ h => h) (Or.inl ⟨by rfl, ?_⟩) hHeld ?_
            rotate_left
            · intro W _; go_simp; try with_reducible rfl
            try simp only [Act.put, List.setIfInBounds_toArray, List.set_cons_zero, List.set_cons_succ]
            refine wpAnyH_take (i := 9) (oi := ⟨some 80, .move (.tmp 7), _, _, _, some (8, true)⟩) (v := ?_) rfl (by kernel_rfl) (by kernel_rfl) (by kernel_rfl) (fun _ _ _ h => h) (Or.inl ⟨by rfl, ?_⟩) hHeld ?_
            rotate_left
            · intro W _; go_simp; try with_reducible rfl
            try simp only [Act.put, List.setIfInBounds_toArray, List.set_cons_zero, List.set_cons_succ]
            refine wpAnyH_take (i := 11) (oi := ⟨some 82, .load 25 (.tmp 12), _, _, _, some (8, true)⟩) (v := .agg (bs d).toArray) rfl (by kernel_rfl) (by kernel_rfl) (by kernel_rfl) (fun _ _ _ h => h) (yieldsIf_load_mid (by rfl) _ _ rfl w6.heap.size 0 rfl (bs d) _ (fun W h => h.dig.allR) Tryz.underlying25 rfl i1.out) hHeld ?_
            try simp only [Act.put, List.setIfInBounds_toArray, List.set_cons_zero, List.set_cons_succ]
            refine wpAnyH_ready (rs := [10]) (by kernel_rfl) (by simp) ?_
            refine AllReadyH.cons (o := ⟨some 81, .call { callee := .value (.func 23), args := #[.tmp 80], argTypes := #[28] }, _, _, _, some (8, true)⟩) rfl (fun K hK => ?_) AllReadyH.nil
            refine step_ofR (by rfl) ?_
            go_simp
            refine (RO.out _ ((hSd.below hb1).below hb2)).mono ?_
            rintro x W1 ⟨rfl, hS9, hB9, hk9⟩
            refine hK.out _ _ (hHeld.kept hk9 hB9) (fun hHeld => ?_)
            clear hK K
            try simp only [Act.put, List.setIfInBounds_toArray, List.set_cons_zero, List.set_cons_succ]
            refine wpAnyH_take (i := 12) (oi := ⟨some 83, .binOp .eql 25 (.tmp 81) (.tmp 82) 25, _, _, _, some (8, true)⟩) (v := .bool true) rfl (by kernel_rfl) (by kernel_rfl) (by kernel_rfl) (fun _ _ _ h => h) (yieldsIf_eqE (by rfl) .eql 25 25 (.tmp 81) (.tmp 82) rfl _ _ rfl rfl guardR _ (eq5 hdl)) hHeld ?_
            try simp only [Act.put, List.setIfInBounds_toArray, List.set_cons_zero, List.set_cons_succ]
            refine wpAnyH_take (i := 13) (oi := ⟨some 84, .pick (.tmp 79) (.tmp 83) (.const (.bool false)), _, _, _, none⟩) (v := ?_) rfl (by kernel_rfl) (by kernel_rfl) (by kernel_rfl) (fun _ _ _ h => h) (Or.inl ⟨by rfl, ?_⟩) hHeld ?_
            rotate_left
            · intro W _; go_simp; try with_reducible rfl
            try simp only [Act.put, List.setIfInBounds_toArray, List.set_cons_zero, List.set_cons_succ]
            refine wpAnyH_take (i := 14) (oi := ⟨some 85, .move (.tmp 84), _, _, _, none⟩) (v := ?_) rfl (by kernel_rfl) (by kernel_rfl) (by kernel_rfl) (fun _ _ _ h => h) (Or.inl ⟨by rfl, ?_⟩) hHeld ?_
            rotate_left
            · intro W _; go_simp; try with_reducible rfl
            try simp only [Act.put, List.setIfInBounds_toArray, List.set_cons_zero, List.set_cons_succ]
            refine wpAnyH_take (i := 15) (oi := ⟨some 86, .move (.tmp 7), _, _, _, some (14, true)⟩) (v := ?_) rfl (by kernel_rfl) (by kernel_rfl) (by kernel_rfl) (fun _ _ _ h => h) (Or.inl ⟨by rfl, ?_⟩) hHeld ?_
            rotate_left
            · intro W _; go_simp; try with_reducible rfl
            try simp only [Act.put, List.setIfInBounds_toArray, List.set_cons_zero, List.set_cons_succ]
            refine wpAnyH_take (i := 17) (oi := ⟨some 88, .move (.tmp 11), _, _, _, some (14, true)⟩) (v := ?_) rfl (by kernel_rfl) (by kernel_rfl) (by kernel_rfl) (fun _ _ _ h => h) (Or.inl ⟨by rfl, ?_⟩) hHeld ?_
            rotate_left
            · intro W _; go_simp; try with_reducible rfl
            try simp only [Act.put, List.setIfInBounds_toArray, List.set_cons_zero, List.set_cons_succ]
            refine wpAnyH_take (i := 18) (oi := ⟨some 89, .call { callee := .builtin .len, args := #[.tmp 88], argTypes := #[23] }, _, _, _, some (14, true)⟩) (v := ?_) rfl (by kernel_rfl) (by kernel_rfl) (by kernel_rfl) (fun _ _ _ h => h) (Or.inl ⟨by rfl, ?_⟩) hHeld ?_
            rotate_left
            · intro W _; go_simp; try with_reducible rfl
            try simp only [Act.put, List.setIfInBounds_toArray, List.set_cons_zero, List.set_cons_succ]
            refine wpAnyH_ready (rs := [16]) (by kernel_rfl) (by simp) ?_
            refine AllReadyH.cons (o := ⟨some 87, .call { callee := .value (.func 21), args := #[.tmp 86], argTypes := #[28] }, _, _, _, some (14, true)⟩) rfl (fun K hK => ?_) AllReadyH.nil
            refine step_ofR (by rfl) ?_
            go_simp
            refine (LE.out _ hS9).mono ?_
            rintro x W1 ⟨rfl, rfl⟩
            refine hK.out _ _ (hHeld) (fun hHeld => ?_)
            clear hK K
            try simp only [Act.put, List.setIfInBounds_toArray, List.set_cons_zero, List.set_cons_succ]
            refine wpAnyH_take (i := 19) (oi := ⟨some 90, .binOp .eql 3 (.tmp 87) (.tmp 89) 3, _, _, _, some (14, true)⟩) (v := ?_) rfl (by kernel_rfl) (by kernel_rfl) (by kernel_rfl) (fun _ _ _ h => h) (Or.inl ⟨by rfl, ?_⟩) hHeld ?_
            rotate_left
            · intro W _; go_simp; try with_reducible rfl
            try simp only [Act.put, List.setIfInBounds_toArray, List.set_cons_zero, List.set_cons_succ]
            refine wpAnyH_take (i := 20) (oi := ⟨some 91, .pick (.tmp 85) (.tmp 90) (.const (.bool false)), _, _, _, none⟩) (v := ?_) rfl (by kernel_rfl) (by kernel_rfl) (by kernel_rfl) (fun _ _ _ h => h) (Or.inl ⟨by rfl, ?_⟩) hHeld ?_
            rotate_left
            · intro W _; go_simp; try with_reducible rfl
            try simp only [Act.put, List.setIfInBounds_toArray, List.set_cons_zero, List.set_cons_succ]
            refine wpAnyH_ready (rs := [21]) (by kernel_rfl) (by simp) ?_
            refine AllReadyH.cons (o := ⟨some 6, .assign (.tmp 91), _, _, _, none⟩) rfl (fun K hK => ?_) AllReadyH.nil
            refine step_ofR (by rfl) ?_
            go_simp
            refine hK.out _ _ (hHeld) (fun hHeld => ?_)
            clear hK K
            try simp only [Act.put, List.setIfInBounds_toArray, List.set_cons_zero, List.set_cons_succ]
            refine wpAnyH_done (by kernel_rfl) ?_ _
            -- END grows
            go_wp2_with fail
            go_ret
            exact Yes5.mk hHeld.bel
end
end Go.Proofs.YtmfnpjfhijmboaaGreatDoor
