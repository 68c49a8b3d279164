/-
  Two councils, two entries held against each other; a council that is not looked at.
-/
import Derived.Test.YtoclahcibilbhaaGreatWirT
import Derived.Test.YtoclahcibilbhaaGreatWirS2
namespace Go.Proofs.YtoclahcibilbhaaGreat
open Go.RowKit
set_option maxRecDepth 100000

/-- a part of memory loaded, behind a guard that says yes or without one -/
theorem wpList_loadQ {w : World} {ops : Array Oper} {rest : List Oper} {o : Oper} {a : Act} {Q : Exit → Act → World → Prop} (hw : Region.wanted o (yielded ops a.tmps) = true) (b off : Nat) (ty : TypeId) (x : Operand) (ho : o.op = .load ty x)
    (hx : a.eval x = .pointer (some ⟨b, off, none⟩)) {cs : List Value} {d : TypeDesc} (hc : w.rangeAt b off cs) (hu : Tryz.prog.underlying ty = some d) (hd : d.isRow = true) (hi : (Tryz.prog.info? ty).map (·.size) = some cs.length)
    (h : wpList Tryz.prog ops Q rest (a.put o.dst (.agg cs.toArray)) w) : wpList Tryz.prog ops Q (o :: rest) a w :=
  wpList_step fun K hK => by
    rw [if_pos hw]
    exact wp_load_mid ty x ho b off hx cs d hc hu hd hi (hK _ _ h)

set_option maxHeartbeats 1000000 in
theorem same_ints (w : World) (a : Option Addr) (n c : Nat) (a' : Option Addr) (n' c' : Nat) (l : List Int) (h : RdG intR w a n c l) (h' : RdG intR w a' n' c' l) :
    Calls Tryz.prog 68 #[.slice a n c, .slice a' n' c'] w fun f w' => f = .returned (.bool true) ∧ Below w.heap.size w w' := by
  obtain rfl : n' = n := by rw [← h.len, ← h'.len]
  have HA : Hid (∀ W, Below w.heap.size w W → ∀ k, k < n' → ∃ b off, a = some ⟨b, off, none⟩ ∧ W.cell? ⟨b, off + k, none⟩ = some (.int .i64 (l.getD k 0))) := Lib.hid (fun W hW k hk => by
    obtain ⟨b, off, h1, _, h3⟩ := (h.below hW).elems (by omega)
    exact ⟨b, off, h1, by have := range_cell (h3 k hk) 0 (v := .int .i64 (l.getD k 0)) rfl; simpa [intR] using this⟩)
  have HB : Hid (∀ W, Below w.heap.size w W → ∀ k, k < n' → ∃ b off, a' = some ⟨b, off, none⟩ ∧ W.cell? ⟨b, off + k, none⟩ = some (.int .i64 (l.getD k 0))) := Lib.hid (fun W hW k hk => by
    obtain ⟨b, off, h1, _, h3⟩ := (h'.below hW).elems (by omega)
    exact ⟨b, off, h1, by have := range_cell (h3 k hk) 0 (v := .int .i64 (l.getD k 0)) rfl; simpa [intR] using this⟩)
  have hcap := h.cap
  have hcap' := h'.cap
  have hmx := h.max
  unfold maxLen at hmx
  clear h h'
  go_enter Tryz.func68, Tryz.ntmps68
  go_wp2_with fail
  go_loopw [5] (fun i wr => ∃ k : Nat, k ≤ n' ∧ i = .int .i64 (k : Int) ∧ Below w.heap.size w wr) (fun i _ => n' - (intOf i).toNat)
  case atStart => exact ⟨0, by omega, rfl, Below.refl _ _⟩
  case round =>
    obtain ⟨k, hk, rfl, hB⟩ := hrel
    by_cases hkn : k < n'
    · obtain ⟨b1, o1, rfl, h1⟩ := HA.out _ hB k hkn
      obtain ⟨b2, o2, rfl, h2⟩ := HB.out _ hB k hkn
      have hki : (k : Int) < (n' : Int) := by omega
      generalize l.getD k 0 = v at *
      go_wp2_with fail
      go_quiet (fail)
      go_wp2_with fail
      go_roundw
      case rel => exact ⟨k + 1, by omega, by go_num, Bt hB ⟨rfl, rfl, rfl, Nat.le_refl _, fun _ _ => rfl⟩⟩
      case measure => simp [intOf]; omega
    · obtain rfl : k = n' := by omega
      have hki : ¬ (k : Int) < (k : Int) := by omega
      go_wp2_with fail
      go_ret
      exact ⟨rfl, hB⟩

/-- it can be read, now and later -/
def Co.at (w : World) (x : Co) : Prop := RdG intR w x.va x.v.length x.vc x.v ∧ RdG intR w x.la x.l.length x.lc x.l
theorem Co.at.below {w w' : World} {x : Co} (h : x.at w) (hb : Below w.heap.size w w') : x.at w' := ⟨h.1.below hb, h.2.below hb⟩
theorem Co.rd.at {w : World} {x : Co} (h : x.rd w) : x.at w := by
  have := h w _ _ (Below.refl _ w) (Nat.le_refl _) (Nat.le_refl _)
  exact ⟨this.1.rd, this.2.rd⟩

set_option maxHeartbeats 1000000 in
theorem same_council (w : World) (x y : Co) (he : y.cl = x.cl) (hx : x.at w) (hy : y.at w) :
    Calls Tryz.prog 36 #[.agg (coc x).toArray, .agg (coc y).toArray] w fun f w' => f = .returned (.bool true) ∧ Below w.heap.size w w' := by
  obtain ⟨v, va, vc, l, la, lc⟩ := x
  obtain ⟨v', va', vc', l', la', lc'⟩ := y
  obtain ⟨rfl, rfl⟩ : v' = v ∧ l' = l := by simp only [Co.cl, Co.mk.injEq] at he; exact ⟨he.1, he.2.2.2.1⟩
  have h0 := (Blk.new w 36 (coc ⟨v', va, vc, l', la, lc⟩)).alloc (.cells (coc ⟨v', va', vc', l', la', lc'⟩).toArray 36)
  have h1 := Blk.new (w.alloc (.cells (coc ⟨v', va, vc, l', la, lc⟩).toArray 36)) 36 (coc ⟨v', va', vc', l', la', lc'⟩)
  have hz1 : (w.alloc (.cells (coc ⟨v', va, vc, l', la, lc⟩).toArray 36)).heap.size = w.heap.size + 1 := by simp
  rw [hz1] at h1
  have hB : Below w.heap.size w ((w.alloc (.cells (coc ⟨v', va, vc, l', la, lc⟩).toArray 36)).alloc (.cells (coc ⟨v', va', vc', l', la', lc'⟩).toArray 36)) := ((Below.refl _ w).alloc (Nat.le_refl _) _).alloc (by simp) _
  have hx := hx.below hB
  have hy := hy.below hB
  have c0 := h0.cell (j := 0) (v := .slice va v'.length vc) rfl
  have c1 := h0.cell (j := 1) (v := .slice la l'.length lc) rfl
  have d0 := h1.cell (j := 0) (v := .slice va' v'.length vc') rfl
  have d1 := h1.cell (j := 1) (v := .slice la' l'.length lc') rfl
  go_enter Tryz.func36, Tryz.ntmps36
  go_wp2_with fail
  generalize ((w.alloc (.cells (coc ⟨v', va, vc, l', la, lc⟩).toArray 36)).alloc (.cells (coc ⟨v', va', vc', l', la', lc'⟩).toArray 36)) = w1 at *
  refine (same_ints w1 va _ vc va' _ vc' v' hx.1 hy.1).mono ?_
  rintro e w2 ⟨rfl, hB2⟩
  have hx2 := hx.below hB2
  have hy2 := hy.below hB2
  have e1 := cell_later hB2 c1
  have e2 := cell_later hB2 d1
  have HB := Lib.hid (Bt hB hB2)
  clear hx hy c0 c1 d0 d1 h0 h1 hB hB2
  go_wp2_with fail
  refine (same_ints w2 la _ lc la' _ lc' l' hx2.2 hy2.2).mono ?_
  rintro e w3 ⟨rfl, hB3⟩
  have HB3 := Lib.hid (Bt HB.out hB3)
  clear hB3
  go_wp2_with fail
  go_ret
  exact ⟨rfl, HB3.out⟩

/-- a council that is looked at, or not -/
def bigC (x : Co) : Bool := decide (5000 < x.v.length) || decide (5000 < x.l.length)
def cmP (x : En) : List Value := cmc x.cm
theorem en_parts {x : En} (hx : x.ok) : ∀ W z, Blk W z 38 (enc x) → W.cell? ⟨z, 0, none⟩ = some (.int .i64 x.ix) ∧ W.cell? ⟨z, 1, none⟩ = some (.int .i64 x.te) ∧ W.cell? ⟨z, 2, none⟩ = some (.int .i64 x.kd) ∧ W.rangeAt z 3 (cmc x.cm) ∧ W.rangeAt z 41 (coc x.co) := by
  intro W z h
  have hp : W.rangeAt z 0 (enc x) := h.range 0 (fun j _ => by rw [Nat.zero_add])
  have hp4 : W.rangeAt z 0 ([.int .i64 x.ix] ++ [.int .i64 x.te] ++ [.int .i64 x.kd] ++ cmc x.cm ++ coc x.co) := hp
  obtain ⟨hp3, f4⟩ := range_app (o := 41) hp4 (by simp [cmc_length (x := x.cm) hx])
  obtain ⟨hp2, f3⟩ := range_app (o := 3) hp3 (by simp)
  obtain ⟨hp1, f2⟩ := range_app (o := 2) hp2 (by simp)
  obtain ⟨hp0, f1⟩ := range_app (o := 1) hp1 (by simp)
  refine ⟨by simpa using range_cell hp0 0 (v := .int .i64 x.ix) rfl, by simpa using range_cell f1 0 (v := .int .i64 x.te) rfl, by simpa using range_cell f2 0 (v := .int .i64 x.kd) rfl, by simpa using f3, by simpa using f4⟩

set_option maxHeartbeats 2000000 in
theorem same_entry (w : World) (x y : En) (he : y.cl = x.cl) (okx : x.ok) (oky : y.ok) (hx : x.co.at w) (hy : y.co.at w) :
    Calls Tryz.prog 10 #[.agg (enc x).toArray, .agg (enc y).toArray] w fun f w' => f = .returned (.bool true) ∧ Below w.heap.size w w' := by
  obtain ⟨ix, te, kd, cm, co⟩ := x
  obtain ⟨ix', te', kd', cm', co'⟩ := y
  obtain ⟨rfl, rfl, rfl, rfl, hco⟩ : ix' = ix ∧ te' = te ∧ kd' = kd ∧ cm' = cm ∧ co'.cl = co.cl := by simp only [En.cl, En.mk.injEq] at he; exact he
  have h0 := (Blk.new w 38 (enc ⟨ix', te', kd', cm', co⟩)).alloc (.cells (enc ⟨ix', te', kd', cm', co'⟩).toArray 38)
  have h1 := Blk.new (w.alloc (.cells (enc ⟨ix', te', kd', cm', co⟩).toArray 38)) 38 (enc ⟨ix', te', kd', cm', co'⟩)
  have hz1 : (w.alloc (.cells (enc ⟨ix', te', kd', cm', co⟩).toArray 38)).heap.size = w.heap.size + 1 := by simp
  rw [hz1] at h1
  have hB : Below w.heap.size w ((w.alloc (.cells (enc ⟨ix', te', kd', cm', co⟩).toArray 38)).alloc (.cells (enc ⟨ix', te', kd', cm', co'⟩).toArray 38)) := ((Below.refl _ w).alloc (Nat.le_refl _) _).alloc (by simp) _
  have hx := hx.below hB
  have hy := hy.below hB
  obtain ⟨a0, a1, a2, a3, a4⟩ := en_parts okx _ _ h0
  obtain ⟨b0, b1, b2, b3, b4⟩ := en_parts oky _ _ h1
  simp only at a0 a1 a2 a3 a4 b0 b1 b2 b3 b4
  have heq := fun W => eqCm W cm' okx
  have I3 : Hid ((Tryz.prog.info? 27).map (·.size) = some (cmc cm').length) := Lib.hid (by rw [cmc_length okx]; kernel_rfl)
  have I4 : Hid ((Tryz.prog.info? 36).map (·.size) = some (coc co).length) := Lib.hid (by rw [coc_length trivial]; kernel_rfl)
  have I4' : Hid ((Tryz.prog.info? 36).map (·.size) = some (coc co').length) := Lib.hid (by rw [coc_length trivial]; kernel_rfl)
  clear h0 h1 he
  go_enter Tryz.func10, Tryz.ntmps10
  go_wp2_with (first
    | ((with_reducible refine wpList_loadQ (o := ⟨some 26, _, _, _, _, _⟩) ?_ w.heap.size 3 27 (.tmp 25) ?_ ?_ a3 Tryz.underlying27 ?_ I3.out ?_); rfl; rfl; rfl; rfl)
    | ((with_reducible refine wpList_loadQ (o := ⟨some 28, _, _, _, _, _⟩) ?_ (w.heap.size + 1) 3 27 (.tmp 27) ?_ ?_ b3 Tryz.underlying27 ?_ I3.out ?_); rfl; rfl; rfl; rfl)
    | ((with_reducible refine wpList_loadQ (o := ⟨some 33, _, _, _, _, _⟩) ?_ w.heap.size 41 36 (.tmp 32) ?_ ?_ a4 Tryz.underlying36 ?_ I4.out ?_); rfl; rfl; rfl; rfl)
    | ((with_reducible refine wpList_loadQ (o := ⟨some 35, _, _, _, _, _⟩) ?_ (w.heap.size + 1) 41 36 (.tmp 34) ?_ ?_ b4 Tryz.underlying36 ?_ I4'.out ?_); rfl; rfl; rfl; rfl))
  generalize ((w.alloc (.cells (enc ⟨ix', te', kd', cm', co⟩).toArray 38)).alloc (.cells (enc ⟨ix', te', kd', cm', co'⟩).toArray 38)) = w1 at *
  refine (same_council w1 co co' hco hx hy).mono ?_
  rintro e w2 ⟨rfl, hB2⟩
  have HB := Lib.hid (Bt hB hB2)
  clear hB hB2 hx hy a0 a1 a2 a3 a4 b0 b1 b2 b3 b4
  go_wp2_with fail
  go_ret
  exact ⟨rfl, HB.out⟩

end Go.Proofs.YtoclahcibilbhaaGreat
