/-
  Ref06D Ref06E Law06I, in one text.
-/
import Derived.Test.YtgbhfpkngjlfkaaDoorChkA
import Derived.Test.YtgbhfpkngjlfkaaDoorRef05B
import Derived.Test.YtgbhfpkngjlfkaaDoorRef04
import Derived.Test.YtgbhfpkngjlfkaaDoorRef06B2
namespace Go.Proofs.YtgbhfpkngjlfkaaDoor
/-! The reference of layer 6: Start, Summed. -/
section
open Go.RowKit
set_option maxRecDepth 100000

theorem built_leaf0 (f g : Fin 32 → UInt8) : Tryd.prog.built 46 [(0, .agg (bs (List.ofFn f)).toArray), (1, .agg (bs (List.ofFn g)).toArray)] = some (bs (List.ofFn f) ++ bs (List.ofFn g)).toArray := by kernel_rfl
theorem built_leafP {p v : List UInt8} (hp : p.length = 32) (hv : v.length = 32) : Tryd.prog.built 46 [(0, .agg (bs p).toArray), (1, .agg (bs v).toArray)] = some (lc ⟨p, v⟩).toArray := by
  obtain ⟨f, rfl⟩ := as_ofFn hp
  obtain ⟨g, rfl⟩ := as_ofFn hv
  exact built_leaf0 f g

/-- bytes that a call hands back -/
def BytesPostR (w : World) (q : List UInt8) (e : Ending) (w' : World) : Prop := ∃ a m c, e = .returned (.slice a m c) ∧ Hid (q.length = m) ∧ Rd w' a m c q ∧ Below w.heap.size w w'

set_option maxHeartbeats 2000000 in
theorem start_ref (w : World) (p : List UInt8) (hp : p.length = 32) (b : Bool) (v : List UInt8) (hv : v.length = 32) (a : Option Addr) (n c : Nat) (X : Pf) (hx : X.ok) :
    Calls Tryd.prog 46 #[.agg (bs p).toArray, .agg (clc b v).toArray, .agg (pc a n c X).toArray] w (BytesPostR w (startB p b v X)) := by
  have hS := Bx3.start w w (Below.refl _ w) p b v (pc a n c X)
  have k0 := hS.c0
  have k1 := hS.x1
  have r0 := hS.pr
  have r1 := hS.cv
  have r2 := hS.xp
  have r3 := hS.xv hx.p
  have hB := hS.bel
  have H5 := Lib.hid (digP hp)
  have H6 := Lib.hid (digP hv)
  have H7 := Lib.hid (digP hx.p)
  have H8 := Lib.hid (digP hx.v)
  have B1 := Lib.hid (built_leafP hp hv)
  have B2 := Lib.hid (built_leafP hx.p hx.v)
  have L1 := Lib.hid (fun W : World => leafBytes_ref W ⟨p, v⟩ ⟨hp, hv⟩)
  have L2 := Lib.hid (fun W : World => leafBytes_ref W ⟨X.op, X.ov⟩ ⟨hx.p, hx.v⟩)
  have HE : Hid (startB p b v X = if b then [0] ++ p ++ v else if X.other then [0] ++ X.op ++ X.ov else [2]) := Lib.hid (by simp [startB])
  have FIN : Hid (∀ (W : World) (a' : Option Addr) (m c' : Nat) (q : List UInt8), startB p b v X = q → q.length = m → Rd W a' m c' q → Below w.heap.size w W → BytesPostR w (startB p b v X) (.returned (.slice a' m c')) W) := Lib.hid (fun W a' m c' q h1 h2 h3 h4 => ⟨a', m, c', rfl, Lib.hid (by rw [h1]; exact h2), by rw [h1]; exact h3, h4⟩)
  have hl1 : Hid (([0] ++ p ++ v).length = 65) := Lib.hid (by simp [hp, hv])
  have hl2 : Hid (([0] ++ X.op ++ X.ov).length = 65) := Lib.hid (by simp [hx.p, hx.v])
  clear hS hp hv hx
  generalize BytesPostR w (startB p b v X) = RP at *
  generalize startB p b v X = SB at *
  generalize clc b v = C at *
  generalize pc a n c X = P at *
  generalize X.other = ot at *
  generalize X.op = xo at *
  generalize X.ov = xv at *
  generalize hw0 : ((w.alloc (.cells (bs p).toArray 23)).alloc (.cells C.toArray 25)).alloc (.cells P.toArray 28) = w0 at *
  go_enter Tryd.func46, Tryd.ntmps46
  cases b with
  | true =>
    have HQ : Hid (SB = [0] ++ p ++ v) := Lib.hid (by rw [HE.out]; rfl)
    go_wp2_with (first
      | ((with_reducible refine wpList_loadP (o := ⟨some 9, _, _, _, _, _⟩) ?_ w.heap.size 0 23 (.tmp 3) ?_ ?_ r0 Tryd.underlying23 ?_ H5.out ?_); rfl; rfl; rfl; rfl)
      | ((with_reducible refine wpList_loadP (o := ⟨some 11, _, _, _, _, _⟩) ?_ (w.heap.size + 1) 1 23 (.tmp 10) ?_ ?_ r1 Tryd.underlying23 ?_ H6.out ?_); rfl; rfl; rfl; rfl)
      | ((with_reducible refine wpList_buildI (dst := some 12) B1.out ?_ ?_); rfl))
    refine (L1.out _).mono ?_
    rintro e w1 ⟨a1, c1, rfl, hR1, hB1⟩
    go_wp2_with fail
    exact FIN.out _ _ _ _ _ HQ.out hl1.out hR1 (Bt hB hB1)
  | false =>
    cases ot with
    | true =>
      have HQ : Hid (SB = [0] ++ xo ++ xv) := Lib.hid (by rw [HE.out]; rfl)
      go_wp2_with (first
        | ((with_reducible refine wpList_loadP (o := ⟨some 17, _, _, _, _, _⟩) ?_ (w.heap.size + 2) 2 23 (.tmp 16) ?_ ?_ r2 Tryd.underlying23 ?_ H7.out ?_); rfl; rfl; rfl; rfl)
        | ((with_reducible refine wpList_loadP (o := ⟨some 19, _, _, _, _, _⟩) ?_ (w.heap.size + 2) 34 23 (.tmp 18) ?_ ?_ r3 Tryd.underlying23 ?_ H8.out ?_); rfl; rfl; rfl; rfl)
        | ((with_reducible refine wpList_buildI (dst := some 20) B2.out ?_ ?_); rfl))
      refine (L2.out _).mono ?_
      rintro e w1 ⟨a1, c1, rfl, hR1, hB1⟩
      go_wp2_with fail
      exact FIN.out _ _ _ _ _ HQ.out hl2.out hR1 (Bt hB hB1)
    | false =>
      have HQ : Hid (SB = [2]) := Lib.hid (by rw [HE.out]; rfl)
      go_wp2_with ((with_reducible refine wpList_oneU (o := ⟨some 22, _, _, _, _, _⟩) ?_ (.const (.int .u8 2)) ?_ (k := 2) ?_ w0.heap.size (Nat.le_refl _) ?_); rfl; rfl; rfl; intro w3 hO3 hB3 hz3)
      exact FIN.out _ _ _ _ _ HQ.out rfl hO3.rd (Bt hB hB3)

/-- what is summed from a place on, down to another one -/
def sumF (x : Nat) (p : List UInt8) (sibs : List (List UInt8)) (at_ : Nat) : Nat → List UInt8 → List UInt8
  | 0, b => b
  | k + 1, b => if k < at_ then b else sumF x p sibs at_ k (innerB p k (shortB x b) (sibs.getD k []))
theorem sumF_less (x : Nat) (p : List UInt8) (sibs : List (List UInt8)) (at_ k : Nat) (b : List UInt8) (h : k ≤ at_) : sumF x p sibs at_ k b = b := by
  cases k with
  | zero => rfl
  | succ k => rw [sumF, if_pos (by omega)]
theorem sumF_more (x : Nat) (p : List UInt8) (sibs : List (List UInt8)) (at_ k : Nat) (b : List UInt8) (h : at_ ≤ k) : sumF x p sibs at_ (k + 1) b = sumF x p sibs at_ k (innerB p k (shortB x b) (sibs.getD k [])) := by
  rw [sumF, if_neg (by omega)]

set_option maxHeartbeats 4000000 in
theorem summed_ref (w : World) (x : Nat) (hx : x ≤ 32) (p : List UInt8) (hp : p.length = 32) (b : Bool) (v : List UInt8) (hv : v.length = 32) (a : Option Addr) (n c : Nat) (X : Pf) (hr : RdP6 w a n c X) (hn : n ≤ 256) (hT : Tab w 0) (t : Nat) :
    Calls Tryd.prog 26 #[.int .i64 (x : Int), .agg (bs p).toArray, .agg (clc b v).toArray, .agg (pc a n c X).toArray, .int .i64 (t : Int)] w (BytesPostR w (sumF x p X.sibs t n (startB p b v X))) := by
  have hS := Bx3.start w w (Below.refl _ w) p b v (pc a n c X)
  have HS := Lib.hid hS
  have HB := Lib.hid hS.bel
  have k3 := hS.x0
  have r1 := hS.p.allR
  have r2 := hS.c.allR
  have r3 := hS.x.allR
  have h5 := Lib.hid (digP hp)
  have h6 := Lib.hid (infoClc (b := b) hv)
  have h7 := Lib.hid (size_of (a := a) (n := n) (c := c) hr.ok)
  have hlen := Lib.hid hr.sib.len
  have HR := Lib.hid hr.sib
  have HT := Lib.hid hT
  have HX := Lib.hid hr.ok
  have ST := Lib.hid (fun W : World => start_ref W p hp b v hv a n c X hr.ok)
  have HSL : Hid ((startB p b v X).length ≤ 65) := Lib.hid (by rw [startB_len hp hv hr.ok]; split <;> omega)
  have hwn : IntKind.i64.wrap ((n : Int) - 1) = (n : Int) - 1 := IntWalk.i64_in _ (by omega)
  have SH := Lib.hid (fun (W : World) (a : Option Addr) (n c : Nat) (l : List UInt8) (hr : Rd W a n c l) (hT : Tab W 0) (hn : n ≤ 1000000) => short_ref W x hx a n c l hr hT hn)
  have HSB := Lib.hid (fun q : List UInt8 => shortB_length x q hx)
  have AT := Lib.hid (fun (W : World) (i : Nat) (hi : i < 256) => at_ref W p hp i hi)
  have HC0 : Hid ((pc a n c X)[0]? = some (.slice a n c)) := Lib.hid rfl
  clear hS hr hT hp hv hx
  generalize hC : clc b v = C at *
  generalize hP : pc a n c X = P at *
  generalize hw0 : ((w.alloc (.cells (bs p).toArray 23)).alloc (.cells C.toArray 25)).alloc (.cells P.toArray 28) = w0 at *
  generalize startB p b v X = q0 at *
  go_enter Tryd.func26, Tryd.ntmps26
  go_wp2_with (first
    | ((with_reducible refine wpList_loadP (o := ⟨some 15, _, _, _, _, _⟩) ?_ w.heap.size 0 23 (.tmp 6) ?_ ?_ r1 Tryd.underlying23 ?_ h5.out ?_); rfl; rfl; rfl; rfl)
    | ((with_reducible refine wpList_loadP (o := ⟨some 16, _, _, _, _, _⟩) ?_ (w.heap.size + 1) 0 25 (.tmp 7) ?_ ?_ r2 Tryd.underlying25 ?_ h6.out ?_); rfl; rfl; rfl; rfl)
    | ((with_reducible refine wpList_loadP (o := ⟨some 17, _, _, _, _, _⟩) ?_ (w.heap.size + 2) 0 28 (.tmp 8) ?_ ?_ r3 Tryd.underlying28 ?_ h7.out ?_); rfl; rfl; rfl; rfl))
  refine (ST.out _).mono ?_
  rintro e w1 ⟨a1, m1, c1, rfl, hm1, hR1, hB1⟩
  have hS1 := HS.out.below hB1
  have k4 := hS1.x.cell HC0.out
  have HB1 := Lib.hid (Bt HB.out hB1)
  clear r1 r2 r3 k3
  go_wp2_with fail
  go_loopw [11, 12] (fun bv iv wr => ∃ (k : Nat) (z : Int) (q : List UInt8) (a' : Option Addr) (m' c' : Nat), k ≤ n ∧ bv = .slice a' m' c' ∧ iv = .int .i64 z ∧ z = (k : Int) - 1 ∧ Rd wr a' m' c' q ∧ Hid (q.length = m') ∧ m' ≤ 65 ∧ Below w1.heap.size w1 wr ∧
      Hid (sumF x p X.sibs t n q0 = sumF x p X.sibs t k q)) (fun _ iv _ => (intOf iv + 1).toNat)
  case atStart => exact ⟨n, (n : Int) - 1, q0, a1, m1, c1, Nat.le_refl _, rfl, rfl, rfl, hR1, hm1, by rw [← hm1.out]; exact HSL.out, Below.refl _ _, Lib.hid rfl⟩
  case round =>
    obtain ⟨k, z, q, a', m', c', hk, rfl, rfl, hz, hRq, hql, hm', hBr, hch⟩ := hrel
    by_cases hge : (t : Int) ≤ z
    · obtain ⟨j, rfl⟩ : ∃ j, k = j + 1 := ⟨k - 1, by omega⟩
      obtain rfl : z = (j : Int) := by omega
      clear hz
      have hjt : t ≤ j := by omega
      have hj2 : j < 256 := by omega
      have hjn : (j : Int) < (n : Int) := by omega
      have hSr := Lib.hid (hS1.below hBr)
      have HBw := Lib.hid (Bt HB1.out hBr)
      have hTr := HT.out.below HBw.out
      have S5 := Lib.hid (SH.out wr a' m' c' q hRq hTr (by omega))
      have hdl := Lib.hid (HSB.out q)
      have HD5 := Lib.hid (digP hdl.out)
      have HDO := Lib.hid (bs_one (shortB x q))
      have HDL := Lib.hid (show (bs zero32).length = (bs (shortB x q)).length by rw [bs_length, bs_length, hdl.out, zero32_length])
      obtain ⟨bb, off, hae, -, hel⟩ := (HR.out.below HBw.out).elems (by omega)
      subst hae
      have hel5 := Lib.hid (hel j (by omega))
      have hek := HX.out.d.at (i := j) (by rw [hlen.out]; omega)
      have HEK := Lib.hid (digP hek)
      have hwj : IntKind.i64.wrap ((j : Int) - 1) = (j : Int) - 1 := IntWalk.i64_in _ (by omega)
      have HIE : Hid (innerB p j (shortB x q) (X.sibs.getD j []) = if bitAt p j = 1 then [1] ++ X.sibs.getD j [] ++ shortB x q else [1] ++ shortB x q ++ X.sibs.getD j []) := Lib.hid (by simp [innerB])
      have HIN := Lib.hid (innerB_len (p := p) (i := j) hdl.out hek)
      have N1 := Lib.hid (fun W : World => nodeBytes_ref W (shortB x q) (X.sibs.getD j []) hdl.out hek)
      have N2 := Lib.hid (fun W : World => nodeBytes_ref W (X.sibs.getD j []) (shortB x q) hek hdl.out)
      have hch6 : Hid (sumF x p X.sibs t n q0 = sumF x p X.sibs t j (innerB p j (shortB x q) (X.sibs.getD j []))) := Lib.hid (by rw [hch.out, sumF_more _ _ _ _ _ _ hjt])
      have hbit : bitAt p j = 0 ∨ bitAt p j = 1 := by have := bitAt_lt p j; omega
      have A5 := Lib.hid (fun W : World => AT.out W j hj2)
      have rp := hSr.out.p.allR
      clear hRq hTr hel hek hch SH HSB ST hS1 hR1 hB1
      generalize innerB p j (shortB x q) (X.sibs.getD j []) = ib at *
      generalize X.sibs.getD j [] = sb at *
      generalize shortB x q = dg at *
      generalize bitAt p j = bt at *
      go_wp2_with fail
      refine (S5.out).mono ?_
      rintro e w2 ⟨rfl, hB2⟩
      have rp2 := range_below hB2 rp
      clear rp
      go_wp2_with (first
        | ((with_reducible refine wpList_allocB (o := ⟨some 13, _, _, _, _, _⟩) ?_ 23 ?_ zeroD_info ?_); rfl; rfl; intro w3 hb3 hg3 hz3)
        | ((with_reducible refine wpList_storeB (o := ⟨none, .store 23 (.tmp 13) (.tmp 32), _, _, _, _⟩) ?_ 23 (.tmp 13) (.tmp 32) ?_ ?_ ?_ hb3 HD5.out HDL.out HDO.out ?_); rfl; rfl; rfl; rfl; intro w4 hb4 hg4 hz4;
            have hB24 : Below w2.heap.size w2 w4 := ((Below.refl _ w2).grown hg3 (Nat.le_refl _) (fun k e => by cases e)).grown hg4 (by omega) (fun k e => by cases e; exact Nat.le_refl _); have rp4 := range_below hB24 rp2)
        | ((with_reducible refine wpList_loadP (o := ⟨some 34, _, _, _, _, _⟩) ?_ w.heap.size 0 23 (.tmp 6) ?_ ?_ rp4 Tryd.underlying23 ?_ h5.out ?_); rfl; rfl; rfl; rfl))
      refine (A5.out _).mono ?_
      rintro e w5 ⟨rfl, hB5⟩
      have hB25 := Bt hB2 (Bt hB24 hB5)
      have hS5 := Lib.hid (hSr.out.below hB25)
      have hel6 := Lib.hid (range_below hB25 hel5.out)
      have hb5 := Lib.hid (hb4.below hB5)
      have HBr5 := Lib.hid (Bt hBr hB25)
      clear hb4 hb3 hg3 hg4 hB24 hB5 hB2 rp2 rp4 hBr hSr hel5 hB25
      rcases hbit with rfl | rfl
      · have HQ : Hid (ib = [1] ++ dg ++ sb) := Lib.hid (by rw [HIE.out]; rfl)
        go_wp2_with fail
        -- REGION sum0 8
        refine wp_region_held_drew (S := fun W => Below w5.heap.size w5 W) (by kernel_rfl) (Below.refl _ w5).drew (fun hHeld => ?_)
        refine wpAnyH_take (i := 0) (oi := ⟨some 38, .load 23 (.tmp 13), _, _, _, none⟩) (v := .agg (bs dg).toArray) rfl (by kernel_rfl) (by kernel_rfl) (by kernel_rfl) (fun _ _ _ h => h) (yieldsIf_load_mid (by rfl) _ _ rfl w2.heap.size 0 rfl (bs dg) _ (fun W h => (hb5.out.below h).allR) Tryd.underlying23 rfl HD5.out) hHeld ?_
        try simp only [Act.put, List.setIfInBounds_toArray, List.set_cons_zero, List.set_cons_succ]
        refine wpAnyH_take (i := 1) (oi := ⟨some 39, .fieldAddr 28 (.tmp 8) 0, _, _, _, none⟩) (v := ?_) rfl (by kernel_rfl) (by kernel_rfl) (by kernel_rfl) (fun _ _ _ h => h) (Or.inl ⟨by rfl, ?_⟩) hHeld ?_
        rotate_left
        · intro W _; go_simp; try with_reducible rfl
        try simp only [Act.put, List.setIfInBounds_toArray, List.set_cons_zero, List.set_cons_succ]
        refine wpAnyH_take (i := 2) (oi := ⟨some 40, .load 26 (.tmp 39), _, _, _, none⟩) (v := ?_) rfl (by kernel_rfl) (by kernel_rfl) (by kernel_rfl) (fun _ _ _ h => h) (Or.inl ⟨by rfl, ?_⟩) hHeld ?_
        rotate_left
        · intro W h; have h0 := (hS5.out.below h).x.cell HC0.out; go_simp; try with_reducible rfl
        try simp only [Act.put, List.setIfInBounds_toArray, List.set_cons_zero, List.set_cons_succ]
        refine wpAnyH_take (i := 3) (oi := ⟨some 41, .move (.tmp 12), _, _, _, none⟩) (v := ?_) rfl (by kernel_rfl) (by kernel_rfl) (by kernel_rfl) (fun _ _ _ h => h) (Or.inl ⟨by rfl, ?_⟩) hHeld ?_
        rotate_left
        · intro W _; go_simp; try with_reducible rfl
        try simp only [Act.put, List.setIfInBounds_toArray, List.set_cons_zero, List.set_cons_succ]
        refine wpAnyH_take (i := 4) (oi := ⟨some 42, .indexAddr 26 (.tmp 40) (.tmp 41), _, _, _, none⟩) (v := ?_) rfl (by kernel_rfl) (by kernel_rfl) (by kernel_rfl) (fun _ _ _ h => h) (Or.inl ⟨by rfl, ?_⟩) hHeld ?_
        rotate_left
        · intro W _; go_simp; try with_reducible rfl
        try simp only [Act.put, List.setIfInBounds_toArray, List.set_cons_zero, List.set_cons_succ]
        refine wpAnyH_take (i := 5) (oi := ⟨some 43, .load 23 (.tmp 42), _, _, _, none⟩) (v := .agg (bs sb).toArray) rfl (by kernel_rfl) (by kernel_rfl) (by kernel_rfl) (fun _ _ _ h => h) (yieldsIf_load_mid (by rfl) _ _ rfl bb (off + j * 32) rfl (bs sb) _ (fun W h => (range_below h hel6.out)) Tryd.underlying23 rfl HEK.out) hHeld ?_
        try simp only [Act.put, List.setIfInBounds_toArray, List.set_cons_zero, List.set_cons_succ]
        refine wpAnyH_ready (rs := [6]) (by kernel_rfl) (by simp) ?_
        refine AllReadyH.cons (o := ⟨some 44, .call { callee := .value (.func 48), args := #[.tmp 38, .tmp 43], argTypes := #[23, 23] }, _, _, _, none⟩) rfl (fun K hK => ?_) AllReadyH.nil
        refine step_ofR (by rfl) ?_
        go_simp
        refine (N1.out _).mono ?_
        rintro ee W6 ⟨a6, c6, rfl, hR6, hb6⟩
        refine hK.out _ _ (Bt hHeld hb6) (fun hHeld => ?_)
        clear hK K
        try simp only [Act.put, List.setIfInBounds_toArray, List.set_cons_zero, List.set_cons_succ]
        refine wpAnyH_ready (rs := [7]) (by kernel_rfl) (by simp) ?_
        refine AllReadyH.cons (o := ⟨some 11, .assign (.tmp 44), _, _, _, none⟩) rfl (fun K hK => ?_) AllReadyH.nil
        refine step_ofR (by rfl) ?_
        go_simp
        refine hK.out _ _ (hHeld) (fun hHeld => ?_)
        clear hK K
        try simp only [Act.put, List.setIfInBounds_toArray, List.set_cons_zero, List.set_cons_succ]
        refine wpAnyH_done (by kernel_rfl) ?_ _
        -- END sum0
        have hBd := Bt HBr5.out hHeld
        clear hHeld
        go_wp2_with fail
        go_roundw
        case rel => exact ⟨j, (j : Int) - 1, ib, a6, 65, c6, by omega, rfl, by go_num, rfl, by rw [HQ.out]; exact hR6, HIN, Nat.le_refl _, hBd, hch6⟩
        case measure => simp [intOf]
      · have HQ : Hid (ib = [1] ++ sb ++ dg) := Lib.hid (by rw [HIE.out]; rfl)
        go_wp2_with fail
        -- REGION sum1 8
        refine wp_region_held_drew (S := fun W => Below w5.heap.size w5 W) (by kernel_rfl) (Below.refl _ w5).drew (fun hHeld => ?_)
        refine wpAnyH_take (i := 0) (oi := ⟨some 45, .fieldAddr 28 (.tmp 8) 0, _, _, _, none⟩) (v := ?_) rfl (by kernel_rfl) (by kernel_rfl) (by kernel_rfl) (fun _ _ _ h => h) (Or.inl ⟨by rfl, ?_⟩) hHeld ?_
        rotate_left
        · intro W _; go_simp; try with_reducible rfl
        try simp only [Act.put, List.setIfInBounds_toArray, List.set_cons_zero, List.set_cons_succ]
        refine wpAnyH_take (i := 1) (oi := ⟨some 46, .load 26 (.tmp 45), _, _, _, none⟩) (v := ?_) rfl (by kernel_rfl) (by kernel_rfl) (by kernel_rfl) (fun _ _ _ h => h) (Or.inl ⟨by rfl, ?_⟩) hHeld ?_
        rotate_left
        · intro W h; have h0 := (hS5.out.below h).x.cell HC0.out; go_simp; try with_reducible rfl
        try simp only [Act.put, List.setIfInBounds_toArray, List.set_cons_zero, List.set_cons_succ]
        refine wpAnyH_take (i := 2) (oi := ⟨some 47, .move (.tmp 12), _, _, _, none⟩) (v := ?_) rfl (by kernel_rfl) (by kernel_rfl) (by kernel_rfl) (fun _ _ _ h => h) (Or.inl ⟨by rfl, ?_⟩) hHeld ?_
        rotate_left
        · intro W _; go_simp; try with_reducible rfl
        try simp only [Act.put, List.setIfInBounds_toArray, List.set_cons_zero, List.set_cons_succ]
        refine wpAnyH_take (i := 3) (oi := ⟨some 48, .indexAddr 26 (.tmp 46) (.tmp 47), _, _, _, none⟩) (v := ?_) rfl (by kernel_rfl) (by kernel_rfl) (by kernel_rfl) (fun _ _ _ h => h) (Or.inl ⟨by rfl, ?_⟩) hHeld ?_
        rotate_left
        · intro W _; go_simp; try with_reducible rfl
        try simp only [Act.put, List.setIfInBounds_toArray, List.set_cons_zero, List.set_cons_succ]
        refine wpAnyH_take (i := 4) (oi := ⟨some 49, .load 23 (.tmp 48), _, _, _, none⟩) (v := .agg (bs sb).toArray) rfl (by kernel_rfl) (by kernel_rfl) (by kernel_rfl) (fun _ _ _ h => h) (yieldsIf_load_mid (by rfl) _ _ rfl bb (off + j * 32) rfl (bs sb) _ (fun W h => (range_below h hel6.out)) Tryd.underlying23 rfl HEK.out) hHeld ?_
        try simp only [Act.put, List.setIfInBounds_toArray, List.set_cons_zero, List.set_cons_succ]
        refine wpAnyH_take (i := 5) (oi := ⟨some 50, .load 23 (.tmp 13), _, _, _, none⟩) (v := .agg (bs dg).toArray) rfl (by kernel_rfl) (by kernel_rfl) (by kernel_rfl) (fun _ _ _ h => h) (yieldsIf_load_mid (by rfl) _ _ rfl w2.heap.size 0 rfl (bs dg) _ (fun W h => (hb5.out.below h).allR) Tryd.underlying23 rfl HD5.out) hHeld ?_
        try simp only [Act.put, List.setIfInBounds_toArray, List.set_cons_zero, List.set_cons_succ]
        refine wpAnyH_ready (rs := [6]) (by kernel_rfl) (by simp) ?_
        refine AllReadyH.cons (o := ⟨some 51, .call { callee := .value (.func 48), args := #[.tmp 49, .tmp 50], argTypes := #[23, 23] }, _, _, _, none⟩) rfl (fun K hK => ?_) AllReadyH.nil
        refine step_ofR (by rfl) ?_
        go_simp
        refine (N2.out _).mono ?_
        rintro ee W6 ⟨a6, c6, rfl, hR6, hb6⟩
        refine hK.out _ _ (Bt hHeld hb6) (fun hHeld => ?_)
        clear hK K
        try simp only [Act.put, List.setIfInBounds_toArray, List.set_cons_zero, List.set_cons_succ]
        refine wpAnyH_ready (rs := [7]) (by kernel_rfl) (by simp) ?_
        refine AllReadyH.cons (o := ⟨some 11, .assign (.tmp 51), _, _, _, none⟩) rfl (fun K hK => ?_) AllReadyH.nil
        refine step_ofR (by rfl) ?_
        go_simp
        refine hK.out _ _ (hHeld) (fun hHeld => ?_)
        clear hK K
        try simp only [Act.put, List.setIfInBounds_toArray, List.set_cons_zero, List.set_cons_succ]
        refine wpAnyH_done (by kernel_rfl) ?_ _
        -- END sum1
        have hBd := Bt HBr5.out hHeld
        clear hHeld
        go_wp2_with fail
        go_roundw
        case rel => exact ⟨j, (j : Int) - 1, ib, a6, 65, c6, by omega, rfl, by go_num, rfl, by rw [HQ.out]; exact hR6, HIN, Nat.le_refl _, hBd, hch6⟩
        case measure => simp [intOf]
    · have hgf : ¬ (t : Int) ≤ z := hge
      have hfin : sumF x p X.sibs t n q0 = q := by rw [hch.out, sumF_less _ _ _ _ _ _ (by omega)]
      have hBf := Bt HB1.out hBr
      have hlq := hql.out
      clear hz hch
      go_wp2_with fail
      go_ret
      exact ⟨a', m', c', rfl, Lib.hid hlq, hRq, hBf⟩
end
/-! The reference of layer 6: May, Check. -/
section
open Go.RowKit
set_option maxRecDepth 100000

set_option maxHeartbeats 4000000 in
theorem may_ref (w : World) (p : List UInt8) (hp : p.length = 32) (b : Bool) (v : List UInt8) (a : Option Addr) (n c : Nat) (X : Pf) (hx : X.ok) (hn : X.sibs.length = n) :
    Calls Tryd.prog 24 #[.agg (bs p).toArray, .agg (clc b v).toArray, .agg (pc a n c X).toArray] w fun e w' => e = .returned (.bool (suitsB p b X)) ∧ Below w.heap.size w w' := by
  have hS := Bx3.start w w (Below.refl _ w) p b v (pc a n c X)
  have hB := Lib.hid hS.bel
  have r3 := hS.x.allR
  have c0 := hS.x1
  have cb := hS.c0
  have cx := hS.x0
  have rxp := hS.xp
  have HS := Lib.hid hS
  have h5 := Lib.hid (digP hp)
  have h6 := Lib.hid (digP hx.p)
  have h7 := Lib.hid (size_of (a := a) (n := n) (c := c) hx)
  have HF := Lib.hid (fun W : World => plain_ref W a n c X hx)
  have HC := Lib.hid (fun W : World => common_ref W p X.op hp hx.p)
  have HE : Hid (suitsB p b X = (decide (n ≤ 256) && plainB X && (!X.other || (!b && (X.op != p && decide (n ≤ comm p X.op)))))) := Lib.hid (by rw [suitsB, formB, hn, comm_symm p])
  have HNE := Lib.hid (fun (v : Bool) (hv : (X.op != p) = v) => neqRun X.op p hx.p hp hv)
  have HL0 : Hid ((pc a n c X)[0]? = some (.slice a n c)) := Lib.hid rfl
  have HL1 : Hid ((pc a n c X)[1]? = some (.bool X.other)) := Lib.hid rfl
  clear hS hp hx hn
  generalize hS0 : ((w.alloc (.cells (bs p).toArray 23)).alloc (.cells (clc b v).toArray 25)).alloc (.cells (pc a n c X).toArray 28) = w0 at *
  generalize hFB : plainB X = fb at *
  generalize hOT : X.other = ot at *
  generalize comm p X.op = cm at *
  generalize suitsB p b X = R at *
  go_enter Tryd.func24, Tryd.ntmps24
  generalize hP : pc a n c X = P at *
  by_cases hn : n ≤ 256
  · have hn' : ¬ (256 : Int) < (n : Int) := by omega
    have hnb : decide (n ≤ 256) = true := by simpa using hn
    rw [hnb] at HE
    clear hn hnb
    cases b with
    | true =>
      cases ot with
      | true =>
        have HE2 : Hid (R = false) := Lib.hid (by rw [HE.out]; simp)
        go_wp2_with fail
        go_ret
        exact ⟨by rw [HE2.out]; rfl, hB.out⟩
      | false =>
        go_wp2_with ((with_reducible refine wpList_loadP (o := ⟨some 20, _, _, _, _, _⟩) ?_ (w.heap.size + 2) 0 28 (.tmp 5) ?_ ?_ r3 Tryd.underlying28 ?_ h7.out ?_); rfl; rfl; rfl; rfl)
        refine (HF.out _).mono ?_
        rintro e w1 ⟨rfl, hB1⟩
        have hBw := Bt hB.out hB1
        have HS1 := Lib.hid (HS.out.below hB1)
        have c1 := cell_later hB1 c0
        clear r3 c0 hB1 HF cb cx rxp
        cases fb with
        | false =>
          have HE2 : Hid (R = false) := Lib.hid (by rw [HE.out]; simp)
          go_wp2_with fail
          go_ret
          exact ⟨by rw [HE2.out]; rfl, hBw⟩
        | true =>
          have HE2 : Hid (R = true) := Lib.hid (by rw [HE.out]; simp)
          go_wp2_with fail
          -- REGION mayA 10
          refine wp_region_held_drew (S := fun W => Below w1.heap.size w1 W) (by kernel_rfl) (Below.refl _ w1).drew (fun hHeld => ?_)
          refine wpAnyH_take (i := 0) (oi := ⟨some 24, .fieldAddr 28 (.tmp 5) 1, _, _, _, none⟩) (v := ?_) rfl (by kernel_rfl) (by kernel_rfl) (by kernel_rfl) (fun _ _ _ h => h) (Or.inl ⟨by rfl, ?_⟩) hHeld ?_
          rotate_left
          · intro W _; go_simp; try with_reducible rfl
          try simp only [Act.put, List.setIfInBounds_toArray, List.set_cons_zero, List.set_cons_succ]
          refine wpAnyH_take (i := 1) (oi := ⟨some 25, .load 4 (.tmp 24), _, _, _, none⟩) (v := ?_) rfl (by kernel_rfl) (by kernel_rfl) (by kernel_rfl) (fun _ _ _ h => h) (Or.inl ⟨by rfl, ?_⟩) hHeld ?_
          rotate_left
          · intro W h; have h0 := (HS1.out.below h).x.cell HL1.out; go_simp; try with_reducible rfl
          try simp only [Act.put, List.setIfInBounds_toArray, List.set_cons_zero, List.set_cons_succ]
          refine wpAnyH_take (i := 2) (oi := ⟨some 26, .unOp .not 4 (.tmp 25), _, _, _, none⟩) (v := ?_) rfl (by kernel_rfl) (by kernel_rfl) (by kernel_rfl) (fun _ _ _ h => h) (Or.inl ⟨by rfl, ?_⟩) hHeld ?_
          rotate_left
          · intro W _; go_simp; try with_reducible rfl
          try simp only [Act.put, List.setIfInBounds_toArray, List.set_cons_zero, List.set_cons_succ]
          refine wpAnyH_take (i := 3) (oi := ⟨some 27, .move (.tmp 26), _, _, _, none⟩) (v := ?_) rfl (by kernel_rfl) (by kernel_rfl) (by kernel_rfl) (fun _ _ _ h => h) (Or.inl ⟨by rfl, ?_⟩) hHeld ?_
          rotate_left
          · intro W _; go_simp; try with_reducible rfl
          try simp only [Act.put, List.setIfInBounds_toArray, List.set_cons_zero, List.set_cons_succ]
          refine wpAnyH_take (i := 4) (oi := ⟨some 28, .fieldAddr 28 (.tmp 5) 2, _, _, _, some (3, false)⟩) (v := undef) rfl (by kernel_rfl) (by kernel_rfl) (by kernel_rfl) (fun _ _ _ h => h) (Or.inr ⟨by rfl, rfl⟩) hHeld ?_
          try simp only [Act.put, List.setIfInBounds_toArray, List.set_cons_zero, List.set_cons_succ]
          refine wpAnyH_take (i := 5) (oi := ⟨some 29, .load 23 (.tmp 28), _, _, _, some (3, false)⟩) (v := undef) rfl (by kernel_rfl) (by kernel_rfl) (by kernel_rfl) (fun _ _ _ h => h) (Or.inr ⟨by rfl, rfl⟩) hHeld ?_
          try simp only [Act.put, List.setIfInBounds_toArray, List.set_cons_zero, List.set_cons_succ]
          refine wpAnyH_take (i := 6) (oi := ⟨some 30, .load 23 (.tmp 3), _, _, _, some (3, false)⟩) (v := undef) rfl (by kernel_rfl) (by kernel_rfl) (by kernel_rfl) (fun _ _ _ h => h) (Or.inr ⟨by rfl, rfl⟩) hHeld ?_
          try simp only [Act.put, List.setIfInBounds_toArray, List.set_cons_zero, List.set_cons_succ]
          refine wpAnyH_take (i := 7) (oi := ⟨some 31, .binOp .neq 23 (.tmp 29) (.tmp 30) 23, _, _, _, some (3, false)⟩) (v := undef) rfl (by kernel_rfl) (by kernel_rfl) (by kernel_rfl) (fun _ _ _ h => h) (Or.inr ⟨by rfl, rfl⟩) hHeld ?_
          try simp only [Act.put, List.setIfInBounds_toArray, List.set_cons_zero, List.set_cons_succ]
          refine wpAnyH_take (i := 8) (oi := ⟨some 32, .move (.tmp 31), _, _, _, some (3, false)⟩) (v := undef) rfl (by kernel_rfl) (by kernel_rfl) (by kernel_rfl) (fun _ _ _ h => h) (Or.inr ⟨by rfl, rfl⟩) hHeld ?_
          try simp only [Act.put, List.setIfInBounds_toArray, List.set_cons_zero, List.set_cons_succ]
          refine wpAnyH_take (i := 9) (oi := ⟨some 33, .load 23 (.tmp 3), _, _, _, some (8, true)⟩) (v := undef) rfl (by kernel_rfl) (by kernel_rfl) (by kernel_rfl) (fun _ _ _ h => h) (Or.inr ⟨by rfl, rfl⟩) hHeld ?_
          try simp only [Act.put, List.setIfInBounds_toArray, List.set_cons_zero, List.set_cons_succ]
          refine wpAnyH_take (i := 10) (oi := ⟨some 34, .fieldAddr 28 (.tmp 5) 2, _, _, _, some (8, true)⟩) (v := undef) rfl (by kernel_rfl) (by kernel_rfl) (by kernel_rfl) (fun _ _ _ h => h) (Or.inr ⟨by rfl, rfl⟩) hHeld ?_
          try simp only [Act.put, List.setIfInBounds_toArray, List.set_cons_zero, List.set_cons_succ]
          refine wpAnyH_take (i := 11) (oi := ⟨some 35, .load 23 (.tmp 34), _, _, _, some (8, true)⟩) (v := undef) rfl (by kernel_rfl) (by kernel_rfl) (by kernel_rfl) (fun _ _ _ h => h) (Or.inr ⟨by rfl, rfl⟩) hHeld ?_
          try simp only [Act.put, List.setIfInBounds_toArray, List.set_cons_zero, List.set_cons_succ]
          refine wpAnyH_take (i := 13) (oi := ⟨some 37, .fieldAddr 28 (.tmp 5) 0, _, _, _, some (8, true)⟩) (v := undef) rfl (by kernel_rfl) (by kernel_rfl) (by kernel_rfl) (fun _ _ _ h => h) (Or.inr ⟨by rfl, rfl⟩) hHeld ?_
          try simp only [Act.put, List.setIfInBounds_toArray, List.set_cons_zero, List.set_cons_succ]
          refine wpAnyH_take (i := 14) (oi := ⟨some 38, .load 26 (.tmp 37), _, _, _, some (8, true)⟩) (v := undef) rfl (by kernel_rfl) (by kernel_rfl) (by kernel_rfl) (fun _ _ _ h => h) (Or.inr ⟨by rfl, rfl⟩) hHeld ?_
          try simp only [Act.put, List.setIfInBounds_toArray, List.set_cons_zero, List.set_cons_succ]
          refine wpAnyH_take (i := 15) (oi := ⟨some 39, .call { callee := .builtin .len, args := #[.tmp 38], argTypes := #[26] }, _, _, _, some (8, true)⟩) (v := undef) rfl (by kernel_rfl) (by kernel_rfl) (by kernel_rfl) (fun _ _ _ h => h) (Or.inr ⟨by rfl, rfl⟩) hHeld ?_
          try simp only [Act.put, List.setIfInBounds_toArray, List.set_cons_zero, List.set_cons_succ]
          refine wpAnyH_ready (rs := [12]) (by kernel_rfl) (by simp) ?_
          refine AllReadyH.cons (o := ⟨some 36, .call { callee := .value (.func 44), args := #[.tmp 33, .tmp 35], argTypes := #[23, 23] }, _, _, _, some (8, true)⟩) rfl (fun K hK => ?_) AllReadyH.nil
          refine step_skipR (by rfl) ?_
          refine hK.out _ _ (hHeld) (fun hHeld => ?_)
          clear hK K
          try simp only [Act.put, List.setIfInBounds_toArray, List.set_cons_zero, List.set_cons_succ]
          refine wpAnyH_take (i := 16) (oi := ⟨some 40, .binOp .geq 3 (.tmp 36) (.tmp 39) 3, _, _, _, some (8, true)⟩) (v := undef) rfl (by kernel_rfl) (by kernel_rfl) (by kernel_rfl) (fun _ _ _ h => h) (Or.inr ⟨by rfl, rfl⟩) hHeld ?_
          try simp only [Act.put, List.setIfInBounds_toArray, List.set_cons_zero, List.set_cons_succ]
          refine wpAnyH_take (i := 17) (oi := ⟨some 41, .pick (.tmp 32) (.tmp 40) (.const (.bool false)), _, _, _, some (3, false)⟩) (v := undef) rfl (by kernel_rfl) (by kernel_rfl) (by kernel_rfl) (fun _ _ _ h => h) (Or.inr ⟨by rfl, rfl⟩) hHeld ?_
          try simp only [Act.put, List.setIfInBounds_toArray, List.set_cons_zero, List.set_cons_succ]
          refine wpAnyH_take (i := 18) (oi := ⟨some 42, .pick (.tmp 27) (.const (.bool true)) (.tmp 41), _, _, _, none⟩) (v := ?_) rfl (by kernel_rfl) (by kernel_rfl) (by kernel_rfl) (fun _ _ _ h => h) (Or.inl ⟨by rfl, ?_⟩) hHeld ?_
          rotate_left
          · intro W _; go_simp; try with_reducible rfl
          try simp only [Act.put, List.setIfInBounds_toArray, List.set_cons_zero, List.set_cons_succ]
          refine wpAnyH_ready (rs := [19]) (by kernel_rfl) (by simp) ?_
          refine AllReadyH.cons (o := ⟨some 6, .assign (.tmp 42), _, _, _, none⟩) rfl (fun K hK => ?_) AllReadyH.nil
          refine step_ofR (by rfl) ?_
          go_simp
          refine hK.out _ _ (hHeld) (fun hHeld => ?_)
          clear hK K
          try simp only [Act.put, List.setIfInBounds_toArray, List.set_cons_zero, List.set_cons_succ]
          refine wpAnyH_done (by kernel_rfl) ?_ _
          -- END mayA
          go_wp2_with fail
          go_ret
          exact ⟨by rw [HE2.out]; rfl, hBw.trans (hHeld.mono hBw.size)⟩
    | false =>
      go_wp2_with ((with_reducible refine wpList_loadP (o := ⟨some 20, _, _, _, _, _⟩) ?_ (w.heap.size + 2) 0 28 (.tmp 5) ?_ ?_ r3 Tryd.underlying28 ?_ h7.out ?_); rfl; rfl; rfl; rfl)
      refine (HF.out _).mono ?_
      rintro e w1 ⟨rfl, hB1⟩
      have hBw := Bt hB.out hB1
      have HS1 := Lib.hid (HS.out.below hB1)
      have HX1 := Lib.hid (range_below hB1 rxp)
      have c1 := cell_later hB1 c0
      clear r3 c0 hB1 HF cb cx rxp
      cases fb with
      | false =>
        have HE2 : Hid (R = false) := Lib.hid (by rw [HE.out]; simp)
        go_wp2_with fail
        go_ret
        exact ⟨by rw [HE2.out]; rfl, hBw⟩
      | true =>
        cases ot with
        | false =>
          have HE2 : Hid (R = true) := Lib.hid (by rw [HE.out]; simp)
          go_wp2_with fail
          -- REGION mayB 10
          refine wp_region_held_drew (S := fun W => Below w1.heap.size w1 W) (by kernel_rfl) (Below.refl _ w1).drew (fun hHeld => ?_)
          refine wpAnyH_take (i := 0) (oi := ⟨some 24, .fieldAddr 28 (.tmp 5) 1, _, _, _, none⟩) (v := ?_) rfl (by kernel_rfl) (by kernel_rfl) (by kernel_rfl) (fun _ _ _ h => h) (Or.inl ⟨by rfl, ?_⟩) hHeld ?_
          rotate_left
          · intro W _; go_simp; try with_reducible rfl
          try simp only [Act.put, List.setIfInBounds_toArray, List.set_cons_zero, List.set_cons_succ]
          refine wpAnyH_take (i := 1) (oi := ⟨some 25, .load 4 (.tmp 24), _, _, _, none⟩) (v := ?_) rfl (by kernel_rfl) (by kernel_rfl) (by kernel_rfl) (fun _ _ _ h => h) (Or.inl ⟨by rfl, ?_⟩) hHeld ?_
          rotate_left
          · intro W h; have h0 := (HS1.out.below h).x.cell HL1.out; go_simp; try with_reducible rfl
          try simp only [Act.put, List.setIfInBounds_toArray, List.set_cons_zero, List.set_cons_succ]
          refine wpAnyH_take (i := 2) (oi := ⟨some 26, .unOp .not 4 (.tmp 25), _, _, _, none⟩) (v := ?_) rfl (by kernel_rfl) (by kernel_rfl) (by kernel_rfl) (fun _ _ _ h => h) (Or.inl ⟨by rfl, ?_⟩) hHeld ?_
          rotate_left
          · intro W _; go_simp; try with_reducible rfl
          try simp only [Act.put, List.setIfInBounds_toArray, List.set_cons_zero, List.set_cons_succ]
          refine wpAnyH_take (i := 3) (oi := ⟨some 27, .move (.tmp 26), _, _, _, none⟩) (v := ?_) rfl (by kernel_rfl) (by kernel_rfl) (by kernel_rfl) (fun _ _ _ h => h) (Or.inl ⟨by rfl, ?_⟩) hHeld ?_
          rotate_left
          · intro W _; go_simp; try with_reducible rfl
          try simp only [Act.put, List.setIfInBounds_toArray, List.set_cons_zero, List.set_cons_succ]
          refine wpAnyH_take (i := 4) (oi := ⟨some 28, .fieldAddr 28 (.tmp 5) 2, _, _, _, some (3, false)⟩) (v := undef) rfl (by kernel_rfl) (by kernel_rfl) (by kernel_rfl) (fun _ _ _ h => h) (Or.inr ⟨by rfl, rfl⟩) hHeld ?_
          try simp only [Act.put, List.setIfInBounds_toArray, List.set_cons_zero, List.set_cons_succ]
          refine wpAnyH_take (i := 5) (oi := ⟨some 29, .load 23 (.tmp 28), _, _, _, some (3, false)⟩) (v := undef) rfl (by kernel_rfl) (by kernel_rfl) (by kernel_rfl) (fun _ _ _ h => h) (Or.inr ⟨by rfl, rfl⟩) hHeld ?_
          try simp only [Act.put, List.setIfInBounds_toArray, List.set_cons_zero, List.set_cons_succ]
          refine wpAnyH_take (i := 6) (oi := ⟨some 30, .load 23 (.tmp 3), _, _, _, some (3, false)⟩) (v := undef) rfl (by kernel_rfl) (by kernel_rfl) (by kernel_rfl) (fun _ _ _ h => h) (Or.inr ⟨by rfl, rfl⟩) hHeld ?_
          try simp only [Act.put, List.setIfInBounds_toArray, List.set_cons_zero, List.set_cons_succ]
          refine wpAnyH_take (i := 7) (oi := ⟨some 31, .binOp .neq 23 (.tmp 29) (.tmp 30) 23, _, _, _, some (3, false)⟩) (v := undef) rfl (by kernel_rfl) (by kernel_rfl) (by kernel_rfl) (fun _ _ _ h => h) (Or.inr ⟨by rfl, rfl⟩) hHeld ?_
          try simp only [Act.put, List.setIfInBounds_toArray, List.set_cons_zero, List.set_cons_succ]
          refine wpAnyH_take (i := 8) (oi := ⟨some 32, .move (.tmp 31), _, _, _, some (3, false)⟩) (v := undef) rfl (by kernel_rfl) (by kernel_rfl) (by kernel_rfl) (fun _ _ _ h => h) (Or.inr ⟨by rfl, rfl⟩) hHeld ?_
          try simp only [Act.put, List.setIfInBounds_toArray, List.set_cons_zero, List.set_cons_succ]
          refine wpAnyH_take (i := 9) (oi := ⟨some 33, .load 23 (.tmp 3), _, _, _, some (8, true)⟩) (v := undef) rfl (by kernel_rfl) (by kernel_rfl) (by kernel_rfl) (fun _ _ _ h => h) (Or.inr ⟨by rfl, rfl⟩) hHeld ?_
          try simp only [Act.put, List.setIfInBounds_toArray, List.set_cons_zero, List.set_cons_succ]
          refine wpAnyH_take (i := 10) (oi := ⟨some 34, .fieldAddr 28 (.tmp 5) 2, _, _, _, some (8, true)⟩) (v := undef) rfl (by kernel_rfl) (by kernel_rfl) (by kernel_rfl) (fun _ _ _ h => h) (Or.inr ⟨by rfl, rfl⟩) hHeld ?_
          try simp only [Act.put, List.setIfInBounds_toArray, List.set_cons_zero, List.set_cons_succ]
          refine wpAnyH_take (i := 11) (oi := ⟨some 35, .load 23 (.tmp 34), _, _, _, some (8, true)⟩) (v := undef) rfl (by kernel_rfl) (by kernel_rfl) (by kernel_rfl) (fun _ _ _ h => h) (Or.inr ⟨by rfl, rfl⟩) hHeld ?_
          try simp only [Act.put, List.setIfInBounds_toArray, List.set_cons_zero, List.set_cons_succ]
          refine wpAnyH_take (i := 13) (oi := ⟨some 37, .fieldAddr 28 (.tmp 5) 0, _, _, _, some (8, true)⟩) (v := undef) rfl (by kernel_rfl) (by kernel_rfl) (by kernel_rfl) (fun _ _ _ h => h) (Or.inr ⟨by rfl, rfl⟩) hHeld ?_
          try simp only [Act.put, List.setIfInBounds_toArray, List.set_cons_zero, List.set_cons_succ]
          refine wpAnyH_take (i := 14) (oi := ⟨some 38, .load 26 (.tmp 37), _, _, _, some (8, true)⟩) (v := undef) rfl (by kernel_rfl) (by kernel_rfl) (by kernel_rfl) (fun _ _ _ h => h) (Or.inr ⟨by rfl, rfl⟩) hHeld ?_
          try simp only [Act.put, List.setIfInBounds_toArray, List.set_cons_zero, List.set_cons_succ]
          refine wpAnyH_take (i := 15) (oi := ⟨some 39, .call { callee := .builtin .len, args := #[.tmp 38], argTypes := #[26] }, _, _, _, some (8, true)⟩) (v := undef) rfl (by kernel_rfl) (by kernel_rfl) (by kernel_rfl) (fun _ _ _ h => h) (Or.inr ⟨by rfl, rfl⟩) hHeld ?_
          try simp only [Act.put, List.setIfInBounds_toArray, List.set_cons_zero, List.set_cons_succ]
          refine wpAnyH_ready (rs := [12]) (by kernel_rfl) (by simp) ?_
          refine AllReadyH.cons (o := ⟨some 36, .call { callee := .value (.func 44), args := #[.tmp 33, .tmp 35], argTypes := #[23, 23] }, _, _, _, some (8, true)⟩) rfl (fun K hK => ?_) AllReadyH.nil
          refine step_skipR (by rfl) ?_
          refine hK.out _ _ (hHeld) (fun hHeld => ?_)
          clear hK K
          try simp only [Act.put, List.setIfInBounds_toArray, List.set_cons_zero, List.set_cons_succ]
          refine wpAnyH_take (i := 16) (oi := ⟨some 40, .binOp .geq 3 (.tmp 36) (.tmp 39) 3, _, _, _, some (8, true)⟩) (v := undef) rfl (by kernel_rfl) (by kernel_rfl) (by kernel_rfl) (fun _ _ _ h => h) (Or.inr ⟨by rfl, rfl⟩) hHeld ?_
          try simp only [Act.put, List.setIfInBounds_toArray, List.set_cons_zero, List.set_cons_succ]
          refine wpAnyH_take (i := 17) (oi := ⟨some 41, .pick (.tmp 32) (.tmp 40) (.const (.bool false)), _, _, _, some (3, false)⟩) (v := undef) rfl (by kernel_rfl) (by kernel_rfl) (by kernel_rfl) (fun _ _ _ h => h) (Or.inr ⟨by rfl, rfl⟩) hHeld ?_
          try simp only [Act.put, List.setIfInBounds_toArray, List.set_cons_zero, List.set_cons_succ]
          refine wpAnyH_take (i := 18) (oi := ⟨some 42, .pick (.tmp 27) (.const (.bool true)) (.tmp 41), _, _, _, none⟩) (v := ?_) rfl (by kernel_rfl) (by kernel_rfl) (by kernel_rfl) (fun _ _ _ h => h) (Or.inl ⟨by rfl, ?_⟩) hHeld ?_
          rotate_left
          · intro W _; go_simp; try with_reducible rfl
          try simp only [Act.put, List.setIfInBounds_toArray, List.set_cons_zero, List.set_cons_succ]
          refine wpAnyH_ready (rs := [19]) (by kernel_rfl) (by simp) ?_
          refine AllReadyH.cons (o := ⟨some 6, .assign (.tmp 42), _, _, _, none⟩) rfl (fun K hK => ?_) AllReadyH.nil
          refine step_ofR (by rfl) ?_
          go_simp
          refine hK.out _ _ (hHeld) (fun hHeld => ?_)
          clear hK K
          try simp only [Act.put, List.setIfInBounds_toArray, List.set_cons_zero, List.set_cons_succ]
          refine wpAnyH_done (by kernel_rfl) ?_ _
          -- END mayB
          go_wp2_with fail
          go_ret
          exact ⟨by rw [HE2.out]; rfl, hBw.trans (hHeld.mono hBw.size)⟩
        | true =>
          cases hne : (X.op != p) with
          | false =>
            have E1 := Lib.hid (HNE.out false hne)
            have HE2 : Hid (R = false) := Lib.hid (by rw [HE.out, hne]; simp)
            go_wp2_with fail
            -- REGION mayC 12
            refine wp_region_held_drew (S := fun W => Below w1.heap.size w1 W) (by kernel_rfl) (Below.refl _ w1).drew (fun hHeld => ?_)
            refine wpAnyH_take (i := 0) (oi := ⟨some 24, .fieldAddr 28 (.tmp 5) 1, _, _, _, none⟩) (v := ?_) rfl (by kernel_rfl) (by kernel_rfl) (by kernel_rfl) (fun _ _ _ h => h) (Or.inl ⟨by rfl, ?_⟩) hHeld ?_
            rotate_left
            · intro W _; go_simp; try with_reducible rfl
            try simp only [Act.put, List.setIfInBounds_toArray, List.set_cons_zero, List.set_cons_succ]
            refine wpAnyH_take (i := 1) (oi := ⟨some 25, .load 4 (.tmp 24), _, _, _, none⟩) (v := ?_) rfl (by kernel_rfl) (by kernel_rfl) (by kernel_rfl) (fun _ _ _ h => h) (Or.inl ⟨by rfl, ?_⟩) hHeld ?_
            rotate_left
            · intro W h; have h0 := (HS1.out.below h).x.cell HL1.out; go_simp; try with_reducible rfl
            try simp only [Act.put, List.setIfInBounds_toArray, List.set_cons_zero, List.set_cons_succ]
            refine wpAnyH_take (i := 2) (oi := ⟨some 26, .unOp .not 4 (.tmp 25), _, _, _, none⟩) (v := ?_) rfl (by kernel_rfl) (by kernel_rfl) (by kernel_rfl) (fun _ _ _ h => h) (Or.inl ⟨by rfl, ?_⟩) hHeld ?_
            rotate_left
            · intro W _; go_simp; try with_reducible rfl
            try simp only [Act.put, List.setIfInBounds_toArray, List.set_cons_zero, List.set_cons_succ]
            refine wpAnyH_take (i := 3) (oi := ⟨some 27, .move (.tmp 26), _, _, _, none⟩) (v := ?_) rfl (by kernel_rfl) (by kernel_rfl) (by kernel_rfl) (fun _ _ _ h => h) (Or.inl ⟨by rfl, ?_⟩) hHeld ?_
            rotate_left
            · intro W _; go_simp; try with_reducible rfl
            try simp only [Act.put, List.setIfInBounds_toArray, List.set_cons_zero, List.set_cons_succ]
            refine wpAnyH_take (i := 4) (oi := ⟨some 28, .fieldAddr 28 (.tmp 5) 2, _, _, _, some (3, false)⟩) (v := ?_) rfl (by kernel_rfl) (by kernel_rfl) (by kernel_rfl) (fun _ _ _ h => h) (Or.inl ⟨by rfl, ?_⟩) hHeld ?_
            rotate_left
            · intro W _; go_simp; try with_reducible rfl
            try simp only [Act.put, List.setIfInBounds_toArray, List.set_cons_zero, List.set_cons_succ]
            refine wpAnyH_take (i := 5) (oi := ⟨some 29, .load 23 (.tmp 28), _, _, _, some (3, false)⟩) (v := .agg (bs X.op).toArray) rfl (by kernel_rfl) (by kernel_rfl) (by kernel_rfl) (fun _ _ _ h => h) (yieldsIf_load_mid (by rfl) _ _ rfl (w.heap.size + 2) 2 rfl (bs X.op) _ (fun W h => (range_below h HX1.out)) Tryd.underlying23 rfl h6.out) hHeld ?_
            try simp only [Act.put, List.setIfInBounds_toArray, List.set_cons_zero, List.set_cons_succ]
            refine wpAnyH_take (i := 6) (oi := ⟨some 30, .load 23 (.tmp 3), _, _, _, some (3, false)⟩) (v := .agg (bs p).toArray) rfl (by kernel_rfl) (by kernel_rfl) (by kernel_rfl) (fun _ _ _ h => h) (yieldsIf_load_mid (by rfl) _ _ rfl w.heap.size 0 rfl (bs p) _ (fun W h => (HS1.out.below h).pr) Tryd.underlying23 rfl h5.out) hHeld ?_
            try simp only [Act.put, List.setIfInBounds_toArray, List.set_cons_zero, List.set_cons_succ]
            refine wpAnyH_take (i := 7) (oi := ⟨some 31, .binOp .neq 23 (.tmp 29) (.tmp 30) 23, _, _, _, some (3, false)⟩) (v := .bool false) rfl (by kernel_rfl) (by kernel_rfl) (by kernel_rfl) (fun _ _ _ h => h) (yieldsIf_eqH (by rfl) .neq 23 23 (.tmp 29) (.tmp 30) rfl _ _ rfl rfl guardH _ E1.out) hHeld ?_
            try simp only [Act.put, List.setIfInBounds_toArray, List.set_cons_zero, List.set_cons_succ]
            refine wpAnyH_take (i := 8) (oi := ⟨some 32, .move (.tmp 31), _, _, _, some (3, false)⟩) (v := ?_) rfl (by kernel_rfl) (by kernel_rfl) (by kernel_rfl) (fun _ _ _ h => h) (Or.inl ⟨by rfl, ?_⟩) hHeld ?_
            rotate_left
            · intro W _; go_simp; try with_reducible rfl
            try simp only [Act.put, List.setIfInBounds_toArray, List.set_cons_zero, List.set_cons_succ]
            refine wpAnyH_take (i := 9) (oi := ⟨some 33, .load 23 (.tmp 3), _, _, _, some (8, true)⟩) (v := undef) rfl (by kernel_rfl) (by kernel_rfl) (by kernel_rfl) (fun _ _ _ h => h) (Or.inr ⟨by rfl, rfl⟩) hHeld ?_
            try simp only [Act.put, List.setIfInBounds_toArray, List.set_cons_zero, List.set_cons_succ]
            refine wpAnyH_take (i := 10) (oi := ⟨some 34, .fieldAddr 28 (.tmp 5) 2, _, _, _, some (8, true)⟩) (v := undef) rfl (by kernel_rfl) (by kernel_rfl) (by kernel_rfl) (fun _ _ _ h => h) (Or.inr ⟨by rfl, rfl⟩) hHeld ?_
            try simp only [Act.put, List.setIfInBounds_toArray, List.set_cons_zero, List.set_cons_succ]
            refine wpAnyH_take (i := 11) (oi := ⟨some 35, .load 23 (.tmp 34), _, _, _, some (8, true)⟩) (v := undef) rfl (by kernel_rfl) (by kernel_rfl) (by kernel_rfl) (fun _ _ _ h => h) (Or.inr ⟨by rfl, rfl⟩) hHeld ?_
            try simp only [Act.put, List.setIfInBounds_toArray, List.set_cons_zero, List.set_cons_succ]
            refine wpAnyH_take (i := 13) (oi := ⟨some 37, .fieldAddr 28 (.tmp 5) 0, _, _, _, some (8, true)⟩) (v := undef) rfl (by kernel_rfl) (by kernel_rfl) (by kernel_rfl) (fun _ _ _ h => h) (Or.inr ⟨by rfl, rfl⟩) hHeld ?_
            try simp only [Act.put, List.setIfInBounds_toArray, List.set_cons_zero, List.set_cons_succ]
            refine wpAnyH_take (i := 14) (oi := ⟨some 38, .load 26 (.tmp 37), _, _, _, some (8, true)⟩) (v := undef) rfl (by kernel_rfl) (by kernel_rfl) (by kernel_rfl) (fun _ _ _ h => h) (Or.inr ⟨by rfl, rfl⟩) hHeld ?_
            try simp only [Act.put, List.setIfInBounds_toArray, List.set_cons_zero, List.set_cons_succ]
            refine wpAnyH_take (i := 15) (oi := ⟨some 39, .call { callee := .builtin .len, args := #[.tmp 38], argTypes := #[26] }, _, _, _, some (8, true)⟩) (v := undef) rfl (by kernel_rfl) (by kernel_rfl) (by kernel_rfl) (fun _ _ _ h => h) (Or.inr ⟨by rfl, rfl⟩) hHeld ?_
            try simp only [Act.put, List.setIfInBounds_toArray, List.set_cons_zero, List.set_cons_succ]
            refine wpAnyH_ready (rs := [12]) (by kernel_rfl) (by simp) ?_
            refine AllReadyH.cons (o := ⟨some 36, .call { callee := .value (.func 44), args := #[.tmp 33, .tmp 35], argTypes := #[23, 23] }, _, _, _, some (8, true)⟩) rfl (fun K hK => ?_) AllReadyH.nil
            refine step_skipR (by rfl) ?_
            refine hK.out _ _ (hHeld) (fun hHeld => ?_)
            clear hK K
            try simp only [Act.put, List.setIfInBounds_toArray, List.set_cons_zero, List.set_cons_succ]
            refine wpAnyH_take (i := 16) (oi := ⟨some 40, .binOp .geq 3 (.tmp 36) (.tmp 39) 3, _, _, _, some (8, true)⟩) (v := undef) rfl (by kernel_rfl) (by kernel_rfl) (by kernel_rfl) (fun _ _ _ h => h) (Or.inr ⟨by rfl, rfl⟩) hHeld ?_
            try simp only [Act.put, List.setIfInBounds_toArray, List.set_cons_zero, List.set_cons_succ]
            refine wpAnyH_take (i := 17) (oi := ⟨some 41, .pick (.tmp 32) (.tmp 40) (.const (.bool false)), _, _, _, some (3, false)⟩) (v := ?_) rfl (by kernel_rfl) (by kernel_rfl) (by kernel_rfl) (fun _ _ _ h => h) (Or.inl ⟨by rfl, ?_⟩) hHeld ?_
            rotate_left
            · intro W _; go_simp; try with_reducible rfl
            try simp only [Act.put, List.setIfInBounds_toArray, List.set_cons_zero, List.set_cons_succ]
            refine wpAnyH_take (i := 18) (oi := ⟨some 42, .pick (.tmp 27) (.const (.bool true)) (.tmp 41), _, _, _, none⟩) (v := ?_) rfl (by kernel_rfl) (by kernel_rfl) (by kernel_rfl) (fun _ _ _ h => h) (Or.inl ⟨by rfl, ?_⟩) hHeld ?_
            rotate_left
            · intro W _; go_simp; try with_reducible rfl
            try simp only [Act.put, List.setIfInBounds_toArray, List.set_cons_zero, List.set_cons_succ]
            refine wpAnyH_ready (rs := [19]) (by kernel_rfl) (by simp) ?_
            refine AllReadyH.cons (o := ⟨some 6, .assign (.tmp 42), _, _, _, none⟩) rfl (fun K hK => ?_) AllReadyH.nil
            refine step_ofR (by rfl) ?_
            go_simp
            refine hK.out _ _ (hHeld) (fun hHeld => ?_)
            clear hK K
            try simp only [Act.put, List.setIfInBounds_toArray, List.set_cons_zero, List.set_cons_succ]
            refine wpAnyH_done (by kernel_rfl) ?_ _
            -- END mayC
            go_wp2_with fail
            go_ret
            exact ⟨by rw [HE2.out]; rfl, hBw.trans (hHeld.mono hBw.size)⟩
          | true =>
            have E1 := Lib.hid (HNE.out true hne)
            have hge : decide ((n : Int) ≤ (cm : Int)) = decide (n ≤ cm) := by simp
            have HE2 : Hid (R = decide (n ≤ cm)) := Lib.hid (by rw [HE.out, hne]; simp)
            go_wp2_with fail
            -- REGION mayD 12
            refine wp_region_held_drew (S := fun W => Below w1.heap.size w1 W) (by kernel_rfl) (Below.refl _ w1).drew (fun hHeld => ?_)
            refine wpAnyH_take (i := 0) (oi := ⟨some 24, .fieldAddr 28 (.tmp 5) 1, _, _, _, none⟩) (v := ?_) rfl (by kernel_rfl) (by kernel_rfl) (by kernel_rfl) (fun _ _ _ h => h) (Or.inl ⟨by rfl, ?_⟩) hHeld ?_
            rotate_left
            · intro W _; go_simp; try with_reducible rfl
            try simp only [Act.put, List.setIfInBounds_toArray, List.set_cons_zero, List.set_cons_succ]
            refine wpAnyH_take (i := 1) (oi := ⟨some 25, .load 4 (.tmp 24), _, _, _, none⟩) (v := ?_) rfl (by kernel_rfl) (by kernel_rfl) (by kernel_rfl) (fun _ _ _ h => h) (Or.inl ⟨by rfl, ?_⟩) hHeld ?_
            rotate_left
            · intro W h; have h0 := (HS1.out.below h).x.cell HL1.out; go_simp; try with_reducible rfl
            try simp only [Act.put, List.setIfInBounds_toArray, List.set_cons_zero, List.set_cons_succ]
            refine wpAnyH_take (i := 2) (oi := ⟨some 26, .unOp .not 4 (.tmp 25), _, _, _, none⟩) (v := ?_) rfl (by kernel_rfl) (by kernel_rfl) (by kernel_rfl) (fun _ _ _ h => h) (Or.inl ⟨by rfl, ?_⟩) hHeld ?_
            rotate_left
            · intro W _; go_simp; try with_reducible rfl
            try simp only [Act.put, List.setIfInBounds_toArray, List.set_cons_zero, List.set_cons_succ]
            refine wpAnyH_take (i := 3) (oi := ⟨some 27, .move (.tmp 26), _, _, _, none⟩) (v := ?_) rfl (by kernel_rfl) (by kernel_rfl) (by kernel_rfl) (fun _ _ _ h => h) (Or.inl ⟨by rfl, ?_⟩) hHeld ?_
            rotate_left
            · intro W _; go_simp; try with_reducible rfl
            try simp only [Act.put, List.setIfInBounds_toArray, List.set_cons_zero, List.set_cons_succ]
            refine wpAnyH_take (i := 4) (oi := ⟨some 28, .fieldAddr 28 (.tmp 5) 2, _, _, _, some (3, false)⟩) (v := ?_) rfl (by kernel_rfl) (by kernel_rfl) (by kernel_rfl) (fun _ _ _ h => h) (Or.inl ⟨by rfl, ?_⟩) hHeld ?_
            rotate_left
            · intro W _; go_simp; try with_reducible rfl
            try simp only [Act.put, List.setIfInBounds_toArray, List.set_cons_zero, List.set_cons_succ]
            refine wpAnyH_take (i := 5) (oi := ⟨some 29, .load 23 (.tmp 28), _, _, _, some (3, false)⟩) (v := .agg (bs X.op).toArray) rfl (by kernel_rfl) (by kernel_rfl) (by kernel_rfl) (fun _ _ _ h => h) (yieldsIf_load_mid (by rfl) _ _ rfl (w.heap.size + 2) 2 rfl (bs X.op) _ (fun W h => (range_below h HX1.out)) Tryd.underlying23 rfl h6.out) hHeld ?_
            try simp only [Act.put, List.setIfInBounds_toArray, List.set_cons_zero, List.set_cons_succ]
            refine wpAnyH_take (i := 6) (oi := ⟨some 30, .load 23 (.tmp 3), _, _, _, some (3, false)⟩) (v := .agg (bs p).toArray) rfl (by kernel_rfl) (by kernel_rfl) (by kernel_rfl) (fun _ _ _ h => h) (yieldsIf_load_mid (by rfl) _ _ rfl w.heap.size 0 rfl (bs p) _ (fun W h => (HS1.out.below h).pr) Tryd.underlying23 rfl h5.out) hHeld ?_
            try simp only [Act.put, List.setIfInBounds_toArray, List.set_cons_zero, List.set_cons_succ]
            refine wpAnyH_take (i := 7) (oi := ⟨some 31, .binOp .neq 23 (.tmp 29) (.tmp 30) 23, _, _, _, some (3, false)⟩) (v := .bool true) rfl (by kernel_rfl) (by kernel_rfl) (by kernel_rfl) (fun _ _ _ h => h) (yieldsIf_eqH (by rfl) .neq 23 23 (.tmp 29) (.tmp 30) rfl _ _ rfl rfl guardH _ E1.out) hHeld ?_
            try simp only [Act.put, List.setIfInBounds_toArray, List.set_cons_zero, List.set_cons_succ]
            refine wpAnyH_take (i := 8) (oi := ⟨some 32, .move (.tmp 31), _, _, _, some (3, false)⟩) (v := ?_) rfl (by kernel_rfl) (by kernel_rfl) (by kernel_rfl) (fun _ _ _ h => h) (Or.inl ⟨by rfl, ?_⟩) hHeld ?_
            rotate_left
            · intro W _; go_simp; try with_reducible rfl
            try simp only [Act.put, List.setIfInBounds_toArray, List.set_cons_zero, List.set_cons_succ]
            refine wpAnyH_take (i := 9) (oi := ⟨some 33, .load 23 (.tmp 3), _, _, _, some (8, true)⟩) (v := .agg (bs p).toArray) rfl (by kernel_rfl) (by kernel_rfl) (by kernel_rfl) (fun _ _ _ h => h) (yieldsIf_load_mid (by rfl) _ _ rfl w.heap.size 0 rfl (bs p) _ (fun W h => (HS1.out.below h).pr) Tryd.underlying23 rfl h5.out) hHeld ?_
            try simp only [Act.put, List.setIfInBounds_toArray, List.set_cons_zero, List.set_cons_succ]
            refine wpAnyH_take (i := 10) (oi := ⟨some 34, .fieldAddr 28 (.tmp 5) 2, _, _, _, some (8, true)⟩) (v := ?_) rfl (by kernel_rfl) (by kernel_rfl) (by kernel_rfl) (fun _ _ _ h => h) (Or.inl ⟨by rfl, ?_⟩) hHeld ?_
            rotate_left
            · intro W _; go_simp; try with_reducible rfl
            try simp only [Act.put, List.setIfInBounds_toArray, List.set_cons_zero, List.set_cons_succ]
            refine wpAnyH_take (i := 11) (oi := ⟨some 35, .load 23 (.tmp 34), _, _, _, some (8, true)⟩) (v := .agg (bs X.op).toArray) rfl (by kernel_rfl) (by kernel_rfl) (by kernel_rfl) (fun _ _ _ h => h) (yieldsIf_load_mid (by rfl) _ _ rfl (w.heap.size + 2) 2 rfl (bs X.op) _ (fun W h => (range_below h HX1.out)) Tryd.underlying23 rfl h6.out) hHeld ?_
            try simp only [Act.put, List.setIfInBounds_toArray, List.set_cons_zero, List.set_cons_succ]
            refine wpAnyH_take (i := 13) (oi := ⟨some 37, .fieldAddr 28 (.tmp 5) 0, _, _, _, some (8, true)⟩) (v := ?_) rfl (by kernel_rfl) (by kernel_rfl) (by kernel_rfl) (fun _ _ _ h => h) (Or.inl ⟨by rfl, ?_⟩) hHeld ?_
            rotate_left
            · intro W _; go_simp; try with_reducible rfl
            try simp only [Act.put, List.setIfInBounds_toArray, List.set_cons_zero, List.set_cons_succ]
            refine wpAnyH_take (i := 14) (oi := ⟨some 38, .load 26 (.tmp 37), _, _, _, some (8, true)⟩) (v := ?_) rfl (by kernel_rfl) (by kernel_rfl) (by kernel_rfl) (fun _ _ _ h => h) (Or.inl ⟨by rfl, ?_⟩) hHeld ?_
            rotate_left
            · intro W h; have h0 := (HS1.out.below h).x.cell HL0.out; go_simp; try with_reducible rfl
            try simp only [Act.put, List.setIfInBounds_toArray, List.set_cons_zero, List.set_cons_succ]
            refine wpAnyH_take (i := 15) (oi := ⟨some 39, .call { callee := .builtin .len, args := #[.tmp 38], argTypes := #[26] }, _, _, _, some (8, true)⟩) (v := ?_) rfl (by kernel_rfl) (by kernel_rfl) (by kernel_rfl) (fun _ _ _ h => h) (Or.inl ⟨by rfl, ?_⟩) hHeld ?_
            rotate_left
            · intro W _; go_simp; try with_reducible rfl
            try simp only [Act.put, List.setIfInBounds_toArray, List.set_cons_zero, List.set_cons_succ]
            refine wpAnyH_ready (rs := [12]) (by kernel_rfl) (by simp) ?_
            refine AllReadyH.cons (o := ⟨some 36, .call { callee := .value (.func 44), args := #[.tmp 33, .tmp 35], argTypes := #[23, 23] }, _, _, _, some (8, true)⟩) rfl (fun K hK => ?_) AllReadyH.nil
            refine step_ofR (by rfl) ?_
            go_simp
            refine (HC.out _).mono ?_
            rintro ee W12 ⟨rfl, hb6⟩
            refine hK.out _ _ (Bt hHeld hb6) (fun hHeld => ?_)
            clear hK K
            try simp only [Act.put, List.setIfInBounds_toArray, List.set_cons_zero, List.set_cons_succ]
            refine wpAnyH_take (i := 16) (oi := ⟨some 40, .binOp .geq 3 (.tmp 36) (.tmp 39) 3, _, _, _, some (8, true)⟩) (v := ?_) rfl (by kernel_rfl) (by kernel_rfl) (by kernel_rfl) (fun _ _ _ h => h) (Or.inl ⟨by rfl, ?_⟩) hHeld ?_
            rotate_left
            · intro W _; go_simp; try with_reducible rfl
            try simp only [Act.put, List.setIfInBounds_toArray, List.set_cons_zero, List.set_cons_succ]
            refine wpAnyH_take (i := 17) (oi := ⟨some 41, .pick (.tmp 32) (.tmp 40) (.const (.bool false)), _, _, _, some (3, false)⟩) (v := ?_) rfl (by kernel_rfl) (by kernel_rfl) (by kernel_rfl) (fun _ _ _ h => h) (Or.inl ⟨by rfl, ?_⟩) hHeld ?_
            rotate_left
            · intro W _; go_simp; try with_reducible rfl
            try simp only [Act.put, List.setIfInBounds_toArray, List.set_cons_zero, List.set_cons_succ]
            refine wpAnyH_take (i := 18) (oi := ⟨some 42, .pick (.tmp 27) (.const (.bool true)) (.tmp 41), _, _, _, none⟩) (v := ?_) rfl (by kernel_rfl) (by kernel_rfl) (by kernel_rfl) (fun _ _ _ h => h) (Or.inl ⟨by rfl, ?_⟩) hHeld ?_
            rotate_left
            · intro W _; go_simp; try with_reducible rfl
            try simp only [Act.put, List.setIfInBounds_toArray, List.set_cons_zero, List.set_cons_succ]
            refine wpAnyH_ready (rs := [19]) (by kernel_rfl) (by simp) ?_
            refine AllReadyH.cons (o := ⟨some 6, .assign (.tmp 42), _, _, _, none⟩) rfl (fun K hK => ?_) AllReadyH.nil
            refine step_ofR (by rfl) ?_
            go_simp
            refine hK.out _ _ (hHeld) (fun hHeld => ?_)
            clear hK K
            try simp only [Act.put, List.setIfInBounds_toArray, List.set_cons_zero, List.set_cons_succ]
            refine wpAnyH_done (by kernel_rfl) ?_ _
            -- END mayD
            go_wp2_with fail
            go_ret
            exact ⟨by rw [HE2.out]; rfl, hBw.trans (hHeld.mono hBw.size)⟩
  · have hn' : (256 : Int) < (n : Int) := by omega
    have hnb : decide (n ≤ 256) = false := by simpa using hn
    have HE2 : Hid (R = false) := Lib.hid (by rw [HE.out, hnb]; simp)
    clear hn hnb
    go_wp2_with fail
    go_ret
    exact ⟨by rw [HE2.out]; rfl, hB.out⟩

theorem sum_root (x : Nat) (p : List UInt8) (sibs : List (List UInt8)) : ∀ (k : Nat) (b : List UInt8), k ≤ sibs.length → shortB x (sumF x p sibs 0 k b) = upF x p 0 (sibs.take k) (shortB x b)
  | 0, b, _ => by simp [sumF, upF]
  | k + 1, b, hk => by
    have ht : sibs.take (k + 1) = sibs.take k ++ [sibs.getD k []] := by
      rw [List.take_add_one]
      simp [List.getD, show k < sibs.length by omega]
    rw [ht, upF_snoc, List.length_take, Nat.min_eq_left (by omega), Nat.zero_add, sumF_more _ _ _ _ _ _ (Nat.zero_le _), sum_root x p sibs k _ (by omega)]
theorem sum_rootB {x : Nat} {p : List UInt8} {b : Bool} {v : List UInt8} {X : Pf} {n : Nat} (hn : X.sibs.length = n) : shortB x (sumF x p X.sibs 0 n (startB p b v X)) = rootB x p b v X := by
  rw [sum_root _ _ _ _ _ (by omega), List.take_of_length_le (by omega)]
  rfl
theorem sumF_short {x : Nat} (hx : x ≤ 32) {p : List UInt8} {sibs : List (List UInt8)} (hk : okd sibs) (at_ : Nat) : ∀ (k : Nat) (b : List UInt8), k ≤ sibs.length → b.length ≤ 65 → (sumF x p sibs at_ k b).length ≤ 65
  | 0, _, _, h => h
  | k + 1, b, hs, h => by
    by_cases hl : k + 1 ≤ at_
    · rw [sumF_less _ _ _ _ _ _ hl]; exact h
    · rw [sumF_more _ _ _ _ _ _ (by omega)]
      exact sumF_short hx hk at_ k _ (by omega) (by rw [innerB_len (shortB_length _ _ hx) (hk.at (by omega))]; exact Nat.le_refl _)

set_option maxHeartbeats 4000000 in
theorem check_ref_no (w : World) (x : Int) (hx : x < 0 ∨ 32 < x) (root p : List UInt8) (C P : List Value) :
    Calls Tryd.prog 10 #[.int .i64 x, .agg (bs root).toArray, .agg (bs p).toArray, .agg C.toArray, .agg P.toArray] w fun e w' => e = .returned (.int .i64 1) ∧ Below w.heap.size w w' := by
  have hB := (Bx4.start w root p C P).bel
  have HN := Lib.hid (fun W : World => width_ref W x)
  have hd : (decide (0 ≤ x) && decide (x ≤ 32)) = false := by simp; omega
  rw [hd] at HN
  clear hx hd
  go_enter Tryd.func10, Tryd.ntmps10
  generalize hw0 : (((w.alloc (.cells (bs root).toArray 23)).alloc (.cells (bs p).toArray 23)).alloc (.cells C.toArray 25)).alloc (.cells P.toArray 28) = w0 at *
  go_wp2_with fail
  refine (HN.out _).mono ?_
  rintro e w1 ⟨rfl, rfl⟩
  go_wp2_with fail
  go_ret
  exact ⟨rfl, hB⟩

set_option maxHeartbeats 4000000 in
theorem check_ref_in (w : World) (x : Nat) (hx : x ≤ 32) (root p : List UInt8) (hro : root.length = 32) (hp : p.length = 32) (b : Bool) (v : List UInt8) (hv : v.length = 32) (a : Option Addr) (n c : Nat) (X : Pf) (hr : RdP6 w a n c X) (hT : Tab w 0) :
    Calls Tryd.prog 10 #[.int .i64 (x : Int), .agg (bs root).toArray, .agg (bs p).toArray, .agg (clc b v).toArray, .agg (pc a n c X).toArray] w fun e w' => e = .returned (.int .i64 (checkE x root p b v X)) ∧ Below w.heap.size w w' := by
  have hS := Bx4.start w root p (clc b v) (pc a n c X)
  have HB := Lib.hid hS
  have h4 := Lib.hid (digP hro)
  have h5 := Lib.hid (digP hp)
  have hv5 := Lib.hid (digP hv)
  have h6 := Lib.hid (infoClc (b := b) hv)
  have h7 := Lib.hid (size_of (a := a) (n := n) (c := c) hr.ok)
  have hlen := hr.sib.len
  have HNEW := Lib.hid (fun W : World => width_ref W (x : Int))
  have hd : (decide (0 ≤ (x : Int)) && decide ((x : Int) ≤ 32)) = true := by simp; omega
  rw [hd] at HNEW
  have HSU := Lib.hid (fun W : World => may_ref W p hp b v a n c X hr.ok hlen)
  have HRT := Lib.hid (fun (W : World) (hB : Below w.heap.size w W) (hn : n ≤ 256) => summed_ref W x hx p hp b v hv a n c X (hr.below hB) hn (hT.below hB) 0)
  have HSH := Lib.hid (fun (W : World) (hB : Below w.heap.size w W) (a' : Option Addr) (m c' : Nat) (q : List UInt8) (hR : Rd W a' m c' q) (hm : m ≤ 1000000) => short_ref W x hx a' m c' q hR (hT.below hB) hm)
  have HFEW : Hid (suitsB p b X = true → n ≤ 256) := Lib.hid (fun h => by rw [← hlen]; exact suitsB_few h)
  have HE : Hid (checkE (x : Int) root p b v X = if (!b && v != zero32) || !suitsB p b X then 40 else if rootB x p b v X != root then 41 else 0) := Lib.hid (by rw [checkE, if_pos ⟨by omega, by omega⟩]; rfl)
  have HSM : Hid ((sumF x p X.sibs 0 n (startB p b v X)).length ≤ 65) := Lib.hid (sumF_short hx hr.sib.ok 0 n _ (by omega) (by rw [startB_len hp hv hr.ok]; split <;> omega))
  have HRS : Hid (shortB x (sumF x p X.sibs 0 n (startB p b v X)) = rootB x p b v X) := Lib.hid (sum_rootB hlen)
  have HNV := Lib.hid (fun (k : Bool) (hk : (v != zero32) = k) => neqRun v zero32 hv zero32_length hk)
  have HNR := Lib.hid (fun (k : Bool) (hk : (rootB x p b v X != root) = k) => neqRun (rootB x p b v X) root (rootB_len hx) hro hk)
  have HRL : Hid ((rootB x p b v X).length = 32) := Lib.hid (rootB_len hx)
  have HBT := Lib.hid built0
  have rv : Hid (∀ W, Bx4 w W root p (clc b v) (pc a n c X) → W.rangeAt (w.heap.size + 2) 1 (bs v)) := Lib.hid (fun W h => h.c.range 1 (fun j _ => by unfold clc; rw [show 1 + j = j + 1 by omega, List.getElem?_cons_succ]))
  have HC0 : Hid ((clc b v)[0]? = some (.bool b)) := Lib.hid rfl
  clear hS hro hp hv hr hT hlen hx hd
  generalize suitsB p b X = sb at *
  generalize rootB x p b v X = rt at *
  generalize sumF x p X.sibs 0 n (startB p b v X) = sm at *
  generalize checkE (x : Int) root p b v X = R at *
  go_enter Tryd.func10, Tryd.ntmps10
  generalize clc b v = C at *
  generalize pc a n c X = P at *
  generalize hw0 : (((w.alloc (.cells (bs root).toArray 23)).alloc (.cells (bs p).toArray 23)).alloc (.cells C.toArray 25)).alloc (.cells P.toArray 28) = w0 at *
  go_wp2_with fail
  refine (HNEW.out _).mono ?_
  rintro e w1 ⟨rfl, rfl⟩
  have c0 := HB.out.c.cell HC0.out
  have r1 := rv.out _ HB.out
  have q1 := HB.out.p.allR
  have q2 := HB.out.c.allR
  have q3 := HB.out.x.allR
  cases b with
  | false =>
    cases hne : (v != zero32) with
    | true =>
      have E1 := Lib.hid (HNV.out true hne)
      have HE2 : Hid (R = 40) := Lib.hid (by rw [HE.out, hne]; rfl)
      clear HNV
      go_wp2_with (first
        | ((with_reducible refine wpList_loadP (o := ⟨some 21, _, _, _, _, _⟩) ?_ (w.heap.size + 2) 1 23 (.tmp 20) ?_ ?_ r1 Tryd.underlying23 ?_ hv5.out ?_); rfl; rfl; rfl; rfl)
        | ((with_reducible refine wpList_buildP (o := ⟨some 22, _, _, _, _, _⟩) ?_ 23 #[] ?_ (ps := []) ?_ HBT.out ?_); rfl; rfl; rfl)
        | ((with_reducible refine wpList_eqH (o := ⟨some 23, _, _, _, _, _⟩) ?_ .neq 23 23 (.tmp 21) (.tmp 22) ?_ (bs v).toArray (bs zero32).toArray ?_ ?_ guardH _ E1.out ?_); rfl; rfl; rfl; rfl))
      go_ret
      exact ⟨by rw [HE2.out]; rfl, HB.out.bel⟩
    | false =>
      have E1 := Lib.hid (HNV.out false hne)
      have HE2 : Hid (R = if !sb then 40 else if rt != root then 41 else 0) := Lib.hid (by rw [HE.out, hne]; simp)
      clear HNV HE
      go_wp2_with (first
        | ((with_reducible refine wpList_loadP (o := ⟨some 21, _, _, _, _, _⟩) ?_ (w.heap.size + 2) 1 23 (.tmp 20) ?_ ?_ r1 Tryd.underlying23 ?_ hv5.out ?_); rfl; rfl; rfl; rfl)
        | ((with_reducible refine wpList_buildP (o := ⟨some 22, _, _, _, _, _⟩) ?_ 23 #[] ?_ (ps := []) ?_ HBT.out ?_); rfl; rfl; rfl)
        | ((with_reducible refine wpList_eqH (o := ⟨some 23, _, _, _, _, _⟩) ?_ .neq 23 23 (.tmp 21) (.tmp 22) ?_ (bs v).toArray (bs zero32).toArray ?_ ?_ guardH _ E1.out ?_); rfl; rfl; rfl; rfl)
        | ((with_reducible refine wpList_loadP (o := ⟨some 26, _, _, _, _, _⟩) ?_ (w.heap.size + 1) 0 23 (.tmp 7) ?_ ?_ q1 Tryd.underlying23 ?_ h5.out ?_); rfl; rfl; rfl; rfl)
        | ((with_reducible refine wpList_loadP (o := ⟨some 27, _, _, _, _, _⟩) ?_ (w.heap.size + 2) 0 25 (.tmp 8) ?_ ?_ q2 Tryd.underlying25 ?_ h6.out ?_); rfl; rfl; rfl; rfl)
        | ((with_reducible refine wpList_loadP (o := ⟨some 28, _, _, _, _, _⟩) ?_ (w.heap.size + 3) 0 28 (.tmp 9) ?_ ?_ q3 Tryd.underlying28 ?_ h7.out ?_); rfl; rfl; rfl; rfl))
      refine (HSU.out _).mono ?_
      rintro e w2 ⟨rfl, hB2⟩
      have HB2 := Lib.hid (HB.out.below hB2)
      clear HSU HB c0 r1 q1 q2 q3 hB2
      cases sb with
      | false =>
        go_wp2_with fail
        go_ret
        exact ⟨by rw [HE2.out]; rfl, HB2.out.bel⟩
      | true =>
        have hn := HFEW.out rfl
        have q1 := HB2.out.p.allR
        have q2 := HB2.out.c.allR
        have q3 := HB2.out.x.allR
        go_wp2_with (first
          | ((with_reducible refine wpList_loadP (o := ⟨some 35, _, _, _, _, _⟩) ?_ (w.heap.size + 1) 0 23 (.tmp 7) ?_ ?_ q1 Tryd.underlying23 ?_ h5.out ?_); rfl; rfl; rfl; rfl)
          | ((with_reducible refine wpList_loadP (o := ⟨some 36, _, _, _, _, _⟩) ?_ (w.heap.size + 2) 0 25 (.tmp 8) ?_ ?_ q2 Tryd.underlying25 ?_ h6.out ?_); rfl; rfl; rfl; rfl)
          | ((with_reducible refine wpList_loadP (o := ⟨some 37, _, _, _, _, _⟩) ?_ (w.heap.size + 3) 0 28 (.tmp 9) ?_ ?_ q3 Tryd.underlying28 ?_ h7.out ?_); rfl; rfl; rfl; rfl))
        refine (HRT.out _ HB2.out.bel hn).mono ?_
        rintro e w3 ⟨a3, m3, c3, rfl, hm3, hR3, hB3⟩
        have HB3 := Lib.hid (HB2.out.below hB3)
        clear q1 q2 q3 HB2 hB3
        have hm3' : m3 ≤ 1000000 := by have := HSM.out; have := hm3.out; omega
        go_wp2_with fail
        refine (HSH.out _ HB3.out.bel a3 m3 c3 _ hR3 hm3').mono ?_
        rintro e w4 ⟨rfl, hB4⟩
        rw [HRS.out]
        have HB4 := Lib.hid (HB3.out.below hB4)
        have h8 := Lib.hid (digP HRL.out)
        have h9 := Lib.hid (bs_one rt)
        have h10 := Lib.hid (show (bs zero32).length = (bs rt).length by rw [bs_length, bs_length, HRL.out, zero32_length])
        clear HB3 hB4 hR3 hm3 hm3'
        cases hne2 : (rt != root) with
        | true =>
          have E2 := Lib.hid (HNR.out true hne2)
          have HE3 : Hid (R = 41) := Lib.hid (by rw [HE2.out, hne2]; rfl)
          go_wp2_with (first
            | ((with_reducible refine wpList_allocB (o := ⟨some 11, _, _, _, _, _⟩) ?_ 23 ?_ zeroD_info ?_); rfl; rfl; intro w5 hb5 hg5 hz5)
            | ((with_reducible refine wpList_storeB (o := ⟨none, .store 23 (.tmp 11) (.tmp 40), _, _, _, _⟩) ?_ 23 (.tmp 11) (.tmp 40) ?_ ?_ ?_ hb5 h8.out h10.out h9.out ?_); rfl; rfl; rfl; rfl; intro w6 hb6 hg6 hz6;
                have hB46 : Below w4.heap.size w4 w6 := ((Below.refl _ w4).grown hg5 (Nat.le_refl _) (fun k e => by cases e)).grown hg6 (by omega) (fun k e => by cases e; exact Nat.le_refl _); have HB6 := Lib.hid (HB4.out.below hB46); have s1 := hb6.allR; have s2 := HB6.out.r.allR)
            | ((with_reducible refine wpList_loadP (o := ⟨some 42, _, _, _, _, _⟩) ?_ w4.heap.size 0 23 (.tmp 11) ?_ ?_ s1 Tryd.underlying23 ?_ h8.out ?_); rfl; rfl; rfl; rfl)
            | ((with_reducible refine wpList_loadP (o := ⟨some 43, _, _, _, _, _⟩) ?_ w.heap.size 0 23 (.tmp 6) ?_ ?_ s2 Tryd.underlying23 ?_ h4.out ?_); rfl; rfl; rfl; rfl)
            | ((with_reducible refine wpList_eqH (o := ⟨some 44, _, _, _, _, _⟩) ?_ .neq 23 23 (.tmp 42) (.tmp 43) ?_ (bs rt).toArray (bs root).toArray ?_ ?_ guardH _ E2.out ?_); rfl; rfl; rfl; rfl))
          go_ret
          exact ⟨by rw [HE3.out]; rfl, HB6.out.bel⟩
        | false =>
          have E2 := Lib.hid (HNR.out false hne2)
          have HE3 : Hid (R = 0) := Lib.hid (by rw [HE2.out, hne2]; rfl)
          go_wp2_with (first
            | ((with_reducible refine wpList_allocB (o := ⟨some 11, _, _, _, _, _⟩) ?_ 23 ?_ zeroD_info ?_); rfl; rfl; intro w5 hb5 hg5 hz5)
            | ((with_reducible refine wpList_storeB (o := ⟨none, .store 23 (.tmp 11) (.tmp 40), _, _, _, _⟩) ?_ 23 (.tmp 11) (.tmp 40) ?_ ?_ ?_ hb5 h8.out h10.out h9.out ?_); rfl; rfl; rfl; rfl; intro w6 hb6 hg6 hz6;
                have hB46 : Below w4.heap.size w4 w6 := ((Below.refl _ w4).grown hg5 (Nat.le_refl _) (fun k e => by cases e)).grown hg6 (by omega) (fun k e => by cases e; exact Nat.le_refl _); have HB6 := Lib.hid (HB4.out.below hB46); have s1 := hb6.allR; have s2 := HB6.out.r.allR)
            | ((with_reducible refine wpList_loadP (o := ⟨some 42, _, _, _, _, _⟩) ?_ w4.heap.size 0 23 (.tmp 11) ?_ ?_ s1 Tryd.underlying23 ?_ h8.out ?_); rfl; rfl; rfl; rfl)
            | ((with_reducible refine wpList_loadP (o := ⟨some 43, _, _, _, _, _⟩) ?_ w.heap.size 0 23 (.tmp 6) ?_ ?_ s2 Tryd.underlying23 ?_ h4.out ?_); rfl; rfl; rfl; rfl)
            | ((with_reducible refine wpList_eqH (o := ⟨some 44, _, _, _, _, _⟩) ?_ .neq 23 23 (.tmp 42) (.tmp 43) ?_ (bs rt).toArray (bs root).toArray ?_ ?_ guardH _ E2.out ?_); rfl; rfl; rfl; rfl))
          go_ret
          exact ⟨by rw [HE3.out]; rfl, HB6.out.bel⟩
  | true =>
    have HE2 : Hid (R = if !sb then 40 else if rt != root then 41 else 0) := Lib.hid (by rw [HE.out]; rfl)
    clear HNV HE
    go_wp2_with (first
      | ((with_reducible refine wpList_loadP (o := ⟨some 26, _, _, _, _, _⟩) ?_ (w.heap.size + 1) 0 23 (.tmp 7) ?_ ?_ q1 Tryd.underlying23 ?_ h5.out ?_); rfl; rfl; rfl; rfl)
      | ((with_reducible refine wpList_loadP (o := ⟨some 27, _, _, _, _, _⟩) ?_ (w.heap.size + 2) 0 25 (.tmp 8) ?_ ?_ q2 Tryd.underlying25 ?_ h6.out ?_); rfl; rfl; rfl; rfl)
      | ((with_reducible refine wpList_loadP (o := ⟨some 28, _, _, _, _, _⟩) ?_ (w.heap.size + 3) 0 28 (.tmp 9) ?_ ?_ q3 Tryd.underlying28 ?_ h7.out ?_); rfl; rfl; rfl; rfl))
    refine (HSU.out _).mono ?_
    rintro e w2 ⟨rfl, hB2⟩
    have HB2 := Lib.hid (HB.out.below hB2)
    clear HSU HB c0 r1 q1 q2 q3 hB2
    cases sb with
    | false =>
      go_wp2_with fail
      go_ret
      exact ⟨by rw [HE2.out]; rfl, HB2.out.bel⟩
    | true =>
      have hn := HFEW.out rfl
      have q1 := HB2.out.p.allR
      have q2 := HB2.out.c.allR
      have q3 := HB2.out.x.allR
      go_wp2_with (first
        | ((with_reducible refine wpList_loadP (o := ⟨some 35, _, _, _, _, _⟩) ?_ (w.heap.size + 1) 0 23 (.tmp 7) ?_ ?_ q1 Tryd.underlying23 ?_ h5.out ?_); rfl; rfl; rfl; rfl)
        | ((with_reducible refine wpList_loadP (o := ⟨some 36, _, _, _, _, _⟩) ?_ (w.heap.size + 2) 0 25 (.tmp 8) ?_ ?_ q2 Tryd.underlying25 ?_ h6.out ?_); rfl; rfl; rfl; rfl)
        | ((with_reducible refine wpList_loadP (o := ⟨some 37, _, _, _, _, _⟩) ?_ (w.heap.size + 3) 0 28 (.tmp 9) ?_ ?_ q3 Tryd.underlying28 ?_ h7.out ?_); rfl; rfl; rfl; rfl))
      refine (HRT.out _ HB2.out.bel hn).mono ?_
      rintro e w3 ⟨a3, m3, c3, rfl, hm3, hR3, hB3⟩
      have HB3 := Lib.hid (HB2.out.below hB3)
      clear q1 q2 q3 HB2 hB3
      have hm3' : m3 ≤ 1000000 := by have := HSM.out; have := hm3.out; omega
      go_wp2_with fail
      refine (HSH.out _ HB3.out.bel a3 m3 c3 _ hR3 hm3').mono ?_
      rintro e w4 ⟨rfl, hB4⟩
      rw [HRS.out]
      have HB4 := Lib.hid (HB3.out.below hB4)
      have h8 := Lib.hid (digP HRL.out)
      have h9 := Lib.hid (bs_one rt)
      have h10 := Lib.hid (show (bs zero32).length = (bs rt).length by rw [bs_length, bs_length, HRL.out, zero32_length])
      clear HB3 hB4 hR3 hm3 hm3'
      cases hne2 : (rt != root) with
      | true =>
        have E2 := Lib.hid (HNR.out true hne2)
        have HE3 : Hid (R = 41) := Lib.hid (by rw [HE2.out, hne2]; rfl)
        go_wp2_with (first
          | ((with_reducible refine wpList_allocB (o := ⟨some 11, _, _, _, _, _⟩) ?_ 23 ?_ zeroD_info ?_); rfl; rfl; intro w5 hb5 hg5 hz5)
          | ((with_reducible refine wpList_storeB (o := ⟨none, .store 23 (.tmp 11) (.tmp 40), _, _, _, _⟩) ?_ 23 (.tmp 11) (.tmp 40) ?_ ?_ ?_ hb5 h8.out h10.out h9.out ?_); rfl; rfl; rfl; rfl; intro w6 hb6 hg6 hz6;
              have hB46 : Below w4.heap.size w4 w6 := ((Below.refl _ w4).grown hg5 (Nat.le_refl _) (fun k e => by cases e)).grown hg6 (by omega) (fun k e => by cases e; exact Nat.le_refl _); have HB6 := Lib.hid (HB4.out.below hB46); have s1 := hb6.allR; have s2 := HB6.out.r.allR)
          | ((with_reducible refine wpList_loadP (o := ⟨some 42, _, _, _, _, _⟩) ?_ w4.heap.size 0 23 (.tmp 11) ?_ ?_ s1 Tryd.underlying23 ?_ h8.out ?_); rfl; rfl; rfl; rfl)
          | ((with_reducible refine wpList_loadP (o := ⟨some 43, _, _, _, _, _⟩) ?_ w.heap.size 0 23 (.tmp 6) ?_ ?_ s2 Tryd.underlying23 ?_ h4.out ?_); rfl; rfl; rfl; rfl)
          | ((with_reducible refine wpList_eqH (o := ⟨some 44, _, _, _, _, _⟩) ?_ .neq 23 23 (.tmp 42) (.tmp 43) ?_ (bs rt).toArray (bs root).toArray ?_ ?_ guardH _ E2.out ?_); rfl; rfl; rfl; rfl))
        go_ret
        exact ⟨by rw [HE3.out]; rfl, HB6.out.bel⟩
      | false =>
        have E2 := Lib.hid (HNR.out false hne2)
        have HE3 : Hid (R = 0) := Lib.hid (by rw [HE2.out, hne2]; rfl)
        go_wp2_with (first
          | ((with_reducible refine wpList_allocB (o := ⟨some 11, _, _, _, _, _⟩) ?_ 23 ?_ zeroD_info ?_); rfl; rfl; intro w5 hb5 hg5 hz5)
          | ((with_reducible refine wpList_storeB (o := ⟨none, .store 23 (.tmp 11) (.tmp 40), _, _, _, _⟩) ?_ 23 (.tmp 11) (.tmp 40) ?_ ?_ ?_ hb5 h8.out h10.out h9.out ?_); rfl; rfl; rfl; rfl; intro w6 hb6 hg6 hz6;
              have hB46 : Below w4.heap.size w4 w6 := ((Below.refl _ w4).grown hg5 (Nat.le_refl _) (fun k e => by cases e)).grown hg6 (by omega) (fun k e => by cases e; exact Nat.le_refl _); have HB6 := Lib.hid (HB4.out.below hB46); have s1 := hb6.allR; have s2 := HB6.out.r.allR)
          | ((with_reducible refine wpList_loadP (o := ⟨some 42, _, _, _, _, _⟩) ?_ w4.heap.size 0 23 (.tmp 11) ?_ ?_ s1 Tryd.underlying23 ?_ h8.out ?_); rfl; rfl; rfl; rfl)
          | ((with_reducible refine wpList_loadP (o := ⟨some 43, _, _, _, _, _⟩) ?_ w.heap.size 0 23 (.tmp 6) ?_ ?_ s2 Tryd.underlying23 ?_ h4.out ?_); rfl; rfl; rfl; rfl)
          | ((with_reducible refine wpList_eqH (o := ⟨some 44, _, _, _, _, _⟩) ?_ .neq 23 23 (.tmp 42) (.tmp 43) ?_ (bs rt).toArray (bs root).toArray ?_ ?_ guardH _ E2.out ?_); rfl; rfl; rfl; rfl))
        go_ret
        exact ⟨by rw [HE3.out]; rfl, HB6.out.bel⟩
theorem check_ref (w : World) (x : Int) (root p : List UInt8) (hro : root.length = 32) (hp : p.length = 32) (b : Bool) (v : List UInt8) (hv : v.length = 32) (a : Option Addr) (n c : Nat) (X : Pf) (hr : RdP6 w a n c X) (hT : Tab w 0) :
    Calls Tryd.prog 10 #[.int .i64 x, .agg (bs root).toArray, .agg (bs p).toArray, .agg (clc b v).toArray, .agg (pc a n c X).toArray] w fun e w' => e = .returned (.int .i64 (checkE x root p b v X)) ∧ Below w.heap.size w w' := by
  by_cases hx : 0 ≤ x ∧ x ≤ 32
  · obtain ⟨k, rfl⟩ := Int.eq_ofNat_of_zero_le hx.1
    exact check_ref_in w k (by omega) root p hro hp b v hv a n c X hr hT
  · rw [checkE, if_neg hx]
    exact check_ref_no w x (by omega) root p _ _
end
/-! The walk of the statement ProofChecks. -/
section
open Go.RowKit
set_option maxRecDepth 100000

def YesC (w : World) (e : Ending) (w' : World) : Prop := e = .returned (.bool true) ∧ Below w.heap.size w w'

set_option maxHeartbeats 4000000 in
theorem walkProofChecks (w : World) (hT : Tab w 1) (hK : Tab w 0) (x : Int) (_ : (Lit.int .i64 x).wf = true) (root : List UInt8) (hro : root.length = 32) (p : List UInt8) (hp : p.length = 32) (b : Bool) (v : List UInt8) (hv : v.length = 32) (a : Option Addr) (n c : Nat) (X : Pf) (hr : RdP6 w a n c X) :
    Calls Tryd.prog 3 #[.int .i64 x, .agg (bs root).toArray, .agg (bs p).toArray, .agg (clc b v).toArray, .agg (pc a n c X).toArray] w (YesC w) := by
  have hS := Bx4.start w root p (clc b v) (pc a n c X)
  have c0 := hS.x.cell (j := 0) (v := .slice a n c) rfl
  by_cases hn : n ≤ 1000
  · have hn' : ¬ (1000 : Int) < (n : Int) := by omega
    have hx := hr.ok
    have HB := Lib.hid hS
    have h4 := Lib.hid (digP hro)
    have h5 := Lib.hid (digP hp)
    have h6 := Lib.hid (infoClc (b := b) hv)
    have HI : Hid (∀ a c, (Tryd.prog.info? 28).map (·.size) = some (pc a n c X).length ∧ (pc none 0 0 pf0).length = (pc a n c X).length ∧ ∀ u ∈ pc a n c X, u.oneCell' = true) := Lib.hid (fun a c => ⟨size_of hx, cells_len pf0_ok hx, pc_one _ _ _ _⟩)
    have I0 := Lib.hid (HI.out a c).1
    have OW := Lib.hid (fun (W : World) (h : Below w.heap.size w W) => ownPf_ref W a n c X (hr.below h) hn)
    have CK := Lib.hid (fun (W : World) (h : Below w.heap.size w W) => check_any W x root p hro hp b v hv a n c X (hr.below h) (hT.below h))
    have CS := Lib.hid (fun (W : World) (h : Below w.heap.size w W) => checks_any W (hT.below h))
    have CR := Lib.hid (fun (W : World) (h : Below w.heap.size w W) (a' : Option Addr) (c' : Nat) (hR : RdP6 W a' n c' X) => check_ref W x root p hro hp b v hv a' n c' X hR (hK.below h))
    have SM := Lib.hid (fun (W : World) (h : Below w.heap.size w W) (a' : Option Addr) (c' : Nat) (hR : RdP6 W a' n c' X) => samePf_ref W a n c a' c' X (hr.below h) hR hn)
    have q3 := hS.x.allR
    clear hS hr hT hK hro hp hv hx hn
    generalize checkE x root p b v X = E at *
    go_enter Tryd.func3, Tryd.ntmps3
    generalize clc b v = C at *
    generalize hP : pc a n c X = P at *
    generalize hw0 : (((w.alloc (.cells (bs root).toArray 23)).alloc (.cells (bs p).toArray 23)).alloc (.cells C.toArray 25)).alloc (.cells P.toArray 28) = w0 at *
    go_wp2_with ((with_reducible refine wpList_loadP (o := ⟨some 17, _, _, _, _, _⟩) ?_ (w.heap.size + 3) 0 28 (.tmp 9) ?_ ?_ q3 Tryd.underlying28 ?_ I0.out ?_); rfl; rfl; rfl; rfl)
    refine (OW.out _ HB.out.bel).mono ?_
    rintro e w1 ⟨a', c', rfl, hR1, hB1⟩
    have HB1 := Lib.hid (HB.out.below hB1)
    have I1 := Lib.hid (HI.out a' c').1
    have L1 := Lib.hid (HI.out a' c').2.1
    have O1 := Lib.hid (HI.out a' c').2.2
    clear q3 c0 HB hB1 OW
    generalize hP' : pc a' n c' X = P' at *
    go_wp2_with (first
      | ((with_reducible refine wpList_allocB (o := ⟨some 11, _, _, _, _, _⟩) ?_ 28 ?_ zeroP_info ?_); rfl; rfl; intro w2 hb2 hg2 hz2)
      | ((with_reducible refine wpList_storeB (o := ⟨none, .store 28 (.tmp 11) (.tmp 18), _, _, _, _⟩) ?_ 28 (.tmp 11) (.tmp 18) ?_ ?_ ?_ hb2 I1.out L1.out O1.out ?_); rfl; rfl; rfl; rfl; intro w3 hb3 hg3 hz3;
          have hB13 : Below w1.heap.size w1 w3 := ((Below.refl _ w1).grown hg2 (Nat.le_refl _) (fun k e => by cases e)).grown hg3 (by omega) (fun k e => by cases e; exact Nat.le_refl _);
          have HB3 := Lib.hid (HB1.out.below hB13); have hR3 := hR1.below hB13; have s1 := HB3.out.r.allR; have s2 := HB3.out.p.allR; have s3 := HB3.out.c.allR; have s4 := HB3.out.x.allR)
      | ((with_reducible refine wpList_loadP (o := ⟨some 20, _, _, _, _, _⟩) ?_ w.heap.size 0 23 (.tmp 6) ?_ ?_ s1 Tryd.underlying23 ?_ h4.out ?_); rfl; rfl; rfl; rfl)
      | ((with_reducible refine wpList_loadP (o := ⟨some 21, _, _, _, _, _⟩) ?_ (w.heap.size + 1) 0 23 (.tmp 7) ?_ ?_ s2 Tryd.underlying23 ?_ h5.out ?_); rfl; rfl; rfl; rfl)
      | ((with_reducible refine wpList_loadP (o := ⟨some 22, _, _, _, _, _⟩) ?_ (w.heap.size + 2) 0 25 (.tmp 8) ?_ ?_ s3 Tryd.underlying25 ?_ h6.out ?_); rfl; rfl; rfl; rfl)
      | ((with_reducible refine wpList_loadP (o := ⟨some 23, _, _, _, _, _⟩) ?_ (w.heap.size + 3) 0 28 (.tmp 9) ?_ ?_ s4 Tryd.underlying28 ?_ I0.out ?_); rfl; rfl; rfl; rfl))
    subst hP
    subst hP'
    refine (CK.out _ HB3.out.bel).mono ?_
    rintro e w4 ⟨rfl, hB4⟩
    have HB4 := Lib.hid (HB3.out.below hB4)
    have hR4 := hR3.below hB4
    have hb4 := hb3.below hB4
    clear hb2 hg2 hb3 hg3 hB13 s1 s2 s3 s4 HB3 HB1 hR3 hR1 hB4 CK
    go_wp2_with fail
    refine (CS.out _ HB4.out.bel).mono ?_
    rintro e w5 ⟨rfl, hB5⟩
    have HB5 := Lib.hid (HB4.out.below hB5)
    have hR5 := hR4.below hB5
    have hb5 := hb4.below hB5
    have s1 := HB5.out.r.allR
    have s2 := HB5.out.p.allR
    have s3 := HB5.out.c.allR
    have s5 := hb5.allR
    clear HB4 hR4 hb4 hB5 CS
    generalize hP' : pc a' n c' X = P' at *
    go_wp2_with (first
      | ((with_reducible refine wpList_loadP (o := ⟨some 29, _, _, _, _, _⟩) ?_ w.heap.size 0 23 (.tmp 6) ?_ ?_ s1 Tryd.underlying23 ?_ h4.out ?_); rfl; rfl; rfl; rfl)
      | ((with_reducible refine wpList_loadP (o := ⟨some 30, _, _, _, _, _⟩) ?_ (w.heap.size + 1) 0 23 (.tmp 7) ?_ ?_ s2 Tryd.underlying23 ?_ h5.out ?_); rfl; rfl; rfl; rfl)
      | ((with_reducible refine wpList_loadP (o := ⟨some 31, _, _, _, _, _⟩) ?_ (w.heap.size + 2) 0 25 (.tmp 8) ?_ ?_ s3 Tryd.underlying25 ?_ h6.out ?_); rfl; rfl; rfl; rfl)
      | ((with_reducible refine wpList_loadP (o := ⟨some 32, _, _, _, _, _⟩) ?_ w1.heap.size 0 28 (.tmp 11) ?_ ?_ s5 Tryd.underlying28 ?_ I1.out ?_); rfl; rfl; rfl; rfl))
    subst hP'
    refine (CR.out _ HB5.out.bel a' c' hR5).mono ?_
    rintro e w6 ⟨rfl, hB6⟩
    have HB6 := Lib.hid (HB5.out.below hB6)
    have hR6 := hR5.below hB6
    have hb6 := hb5.below hB6
    have s4 := HB6.out.x.allR
    have s5 := hb6.allR
    clear HB5 hR5 hb5 hB6 CR s1 s2 s3
    generalize hP' : pc a' n c' X = P' at *
    generalize hP : pc a n c X = P at *
    go_wp2_with (first
      | ((with_reducible refine wpList_loadP (o := ⟨some 37, _, _, _, _, _⟩) ?_ (w.heap.size + 3) 0 28 (.tmp 9) ?_ ?_ s4 Tryd.underlying28 ?_ I0.out ?_); rfl; rfl; rfl; rfl)
      | ((with_reducible refine wpList_loadP (o := ⟨some 38, _, _, _, _, _⟩) ?_ w1.heap.size 0 28 (.tmp 11) ?_ ?_ s5 Tryd.underlying28 ?_ I1.out ?_); rfl; rfl; rfl; rfl))
    subst hP
    subst hP'
    refine (SM.out _ HB6.out.bel a' c' hR6).mono ?_
    rintro e w7 ⟨rfl, hB7⟩
    have hBf := Bt HB6.out.bel hB7
    clear HB6 hR6 hb6 hB7 SM s4 s5
    go_wp2_with fail
    go_ret
    exact ⟨rfl, hBf⟩
  · have hn' : (1000 : Int) < (n : Int) := by omega
    have hB := hS.bel
    clear hS hr
    go_enter Tryd.func3, Tryd.ntmps3
    generalize clc b v = C at *
    generalize pc a n c X = P at *
    go_wp2_with fail
    go_ret
    exact ⟨rfl, hB⟩
end
end Go.Proofs.YtgbhfpkngjlfkaaDoor
