/-
  Ref06Q Cla6 Cla7 Cla8 Cla9, in one text.
-/
import Derived.Test.YtgbhfpkngjlfkaaDoorChkB
import Derived.Test.YtgbhfpkngjlfkaaDoorRef05B
import Derived.Test.YtgbhfpkngjlfkaaDoorRef04
import Derived.Test.YtgbhfpkngjlfkaaDoorRef06B2
namespace Go.Proofs.YtgbhfpkngjlfkaaDoor
/-! Ref06D Ref06E Law06I, in one text. -/
section
/-! The reference of layer 6: Start, Summed. -/
section
open Go.RowKit
set_option maxRecDepth 100000

theorem built_leaf0 (f g : Fin 32 → UInt8) : Tryd.prog.built 46 [(0, .agg (bs (List.ofFn f)).toArray), (1, .agg (bs (List.ofFn g)).toArray)] = some (bs (List.ofFn f) ++ bs (List.ofFn g)).toArray := by kernel_rfl
theorem built_leafP {p v : List UInt8} (hp : p.length = 32) (hv : v.length = 32) : Tryd.prog.built 46 [(0, .agg (bs p).toArray), (1, .agg (bs v).toArray)] = some (lc ⟨p, v⟩).toArray := by
  obtain ⟨f, rfl⟩ := as_ofFn hp
  obtain ⟨g, rfl⟩ := as_ofFn hv
  exact built_leaf0 f g

/-- bytes that a call hands back -/
def BytesPostR (w : World) (q : List UInt8) (e : Ending) (w' : World) : Prop := ∃ a m c, e = .returned (.slice a m c) ∧ Hid (q.length = m) ∧ Rd w' a m c q ∧ Below w.heap.size w w'

set_option maxHeartbeats 2000000 in
theorem start_ref (w : World) (p : List UInt8) (hp : p.length = 32) (b : Bool) (v : List UInt8) (hv : v.length = 32) (a : Option Addr) (n c : Nat) (X : Pf) (hx : X.ok) :
    Calls Tryd.prog 46 #[.agg (bs p).toArray, .agg (clc b v).toArray, .agg (pc a n c X).toArray] w (BytesPostR w (startB p b v X)) := by
  have hS := Bx3.start w w (Below.refl _ w) p b v (pc a n c X)
  have k0 := hS.c0
  have k1 := hS.x1
  have r0 := hS.pr
  have r1 := hS.cv
  have r2 := hS.xp
  have r3 := hS.xv hx.p
  have hB := hS.bel
  have H5 := Lib.hid (digP hp)
  have H6 := Lib.hid (digP hv)
  have H7 := Lib.hid (digP hx.p)
  have H8 := Lib.hid (digP hx.v)
  have B1 := Lib.hid (built_leafP hp hv)
  have B2 := Lib.hid (built_leafP hx.p hx.v)
  have L1 := Lib.hid (fun W : World => leafBytes_ref W ⟨p, v⟩ ⟨hp, hv⟩)
  have L2 := Lib.hid (fun W : World => leafBytes_ref W ⟨X.op, X.ov⟩ ⟨hx.p, hx.v⟩)
  have HE : Hid (startB p b v X = if b then [0] ++ p ++ v else if X.other then [0] ++ X.op ++ X.ov else [2]) := Lib.hid (by simp [startB])
  have FIN : Hid (∀ (W : World) (a' : Option Addr) (m c' : Nat) (q : List UInt8), startB p b v X = q → q.length = m → Rd W a' m c' q → Below w.heap.size w W → BytesPostR w (startB p b v X) (.returned (.slice a' m c')) W) := Lib.hid (fun W a' m c' q h1 h2 h3 h4 => ⟨a', m, c', rfl, Lib.hid (by rw [h1]; exact h2), by rw [h1]; exact h3, h4⟩)
  have hl1 : Hid (([0] ++ p ++ v).length = 65) := Lib.hid (by simp [hp, hv])
  have hl2 : Hid (([0] ++ X.op ++ X.ov).length = 65) := Lib.hid (by simp [hx.p, hx.v])
  clear hS hp hv hx
  generalize BytesPostR w (startB p b v X) = RP at *
  generalize startB p b v X = SB at *
  generalize clc b v = C at *
  generalize pc a n c X = P at *
  generalize X.other = ot at *
  generalize X.op = xo at *
  generalize X.ov = xv at *
  generalize hw0 : ((w.alloc (.cells (bs p).toArray 23)).alloc (.cells C.toArray 25)).alloc (.cells P.toArray 28) = w0 at *
  go_enter Tryd.func46, Tryd.ntmps46
  cases b with
  | true =>
    have HQ : Hid (SB = [0] ++ p ++ v) := Lib.hid (by rw [HE.out]; rfl)
    go_wp2_with (first
      | ((with_reducible refine wpList_loadP (o := ⟨some 9, _, _, _, _, _⟩) ?_ w.heap.size 0 23 (.tmp 3) ?_ ?_ r0 Tryd.underlying23 ?_ H5.out ?_); rfl; rfl; rfl; rfl)
      | ((with_reducible refine wpList_loadP (o := ⟨some 11, _, _, _, _, _⟩) ?_ (w.heap.size + 1) 1 23 (.tmp 10) ?_ ?_ r1 Tryd.underlying23 ?_ H6.out ?_); rfl; rfl; rfl; rfl)
      | ((with_reducible refine wpList_buildI (dst := some 12) B1.out ?_ ?_); rfl))
    refine (L1.out _).mono ?_
    rintro e w1 ⟨a1, c1, rfl, hR1, hB1⟩
    go_wp2_with fail
    exact FIN.out _ _ _ _ _ HQ.out hl1.out hR1 (Bt hB hB1)
  | false =>
    cases ot with
    | true =>
      have HQ : Hid (SB = [0] ++ xo ++ xv) := Lib.hid (by rw [HE.out]; rfl)
      go_wp2_with (first
        | ((with_reducible refine wpList_loadP (o := ⟨some 17, _, _, _, _, _⟩) ?_ (w.heap.size + 2) 2 23 (.tmp 16) ?_ ?_ r2 Tryd.underlying23 ?_ H7.out ?_); rfl; rfl; rfl; rfl)
        | ((with_reducible refine wpList_loadP (o := ⟨some 19, _, _, _, _, _⟩) ?_ (w.heap.size + 2) 34 23 (.tmp 18) ?_ ?_ r3 Tryd.underlying23 ?_ H8.out ?_); rfl; rfl; rfl; rfl)
        | ((with_reducible refine wpList_buildI (dst := some 20) B2.out ?_ ?_); rfl))
      refine (L2.out _).mono ?_
      rintro e w1 ⟨a1, c1, rfl, hR1, hB1⟩
      go_wp2_with fail
      exact FIN.out _ _ _ _ _ HQ.out hl2.out hR1 (Bt hB hB1)
    | false =>
      have HQ : Hid (SB = [2]) := Lib.hid (by rw [HE.out]; rfl)
      go_wp2_with ((with_reducible refine wpList_oneU (o := ⟨some 22, _, _, _, _, _⟩) ?_ (.const (.int .u8 2)) ?_ (k := 2) ?_ w0.heap.size (Nat.le_refl _) ?_); rfl; rfl; rfl; intro w3 hO3 hB3 hz3)
      exact FIN.out _ _ _ _ _ HQ.out rfl hO3.rd (Bt hB hB3)

set_option maxHeartbeats 4000000 in
theorem summed_ref (w : World) (x : Nat) (hx : x ≤ 32) (p : List UInt8) (hp : p.length = 32) (b : Bool) (v : List UInt8) (hv : v.length = 32) (a : Option Addr) (n c : Nat) (X : Pf) (hr : RdP6 w a n c X) (hn : n ≤ 256) (hT : Tab w 0) (t : Nat) :
    Calls Tryd.prog 26 #[.int .i64 (x : Int), .agg (bs p).toArray, .agg (clc b v).toArray, .agg (pc a n c X).toArray, .int .i64 (t : Int)] w (BytesPostR w (sumF x p X.sibs t n (startB p b v X))) := by
  have hS := Bx3.start w w (Below.refl _ w) p b v (pc a n c X)
  have HS := Lib.hid hS
  have HB := Lib.hid hS.bel
  have k3 := hS.x0
  have r1 := hS.p.allR
  have r2 := hS.c.allR
  have r3 := hS.x.allR
  have h5 := Lib.hid (digP hp)
  have h6 := Lib.hid (infoClc (b := b) hv)
  have h7 := Lib.hid (size_of (a := a) (n := n) (c := c) hr.ok)
  have hlen := Lib.hid hr.sib.len
  have HR := Lib.hid hr.sib
  have HT := Lib.hid hT
  have HX := Lib.hid hr.ok
  have ST := Lib.hid (fun W : World => start_ref W p hp b v hv a n c X hr.ok)
  have HSL : Hid ((startB p b v X).length ≤ 65) := Lib.hid (by rw [startB_len hp hv hr.ok]; split <;> omega)
  have hwn : IntKind.i64.wrap ((n : Int) - 1) = (n : Int) - 1 := IntWalk.i64_in _ (by omega)
  have SH := Lib.hid (fun (W : World) (a : Option Addr) (n c : Nat) (l : List UInt8) (hr : Rd W a n c l) (hT : Tab W 0) (hn : n ≤ 1000000) => short_ref W x hx a n c l hr hT hn)
  have HSB := Lib.hid (fun q : List UInt8 => shortB_length x q hx)
  have AT := Lib.hid (fun (W : World) (i : Nat) (hi : i < 256) => at_ref W p hp i hi)
  have HC0 : Hid ((pc a n c X)[0]? = some (.slice a n c)) := Lib.hid rfl
  clear hS hr hT hp hv hx
  generalize hC : clc b v = C at *
  generalize hP : pc a n c X = P at *
  generalize hw0 : ((w.alloc (.cells (bs p).toArray 23)).alloc (.cells C.toArray 25)).alloc (.cells P.toArray 28) = w0 at *
  generalize startB p b v X = q0 at *
  go_enter Tryd.func26, Tryd.ntmps26
  go_wp2_with (first
    | ((with_reducible refine wpList_loadP (o := ⟨some 15, _, _, _, _, _⟩) ?_ w.heap.size 0 23 (.tmp 6) ?_ ?_ r1 Tryd.underlying23 ?_ h5.out ?_); rfl; rfl; rfl; rfl)
    | ((with_reducible refine wpList_loadP (o := ⟨some 16, _, _, _, _, _⟩) ?_ (w.heap.size + 1) 0 25 (.tmp 7) ?_ ?_ r2 Tryd.underlying25 ?_ h6.out ?_); rfl; rfl; rfl; rfl)
    | ((with_reducible refine wpList_loadP (o := ⟨some 17, _, _, _, _, _⟩) ?_ (w.heap.size + 2) 0 28 (.tmp 8) ?_ ?_ r3 Tryd.underlying28 ?_ h7.out ?_); rfl; rfl; rfl; rfl))
  refine (ST.out _).mono ?_
  rintro e w1 ⟨a1, m1, c1, rfl, hm1, hR1, hB1⟩
  have hS1 := HS.out.below hB1
  have k4 := hS1.x.cell HC0.out
  have HB1 := Lib.hid (Bt HB.out hB1)
  clear r1 r2 r3 k3
  go_wp2_with fail
  go_loopw [11, 12] (fun bv iv wr => ∃ (k : Nat) (z : Int) (q : List UInt8) (a' : Option Addr) (m' c' : Nat), k ≤ n ∧ bv = .slice a' m' c' ∧ iv = .int .i64 z ∧ z = (k : Int) - 1 ∧ Rd wr a' m' c' q ∧ Hid (q.length = m') ∧ m' ≤ 65 ∧ Below w1.heap.size w1 wr ∧
      Hid (sumF x p X.sibs t n q0 = sumF x p X.sibs t k q)) (fun _ iv _ => (intOf iv + 1).toNat)
  case atStart => exact ⟨n, (n : Int) - 1, q0, a1, m1, c1, Nat.le_refl _, rfl, rfl, rfl, hR1, hm1, by rw [← hm1.out]; exact HSL.out, Below.refl _ _, Lib.hid rfl⟩
  case round =>
    obtain ⟨k, z, q, a', m', c', hk, rfl, rfl, hz, hRq, hql, hm', hBr, hch⟩ := hrel
    by_cases hge : (t : Int) ≤ z
    · obtain ⟨j, rfl⟩ : ∃ j, k = j + 1 := ⟨k - 1, by omega⟩
      obtain rfl : z = (j : Int) := by omega
      clear hz
      have hjt : t ≤ j := by omega
      have hj2 : j < 256 := by omega
      have hjn : (j : Int) < (n : Int) := by omega
      have hSr := Lib.hid (hS1.below hBr)
      have HBw := Lib.hid (Bt HB1.out hBr)
      have hTr := HT.out.below HBw.out
      have S5 := Lib.hid (SH.out wr a' m' c' q hRq hTr (by omega))
      have hdl := Lib.hid (HSB.out q)
      have HD5 := Lib.hid (digP hdl.out)
      have HDO := Lib.hid (bs_one (shortB x q))
      have HDL := Lib.hid (show (bs zero32).length = (bs (shortB x q)).length by rw [bs_length, bs_length, hdl.out, zero32_length])
      obtain ⟨bb, off, hae, -, hel⟩ := (HR.out.below HBw.out).elems (by omega)
      subst hae
      have hel5 := Lib.hid (hel j (by omega))
      have hek := HX.out.d.at (i := j) (by rw [hlen.out]; omega)
      have HEK := Lib.hid (digP hek)
      have hwj : IntKind.i64.wrap ((j : Int) - 1) = (j : Int) - 1 := IntWalk.i64_in _ (by omega)
      have HIE : Hid (innerB p j (shortB x q) (X.sibs.getD j []) = if bitAt p j = 1 then [1] ++ X.sibs.getD j [] ++ shortB x q else [1] ++ shortB x q ++ X.sibs.getD j []) := Lib.hid (by simp [innerB])
      have HIN := Lib.hid (innerB_len (p := p) (i := j) hdl.out hek)
      have N1 := Lib.hid (fun W : World => nodeBytes_ref W (shortB x q) (X.sibs.getD j []) hdl.out hek)
      have N2 := Lib.hid (fun W : World => nodeBytes_ref W (X.sibs.getD j []) (shortB x q) hek hdl.out)
      have hch6 : Hid (sumF x p X.sibs t n q0 = sumF x p X.sibs t j (innerB p j (shortB x q) (X.sibs.getD j []))) := Lib.hid (by rw [hch.out, sumF_more _ _ _ _ _ _ hjt])
      have hbit : bitAt p j = 0 ∨ bitAt p j = 1 := by have := bitAt_lt p j; omega
      have A5 := Lib.hid (fun W : World => AT.out W j hj2)
      have rp := hSr.out.p.allR
      clear hRq hTr hel hek hch SH HSB ST hS1 hR1 hB1
      generalize innerB p j (shortB x q) (X.sibs.getD j []) = ib at *
      generalize X.sibs.getD j [] = sb at *
      generalize shortB x q = dg at *
      generalize bitAt p j = bt at *
      go_wp2_with fail
      refine (S5.out).mono ?_
      rintro e w2 ⟨rfl, hB2⟩
      have rp2 := range_below hB2 rp
      clear rp
      go_wp2_with (first
        | ((with_reducible refine wpList_allocB (o := ⟨some 13, _, _, _, _, _⟩) ?_ 23 ?_ zeroD_info ?_); rfl; rfl; intro w3 hb3 hg3 hz3)
        | ((with_reducible refine wpList_storeB (o := ⟨none, .store 23 (.tmp 13) (.tmp 32), _, _, _, _⟩) ?_ 23 (.tmp 13) (.tmp 32) ?_ ?_ ?_ hb3 HD5.out HDL.out HDO.out ?_); rfl; rfl; rfl; rfl; intro w4 hb4 hg4 hz4;
            have hB24 : Below w2.heap.size w2 w4 := ((Below.refl _ w2).grown hg3 (Nat.le_refl _) (fun k e => by cases e)).grown hg4 (by omega) (fun k e => by cases e; exact Nat.le_refl _); have rp4 := range_below hB24 rp2)
        | ((with_reducible refine wpList_loadP (o := ⟨some 34, _, _, _, _, _⟩) ?_ w.heap.size 0 23 (.tmp 6) ?_ ?_ rp4 Tryd.underlying23 ?_ h5.out ?_); rfl; rfl; rfl; rfl))
      refine (A5.out _).mono ?_
      rintro e w5 ⟨rfl, hB5⟩
      have hB25 := Bt hB2 (Bt hB24 hB5)
      have hS5 := Lib.hid (hSr.out.below hB25)
      have hel6 := Lib.hid (range_below hB25 hel5.out)
      have hb5 := Lib.hid (hb4.below hB5)
      have HBr5 := Lib.hid (Bt hBr hB25)
      clear hb4 hb3 hg3 hg4 hB24 hB5 hB2 rp2 rp4 hBr hSr hel5 hB25
      rcases hbit with rfl | rfl
      · have HQ : Hid (ib = [1] ++ dg ++ sb) := Lib.hid (by rw [HIE.out]; rfl)
        go_wp2_with fail
        -- REGION sum0 8
        refine wp_region_held_drew (S := fun W => Below w5.heap.size w5 W) (by kernel_rfl) (Below.refl _ w5).drew (fun hHeld => ?_)
        refine wpAnyH_take (i := 0) (oi := ⟨some 38, .load 23 (.tmp 13), _, _, _, none⟩) (v := .agg (bs dg).toArray) rfl (by kernel_rfl) (by kernel_rfl) (by kernel_rfl) (fun _ _ _ h => h) (yieldsIf_load_mid (by rfl) _ _ rfl w2.heap.size 0 rfl (bs dg) _ (fun W h => (hb5.out.below h).allR) Tryd.underlying23 rfl HD5.out) hHeld ?_
        try simp only [Act.put, List.setIfInBounds_toArray, List.set_cons_zero, List.set_cons_succ]
        refine wpAnyH_take (i := 1) (oi := ⟨some 39, .fieldAddr 28 (.tmp 8) 0, _, _, _, none⟩) (v := ?_) rfl (by kernel_rfl) (by kernel_rfl) (by kernel_rfl) (fun _ _ _ h => h) (Or.inl ⟨by rfl, ?_⟩) hHeld ?_
        rotate_left
        · intro W _; go_simp; try with_reducible rfl
        try simp only [Act.put, List.setIfInBounds_toArray, List.set_cons_zero, List.set_cons_succ]
        refine wpAnyH_take (i := 2) (oi := ⟨some 40, .load 26 (.tmp 39), _, _, _, none⟩) (v := ?_) rfl (by kernel_rfl) (by kernel_rfl) (by kernel_rfl) (fun _ _ _ h => h) (Or.inl ⟨by rfl, ?_⟩) hHeld ?_
        rotate_left
        · intro W h; have h0 := (hS5.out.below h).x.cell HC0.out; go_simp; try with_reducible rfl
        try simp only [Act.put, List.setIfInBounds_toArray, List.set_cons_zero, List.set_cons_succ]
        refine wpAnyH_take (i := 3) (oi := ⟨some 41, .move (.tmp 12), _, _, _, none⟩) (v := ?_) rfl (by kernel_rfl) (by kernel_rfl) (by kernel_rfl) (fun _ _ _ h => h) (Or.inl ⟨by rfl, ?_⟩) hHeld ?_
        rotate_left
        · intro W _; go_simp; try with_reducible rfl
        try simp only [Act.put, List.setIfInBounds_toArray, List.set_cons_zero, List.set_cons_succ]
        refine wpAnyH_take (i := 4) (oi := ⟨some 42, .indexAddr 26 (.tmp 40) (.tmp 41), _, _, _, none⟩) (v := ?_) rfl (by kernel_rfl) (by kernel_rfl) (by kernel_rfl) (fun _ _ _ h => h) (Or.inl ⟨by rfl, ?_⟩) hHeld ?_
        rotate_left
        · intro W _; go_simp; try with_reducible rfl
        try simp only [Act.put, List.setIfInBounds_toArray, List.set_cons_zero, List.set_cons_succ]
        refine wpAnyH_take (i := 5) (oi := ⟨some 43, .load 23 (.tmp 42), _, _, _, none⟩) (v := .agg (bs sb).toArray) rfl (by kernel_rfl) (by kernel_rfl) (by kernel_rfl) (fun _ _ _ h => h) (yieldsIf_load_mid (by rfl) _ _ rfl bb (off + j * 32) rfl (bs sb) _ (fun W h => (range_below h hel6.out)) Tryd.underlying23 rfl HEK.out) hHeld ?_
        try simp only [Act.put, List.setIfInBounds_toArray, List.set_cons_zero, List.set_cons_succ]
        refine wpAnyH_ready (rs := [6]) (by kernel_rfl) (by simp) ?_
        refine AllReadyH.cons (o := ⟨some 44, .call { callee := .value (.func 48), args := #[.tmp 38, .tmp 43], argTypes := #[23, 23] }, _, _, _, none⟩) rfl (fun K hK => ?_) AllReadyH.nil
        refine step_ofR (by rfl) ?_
        go_simp
        refine (N1.out _).mono ?_
        rintro ee W6 ⟨a6, c6, rfl, hR6, hb6⟩
        refine hK.out _ _ (Bt hHeld hb6) (fun hHeld => ?_)
        clear hK K
        try simp only [Act.put, List.setIfInBounds_toArray, List.set_cons_zero, List.set_cons_succ]
        refine wpAnyH_ready (rs := [7]) (by kernel_rfl) (by simp) ?_
        refine AllReadyH.cons (o := ⟨some 11, .assign (.tmp 44), _, _, _, none⟩) rfl (fun K hK => ?_) AllReadyH.nil
        refine step_ofR (by rfl) ?_
        go_simp
        refine hK.out _ _ (hHeld) (fun hHeld => ?_)
        clear hK K
        try simp only [Act.put, List.setIfInBounds_toArray, List.set_cons_zero, List.set_cons_succ]
        refine wpAnyH_done (by kernel_rfl) ?_ _
        -- END sum0
        have hBd := Bt HBr5.out hHeld
        clear hHeld
        go_wp2_with fail
        go_roundw
        case rel => exact ⟨j, (j : Int) - 1, ib, a6, 65, c6, by omega, rfl, by go_num, rfl, by rw [HQ.out]; exact hR6, HIN, Nat.le_refl _, hBd, hch6⟩
        case measure => simp [intOf]
      · have HQ : Hid (ib = [1] ++ sb ++ dg) := Lib.hid (by rw [HIE.out]; rfl)
        go_wp2_with fail
        -- REGION sum1 8
        refine wp_region_held_drew (S := fun W => Below w5.heap.size w5 W) (by kernel_rfl) (Below.refl _ w5).drew (fun hHeld => ?_)
        refine wpAnyH_take (i := 0) (oi := ⟨some 45, .fieldAddr 28 (.tmp 8) 0, _, _, _, none⟩) (v := ?_) rfl (by kernel_rfl) (by kernel_rfl) (by kernel_rfl) (fun _ _ _ h => h) (Or.inl ⟨by rfl, ?_⟩) hHeld ?_
        rotate_left
        · intro W _; go_simp; try with_reducible rfl
        try simp only [Act.put, List.setIfInBounds_toArray, List.set_cons_zero, List.set_cons_succ]
        refine wpAnyH_take (i := 1) (oi := ⟨some 46, .load 26 (.tmp 45), _, _, _, none⟩) (v := ?_) rfl (by kernel_rfl) (by kernel_rfl) (by kernel_rfl) (fun _ _ _ h => h) (Or.inl ⟨by rfl, ?_⟩) hHeld ?_
        rotate_left
        · intro W h; have h0 := (hS5.out.below h).x.cell HC0.out; go_simp; try with_reducible rfl
        try simp only [Act.put, List.setIfInBounds_toArray, List.set_cons_zero, List.set_cons_succ]
        refine wpAnyH_take (i := 2) (oi := ⟨some 47, .move (.tmp 12), _, _, _, none⟩) (v := ?_) rfl (by kernel_rfl) (by kernel_rfl) (by kernel_rfl) (fun _ _ _ h => h) (Or.inl ⟨by rfl, ?_⟩) hHeld ?_
        rotate_left
        · intro W _; go_simp; try with_reducible rfl
        try simp only [Act.put, List.setIfInBounds_toArray, List.set_cons_zero, List.set_cons_succ]
        refine wpAnyH_take (i := 3) (oi := ⟨some 48, .indexAddr 26 (.tmp 46) (.tmp 47), _, _, _, none⟩) (v := ?_) rfl (by kernel_rfl) (by kernel_rfl) (by kernel_rfl) (fun _ _ _ h => h) (Or.inl ⟨by rfl, ?_⟩) hHeld ?_
        rotate_left
        · intro W _; go_simp; try with_reducible rfl
        try simp only [Act.put, List.setIfInBounds_toArray, List.set_cons_zero, List.set_cons_succ]
        refine wpAnyH_take (i := 4) (oi := ⟨some 49, .load 23 (.tmp 48), _, _, _, none⟩) (v := .agg (bs sb).toArray) rfl (by kernel_rfl) (by kernel_rfl) (by kernel_rfl) (fun _ _ _ h => h) (yieldsIf_load_mid (by rfl) _ _ rfl bb (off + j * 32) rfl (bs sb) _ (fun W h => (range_below h hel6.out)) Tryd.underlying23 rfl HEK.out) hHeld ?_
        try simp only [Act.put, List.setIfInBounds_toArray, List.set_cons_zero, List.set_cons_succ]
        refine wpAnyH_take (i := 5) (oi := ⟨some 50, .load 23 (.tmp 13), _, _, _, none⟩) (v := .agg (bs dg).toArray) rfl (by kernel_rfl) (by kernel_rfl) (by kernel_rfl) (fun _ _ _ h => h) (yieldsIf_load_mid (by rfl) _ _ rfl w2.heap.size 0 rfl (bs dg) _ (fun W h => (hb5.out.below h).allR) Tryd.underlying23 rfl HD5.out) hHeld ?_
        try simp only [Act.put, List.setIfInBounds_toArray, List.set_cons_zero, List.set_cons_succ]
        refine wpAnyH_ready (rs := [6]) (by kernel_rfl) (by simp) ?_
        refine AllReadyH.cons (o := ⟨some 51, .call { callee := .value (.func 48), args := #[.tmp 49, .tmp 50], argTypes := #[23, 23] }, _, _, _, none⟩) rfl (fun K hK => ?_) AllReadyH.nil
        refine step_ofR (by rfl) ?_
        go_simp
        refine (N2.out _).mono ?_
        rintro ee W6 ⟨a6, c6, rfl, hR6, hb6⟩
        refine hK.out _ _ (Bt hHeld hb6) (fun hHeld => ?_)
        clear hK K
        try simp only [Act.put, List.setIfInBounds_toArray, List.set_cons_zero, List.set_cons_succ]
        refine wpAnyH_ready (rs := [7]) (by kernel_rfl) (by simp) ?_
        refine AllReadyH.cons (o := ⟨some 11, .assign (.tmp 51), _, _, _, none⟩) rfl (fun K hK => ?_) AllReadyH.nil
        refine step_ofR (by rfl) ?_
        go_simp
        refine hK.out _ _ (hHeld) (fun hHeld => ?_)
        clear hK K
        try simp only [Act.put, List.setIfInBounds_toArray, List.set_cons_zero, List.set_cons_succ]
        refine wpAnyH_done (by kernel_rfl) ?_ _
        -- END sum1
        have hBd := Bt HBr5.out hHeld
        clear hHeld
        go_wp2_with fail
        go_roundw
        case rel => exact ⟨j, (j : Int) - 1, ib, a6, 65, c6, by omega, rfl, by go_num, rfl, by rw [HQ.out]; exact hR6, HIN, Nat.le_refl _, hBd, hch6⟩
        case measure => simp [intOf]
    · have hgf : ¬ (t : Int) ≤ z := hge
      have hfin : sumF x p X.sibs t n q0 = q := by rw [hch.out, sumF_less _ _ _ _ _ _ (by omega)]
      have hBf := Bt HB1.out hBr
      have hlq := hql.out
      clear hz hch
      go_wp2_with fail
      go_ret
      exact ⟨a', m', c', rfl, Lib.hid hlq, hRq, hBf⟩
end
/-! The reference of layer 6: May, Check. -/
section
open Go.RowKit
set_option maxRecDepth 100000

set_option maxHeartbeats 4000000 in
theorem may_ref (w : World) (p : List UInt8) (hp : p.length = 32) (b : Bool) (v : List UInt8) (a : Option Addr) (n c : Nat) (X : Pf) (hx : X.ok) (hn : X.sibs.length = n) :
    Calls Tryd.prog 24 #[.agg (bs p).toArray, .agg (clc b v).toArray, .agg (pc a n c X).toArray] w fun e w' => e = .returned (.bool (suitsB p b X)) ∧ Below w.heap.size w w' := by
  have hS := Bx3.start w w (Below.refl _ w) p b v (pc a n c X)
  have hB := Lib.hid hS.bel
  have r3 := hS.x.allR
  have c0 := hS.x1
  have cb := hS.c0
  have cx := hS.x0
  have rxp := hS.xp
  have HS := Lib.hid hS
  have h5 := Lib.hid (digP hp)
  have h6 := Lib.hid (digP hx.p)
  have h7 := Lib.hid (size_of (a := a) (n := n) (c := c) hx)
  have HF := Lib.hid (fun W : World => plain_ref W a n c X hx)
  have HC := Lib.hid (fun W : World => common_ref W p X.op hp hx.p)
  have HE : Hid (suitsB p b X = (decide (n ≤ 256) && plainB X && (!X.other || (!b && (X.op != p && decide (n ≤ comm p X.op)))))) := Lib.hid (by rw [suitsB, formB, hn, comm_symm p])
  have HNE := Lib.hid (fun (v : Bool) (hv : (X.op != p) = v) => neqRun X.op p hx.p hp hv)
  have HL0 : Hid ((pc a n c X)[0]? = some (.slice a n c)) := Lib.hid rfl
  have HL1 : Hid ((pc a n c X)[1]? = some (.bool X.other)) := Lib.hid rfl
  clear hS hp hx hn
  generalize hS0 : ((w.alloc (.cells (bs p).toArray 23)).alloc (.cells (clc b v).toArray 25)).alloc (.cells (pc a n c X).toArray 28) = w0 at *
  generalize hFB : plainB X = fb at *
  generalize hOT : X.other = ot at *
  generalize comm p X.op = cm at *
  generalize suitsB p b X = R at *
  go_enter Tryd.func24, Tryd.ntmps24
  generalize hP : pc a n c X = P at *
  by_cases hn : n ≤ 256
  · have hn' : ¬ (256 : Int) < (n : Int) := by omega
    have hnb : decide (n ≤ 256) = true := by simpa using hn
    rw [hnb] at HE
    clear hn hnb
    cases b with
    | true =>
      cases ot with
      | true =>
        have HE2 : Hid (R = false) := Lib.hid (by rw [HE.out]; simp)
        go_wp2_with fail
        go_ret
        exact ⟨by rw [HE2.out]; rfl, hB.out⟩
      | false =>
        go_wp2_with ((with_reducible refine wpList_loadP (o := ⟨some 20, _, _, _, _, _⟩) ?_ (w.heap.size + 2) 0 28 (.tmp 5) ?_ ?_ r3 Tryd.underlying28 ?_ h7.out ?_); rfl; rfl; rfl; rfl)
        refine (HF.out _).mono ?_
        rintro e w1 ⟨rfl, hB1⟩
        have hBw := Bt hB.out hB1
        have HS1 := Lib.hid (HS.out.below hB1)
        have c1 := cell_later hB1 c0
        clear r3 c0 hB1 HF cb cx rxp
        cases fb with
        | false =>
          have HE2 : Hid (R = false) := Lib.hid (by rw [HE.out]; simp)
          go_wp2_with fail
          go_ret
          exact ⟨by rw [HE2.out]; rfl, hBw⟩
        | true =>
          have HE2 : Hid (R = true) := Lib.hid (by rw [HE.out]; simp)
          go_wp2_with fail
          -- REGION mayA 10
          refine wp_region_held_drew (S := fun W => Below w1.heap.size w1 W) (by kernel_rfl) (Below.refl _ w1).drew (fun hHeld => ?_)
          refine wpAnyH_take (i := 0) (oi := ⟨some 24, .fieldAddr 28 (.tmp 5) 1, _, _, _, none⟩) (v := ?_) rfl (by kernel_rfl) (by kernel_rfl) (by kernel_rfl) (fun _ _ _ h => h) (Or.inl ⟨by rfl, ?_⟩) hHeld ?_
          rotate_left
          · intro W _; go_simp; try with_reducible rfl
          try simp only [Act.put, List.setIfInBounds_toArray, List.set_cons_zero, List.set_cons_succ]
          refine wpAnyH_take (i := 1) (oi := ⟨some 25, .load 4 (.tmp 24), _, _, _, none⟩) (v := ?_) rfl (by kernel_rfl) (by kernel_rfl) (by kernel_rfl) (fun _ _ _ h => h) (Or.inl ⟨by rfl, ?_⟩) hHeld ?_
          rotate_left
          · intro W h; have h0 := (HS1.out.below h).x.cell HL1.out; go_simp; try with_reducible rfl
          try simp only [Act.put, List.setIfInBounds_toArray, List.set_cons_zero, List.set_cons_succ]
          refine wpAnyH_take (i := 2) (oi := ⟨some 26, .unOp .not 4 (.tmp 25), _, _, _, none⟩) (v := ?_) rfl (by kernel_rfl) (by kernel_rfl) (by kernel_rfl) (fun _ _ _ h => h) (Or.inl ⟨by rfl, ?_⟩) hHeld ?_
          rotate_left
          · intro W _; go_simp; try with_reducible rfl
          try simp only [Act.put, List.setIfInBounds_toArray, List.set_cons_zero, List.set_cons_succ]
          refine wpAnyH_take (i := 3) (oi := ⟨some 27, .move (.tmp 26), _, _, _, none⟩) (v := ?_) rfl (by kernel_rfl) (by kernel_rfl) (by kernel_rfl) (fun _ _ _ h => h) (Or.inl ⟨by rfl, ?_⟩) hHeld ?_
          rotate_left
          · intro W _; go_simp; try with_reducible rfl
          try simp only [Act.put, List.setIfInBounds_toArray, List.set_cons_zero, List.set_cons_succ]
          refine wpAnyH_take (i := 4) (oi := ⟨some 28, .fieldAddr 28 (.tmp 5) 2, _, _, _, some (3, false)⟩) (v := undef) rfl (by kernel_rfl) (by kernel_rfl) (by kernel_rfl) (fun _ _ _ h => h) (Or.inr ⟨by rfl, rfl⟩) hHeld ?_
          try simp only [Act.put, List.setIfInBounds_toArray, List.set_cons_zero, List.set_cons_succ]
          refine wpAnyH_take (i := 5) (oi := ⟨some 29, .load 23 (.tmp 28), _, _, _, some (3, false)⟩) (v := undef) rfl (by kernel_rfl) (by kernel_rfl) (by kernel_rfl) (fun _ _ _ h => h) (Or.inr ⟨by rfl, rfl⟩) hHeld ?_
          try simp only [Act.put, List.setIfInBounds_toArray, List.set_cons_zero, List.set_cons_succ]
          refine wpAnyH_take (i := 6) (oi := ⟨some 30, .load 23 (.tmp 3), _, _, _, some (3, false)⟩) (v := undef) rfl (by kernel_rfl) (by kernel_rfl) (by kernel_rfl) (fun _ _ _ h => h) (Or.inr ⟨by rfl, rfl⟩) hHeld ?_
          try simp only [Act.put, List.setIfInBounds_toArray, List.set_cons_zero, List.set_cons_succ]
          refine wpAnyH_take (i := 7) (oi := ⟨some 31, .binOp .neq 23 (.tmp 29) (.tmp 30) 23, _, _, _, some (3, false)⟩) (v := undef) rfl (by kernel_rfl) (by kernel_rfl) (by kernel_rfl) (fun _ _ _ h => h) (Or.inr ⟨by rfl, rfl⟩) hHeld ?_
          try simp only [Act.put, List.setIfInBounds_toArray, List.set_cons_zero, List.set_cons_succ]
          refine wpAnyH_take (i := 8) (oi := ⟨some 32, .move (.tmp 31), _, _, _, some (3, false)⟩) (v := undef) rfl (by kernel_rfl) (by kernel_rfl) (by kernel_rfl) (fun _ _ _ h => h) (Or.inr ⟨by rfl, rfl⟩) hHeld ?_
          try simp only [Act.put, List.setIfInBounds_toArray, List.set_cons_zero, List.set_cons_succ]
          refine wpAnyH_take (i := 9) (oi := ⟨some 33, .load 23 (.tmp 3), _, _, _, some (8, true)⟩) (v := undef) rfl (by kernel_rfl) (by kernel_rfl) (by kernel_rfl) (fun _ _ _ h => h) (Or.inr ⟨by rfl, rfl⟩) hHeld ?_
          try simp only [Act.put, List.setIfInBounds_toArray, List.set_cons_zero, List.set_cons_succ]
          refine wpAnyH_take (i := 10) (oi := ⟨some 34, .fieldAddr 28 (.tmp 5) 2, _, _, _, some (8, true)⟩) (v := undef) rfl (by kernel_rfl) (by kernel_rfl) (by kernel_rfl) (fun _ _ _ h => h) (Or.inr ⟨by rfl, rfl⟩) hHeld ?_
          try simp only [Act.put, List.setIfInBounds_toArray, List.set_cons_zero, List.set_cons_succ]
          refine wpAnyH_take (i := 11) (oi := ⟨some 35, .load 23 (.tmp 34), _, _, _, some (8, true)⟩) (v := undef) rfl (by kernel_rfl) (by kernel_rfl) (by kernel_rfl) (fun _ _ _ h => h) (Or.inr ⟨by rfl, rfl⟩) hHeld ?_
          try simp only [Act.put, List.setIfInBounds_toArray, List.set_cons_zero, List.set_cons_succ]
          refine wpAnyH_take (i := 13) (oi := ⟨some 37, .fieldAddr 28 (.tmp 5) 0, _, _, _, some (8, true)⟩) (v := undef) rfl (by kernel_rfl) (by kernel_rfl) (by kernel_rfl) (fun _ _ _ h => h) (Or.inr ⟨by rfl, rfl⟩) hHeld ?_
          try simp only [Act.put, List.setIfInBounds_toArray, List.set_cons_zero, List.set_cons_succ]
          refine wpAnyH_take (i := 14) (oi := ⟨some 38, .load 26 (.tmp 37), _, _, _, some (8, true)⟩) (v := undef) rfl (by kernel_rfl) (by kernel_rfl) (by kernel_rfl) (fun _ _ _ h => h) (Or.inr ⟨by rfl, rfl⟩) hHeld ?_
          try simp only [Act.put, List.setIfInBounds_toArray, List.set_cons_zero, List.set_cons_succ]
          refine wpAnyH_take (i := 15) (oi := ⟨some 39, .call { callee := .builtin .len, args := #[.tmp 38], argTypes := #[26] }, _, _, _, some (8, true)⟩) (v := undef) rfl (by kernel_rfl) (by kernel_rfl) (by kernel_rfl) (fun _ _ _ h => h) (Or.inr ⟨by rfl, rfl⟩) hHeld ?_
          try simp only [Act.put, List.setIfInBounds_toArray, List.set_cons_zero, List.set_cons_succ]
          refine wpAnyH_ready (rs := [12]) (by kernel_rfl) (by simp) ?_
          refine AllReadyH.cons (o := ⟨some 36, .call { callee := .value (.func 44), args := #[.tmp 33, .tmp 35], argTypes := #[23, 23] }, _, _, _, some (8, true)⟩) rfl (fun K hK => ?_) AllReadyH.nil
          refine step_skipR (by rfl) ?_
          refine hK.out _ _ (hHeld) (fun hHeld => ?_)
          clear hK K
          try simp only [Act.put, List.setIfInBounds_toArray, List.set_cons_zero, List.set_cons_succ]
          refine wpAnyH_take (i := 16) (oi := ⟨some 40, .binOp .geq 3 (.tmp 36) (.tmp 39) 3, _, _, _, some (8, true)⟩) (v := undef) rfl (by kernel_rfl) (by kernel_rfl) (by kernel_rfl) (fun _ _ _ h => h) (Or.inr ⟨by rfl, rfl⟩) hHeld ?_
          try simp only [Act.put, List.setIfInBounds_toArray, List.set_cons_zero, List.set_cons_succ]
          refine wpAnyH_take (i := 17) (oi := ⟨some 41, .pick (.tmp 32) (.tmp 40) (.const (.bool false)), _, _, _, some (3, false)⟩) (v := undef) rfl (by kernel_rfl) (by kernel_rfl) (by kernel_rfl) (fun _ _ _ h => h) (Or.inr ⟨by rfl, rfl⟩) hHeld ?_
          try simp only [Act.put, List.setIfInBounds_toArray, List.set_cons_zero, List.set_cons_succ]
          refine wpAnyH_take (i := 18) (oi := ⟨some 42, .pick (.tmp 27) (.const (.bool true)) (.tmp 41), _, _, _, none⟩) (v := ?_) rfl (by kernel_rfl) (by kernel_rfl) (by kernel_rfl) (fun _ _ _ h => h) (Or.inl ⟨by rfl, ?_⟩) hHeld ?_
          rotate_left
          · intro W _; go_simp; try with_reducible rfl
          try simp only [Act.put, List.setIfInBounds_toArray, List.set_cons_zero, List.set_cons_succ]
          refine wpAnyH_ready (rs := [19]) (by kernel_rfl) (by simp) ?_
          refine AllReadyH.cons (o := ⟨some 6, .assign (.tmp 42), _, _, _, none⟩) rfl (fun K hK => ?_) AllReadyH.nil
          refine step_ofR (by rfl) ?_
          go_simp
          refine hK.out _ _ (hHeld) (fun hHeld => ?_)
          clear hK K
          try simp only [Act.put, List.setIfInBounds_toArray, List.set_cons_zero, List.set_cons_succ]
          refine wpAnyH_done (by kernel_rfl) ?_ _
          -- END mayA
          go_wp2_with fail
          go_ret
          exact ⟨by rw [HE2.out]; rfl, hBw.trans (hHeld.mono hBw.size)⟩
    | false =>
      go_wp2_with ((with_reducible refine wpList_loadP (o := ⟨some 20, _, _, _, _, _⟩) ?_ (w.heap.size + 2) 0 28 (.tmp 5) ?_ ?_ r3 Tryd.underlying28 ?_ h7.out ?_); rfl; rfl; rfl; rfl)
      refine (HF.out _).mono ?_
      rintro e w1 ⟨rfl, hB1⟩
      have hBw := Bt hB.out hB1
      have HS1 := Lib.hid (HS.out.below hB1)
      have HX1 := Lib.hid (range_below hB1 rxp)
      have c1 := cell_later hB1 c0
      clear r3 c0 hB1 HF cb cx rxp
      cases fb with
      | false =>
        have HE2 : Hid (R = false) := Lib.hid (by rw [HE.out]; simp)
        go_wp2_with fail
        go_ret
        exact ⟨by rw [HE2.out]; rfl, hBw⟩
      | true =>
        cases ot with
        | false =>
          have HE2 : Hid (R = true) := Lib.hid (by rw [HE.out]; simp)
          go_wp2_with fail
          -- REGION mayB 10
          refine wp_region_held_drew (S := fun W => Below w1.heap.size w1 W) (by kernel_rfl) (Below.refl _ w1).drew (fun hHeld => ?_)
          refine wpAnyH_take (i := 0) (oi := ⟨some 24, .fieldAddr 28 (.tmp 5) 1, _, _, _, none⟩) (v := ?_) rfl (by kernel_rfl) (by kernel_rfl) (by kernel_rfl) (fun _ _ _ h => h) (Or.inl ⟨by rfl, ?_⟩) hHeld ?_
          rotate_left
          · intro W _; go_simp; try with_reducible rfl
          try simp only [Act.put, List.setIfInBounds_toArray, List.set_cons_zero, List.set_cons_succ]
          refine wpAnyH_take (i := 1) (oi := ⟨some 25, .load 4 (.tmp 24), _, _, _, none⟩) (v := ?_) rfl (by kernel_rfl) (by kernel_rfl) (by kernel_rfl) (fun _ _ _ h => h) (Or.inl ⟨by rfl, ?_⟩) hHeld ?_
          rotate_left
          · intro W h; have h0 := (HS1.out.below h).x.cell HL1.out; go_simp; try with_reducible rfl
          try simp only [Act.put, List.setIfInBounds_toArray, List.set_cons_zero, List.set_cons_succ]
          refine wpAnyH_take (i := 2) (oi := ⟨some 26, .unOp .not 4 (.tmp 25), _, _, _, none⟩) (v := ?_) rfl (by kernel_rfl) (by kernel_rfl) (by kernel_rfl) (fun _ _ _ h => h) (Or.inl ⟨by rfl, ?_⟩) hHeld ?_
          rotate_left
          · intro W _; go_simp; try with_reducible rfl
          try simp only [Act.put, List.setIfInBounds_toArray, List.set_cons_zero, List.set_cons_succ]
          refine wpAnyH_take (i := 3) (oi := ⟨some 27, .move (.tmp 26), _, _, _, none⟩) (v := ?_) rfl (by kernel_rfl) (by kernel_rfl) (by kernel_rfl) (fun _ _ _ h => h) (Or.inl ⟨by rfl, ?_⟩) hHeld ?_
          rotate_left
          · intro W _; go_simp; try with_reducible rfl
          try simp only [Act.put, List.setIfInBounds_toArray, List.set_cons_zero, List.set_cons_succ]
          refine wpAnyH_take (i := 4) (oi := ⟨some 28, .fieldAddr 28 (.tmp 5) 2, _, _, _, some (3, false)⟩) (v := undef) rfl (by kernel_rfl) (by kernel_rfl) (by kernel_rfl) (fun _ _ _ h => h) (Or.inr ⟨by rfl, rfl⟩) hHeld ?_
          try simp only [Act.put, List.setIfInBounds_toArray, List.set_cons_zero, List.set_cons_succ]
          refine wpAnyH_take (i := 5) (oi := ⟨some 29, .load 23 (.tmp 28), _, _, _, some (3, false)⟩) (v := undef) rfl (by kernel_rfl) (by kernel_rfl) (by kernel_rfl) (fun _ _ _ h => h) (Or.inr ⟨by rfl, rfl⟩) hHeld ?_
          try simp only [Act.put, List.setIfInBounds_toArray, List.set_cons_zero, List.set_cons_succ]
          refine wpAnyH_take (i := 6) (oi := ⟨some 30, .load 23 (.tmp 3), _, _, _, some (3, false)⟩) (v := undef) rfl (by kernel_rfl) (by kernel_rfl) (by kernel_rfl) (fun _ _ _ h => h) (Or.inr ⟨by rfl, rfl⟩) hHeld ?_
          try simp only [Act.put, List.setIfInBounds_toArray, List.set_cons_zero, List.set_cons_succ]
          refine wpAnyH_take (i := 7) (oi := ⟨some 31, .binOp .neq 23 (.tmp 29) (.tmp 30) 23, _, _, _, some (3, false)⟩) (v := undef) rfl (by kernel_rfl) (by kernel_rfl) (by kernel_rfl) (fun _ _ _ h => h) (Or.inr ⟨by rfl, rfl⟩) hHeld ?_
          try simp only [Act.put, List.setIfInBounds_toArray, List.set_cons_zero, List.set_cons_succ]
          refine wpAnyH_take (i := 8) (oi := ⟨some 32, .move (.tmp 31), _, _, _, some (3, false)⟩) (v := undef) rfl (by kernel_rfl) (by kernel_rfl) (by kernel_rfl) (fun _ _ _ h => h) (Or.inr ⟨by rfl, rfl⟩) hHeld ?_
          try simp only [Act.put, List.setIfInBounds_toArray, List.set_cons_zero, List.set_cons_succ]
          refine wpAnyH_take (i := 9) (oi := ⟨some 33, .load 23 (.tmp 3), _, _, _, some (8, true)⟩) (v := undef) rfl (by kernel_rfl) (by kernel_rfl) (by kernel_rfl) (fun _ _ _ h => h) (Or.inr ⟨by rfl, rfl⟩) hHeld ?_
          try simp only [Act.put, List.setIfInBounds_toArray, List.set_cons_zero, List.set_cons_succ]
          refine wpAnyH_take (i := 10) (oi := ⟨some 34, .fieldAddr 28 (.tmp 5) 2, _, _, _, some (8, true)⟩) (v := undef) rfl (by kernel_rfl) (by kernel_rfl) (by kernel_rfl) (fun _ _ _ h => h) (Or.inr ⟨by rfl, rfl⟩) hHeld ?_
          try simp only [Act.put, List.setIfInBounds_toArray, List.set_cons_zero, List.set_cons_succ]
          refine wpAnyH_take (i := 11) (oi := ⟨some 35, .load 23 (.tmp 34), _, _, _, some (8, true)⟩) (v := undef) rfl (by kernel_rfl) (by kernel_rfl) (by kernel_rfl) (fun _ _ _ h => h) (Or.inr ⟨by rfl, rfl⟩) hHeld ?_
          try simp only [Act.put, List.setIfInBounds_toArray, List.set_cons_zero, List.set_cons_succ]
          refine wpAnyH_take (i := 13) (oi := ⟨some 37, .fieldAddr 28 (.tmp 5) 0, _, _, _, some (8, true)⟩) (v := undef) rfl (by kernel_rfl) (by kernel_rfl) (by kernel_rfl) (fun _ _ _ h => h) (Or.inr ⟨by rfl, rfl⟩) hHeld ?_
          try simp only [Act.put, List.setIfInBounds_toArray, List.set_cons_zero, List.set_cons_succ]
          refine wpAnyH_take (i := 14) (oi := ⟨some 38, .load 26 (.tmp 37), _, _, _, some (8, true)⟩) (v := undef) rfl (by kernel_rfl) (by kernel_rfl) (by kernel_rfl) (fun _ _ _ h => h) (Or.inr ⟨by rfl, rfl⟩) hHeld ?_
          try simp only [Act.put, List.setIfInBounds_toArray, List.set_cons_zero, List.set_cons_succ]
          refine wpAnyH_take (i := 15) (oi := ⟨some 39, .call { callee := .builtin .len, args := #[.tmp 38], argTypes := #[26] }, _, _, _, some (8, true)⟩) (v := undef) rfl (by kernel_rfl) (by kernel_rfl) (by kernel_rfl) (fun _ _ _ h => h) (Or.inr ⟨by rfl, rfl⟩) hHeld ?_
          try simp only [Act.put, List.setIfInBounds_toArray, List.set_cons_zero, List.set_cons_succ]
          refine wpAnyH_ready (rs := [12]) (by kernel_rfl) (by simp) ?_
          refine AllReadyH.cons (o := ⟨some 36, .call { callee := .value (.func 44), args := #[.tmp 33, .tmp 35], argTypes := #[23, 23] }, _, _, _, some (8, true)⟩) rfl (fun K hK => ?_) AllReadyH.nil
          refine step_skipR (by rfl) ?_
          refine hK.out _ _ (hHeld) (fun hHeld => ?_)
          clear hK K
          try simp only [Act.put, List.setIfInBounds_toArray, List.set_cons_zero, List.set_cons_succ]
          refine wpAnyH_take (i := 16) (oi := ⟨some 40, .binOp .geq 3 (.tmp 36) (.tmp 39) 3, _, _, _, some (8, true)⟩) (v := undef) rfl (by kernel_rfl) (by kernel_rfl) (by kernel_rfl) (fun _ _ _ h => h) (Or.inr ⟨by rfl, rfl⟩) hHeld ?_
          try simp only [Act.put, List.setIfInBounds_toArray, List.set_cons_zero, List.set_cons_succ]
          refine wpAnyH_take (i := 17) (oi := ⟨some 41, .pick (.tmp 32) (.tmp 40) (.const (.bool false)), _, _, _, some (3, false)⟩) (v := undef) rfl (by kernel_rfl) (by kernel_rfl) (by kernel_rfl) (fun _ _ _ h => h) (Or.inr ⟨by rfl, rfl⟩) hHeld ?_
          try simp only [Act.put, List.setIfInBounds_toArray, List.set_cons_zero, List.set_cons_succ]
          refine wpAnyH_take (i := 18) (oi := ⟨some 42, .pick (.tmp 27) (.const (.bool true)) (.tmp 41), _, _, _, none⟩) (v := ?_) rfl (by kernel_rfl) (by kernel_rfl) (by kernel_rfl) (fun _ _ _ h => h) (Or.inl ⟨by rfl, ?_⟩) hHeld ?_
          rotate_left
          · intro W _; go_simp; try with_reducible rfl
          try simp only [Act.put, List.setIfInBounds_toArray, List.set_cons_zero, List.set_cons_succ]
          refine wpAnyH_ready (rs := [19]) (by kernel_rfl) (by simp) ?_
          refine AllReadyH.cons (o := ⟨some 6, .assign (.tmp 42), _, _, _, none⟩) rfl (fun K hK => ?_) AllReadyH.nil
          refine step_ofR (by rfl) ?_
          go_simp
          refine hK.out _ _ (hHeld) (fun hHeld => ?_)
          clear hK K
          try simp only [Act.put, List.setIfInBounds_toArray, List.set_cons_zero, List.set_cons_succ]
          refine wpAnyH_done (by kernel_rfl) ?_ _
          -- END mayB
          go_wp2_with fail
          go_ret
          exact ⟨by rw [HE2.out]; rfl, hBw.trans (hHeld.mono hBw.size)⟩
        | true =>
          cases hne : (X.op != p) with
          | false =>
            have E1 := Lib.hid (HNE.out false hne)
            have HE2 : Hid (R = false) := Lib.hid (by rw [HE.out, hne]; simp)
            go_wp2_with fail
            -- REGION mayC 12
            refine wp_region_held_drew (S := fun W => Below w1.heap.size w1 W) (by kernel_rfl) (Below.refl _ w1).drew (fun hHeld => ?_)
            refine wpAnyH_take (i := 0) (oi := ⟨some 24, .fieldAddr 28 (.tmp 5) 1, _, _, _, none⟩) (v := ?_) rfl (by kernel_rfl) (by kernel_rfl) (by kernel_rfl) (fun _ _ _ h => h) (Or.inl ⟨by rfl, ?_⟩) hHeld ?_
            rotate_left
            · intro W _; go_simp; try with_reducible rfl
            try simp only [Act.put, List.setIfInBounds_toArray, List.set_cons_zero, List.set_cons_succ]
            refine wpAnyH_take (i := 1) (oi := ⟨some 25, .load 4 (.tmp 24), _, _, _, none⟩) (v := ?_) rfl (by kernel_rfl) (by kernel_rfl) (by kernel_rfl) (fun _ _ _ h => h) (Or.inl ⟨by rfl, ?_⟩) hHeld ?_
            rotate_left
            · intro W h; have h0 := (HS1.out.below h).x.cell HL1.out; go_simp; try with_reducible rfl
            try simp only [Act.put, List.setIfInBounds_toArray, List.set_cons_zero, List.set_cons_succ]
            refine wpAnyH_take (i := 2) (oi := ⟨some 26, .unOp .not 4 (.tmp 25), _, _, _, none⟩) (v := ?_) rfl (by kernel_rfl) (by kernel_rfl) (by kernel_rfl) (fun _ _ _ h => h) (Or.inl ⟨by rfl, ?_⟩) hHeld ?_
            rotate_left
            · intro W _; go_simp; try with_reducible rfl
            try simp only [Act.put, List.setIfInBounds_toArray, List.set_cons_zero, List.set_cons_succ]
            refine wpAnyH_take (i := 3) (oi := ⟨some 27, .move (.tmp 26), _, _, _, none⟩) (v := ?_) rfl (by kernel_rfl) (by kernel_rfl) (by kernel_rfl) (fun _ _ _ h => h) (Or.inl ⟨by rfl, ?_⟩) hHeld ?_
            rotate_left
            · intro W _; go_simp; try with_reducible rfl
            try simp only [Act.put, List.setIfInBounds_toArray, List.set_cons_zero, List.set_cons_succ]
            refine wpAnyH_take (i := 4) (oi := ⟨some 28, .fieldAddr 28 (.tmp 5) 2, _, _, _, some (3, false)⟩) (v := ?_) rfl (by kernel_rfl) (by kernel_rfl) (by kernel_rfl) (fun _ _ _ h => h) (Or.inl ⟨by rfl, ?_⟩) hHeld ?_
            rotate_left
            · intro W _; go_simp; try with_reducible rfl
            try simp only [Act.put, List.setIfInBounds_toArray, List.set_cons_zero, List.set_cons_succ]
            refine wpAnyH_take (i := 5) (oi := ⟨some 29, .load 23 (.tmp 28), _, _, _, some (3, false)⟩) (v := .agg (bs X.op).toArray) rfl (by kernel_rfl) (by kernel_rfl) (by kernel_rfl) (fun _ _ _ h => h) (yieldsIf_load_mid (by rfl) _ _ rfl (w.heap.size + 2) 2 rfl (bs X.op) _ (fun W h => (range_below h HX1.out)) Tryd.underlying23 rfl h6.out) hHeld ?_
            try simp only [Act.put, List.setIfInBounds_toArray, List.set_cons_zero, List.set_cons_succ]
            refine wpAnyH_take (i := 6) (oi := ⟨some 30, .load 23 (.tmp 3), _, _, _, some (3, false)⟩) (v := .agg (bs p).toArray) rfl (by kernel_rfl) (by kernel_rfl) (by kernel_rfl) (fun _ _ _ h => h) (yieldsIf_load_mid (by rfl) _ _ rfl w.heap.size 0 rfl (bs p) _ (fun W h => (HS1.out.below h).pr) Tryd.underlying23 rfl h5.out) hHeld ?_
            try simp only [Act.put, List.setIfInBounds_toArray, List.set_cons_zero, List.set_cons_succ]
            refine wpAnyH_take (i := 7) (oi := ⟨some 31, .binOp .neq 23 (.tmp 29) (.tmp 30) 23, _, _, _, some (3, false)⟩) (v := .bool false) rfl (by kernel_rfl) (by kernel_rfl) (by kernel_rfl) (fun _ _ _ h => h) (yieldsIf_eqH (by rfl) .neq 23 23 (.tmp 29) (.tmp 30) rfl _ _ rfl rfl guardH _ E1.out) hHeld ?_
            try simp only [Act.put, List.setIfInBounds_toArray, List.set_cons_zero, List.set_cons_succ]
            refine wpAnyH_take (i := 8) (oi := ⟨some 32, .move (.tmp 31), _, _, _, some (3, false)⟩) (v := ?_) rfl (by kernel_rfl) (by kernel_rfl) (by kernel_rfl) (fun _ _ _ h => h) (Or.inl ⟨by rfl, ?_⟩) hHeld ?_
            rotate_left
            · intro W _; go_simp; try with_reducible rfl
            try simp only [Act.put, List.setIfInBounds_toArray, List.set_cons_zero, List.set_cons_succ]
            refine wpAnyH_take (i := 9) (oi := ⟨some 33, .load 23 (.tmp 3), _, _, _, some (8, true)⟩) (v := undef) rfl (by kernel_rfl) (by kernel_rfl) (by kernel_rfl) (fun _ _ _ h => h) (Or.inr ⟨by rfl, rfl⟩) hHeld ?_
            try simp only [Act.put, List.setIfInBounds_toArray, List.set_cons_zero, List.set_cons_succ]
            refine wpAnyH_take (i := 10) (oi := ⟨some 34, .fieldAddr 28 (.tmp 5) 2, _, _, _, some (8, true)⟩) (v := undef) rfl (by kernel_rfl) (by kernel_rfl) (by kernel_rfl) (fun _ _ _ h => h) (Or.inr ⟨by rfl, rfl⟩) hHeld ?_
            try simp only [Act.put, List.setIfInBounds_toArray, List.set_cons_zero, List.set_cons_succ]
            refine wpAnyH_take (i := 11) (oi := ⟨some 35, .load 23 (.tmp 34), _, _, _, some (8, true)⟩) (v := undef) rfl (by kernel_rfl) (by kernel_rfl) (by kernel_rfl) (fun _ _ _ h => h) (Or.inr ⟨by rfl, rfl⟩) hHeld ?_
            try simp only [Act.put, List.setIfInBounds_toArray, List.set_cons_zero, List.set_cons_succ]
            refine wpAnyH_take (i := 13) (oi := ⟨some 37, .fieldAddr 28 (.tmp 5) 0, _, _, _, some (8, true)⟩) (v := undef) rfl (by kernel_rfl) (by kernel_rfl) (by kernel_rfl) (fun _ _ _ h => h) (Or.inr ⟨by rfl, rfl⟩) hHeld ?_
            try simp only [Act.put, List.setIfInBounds_toArray, List.set_cons_zero, List.set_cons_succ]
            refine wpAnyH_take (i := 14) (oi := ⟨some 38, .load 26 (.tmp 37), _, _, _, some (8, true)⟩) (v := undef) rfl (by kernel_rfl) (by kernel_rfl) (by kernel_rfl) (fun _ _ _ h => h) (Or.inr ⟨by rfl, rfl⟩) hHeld ?_
            try simp only [Act.put, List.setIfInBounds_toArray, List.set_cons_zero, List.set_cons_succ]
            refine wpAnyH_take (i := 15) (oi := ⟨some 39, .call { callee := .builtin .len, args := #[.tmp 38], argTypes := #[26] }, _, _, _, some (8, true)⟩) (v := undef) rfl (by kernel_rfl) (by kernel_rfl) (by kernel_rfl) (fun _ _ _ h => h) (Or.inr ⟨by rfl, rfl⟩) hHeld ?_
            try simp only [Act.put, List.setIfInBounds_toArray, List.set_cons_zero, List.set_cons_succ]
            refine wpAnyH_ready (rs := [12]) (by kernel_rfl) (by simp) ?_
            refine AllReadyH.cons (o := ⟨some 36, .call { callee := .value (.func 44), args := #[.tmp 33, .tmp 35], argTypes := #[23, 23] }, _, _, _, some (8, true)⟩) rfl (fun K hK => ?_) AllReadyH.nil
            refine step_skipR (by rfl) ?_
            refine hK.out _ _ (hHeld) (fun hHeld => ?_)
            clear hK K
            try simp only [Act.put, List.setIfInBounds_toArray, List.set_cons_zero, List.set_cons_succ]
            refine wpAnyH_take (i := 16) (oi := ⟨some 40, .binOp .geq 3 (.tmp 36) (.tmp 39) 3, _, _, _, some (8, true)⟩) (v := undef) rfl (by kernel_rfl) (by kernel_rfl) (by kernel_rfl) (fun _ _ _ h => h) (Or.inr ⟨by rfl, rfl⟩) hHeld ?_
            try simp only [Act.put, List.setIfInBounds_toArray, List.set_cons_zero, List.set_cons_succ]
            refine wpAnyH_take (i := 17) (oi := ⟨some 41, .pick (.tmp 32) (.tmp 40) (.const (.bool false)), _, _, _, some (3, false)⟩) (v := ?_) rfl (by kernel_rfl) (by kernel_rfl) (by kernel_rfl) (fun _ _ _ h => h) (Or.inl ⟨by rfl, ?_⟩) hHeld ?_
            rotate_left
            · intro W _; go_simp; try with_reducible rfl
            try simp only [Act.put, List.setIfInBounds_toArray, List.set_cons_zero, List.set_cons_succ]
            refine wpAnyH_take (i := 18) (oi := ⟨some 42, .pick (.tmp 27) (.const (.bool true)) (.tmp 41), _, _, _, none⟩) (v := ?_) rfl (by kernel_rfl) (by kernel_rfl) (by kernel_rfl) (fun _ _ _ h => h) (Or.inl ⟨by rfl, ?_⟩) hHeld ?_
            rotate_left
            · intro W _; go_simp; try with_reducible rfl
            try simp only [Act.put, List.setIfInBounds_toArray, List.set_cons_zero, List.set_cons_succ]
            refine wpAnyH_ready (rs := [19]) (by kernel_rfl) (by simp) ?_
            refine AllReadyH.cons (o := ⟨some 6, .assign (.tmp 42), _, _, _, none⟩) rfl (fun K hK => ?_) AllReadyH.nil
            refine step_ofR (by rfl) ?_
            go_simp
            refine hK.out _ _ (hHeld) (fun hHeld => ?_)
            clear hK K
            try simp only [Act.put, List.setIfInBounds_toArray, List.set_cons_zero, List.set_cons_succ]
            refine wpAnyH_done (by kernel_rfl) ?_ _
            -- END mayC
            go_wp2_with fail
            go_ret
            exact ⟨by rw [HE2.out]; rfl, hBw.trans (hHeld.mono hBw.size)⟩
          | true =>
            have E1 := Lib.hid (HNE.out true hne)
            have hge : decide ((n : Int) ≤ (cm : Int)) = decide (n ≤ cm) := by simp
            have HE2 : Hid (R = decide (n ≤ cm)) := Lib.hid (by rw [HE.out, hne]; simp)
            go_wp2_with fail
            -- REGION mayD 12
            refine wp_region_held_drew (S := fun W => Below w1.heap.size w1 W) (by kernel_rfl) (Below.refl _ w1).drew (fun hHeld => ?_)
            refine wpAnyH_take (i := 0) (oi := ⟨some 24, .fieldAddr 28 (.tmp 5) 1, _, _, _, none⟩) (v := ?_) rfl (by kernel_rfl) (by kernel_rfl) (by kernel_rfl) (fun _ _ _ h => h) (Or.inl ⟨by rfl, ?_⟩) hHeld ?_
            rotate_left
            · intro W _; go_simp; try with_reducible rfl
            try simp only [Act.put, List.setIfInBounds_toArray, List.set_cons_zero, List.set_cons_succ]
            refine wpAnyH_take (i := 1) (oi := ⟨some 25, .load 4 (.tmp 24), _, _, _, none⟩) (v := ?_) rfl (by kernel_rfl) (by kernel_rfl) (by kernel_rfl) (fun _ _ _ h => h) (Or.inl ⟨by rfl, ?_⟩) hHeld ?_
            rotate_left
            · intro W h; have h0 := (HS1.out.below h).x.cell HL1.out; go_simp; try with_reducible rfl
            try simp only [Act.put, List.setIfInBounds_toArray, List.set_cons_zero, List.set_cons_succ]
            refine wpAnyH_take (i := 2) (oi := ⟨some 26, .unOp .not 4 (.tmp 25), _, _, _, none⟩) (v := ?_) rfl (by kernel_rfl) (by kernel_rfl) (by kernel_rfl) (fun _ _ _ h => h) (Or.inl ⟨by rfl, ?_⟩) hHeld ?_
            rotate_left
            · intro W _; go_simp; try with_reducible rfl
            try simp only [Act.put, List.setIfInBounds_toArray, List.set_cons_zero, List.set_cons_succ]
            refine wpAnyH_take (i := 3) (oi := ⟨some 27, .move (.tmp 26), _, _, _, none⟩) (v := ?_) rfl (by kernel_rfl) (by kernel_rfl) (by kernel_rfl) (fun _ _ _ h => h) (Or.inl ⟨by rfl, ?_⟩) hHeld ?_
            rotate_left
            · intro W _; go_simp; try with_reducible rfl
            try simp only [Act.put, List.setIfInBounds_toArray, List.set_cons_zero, List.set_cons_succ]
            refine wpAnyH_take (i := 4) (oi := ⟨some 28, .fieldAddr 28 (.tmp 5) 2, _, _, _, some (3, false)⟩) (v := ?_) rfl (by kernel_rfl) (by kernel_rfl) (by kernel_rfl) (fun _ _ _ h => h) (Or.inl ⟨by rfl, ?_⟩) hHeld ?_
            rotate_left
            · intro W _; go_simp; try with_reducible rfl
            try simp only [Act.put, List.setIfInBounds_toArray, List.set_cons_zero, List.set_cons_succ]
            refine wpAnyH_take (i := 5) (oi := ⟨some 29, .load 23 (.tmp 28), _, _, _, some (3, false)⟩) (v := .agg (bs X.op).toArray) rfl (by kernel_rfl) (by kernel_rfl) (by kernel_rfl) (fun _ _ _ h => h) (yieldsIf_load_mid (by rfl) _ _ rfl (w.heap.size + 2) 2 rfl (bs X.op) _ (fun W h => (range_below h HX1.out)) Tryd.underlying23 rfl h6.out) hHeld ?_
            try simp only [Act.put, List.setIfInBounds_toArray, List.set_cons_zero, List.set_cons_succ]
            refine wpAnyH_take (i := 6) (oi := ⟨some 30, .load 23 (.tmp 3), _, _, _, some (3, false)⟩) (v := .agg (bs p).toArray) rfl (by kernel_rfl) (by kernel_rfl) (by kernel_rfl) (fun _ _ _ h => h) (yieldsIf_load_mid (by rfl) _ _ rfl w.heap.size 0 rfl (bs p) _ (fun W h => (HS1.out.below h).pr) Tryd.underlying23 rfl h5.out) hHeld ?_
            try simp only [Act.put, List.setIfInBounds_toArray, List.set_cons_zero, List.set_cons_succ]
            refine wpAnyH_take (i := 7) (oi := ⟨some 31, .binOp .neq 23 (.tmp 29) (.tmp 30) 23, _, _, _, some (3, false)⟩) (v := .bool true) rfl (by kernel_rfl) (by kernel_rfl) (by kernel_rfl) (fun _ _ _ h => h) (yieldsIf_eqH (by rfl) .neq 23 23 (.tmp 29) (.tmp 30) rfl _ _ rfl rfl guardH _ E1.out) hHeld ?_
            try simp only [Act.put, List.setIfInBounds_toArray, List.set_cons_zero, List.set_cons_succ]
            refine wpAnyH_take (i := 8) (oi := ⟨some 32, .move (.tmp 31), _, _, _, some (3, false)⟩) (v := ?_) rfl (by kernel_rfl) (by kernel_rfl) (by kernel_rfl) (fun _ _ _ h => h) (Or.inl ⟨by rfl, ?_⟩) hHeld ?_
            rotate_left
            · intro W _; go_simp; try with_reducible rfl
            try simp only [Act.put, List.setIfInBounds_toArray, List.set_cons_zero, List.set_cons_succ]
            refine wpAnyH_take (i := 9) (oi := ⟨some 33, .load 23 (.tmp 3), _, _, _, some (8, true)⟩) (v := .agg (bs p).toArray) rfl (by kernel_rfl) (by kernel_rfl) (by kernel_rfl) (fun _ _ _ h => h) (yieldsIf_load_mid (by rfl) _ _ rfl w.heap.size 0 rfl (bs p) _ (fun W h => (HS1.out.below h).pr) Tryd.underlying23 rfl h5.out) hHeld ?_
            try simp only [Act.put, List.setIfInBounds_toArray, List.set_cons_zero, List.set_cons_succ]
            refine wpAnyH_take (i := 10) (oi := ⟨some 34, .fieldAddr 28 (.tmp 5) 2, _, _, _, some (8, true)⟩) (v := ?_) rfl (by kernel_rfl) (by kernel_rfl) (by kernel_rfl) (fun _ _ _ h => h) (Or.inl ⟨by rfl, ?_⟩) hHeld ?_
            rotate_left
            · intro W _; go_simp; try with_reducible rfl
            try simp only [Act.put, List.setIfInBounds_toArray, List.set_cons_zero, List.set_cons_succ]
            refine wpAnyH_take (i := 11) (oi := ⟨some 35, .load 23 (.tmp 34), _, _, _, some (8, true)⟩) (v := .agg (bs X.op).toArray) rfl (by kernel_rfl) (by kernel_rfl) (by kernel_rfl) (fun _ _ _ h => h) (yieldsIf_load_mid (by rfl) _ _ rfl (w.heap.size + 2) 2 rfl (bs X.op) _ (fun W h => (range_below h HX1.out)) Tryd.underlying23 rfl h6.out) hHeld ?_
            try simp only [Act.put, List.setIfInBounds_toArray, List.set_cons_zero, List.set_cons_succ]
            refine wpAnyH_take (i := 13) (oi := ⟨some 37, .fieldAddr 28 (.tmp 5) 0, _, _, _, some (8, true)⟩) (v := ?_) rfl (by kernel_rfl) (by kernel_rfl) (by kernel_rfl) (fun _ _ _ h => h) (Or.inl ⟨by rfl, ?_⟩) hHeld ?_
            rotate_left
            · intro W _; go_simp; try with_reducible rfl
            try simp only [Act.put, List.setIfInBounds_toArray, List.set_cons_zero, List.set_cons_succ]
            refine wpAnyH_take (i := 14) (oi := ⟨some 38, .load 26 (.tmp 37), _, _, _, some (8, true)⟩) (v := ?_) rfl (by kernel_rfl) (by kernel_rfl) (by kernel_rfl) (fun _ _ _ h => h) (Or.inl ⟨by rfl, ?_⟩) hHeld ?_
            rotate_left
            · intro W h; have h0 := (HS1.out.below h).x.cell HL0.out; go_simp; try with_reducible rfl
            try simp only [Act.put, List.setIfInBounds_toArray, List.set_cons_zero, List.set_cons_succ]
            refine wpAnyH_take (i := 15) (oi := ⟨some 39, .call { callee := .builtin .len, args := #[.tmp 38], argTypes := #[26] }, _, _, _, some (8, true)⟩) (v := ?_) rfl (by kernel_rfl) (by kernel_rfl) (by kernel_rfl) (fun _ _ _ h => h) (Or.inl ⟨by rfl, ?_⟩) hHeld ?_
            rotate_left
            · intro W _; go_simp; try with_reducible rfl
            try simp only [Act.put, List.setIfInBounds_toArray, List.set_cons_zero, List.set_cons_succ]
            refine wpAnyH_ready (rs := [12]) (by kernel_rfl) (by simp) ?_
            refine AllReadyH.cons (o := ⟨some 36, .call { callee := .value (.func 44), args := #[.tmp 33, .tmp 35], argTypes := #[23, 23] }, _, _, _, some (8, true)⟩) rfl (fun K hK => ?_) AllReadyH.nil
            refine step_ofR (by rfl) ?_
            go_simp
            refine (HC.out _).mono ?_
            rintro ee W12 ⟨rfl, hb6⟩
            refine hK.out _ _ (Bt hHeld hb6) (fun hHeld => ?_)
            clear hK K
            try simp only [Act.put, List.setIfInBounds_toArray, List.set_cons_zero, List.set_cons_succ]
            refine wpAnyH_take (i := 16) (oi := ⟨some 40, .binOp .geq 3 (.tmp 36) (.tmp 39) 3, _, _, _, some (8, true)⟩) (v := ?_) rfl (by kernel_rfl) (by kernel_rfl) (by kernel_rfl) (fun _ _ _ h => h) (Or.inl ⟨by rfl, ?_⟩) hHeld ?_
            rotate_left
            · intro W _; go_simp; try with_reducible rfl
            try simp only [Act.put, List.setIfInBounds_toArray, List.set_cons_zero, List.set_cons_succ]
            refine wpAnyH_take (i := 17) (oi := ⟨some 41, .pick (.tmp 32) (.tmp 40) (.const (.bool false)), _, _, _, some (3, false)⟩) (v := ?_) rfl (by kernel_rfl) (by kernel_rfl) (by kernel_rfl) (fun _ _ _ h => h) (Or.inl ⟨by rfl, ?_⟩) hHeld ?_
            rotate_left
            · intro W _; go_simp; try with_reducible rfl
            try simp only [Act.put, List.setIfInBounds_toArray, List.set_cons_zero, List.set_cons_succ]
            refine wpAnyH_take (i := 18) (oi := ⟨some 42, .pick (.tmp 27) (.const (.bool true)) (.tmp 41), _, _, _, none⟩) (v := ?_) rfl (by kernel_rfl) (by kernel_rfl) (by kernel_rfl) (fun _ _ _ h => h) (Or.inl ⟨by rfl, ?_⟩) hHeld ?_
            rotate_left
            · intro W _; go_simp; try with_reducible rfl
            try simp only [Act.put, List.setIfInBounds_toArray, List.set_cons_zero, List.set_cons_succ]
            refine wpAnyH_ready (rs := [19]) (by kernel_rfl) (by simp) ?_
            refine AllReadyH.cons (o := ⟨some 6, .assign (.tmp 42), _, _, _, none⟩) rfl (fun K hK => ?_) AllReadyH.nil
            refine step_ofR (by rfl) ?_
            go_simp
            refine hK.out _ _ (hHeld) (fun hHeld => ?_)
            clear hK K
            try simp only [Act.put, List.setIfInBounds_toArray, List.set_cons_zero, List.set_cons_succ]
            refine wpAnyH_done (by kernel_rfl) ?_ _
            -- END mayD
            go_wp2_with fail
            go_ret
            exact ⟨by rw [HE2.out]; rfl, hBw.trans (hHeld.mono hBw.size)⟩
  · have hn' : (256 : Int) < (n : Int) := by omega
    have hnb : decide (n ≤ 256) = false := by simpa using hn
    have HE2 : Hid (R = false) := Lib.hid (by rw [HE.out, hnb]; simp)
    clear hn hnb
    go_wp2_with fail
    go_ret
    exact ⟨by rw [HE2.out]; rfl, hB.out⟩

theorem sum_root (x : Nat) (p : List UInt8) (sibs : List (List UInt8)) : ∀ (k : Nat) (b : List UInt8), k ≤ sibs.length → shortB x (sumF x p sibs 0 k b) = upF x p 0 (sibs.take k) (shortB x b)
  | 0, b, _ => by simp [sumF, upF]
  | k + 1, b, hk => by
    have ht : sibs.take (k + 1) = sibs.take k ++ [sibs.getD k []] := by
      rw [List.take_add_one]
      simp [List.getD, show k < sibs.length by omega]
    rw [ht, upF_snoc, List.length_take, Nat.min_eq_left (by omega), Nat.zero_add, sumF_more _ _ _ _ _ _ (Nat.zero_le _), sum_root x p sibs k _ (by omega)]
theorem sum_rootB {x : Nat} {p : List UInt8} {b : Bool} {v : List UInt8} {X : Pf} {n : Nat} (hn : X.sibs.length = n) : shortB x (sumF x p X.sibs 0 n (startB p b v X)) = rootB x p b v X := by
  rw [sum_root _ _ _ _ _ (by omega), List.take_of_length_le (by omega)]
  rfl
set_option maxHeartbeats 4000000 in
theorem check_ref_no (w : World) (x : Int) (hx : x < 0 ∨ 32 < x) (root p : List UInt8) (C P : List Value) :
    Calls Tryd.prog 10 #[.int .i64 x, .agg (bs root).toArray, .agg (bs p).toArray, .agg C.toArray, .agg P.toArray] w fun e w' => e = .returned (.int .i64 1) ∧ Below w.heap.size w w' := by
  have hB := (Bx4.start w root p C P).bel
  have HN := Lib.hid (fun W : World => width_ref W x)
  have hd : (decide (0 ≤ x) && decide (x ≤ 32)) = false := by simp; omega
  rw [hd] at HN
  clear hx hd
  go_enter Tryd.func10, Tryd.ntmps10
  generalize hw0 : (((w.alloc (.cells (bs root).toArray 23)).alloc (.cells (bs p).toArray 23)).alloc (.cells C.toArray 25)).alloc (.cells P.toArray 28) = w0 at *
  go_wp2_with fail
  refine (HN.out _).mono ?_
  rintro e w1 ⟨rfl, rfl⟩
  go_wp2_with fail
  go_ret
  exact ⟨rfl, hB⟩

set_option maxHeartbeats 4000000 in
theorem check_ref_in (w : World) (x : Nat) (hx : x ≤ 32) (root p : List UInt8) (hro : root.length = 32) (hp : p.length = 32) (b : Bool) (v : List UInt8) (hv : v.length = 32) (a : Option Addr) (n c : Nat) (X : Pf) (hr : RdP6 w a n c X) (hT : Tab w 0) :
    Calls Tryd.prog 10 #[.int .i64 (x : Int), .agg (bs root).toArray, .agg (bs p).toArray, .agg (clc b v).toArray, .agg (pc a n c X).toArray] w fun e w' => e = .returned (.int .i64 (checkE x root p b v X)) ∧ Below w.heap.size w w' := by
  have hS := Bx4.start w root p (clc b v) (pc a n c X)
  have HB := Lib.hid hS
  have h4 := Lib.hid (digP hro)
  have h5 := Lib.hid (digP hp)
  have hv5 := Lib.hid (digP hv)
  have h6 := Lib.hid (infoClc (b := b) hv)
  have h7 := Lib.hid (size_of (a := a) (n := n) (c := c) hr.ok)
  have hlen := hr.sib.len
  have HNEW := Lib.hid (fun W : World => width_ref W (x : Int))
  have hd : (decide (0 ≤ (x : Int)) && decide ((x : Int) ≤ 32)) = true := by simp; omega
  rw [hd] at HNEW
  have HSU := Lib.hid (fun W : World => may_ref W p hp b v a n c X hr.ok hlen)
  have HRT := Lib.hid (fun (W : World) (hB : Below w.heap.size w W) (hn : n ≤ 256) => summed_ref W x hx p hp b v hv a n c X (hr.below hB) hn (hT.below hB) 0)
  have HSH := Lib.hid (fun (W : World) (hB : Below w.heap.size w W) (a' : Option Addr) (m c' : Nat) (q : List UInt8) (hR : Rd W a' m c' q) (hm : m ≤ 1000000) => short_ref W x hx a' m c' q hR (hT.below hB) hm)
  have HFEW : Hid (suitsB p b X = true → n ≤ 256) := Lib.hid (fun h => by rw [← hlen]; exact suitsB_few h)
  have HE : Hid (checkE (x : Int) root p b v X = if (!b && v != zero32) || !suitsB p b X then 40 else if rootB x p b v X != root then 41 else 0) := Lib.hid (by rw [checkE, if_pos ⟨by omega, by omega⟩]; rfl)
  have HSM : Hid ((sumF x p X.sibs 0 n (startB p b v X)).length ≤ 65) := Lib.hid (sumF_short hx hr.sib.ok 0 n _ (by omega) (by rw [startB_len hp hv hr.ok]; split <;> omega))
  have HRS : Hid (shortB x (sumF x p X.sibs 0 n (startB p b v X)) = rootB x p b v X) := Lib.hid (sum_rootB hlen)
  have HNV := Lib.hid (fun (k : Bool) (hk : (v != zero32) = k) => neqRun v zero32 hv zero32_length hk)
  have HNR := Lib.hid (fun (k : Bool) (hk : (rootB x p b v X != root) = k) => neqRun (rootB x p b v X) root (rootB_len hx) hro hk)
  have HRL : Hid ((rootB x p b v X).length = 32) := Lib.hid (rootB_len hx)
  have HBT := Lib.hid built0
  have rv : Hid (∀ W, Bx4 w W root p (clc b v) (pc a n c X) → W.rangeAt (w.heap.size + 2) 1 (bs v)) := Lib.hid (fun W h => h.c.range 1 (fun j _ => by unfold clc; rw [show 1 + j = j + 1 by omega, List.getElem?_cons_succ]))
  have HC0 : Hid ((clc b v)[0]? = some (.bool b)) := Lib.hid rfl
  clear hS hro hp hv hr hT hlen hx hd
  generalize suitsB p b X = sb at *
  generalize rootB x p b v X = rt at *
  generalize sumF x p X.sibs 0 n (startB p b v X) = sm at *
  generalize checkE (x : Int) root p b v X = R at *
  go_enter Tryd.func10, Tryd.ntmps10
  generalize clc b v = C at *
  generalize pc a n c X = P at *
  generalize hw0 : (((w.alloc (.cells (bs root).toArray 23)).alloc (.cells (bs p).toArray 23)).alloc (.cells C.toArray 25)).alloc (.cells P.toArray 28) = w0 at *
  go_wp2_with fail
  refine (HNEW.out _).mono ?_
  rintro e w1 ⟨rfl, rfl⟩
  have c0 := HB.out.c.cell HC0.out
  have r1 := rv.out _ HB.out
  have q1 := HB.out.p.allR
  have q2 := HB.out.c.allR
  have q3 := HB.out.x.allR
  cases b with
  | false =>
    cases hne : (v != zero32) with
    | true =>
      have E1 := Lib.hid (HNV.out true hne)
      have HE2 : Hid (R = 40) := Lib.hid (by rw [HE.out, hne]; rfl)
      clear HNV
      go_wp2_with (first
        | ((with_reducible refine wpList_loadP (o := ⟨some 21, _, _, _, _, _⟩) ?_ (w.heap.size + 2) 1 23 (.tmp 20) ?_ ?_ r1 Tryd.underlying23 ?_ hv5.out ?_); rfl; rfl; rfl; rfl)
        | ((with_reducible refine wpList_buildP (o := ⟨some 22, _, _, _, _, _⟩) ?_ 23 #[] ?_ (ps := []) ?_ HBT.out ?_); rfl; rfl; rfl)
        | ((with_reducible refine wpList_eqH (o := ⟨some 23, _, _, _, _, _⟩) ?_ .neq 23 23 (.tmp 21) (.tmp 22) ?_ (bs v).toArray (bs zero32).toArray ?_ ?_ guardH _ E1.out ?_); rfl; rfl; rfl; rfl))
      go_ret
      exact ⟨by rw [HE2.out]; rfl, HB.out.bel⟩
    | false =>
      have E1 := Lib.hid (HNV.out false hne)
      have HE2 : Hid (R = if !sb then 40 else if rt != root then 41 else 0) := Lib.hid (by rw [HE.out, hne]; simp)
      clear HNV HE
      go_wp2_with (first
        | ((with_reducible refine wpList_loadP (o := ⟨some 21, _, _, _, _, _⟩) ?_ (w.heap.size + 2) 1 23 (.tmp 20) ?_ ?_ r1 Tryd.underlying23 ?_ hv5.out ?_); rfl; rfl; rfl; rfl)
        | ((with_reducible refine wpList_buildP (o := ⟨some 22, _, _, _, _, _⟩) ?_ 23 #[] ?_ (ps := []) ?_ HBT.out ?_); rfl; rfl; rfl)
        | ((with_reducible refine wpList_eqH (o := ⟨some 23, _, _, _, _, _⟩) ?_ .neq 23 23 (.tmp 21) (.tmp 22) ?_ (bs v).toArray (bs zero32).toArray ?_ ?_ guardH _ E1.out ?_); rfl; rfl; rfl; rfl)
        | ((with_reducible refine wpList_loadP (o := ⟨some 26, _, _, _, _, _⟩) ?_ (w.heap.size + 1) 0 23 (.tmp 7) ?_ ?_ q1 Tryd.underlying23 ?_ h5.out ?_); rfl; rfl; rfl; rfl)
        | ((with_reducible refine wpList_loadP (o := ⟨some 27, _, _, _, _, _⟩) ?_ (w.heap.size + 2) 0 25 (.tmp 8) ?_ ?_ q2 Tryd.underlying25 ?_ h6.out ?_); rfl; rfl; rfl; rfl)
        | ((with_reducible refine wpList_loadP (o := ⟨some 28, _, _, _, _, _⟩) ?_ (w.heap.size + 3) 0 28 (.tmp 9) ?_ ?_ q3 Tryd.underlying28 ?_ h7.out ?_); rfl; rfl; rfl; rfl))
      refine (HSU.out _).mono ?_
      rintro e w2 ⟨rfl, hB2⟩
      have HB2 := Lib.hid (HB.out.below hB2)
      clear HSU HB c0 r1 q1 q2 q3 hB2
      cases sb with
      | false =>
        go_wp2_with fail
        go_ret
        exact ⟨by rw [HE2.out]; rfl, HB2.out.bel⟩
      | true =>
        have hn := HFEW.out rfl
        have q1 := HB2.out.p.allR
        have q2 := HB2.out.c.allR
        have q3 := HB2.out.x.allR
        go_wp2_with (first
          | ((with_reducible refine wpList_loadP (o := ⟨some 35, _, _, _, _, _⟩) ?_ (w.heap.size + 1) 0 23 (.tmp 7) ?_ ?_ q1 Tryd.underlying23 ?_ h5.out ?_); rfl; rfl; rfl; rfl)
          | ((with_reducible refine wpList_loadP (o := ⟨some 36, _, _, _, _, _⟩) ?_ (w.heap.size + 2) 0 25 (.tmp 8) ?_ ?_ q2 Tryd.underlying25 ?_ h6.out ?_); rfl; rfl; rfl; rfl)
          | ((with_reducible refine wpList_loadP (o := ⟨some 37, _, _, _, _, _⟩) ?_ (w.heap.size + 3) 0 28 (.tmp 9) ?_ ?_ q3 Tryd.underlying28 ?_ h7.out ?_); rfl; rfl; rfl; rfl))
        refine (HRT.out _ HB2.out.bel hn).mono ?_
        rintro e w3 ⟨a3, m3, c3, rfl, hm3, hR3, hB3⟩
        have HB3 := Lib.hid (HB2.out.below hB3)
        clear q1 q2 q3 HB2 hB3
        have hm3' : m3 ≤ 1000000 := by have := HSM.out; have := hm3.out; omega
        go_wp2_with fail
        refine (HSH.out _ HB3.out.bel a3 m3 c3 _ hR3 hm3').mono ?_
        rintro e w4 ⟨rfl, hB4⟩
        rw [HRS.out]
        have HB4 := Lib.hid (HB3.out.below hB4)
        have h8 := Lib.hid (digP HRL.out)
        have h9 := Lib.hid (bs_one rt)
        have h10 := Lib.hid (show (bs zero32).length = (bs rt).length by rw [bs_length, bs_length, HRL.out, zero32_length])
        clear HB3 hB4 hR3 hm3 hm3'
        cases hne2 : (rt != root) with
        | true =>
          have E2 := Lib.hid (HNR.out true hne2)
          have HE3 : Hid (R = 41) := Lib.hid (by rw [HE2.out, hne2]; rfl)
          go_wp2_with (first
            | ((with_reducible refine wpList_allocB (o := ⟨some 11, _, _, _, _, _⟩) ?_ 23 ?_ zeroD_info ?_); rfl; rfl; intro w5 hb5 hg5 hz5)
            | ((with_reducible refine wpList_storeB (o := ⟨none, .store 23 (.tmp 11) (.tmp 40), _, _, _, _⟩) ?_ 23 (.tmp 11) (.tmp 40) ?_ ?_ ?_ hb5 h8.out h10.out h9.out ?_); rfl; rfl; rfl; rfl; intro w6 hb6 hg6 hz6;
                have hB46 : Below w4.heap.size w4 w6 := ((Below.refl _ w4).grown hg5 (Nat.le_refl _) (fun k e => by cases e)).grown hg6 (by omega) (fun k e => by cases e; exact Nat.le_refl _); have HB6 := Lib.hid (HB4.out.below hB46); have s1 := hb6.allR; have s2 := HB6.out.r.allR)
            | ((with_reducible refine wpList_loadP (o := ⟨some 42, _, _, _, _, _⟩) ?_ w4.heap.size 0 23 (.tmp 11) ?_ ?_ s1 Tryd.underlying23 ?_ h8.out ?_); rfl; rfl; rfl; rfl)
            | ((with_reducible refine wpList_loadP (o := ⟨some 43, _, _, _, _, _⟩) ?_ w.heap.size 0 23 (.tmp 6) ?_ ?_ s2 Tryd.underlying23 ?_ h4.out ?_); rfl; rfl; rfl; rfl)
            | ((with_reducible refine wpList_eqH (o := ⟨some 44, _, _, _, _, _⟩) ?_ .neq 23 23 (.tmp 42) (.tmp 43) ?_ (bs rt).toArray (bs root).toArray ?_ ?_ guardH _ E2.out ?_); rfl; rfl; rfl; rfl))
          go_ret
          exact ⟨by rw [HE3.out]; rfl, HB6.out.bel⟩
        | false =>
          have E2 := Lib.hid (HNR.out false hne2)
          have HE3 : Hid (R = 0) := Lib.hid (by rw [HE2.out, hne2]; rfl)
          go_wp2_with (first
            | ((with_reducible refine wpList_allocB (o := ⟨some 11, _, _, _, _, _⟩) ?_ 23 ?_ zeroD_info ?_); rfl; rfl; intro w5 hb5 hg5 hz5)
            | ((with_reducible refine wpList_storeB (o := ⟨none, .store 23 (.tmp 11) (.tmp 40), _, _, _, _⟩) ?_ 23 (.tmp 11) (.tmp 40) ?_ ?_ ?_ hb5 h8.out h10.out h9.out ?_); rfl; rfl; rfl; rfl; intro w6 hb6 hg6 hz6;
                have hB46 : Below w4.heap.size w4 w6 := ((Below.refl _ w4).grown hg5 (Nat.le_refl _) (fun k e => by cases e)).grown hg6 (by omega) (fun k e => by cases e; exact Nat.le_refl _); have HB6 := Lib.hid (HB4.out.below hB46); have s1 := hb6.allR; have s2 := HB6.out.r.allR)
            | ((with_reducible refine wpList_loadP (o := ⟨some 42, _, _, _, _, _⟩) ?_ w4.heap.size 0 23 (.tmp 11) ?_ ?_ s1 Tryd.underlying23 ?_ h8.out ?_); rfl; rfl; rfl; rfl)
            | ((with_reducible refine wpList_loadP (o := ⟨some 43, _, _, _, _, _⟩) ?_ w.heap.size 0 23 (.tmp 6) ?_ ?_ s2 Tryd.underlying23 ?_ h4.out ?_); rfl; rfl; rfl; rfl)
            | ((with_reducible refine wpList_eqH (o := ⟨some 44, _, _, _, _, _⟩) ?_ .neq 23 23 (.tmp 42) (.tmp 43) ?_ (bs rt).toArray (bs root).toArray ?_ ?_ guardH _ E2.out ?_); rfl; rfl; rfl; rfl))
          go_ret
          exact ⟨by rw [HE3.out]; rfl, HB6.out.bel⟩
  | true =>
    have HE2 : Hid (R = if !sb then 40 else if rt != root then 41 else 0) := Lib.hid (by rw [HE.out]; rfl)
    clear HNV HE
    go_wp2_with (first
      | ((with_reducible refine wpList_loadP (o := ⟨some 26, _, _, _, _, _⟩) ?_ (w.heap.size + 1) 0 23 (.tmp 7) ?_ ?_ q1 Tryd.underlying23 ?_ h5.out ?_); rfl; rfl; rfl; rfl)
      | ((with_reducible refine wpList_loadP (o := ⟨some 27, _, _, _, _, _⟩) ?_ (w.heap.size + 2) 0 25 (.tmp 8) ?_ ?_ q2 Tryd.underlying25 ?_ h6.out ?_); rfl; rfl; rfl; rfl)
      | ((with_reducible refine wpList_loadP (o := ⟨some 28, _, _, _, _, _⟩) ?_ (w.heap.size + 3) 0 28 (.tmp 9) ?_ ?_ q3 Tryd.underlying28 ?_ h7.out ?_); rfl; rfl; rfl; rfl))
    refine (HSU.out _).mono ?_
    rintro e w2 ⟨rfl, hB2⟩
    have HB2 := Lib.hid (HB.out.below hB2)
    clear HSU HB c0 r1 q1 q2 q3 hB2
    cases sb with
    | false =>
      go_wp2_with fail
      go_ret
      exact ⟨by rw [HE2.out]; rfl, HB2.out.bel⟩
    | true =>
      have hn := HFEW.out rfl
      have q1 := HB2.out.p.allR
      have q2 := HB2.out.c.allR
      have q3 := HB2.out.x.allR
      go_wp2_with (first
        | ((with_reducible refine wpList_loadP (o := ⟨some 35, _, _, _, _, _⟩) ?_ (w.heap.size + 1) 0 23 (.tmp 7) ?_ ?_ q1 Tryd.underlying23 ?_ h5.out ?_); rfl; rfl; rfl; rfl)
        | ((with_reducible refine wpList_loadP (o := ⟨some 36, _, _, _, _, _⟩) ?_ (w.heap.size + 2) 0 25 (.tmp 8) ?_ ?_ q2 Tryd.underlying25 ?_ h6.out ?_); rfl; rfl; rfl; rfl)
        | ((with_reducible refine wpList_loadP (o := ⟨some 37, _, _, _, _, _⟩) ?_ (w.heap.size + 3) 0 28 (.tmp 9) ?_ ?_ q3 Tryd.underlying28 ?_ h7.out ?_); rfl; rfl; rfl; rfl))
      refine (HRT.out _ HB2.out.bel hn).mono ?_
      rintro e w3 ⟨a3, m3, c3, rfl, hm3, hR3, hB3⟩
      have HB3 := Lib.hid (HB2.out.below hB3)
      clear q1 q2 q3 HB2 hB3
      have hm3' : m3 ≤ 1000000 := by have := HSM.out; have := hm3.out; omega
      go_wp2_with fail
      refine (HSH.out _ HB3.out.bel a3 m3 c3 _ hR3 hm3').mono ?_
      rintro e w4 ⟨rfl, hB4⟩
      rw [HRS.out]
      have HB4 := Lib.hid (HB3.out.below hB4)
      have h8 := Lib.hid (digP HRL.out)
      have h9 := Lib.hid (bs_one rt)
      have h10 := Lib.hid (show (bs zero32).length = (bs rt).length by rw [bs_length, bs_length, HRL.out, zero32_length])
      clear HB3 hB4 hR3 hm3 hm3'
      cases hne2 : (rt != root) with
      | true =>
        have E2 := Lib.hid (HNR.out true hne2)
        have HE3 : Hid (R = 41) := Lib.hid (by rw [HE2.out, hne2]; rfl)
        go_wp2_with (first
          | ((with_reducible refine wpList_allocB (o := ⟨some 11, _, _, _, _, _⟩) ?_ 23 ?_ zeroD_info ?_); rfl; rfl; intro w5 hb5 hg5 hz5)
          | ((with_reducible refine wpList_storeB (o := ⟨none, .store 23 (.tmp 11) (.tmp 40), _, _, _, _⟩) ?_ 23 (.tmp 11) (.tmp 40) ?_ ?_ ?_ hb5 h8.out h10.out h9.out ?_); rfl; rfl; rfl; rfl; intro w6 hb6 hg6 hz6;
              have hB46 : Below w4.heap.size w4 w6 := ((Below.refl _ w4).grown hg5 (Nat.le_refl _) (fun k e => by cases e)).grown hg6 (by omega) (fun k e => by cases e; exact Nat.le_refl _); have HB6 := Lib.hid (HB4.out.below hB46); have s1 := hb6.allR; have s2 := HB6.out.r.allR)
          | ((with_reducible refine wpList_loadP (o := ⟨some 42, _, _, _, _, _⟩) ?_ w4.heap.size 0 23 (.tmp 11) ?_ ?_ s1 Tryd.underlying23 ?_ h8.out ?_); rfl; rfl; rfl; rfl)
          | ((with_reducible refine wpList_loadP (o := ⟨some 43, _, _, _, _, _⟩) ?_ w.heap.size 0 23 (.tmp 6) ?_ ?_ s2 Tryd.underlying23 ?_ h4.out ?_); rfl; rfl; rfl; rfl)
          | ((with_reducible refine wpList_eqH (o := ⟨some 44, _, _, _, _, _⟩) ?_ .neq 23 23 (.tmp 42) (.tmp 43) ?_ (bs rt).toArray (bs root).toArray ?_ ?_ guardH _ E2.out ?_); rfl; rfl; rfl; rfl))
        go_ret
        exact ⟨by rw [HE3.out]; rfl, HB6.out.bel⟩
      | false =>
        have E2 := Lib.hid (HNR.out false hne2)
        have HE3 : Hid (R = 0) := Lib.hid (by rw [HE2.out, hne2]; rfl)
        go_wp2_with (first
          | ((with_reducible refine wpList_allocB (o := ⟨some 11, _, _, _, _, _⟩) ?_ 23 ?_ zeroD_info ?_); rfl; rfl; intro w5 hb5 hg5 hz5)
          | ((with_reducible refine wpList_storeB (o := ⟨none, .store 23 (.tmp 11) (.tmp 40), _, _, _, _⟩) ?_ 23 (.tmp 11) (.tmp 40) ?_ ?_ ?_ hb5 h8.out h10.out h9.out ?_); rfl; rfl; rfl; rfl; intro w6 hb6 hg6 hz6;
              have hB46 : Below w4.heap.size w4 w6 := ((Below.refl _ w4).grown hg5 (Nat.le_refl _) (fun k e => by cases e)).grown hg6 (by omega) (fun k e => by cases e; exact Nat.le_refl _); have HB6 := Lib.hid (HB4.out.below hB46); have s1 := hb6.allR; have s2 := HB6.out.r.allR)
          | ((with_reducible refine wpList_loadP (o := ⟨some 42, _, _, _, _, _⟩) ?_ w4.heap.size 0 23 (.tmp 11) ?_ ?_ s1 Tryd.underlying23 ?_ h8.out ?_); rfl; rfl; rfl; rfl)
          | ((with_reducible refine wpList_loadP (o := ⟨some 43, _, _, _, _, _⟩) ?_ w.heap.size 0 23 (.tmp 6) ?_ ?_ s2 Tryd.underlying23 ?_ h4.out ?_); rfl; rfl; rfl; rfl)
          | ((with_reducible refine wpList_eqH (o := ⟨some 44, _, _, _, _, _⟩) ?_ .neq 23 23 (.tmp 42) (.tmp 43) ?_ (bs rt).toArray (bs root).toArray ?_ ?_ guardH _ E2.out ?_); rfl; rfl; rfl; rfl))
        go_ret
        exact ⟨by rw [HE3.out]; rfl, HB6.out.bel⟩
theorem check_ref (w : World) (x : Int) (root p : List UInt8) (hro : root.length = 32) (hp : p.length = 32) (b : Bool) (v : List UInt8) (hv : v.length = 32) (a : Option Addr) (n c : Nat) (X : Pf) (hr : RdP6 w a n c X) (hT : Tab w 0) :
    Calls Tryd.prog 10 #[.int .i64 x, .agg (bs root).toArray, .agg (bs p).toArray, .agg (clc b v).toArray, .agg (pc a n c X).toArray] w fun e w' => e = .returned (.int .i64 (checkE x root p b v X)) ∧ Below w.heap.size w w' := by
  by_cases hx : 0 ≤ x ∧ x ≤ 32
  · obtain ⟨k, rfl⟩ := Int.eq_ofNat_of_zero_le hx.1
    exact check_ref_in w k (by omega) root p hro hp b v hv a n c X hr hT
  · rw [checkE, if_neg hx]
    exact check_ref_no w x (by omega) root p _ _
end
/-! The walk of the statement ProofChecks. -/
section
open Go.RowKit
set_option maxRecDepth 100000

def YesC (w : World) (e : Ending) (w' : World) : Prop := e = .returned (.bool true) ∧ Below w.heap.size w w'

set_option maxHeartbeats 4000000 in
theorem walkProofChecks (w : World) (hT : Tab w 1) (hK : Tab w 0) (x : Int) (_ : (Lit.int .i64 x).wf = true) (root : List UInt8) (hro : root.length = 32) (p : List UInt8) (hp : p.length = 32) (b : Bool) (v : List UInt8) (hv : v.length = 32) (a : Option Addr) (n c : Nat) (X : Pf) (hr : RdP6 w a n c X) :
    Calls Tryd.prog 3 #[.int .i64 x, .agg (bs root).toArray, .agg (bs p).toArray, .agg (clc b v).toArray, .agg (pc a n c X).toArray] w (YesC w) := by
  have hS := Bx4.start w root p (clc b v) (pc a n c X)
  have c0 := hS.x.cell (j := 0) (v := .slice a n c) rfl
  by_cases hn : n ≤ 1000
  · have hn' : ¬ (1000 : Int) < (n : Int) := by omega
    have hx := hr.ok
    have HB := Lib.hid hS
    have h4 := Lib.hid (digP hro)
    have h5 := Lib.hid (digP hp)
    have h6 := Lib.hid (infoClc (b := b) hv)
    have HI : Hid (∀ a c, (Tryd.prog.info? 28).map (·.size) = some (pc a n c X).length ∧ (pc none 0 0 pf0).length = (pc a n c X).length ∧ ∀ u ∈ pc a n c X, u.oneCell' = true) := Lib.hid (fun a c => ⟨size_of hx, cells_len pf0_ok hx, pc_one _ _ _ _⟩)
    have I0 := Lib.hid (HI.out a c).1
    have OW := Lib.hid (fun (W : World) (h : Below w.heap.size w W) => ownPf_ref W a n c X (hr.below h) hn)
    have CK := Lib.hid (fun (W : World) (h : Below w.heap.size w W) => check_any W x root p hro hp b v hv a n c X (hr.below h) (hT.below h))
    have CS := Lib.hid (fun (W : World) (h : Below w.heap.size w W) => checks_any W (hT.below h))
    have CR := Lib.hid (fun (W : World) (h : Below w.heap.size w W) (a' : Option Addr) (c' : Nat) (hR : RdP6 W a' n c' X) => check_ref W x root p hro hp b v hv a' n c' X hR (hK.below h))
    have SM := Lib.hid (fun (W : World) (h : Below w.heap.size w W) (a' : Option Addr) (c' : Nat) (hR : RdP6 W a' n c' X) => samePf_ref W a n c a' c' X (hr.below h) hR hn)
    have q3 := hS.x.allR
    clear hS hr hT hK hro hp hv hx hn
    generalize checkE x root p b v X = E at *
    go_enter Tryd.func3, Tryd.ntmps3
    generalize clc b v = C at *
    generalize hP : pc a n c X = P at *
    generalize hw0 : (((w.alloc (.cells (bs root).toArray 23)).alloc (.cells (bs p).toArray 23)).alloc (.cells C.toArray 25)).alloc (.cells P.toArray 28) = w0 at *
    go_wp2_with ((with_reducible refine wpList_loadP (o := ⟨some 17, _, _, _, _, _⟩) ?_ (w.heap.size + 3) 0 28 (.tmp 9) ?_ ?_ q3 Tryd.underlying28 ?_ I0.out ?_); rfl; rfl; rfl; rfl)
    refine (OW.out _ HB.out.bel).mono ?_
    rintro e w1 ⟨a', c', rfl, hR1, hB1⟩
    have HB1 := Lib.hid (HB.out.below hB1)
    have I1 := Lib.hid (HI.out a' c').1
    have L1 := Lib.hid (HI.out a' c').2.1
    have O1 := Lib.hid (HI.out a' c').2.2
    clear q3 c0 HB hB1 OW
    generalize hP' : pc a' n c' X = P' at *
    go_wp2_with (first
      | ((with_reducible refine wpList_allocB (o := ⟨some 11, _, _, _, _, _⟩) ?_ 28 ?_ zeroP_info ?_); rfl; rfl; intro w2 hb2 hg2 hz2)
      | ((with_reducible refine wpList_storeB (o := ⟨none, .store 28 (.tmp 11) (.tmp 18), _, _, _, _⟩) ?_ 28 (.tmp 11) (.tmp 18) ?_ ?_ ?_ hb2 I1.out L1.out O1.out ?_); rfl; rfl; rfl; rfl; intro w3 hb3 hg3 hz3;
          have hB13 : Below w1.heap.size w1 w3 := ((Below.refl _ w1).grown hg2 (Nat.le_refl _) (fun k e => by cases e)).grown hg3 (by omega) (fun k e => by cases e; exact Nat.le_refl _);
          have HB3 := Lib.hid (HB1.out.below hB13); have hR3 := hR1.below hB13; have s1 := HB3.out.r.allR; have s2 := HB3.out.p.allR; have s3 := HB3.out.c.allR; have s4 := HB3.out.x.allR)
      | ((with_reducible refine wpList_loadP (o := ⟨some 20, _, _, _, _, _⟩) ?_ w.heap.size 0 23 (.tmp 6) ?_ ?_ s1 Tryd.underlying23 ?_ h4.out ?_); rfl; rfl; rfl; rfl)
      | ((with_reducible refine wpList_loadP (o := ⟨some 21, _, _, _, _, _⟩) ?_ (w.heap.size + 1) 0 23 (.tmp 7) ?_ ?_ s2 Tryd.underlying23 ?_ h5.out ?_); rfl; rfl; rfl; rfl)
      | ((with_reducible refine wpList_loadP (o := ⟨some 22, _, _, _, _, _⟩) ?_ (w.heap.size + 2) 0 25 (.tmp 8) ?_ ?_ s3 Tryd.underlying25 ?_ h6.out ?_); rfl; rfl; rfl; rfl)
      | ((with_reducible refine wpList_loadP (o := ⟨some 23, _, _, _, _, _⟩) ?_ (w.heap.size + 3) 0 28 (.tmp 9) ?_ ?_ s4 Tryd.underlying28 ?_ I0.out ?_); rfl; rfl; rfl; rfl))
    subst hP
    subst hP'
    refine (CK.out _ HB3.out.bel).mono ?_
    rintro e w4 ⟨rfl, hB4⟩
    have HB4 := Lib.hid (HB3.out.below hB4)
    have hR4 := hR3.below hB4
    have hb4 := hb3.below hB4
    clear hb2 hg2 hb3 hg3 hB13 s1 s2 s3 s4 HB3 HB1 hR3 hR1 hB4 CK
    go_wp2_with fail
    refine (CS.out _ HB4.out.bel).mono ?_
    rintro e w5 ⟨rfl, hB5⟩
    have HB5 := Lib.hid (HB4.out.below hB5)
    have hR5 := hR4.below hB5
    have hb5 := hb4.below hB5
    have s1 := HB5.out.r.allR
    have s2 := HB5.out.p.allR
    have s3 := HB5.out.c.allR
    have s5 := hb5.allR
    clear HB4 hR4 hb4 hB5 CS
    generalize hP' : pc a' n c' X = P' at *
    go_wp2_with (first
      | ((with_reducible refine wpList_loadP (o := ⟨some 29, _, _, _, _, _⟩) ?_ w.heap.size 0 23 (.tmp 6) ?_ ?_ s1 Tryd.underlying23 ?_ h4.out ?_); rfl; rfl; rfl; rfl)
      | ((with_reducible refine wpList_loadP (o := ⟨some 30, _, _, _, _, _⟩) ?_ (w.heap.size + 1) 0 23 (.tmp 7) ?_ ?_ s2 Tryd.underlying23 ?_ h5.out ?_); rfl; rfl; rfl; rfl)
      | ((with_reducible refine wpList_loadP (o := ⟨some 31, _, _, _, _, _⟩) ?_ (w.heap.size + 2) 0 25 (.tmp 8) ?_ ?_ s3 Tryd.underlying25 ?_ h6.out ?_); rfl; rfl; rfl; rfl)
      | ((with_reducible refine wpList_loadP (o := ⟨some 32, _, _, _, _, _⟩) ?_ w1.heap.size 0 28 (.tmp 11) ?_ ?_ s5 Tryd.underlying28 ?_ I1.out ?_); rfl; rfl; rfl; rfl))
    subst hP'
    refine (CR.out _ HB5.out.bel a' c' hR5).mono ?_
    rintro e w6 ⟨rfl, hB6⟩
    have HB6 := Lib.hid (HB5.out.below hB6)
    have hR6 := hR5.below hB6
    have hb6 := hb5.below hB6
    have s4 := HB6.out.x.allR
    have s5 := hb6.allR
    clear HB5 hR5 hb5 hB6 CR s1 s2 s3
    generalize hP' : pc a' n c' X = P' at *
    generalize hP : pc a n c X = P at *
    go_wp2_with (first
      | ((with_reducible refine wpList_loadP (o := ⟨some 37, _, _, _, _, _⟩) ?_ (w.heap.size + 3) 0 28 (.tmp 9) ?_ ?_ s4 Tryd.underlying28 ?_ I0.out ?_); rfl; rfl; rfl; rfl)
      | ((with_reducible refine wpList_loadP (o := ⟨some 38, _, _, _, _, _⟩) ?_ w1.heap.size 0 28 (.tmp 11) ?_ ?_ s5 Tryd.underlying28 ?_ I1.out ?_); rfl; rfl; rfl; rfl))
    subst hP
    subst hP'
    refine (SM.out _ HB6.out.bel a' c' hR6).mono ?_
    rintro e w7 ⟨rfl, hB7⟩
    have hBf := Bt HB6.out.bel hB7
    clear HB6 hR6 hb6 hB7 SM s4 s5
    go_wp2_with fail
    go_ret
    exact ⟨rfl, hBf⟩
  · have hn' : (1000 : Int) < (n : Int) := by omega
    have hB := hS.bel
    clear hS hr
    go_enter Tryd.func3, Tryd.ntmps3
    generalize clc b v = C at *
    generalize pc a n c X = P at *
    go_wp2_with fail
    go_ret
    exact ⟨rfl, hB⟩
end
end
/-! Clash, whatever the width; the reference's Clash. -/
section
open Go.RowKit
set_option maxRecDepth 100000

theorem cl_out {x : Int} {root p v v2 : List UInt8} {b b2 : Bool} {X Y : Pf} (hx : ¬ (0 ≤ x ∧ x ≤ 32)) : clA x root p b v X b2 v2 Y = [] ∧ clB x root p b v X b2 v2 Y = [] ∧ clE x root p b v X b2 v2 Y = 1 := by
  have he : checkE x root p b v X = 1 := by rw [checkE, if_neg hx]
  have h1 : clE x root p b v X b2 v2 Y = 1 := by rw [clE, he, if_neg (by decide)]
  exact ⟨by rw [clA, h1, if_neg (by decide)], by rw [clB, h1, if_neg (by decide)], h1⟩

set_option maxHeartbeats 4000000 in
theorem clash_no (w : World) (x : Int) (hx : x < 0 ∨ 32 < x) (root p : List UInt8) (hro : root.length = 32) (hp : p.length = 32) (b : Bool) (v : List UInt8) (hv : v.length = 32) (a : Option Addr) (n c : Nat) (X : Pf) (hr : RdP6 w a n c X)
    (b2 : Bool) (v2 : List UInt8) (_hv2 : v2.length = 32) (a2 : Option Addr) (n2 c2 : Nat) (Y : Pf) (hT : Tab w 1) :
    Calls Tryd.prog 12 #[.int .i64 x, .agg (bs root).toArray, .agg (bs p).toArray, .agg (clc b v).toArray, .agg (pc a n c X).toArray, .agg (clc b2 v2).toArray, .agg (pc a2 n2 c2 Y).toArray] w (ClPost w [] [] 1) := by
  have hS := Bx6.start w root p (clc b v) (pc a n c X) (clc b2 v2) (pc a2 n2 c2 Y)
  have HB := Lib.hid hS
  have h4 := Lib.hid (digP hro)
  have h5 := Lib.hid (digP hp)
  have h6 := Lib.hid (infoClc (b := b) hv)
  have h7 := Lib.hid (size_of (a := a) (n := n) (c := c) hr.ok)
  have CK1 := Lib.hid (fun (W : World) (h : Below w.heap.size w W) => check_any W x root p hro hp b v hv a n c X (hr.below h) (hT.below h))
  have he : checkE x root p b v X = 1 := by rw [checkE, if_neg (by omega)]
  rw [he] at CK1
  clear hS hro hp hv hr hT hx he
  generalize clc b v = C at *
  generalize pc a n c X = P at *
  generalize clc b2 v2 = C2 at *
  generalize pc a2 n2 c2 Y = P2 at *
  generalize hw0 : (((((w.alloc (.cells (bs root).toArray 23)).alloc (.cells (bs p).toArray 23)).alloc (.cells C.toArray 25)).alloc (.cells P.toArray 28)).alloc (.cells C2.toArray 25)).alloc (.cells P2.toArray 28) = w0 at *
  have s1 := HB.out.r.allR
  have s2 := HB.out.p.allR
  have s3 := HB.out.c.allR
  have s4 := HB.out.x.allR
  go_enter Tryd.func12, Tryd.ntmps12
  go_wp2_with (first
    | ((with_reducible refine wpList_loadP (o := ⟨some 23, _, _, _, _, _⟩) ?_ w.heap.size 0 23 (.tmp 8) ?_ ?_ s1 Tryd.underlying23 ?_ h4.out ?_); rfl; rfl; rfl; rfl)
    | ((with_reducible refine wpList_loadP (o := ⟨some 24, _, _, _, _, _⟩) ?_ (w.heap.size + 1) 0 23 (.tmp 9) ?_ ?_ s2 Tryd.underlying23 ?_ h5.out ?_); rfl; rfl; rfl; rfl)
    | ((with_reducible refine wpList_loadP (o := ⟨some 25, _, _, _, _, _⟩) ?_ (w.heap.size + 2) 0 25 (.tmp 10) ?_ ?_ s3 Tryd.underlying25 ?_ h6.out ?_); rfl; rfl; rfl; rfl)
    | ((with_reducible refine wpList_loadP (o := ⟨some 26, _, _, _, _, _⟩) ?_ (w.heap.size + 3) 0 28 (.tmp 11) ?_ ?_ s4 Tryd.underlying28 ?_ h7.out ?_); rfl; rfl; rfl; rfl))
  refine (CK1.out _ HB.out.bel).mono ?_
  rintro e w1 ⟨rfl, hB1⟩
  have HB1 := Lib.hid (HB.out.below hB1)
  clear s1 s2 s3 s4 HB hB1 CK1
  go_wp2_with fail
  go_ret3
  exact ⟨none, 0, 0, none, 0, 0, rfl, Rd.nil0 _, Rd.nil0 _, by omega, by omega, HB1.out.bel⟩

theorem clash_any (w : World) (x : Int) (root p : List UInt8) (hro : root.length = 32) (hp : p.length = 32) (b : Bool) (v : List UInt8) (hv : v.length = 32) (a : Option Addr) (n c : Nat) (X : Pf) (hr : RdP6 w a n c X)
    (b2 : Bool) (v2 : List UInt8) (hv2 : v2.length = 32) (a2 : Option Addr) (n2 c2 : Nat) (Y : Pf) (hr2 : RdP6 w a2 n2 c2 Y) (hT : Tab w 1) :
    Calls Tryd.prog 12 #[.int .i64 x, .agg (bs root).toArray, .agg (bs p).toArray, .agg (clc b v).toArray, .agg (pc a n c X).toArray, .agg (clc b2 v2).toArray, .agg (pc a2 n2 c2 Y).toArray] w (ClPost w (clA x root p b v X b2 v2 Y) (clB x root p b v X b2 v2 Y) (clE x root p b v X b2 v2 Y)) := by
  by_cases hx : 0 ≤ x ∧ x ≤ 32
  · obtain ⟨k, rfl⟩ := Int.eq_ofNat_of_zero_le hx.1
    exact clash_in w k (by omega) root p hro hp b v hv a n c X hr b2 v2 hv2 a2 n2 c2 Y hr2 hT
  · obtain ⟨e1, e2, e3⟩ := cl_out (root := root) (p := p) (b := b) (v := v) (X := X) (b2 := b2) (v2 := v2) (Y := Y) hx
    rw [e1, e2, e3]
    exact clash_no w x (by omega) root p hro hp b v hv a n c X hr b2 v2 hv2 a2 n2 c2 Y hT

set_option maxHeartbeats 8000000 in
theorem clashR_in (w : World) (x : Nat) (hx : x ≤ 32) (root p : List UInt8) (hro : root.length = 32) (hp : p.length = 32) (b : Bool) (v : List UInt8) (hv : v.length = 32) (a : Option Addr) (n c : Nat) (X : Pf) (hr : RdP6 w a n c X)
    (b2 : Bool) (v2 : List UInt8) (hv2 : v2.length = 32) (a2 : Option Addr) (n2 c2 : Nat) (Y : Pf) (hr2 : RdP6 w a2 n2 c2 Y) (hT : Tab w 0) :
    Calls Tryd.prog 13 #[.int .i64 (x : Int), .agg (bs root).toArray, .agg (bs p).toArray, .agg (clc b v).toArray, .agg (pc a n c X).toArray, .agg (clc b2 v2).toArray, .agg (pc a2 n2 c2 Y).toArray] w (ClPost w (clA x root p b v X b2 v2 Y) (clB x root p b v X b2 v2 Y) (clE x root p b v X b2 v2 Y)) := by
  have hS := Bx6.start w root p (clc b v) (pc a n c X) (clc b2 v2) (pc a2 n2 c2 Y)
  have HB := Lib.hid hS
  have h4 := Lib.hid (digP hro)
  have h5 := Lib.hid (digP hp)
  have h6 := Lib.hid (infoClc (b := b) hv)
  have h7 := Lib.hid (size_of (a := a) (n := n) (c := c) hr.ok)
  have h8 := Lib.hid (infoClc (b := b2) hv2)
  have h9 := Lib.hid (size_of (a := a2) (n := n2) (c := c2) hr2.ok)
  have CK1 := Lib.hid (fun (W : World) (h : Below w.heap.size w W) => check_ref W (x : Int) root p hro hp b v hv a n c X (hr.below h) (hT.below h))
  have CK2 := Lib.hid (fun (W : World) (h : Below w.heap.size w W) => check_ref W (x : Int) root p hro hp b2 v2 hv2 a2 n2 c2 Y (hr2.below h) (hT.below h))
  have HS1 := Lib.hid (fun (W : World) (h : Below w.heap.size w W) (hn : n ≤ 256) (t : Nat) => summed_ref W x hx p hp b v hv a n c X (hr.below h) hn (hT.below h) t)
  have HS2 := Lib.hid (fun (W : World) (h : Below w.heap.size w W) (hn : n2 ≤ 256) (t : Nat) => summed_ref W x hx p hp b2 v2 hv2 a2 n2 c2 Y (hr2.below h) hn (hT.below h) t)
  have EQC := Lib.hid (fun (k : Bool) (hk : sameCl b v b2 v2 = k) (W : World) => (by rw [eqC W b b2 v v2 hv hv2, hk] : (binOp .eql 25 (.agg (clc b v).toArray) (.agg (clc b2 v2).toArray)).run Tryd.prog W = .ok (.bool k) W))
  have hln := hr.sib.len
  have hln2 := hr2.sib.len
  have HA1 : Hid (∀ t, t ≤ n → sumF x p X.sibs t n (startB p b v X) = (hashL x p b v X).getD t []) := Lib.hid (fun t ht => by rw [hashL_at _ _ _ _ _ _ (by omega), hln])
  have HA2 : Hid (∀ t, t ≤ n2 → sumF x p Y.sibs t n2 (startB p b2 v2 Y) = (hashL x p b2 v2 Y).getD t []) := Lib.hid (fun t ht => by rw [hashL_at _ _ _ _ _ _ (by omega), hln2])
  have HF1 : Hid (∀ t, (sumF x p X.sibs t n (startB p b v X)).length ≤ 65) := Lib.hid (fun t => sumF_short hx hr.sib.ok t n _ (by omega) (by rw [startB_len hp hv hr.ok]; split <;> omega))
  have HF2 : Hid (∀ t, (sumF x p Y.sibs t n2 (startB p b2 v2 Y)).length ≤ 65) := Lib.hid (fun t => sumF_short hx hr2.sib.ok t n2 _ (by omega) (by rw [startB_len hp hv2 hr2.ok]; split <;> omega))
  have HC0 : Hid ((pc a n c X)[0]? = some (.slice a n c)) := Lib.hid rfl
  have HC2 : Hid ((pc a2 n2 c2 Y)[0]? = some (.slice a2 n2 c2)) := Lib.hid rfl
  have HK : Hid (checkE x root p b v X = 0 → checkE x root p b2 v2 Y = 0 → sameCl b v b2 v2 = false → n ≤ 256 ∧ n2 ≤ 256 ∧ clK x p b v X b2 v2 Y ≤ n ∧ clK x p b v X b2 v2 Y ≤ n2 ∧
      (hashL x p b v X).getD (clK x p b v X b2 v2 Y) [] ≠ (hashL x p b2 v2 Y).getD (clK x p b v X b2 v2 Y) [] ∧ ∀ i, i < clK x p b v X b2 v2 Y → (hashL x p b v X).getD i [] = (hashL x p b2 v2 Y).getD i []) := Lib.hid (fun g1 g2 g3 => by
    obtain ⟨-, z1, s1, -⟩ := checkE_ok g1
    obtain ⟨-, z2, s2, -⟩ := checkE_ok g2
    obtain ⟨k, k1, k2, k3⟩ := clash_part (x := x) hp hr.ok hr2.ok s1 s2 z1 z2 g3
    have hh := ckF_spec _ _ k (by rw [hashL_length]; omega) (by rw [hashL_length]; omega) k3
    exact ⟨by rw [← hln]; exact suitsB_few s1, by rw [← hln2]; exact suitsB_few s2, by unfold clK; omega, by unfold clK; omega, hh.2.1, hh.2.2⟩)
  have HV1 := checkE_vals (x : Int) root p v b X
  have HV2 := checkE_vals (x : Int) root p v2 b2 Y
  have HCE : Hid (clE x root p b v X b2 v2 Y = if checkE x root p b v X = 0 then (if checkE x root p b2 v2 Y = 0 then (if sameCl b v b2 v2 then 42 else 0) else checkE x root p b2 v2 Y) else checkE x root p b v X) := Lib.hid rfl
  have HCA : Hid (clA x root p b v X b2 v2 Y = if clE x root p b v X b2 v2 Y = 0 then (hashL x p b v X).getD (clK x p b v X b2 v2 Y) [] else []) := Lib.hid (by rw [clA, Int.toNat_natCast])
  have HCB : Hid (clB x root p b v X b2 v2 Y = if clE x root p b v X b2 v2 Y = 0 then (hashL x p b2 v2 Y).getD (clK x p b v X b2 v2 Y) [] else []) := Lib.hid (by rw [clB, Int.toNat_natCast])
  have FN : Hid (∀ (W : World) (er : Int), clE x root p b v X b2 v2 Y = er → er ≠ 0 → Below w.heap.size w W → ClPost w (clA x root p b v X b2 v2 Y) (clB x root p b v X b2 v2 Y) (clE x root p b v X b2 v2 Y) (.returned (.tuple #[.slice none 0 0, .slice none 0 0, .int .i64 er])) W) := Lib.hid (fun W er he hne hb => by
    refine ⟨none, 0, 0, none, 0, 0, by rw [he], ?_, ?_, by omega, by omega, hb⟩
    · rw [HCA.out, he, if_neg hne]; exact Rd.nil0 W
    · rw [HCB.out, he, if_neg hne]; exact Rd.nil0 W)
  have FY : Hid (∀ (W : World) (o o2 : Option Addr) (m1 k1 m2 k2 : Nat), clE x root p b v X b2 v2 Y = 0 → Rd W o m1 k1 ((hashL x p b v X).getD (clK x p b v X b2 v2 Y) []) → Rd W o2 m2 k2 ((hashL x p b2 v2 Y).getD (clK x p b v X b2 v2 Y) []) → m1 ≤ 65 → m2 ≤ 65 → Below w.heap.size w W →
      ClPost w (clA x root p b v X b2 v2 Y) (clB x root p b v X b2 v2 Y) (clE x root p b v X b2 v2 Y) (.returned (.tuple #[.slice o m1 k1, .slice o2 m2 k2, .int .i64 0])) W) := Lib.hid (fun W o o2 m1 k1 m2 k2 he hR1 hR2 hm1 hm2 hb =>
    ⟨o, m1, k1, o2, m2, k2, by rw [he], by rw [HCA.out, he]; exact hR1, by rw [HCB.out, he]; exact hR2, hm1, hm2, hb⟩)
  clear HCA HCB hS hro hp hv hr hv2 hr2 hT hx hln hln2
  generalize ClPost w (clA x root p b v X b2 v2 Y) (clB x root p b v X b2 v2 Y) (clE x root p b v X b2 v2 Y) = RP at *
  generalize clE x root p b v X b2 v2 Y = ce at *
  generalize checkE x root p b v X = c1 at *
  generalize checkE x root p b2 v2 Y = c2' at *
  generalize hashL x p b v X = A at *
  generalize startB p b v X = st1 at *
  generalize startB p b2 v2 Y = st2 at *
  generalize hashL x p b2 v2 Y = B at *
  generalize clK x p b v X b2 v2 Y = K0 at *
  generalize sameCl b v b2 v2 = sc at *
  generalize clc b v = C at *
  generalize pc a n c X = P at *
  generalize clc b2 v2 = C2 at *
  generalize pc a2 n2 c2 Y = P2 at *
  generalize hw0 : (((((w.alloc (.cells (bs root).toArray 23)).alloc (.cells (bs p).toArray 23)).alloc (.cells C.toArray 25)).alloc (.cells P.toArray 28)).alloc (.cells C2.toArray 25)).alloc (.cells P2.toArray 28) = w0 at *
  have s1 := HB.out.r.allR
  have s2 := HB.out.p.allR
  have s3 := HB.out.c.allR
  have s4 := HB.out.x.allR
  go_enter Tryd.func13, Tryd.ntmps13
  go_wp2_with (first
    | ((with_reducible refine wpList_loadP (o := ⟨some 22, _, _, _, _, _⟩) ?_ w.heap.size 0 23 (.tmp 8) ?_ ?_ s1 Tryd.underlying23 ?_ h4.out ?_); rfl; rfl; rfl; rfl)
    | ((with_reducible refine wpList_loadP (o := ⟨some 23, _, _, _, _, _⟩) ?_ (w.heap.size + 1) 0 23 (.tmp 9) ?_ ?_ s2 Tryd.underlying23 ?_ h5.out ?_); rfl; rfl; rfl; rfl)
    | ((with_reducible refine wpList_loadP (o := ⟨some 24, _, _, _, _, _⟩) ?_ (w.heap.size + 2) 0 25 (.tmp 10) ?_ ?_ s3 Tryd.underlying25 ?_ h6.out ?_); rfl; rfl; rfl; rfl)
    | ((with_reducible refine wpList_loadP (o := ⟨some 25, _, _, _, _, _⟩) ?_ (w.heap.size + 3) 0 28 (.tmp 11) ?_ ?_ s4 Tryd.underlying28 ?_ h7.out ?_); rfl; rfl; rfl; rfl))
  refine (CK1.out _ HB.out.bel).mono ?_
  rintro e w1 ⟨rfl, hB1⟩
  have HB1 := Lib.hid (HB.out.below hB1)
  clear s1 s2 s3 s4 HB hB1 CK1
  have s1 := HB1.out.r.allR
  have s2 := HB1.out.p.allR
  have s5 := HB1.out.d.allR
  have s6 := HB1.out.y.allR
  rcases HV1 with hc1 | hc1 | hc1 | hc1
  · subst hc1
    go_wp2_with (first
      | ((with_reducible refine wpList_loadP (o := ⟨some 31, _, _, _, _, _⟩) ?_ w.heap.size 0 23 (.tmp 8) ?_ ?_ s1 Tryd.underlying23 ?_ h4.out ?_); rfl; rfl; rfl; rfl)
      | ((with_reducible refine wpList_loadP (o := ⟨some 32, _, _, _, _, _⟩) ?_ (w.heap.size + 1) 0 23 (.tmp 9) ?_ ?_ s2 Tryd.underlying23 ?_ h5.out ?_); rfl; rfl; rfl; rfl)
      | ((with_reducible refine wpList_loadP (o := ⟨some 33, _, _, _, _, _⟩) ?_ (w.heap.size + 4) 0 25 (.tmp 12) ?_ ?_ s5 Tryd.underlying25 ?_ h8.out ?_); rfl; rfl; rfl; rfl)
      | ((with_reducible refine wpList_loadP (o := ⟨some 34, _, _, _, _, _⟩) ?_ (w.heap.size + 5) 0 28 (.tmp 13) ?_ ?_ s6 Tryd.underlying28 ?_ h9.out ?_); rfl; rfl; rfl; rfl))
    refine (CK2.out _ HB1.out.bel).mono ?_
    rintro e w2 ⟨rfl, hB2⟩
    have HB2 := Lib.hid (HB1.out.below hB2)
    clear s1 s2 s5 s6 HB1 hB2 CK2
    rcases HV2 with hc2 | hc2 | hc2 | hc2
    · subst hc2
      have q1 := HB2.out.c.allR
      have q2 := HB2.out.d.allR
      cases sc with
      | true =>
        have E1 := Lib.hid (EQC.out true (by first | trivial | rfl))
        have HE : Hid (ce = 42) := Lib.hid (by rw [HCE.out]; simp)
        go_wp2_with (first
          | ((with_reducible refine wpList_loadP (o := ⟨some 39, _, _, _, _, _⟩) ?_ (w.heap.size + 2) 0 25 (.tmp 10) ?_ ?_ q1 Tryd.underlying25 ?_ h6.out ?_); rfl; rfl; rfl; rfl)
          | ((with_reducible refine wpList_loadP (o := ⟨some 40, _, _, _, _, _⟩) ?_ (w.heap.size + 4) 0 25 (.tmp 12) ?_ ?_ q2 Tryd.underlying25 ?_ h8.out ?_); rfl; rfl; rfl; rfl)
          | ((with_reducible refine wpList_eqH (o := ⟨some 41, _, _, _, _, _⟩) ?_ .eql 25 25 (.tmp 39) (.tmp 40) ?_ C.toArray C2.toArray ?_ ?_ guardC _ E1.out ?_); rfl; rfl; rfl; rfl))
        go_ret3
        exact FN.out _ 42 HE.out (by decide) HB2.out.bel
      | false =>
        have E1 := Lib.hid (EQC.out false (by first | trivial | rfl))
        have HE : Hid (ce = 0) := Lib.hid (by rw [HCE.out]; simp)
        obtain ⟨hn, hn2, hk1, hk2, hkne, hkeq⟩ := HK.out (by first | trivial | rfl) (by first | trivial | rfl) (by first | trivial | rfl)
        have HKN := Lib.hid hkne
        have HKE := Lib.hid hkeq
        clear hkne hkeq HK
        go_wp2_with (first
          | ((with_reducible refine wpList_loadP (o := ⟨some 39, _, _, _, _, _⟩) ?_ (w.heap.size + 2) 0 25 (.tmp 10) ?_ ?_ q1 Tryd.underlying25 ?_ h6.out ?_); rfl; rfl; rfl; rfl)
          | ((with_reducible refine wpList_loadP (o := ⟨some 40, _, _, _, _, _⟩) ?_ (w.heap.size + 4) 0 25 (.tmp 12) ?_ ?_ q2 Tryd.underlying25 ?_ h8.out ?_); rfl; rfl; rfl; rfl)
          | ((with_reducible refine wpList_eqH (o := ⟨some 41, _, _, _, _, _⟩) ?_ .eql 25 25 (.tmp 39) (.tmp 40) ?_ C.toArray C2.toArray ?_ ?_ guardC _ E1.out ?_); rfl; rfl; rfl; rfl))
        go_loopw [18] (fun iv wr => ∃ k : Nat, k ≤ K0 ∧ iv = .int .i64 (k : Int) ∧ Below w2.heap.size w2 wr) (fun iv _ => K0 + 1 - (intOf iv).toNat)
        case atStart => exact ⟨0, by omega, rfl, Below.refl _ _⟩
        case round =>
          obtain ⟨k, hk, rfl, hBr⟩ := hrel
          have HBr := Lib.hid (HB2.out.below hBr)
          have g1 := HBr.out.x.cell HC0.out
          have g2 := HBr.out.y.cell HC2.out
          have s2 := HBr.out.p.allR
          have s3 := HBr.out.c.allR
          have s4 := HBr.out.x.allR
          have hkn1 : (k : Int) ≤ (n : Int) := by omega
          have hkn2 : (k : Int) ≤ (n2 : Int) := by omega
          have hki : IntKind.i64.wrap ((k : Int) + 1) = ((k + 1 : Nat) : Int) := IntWalk.i64_in _ (by omega)
          go_wp2_with (first
            | ((with_reducible refine wpList_loadP (o := ⟨some 57, _, _, _, _, _⟩) ?_ (w.heap.size + 1) 0 23 (.tmp 9) ?_ ?_ s2 Tryd.underlying23 ?_ h5.out ?_); rfl; rfl; rfl; rfl)
            | ((with_reducible refine wpList_loadP (o := ⟨some 58, _, _, _, _, _⟩) ?_ (w.heap.size + 2) 0 25 (.tmp 10) ?_ ?_ s3 Tryd.underlying25 ?_ h6.out ?_); rfl; rfl; rfl; rfl)
            | ((with_reducible refine wpList_loadP (o := ⟨some 59, _, _, _, _, _⟩) ?_ (w.heap.size + 3) 0 28 (.tmp 11) ?_ ?_ s4 Tryd.underlying28 ?_ h7.out ?_); rfl; rfl; rfl; rfl))
          refine (HS1.out _ HBr.out.bel hn k).mono ?_
          rintro e w3 ⟨o1, m1, k1, rfl, hm1, hR1, hB3⟩
          have HB3 := Lib.hid (HBr.out.below hB3)
          clear g1 g2 s2 s3 s4 hkn1 hkn2
          have s2 := HB3.out.p.allR
          have s5 := HB3.out.d.allR
          have s6 := HB3.out.y.allR
          go_wp2_with (first
            | ((with_reducible refine wpList_loadP (o := ⟨some 63, _, _, _, _, _⟩) ?_ (w.heap.size + 1) 0 23 (.tmp 9) ?_ ?_ s2 Tryd.underlying23 ?_ h5.out ?_); rfl; rfl; rfl; rfl)
            | ((with_reducible refine wpList_loadP (o := ⟨some 64, _, _, _, _, _⟩) ?_ (w.heap.size + 4) 0 25 (.tmp 12) ?_ ?_ s5 Tryd.underlying25 ?_ h8.out ?_); rfl; rfl; rfl; rfl)
            | ((with_reducible refine wpList_loadP (o := ⟨some 65, _, _, _, _, _⟩) ?_ (w.heap.size + 5) 0 28 (.tmp 13) ?_ ?_ s6 Tryd.underlying28 ?_ h9.out ?_); rfl; rfl; rfl; rfl))
          refine (HS2.out _ HB3.out.bel hn2 k).mono ?_
          rintro e w4 ⟨o2, m2, k2, rfl, hm2, hR2, hB4⟩
          have HB4 := Lib.hid (HB3.out.below hB4)
          have hl1 : m1 ≤ 65 := by have := HF1.out k; have := hm1.out; omega
          have hl2 : m2 ≤ 65 := by have := HF2.out k; have := hm2.out; omega
          rw [HA1.out k (by omega)] at hR1
          rw [HA2.out k (by omega)] at hR2
          have hR1' := hR1.below hB4
          have hBd := Bt hBr (Bt hB3 hB4)
          clear s2 s5 s6 HB3 HBr hR1 hm1 hm2 hB3 hB4 hBr
          by_cases hlt : k < K0
          · have hb := HKE.out k hlt
            rw [← hb] at hR2
            have v1 := hR1'.conv
            have v2 := hR2.conv
            clear hb hR1' hR2
            generalize A.getD k [] = ak at *
            go_wp2_with fail
            go_roundw
            case rel => exact ⟨k + 1, by omega, by go_num, hBd⟩
            case measure => simp [intOf]; omega
          · obtain rfl : k = K0 := by omega
            have v1 := hR1'.conv
            have v2 := hR2.conv
            have hne : ¬ str (A.getD k []) = str (B.getD k []) := fun e => HKN.out (str_inj e)
            have hbe : (A.getD k [] == B.getD k []) = false := by simpa using HKN.out
            have HR1 := Lib.hid hR1'
            have HR2 := Lib.hid hR2
            have HBf := Lib.hid HB4.out.bel
            clear hR1' hR2 hBd HKE HKN HA1 HA2 HF1 HF2
            generalize A.getD k [] = ak at *
            generalize B.getD k [] = bk at *
            go_wp2_with fail
            go_ret3
            exact FY.out _ _ _ _ _ _ _ HE.out HR1.out HR2.out hl1 hl2 HBf.out
    all_goals
      subst hc2
      go_wp2_with fail
      go_ret3
      exact FN.out _ _ (by rw [HCE.out]; rfl) (by decide) HB2.out.bel
  all_goals
    subst hc1
    go_wp2_with fail
    go_ret3
    exact FN.out _ _ (by rw [HCE.out]; rfl) (by decide) HB1.out.bel

set_option maxHeartbeats 4000000 in
theorem clashR_no (w : World) (x : Int) (hx : x < 0 ∨ 32 < x) (root p : List UInt8) (hro : root.length = 32) (hp : p.length = 32) (b : Bool) (v : List UInt8) (hv : v.length = 32) (a : Option Addr) (n c : Nat) (X : Pf) (hr : RdP6 w a n c X)
    (b2 : Bool) (v2 : List UInt8) (_hv2 : v2.length = 32) (a2 : Option Addr) (n2 c2 : Nat) (Y : Pf) (hT : Tab w 0) :
    Calls Tryd.prog 13 #[.int .i64 x, .agg (bs root).toArray, .agg (bs p).toArray, .agg (clc b v).toArray, .agg (pc a n c X).toArray, .agg (clc b2 v2).toArray, .agg (pc a2 n2 c2 Y).toArray] w (ClPost w [] [] 1) := by
  have hS := Bx6.start w root p (clc b v) (pc a n c X) (clc b2 v2) (pc a2 n2 c2 Y)
  have HB := Lib.hid hS
  have h4 := Lib.hid (digP hro)
  have h5 := Lib.hid (digP hp)
  have h6 := Lib.hid (infoClc (b := b) hv)
  have h7 := Lib.hid (size_of (a := a) (n := n) (c := c) hr.ok)
  have CK1 := Lib.hid (fun (W : World) (h : Below w.heap.size w W) => check_ref W x root p hro hp b v hv a n c X (hr.below h) (hT.below h))
  have he : checkE x root p b v X = 1 := by rw [checkE, if_neg (by omega)]
  rw [he] at CK1
  clear hS hro hp hv hr hT hx he
  generalize clc b v = C at *
  generalize pc a n c X = P at *
  generalize clc b2 v2 = C2 at *
  generalize pc a2 n2 c2 Y = P2 at *
  generalize hw0 : (((((w.alloc (.cells (bs root).toArray 23)).alloc (.cells (bs p).toArray 23)).alloc (.cells C.toArray 25)).alloc (.cells P.toArray 28)).alloc (.cells C2.toArray 25)).alloc (.cells P2.toArray 28) = w0 at *
  have s1 := HB.out.r.allR
  have s2 := HB.out.p.allR
  have s3 := HB.out.c.allR
  have s4 := HB.out.x.allR
  go_enter Tryd.func13, Tryd.ntmps13
  go_wp2_with (first
    | ((with_reducible refine wpList_loadP (o := ⟨some 22, _, _, _, _, _⟩) ?_ w.heap.size 0 23 (.tmp 8) ?_ ?_ s1 Tryd.underlying23 ?_ h4.out ?_); rfl; rfl; rfl; rfl)
    | ((with_reducible refine wpList_loadP (o := ⟨some 23, _, _, _, _, _⟩) ?_ (w.heap.size + 1) 0 23 (.tmp 9) ?_ ?_ s2 Tryd.underlying23 ?_ h5.out ?_); rfl; rfl; rfl; rfl)
    | ((with_reducible refine wpList_loadP (o := ⟨some 24, _, _, _, _, _⟩) ?_ (w.heap.size + 2) 0 25 (.tmp 10) ?_ ?_ s3 Tryd.underlying25 ?_ h6.out ?_); rfl; rfl; rfl; rfl)
    | ((with_reducible refine wpList_loadP (o := ⟨some 25, _, _, _, _, _⟩) ?_ (w.heap.size + 3) 0 28 (.tmp 11) ?_ ?_ s4 Tryd.underlying28 ?_ h7.out ?_); rfl; rfl; rfl; rfl))
  refine (CK1.out _ HB.out.bel).mono ?_
  rintro e w1 ⟨rfl, hB1⟩
  have HB1 := Lib.hid (HB.out.below hB1)
  clear s1 s2 s3 s4 HB hB1 CK1
  go_wp2_with fail
  go_ret3
  exact ⟨none, 0, 0, none, 0, 0, rfl, Rd.nil0 _, Rd.nil0 _, by omega, by omega, HB1.out.bel⟩

theorem clashR_any (w : World) (x : Int) (root p : List UInt8) (hro : root.length = 32) (hp : p.length = 32) (b : Bool) (v : List UInt8) (hv : v.length = 32) (a : Option Addr) (n c : Nat) (X : Pf) (hr : RdP6 w a n c X)
    (b2 : Bool) (v2 : List UInt8) (hv2 : v2.length = 32) (a2 : Option Addr) (n2 c2 : Nat) (Y : Pf) (hr2 : RdP6 w a2 n2 c2 Y) (hT : Tab w 0) :
    Calls Tryd.prog 13 #[.int .i64 x, .agg (bs root).toArray, .agg (bs p).toArray, .agg (clc b v).toArray, .agg (pc a n c X).toArray, .agg (clc b2 v2).toArray, .agg (pc a2 n2 c2 Y).toArray] w (ClPost w (clA x root p b v X b2 v2 Y) (clB x root p b v X b2 v2 Y) (clE x root p b v X b2 v2 Y)) := by
  by_cases hx : 0 ≤ x ∧ x ≤ 32
  · obtain ⟨k, rfl⟩ := Int.eq_ofNat_of_zero_le hx.1
    exact clashR_in w k (by omega) root p hro hp b v hv a n c X hr b2 v2 hv2 a2 n2 c2 Y hr2 hT
  · obtain ⟨e1, e2, e3⟩ := cl_out (root := root) (p := p) (b := b) (v := v) (X := X) (b2 := b2) (v2 := v2) (Y := Y) hx
    rw [e1, e2, e3]
    exact clashR_no w x (by omega) root p hro hp b v hv a n c X hr b2 v2 hv2 a2 n2 c2 Y hT
end
/-! The statements ProofClash and ProofBinds: clashes; the walks. -/
section
open Go.RowKit
set_option maxRecDepth 100000

def e5 : List UInt8 := 5 :: List.replicate 31 0
theorem e5_len : e5.length = 32 := by decide
theorem built_e5 : Tryd.prog.built 23 [(0, .int .u8 5)] = some (bs e5).toArray := by kernel_rfl
theorem built_cl5 : Tryd.prog.built 25 [(0, .bool true), (1, .agg (bs e5).toArray)] = some (clc true e5).toArray := by kernel_rfl
theorem short_none (q : List UInt8) : shortB 0 q = zero32 := by simp [shortB, shortL, zero32]
theorem root_e5 : (rootB 32 d9 true e5 pf0 != zero32) = true := by decide +kernel
theorem chk_0a : checkE 0 zero32 d9 true e5 pf0 = 0 := by
  have e : rootB 0 d9 true e5 pf0 = zero32 := short_none _
  have s : suitsB d9 true pf0 = true := rfl
  rw [checkE, if_pos (by decide), s]
  show (if (!true && e5 != zero32) || !true then (40 : Int) else if rootB 0 d9 true e5 pf0 != zero32 then 41 else 0) = 0
  rw [e]; simp
theorem chk_0b : checkE 0 zero32 d9 false zero32 pf0 = 0 := by
  have e : rootB 0 d9 false zero32 pf0 = zero32 := short_none _
  have s : suitsB d9 false pf0 = true := rfl
  rw [checkE, if_pos (by decide), s]
  show (if (!false && zero32 != zero32) || !true then (40 : Int) else if rootB 0 d9 false zero32 pf0 != zero32 then 41 else 0) = 0
  rw [e]; simp
theorem chk_32 : checkE 32 zero32 d9 true e5 pf0 = 41 := by
  have s : suitsB d9 true pf0 = true := rfl
  rw [checkE, if_pos (by decide), s]
  show (if (!true && e5 != zero32) || !true then (40 : Int) else if rootB 32 d9 true e5 pf0 != zero32 then 41 else 0) = 41
  rw [root_e5]; rfl
theorem cl_a : clE 0 zero32 d9 true e5 pf0 false zero32 pf0 = 0 := by
  rw [clE, chk_0a, if_pos rfl, chk_0b, if_pos rfl]
  rfl
theorem cl_a1 : (clA 0 zero32 d9 true e5 pf0 false zero32 pf0).length = 65 := by
  rw [clA, if_pos cl_a]
  rfl
theorem cl_a2 : (clB 0 zero32 d9 true e5 pf0 false zero32 pf0).length = 1 := by
  rw [clB, if_pos cl_a]
  rfl
theorem cl_b : clE 0 zero32 d9 true e5 pf0 true e5 pf0 = 42 := by
  rw [clE, chk_0a, if_pos rfl, if_pos rfl, sameCl_self]
  rfl
theorem cl_c : clE 32 zero32 d9 true e5 pf0 false zero32 pf0 = 41 := by
  rw [clE, chk_32, if_neg (by decide)]

/-- what clashes keeps -/
structure CsAt (w W : World) (D V : List Value) : Prop where
  d : Blk W w.heap.size 23 D
  c : Blk W (w.heap.size + 1) 25 V
  bel : Below w.heap.size w W
theorem CsAt.below {w W W' : World} {D V : List Value} (h : CsAt w W D V) (hb : Below W.heap.size W W') : CsAt w W' D V := ⟨h.d.below hb, h.c.below hb, Bt h.bel hb⟩

theorem csAt_mk {w w1 w2 w3 w4 : World} {D V : List Value} (hb2 : Blk w2 w.heap.size 23 D) (hb4 : Blk w4 (w.heap.size + 1) 25 V) (hg1 : w.grownBy w1 none) (hg2 : w1.grownBy w2 (some w.heap.size)) (hg3 : w2.grownBy w3 none) (hg4 : w3.grownBy w4 (some (w.heap.size + 1)))
    (hz1 : w1.heap.size = w.heap.size + 1) (hz2 : w2.heap.size = w.heap.size + 1) (hz3 : w3.heap.size = w.heap.size + 1 + 1) : CsAt w w4 D V := by
  have h1 : Below w.heap.size w w1 := (Below.refl _ w).grown hg1 (Nat.le_refl _) (fun k e => by cases e)
  have h2 := h1.grown hg2 (by omega) (fun k e => by cases e; exact Nat.le_refl _)
  have h3 := h2.grown hg3 (by omega) (fun k e => by cases e)
  have h4 := h3.grown hg4 (by omega) (fun k e => by cases e; omega)
  exact ⟨(hb2.grown hg3 (by simp)).grown hg4 (fun e => by injection e with e; omega), hb4, h4⟩

set_option maxHeartbeats 4000000 in
theorem clashes_any (w : World) (hT : Tab w 1) :
    Calls Tryd.prog 14 #[] w fun e w' => e = .returned (.bool true) ∧ Below w.heap.size w w' := by
  have hP0 : ∀ W : World, RdP6 W none 0 0 pf0 := fun W => ⟨RdD.nil0 W, zero32_length, zero32_length⟩
  have C1 := Lib.hid (fun (W : World) (h : Below w.heap.size w W) => clash_any W 0 zero32 d9 zero32_length d9_len true e5 e5_len none 0 0 pf0 (hP0 W) false zero32 zero32_length none 0 0 pf0 (hP0 W) (hT.below h))
  have C2 := Lib.hid (fun (W : World) (h : Below w.heap.size w W) => clash_any W 0 zero32 d9 zero32_length d9_len true e5 e5_len none 0 0 pf0 (hP0 W) true e5 e5_len none 0 0 pf0 (hP0 W) (hT.below h))
  have C3 := Lib.hid (fun (W : World) (h : Below w.heap.size w W) => clash_any W 32 zero32 d9 zero32_length d9_len true e5 e5_len none 0 0 pf0 (hP0 W) false zero32 zero32_length none 0 0 pf0 (hP0 W) (hT.below h))
  rw [cl_a] at C1
  rw [cl_b] at C2
  rw [cl_c] at C3
  have L1 := Lib.hid cl_a1
  have L2 := Lib.hid cl_a2
  have H5 := Lib.hid (digP d9_len)
  have H6 := Lib.hid (show (bs zero32).length = (bs d9).length by rw [bs_length, bs_length, zero32_length, d9_len])
  have H7 := Lib.hid (bs_one d9)
  have I5 := Lib.hid (infoClc (b := true) e5_len)
  have I6 := Lib.hid (show (clc false zero32).length = (clc true e5).length by rw [clcZ_len, clc_len e5_len])
  have I7 := Lib.hid (clc_one true e5)
  have ZC := zeroClc_info
  have B0 := Lib.hid built_d9
  have B1 := Lib.hid built_clcZ
  have B2 := Lib.hid built_e5
  have B3 := Lib.hid built_cl5
  have B4 := Lib.hid built_pf0
  have B5 := Lib.hid built0
  clear hT hP0
  generalize clA 0 zero32 d9 true e5 pf0 false zero32 pf0 = la at *
  generalize clB 0 zero32 d9 true e5 pf0 false zero32 pf0 = lb at *
  generalize clA 0 zero32 d9 true e5 pf0 true e5 pf0 = la2 at *
  generalize clB 0 zero32 d9 true e5 pf0 true e5 pf0 = lb2 at *
  generalize clA 32 zero32 d9 true e5 pf0 false zero32 pf0 = la3 at *
  generalize clB 32 zero32 d9 true e5 pf0 false zero32 pf0 = lb3 at *
  generalize clc false zero32 = CZ at *
  generalize clc true e5 = CV at *
  generalize pc none 0 0 pf0 = PZ at *
  generalize bs d9 = D at *
  generalize bs e5 = E at *
  generalize hZ : bs zero32 = Z at *
  have hzD : (Tryd.prog.info? 23).map (fun i => (i.zero, i.size)) = some (some (.agg Z.toArray), 32) := by rw [← hZ]; exact zeroD_info
  clear hZ
  go_enter Tryd.func14, Tryd.ntmps14
  go_wp2_with (first
    | ((with_reducible refine wpList_buildI (dst := some 12) B0.out ?_ ?_); rfl)
    | ((with_reducible refine wpList_allocB (o := ⟨some 1, _, _, _, _, _⟩) ?_ 23 ?_ hzD ?_); rfl; rfl; intro w1 hb1 hg1 hz1)
    | ((with_reducible refine wpList_storeB (o := ⟨none, .store 23 (.tmp 1) (.tmp 12), _, _, _, _⟩) ?_ 23 (.tmp 1) (.tmp 12) ?_ ?_ ?_ hb1 H5.out H6.out H7.out ?_); rfl; rfl; rfl; rfl; intro w2 hb2 hg2 hz2; rw [hz1] at hz2)
    | ((with_reducible refine wpList_buildI (dst := some 13) B2.out ?_ ?_); rfl)
    | ((with_reducible refine wpList_buildI (dst := some 14) B3.out ?_ ?_); rfl)
    | ((with_reducible refine wpList_allocB (o := ⟨some 2, _, _, _, _, _⟩) ?_ 25 ?_ ZC ?_); rfl; rfl; intro w3 hb3 hg3 hz3)
    | ((with_reducible refine wpList_storeB (o := ⟨none, .store 25 (.tmp 2) (.tmp 14), _, _, _, _⟩) ?_ 25 (.tmp 2) (.tmp 14) ?_ ?_ ?_ hb3 I5.out I6.out I7.out ?_); rfl; rfl; rfl; rfl; intro w4 hb4 hg4 hz4; have r2' := hb4.allR; rw [hz2] at hb4 hg4 hz3;
        have hS4 := Lib.hid (csAt_mk hb2 hb4 hg1 hg2 hg3 hg4 hz1 hz2 hz3); have r1 := hS4.out.d.allR; have r2 := hS4.out.c.allR)
    | ((with_reducible refine wpList_buildI (dst := some 16) B5.out ?_ ?_); rfl)
    | ((with_reducible refine wpList_loadP (o := ⟨some 17, _, _, _, _, _⟩) ?_ w.heap.size 0 23 (.tmp 1) ?_ ?_ r1 Tryd.underlying23 ?_ H5.out ?_); rfl; rfl; rfl; rfl)
    | ((with_reducible refine wpList_loadP (o := ⟨some 18, _, _, _, _, _⟩) ?_ (w.heap.size + 1) 0 25 (.tmp 2) ?_ ?_ r2 Tryd.underlying25 ?_ I5.out ?_); rfl; rfl; rfl; rfl)
    | ((with_reducible refine wpList_loadP (o := ⟨some 18, _, _, _, _, _⟩) ?_ w2.heap.size 0 25 (.tmp 2) ?_ ?_ r2' Tryd.underlying25 ?_ I5.out ?_); rfl; rfl; rfl; rfl)
    | ((with_reducible refine wpList_buildI (dst := some 19) B4.out ?_ ?_); rfl)
    | ((with_reducible refine wpList_buildI (dst := some 20) B1.out ?_ ?_); rfl)
    | ((with_reducible refine wpList_buildI (dst := some 21) B4.out ?_ ?_); rfl))
  refine (C1.out _ hS4.out.bel).mono ?_
  rintro e w5 ⟨o1, m1, k1, o2, m2, k2, rfl, hR1, hR2, -, -, hB5⟩
  obtain rfl : m1 = 65 := by rw [← hR1.len]; exact L1.out
  obtain rfl : m2 = 1 := by rw [← hR2.len]; exact L2.out
  have hS5 := Lib.hid (hS4.out.below hB5)
  clear hb1 hb2 hb3 hb4 hg1 hg2 hg3 hg4 r1 r2 hS4 hB5 hR1 hR2 hz1 hz2 hz3 hz4
  have r1 := hS5.out.d.allR
  have r2 := hS5.out.c.allR
  go_wp2_with (first
    | ((with_reducible refine wpList_buildI (dst := some 27) B5.out ?_ ?_); rfl)
    | ((with_reducible refine wpList_loadP (o := ⟨some 28, _, _, _, _, _⟩) ?_ w.heap.size 0 23 (.tmp 1) ?_ ?_ r1 Tryd.underlying23 ?_ H5.out ?_); rfl; rfl; rfl; rfl)
    | ((with_reducible refine wpList_loadP (o := ⟨some 29, _, _, _, _, _⟩) ?_ (w.heap.size + 1) 0 25 (.tmp 2) ?_ ?_ r2 Tryd.underlying25 ?_ I5.out ?_); rfl; rfl; rfl; rfl)
    | ((with_reducible refine wpList_buildI (dst := some 30) B4.out ?_ ?_); rfl)
    | ((with_reducible refine wpList_loadP (o := ⟨some 31, _, _, _, _, _⟩) ?_ (w.heap.size + 1) 0 25 (.tmp 2) ?_ ?_ r2 Tryd.underlying25 ?_ I5.out ?_); rfl; rfl; rfl; rfl)
    | ((with_reducible refine wpList_buildI (dst := some 32) B4.out ?_ ?_); rfl))
  refine (C2.out _ hS5.out.bel).mono ?_
  rintro e w6 ⟨o3, m3, k3, o4, m4, k4, rfl, -, -, -, -, hB6⟩
  have hS6 := Lib.hid (hS5.out.below hB6)
  clear r1 r2 hS5 hB6
  have r1 := hS6.out.d.allR
  have r2 := hS6.out.c.allR
  go_wp2_with (first
    | ((with_reducible refine wpList_buildI (dst := some 38) B5.out ?_ ?_); rfl)
    | ((with_reducible refine wpList_loadP (o := ⟨some 39, _, _, _, _, _⟩) ?_ w.heap.size 0 23 (.tmp 1) ?_ ?_ r1 Tryd.underlying23 ?_ H5.out ?_); rfl; rfl; rfl; rfl)
    | ((with_reducible refine wpList_loadP (o := ⟨some 40, _, _, _, _, _⟩) ?_ (w.heap.size + 1) 0 25 (.tmp 2) ?_ ?_ r2 Tryd.underlying25 ?_ I5.out ?_); rfl; rfl; rfl; rfl)
    | ((with_reducible refine wpList_buildI (dst := some 41) B4.out ?_ ?_); rfl)
    | ((with_reducible refine wpList_buildI (dst := some 42) B1.out ?_ ?_); rfl)
    | ((with_reducible refine wpList_buildI (dst := some 43) B4.out ?_ ?_); rfl))
  refine (C3.out _ hS6.out.bel).mono ?_
  rintro e w7 ⟨o5, m5, k5, o6, m6, k6, rfl, -, -, -, -, hB7⟩
  have hBf := Bt hS6.out.bel hB7
  clear r1 r2 hS6 hB7
  go_wp2_with fail
  go_ret
  exact ⟨rfl, hBf⟩
end
/-! The walks of the statements ProofClash and ProofBinds. -/
section
open Go.RowKit
set_option maxRecDepth 100000

theorem neq_of_bne {l m : List UInt8} (h : l ≠ m) : (l == m) = false := by simpa using h

set_option maxHeartbeats 8000000 in
theorem walkProofClash (w : World) (hT : Tab w 1) (hK : Tab w 0) (x : Int) (_ : (Lit.int .i64 x).wf = true) (root : List UInt8) (hro : root.length = 32) (p : List UInt8) (hp : p.length = 32) (b : Bool) (v : List UInt8) (hv : v.length = 32) (a : Option Addr) (n c : Nat) (X : Pf) (hr : RdP6 w a n c X)
    (b2 : Bool) (v2 : List UInt8) (hv2 : v2.length = 32) (a2 : Option Addr) (n2 c2 : Nat) (Y : Pf) (hr2 : RdP6 w a2 n2 c2 Y) :
    Calls Tryd.prog 4 #[.int .i64 x, .agg (bs root).toArray, .agg (bs p).toArray, .agg (clc b v).toArray, .agg (pc a n c X).toArray, .agg (clc b2 v2).toArray, .agg (pc a2 n2 c2 Y).toArray] w (YesC w) := by
  have hS := Bx6.start w root p (clc b v) (pc a n c X) (clc b2 v2) (pc a2 n2 c2 Y)
  have c0 := hS.x.cell (j := 0) (v := .slice a n c) rfl
  have d0 := hS.y.cell (j := 0) (v := .slice a2 n2 c2) rfl
  have hBw := hS.bel
  by_cases hn : n ≤ 300 ∧ n2 ≤ 300
  · have hn1 : ¬ (300 : Int) < (n : Int) := by omega
    have hn2 : ¬ (300 : Int) < (n2 : Int) := by omega
    have HB := Lib.hid hS
    have h4 := Lib.hid (digP hro)
    have h5 := Lib.hid (digP hp)
    have h6 := Lib.hid (infoClc (b := b) hv)
    have h8 := Lib.hid (infoClc (b := b2) hv2)
    have h7 := Lib.hid (size_of (a := a) (n := n) (c := c) hr.ok)
    have h9 := Lib.hid (size_of (a := a2) (n := n2) (c := c2) hr2.ok)
    have CL := Lib.hid (fun (W : World) (h : Below w.heap.size w W) => clash_any W x root p hro hp b v hv a n c X (hr.below h) b2 v2 hv2 a2 n2 c2 Y (hr2.below h) (hT.below h))
    have CS := Lib.hid (fun (W : World) (h : Below w.heap.size w W) => clashes_any W (hT.below h))
    have CR := Lib.hid (fun (W : World) (h : Below w.heap.size w W) (o o' : Option Addr) (k k' : Nat) (h1 : RdP6 W o n k X) (h2 : RdP6 W o' n2 k' Y) => clashR_any W x root p hro hp b v hv o n k X h1 b2 v2 hv2 o' n2 k' Y h2 (hK.below h))
    have OW1 := Lib.hid (fun (W : World) (h : Below w.heap.size w W) => ownPf_ref W a n c X (hr.below h) (by omega))
    have OW2 := Lib.hid (fun (W : World) (h : Below w.heap.size w W) => ownPf_ref W a2 n2 c2 Y (hr2.below h) (by omega))
    have SM1 := Lib.hid (fun (W : World) (h : Below w.heap.size w W) (o : Option Addr) (k : Nat) (hR : RdP6 W o n k X) => samePf_ref W a n c o k X (hr.below h) hR (by omega))
    have SM2 := Lib.hid (fun (W : World) (h : Below w.heap.size w W) (o : Option Addr) (k : Nat) (hR : RdP6 W o n2 k Y) => samePf_ref W a2 n2 c2 o k Y (hr2.below h) hR (by omega))
    have HI1 : Hid (∀ a c, (Tryd.prog.info? 28).map (·.size) = some (pc a n c X).length ∧ (pc none 0 0 pf0).length = (pc a n c X).length ∧ ∀ u ∈ pc a n c X, u.oneCell' = true) := Lib.hid (fun a c => ⟨size_of hr.ok, cells_len pf0_ok hr.ok, pc_one _ _ _ _⟩)
    have HI2 : Hid (∀ a c, (Tryd.prog.info? 28).map (·.size) = some (pc a n2 c Y).length ∧ (pc none 0 0 pf0).length = (pc a n2 c Y).length ∧ ∀ u ∈ pc a n2 c Y, u.oneCell' = true) := Lib.hid (fun a c => ⟨size_of hr2.ok, cells_len pf0_ok hr2.ok, pc_one _ _ _ _⟩)
    have s4 := hS.x.allR
    clear hS hr hr2 hT hK hro hp hv hv2 hn
    generalize clA x root p b v X b2 v2 Y = la at *
    generalize clB x root p b v X b2 v2 Y = lb at *
    generalize clE x root p b v X b2 v2 Y = er at *
    unfold ClPost at CL CR
    go_enter Tryd.func4, Tryd.ntmps4
    generalize hP : pc a n c X = P at *
    generalize hP2 : pc a2 n2 c2 Y = P2 at *
    generalize clc b v = C at *
    generalize clc b2 v2 = C2 at *
    generalize hw0 : (((((w.alloc (.cells (bs root).toArray 23)).alloc (.cells (bs p).toArray 23)).alloc (.cells C.toArray 25)).alloc (.cells P.toArray 28)).alloc (.cells C2.toArray 25)).alloc (.cells P2.toArray 28) = w0 at *
    go_wp2_with ((with_reducible refine wpList_loadP (o := ⟨some 33, _, _, _, _, _⟩) ?_ (w.heap.size + 3) 0 28 (.tmp 11) ?_ ?_ s4 Tryd.underlying28 ?_ h7.out ?_); rfl; rfl; rfl; rfl)
    refine (OW1.out _ HB.out.bel).mono ?_
    rintro e w1 ⟨o1, k1, rfl, hR1, hB1⟩
    have HB1 := Lib.hid (HB.out.below hB1)
    have I1 := Lib.hid (HI1.out o1 k1).1
    have L1 := Lib.hid (HI1.out o1 k1).2.1
    have O1 := Lib.hid (HI1.out o1 k1).2.2
    clear s4 c0 d0 HB hB1 OW1 hBw
    generalize hQ1 : pc o1 n k1 X = Q1 at *
    go_wp2_with (first
      | ((with_reducible refine wpList_allocB (o := ⟨some 15, _, _, _, _, _⟩) ?_ 28 ?_ zeroP_info ?_); rfl; rfl; intro w2 hb2 hg2 hz2)
      | ((with_reducible refine wpList_storeB (o := ⟨none, .store 28 (.tmp 15) (.tmp 34), _, _, _, _⟩) ?_ 28 (.tmp 15) (.tmp 34) ?_ ?_ ?_ hb2 I1.out L1.out O1.out ?_); rfl; rfl; rfl; rfl; intro w3 hb3 hg3 hz3;
          have hB13 : Below w1.heap.size w1 w3 := ((Below.refl _ w1).grown hg2 (Nat.le_refl _) (fun k e => by cases e)).grown hg3 (by omega) (fun k e => by cases e; exact Nat.le_refl _);
          have HB3 := Lib.hid (HB1.out.below hB13); have hR3 := hR1.below hB13; have s6 := HB3.out.y.allR)
      | ((with_reducible refine wpList_loadP (o := ⟨some 35, _, _, _, _, _⟩) ?_ (w.heap.size + 5) 0 28 (.tmp 13) ?_ ?_ s6 Tryd.underlying28 ?_ h9.out ?_); rfl; rfl; rfl; rfl))
    refine (OW2.out _ HB3.out.bel).mono ?_
    rintro e w4 ⟨o2, k2, rfl, hR2, hB4⟩
    have HB4 := Lib.hid (HB3.out.below hB4)
    have hR4 := hR3.below hB4
    have hb4 := hb3.below hB4
    have I2 := Lib.hid (HI2.out o2 k2).1
    have L2 := Lib.hid (HI2.out o2 k2).2.1
    have O2 := Lib.hid (HI2.out o2 k2).2.2
    clear s6 HB3 HB1 hB4 OW2 hR3 hR1 hb3 hb2 hg2 hg3 hB13 hz2 hz3
    generalize hQ2 : pc o2 n2 k2 Y = Q2 at *
    go_wp2_with (first
      | ((with_reducible refine wpList_allocB (o := ⟨some 16, _, _, _, _, _⟩) ?_ 28 ?_ zeroP_info ?_); rfl; rfl; intro w5 hb5 hg5 hz5)
      | ((with_reducible refine wpList_storeB (o := ⟨none, .store 28 (.tmp 16) (.tmp 36), _, _, _, _⟩) ?_ 28 (.tmp 16) (.tmp 36) ?_ ?_ ?_ hb5 I2.out L2.out O2.out ?_); rfl; rfl; rfl; rfl; intro w6 hb6 hg6 hz6;
          have hB46 : Below w4.heap.size w4 w6 := ((Below.refl _ w4).grown hg5 (Nat.le_refl _) (fun k e => by cases e)).grown hg6 (by omega) (fun k e => by cases e; exact Nat.le_refl _);
          have HB6 := Lib.hid (HB4.out.below hB46); have hR6 := hR4.below hB46; have hS6 := hR2.below hB46; have hc6 := hb4.below hB46; have s1 := HB6.out.r.allR; have s2 := HB6.out.p.allR; have s3 := HB6.out.c.allR; have s4 := HB6.out.x.allR; have s5 := HB6.out.d.allR; have s6 := HB6.out.y.allR)
      | ((with_reducible refine wpList_loadP (o := ⟨some 39, _, _, _, _, _⟩) ?_ w.heap.size 0 23 (.tmp 8) ?_ ?_ s1 Tryd.underlying23 ?_ h4.out ?_); rfl; rfl; rfl; rfl)
      | ((with_reducible refine wpList_loadP (o := ⟨some 40, _, _, _, _, _⟩) ?_ (w.heap.size + 1) 0 23 (.tmp 9) ?_ ?_ s2 Tryd.underlying23 ?_ h5.out ?_); rfl; rfl; rfl; rfl)
      | ((with_reducible refine wpList_loadP (o := ⟨some 41, _, _, _, _, _⟩) ?_ (w.heap.size + 2) 0 25 (.tmp 10) ?_ ?_ s3 Tryd.underlying25 ?_ h6.out ?_); rfl; rfl; rfl; rfl)
      | ((with_reducible refine wpList_loadP (o := ⟨some 42, _, _, _, _, _⟩) ?_ (w.heap.size + 3) 0 28 (.tmp 11) ?_ ?_ s4 Tryd.underlying28 ?_ h7.out ?_); rfl; rfl; rfl; rfl)
      | ((with_reducible refine wpList_loadP (o := ⟨some 43, _, _, _, _, _⟩) ?_ (w.heap.size + 4) 0 25 (.tmp 12) ?_ ?_ s5 Tryd.underlying25 ?_ h8.out ?_); rfl; rfl; rfl; rfl)
      | ((with_reducible refine wpList_loadP (o := ⟨some 44, _, _, _, _, _⟩) ?_ (w.heap.size + 5) 0 28 (.tmp 13) ?_ ?_ s6 Tryd.underlying28 ?_ h9.out ?_); rfl; rfl; rfl; rfl))
    refine (CL.out _ HB6.out.bel).mono ?_
    rintro e w7 ⟨p1, m1, q1, p2, m2, q2, rfl, hA7, hB7r, -, -, hB7⟩
    have HB7 := Lib.hid (HB6.out.below hB7)
    have hR7 := hR6.below hB7
    have hS7 := hS6.below hB7
    have hc7 := hc6.below hB7
    have hd7 := hb6.below hB7
    clear s1 s2 s3 s4 s5 s6 HB6 HB4 hB7 hR6 hS6 hc6 hb6 hb5 hg5 hg6 hB46 hz5 hz6 hR4 hR2 hb4 CL
    have s1 := HB7.out.r.allR
    have s2 := HB7.out.p.allR
    have s3 := HB7.out.c.allR
    have s5 := HB7.out.d.allR
    have t4 := hc7.allR
    have t6 := hd7.allR
    go_wp2_with (first
      | ((with_reducible refine wpList_loadP (o := ⟨some 51, _, _, _, _, _⟩) ?_ w.heap.size 0 23 (.tmp 8) ?_ ?_ s1 Tryd.underlying23 ?_ h4.out ?_); rfl; rfl; rfl; rfl)
      | ((with_reducible refine wpList_loadP (o := ⟨some 52, _, _, _, _, _⟩) ?_ (w.heap.size + 1) 0 23 (.tmp 9) ?_ ?_ s2 Tryd.underlying23 ?_ h5.out ?_); rfl; rfl; rfl; rfl)
      | ((with_reducible refine wpList_loadP (o := ⟨some 53, _, _, _, _, _⟩) ?_ (w.heap.size + 2) 0 25 (.tmp 10) ?_ ?_ s3 Tryd.underlying25 ?_ h6.out ?_); rfl; rfl; rfl; rfl)
      | ((with_reducible refine wpList_loadP (o := ⟨some 54, _, _, _, _, _⟩) ?_ w1.heap.size 0 28 (.tmp 15) ?_ ?_ t4 Tryd.underlying28 ?_ I1.out ?_); rfl; rfl; rfl; rfl)
      | ((with_reducible refine wpList_loadP (o := ⟨some 55, _, _, _, _, _⟩) ?_ (w.heap.size + 4) 0 25 (.tmp 12) ?_ ?_ s5 Tryd.underlying25 ?_ h8.out ?_); rfl; rfl; rfl; rfl)
      | ((with_reducible refine wpList_loadP (o := ⟨some 56, _, _, _, _, _⟩) ?_ w4.heap.size 0 28 (.tmp 16) ?_ ?_ t6 Tryd.underlying28 ?_ I2.out ?_); rfl; rfl; rfl; rfl))
    subst hQ1
    subst hQ2
    refine (CR.out _ HB7.out.bel o1 o2 k1 k2 hR7 hS7).mono ?_
    rintro e w8 ⟨p3, m3, q3, p4, m4, q4, rfl, hA8, hB8r, -, -, hB8⟩
    have HB8 := Lib.hid (HB7.out.below hB8)
    have hR8 := hR7.below hB8
    have hS8 := hS7.below hB8
    have hc8 := hc7.below hB8
    have hd8 := hd7.below hB8
    have hA7' := hA7.below hB8
    have hB7' := hB7r.below hB8
    clear s1 s2 s3 s5 t4 t6 HB7 hB8 hR7 hS7 hc7 hd7 hA7 hB7r CR
    go_wp2_with fail
    refine (CS.out _ HB8.out.bel).mono ?_
    rintro e w9 ⟨rfl, hB9⟩
    have HB9 := Lib.hid (HB8.out.below hB9)
    have hR9 := hR8.below hB9
    have hS9 := hS8.below hB9
    have hc9 := hc8.below hB9
    have hd9 := hd8.below hB9
    have v1 := (hA7'.below hB9).conv
    have v2 := (hA8.below hB9).conv
    have v3 := (hB7'.below hB9).conv
    have v4 := (hB8r.below hB9).conv
    have t3 := HB9.out.x.allR
    have t4 := hc9.allR
    clear HB8 hR8 hS8 hc8 hd8 hA7' hB7' hA8 hB8r hB9 CS
    generalize hQ1 : pc o1 n k1 X = Q1 at *
    generalize hQ2 : pc o2 n2 k2 Y = Q2 at *
    go_wp2_with (first
      | ((with_reducible refine wpList_loadP (o := ⟨some 82, _, _, _, _, _⟩) ?_ (w.heap.size + 3) 0 28 (.tmp 11) ?_ ?_ t3 Tryd.underlying28 ?_ h7.out ?_); rfl; rfl; rfl; rfl)
      | ((with_reducible refine wpList_loadP (o := ⟨some 83, _, _, _, _, _⟩) ?_ w1.heap.size 0 28 (.tmp 15) ?_ ?_ t4 Tryd.underlying28 ?_ I1.out ?_); rfl; rfl; rfl; rfl))
    subst hP
    subst hQ1
    refine (SM1.out _ HB9.out.bel o1 k1 hR9).mono ?_
    rintro e w10 ⟨rfl, hB10⟩
    have HB10 := Lib.hid (HB9.out.below hB10)
    have hS10 := hS9.below hB10
    have t5 := HB10.out.y.allR
    have t6 := (hd9.below hB10).allR
    clear t3 t4 v1 v2 v3 v4 HB9 hR9 hS9 hc9 hd9 hB10 SM1
    go_wp2_with (first
      | ((with_reducible refine wpList_loadP (o := ⟨some 87, _, _, _, _, _⟩) ?_ (w.heap.size + 5) 0 28 (.tmp 13) ?_ ?_ t5 Tryd.underlying28 ?_ h9.out ?_); rfl; rfl; rfl; rfl)
      | ((with_reducible refine wpList_loadP (o := ⟨some 88, _, _, _, _, _⟩) ?_ w4.heap.size 0 28 (.tmp 16) ?_ ?_ t6 Tryd.underlying28 ?_ I2.out ?_); rfl; rfl; rfl; rfl))
    subst hP2
    subst hQ2
    refine (SM2.out _ HB10.out.bel o2 k2 hS10).mono ?_
    rintro e w11 ⟨rfl, hB11⟩
    have hBf := Bt HB10.out.bel hB11
    clear t5 t6 HB10 hS10 hB11 SM2
    go_wp2_with fail
    go_ret
    exact ⟨rfl, hBf⟩
  · clear hS hr hr2
    by_cases hn1 : n ≤ 300
    · have hn1' : ¬ (300 : Int) < (n : Int) := by omega
      have hn2' : (300 : Int) < (n2 : Int) := by omega
      go_enter Tryd.func4, Tryd.ntmps4
      generalize clc b v = C at *
      generalize clc b2 v2 = C2 at *
      generalize pc a n c X = P at *
      generalize pc a2 n2 c2 Y = P2 at *
      go_wp2_with fail
      go_ret
      exact ⟨rfl, hBw⟩
    · have hn1' : (300 : Int) < (n : Int) := by omega
      go_enter Tryd.func4, Tryd.ntmps4
      generalize clc b v = C at *
      generalize clc b2 v2 = C2 at *
      generalize pc a n c X = P at *
      generalize pc a2 n2 c2 Y = P2 at *
      go_wp2_with fail
      go_ret
      exact ⟨rfl, hBw⟩
end
/-! The walks of the statements ProofClash and ProofBinds. -/
section
open Go.RowKit
set_option maxRecDepth 100000

/-- one step down from the root -/
theorem sumF_inner {x : Nat} {p : List UInt8} {sibs : List (List UInt8)} {t : Nat} : ∀ (k : Nat) (b : List UInt8), t < k → sumF x p sibs t k b = innerB p t (shortB x (sumF x p sibs (t + 1) k b)) (sibs.getD t [])
  | 0, _, h => by omega
  | k + 1, b, h => by
    rw [sumF_more _ _ _ _ _ _ (by omega)]
    by_cases ht : t < k
    · rw [sumF_inner k _ ht, sumF_more _ _ _ _ _ _ (by omega)]
    · obtain rfl : t = k := by omega
      rw [sumF_less _ _ _ _ _ _ (Nat.le_refl _), sumF_less _ _ _ _ _ _ (Nat.le_refl _)]
theorem inner_on {p on on2 bd bd2 : List UInt8} {t : Nat} (h : innerB p t on bd = innerB p t on2 bd2) (h1 : on.length = 32) (h2 : on2.length = 32) (h3 : bd.length = 32) (h4 : bd2.length = 32) : on = on2 := by
  unfold innerB at h
  by_cases hb : bitAt p t = 1
  · rw [if_pos hb, if_pos hb] at h
    injection h with _ h
    exact (List.append_inj h (by rw [h3, h4])).2
  · rw [if_neg hb, if_neg hb] at h
    injection h with _ h
    exact (List.append_inj h (by rw [h1, h2])).1
/-- what two claims tell has one digest -/
theorem bind_same {x : Nat} {root p v v2 : List UInt8} {b b2 : Bool} {X Y : Pf} (hx : x ≤ 32) (hp : p.length = 32) (hX : X.ok) (hY : Y.ok) (g1 : checkE (x : Int) root p b v X = 0) (g2 : checkE (x : Int) root p b2 v2 Y = 0) (g3 : sameCl b v b2 v2 = false) :
    (hashL x p b v X).getD (clK x p b v X b2 v2 Y) [] ≠ (hashL x p b2 v2 Y).getD (clK x p b v X b2 v2 Y) [] ∧ shortB x ((hashL x p b v X).getD (clK x p b v X b2 v2 Y) []) = shortB x ((hashL x p b2 v2 Y).getD (clK x p b v X b2 v2 Y) []) := by
  obtain ⟨-, z1, s1, r1⟩ := checkE_ok g1
  obtain ⟨-, z2, s2, r2⟩ := checkE_ok g2
  rw [Int.toNat_natCast] at r1 r2
  obtain ⟨k, k1, k2, k3⟩ := clash_part (x := x) hp hX hY s1 s2 z1 z2 g3
  have hh := ckF_spec _ _ k (by rw [hashL_length]; omega) (by rw [hashL_length]; omega) k3
  refine ⟨hh.2.1, ?_⟩
  have he : clK x p b v X b2 v2 Y = ckF (hashL x p b v X) (hashL x p b2 v2 Y) := rfl
  rw [← he] at hh
  obtain ⟨h1, -, h2⟩ := hh
  generalize clK x p b v X b2 v2 Y = K at h1 h2 ⊢
  cases K with
  | zero =>
    rw [hashL_at _ _ _ _ _ _ (Nat.zero_le _), hashL_at _ _ _ _ _ _ (Nat.zero_le _), sum_rootB rfl, sum_rootB rfl, r1, r2]
  | succ t =>
    have h3 := h2 t (by omega)
    rw [hashL_at _ _ _ _ _ _ (by omega), hashL_at _ _ _ _ _ _ (by omega), sumF_inner (t := t) (sibs := X.sibs) X.sibs.length _ (by omega), sumF_inner (t := t) (sibs := Y.sibs) Y.sibs.length _ (by omega)] at h3
    rw [hashL_at _ _ _ _ _ _ (by omega), hashL_at _ _ _ _ _ _ (by omega)]
    exact inner_on h3 (shortB_length _ _ hx) (shortB_length _ _ hx) (hX.d.at (by omega)) (hY.d.at (by omega))

set_option maxHeartbeats 8000000 in
theorem walkProofBinds (w : World) (hT : Tab w 1) (x : Int) (_ : (Lit.int .i64 x).wf = true) (root : List UInt8) (hro : root.length = 32) (p : List UInt8) (hp : p.length = 32) (b : Bool) (v : List UInt8) (hv : v.length = 32) (a : Option Addr) (n c : Nat) (X : Pf) (hr : RdP6 w a n c X)
    (b2 : Bool) (v2 : List UInt8) (hv2 : v2.length = 32) (a2 : Option Addr) (n2 c2 : Nat) (Y : Pf) (hr2 : RdP6 w a2 n2 c2 Y) :
    Calls Tryd.prog 5 #[.int .i64 x, .agg (bs root).toArray, .agg (bs p).toArray, .agg (clc b v).toArray, .agg (pc a n c X).toArray, .agg (clc b2 v2).toArray, .agg (pc a2 n2 c2 Y).toArray] w (YesC w) := by
  have hS := Bx6.start w root p (clc b v) (pc a n c X) (clc b2 v2) (pc a2 n2 c2 Y)
  have c0 := hS.x.cell (j := 0) (v := .slice a n c) rfl
  have d0 := hS.y.cell (j := 0) (v := .slice a2 n2 c2) rfl
  have hBw := hS.bel
  by_cases hn : n ≤ 300 ∧ n2 ≤ 300
  · have hn1 : ¬ (300 : Int) < (n : Int) := by omega
    have hn2 : ¬ (300 : Int) < (n2 : Int) := by omega
    have HB := Lib.hid hS
    have h4 := Lib.hid (digP hro)
    have h5 := Lib.hid (digP hp)
    have h6 := Lib.hid (infoClc (b := b) hv)
    have h8 := Lib.hid (infoClc (b := b2) hv2)
    have h7 := Lib.hid (size_of (a := a) (n := n) (c := c) hr.ok)
    have h9 := Lib.hid (size_of (a := a2) (n := n2) (c := c2) hr2.ok)
    have CL := Lib.hid (fun (W : World) (h : Below w.heap.size w W) => clash_any W x root p hro hp b v hv a n c X (hr.below h) b2 v2 hv2 a2 n2 c2 Y (hr2.below h) (hT.below h))
    have CS := Lib.hid (fun (W : World) (h : Below w.heap.size w W) => clashes_any W (hT.below h))
    have CC := Lib.hid (fun (W : World) (h : Below w.heap.size w W) => checks_any W (hT.below h))
    have CK1 := Lib.hid (fun (W : World) (h : Below w.heap.size w W) => check_any W x root p hro hp b v hv a n c X (hr.below h) (hT.below h))
    have CK2 := Lib.hid (fun (W : World) (h : Below w.heap.size w W) => check_any W x root p hro hp b2 v2 hv2 a2 n2 c2 Y (hr2.below h) (hT.below h))
    have EQC := Lib.hid (fun (k : Bool) (hk : sameCl b v b2 v2 = k) (W : World) => (by rw [eqC W b b2 v v2 hv hv2, hk] : (binOp .eql 25 (.agg (clc b v).toArray) (.agg (clc b2 v2).toArray)).run Tryd.prog W = .ok (.bool k) W))
    have SH := Lib.hid (fun (W : World) (h : Below w.heap.size w W) (o : Option Addr) (m k : Nat) (l : List UInt8) (hR : Rd W o m k l) (hm : m ≤ 1000000) => sshort_any W x o m k l hR (hT.below h) hm)
    have HV1 := checkE_vals x root p v b X
    have HV2 := checkE_vals x root p v2 b2 Y
    have HCE : Hid (clE x root p b v X b2 v2 Y = if checkE x root p b v X = 0 then (if checkE x root p b2 v2 Y = 0 then (if sameCl b v b2 v2 then 42 else 0) else checkE x root p b2 v2 Y) else checkE x root p b v X) := Lib.hid rfl
    have HNO : Hid (clE x root p b v X b2 v2 Y ≠ 0 → clA x root p b v X b2 v2 Y = [] ∧ clB x root p b v X b2 v2 Y = []) := Lib.hid (fun h => ⟨by rw [clA, if_neg h], by rw [clB, if_neg h]⟩)
    have HYES : Hid (checkE x root p b v X = 0 → checkE x root p b2 v2 Y = 0 → sameCl b v b2 v2 = false → clA x root p b v X b2 v2 Y ≠ clB x root p b v X b2 v2 Y ∧ shortI x (clA x root p b v X b2 v2 Y) = shortI x (clB x root p b v X b2 v2 Y) ∧ errW x = 0) := Lib.hid (fun g1 g2 g3 => by
      obtain ⟨hx, -⟩ := checkE_ok g1
      obtain ⟨k, rfl⟩ := Int.eq_ofNat_of_zero_le hx.1
      have hk : k ≤ 32 := by omega
      have hb := bind_same hk hp hr.ok hr2.ok g1 g2 g3
      have h0 : clE (k : Int) root p b v X b2 v2 Y = 0 := by rw [clE, if_pos g1, if_pos g2, g3]; rfl
      rw [clA, clB, if_pos h0, if_pos h0, Int.toNat_natCast, shortI_nat k hk, shortI_nat k hk, errW, if_pos hx]
      exact ⟨hb.1, hb.2, rfl⟩)
    have HSL := Lib.hid (fun l : List UInt8 => shortI_length x l)
    clear hS hr hr2 hT hro hp hv hv2 hn
    generalize clA x root p b v X b2 v2 Y = la at *
    generalize clB x root p b v X b2 v2 Y = lb at *
    generalize clE x root p b v X b2 v2 Y = er at *
    generalize checkE x root p b v X = e1 at *
    generalize checkE x root p b2 v2 Y = e2 at *
    generalize sameCl b v b2 v2 = sc at *
    unfold ClPost at CL
    go_enter Tryd.func5, Tryd.ntmps5
    generalize pc a n c X = P at *
    generalize pc a2 n2 c2 Y = P2 at *
    generalize clc b v = C at *
    generalize clc b2 v2 = C2 at *
    generalize hw0 : (((((w.alloc (.cells (bs root).toArray 23)).alloc (.cells (bs p).toArray 23)).alloc (.cells C.toArray 25)).alloc (.cells P.toArray 28)).alloc (.cells C2.toArray 25)).alloc (.cells P2.toArray 28) = w0 at *
    have s1 := HB.out.r.allR
    have s2 := HB.out.p.allR
    have s3 := HB.out.c.allR
    have s4 := HB.out.x.allR
    have s5 := HB.out.d.allR
    have s6 := HB.out.y.allR
    go_wp2_with (first
      | ((with_reducible refine wpList_loadP (o := ⟨some 34, _, _, _, _, _⟩) ?_ w.heap.size 0 23 (.tmp 8) ?_ ?_ s1 Tryd.underlying23 ?_ h4.out ?_); rfl; rfl; rfl; rfl)
      | ((with_reducible refine wpList_loadP (o := ⟨some 35, _, _, _, _, _⟩) ?_ (w.heap.size + 1) 0 23 (.tmp 9) ?_ ?_ s2 Tryd.underlying23 ?_ h5.out ?_); rfl; rfl; rfl; rfl)
      | ((with_reducible refine wpList_loadP (o := ⟨some 36, _, _, _, _, _⟩) ?_ (w.heap.size + 2) 0 25 (.tmp 10) ?_ ?_ s3 Tryd.underlying25 ?_ h6.out ?_); rfl; rfl; rfl; rfl)
      | ((with_reducible refine wpList_loadP (o := ⟨some 37, _, _, _, _, _⟩) ?_ (w.heap.size + 3) 0 28 (.tmp 11) ?_ ?_ s4 Tryd.underlying28 ?_ h7.out ?_); rfl; rfl; rfl; rfl)
      | ((with_reducible refine wpList_loadP (o := ⟨some 38, _, _, _, _, _⟩) ?_ (w.heap.size + 4) 0 25 (.tmp 12) ?_ ?_ s5 Tryd.underlying25 ?_ h8.out ?_); rfl; rfl; rfl; rfl)
      | ((with_reducible refine wpList_loadP (o := ⟨some 39, _, _, _, _, _⟩) ?_ (w.heap.size + 5) 0 28 (.tmp 13) ?_ ?_ s6 Tryd.underlying28 ?_ h9.out ?_); rfl; rfl; rfl; rfl))
    refine (CL.out _ HB.out.bel).mono ?_
    rintro e w1 ⟨p1, m1, q1, p2, m2, q2, rfl, hA1, hB1r, hm1, hm2, hB1⟩
    have HB1 := Lib.hid (HB.out.below hB1)
    clear s1 s2 s3 s4 s5 s6 HB hB1 CL c0 d0 hBw
    have s1 := HB1.out.r.allR
    have s2 := HB1.out.p.allR
    have s3 := HB1.out.c.allR
    have s4 := HB1.out.x.allR
    have s5 := HB1.out.d.allR
    have s6 := HB1.out.y.allR
    go_wp2_with (first
      | ((with_reducible refine wpList_loadP (o := ⟨some 45, _, _, _, _, _⟩) ?_ w.heap.size 0 23 (.tmp 8) ?_ ?_ s1 Tryd.underlying23 ?_ h4.out ?_); rfl; rfl; rfl; rfl)
      | ((with_reducible refine wpList_loadP (o := ⟨some 46, _, _, _, _, _⟩) ?_ (w.heap.size + 1) 0 23 (.tmp 9) ?_ ?_ s2 Tryd.underlying23 ?_ h5.out ?_); rfl; rfl; rfl; rfl)
      | ((with_reducible refine wpList_loadP (o := ⟨some 47, _, _, _, _, _⟩) ?_ (w.heap.size + 2) 0 25 (.tmp 10) ?_ ?_ s3 Tryd.underlying25 ?_ h6.out ?_); rfl; rfl; rfl; rfl)
      | ((with_reducible refine wpList_loadP (o := ⟨some 48, _, _, _, _, _⟩) ?_ (w.heap.size + 3) 0 28 (.tmp 11) ?_ ?_ s4 Tryd.underlying28 ?_ h7.out ?_); rfl; rfl; rfl; rfl))
    refine (CK1.out _ HB1.out.bel).mono ?_
    rintro e w2 ⟨rfl, hB2⟩
    have HB2 := Lib.hid (HB1.out.below hB2)
    have hA2 := Lib.hid (hA1.below hB2)
    have hB2r := Lib.hid (hB1r.below hB2)
    clear s1 s2 s3 s4 s5 s6 HB1 hB2 CK1
    have s1 := HB2.out.r.allR
    have s2 := HB2.out.p.allR
    have s3 := HB2.out.c.allR
    have s4 := HB2.out.x.allR
    have s5 := HB2.out.d.allR
    have s6 := HB2.out.y.allR
    rcases HV1 with hc1 | hc1 | hc1 | hc1
    · subst hc1
      go_wp2_with (first
        | ((with_reducible refine wpList_loadP (o := ⟨some 53, _, _, _, _, _⟩) ?_ w.heap.size 0 23 (.tmp 8) ?_ ?_ s1 Tryd.underlying23 ?_ h4.out ?_); rfl; rfl; rfl; rfl)
        | ((with_reducible refine wpList_loadP (o := ⟨some 54, _, _, _, _, _⟩) ?_ (w.heap.size + 1) 0 23 (.tmp 9) ?_ ?_ s2 Tryd.underlying23 ?_ h5.out ?_); rfl; rfl; rfl; rfl)
        | ((with_reducible refine wpList_loadP (o := ⟨some 55, _, _, _, _, _⟩) ?_ (w.heap.size + 4) 0 25 (.tmp 12) ?_ ?_ s5 Tryd.underlying25 ?_ h8.out ?_); rfl; rfl; rfl; rfl)
        | ((with_reducible refine wpList_loadP (o := ⟨some 56, _, _, _, _, _⟩) ?_ (w.heap.size + 5) 0 28 (.tmp 13) ?_ ?_ s6 Tryd.underlying28 ?_ h9.out ?_); rfl; rfl; rfl; rfl))
      refine (CK2.out _ HB2.out.bel).mono ?_
      rintro e w3 ⟨rfl, hB3⟩
      have HBn := Lib.hid (HB2.out.below hB3)
      have hA3 := Lib.hid (hA2.out.below hB3)
      have hB3r := Lib.hid (hB2r.out.below hB3)
      clear s1 s2 s3 s4 s5 s6 HB2 hB3 CK2 hA2 hB2r
      have s3 := HBn.out.c.allR
      have s5 := HBn.out.d.allR
      rcases HV2 with hc2 | hc2 | hc2 | hc2
      · subst hc2
        cases sc with
        | true =>
          have E1 := Lib.hid (EQC.out true (by first | trivial | rfl))
          have her : er = 42 := by rw [HCE.out]; simp
          obtain ⟨hla, hlb⟩ := HNO.out (by rw [her]; decide)
          obtain rfl : m1 = 0 := by rw [← hA1.len, hla]; rfl
          obtain rfl : m2 = 0 := by rw [← hB1r.len, hlb]; rfl
          subst her
          clear HNO HYES hA1 hB1r hla hlb
          go_wp2_with (first
            | ((with_reducible refine wpList_loadP (o := ⟨some 61, _, _, _, _, _⟩) ?_ (w.heap.size + 2) 0 25 (.tmp 10) ?_ ?_ s3 Tryd.underlying25 ?_ h6.out ?_); rfl; rfl; rfl; rfl)
            | ((with_reducible refine wpList_loadP (o := ⟨some 62, _, _, _, _, _⟩) ?_ (w.heap.size + 4) 0 25 (.tmp 12) ?_ ?_ s5 Tryd.underlying25 ?_ h8.out ?_); rfl; rfl; rfl; rfl)
            | ((with_reducible refine wpList_eqH (o := ⟨some 63, _, _, _, _, _⟩) ?_ .eql 25 25 (.tmp 61) (.tmp 62) ?_ C.toArray C2.toArray ?_ ?_ guardC _ E1.out ?_); rfl; rfl; rfl; rfl))
          refine (CC.out _ HBn.out.bel).mono ?_
          rintro e u1 ⟨rfl, hu1⟩
          have HU := Lib.hid (HBn.out.below hu1)
          clear hu1 HBn
          go_wp2_with fail
          refine (CS.out _ HU.out.bel).mono ?_
          rintro e u2 ⟨rfl, hu2⟩
          have hBf := Bt HU.out.bel hu2
          clear hu2 HU
          go_wp2_with fail
          go_ret
          exact ⟨rfl, hBf⟩
        | false =>
          have E1 := Lib.hid (EQC.out false (by first | trivial | rfl))
          have her : er = 0 := by rw [HCE.out]; simp
          subst her
          obtain ⟨hne, hsh, hew⟩ := HYES.out (by first | trivial | rfl) (by first | trivial | rfl) (by first | trivial | rfl)
          have HNE := Lib.hid hne
          have HSH := Lib.hid hsh
          have SA := Lib.hid (fun (W : World) (h : Below w.heap.size w W) (hR : Rd W p1 m1 q1 la) => SH.out W h p1 m1 q1 la hR (by omega))
          have SB := Lib.hid (fun (W : World) (h : Below w.heap.size w W) (hR : Rd W p2 m2 q2 lb) => SH.out W h p2 m2 q2 lb hR (by omega))
          rw [← hsh, hew] at SB
          rw [hew] at SA
          have hdl := HSL.out la
          have h10 := Lib.hid (digP hdl)
          have h11 := Lib.hid (show (bs zero32).length = (bs (shortI x la)).length by rw [bs_length, bs_length, zero32_length, hdl])
          have h12 := Lib.hid (bs_one (shortI x la))
          have E2 := Lib.hid (fun W : World => (by rw [eqD W _ _ hdl hdl]; simp : (binOp .eql 23 (.agg (bs (shortI x la)).toArray) (.agg (bs (shortI x la)).toArray)).run Tryd.prog W = .ok (.bool true) W))
          clear HNO HYES hne hsh hew hdl SH HSL HSH hA1 hB1r
          generalize shortI x la = sd at *
          go_wp2_with (first
            | ((with_reducible refine wpList_loadP (o := ⟨some 61, _, _, _, _, _⟩) ?_ (w.heap.size + 2) 0 25 (.tmp 10) ?_ ?_ s3 Tryd.underlying25 ?_ h6.out ?_); rfl; rfl; rfl; rfl)
            | ((with_reducible refine wpList_loadP (o := ⟨some 62, _, _, _, _, _⟩) ?_ (w.heap.size + 4) 0 25 (.tmp 12) ?_ ?_ s5 Tryd.underlying25 ?_ h8.out ?_); rfl; rfl; rfl; rfl)
            | ((with_reducible refine wpList_eqH (o := ⟨some 63, _, _, _, _, _⟩) ?_ .eql 25 25 (.tmp 61) (.tmp 62) ?_ C.toArray C2.toArray ?_ ?_ guardC _ E1.out ?_); rfl; rfl; rfl; rfl))
          refine (SA.out _ HBn.out.bel hA3.out).mono ?_
          rintro e w4 ⟨rfl, hB4⟩
          have HB4 := Lib.hid (HBn.out.below hB4)
          have hA4 := Lib.hid (hA3.out.below hB4)
          have hB4r := Lib.hid (hB3r.out.below hB4)
          clear s3 s5 HBn hB4 hA3 hB3r SA
          go_wp2_with (first
            | ((with_reducible refine wpList_allocB (o := ⟨some 18, _, _, _, _, _⟩) ?_ 23 ?_ zeroD_info ?_); rfl; rfl; intro w5 hb5 hg5 hz5)
            | ((with_reducible refine wpList_storeB (o := ⟨none, .store 23 (.tmp 18) (.tmp 87), _, _, _, _⟩) ?_ 23 (.tmp 18) (.tmp 87) ?_ ?_ ?_ hb5 h10.out h11.out h12.out ?_); rfl; rfl; rfl; rfl; intro w6 hb6 hg6 hz6))
          have hB46 : Below w4.heap.size w4 w6 := ((Below.refl _ w4).grown hg5 (Nat.le_refl _) (fun k e => by cases e)).grown hg6 (by omega) (fun k e => by cases e; exact Nat.le_refl _)
          have HB6 := Lib.hid (HB4.out.below hB46)
          have hA6 := Lib.hid (hA4.out.below hB46)
          have hB6r := Lib.hid (hB4r.out.below hB46)
          have hd6 := Lib.hid hb6
          clear hb5 hg5 hb6 hg6 hB46 HB4 hA4 hB4r hz5 hz6
          refine (SB.out _ HB6.out.bel hB6r.out).mono ?_
          rintro e w7 ⟨rfl, hB7⟩
          have HB7 := Lib.hid (HB6.out.below hB7)
          have hA7 := Lib.hid (hA6.out.below hB7)
          have hB7r := Lib.hid (hB6r.out.below hB7)
          have hd7 := Lib.hid (hd6.out.below hB7)
          clear HB6 hA6 hB6r hd6 hB7 SB
          go_wp2_with (first
            | ((with_reducible refine wpList_allocB (o := ⟨some 20, _, _, _, _, _⟩) ?_ 23 ?_ zeroD_info ?_); rfl; rfl; intro w8 hb8 hg8 hz8)
            | ((with_reducible refine wpList_storeB (o := ⟨none, .store 23 (.tmp 20) (.tmp 93), _, _, _, _⟩) ?_ 23 (.tmp 20) (.tmp 93) ?_ ?_ ?_ hb8 h10.out h11.out h12.out ?_); rfl; rfl; rfl; rfl; intro w9 hb9 hg9 hz9))
          have hB79 : Below w7.heap.size w7 w9 := ((Below.refl _ w7).grown hg8 (Nat.le_refl _) (fun k e => by cases e)).grown hg9 (by omega) (fun k e => by cases e; exact Nat.le_refl _)
          have HB9 := Lib.hid (HB7.out.below hB79)
          have hA9 := Lib.hid (hA7.out.below hB79)
          have hB9r := Lib.hid (hB7r.out.below hB79)
          have hd9 := Lib.hid (hd7.out.below hB79)
          have he9 := Lib.hid hb9
          clear hb8 hg8 hb9 hg9 hB79 HB7 hA7 hB7r hd7 hz8 hz9
          refine (CC.out _ HB9.out.bel).mono ?_
          rintro e u1 ⟨rfl, hu1⟩
          have HU1 := Lib.hid (HB9.out.below hu1)
          have hA10 := Lib.hid (hA9.out.below hu1)
          have hB10r := Lib.hid (hB9r.out.below hu1)
          have hd10 := Lib.hid (hd9.out.below hu1)
          have he10 := Lib.hid (he9.out.below hu1)
          clear HB9 hA9 hB9r hd9 he9 hu1
          go_wp2_with fail
          refine (CS.out _ HU1.out.bel).mono ?_
          rintro e u2 ⟨rfl, hu2⟩
          have HU2 := Lib.hid (HU1.out.below hu2)
          have v1 := (hA10.out.below hu2).conv
          have v2' := (hB10r.out.below hu2).conv
          have t1 := (hd10.out.below hu2).allR
          have t2 := (he10.out.below hu2).allR
          have hbe : (la == lb) = false := by simpa using HNE.out
          clear HU1 hA10 hB10r hd10 he10 hu2
          go_wp2_with (first
            | ((with_reducible refine wpList_loadP (o := ⟨some 119, _, _, _, _, _⟩) ?_ w4.heap.size 0 23 (.tmp 18) ?_ ?_ t1 Tryd.underlying23 ?_ h10.out ?_); rfl; rfl; rfl; rfl)
            | ((with_reducible refine wpList_loadP (o := ⟨some 120, _, _, _, _, _⟩) ?_ w7.heap.size 0 23 (.tmp 20) ?_ ?_ t2 Tryd.underlying23 ?_ h10.out ?_); rfl; rfl; rfl; rfl)
            | ((with_reducible refine wpList_eqH (o := ⟨some 121, _, _, _, _, _⟩) ?_ .eql 23 23 (.tmp 119) (.tmp 120) ?_ (bs sd).toArray (bs sd).toArray ?_ ?_ guardH _ E2.out ?_); rfl; rfl; rfl; rfl))
          go_ret
          exact ⟨by first | rfl | simp, HU2.out.bel⟩
      all_goals
        subst hc2
        have her := HCE.out
        simp at her
        obtain ⟨hla, hlb⟩ := HNO.out (by rw [her]; decide)
        obtain rfl : m1 = 0 := by rw [← hA1.len, hla]; rfl
        obtain rfl : m2 = 0 := by rw [← hB1r.len, hlb]; rfl
        subst her
        clear HNO HYES hA1 hB1r hla hlb
        go_wp2_with fail
        refine (CC.out _ HBn.out.bel).mono ?_
        rintro e u1 ⟨rfl, hu1⟩
        have HU := Lib.hid (HBn.out.below hu1)
        clear hu1 HBn
        go_wp2_with fail
        refine (CS.out _ HU.out.bel).mono ?_
        rintro e u2 ⟨rfl, hu2⟩
        have hBf := Bt HU.out.bel hu2
        clear hu2 HU
        go_wp2_with fail
        go_ret
        exact ⟨rfl, hBf⟩
    all_goals
      subst hc1
      have HBn := HB2
      have her := HCE.out
      simp at her
      obtain ⟨hla, hlb⟩ := HNO.out (by rw [her]; decide)
      obtain rfl : m1 = 0 := by rw [← hA1.len, hla]; rfl
      obtain rfl : m2 = 0 := by rw [← hB1r.len, hlb]; rfl
      subst her
      clear HNO HYES hA1 hB1r hla hlb
      go_wp2_with fail
      refine (CC.out _ HBn.out.bel).mono ?_
      rintro e u1 ⟨rfl, hu1⟩
      have HU := Lib.hid (HBn.out.below hu1)
      clear hu1 HBn
      go_wp2_with fail
      refine (CS.out _ HU.out.bel).mono ?_
      rintro e u2 ⟨rfl, hu2⟩
      have hBf := Bt HU.out.bel hu2
      clear hu2 HU
      go_wp2_with fail
      go_ret
      exact ⟨rfl, hBf⟩
  · clear hS hr hr2
    by_cases hn1 : n ≤ 300
    · have hn1' : ¬ (300 : Int) < (n : Int) := by omega
      have hn2' : (300 : Int) < (n2 : Int) := by omega
      go_enter Tryd.func5, Tryd.ntmps5
      generalize clc b v = C at *
      generalize clc b2 v2 = C2 at *
      generalize pc a n c X = P at *
      generalize pc a2 n2 c2 Y = P2 at *
      go_wp2_with fail
      go_ret
      exact ⟨rfl, hBw⟩
    · have hn1' : (300 : Int) < (n : Int) := by omega
      go_enter Tryd.func5, Tryd.ntmps5
      generalize clc b v = C at *
      generalize clc b2 v2 = C2 at *
      generalize pc a n c X = P at *
      generalize pc a2 n2 c2 Y = P2 at *
      go_wp2_with fail
      go_ret
      exact ⟨rfl, hBw⟩
end
end Go.Proofs.YtgbhfpkngjlfkaaDoor
