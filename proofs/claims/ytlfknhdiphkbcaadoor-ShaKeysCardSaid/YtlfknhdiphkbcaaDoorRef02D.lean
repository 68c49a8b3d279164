/-
  The walk of the reference of layer 2: fits: is the cube of a number at most p times 2 to the 96th?
-/
import Derived.Test.YtlfknhdiphkbcaaDoorRef02A
import Derived.Test.YtlfknhdiphkbcaaDoorBig02
import Derived.Outline
namespace Go.Proofs.YtlfknhdiphkbcaaDoor
open Go.RowKit

def zero8u : List Nat := [0, 0, 0, 0, 0, 0, 0, 0]
theorem info4u : (Tryd.prog.info? 61).map (fun i => (i.zero, i.size)) = some (some (.agg (ns .u64 [0, 0, 0, 0]).toArray), 4) := by kernel_rfl
theorem info8u : (Tryd.prog.info? 62).map (fun i => (i.zero, i.size)) = some (some (.agg (ns .u64 zero8u).toArray), 8) := by kernel_rfl
theorem size8u : (Tryd.prog.info? 62).map (·.size) = some 8 := by kernel_rfl
theorem size4u : (Tryd.prog.info? 61).map (·.size) = some 4 := by kernel_rfl
def one8u : List Nat := [1, 0, 0, 0, 0, 0, 0, 0]
/-- what the loops of fits carry -/
structure FitAt (w wr : World) (a c : List Nat) : Prop where
  ba : Blk wr w.heap.size 61 (ns .u64 a)
  bc : Blk wr (w.heap.size + 1) 62 (ns .u64 c)
  len : c.length = 8
  parts : Parts c
  bel : Below w.heap.size w wr

theorem FitAt.own {w wr wx : World} {a c : List Nat} {D : Nat} (h : FitAt w wr a c) (hg : wr.grownBy wx (some D)) (hD : w.heap.size + 1 < D) : FitAt w wx a c :=
  ⟨h.ba.grown hg (by simp; omega), h.bc.grown hg (by simp; omega), h.len, h.parts, h.bel.grown hg h.bel.size (fun k e => by cases e; omega)⟩
theorem FitAt.none {w wr wx : World} {a c : List Nat} (h : FitAt w wr a c) (hg : wr.grownBy wx none) : FitAt w wx a c :=
  ⟨h.ba.grown hg (by simp), h.bc.grown hg (by simp), h.len, h.parts, h.bel.grown hg h.bel.size (fun k e => by cases e)⟩
theorem FitAt.drewN {w wr : World} {a c : List Nat} (h : FitAt w wr a c) (n : Nat) : FitAt w (wr.drewN n) a c :=
  ⟨h.ba.drewN n, h.bc.drewN n, h.len, h.parts, ⟨h.bel.os, h.bel.tape, h.bel.output, h.bel.size, h.bel.block⟩⟩

set_option maxRecDepth 100000 in
set_option maxHeartbeats 2000000 in
theorem fits_any (w : World) (x p : Nat) (hx : x < 68719476736) (hp : p < 4294967296) :
    Calls Tryd.prog 33 #[.int .u64 x, .int .i64 p] w fun e w' => e = .returned (.bool (decide (x * x * x ≤ p * 79228162514264337593543950336))) ∧ Below w.heap.size w w' := by
  have e1 : (x : Int) % 4294967296 = ((x % 4294967296 : Nat) : Int) := by omega
  have e2 : (x : Int) / 4294967296 = ((x / 4294967296 : Nat) : Int) := by omega
  have hbx : big [x % 4294967296, x / 4294967296, 0, 0] = x := by simp [big]; omega
  have hpa : Parts [x % 4294967296, x / 4294967296, 0, 0] := by
    intro y hy
    simp only [List.mem_cons, List.not_mem_nil, or_false] at hy
    rcases hy with rfl | rfl | rfl | rfl <;> omega
  have hal : [x % 4294967296, x / 4294967296, 0, 0].length = 4 := rfl
  have HV := Lib.hid (show Value.agg #[.int .u64 ((x % 4294967296 : Nat) : Int), .int .u64 ((x / 4294967296 : Nat) : Int), .int .u64 0, .int .u64 0] = .agg (ns .u64 [x % 4294967296, x / 4294967296, 0, 0]).toArray from rfl)
  have H1 := Lib.hid (show (Tryd.prog.info? 61).map (·.size) = some (ns .u64 [x % 4294967296, x / 4294967296, 0, 0]).length by rw [size4u, ns_length]; rfl)
  have H2 := Lib.hid (show (ns .u64 [0, 0, 0, 0]).length = (ns .u64 [x % 4294967296, x / 4294967296, 0, 0]).length by rw [ns_length, ns_length, hal]; rfl)
  have H3 := ns_one .u64 [x % 4294967296, x / 4294967296, 0, 0]
  have HV8 := Lib.hid (show Value.agg #[.int .u64 1, .int .u64 0, .int .u64 0, .int .u64 0, .int .u64 0, .int .u64 0, .int .u64 0, .int .u64 0] = .agg (ns .u64 one8u).toArray from rfl)
  have H4 := Lib.hid (show (Tryd.prog.info? 62).map (·.size) = some (ns .u64 one8u).length by rw [size8u, ns_length]; rfl)
  have H5 := Lib.hid (show (ns .u64 zero8u).length = (ns .u64 one8u).length by rw [ns_length, ns_length]; rfl)
  have H6 := ns_one .u64 one8u
  generalize hav : [x % 4294967296, x / 4294967296, 0, 0] = av at *
  generalize x % 4294967296 = xl at *
  generalize x / 4294967296 = xh at *
  have HBX := Lib.hid hbx
  have HAL := Lib.hid hal
  clear hav hbx hal
  go_enter Tryd.func33, Tryd.ntmps33
  go_wp2_with (first | ((with_reducible refine wpList_allocB (o := ⟨some 5, _, _, _, _, _⟩) ?_ 61 ?_ info4u ?_); rfl; rfl; intro w1 ha1 hg1 hz1) | ((with_reducible refine wpList_storeB (o := ⟨none, .store 61 (.tmp 5) (.tmp 17), _, _, _, _⟩) ?_ 61 (.tmp 5) (.tmp 17) ?_ ?_ ?_ ha1 H1.out H2.out H3 ?_); rfl; rfl; rfl; exact HV.out; intro w2 ha2 hg2 hz2) | ((with_reducible refine wpList_allocB (o := ⟨some 6, _, _, _, _, _⟩) ?_ 62 ?_ info8u ?_); rfl; rfl; intro w3 hc3 hg3 hz3) | ((with_reducible refine wpList_storeB (o := ⟨none, .store 62 (.tmp 6) (.tmp 18), _, _, _, _⟩) ?_ 62 (.tmp 6) (.tmp 18) ?_ ?_ ?_ hc3 H4.out H5.out H6 ?_); rfl; rfl; rfl; exact HV8.out; intro w4 hc4 hg4 hz4))
  have hF : FitAt w w4 av one8u := by
    have hz := hz1
    rw [hz2, hz1] at hc4
    exact ⟨((ha2.grown hg3 (by simp)).grown hg4 (by simp; omega)), hc4, rfl, by unfold Parts one8u; decide, ((((Below.refl _ w).grown hg1 (Nat.le_refl _) (fun k e => by cases e)).grown hg2 (by omega) (fun k e => by cases e; omega)).grown hg3 (by omega) (fun k e => by cases e)).grown hg4 (by omega) (fun k e => by cases e; omega)⟩
  have hz4' : w.heap.size + 2 ≤ w4.heap.size := by omega
  clear ha1 hg1 hz1 ha2 hg2 hz2 hc3 hg3 hz3 hc4 hg4 hz4 H1 H2 H3 H4 H5 H6 HV HV8 e1 e2
  go_loopw [7] (fun i wr => ∃ (k : Nat) (c : List Nat), k ≤ 3 ∧ i = .int .i64 k ∧ FitAt w wr av c ∧ Hid (big c = x ^ k) ∧ w.heap.size + 2 ≤ wr.heap.size) (fun i _ => 3 - (intOf i).toNat)
  case atStart => exact ⟨0, one8u, by omega, rfl, hF, by show _ = _; simp [big, one8u], hz4'⟩
  case round =>
    obtain ⟨k, c, hk, rfl, hF, hbc, hwb⟩ := hrel
    by_cases hlt : k < 3
    · obtain ⟨wo, rfl⟩ : ∃ wo : World, wo = wr := ⟨_, rfl⟩
      have hbound : big c * x < 4294967296 ^ 4 ∧ big c < 4294967296 ^ 5 := by
        rw [hbc.out]
        have h1 : x ^ k ≤ 68719476736 ^ 2 := Nat.le_trans (Nat.pow_le_pow_left (Nat.le_of_lt hx) k) (Nat.pow_le_pow_right (by decide) (by omega))
        have h2 : x ^ k * x ≤ 68719476736 ^ 2 * 68719476736 := Nat.mul_le_mul h1 (Nat.le_of_lt hx)
        exact ⟨Nat.lt_of_le_of_lt h2 (by decide), Nat.lt_of_le_of_lt h1 (by decide)⟩
      have HBD := Lib.hid hbound
      clear hbound
      go_wp2_with ((with_reducible refine wpList_allocB (o := ⟨some 8, _, _, _, _, _⟩) ?_ 62 ?_ info8u ?_); rfl; rfl; intro w5 hd5 hg5 hz5)
      have hF5 := hF.none hg5
      have hD : w.heap.size + 1 < wo.heap.size := by omega
      generalize wo.heap.size = D at *
      clear hg5 hF
      have hR0 : RowsAt c av x 0 zero8u := RowsAt.zero c av x
      go_loopw [9] (fun i wr => ∃ (m : Nat) (out : List Nat), m ≤ 5 ∧ i = .int .i64 m ∧ FitAt w wr av c ∧ Blk wr D 62 (ns .u64 out) ∧ RowsAt c av x m out) (fun i _ => 5 - (intOf i).toNat)
      case atStart => exact ⟨0, zero8u, by omega, rfl, hF5, hd5, hR0⟩
      case round =>
        obtain ⟨m, out, hm, rfl, hF6, hd6, hR⟩ := hrel
        by_cases hlt2 : m < 5
        · obtain ⟨wp, rfl⟩ : ∃ wp : World, wp = wr := ⟨_, rfl⟩
          have hRow0 := hR.begin (a := av) (c.getD m 0)
          go_wp2_with fail
          go_loopw [10, 11] (fun cy j wr => ∃ (n : Nat) (o : List Nat) (y : Nat), n ≤ 4 ∧ j = .int .i64 n ∧ cy = .int .u64 y ∧ FitAt w wr av c ∧ Blk wr D 62 (ns .u64 o) ∧ RowAt out (c.getD m 0) av m n o y) (fun _ j _ => 4 - (intOf j).toNat)
          case atStart => exact ⟨0, out, 0, by omega, rfl, rfl, hF6, hd6, hRow0⟩
          case round =>
            obtain ⟨n, o, y, hn, rfl, rfl, hF7, hd7, hRw⟩ := hrel
            by_cases hlt3 : n < 4
            · have hol := hRw.len
              have cd := hd7.cell (ns_at .u64 o (m + n) (by omega))
              have cc := hF7.bc.cell (ns_at .u64 c m (by have := hF7.len; omega))
              have ca := hF7.ba.cell (ns_at .u64 av n (by have := HAL.out; omega))
              have fd := hd7.free (m + n)
              have b1 := hRw.parts.get (m + n)
              have b2 := hF7.parts.get m
              have b3 := hpa.get n
              have b4 := hRw.lt
              have HST := Lib.hid (hRw.step HAL.out hpa b2 hlt2 hlt3)
              have hpr : c.getD m 0 * av.getD n 0 ≤ 4294967295 * 4294967295 := Nat.mul_le_mul (by omega) (by omega)
              have hpe : ((c.getD m 0 : Nat) : Int) * ((av.getD n 0 : Nat) : Int) = ((c.getD m 0 * av.getD n 0 : Nat) : Int) := by simp
              generalize hcg : c.getD m 0 * av.getD n 0 = pr at *
              clear hcg
              generalize hci : c.getD m 0 = ci at *
              have HCI := Lib.hid hci
              clear hci
              generalize av.getD n 0 = an at *
              generalize o.getD (m + n) 0 = u at *
              obtain ⟨s1, hs1⟩ : ∃ s1, s1 = u + pr := ⟨_, rfl⟩
              obtain ⟨v, hv⟩ : ∃ v, v = u + pr + y := ⟨_, rfl⟩
              have m1 : IntKind.u64.wrap ((ci : Int) * (an : Int)) = (pr : Int) := by rw [hpe, IntKind.wrap_u64]; omega
              have m2 : IntKind.u64.wrap ((u : Int) + (pr : Int)) = (s1 : Int) := by rw [IntKind.wrap_u64]; omega
              have m3 : IntKind.u64.wrap ((s1 : Int) + (y : Int)) = (v : Int) := by rw [IntKind.wrap_u64]; omega
              generalize hid : m + n = d at *
              have m4 : IntKind.i64.wrap ((m : Int) + (n : Int)) = (d : Int) := by rw [IntWalk.i64_in _ (by omega)]; omega
              have q1 : (d : Int) < 8 := by omega
              have q2 : (m : Int) < 8 := by omega
              have q3 : (n : Int) < 4 := by omega
              have q4 : (m : Int) + (n : Int) = (d : Int) := by omega
              have HID := Lib.hid hid
              clear hid
              rw [← hv] at HST
              obtain ⟨r, hr⟩ : ∃ r, r = v % 4294967296 := ⟨_, rfl⟩
              obtain ⟨q, hq⟩ : ∃ q, q = v / 4294967296 := ⟨_, rfl⟩
              have m5 : (v : Int) % 4294967296 = (r : Int) := by omega
              have m6 : (v : Int) / 4294967296 = (q : Int) := by omega
              rw [← hr, ← hq] at HST
              clear hpe hs1 hv hr hq hpr b1 b2 b3 b4 hol
              have HF7 := Lib.hid hF7
              have HD7 := Lib.hid hd7
              clear hF7 hd7 hRw
              go_wp2_with fail
              go_quiet (fail)
              have fd' : (wr.drewN nq).frozen? ⟨D, d, none⟩ = false := fd
              have cd' : (wr.drewN nq).cell? ⟨D, d, none⟩ = some (.int .u64 (u : Int)) := cd
              have HF8 := Lib.hid (HF7.out.drewN nq)
              have HD8 := Lib.hid (HD7.out.drewN nq)
              clear fd cd cc ca m1 m2 m3 HF7 HD7
              generalize wr.drewN nq = wx at *
              go_wp2_with fail
              have hset := HD8.out.set d (.int .u64 (r : Int))
              rw [ns_set] at hset
              have hrow := HST.out
              exact ⟨⟨n + 1, _, q, by omega, by go_num, rfl, HF8.out.own (set_grown wx D d _) hD, hset, hrow⟩, by simp [intOf]; omega⟩
            · obtain rfl : n = 4 := by omega
              have hRN := hR.next hRw HAL.out HBX.out hF7.len hlt2 HBD.out.1
              have HRN := Lib.hid hRN
              clear hRN hRw
              go_wp2_with fail
              exact ⟨⟨m + 1, o, by omega, by go_num, hF7, hd7, HRN.out⟩, by simp [intOf]; omega⟩
        · obtain rfl : m = 5 := by omega
          have hall := hR.all hF6.len HBD.out.2
          have hol := hR.len
          have HALL := Lib.hid (show big out = x ^ (k + 1) by rw [hall, hbc.out, Nat.pow_succ])
          have I1 := Lib.hid (show (Tryd.prog.info? 62).map (·.size) = some (ns .u64 out).length by rw [size8u, ns_length, hol])
          have I2 := Lib.hid (show (ns .u64 c).length = (ns .u64 out).length by rw [ns_length, ns_length, hol, hF6.len])
          have I3 := ns_one .u64 out
          have hpo := hR.parts
          have hbc6 := hF6.bc
          have HOL := Lib.hid hol
          have hbel6 := hF6.bel
          have hba6 := hF6.ba
          clear hall hol hR
          go_wp2_with (first | ((with_reducible refine wpList_loadB (o := ⟨some 54, _, _, _, _, _⟩) ?_ 62 (.tmp 8) ?_ ?_ hd6 Tryd.underlying62 ?_ I1.out ?_); rfl; rfl; rfl; rfl) | ((with_reducible refine wpList_storeB (o := ⟨none, .store 62 (.tmp 6) (.tmp 54), _, _, _, _⟩) ?_ 62 (.tmp 6) (.tmp 54) ?_ ?_ ?_ hbc6 I1.out I2.out I3 ?_); rfl; rfl; rfl; rfl; intro w7 hb7 hg7 hz7))
          have hF8 : FitAt w w7 av out := ⟨hba6.grown hg7 (by simp), hb7, HOL.out, hpo, hbel6.grown hg7 hbel6.size (fun k e => by cases e; omega)⟩
          have hDw := hd6.lt
          exact ⟨⟨k + 1, out, by omega, by go_num, hF8, HALL, by omega⟩, by simp [intOf]; omega⟩
    · obtain rfl : k = 3 := by omega
      obtain ⟨c0, c1, c2, c3, c4, c5, c6, c7, rfl⟩ : ∃ c0 c1 c2 c3 c4 c5 c6 c7, c = [c0, c1, c2, c3, c4, c5, c6, c7] := by
        have hl := hF.len
        match c, hl with
        | [c0, c1, c2, c3, c4, c5, c6, c7], _ => exact ⟨c0, c1, c2, c3, c4, c5, c6, c7, rfl⟩
      have hX : x * x * x ≤ 68719476736 * 68719476736 * 68719476736 := Nat.mul_le_mul (Nat.mul_le_mul (Nat.le_of_lt hx) (Nat.le_of_lt hx)) (Nat.le_of_lt hx)
      have hb := hbc.out
      have hpw : x ^ 3 = x * x * x := by rw [Nat.pow_succ, Nat.pow_succ, Nat.pow_succ, Nat.pow_zero, Nat.one_mul]
      rw [hpw] at hb
      simp only [big] at hb
      have hps : ∀ y ∈ [c0, c1, c2, c3, c4, c5, c6, c7], y < 4294967296 := hF.parts
      simp only [List.mem_cons, List.not_mem_nil, or_false, forall_eq_or_imp, forall_eq] at hps
      obtain ⟨p0, p1, p2, p3, p4, p5, p6, p7⟩ := hps
      have hG := Lib.hid (rfl : x * x * x = x * x * x)
      generalize hXe : x * x * x = X at *
      have HXE := Lib.hid hXe
      clear hXe hpw hG hbc
      obtain rfl : c4 = 0 := by omega
      obtain rfl : c5 = 0 := by omega
      obtain rfl : c6 = 0 := by omega
      obtain rfl : c7 = 0 := by omega
      have hiff : X ≤ p * 79228162514264337593543950336 ↔ c3 < p ∨ (c3 = p ∧ c0 = 0 ∧ c1 = 0 ∧ c2 = 0) := by omega
      have HIFF := Lib.hid hiff
      clear hiff hb hX
      have k0 : wr.cell? ⟨w.heap.size + 1, 0, none⟩ = some (.int .u64 (c0 : Int)) := hF.bc.cell (ns_at .u64 _ 0 (by simp))
      have k1 : wr.cell? ⟨w.heap.size + 1, 1, none⟩ = some (.int .u64 (c1 : Int)) := hF.bc.cell (ns_at .u64 _ 1 (by simp))
      have k2 : wr.cell? ⟨w.heap.size + 1, 2, none⟩ = some (.int .u64 (c2 : Int)) := hF.bc.cell (ns_at .u64 _ 2 (by simp))
      have k3 : wr.cell? ⟨w.heap.size + 1, 3, none⟩ = some (.int .u64 (c3 : Int)) := hF.bc.cell (ns_at .u64 _ 3 (by simp))
      have k4 : wr.cell? ⟨w.heap.size + 1, 4, none⟩ = some (.int .u64 0) := hF.bc.cell (ns_at .u64 _ 4 (by simp))
      have k5 : wr.cell? ⟨w.heap.size + 1, 5, none⟩ = some (.int .u64 0) := hF.bc.cell (ns_at .u64 _ 5 (by simp))
      have k6 : wr.cell? ⟨w.heap.size + 1, 6, none⟩ = some (.int .u64 0) := hF.bc.cell (ns_at .u64 _ 6 (by simp))
      have k7 : wr.cell? ⟨w.heap.size + 1, 7, none⟩ = some (.int .u64 0) := hF.bc.cell (ns_at .u64 _ 7 (by simp))
      have hbel := hF.bel
      clear hF
      have FIN : ∀ b : Bool, b = decide (X ≤ p * 79228162514264337593543950336) → (Ending.returned (Value.bool b) = .returned (.bool (decide (x * x * x ≤ p * 79228162514264337593543950336)))) ∧ Below w.heap.size w wr := fun b hb => ⟨by rw [hb, HXE.out], hbel⟩
      have HFIN := Lib.hid FIN
      clear FIN hbel
      by_cases h1 : c3 < p
      · have t1 := Lib.hid (HFIN.out true (by rw [eq_comm, decide_eq_true_iff, HIFF.out]; exact .inl h1))
        clear HFIN HIFF
        go_wp2_with fail
        go_ret
        exact t1.out
      · by_cases h2 : c3 = p
        · subst h2
          by_cases h3 : c0 = 0 ∧ c1 = 0 ∧ c2 = 0
          · obtain ⟨rfl, rfl, rfl⟩ := h3
            have t1 := Lib.hid (HFIN.out true (by rw [eq_comm, decide_eq_true_iff, HIFF.out]; exact .inr ⟨rfl, rfl, rfl, rfl⟩))
            clear HFIN HIFF
            go_wp2_with fail
            go_ret
            exact t1.out
          · have t1 := Lib.hid (HFIN.out false (by rw [eq_comm, decide_eq_false_iff_not, HIFF.out]; omega))
            clear HFIN HIFF
            by_cases h4 : c0 = 0
            · subst h4
              by_cases h5 : c1 = 0
              · subst h5
                have b2 : ((c2 : Int) == 0) = false := by simp; omega
                go_wp2_with fail
                go_ret
                exact t1.out
              · have b1 : ((c1 : Int) == 0) = false := by simp; omega
                go_wp2_with fail
                go_ret
                exact t1.out
            · have b0 : ((c0 : Int) == 0) = false := by simp; omega
              go_wp2_with fail
              go_ret
              exact t1.out
        · have b3 : ((c3 : Int) == (p : Int)) = false := by simp; omega
          have t1 := Lib.hid (HFIN.out false (by rw [eq_comm, decide_eq_false_iff_not, HIFF.out]; omega))
          clear HFIN HIFF
          go_wp2_with fail
          go_ret
          exact t1.out
end Go.Proofs.YtlfknhdiphkbcaaDoor
