/-
  The walks of the reference's layer 4: weight, At, Bit, Common, Less.
-/
import Derived.Test.YtbbckjpgmpfkgaaGreatDoorLibO
import Derived.Test.YtbbckjpgmpfkgaaGreatDoorPath0
import Derived.Deep.RegionHeld3
import Derived.BigQuiet
namespace Go.Proofs.YtbbckjpgmpfkgaaGreatDoor
open Go.RowKit

theorem wt_step (k : Nat) : (128 / 2 ^ k) / 2 = 128 / 2 ^ (k + 1) := by
  rw [Nat.div_div_eq_div_mul, Nat.pow_succ]

set_option maxRecDepth 100000 in
theorem weight_any (w : World) (i : Nat) (hi : i ≤ 100000) :
    Calls Tryz.prog 42 #[.int .i64 (i : Int)] w fun e w' => e = .returned (.int .i64 (wt i : Int)) ∧ w = w' := by
  go_enter Tryz.func42, Tryz.ntmps42
  go_wp2_with fail
  go_loopw [3, 4] (fun v t wr => ∃ k : Nat, k ≤ i % 8 ∧ t = .int .i64 k ∧ v = .int .i64 ((128 / 2 ^ k : Nat) : Int) ∧ w = wr) (fun _ t _ => 8 - (intOf t).toNat)
  case atStart => exact ⟨0, by omega, rfl, rfl, rfl⟩
  case round =>
    obtain ⟨k, hk, rfl, rfl, rfl⟩ := hrel
    have m8 : i % 8 < 8 := Nat.mod_lt _ (by decide)
    have hw8 := Lib.hid (show wt i = 128 / 2 ^ (i % 8) from rfl)
    obtain ⟨r, hr⟩ : ∃ r, i % 8 = r := ⟨_, rfl⟩
    have t1 : (i : Int).tmod 8 = (r : Int) := by rw [← hr, Int.tmod_eq_emod_of_nonneg (by omega)]; rfl
    have t2 : (i : Int) % 8 = (r : Int) := by rw [← hr]; rfl
    rw [hr] at hk m8 hw8
    clear hr
    by_cases hlt : k < r
    · have h3 : (k : Int) < (r : Int) := by omega
      have hst := Lib.hid (wt_step k)
      have hle : 128 / 2 ^ k ≤ 128 := Nat.div_le_self _ _
      generalize 128 / 2 ^ k = v at *
      obtain ⟨v2, hv2⟩ : ∃ v2, v / 2 = v2 := ⟨_, rfl⟩
      have t3 : (v : Int).tdiv 2 = (v2 : Int) := by rw [← hv2, Int.tdiv_eq_ediv_of_nonneg (by omega)]; rfl
      have t4 : (v : Int) / 2 = (v2 : Int) := by rw [← hv2]; rfl
      rw [hv2] at hst
      clear hv2
      go_wp2_with fail
      exact ⟨⟨k + 1, by omega, by go_num, by rw [← hst.out], trivial⟩, by simp [intOf]; omega⟩
    · have h3 : ¬ (k : Int) < (r : Int) := by omega
      obtain rfl : k = r := by omega
      rw [← hw8.out]
      generalize hv : wt i = v at *
      have HV := Lib.hid hv
      clear hv
      go_wp2_with fail
      go_ret
      exact ⟨by rw [HV.out]; rfl, rfl⟩

theorem weight_q (w : World) (k i : Nat) (hi : i ≤ 100000) :
    Calls Tryz.prog 42 #[.int .i64 (i : Int)] (w.drewN k) fun e w'' => e = .returned (.int .i64 (wt i : Int)) ∧ ∃ j, w'' = w.drewN j :=
  (weight_any (w.drewN k) i hi).mono fun _ _ h => ⟨h.1, k, h.2.symm⟩

set_option maxRecDepth 100000 in
set_option maxHeartbeats 1000000 in
theorem at_ref (w : World) (p : List UInt8) (hp : p.length = 32) (i : Nat) (hi : i < 256) :
    Calls Tryz.prog 24 #[.agg (bs p).toArray, .int .i64 (i : Int)] w fun e w' => e = .returned (.int .i64 (bitAt p i : Int)) ∧ Below w.heap.size w w' := by
  have hb0 := Blk.new w 24 (bs p)
  have hB0 : Below w.heap.size w (w.alloc (.cells (bs p).toArray 24)) := (Below.refl _ w).alloc (Nat.le_refl _) _
  have c0 := hb0.cell (bs_at p (i / 8) (by omega))
  have hwt := weight_q (w.alloc (.cells (bs p).toArray 24))
  have hpos := wt_pos i
  have hle := wt_le i
  obtain ⟨d, hd⟩ : ∃ d, i / 8 = d := ⟨_, rfl⟩
  have hd32 : (d : Int) < 32 := by omega
  have t1 : (i : Int).tdiv 8 = (d : Int) := by rw [← hd, Int.tdiv_eq_ediv_of_nonneg (by omega)]; rfl
  have t2 : (i : Int) / 8 = (d : Int) := by rw [← hd]; rfl
  have hbit := Lib.hid (show bitAt p i = (p.getD (i / 8) 0).toNat / wt i % 2 from rfl)
  rw [hd] at c0 hbit
  clear hd
  have hx := (p.getD d 0).toNat_lt
  generalize (p.getD d 0).toNat = x at *
  go_enter Tryz.func24, Tryz.ntmps24
  go_wp2_with fail
  have HW := Lib.hid (fun k => hwt k i (by omega))
  clear hwt
  generalize wt i = v at *
  obtain ⟨y, hy⟩ : ∃ y, x / v = y := ⟨_, rfl⟩
  have hyl : y ≤ x := by rw [← hy]; exact Nat.div_le_self _ _
  have t3 : (x : Int).tdiv (v : Int) = (y : Int) := by rw [← hy, Int.tdiv_eq_ediv_of_nonneg (by omega)]; rfl
  have t4 : (x : Int) / (v : Int) = (y : Int) := by rw [← hy]; rfl
  have hv0 : ¬ (v : Int) = 0 := by omega
  rw [hy] at hbit
  clear hy
  obtain ⟨z, hz⟩ : ∃ z, y % 2 = z := ⟨_, rfl⟩
  have t5 : (y : Int).tmod 2 = (z : Int) := by rw [← hz, Int.tmod_eq_emod_of_nonneg (by omega)]; rfl
  have t6 : (y : Int) % 2 = (z : Int) := by rw [← hz]; rfl
  rw [hz] at hbit
  clear hz
  have w1 : IntKind.i64.wrap (x : Int) = (x : Int) := IntWalk.i64_in _ (by omega)
  go_quiet ((go_at_call 42; exact HW.out _))
  go_wp2_with fail
  go_ret
  exact ⟨by rw [hbit.out]; rfl, ⟨hB0.os, hB0.tape, hB0.output, hB0.size, hB0.block⟩⟩





end Go.Proofs.YtbbckjpgmpfkgaaGreatDoor
