/-
  The walks of package path: masks, words.
-/
import Derived.Test.YtgbhfpkngjlfkaaDoorLibO
import Derived.Test.YtgbhfpkngjlfkaaDoorPath2
import Derived.Test.YtgbhfpkngjlfkaaDoorLen64
import Derived.Laws.BitsAllLaws
import Derived.IntWalk
import Derived.Lib.SliceRun
import Derived.BigFrame
import Derived.Deep.RegionHeld3
import Derived.BigQuiet
import Derived.Deep.QuietTactic
import Derived.StillTailTactics
namespace Go.Proofs.YtgbhfpkngjlfkaaDoor
open Go.RowKit

theorem mask_any (w : World) (i : Nat) (hi : i < 256) :
    Calls Tryd.prog 96 #[.int .i64 (i : Int)] w fun e w' => e = .returned (.int .u8 (wt i : Int)) ∧ w = w' := by
  have HW := Lib.hid (show wt i = 128 / 2 ^ (i % 8) from rfl)
  have m8 : i % 8 < 8 := Nat.mod_lt _ (by decide)
  obtain ⟨r, hr⟩ : ∃ r, i % 8 = r := ⟨_, rfl⟩
  have t1 : (i : Int).tmod 8 = (r : Int) := by rw [← hr, Int.tmod_eq_emod_of_nonneg (by omega)]; rfl
  have t2 : (i : Int) % 8 = (r : Int) := by rw [← hr]; rfl
  rw [hr] at HW m8
  clear hr
  go_enter Tryd.func96, Tryd.ntmps96
  go_wp2
  go_ret
  refine ⟨?_, rfl⟩
  show Ending.returned (.int .u8 (128 / 2 ^ r)) = _
  rw [HW.out]
  simp
theorem mask_q (w : World) (k i : Nat) (hi : i < 256) :
    Calls Tryd.prog 96 #[.int .i64 (i : Int)] (w.drewN k) fun e w'' => e = .returned (.int .u8 (wt i : Int)) ∧ ∃ j, w'' = w.drewN j :=
  (mask_any (w.drewN k) i hi).mono fun _ _ h => ⟨h.1, k, h.2.symm⟩

theorem and_bit (p : List UInt8) (i : Nat) : bits .and .u8 ((p.getD (i / 8) 0).toNat : Int) (wt i : Int) = ((bitAt p i * wt i : Nat) : Int) := by
  have hw := wt_le i
  rw [u8_and_nat _ _ (UInt8.toNat_lt _) (by omega)]
  have h := byte_and ⟨(p.getD (i / 8) 0).toNat, UInt8.toNat_lt _⟩ ⟨i % 8, Nat.mod_lt _ (by decide)⟩
  simp only at h
  unfold bitAt wt
  rw [h]

set_option maxRecDepth 100000 in
theorem bit_any_no (w : World) (p : List UInt8) (_hp : p.length = 32) (i : Int) (hi : i < 0 ∨ 255 < i) :
    Calls Tryd.prog 83 #[.agg (bs p).toArray, .int .i64 i] w fun e w' => e = .returned (.tuple #[.int .i64 0, .int .i64 20]) ∧ Below w.heap.size w w' := by
  have hB0 : Below w.heap.size w (w.alloc (.cells (bs p).toArray 23)) := (Below.refl _ w).alloc (Nat.le_refl _) _
  by_cases h0 : i < 0
  · go_enter Tryd.func83, Tryd.ntmps83
    go_wp2_with fail
    go_ret2
    exact ⟨rfl, hB0⟩
  · have h1 : 256 ≤ i := by omega
    go_enter Tryd.func83, Tryd.ntmps83
    go_wp2_with fail
    go_ret2
    exact ⟨rfl, hB0⟩

set_option maxRecDepth 100000 in
set_option maxHeartbeats 1000000 in
theorem bit_any (w : World) (p : List UInt8) (hp : p.length = 32) (i : Nat) (hi : i < 256) :
    Calls Tryd.prog 83 #[.agg (bs p).toArray, .int .i64 (i : Int)] w fun e w' => e = .returned (.tuple #[.int .i64 (bitAt p i : Int), .int .i64 0]) ∧ Below w.heap.size w w' := by
  have hb0 := Blk.new w 23 (bs p)
  have hB0 : Below w.heap.size w (w.alloc (.cells (bs p).toArray 23)) := (Below.refl _ w).alloc (Nat.le_refl _) _
  have c0 := hb0.cell (bs_at p (i / 8) (by omega))
  have HM := Lib.hid (fun k => mask_q (w.alloc (.cells (bs p).toArray 23)) k i hi)
  have h0 : ¬ (i : Int) < 0 := by omega
  have h1 : ¬ (256 : Int) ≤ i := by omega
  have hA := and_bit p i
  have hbl := bitAt_lt p i
  have hwp := wt_pos i
  obtain ⟨d, hd⟩ : ∃ d, i / 8 = d := ⟨_, rfl⟩
  have hd32 : (d : Int) < 32 := by omega
  have t1 : (i : Int).tdiv 8 = (d : Int) := by rw [← hd, Int.tdiv_eq_ediv_of_nonneg (by omega)]; rfl
  have t2 : (i : Int) / 8 = (d : Int) := by rw [← hd]; rfl
  rw [hd] at c0 hA
  clear hd
  generalize (p.getD d 0).toNat = x at *
  generalize bitAt p i = b at *
  generalize wt i = v at *
  rcases (by omega : b = 0 ∨ b = 1) with rfl | rfl
  case' inl => rw [Nat.zero_mul] at hA
  case' inr =>
    rw [Nat.one_mul] at hA
    have hv0 : ¬ (v : Int) = 0 := by omega
  all_goals
    go_enter Tryd.func83, Tryd.ntmps83
    go_wp2_with fail
    go_quiet ((go_at_call 96; exact HM.out _))
    go_wp2_with fail
    go_ret2
    exact ⟨rfl, ⟨hB0.os, hB0.tape, hB0.output, hB0.size, hB0.block⟩⟩
end Go.Proofs.YtgbhfpkngjlfkaaDoor
