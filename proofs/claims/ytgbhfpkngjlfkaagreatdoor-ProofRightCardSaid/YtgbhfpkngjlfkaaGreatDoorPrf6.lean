/-
  The walks of package proof: bitIs1.
-/
import Derived.Test.YtgbhfpkngjlfkaaGreatDoorCon04A
namespace Go.Proofs.YtgbhfpkngjlfkaaGreatDoor
open Go.RowKit

set_option maxRecDepth 100000 in
set_option maxHeartbeats 1000000 in
theorem pbit_any (w : World) (p : List UInt8) (hp : p.length = 32) (i : Nat) (hi : i < 256) :
    Calls Tryz.prog 28 #[.agg (bs p).toArray, .int .i64 (i : Int)] w fun e w' => e = .returned (.bool (bitAt p i == 1)) ∧ Below w.heap.size w w' := by
  have H5 := Lib.hid (show (Tryz.prog.info? 24).map (·.size) = some (bs p).length by rw [info_digest, bs_length, hp])
  have hb0 := Blk.new w 24 (bs p)
  have hB0 : Below w.heap.size w (w.alloc (.cells (bs p).toArray 24)) := (Below.refl _ w).alloc (Nat.le_refl _) _
  have HB := Lib.hid (fun W : World => bit_any W p hp i hi)
  have h2 : bitAt p i = 0 ∨ bitAt p i = 1 := by have := bitAt_lt p i; omega
  generalize bitAt p i = b at *
  go_enter Tryz.func28, Tryz.ntmps28
  go_wp2_with ((with_reducible refine wpList_loadB (o := ⟨some 8, _, _, _, _, _⟩) ?_ 24 (.tmp 2) ?_ ?_ hb0 Tryz.underlying24 ?_ H5.out ?_); rfl; rfl; rfl; rfl)
  generalize w.alloc _ = w0 at *
  refine (HB.out w0).mono ?_
  rintro e w1 ⟨rfl, hB1⟩
  have hC := Bt hB0 hB1
  rcases h2 with rfl | rfl
  · go_wp2_with fail
    go_ret
    exact ⟨rfl, hC⟩
  · go_wp2_with fail
    go_ret
    exact ⟨rfl, hC⟩

end Go.Proofs.YtgbhfpkngjlfkaaGreatDoor
