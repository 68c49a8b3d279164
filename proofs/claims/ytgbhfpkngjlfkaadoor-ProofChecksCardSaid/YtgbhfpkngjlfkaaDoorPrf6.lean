/-
  The walks of package proof: bitIs1.
-/
import Derived.Test.YtgbhfpkngjlfkaaDoorCon04A
namespace Go.Proofs.YtgbhfpkngjlfkaaDoor
open Go.RowKit

set_option maxRecDepth 100000 in
set_option maxHeartbeats 1000000 in
theorem pbit_any (w : World) (p : List UInt8) (hp : p.length = 32) (i : Nat) (hi : i < 256) :
    Calls Tryd.prog 59 #[.agg (bs p).toArray, .int .i64 (i : Int)] w fun e w' => e = .returned (.bool (bitAt p i == 1)) ∧ Below w.heap.size w w' := by
  have H5 := Lib.hid (show (Tryd.prog.info? 23).map (·.size) = some (bs p).length by rw [info_digest, bs_length, hp])
  have hb0 := Blk.new w 23 (bs p)
  have hB0 : Below w.heap.size w (w.alloc (.cells (bs p).toArray 23)) := (Below.refl _ w).alloc (Nat.le_refl _) _
  have HB := Lib.hid (fun W : World => bit_any W p hp i hi)
  have h2 : bitAt p i = 0 ∨ bitAt p i = 1 := by have := bitAt_lt p i; omega
  generalize bitAt p i = b at *
  go_enter Tryd.func59, Tryd.ntmps59
  go_wp2_with ((with_reducible refine wpList_loadB (o := ⟨some 8, _, _, _, _, _⟩) ?_ 23 (.tmp 2) ?_ ?_ hb0 Tryd.underlying23 ?_ H5.out ?_); rfl; rfl; rfl; rfl)
  generalize w.alloc _ = w0 at *
  refine (HB.out w0).mono ?_
  rintro e w1 ⟨rfl, hB1⟩
  have hC := Bt hB0 hB1
  rcases h2 with rfl | rfl
  · go_wp2_with fail
    go_ret
    exact ⟨rfl, hC⟩
  · go_wp2_with fail
    go_ret
    exact ⟨rfl, hC⟩

end Go.Proofs.YtgbhfpkngjlfkaaDoor
