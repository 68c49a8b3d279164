/-
  The walk of PathBits.
-/
import Derived.Test.YtgfahgmjmiapiaaLaw04A
namespace Go.Proofs.Ytgfahgmjmiapiaa
open Go.RowKit

set_option maxRecDepth 100000 in
set_option maxHeartbeats 1000000 in
theorem walkPathBits (w : World) (p : List UInt8) (hp : p.length = 32) (i : Int) (_wf : (Lit.int .i64 i).wf = true) :
    Calls Try.prog 3 #[.agg (bs p).toArray, .int .i64 i] w (Yes4 w) := by
  have hb0 := Blk.new w 23 (bs p)
  have hB0 : Below w.heap.size w (w.alloc (.cells (bs p).toArray 23)) := (Below.refl _ w).alloc (Nat.le_refl _) _
  have H5 := Lib.hid (show (Try.prog.info? 23).map (·.size) = some (bs p).length by rw [info_digest, bs_length, hp])
  obtain ⟨b, e, F1, F2⟩ : ∃ b e : Int, (∀ W : World, Calls Try.prog 9 #[.agg (bs p).toArray, .int .i64 i] W fun x W' => x = .returned (.tuple #[.int .i64 b, .int .i64 e]) ∧ Below W.heap.size W W') ∧
      (∀ W : World, Calls Try.prog 10 #[.agg (bs p).toArray, .int .i64 i] W fun x W' => x = .returned (.tuple #[.int .i64 b, .int .i64 e]) ∧ Below W.heap.size W W') := by
    by_cases hi : i < 0 ∨ 255 < i
    · exact ⟨0, 20, fun W => bit_any_no W p hp i hi, fun W => bit_ref_no W p i hi⟩
    · obtain ⟨k, rfl⟩ := Int.eq_ofNat_of_zero_le (show 0 ≤ i by omega)
      exact ⟨bitAt p k, 0, fun W => bit_any W p hp k (by omega), fun W => bit_ref W p hp k (by omega)⟩
  have G1 := Lib.hid F1
  have G2 := Lib.hid F2
  clear F1 F2
  go_enter Try.func3, Try.ntmps3
  go_wp2_with ((with_reducible refine wpList_loadB (o := ⟨some 10, _, _, _, _, _⟩) ?_ 23 (.tmp 2) ?_ ?_ hb0 Try.underlying23 ?_ H5.out ?_); rfl; rfl; rfl; rfl)
  refine (G1.out _).mono ?_
  rintro x w1 ⟨rfl, hB1⟩
  have hb1 := hb0.below hB1
  go_wp2_with ((with_reducible refine wpList_loadB (o := ⟨some 16, _, _, _, _, _⟩) ?_ 23 (.tmp 2) ?_ ?_ hb1 Try.underlying23 ?_ H5.out ?_); rfl; rfl; rfl; rfl)
  refine (G2.out _).mono ?_
  rintro x w2 ⟨rfl, hB2⟩
  go_wp2_with fail
  refine (bits_any _).mono ?_
  rintro x w3 ⟨rfl, hB3⟩
  go_wp2_with fail
  go_ret
  exact Yes4.mk (Bt (Bt (Bt hB0 hB1) hB2) hB3)
end Go.Proofs.Ytgfahgmjmiapiaa
