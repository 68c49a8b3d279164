/-
  The reference's table held against what the primes give.
-/
import Derived.Test.YtlfknhdiphkbcaaDoorRef02E
namespace Go.Proofs.YtlfknhdiphkbcaaDoor
open Go.RowKit
set_option maxRecDepth 100000 in
set_option maxHeartbeats 1000000 in
theorem same_any (w : World) (hK : Tab w 0) :
    Calls Tryd.prog 13 #[] w fun e w' => e = .returned (.bool true) ∧ Below w.heap.size w w' := by
  have HEQ := Lib.hid (fun W => keys_eq W)
  have hi1 := Lib.hid (show (Tryd.prog.info? 49).map (·.size) = some (ns .u32 ks).length by rw [ns_length, show ks.length = 64 by decide]; kernel_rfl)
  have HKA := Lib.hid (fun W => keys_any W)
  have hKw := hK
  clear hK
  unfold Tab at hKw
  generalize ns .u32 ks = kv at *
  go_enter Tryd.func13, Tryd.ntmps13
  go_wp2_with fail
  refine wp_region_any (by kernel_rfl) ?_
  change wpAny _ _ _ _ _ _ _ (World.drew _)
  have hKd : w.drew.rangeAt 0 0 kv := hKw
  refine wpAny_ready (rs := [0, 1]) (by kernel_rfl) (by simp) ?_
  refine AllReady.cons (o := ⟨some 1, .call { callee := .value (.func 25), args := #[], argTypes := #[] }, _, _, _, none⟩) rfl (fun K hK => ?_) (AllReady.cons (o := ⟨some 2, .load 49 (.global 0), _, _, _, none⟩) rfl (fun K hK => ?_) AllReady.nil)
  · refine step_call rfl ?_
    go_simp
    refine (HKA.out _).mono ?_
    rintro e w1 ⟨rfl, hB1⟩
    have hB : Below w.heap.size w w1 := ⟨hB1.os, hB1.tape, hB1.output, hB1.size, hB1.block⟩
    have hr1 : w1.rangeAt 0 0 kv := fun j v hv => cell_later hB (hKd j v hv)
    refine hK _ _ ?_
    clear hK K
    refine wpAny_ready (rs := [1]) (by kernel_rfl) (by simp) ?_
    refine AllReady.cons (o := ⟨some 2, .load 49 (.global 0), _, _, _, none⟩) rfl (fun K hK => ?_) AllReady.nil
    refine step_loadM 0 0 49 (.global 0) _ _ hr1 Tryd.underlying49 hi1.out rfl rfl (by kernel_rfl) rfl ?_
    refine hK _ _ ?_
    clear hK K
    refine wpAny_take (i := 2) (v := .bool true) rfl (by kernel_rfl) (by kernel_rfl) (by kernel_rfl) (fun _ _ _ h => h) (Or.inl ⟨by rfl, ?_⟩) ?_
    · intro w
      have h := HEQ.out w
      go_simp
    refine wpAny_take (i := 3) (v := .bool true) rfl (by kernel_rfl) (by kernel_rfl) (by kernel_rfl) (fun _ _ _ h => h) (Or.inl ⟨by rfl, ?_⟩) ?_
    · intro w
      go_simp
    generalize hX : Act.put _ _ _ = X
    simp [Act.put] at hX
    subst hX
    refine wpAny_done (by kernel_rfl) ?_ _
    go_wp2_with fail
    go_ret
    exact ⟨rfl, hB⟩
  · refine step_loadM 0 0 49 (.global 0) _ _ hKd Tryd.underlying49 hi1.out rfl rfl (by kernel_rfl) rfl ?_
    refine hK _ _ ?_
    clear hK K
    refine wpAny_ready (rs := [0]) (by kernel_rfl) (by simp) ?_
    refine AllReady.cons (o := ⟨some 1, .call { callee := .value (.func 25), args := #[], argTypes := #[] }, _, _, _, none⟩) rfl (fun K hK => ?_) AllReady.nil
    refine step_call rfl ?_
    go_simp
    refine (HKA.out _).mono ?_
    rintro e w1 ⟨rfl, hB1⟩
    have hB : Below w.heap.size w w1 := ⟨hB1.os, hB1.tape, hB1.output, hB1.size, hB1.block⟩
    refine hK _ _ ?_
    clear hK K
    refine wpAny_take (i := 2) (v := .bool true) rfl (by kernel_rfl) (by kernel_rfl) (by kernel_rfl) (fun _ _ _ h => h) (Or.inl ⟨by rfl, ?_⟩) ?_
    · intro w
      have h := HEQ.out w
      go_simp
    refine wpAny_take (i := 3) (v := .bool true) rfl (by kernel_rfl) (by kernel_rfl) (by kernel_rfl) (fun _ _ _ h => h) (Or.inl ⟨by rfl, ?_⟩) ?_
    · intro w
      go_simp
    generalize hX : Act.put _ _ _ = X
    simp [Act.put] at hX
    subst hX
    refine wpAny_done (by kernel_rfl) ?_ _
    go_wp2_with fail
    go_ret
    exact ⟨rfl, hB⟩
end Go.Proofs.YtlfknhdiphkbcaaDoor
