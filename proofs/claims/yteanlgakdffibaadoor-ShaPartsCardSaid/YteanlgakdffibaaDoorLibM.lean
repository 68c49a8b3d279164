/-
  A constant's row marked where it lies (not just behind its making).
-/
import Derived.Test.YteanlgakdffibaaDoorLaw02A
namespace Go.Proofs.YteanlgakdffibaaDoor
open Go.RowKit

theorem run_convert_marks (W : World) (g : Nat) (C : Array Value) (n c : Nat) (hg : W.heap[g]? = some (.cells C 5 (0, 0))) :
    ∃ W', (convert 26 26 (.slice (some ⟨g, 0, none⟩) n c)).run Tryd.prog W = .ok (.slice (some ⟨g, 0, none⟩) n c) W' ∧ W'.heap[g]? = some (.cells C 5 (C.size, C.size + 1)) ∧ W.grownBy W' (some g) ∧ W'.heap.size = W.heap.size := by
  have hsh : W.shape? g = some (5, C.size) := by
    unfold World.shape?
    rw [hg]
  refine ⟨W.freeze ⟨g, C.size, none⟩ 1, ?_, ?_, ?_, ?_⟩
  · simp [convert, run_underlying Tryd.underlying26, run_underlying Tryd.underlying5, markStringish, hsh]
  · unfold World.freeze
    rw [if_neg (by decide)]
    show (W.heap.modify g _)[g]? = _
    rw [Array.getElem?_modify, if_pos rfl, hg]
    rfl
  · unfold World.freeze
    rw [if_neg (by decide)]
    refine ⟨rfl, rfl, rfl, ?_, fun k hk hne => ?_⟩
    · show W.heap.size ≤ (W.heap.modify g _).size
      simp
    · show (W.heap.modify g _)[k]? = _
      rw [Array.getElem?_modify, if_neg (fun e => hne (by rw [e]))]
  · unfold World.freeze
    rw [if_neg (by decide)]
    show (W.heap.modify g _).size = _
    simp
end Go.Proofs.YteanlgakdffibaaDoor
