/-
  Proofs and claims that come in.
-/
import Derived.Test.YtgbhfpkngjlfkaaDoorFrameD
import Derived.Test.YtgbhfpkngjlfkaaDoorPrfC
import Derived.DataElems
namespace Go.Proofs.YtgbhfpkngjlfkaaDoor
open Go.ChangeShapes Go.WideShapes Go.RowKit
set_option maxRecDepth 100000

theorem proof_f0 : (Tryd.prog.fieldsOf 28)[0]?.map (fun f => (f.type, f.offset)) = some (26, 0) := by kernel_rfl
theorem proof_f1 : (Tryd.prog.fieldsOf 28)[1]?.map (fun f => (f.type, f.offset)) = some (4, 1) := by kernel_rfl
theorem proof_f2 : (Tryd.prog.fieldsOf 28)[2]?.map (fun f => (f.type, f.offset)) = some (23, 2) := by kernel_rfl
theorem proof_f3 : (Tryd.prog.fieldsOf 28)[3]?.map (fun f => (f.type, f.offset)) = some (23, 34) := by kernel_rfl
theorem proof_fs : (Tryd.prog.fieldsOf 28).size = 4 := by kernel_rfl
theorem cells_proof : Tryd.prog.cellsOf 28 = 66 := by kernel_rfl
theorem cells_digs : Tryd.prog.cellsOf 26 = 1 := by kernel_rfl
theorem cells_bool : Tryd.prog.cellsOf 4 = 1 := by kernel_rfl

/-- a proof that came in by value -/
theorem open_proof {H : Type} {enc : TypeId × Value → H} {W : World} {v : Value} {d : DataW H} {p : List MemPlace} {r : Reach} {b0 : Nat} (hval : Value.okWide Tryd.prog W r b0 28 v)
    (h : DataW.Trod enc Tryd.prog W 0 (fun _ => true) true 28 v d p) : ∃ a n c x, v = .agg (pc a n c x).toArray ∧ RdP6 W a n c x := by
  obtain ⟨cs, rfl, _⟩ := okWide_struct underP hval
  obtain ⟨fuel, hf⟩ := h
  obtain ⟨xs, n, rfl, -, hl, hlen, hfs⟩ := DataW.trod_struct underP hf
  rw [cells_proof] at hl
  rw [proof_fs] at hlen
  have get : ∀ k t o, (Tryd.prog.fieldsOf 28)[k]?.map (fun f => (f.type, f.offset)) = some (t, o) → k < 4 → ∃ y, DataW.trod enc Tryd.prog W 0 (fun _ => true) true n t (((Value.agg cs).cells.toList.drop o).take (Tryd.prog.cellsOf t)) = some y := by
    intro k t o hk hk2
    obtain ⟨f, hfk, hfe⟩ := Option.map_eq_some_iff.1 hk
    have h := hfs k f hfk
    rw [(Prod.mk.inj hfe).1, (Prod.mk.inj hfe).2] at h
    obtain ⟨y, hy⟩ : ∃ y, xs[k]? = some y := ⟨xs[k], by simp [hlen, hk2]⟩
    exact ⟨y, by rw [h, hy]⟩
  obtain ⟨_, g0⟩ := get 0 _ 0 proof_f0 (by decide)
  obtain ⟨_, g1⟩ := get 1 _ 1 proof_f1 (by decide)
  obtain ⟨_, g2⟩ := get 2 _ 2 proof_f2 (by decide)
  obtain ⟨_, g3⟩ := get 3 _ 34 proof_f3 (by decide)
  obtain ⟨a, m, c, l, e0, hr⟩ := trod_digs g0
  obtain ⟨o, e1, _⟩ := DataW.trod_bool Tryd.underlying4 g1
  obtain ⟨q, e2, hq⟩ := trodP_digest g2
  obtain ⟨u, e3, hu⟩ := trodP_digest g3
  rw [cells_digs] at e0
  rw [cells_bool] at e1
  rw [cells_digest] at e2 e3
  simp only [Value.cells] at e0 e1 e2 e3 hl
  refine ⟨a, m, c, ⟨l, o, q, u⟩, ?_, hr, hq, hu⟩
  congr 1
  apply Array.ext'
  show cs.toList = pc a m c ⟨l, o, q, u⟩
  have s3 : (cs.toList.drop 34).take 32 = cs.toList.drop 34 := List.take_of_length_le (by rw [List.length_drop]; omega)
  rw [s3] at e3
  have t2 : cs.toList.drop 2 = bs q ++ bs u := by
    rw [← List.take_append_drop 32 (cs.toList.drop 2), e2, List.drop_drop, e3]
  have t1 : cs.toList.drop 1 = .bool o :: (bs q ++ bs u) := by
    rw [← List.take_append_drop 1 (cs.toList.drop 1), e1, List.drop_drop, t2]
    rfl
  rw [← List.take_append_drop 1 cs.toList, ← List.drop_zero (l := cs.toList), e0, List.drop_zero, t1]
  rfl

theorem claimF_under : Tryd.prog.underlying 25 = some (.struct (Tryd.prog.fieldsOf 25)) := by kernel_rfl
theorem claim_f0 : (Tryd.prog.fieldsOf 25)[0]?.map (fun f => (f.type, f.offset)) = some (4, 0) := by kernel_rfl
theorem claim_f1 : (Tryd.prog.fieldsOf 25)[1]?.map (fun f => (f.type, f.offset)) = some (23, 1) := by kernel_rfl
theorem claim_fs : (Tryd.prog.fieldsOf 25).size = 2 := by kernel_rfl
theorem cells_claim : Tryd.prog.cellsOf 25 = 33 := by kernel_rfl

/-- a claim that came in by value -/
theorem open_claim {H : Type} {enc : TypeId × Value → H} {W : World} {v : Value} {d : DataW H} {p : List MemPlace} {r : Reach} {b0 : Nat} (hval : Value.okWide Tryd.prog W r b0 25 v)
    (h : DataW.Trod enc Tryd.prog W 0 (fun _ => true) true 25 v d p) : ∃ b l, v = .agg (clc b l).toArray ∧ l.length = 32 := by
  obtain ⟨cs, rfl, _⟩ := okWide_struct claimF_under hval
  obtain ⟨fuel, hf⟩ := h
  obtain ⟨xs, n, rfl, -, hl, hlen, hfs⟩ := DataW.trod_struct claimF_under hf
  rw [cells_claim] at hl
  rw [claim_fs] at hlen
  have get : ∀ k t o, (Tryd.prog.fieldsOf 25)[k]?.map (fun f => (f.type, f.offset)) = some (t, o) → k < 2 → ∃ y, DataW.trod enc Tryd.prog W 0 (fun _ => true) true n t (((Value.agg cs).cells.toList.drop o).take (Tryd.prog.cellsOf t)) = some y := by
    intro k t o hk hk2
    obtain ⟨f, hfk, hfe⟩ := Option.map_eq_some_iff.1 hk
    have h := hfs k f hfk
    rw [(Prod.mk.inj hfe).1, (Prod.mk.inj hfe).2] at h
    obtain ⟨y, hy⟩ : ∃ y, xs[k]? = some y := ⟨xs[k], by simp [hlen, hk2]⟩
    exact ⟨y, by rw [h, hy]⟩
  obtain ⟨_, g1⟩ := get 0 _ 0 claim_f0 (by decide)
  obtain ⟨_, g2⟩ := get 1 _ 1 claim_f1 (by decide)
  obtain ⟨o, e1, _⟩ := DataW.trod_bool Tryd.underlying4 g1
  obtain ⟨q, e2, hq⟩ := trodP_digest g2
  rw [cells_bool] at e1
  rw [cells_digest] at e2
  simp only [Value.cells] at e1 e2 hl
  refine ⟨o, q, ?_, hq⟩
  congr 1
  apply Array.ext'
  show cs.toList = clc o q
  have s3 : (cs.toList.drop 1).take 32 = cs.toList.drop 1 := List.take_of_length_le (by rw [List.length_drop]; omega)
  rw [s3] at e2
  rw [← List.take_append_drop 1 cs.toList, ← List.drop_zero (l := cs.toList), e1, List.drop_zero, e2]
  rfl

end Go.Proofs.YtgbhfpkngjlfkaaDoor
