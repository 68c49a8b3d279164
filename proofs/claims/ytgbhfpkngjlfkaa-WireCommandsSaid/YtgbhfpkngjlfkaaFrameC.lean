/-
  Commands that come in by value.
-/
import Derived.Test.YtgbhfpkngjlfkaaFrameS
import Derived.Test.YtgbhfpkngjlfkaaWirV
namespace Go.Proofs.Ytgbhfpkngjlfkaa
open Go.ChangeShapes Go.WideShapes Go.RowKit
set_option maxRecDepth 100000

theorem cmF_f0 : (Try.prog.fieldsOf 26)[0]?.map (fun f => (f.type, f.offset)) = some (22, 0) := by kernel_rfl
theorem cmF_f1 : (Try.prog.fieldsOf 26)[1]?.map (fun f => (f.type, f.offset)) = some (3, 1) := by kernel_rfl
theorem cmF_f2 : (Try.prog.fieldsOf 26)[2]?.map (fun f => (f.type, f.offset)) = some (3, 2) := by kernel_rfl
theorem cmF_f3 : (Try.prog.fieldsOf 26)[3]?.map (fun f => (f.type, f.offset)) = some (9, 3) := by kernel_rfl
theorem cmF_f4 : (Try.prog.fieldsOf 26)[4]?.map (fun f => (f.type, f.offset)) = some (9, 4) := by kernel_rfl
theorem cmF_f5 : (Try.prog.fieldsOf 26)[5]?.map (fun f => (f.type, f.offset)) = some (3, 5) := by kernel_rfl
theorem cmF_f6 : (Try.prog.fieldsOf 26)[6]?.map (fun f => (f.type, f.offset)) = some (24, 6) := by kernel_rfl
theorem cmF_fs : (Try.prog.fieldsOf 26).size = 7 := by kernel_rfl
theorem cells_cmF : Try.prog.cellsOf 26 = 38 := by kernel_rfl
theorem cells_strF : Try.prog.cellsOf 9 = 1 := by kernel_rfl
theorem cells_kdF : Try.prog.cellsOf 22 = 1 := by kernel_rfl

theorem trod_command {H : Type} {enc : TypeId × Value → H} {W : World} {base : Nat} {spare : Nat → Bool} {held : Bool} {fuel : Nat} {cs : List Value} {x : DataW H × List MemPlace}
    (hf : DataW.trod enc Try.prog W base spare held fuel 26 cs = some x) : ∃ y : Cm, y.ok ∧ cs = cmc y := by
  obtain ⟨xs, n, rfl, rfl, hl, hlen, hfs⟩ := DataW.trod_struct cm_under hf
  rw [cells_cmF] at hl
  rw [cmF_fs] at hlen
  have get : ∀ k t o, (Try.prog.fieldsOf 26)[k]?.map (fun f => (f.type, f.offset)) = some (t, o) → k < 7 → ∃ y, DataW.trod enc Try.prog W base spare held n t ((cs.drop o).take (Try.prog.cellsOf t)) = some y := by
    intro k t o hk hk2
    obtain ⟨f, hfk, hfe⟩ := Option.map_eq_some_iff.1 hk
    have h := hfs k f hfk
    rw [(Prod.mk.inj hfe).1, (Prod.mk.inj hfe).2] at h
    obtain ⟨y, hy⟩ : ∃ y, xs[k]? = some y := ⟨xs[k], by simp [hlen, hk2]⟩
    exact ⟨y, by rw [h, hy]⟩
  obtain ⟨_, g0⟩ := get 0 _ 0 cmF_f0 (by decide)
  obtain ⟨_, g1⟩ := get 1 _ 1 cmF_f1 (by decide)
  obtain ⟨_, g2⟩ := get 2 _ 2 cmF_f2 (by decide)
  obtain ⟨_, g3⟩ := get 3 _ 3 cmF_f3 (by decide)
  obtain ⟨_, g4⟩ := get 4 _ 4 cmF_f4 (by decide)
  obtain ⟨_, g5⟩ := get 5 _ 5 cmF_f5 (by decide)
  obtain ⟨_, g6⟩ := get 6 _ 6 cmF_f6 (by decide)
  obtain ⟨v0, e0, _⟩ := DataW.trod_int Try.underlying22 g0
  rw [cells_kdF] at e0
  obtain ⟨v1, e1, _⟩ := DataW.trod_int Try.underlying3 g1
  rw [cells_intF] at e1
  obtain ⟨v2, e2, _⟩ := DataW.trod_int Try.underlying3 g2
  rw [cells_intF] at e2
  obtain ⟨v3, e3, _⟩ := DataW.trod_string Try.underlying9 g3
  rw [cells_strF] at e3
  obtain ⟨v4, e4, _⟩ := DataW.trod_string Try.underlying9 g4
  rw [cells_strF] at e4
  obtain ⟨v5, e5, _⟩ := DataW.trod_int Try.underlying3 g5
  rw [cells_intF] at e5
  obtain ⟨d, e6, hd⟩ := trodS_digest g6
  rw [cells_digest] at e6
  refine ⟨⟨v0, v1, v2, v3, v4, v5, d⟩, hd, ?_⟩
  have s6 : (cs.drop 6).take 32 = cs.drop 6 := List.take_of_length_le (by rw [List.length_drop]; omega)
  rw [s6] at e6
  have t5 : cs.drop 5 = .int .i64 v5 :: bs d := by
    rw [← List.take_append_drop 1 (cs.drop 5), e5, List.drop_drop, e6]
    rfl
  have t4 : cs.drop 4 = .string v4 :: .int .i64 v5 :: bs d := by
    rw [← List.take_append_drop 1 (cs.drop 4), e4, List.drop_drop, t5]
    rfl
  have t3 : cs.drop 3 = .string v3 :: .string v4 :: .int .i64 v5 :: bs d := by
    rw [← List.take_append_drop 1 (cs.drop 3), e3, List.drop_drop, t4]
    rfl
  have t2 : cs.drop 2 = .int .i64 v2 :: .string v3 :: .string v4 :: .int .i64 v5 :: bs d := by
    rw [← List.take_append_drop 1 (cs.drop 2), e2, List.drop_drop, t3]
    rfl
  have t1 : cs.drop 1 = .int .i64 v1 :: .int .i64 v2 :: .string v3 :: .string v4 :: .int .i64 v5 :: bs d := by
    rw [← List.take_append_drop 1 (cs.drop 1), e1, List.drop_drop, t2]
    rfl
  have t0 : cs.drop 0 = .int .i64 v0 :: .int .i64 v1 :: .int .i64 v2 :: .string v3 :: .string v4 :: .int .i64 v5 :: bs d := by
    rw [← List.take_append_drop 1 (cs.drop 0), e0, List.drop_drop, t1]
    rfl
  rw [← List.drop_zero (l := cs), t0]
  rfl

/-- a command that came in by value -/
theorem open_command {H : Type} {enc : TypeId × Value → H} {W : World} {v : Value} {d : DataW H} {p : List MemPlace} {r : Reach} {b0 : Nat} (hval : Value.okWide Try.prog W r b0 26 v)
    (h : DataW.Trod enc Try.prog W 0 (fun _ => true) true 26 v d p) : ∃ y : Cm, v = .agg (cmc y).toArray ∧ y.ok := by
  obtain ⟨cs, rfl, _⟩ := okWide_struct cm_under hval
  obtain ⟨fuel, hf⟩ := h
  obtain ⟨y, hy, he⟩ := trod_command hf
  simp only [Value.cells] at he
  exact ⟨y, by rw [← he], hy⟩
end Go.Proofs.Ytgbhfpkngjlfkaa
