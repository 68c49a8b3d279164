/-
  Signed heads that come in by value.
-/
import Derived.Test.YtgbhfpkngjlfkaaFrame
import Derived.Test.YtgbhfpkngjlfkaaWirL
import Derived.DataElems
namespace Go.Proofs.Ytgbhfpkngjlfkaa
open Go.ChangeShapes Go.WideShapes Go.RowKit
set_option maxRecDepth 100000

theorem trodS_digest {H : Type} {enc : TypeId × Value → H} {W : World} {base : Nat} {spare : Nat → Bool} {held : Bool} {fuel : Nat} {cs : List Value} {x : DataW H × List MemPlace}
    (hf : DataW.trod enc Try.prog W base spare held fuel 24 cs = some x) : ∃ ds : List UInt8, cs = bs ds ∧ ds.length = 32 := by
  obtain ⟨xs, m, rfl, hx, hl, hxl, hel⟩ := DataW.trod_array Try.underlying24 hf
  rw [cells_digest] at hl
  have key : ∀ v ∈ cs, ∃ n : Int, v = .int .u8 n ∧ 0 ≤ n ∧ n < 256 := by
    intro v hv
    obtain ⟨i, hi, rfl⟩ := List.getElem_of_mem hv
    have hi' : i < 32 := by omega
    have he := hel i hi'
    rw [cells_u8] at he
    obtain ⟨y, hy⟩ : ∃ y, xs[i]? = some y := ⟨xs[i], by simp [hxl, hi']⟩
    rw [hy] at he
    obtain ⟨n, hn, _, hw⟩ := DataW.trod_int Try.underlying5 he
    refine ⟨n, ?_, wf_u8 hw⟩
    have hd : (cs.drop (i * 1)).take 1 = [cs[i]] := by
      simp only [Nat.mul_one]
      rw [List.drop_eq_getElem_cons hi]
      rfl
    rw [hd] at hn
    simpa using hn
  obtain ⟨ds, hds⟩ := bytes_of_cells _ key
  refine ⟨ds, hds, ?_⟩
  have := congrArg List.length hds
  simp [bs_length, hl] at this
  omega

theorem hdF_f0 : (Try.prog.fieldsOf 52)[0]?.map (fun f => (f.type, f.offset)) = some (3, 0) := by kernel_rfl
theorem hdF_f1 : (Try.prog.fieldsOf 52)[1]?.map (fun f => (f.type, f.offset)) = some (24, 1) := by kernel_rfl
theorem hdF_f2 : (Try.prog.fieldsOf 52)[2]?.map (fun f => (f.type, f.offset)) = some (24, 33) := by kernel_rfl
theorem hdF_fs : (Try.prog.fieldsOf 52).size = 3 := by kernel_rfl
theorem cells_hdF : Try.prog.cellsOf 52 = 65 := by kernel_rfl
theorem cells_intF : Try.prog.cellsOf 3 = 1 := by kernel_rfl

theorem trod_head {H : Type} {enc : TypeId × Value → H} {W : World} {base : Nat} {spare : Nat → Bool} {held : Bool} {fuel : Nat} {cs : List Value} {x : DataW H × List MemPlace}
    (hf : DataW.trod enc Try.prog W base spare held fuel 52 cs = some x) : ∃ y : Hd, y.ok ∧ cs = hdc y := by
  obtain ⟨xs, n, rfl, rfl, hl, hlen, hfs⟩ := DataW.trod_struct head_under hf
  rw [cells_hdF] at hl
  rw [hdF_fs] at hlen
  have get : ∀ k t o, (Try.prog.fieldsOf 52)[k]?.map (fun f => (f.type, f.offset)) = some (t, o) → k < 3 → ∃ y, DataW.trod enc Try.prog W base spare held n t ((cs.drop o).take (Try.prog.cellsOf t)) = some y := by
    intro k t o hk hk2
    obtain ⟨f, hfk, hfe⟩ := Option.map_eq_some_iff.1 hk
    have h := hfs k f hfk
    rw [(Prod.mk.inj hfe).1, (Prod.mk.inj hfe).2] at h
    obtain ⟨y, hy⟩ : ∃ y, xs[k]? = some y := ⟨xs[k], by simp [hlen, hk2]⟩
    exact ⟨y, by rw [h, hy]⟩
  obtain ⟨_, g0⟩ := get 0 _ 0 hdF_f0 (by decide)
  obtain ⟨_, g1⟩ := get 1 _ 1 hdF_f1 (by decide)
  obtain ⟨_, g2⟩ := get 2 _ 33 hdF_f2 (by decide)
  obtain ⟨m, e0, _⟩ := DataW.trod_int Try.underlying3 g0
  obtain ⟨p, e1, hp⟩ := trodS_digest g1
  obtain ⟨q, e2, hq⟩ := trodS_digest g2
  rw [cells_intF] at e0
  rw [cells_digest] at e1 e2
  refine ⟨⟨m, p, q⟩, ⟨hp, hq⟩, ?_⟩
  have s2 : (cs.drop 33).take 32 = cs.drop 33 := List.take_of_length_le (by rw [List.length_drop]; omega)
  rw [s2] at e2
  have t1 : cs.drop 1 = bs p ++ bs q := by
    rw [← List.take_append_drop 32 (cs.drop 1), e1, List.drop_drop, e2]
  rw [← List.take_append_drop 1 cs, ← List.drop_zero (l := cs), e0, List.drop_zero, t1]
  rfl

theorem sgF_f0 : (Try.prog.fieldsOf 54)[0]?.map (fun f => (f.type, f.offset)) = some (52, 0) := by kernel_rfl
theorem sgF_f1 : (Try.prog.fieldsOf 54)[1]?.map (fun f => (f.type, f.offset)) = some (24, 65) := by kernel_rfl
theorem sgF_fs : (Try.prog.fieldsOf 54).size = 2 := by kernel_rfl
theorem cells_sgF : Try.prog.cellsOf 54 = 97 := by kernel_rfl

theorem trod_signed {H : Type} {enc : TypeId × Value → H} {W : World} {base : Nat} {spare : Nat → Bool} {held : Bool} {fuel : Nat} {cs : List Value} {x : DataW H × List MemPlace}
    (hf : DataW.trod enc Try.prog W base spare held fuel 54 cs = some x) : ∃ y : Sg, y.ok ∧ cs = sgc y := by
  obtain ⟨xs, n, rfl, rfl, hl, hlen, hfs⟩ := DataW.trod_struct sig_under hf
  rw [cells_sgF] at hl
  rw [sgF_fs] at hlen
  have get : ∀ k t o, (Try.prog.fieldsOf 54)[k]?.map (fun f => (f.type, f.offset)) = some (t, o) → k < 2 → ∃ y, DataW.trod enc Try.prog W base spare held n t ((cs.drop o).take (Try.prog.cellsOf t)) = some y := by
    intro k t o hk hk2
    obtain ⟨f, hfk, hfe⟩ := Option.map_eq_some_iff.1 hk
    have h := hfs k f hfk
    rw [(Prod.mk.inj hfe).1, (Prod.mk.inj hfe).2] at h
    obtain ⟨y, hy⟩ : ∃ y, xs[k]? = some y := ⟨xs[k], by simp [hlen, hk2]⟩
    exact ⟨y, by rw [h, hy]⟩
  obtain ⟨_, g0⟩ := get 0 _ 0 sgF_f0 (by decide)
  obtain ⟨_, g1⟩ := get 1 _ 65 sgF_f1 (by decide)
  obtain ⟨h, hh, e0⟩ := trod_head g0
  obtain ⟨p, e1, hp⟩ := trodS_digest g1
  rw [cells_hdF] at e0
  rw [cells_digest] at e1
  refine ⟨⟨h, p⟩, ⟨hh, hp⟩, ?_⟩
  have s2 : (cs.drop 65).take 32 = cs.drop 65 := List.take_of_length_le (by rw [List.length_drop]; omega)
  rw [s2] at e1
  rw [List.drop_zero] at e0
  rw [← List.take_append_drop 65 cs, e0, e1]
  rfl

/-- a signed head that came in by value -/
theorem open_signed {H : Type} {enc : TypeId × Value → H} {W : World} {v : Value} {d : DataW H} {p : List MemPlace} {r : Reach} {b0 : Nat} (hval : Value.okWide Try.prog W r b0 54 v)
    (h : DataW.Trod enc Try.prog W 0 (fun _ => true) true 54 v d p) : ∃ y : Sg, v = .agg (sgc y).toArray ∧ y.ok := by
  obtain ⟨cs, rfl, _⟩ := okWide_struct sig_under hval
  obtain ⟨fuel, hf⟩ := h
  obtain ⟨y, hy, he⟩ := trod_signed hf
  simp only [Value.cells] at he
  exact ⟨y, by rw [← he], hy⟩
end Go.Proofs.Ytgbhfpkngjlfkaa
