/-
  WireCommands.
-/
import Derived.Test.YtoclahcibilbhaaGreatWirS
import Derived.Test.YtoclahcibilbhaaGreatWirL
import Derived.Shelf.Abstract
namespace Go.Proofs.YtoclahcibilbhaaGreat
open Go.RowKit
set_option maxRecDepth 100000

theorem loN_inv {m : Int} {o : Lo} (h : (loN m o).1 = 0) : o.1 = 0 ∧ 0 ≤ m ∧ m ≤ 2147483647 ∧ (loN m o).2 = o.2 ++ encC m.toNat := by
  unfold loN at h ⊢
  by_cases h0 : o.1 = 0
  · rw [if_neg (by simp [h0])] at h ⊢
    by_cases hm : 0 ≤ m ∧ m ≤ 2147483647
    · rw [if_pos hm]; exact ⟨h0, hm.1, hm.2, rfl⟩
    · rw [if_neg hm] at h; simp at h
  · rw [if_pos h0] at h; exact absurd h h0
theorem loT_inv {s : ByteArray} {o : Lo} (h : (loT s o).1 = 0) : o.1 = 0 ∧ s.size ≤ 65536 ∧ (loT s o).2 = o.2 ++ (encC s.size ++ s.data.toList) := by
  unfold loT at h ⊢
  by_cases h0 : o.1 = 0
  · rw [if_neg (by simp [h0])] at h ⊢
    by_cases hm : s.size ≤ 65536
    · rw [if_pos hm]; exact ⟨h0, hm, rfl⟩
    · rw [if_neg hm] at h; simp at h
  · rw [if_pos h0] at h; exact absurd h h0
theorem loD_inv {d : List UInt8} {o : Lo} (h : (loD d o).1 = 0) : o.1 = 0 ∧ (loD d o).2 = o.2 ++ d := by
  unfold loD at h ⊢
  by_cases h0 : o.1 = 0
  · rw [if_neg (by simp [h0])]; exact ⟨h0, rfl⟩
  · rw [if_pos h0] at h; exact absurd h h0
theorem str_list (s : ByteArray) : str s.data.toList = s := by
  simp [str]
theorem gT_enc (s : ByteArray) (t : List UInt8) (h : s.size ≤ 65536) : gT (encC s.size ++ (s.data.toList ++ t)) = some (s, t) := by
  have hs : s.data.toList.length = s.size := rfl
  have := rdB_enc s.data.toList t (by rw [hs]; exact h)
  rw [hs, List.append_assoc] at this
  unfold gT
  rw [this]
  simp only [if_true]
  rw [str_list, ← hs, ← List.append_assoc, List.drop_left' (by simp)]
theorem gCm_lo (x : Cm) (hx : x.ok) (h : (loC x (0, [])).1 = 0) : gCm (loC x (0, [])).2 = (x, 0) := by
  unfold loC at h ⊢
  obtain ⟨h6, e6⟩ := loD_inv h
  obtain ⟨h5, a5, b5, e5⟩ := loN_inv h6
  obtain ⟨h4, a4, e4⟩ := loT_inv h5
  obtain ⟨h3, a3, e3⟩ := loT_inv h4
  obtain ⟨h2, a2, b2, e2⟩ := loN_inv h3
  obtain ⟨h1, a1, b1, e1⟩ := loN_inv h2
  obtain ⟨h0, a0, b0, e0⟩ := loN_inv h1
  rw [e6, e5, e4, e3, e2, e1, e0]
  rw [show x.root = x.root ++ [] by simp]
  simp only [List.nil_append, List.append_assoc]
  unfold gCm gC
  rw [gN_enc _ _ a0 b0]; simp only [Option.bind_some]
  rw [gN_enc _ _ a1 b1]; simp only [Option.bind_some]
  rw [gN_enc _ _ a2 b2]; simp only [Option.bind_some]
  rw [gT_enc _ _ a3]; simp only [Option.bind_some]
  rw [gT_enc _ _ a4]; simp only [Option.bind_some]
  rw [gN_enc _ _ a5 b5]; simp only [Option.bind_some]
  rw [gD_app _ _ hx]; simp only [Option.bind_some]

theorem cm_fields : (Tryz.prog.fieldsOf 27).toList.map (fun f => (f.name, f.type, f.offset)) = [("Kind", 23, 0), ("Client", 3, 1), ("Seq", 3, 2), ("User", 9, 3), ("Key", 9, 4), ("Epoch", 3, 5), ("Root", 25, 6)] := by kernel_rfl
theorem cm_under : Tryz.prog.underlying 27 = some (.struct (Tryz.prog.fieldsOf 27)) := by kernel_rfl
theorem cm_free : Tryz.prog.stoodInHeld 27 = false := by kernel_rfl
theorem partX (t : TypeId) (w : World) (hagg : (isAgg t).run Tryz.prog w = .ok false w) (cs : List Value) (o : Nat) (v : Value) (hv : cs[o]? = some v) : (part t cs.toArray o).run Tryz.prog w = .ok v w := by
  simp [part, hagg, hv]
theorem cm_root {x : Cm} (h : x.ok) : (cmc x).toArray.extract 6 (6 + 32) = (bs x.root).toArray := by
  have hv : List.take 32 (bs x.root) = bs x.root := List.take_of_length_le (by simp [bs_length, show x.root.length = 32 from h])
  simp [cmc, hv]
theorem eqCm (w : World) (x : Cm) (h : x.ok) : (binOp .eql 27 (.agg (cmc x).toArray) (.agg (cmc x).toArray)).run Tryz.prog w = .ok (.bool true) w := by
  have hin : (Op.equalIn 10000 27 (.agg (cmc x).toArray) (.agg (cmc x).toArray)).run Tryz.prog w = .ok true w := by
    rw [run_equalIn_struct (P := Tryz.prog) w 9999 27 _ _ cm_under cm_free]
    have hf := cm_fields
    generalize (Tryz.prog.fieldsOf 27).toList = fs at hf
    have hlen : fs.length = 7 := by have := congrArg List.length hf; simpa using this
    obtain ⟨f0, f1, f2, f3, f4, f5, f6, rfl⟩ : ∃ f0 f1 f2 f3 f4 f5 f6, fs = [f0, f1, f2, f3, f4, f5, f6] := by
      match fs, hlen with
      | [f0, f1, f2, f3, f4, f5, f6], _ => exact ⟨f0, f1, f2, f3, f4, f5, f6, rfl⟩
    simp only [List.map_cons, List.map_nil, List.cons.injEq, Prod.mk.injEq, and_true] at hf
    obtain ⟨⟨a0, b0, c0⟩, ⟨a1, b1, c1⟩, ⟨a2, b2, c2⟩, ⟨a3, b3, c3⟩, ⟨a4, b4, c4⟩, ⟨a5, b5, c5⟩, a6, b6, c6⟩ := hf
    have e0 : (Op.equalIn 9999 23 (.int .i64 x.kd) (.int .i64 x.kd)).run Tryz.prog w = .ok (x.kd == x.kd) w := run_equalIn_int w _ _ _ _ _ _ Tryz.underlying23
    have e1 : ∀ n : Int, (Op.equalIn 9999 3 (.int .i64 n) (.int .i64 n)).run Tryz.prog w = .ok (n == n) w := fun n => run_equalIn_int w _ _ _ _ _ _ Tryz.underlying3
    have e2 : ∀ s : ByteArray, (Op.equalIn 9999 9 (.string s) (.string s)).run Tryz.prog w = .ok (s.toList == s.toList) w := fun s => run_equalIn_string w _ _ _ _ Tryz.underlying9
    have e3 : (Op.equalIn 9999 25 (.agg (bs x.root).toArray) (.agg (bs x.root).toArray)).run Tryz.prog w = .ok (x.root == x.root) w :=
      run_equalIn_bytes (P := Tryz.prog) w 9997 25 5 32 Tryz.underlying25 Tryz.underlying5 sizeU8 x.root x.root h h
    have p0 := partX 23 w (run_isAgg_plain (P := Tryz.prog) Tryz.underlying23 rfl w) (cmc x) 0 (.int .i64 x.kd) rfl
    have p1 := partX 3 w (run_isAgg_plain (P := Tryz.prog) Tryz.underlying3 rfl w) (cmc x) 1 (.int .i64 x.cl) rfl
    have p2 := partX 3 w (run_isAgg_plain (P := Tryz.prog) Tryz.underlying3 rfl w) (cmc x) 2 (.int .i64 x.sq) rfl
    have p3 := partX 9 w (run_isAgg_plain (P := Tryz.prog) Tryz.underlying9 rfl w) (cmc x) 3 (.string x.us) rfl
    have p4 := partX 9 w (run_isAgg_plain (P := Tryz.prog) Tryz.underlying9 rfl w) (cmc x) 4 (.string x.ky) rfl
    have p5 := partX 3 w (run_isAgg_plain (P := Tryz.prog) Tryz.underlying3 rfl w) (cmc x) 5 (.int .i64 x.ep) rfl
    unfold Op.eqFields
    rw [a0, b0, c0, if_pos (by decide)]
    simp only [Sem.run_bind, p0, Result.andThen_ok, e0, beq_self_eq_true, Bool.not_true, Bool.false_eq_true, if_false]
    unfold Op.eqFields
    rw [a1, b1, c1, if_pos (by decide)]
    simp only [Sem.run_bind, p1, Result.andThen_ok, e1, beq_self_eq_true, Bool.not_true, Bool.false_eq_true, if_false]
    unfold Op.eqFields
    rw [a2, b2, c2, if_pos (by decide)]
    simp only [Sem.run_bind, p2, Result.andThen_ok, e1, beq_self_eq_true, Bool.not_true, Bool.false_eq_true, if_false]
    unfold Op.eqFields
    rw [a3, b3, c3, if_pos (by decide)]
    simp only [Sem.run_bind, p3, Result.andThen_ok, e2, beq_self_eq_true, Bool.not_true, Bool.false_eq_true, if_false]
    unfold Op.eqFields
    rw [a4, b4, c4, if_pos (by decide)]
    simp only [Sem.run_bind, p4, Result.andThen_ok, e2, beq_self_eq_true, Bool.not_true, Bool.false_eq_true, if_false]
    unfold Op.eqFields
    rw [a5, b5, c5, if_pos (by decide)]
    simp only [Sem.run_bind, p5, Result.andThen_ok, e1, beq_self_eq_true, Bool.not_true, Bool.false_eq_true, if_false]
    unfold Op.eqFields
    rw [a6, b6, c6, if_pos (by decide)]
    simp only [Sem.run_bind, partD, Result.andThen_ok, cm_root h, e3, beq_self_eq_true]
    simp [Op.eqFields]
  rw [run_eql_struct, hin]
  rfl

end Go.Proofs.YtoclahcibilbhaaGreat
