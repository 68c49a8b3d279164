/-
  Heads and signed heads: their cells, rows of them, their equality.
-/
import Derived.Test.YtoclahcibilbhaaDoorLibD
import Derived.Test.YtoclahcibilbhaaDoorLibR
import Derived.Laws.StructEq
import Derived.Laws.Small
namespace Go.Proofs.YtoclahcibilbhaaDoor
open Go.RowKit
set_option maxRecDepth 100000

theorem range_sub {w : World} {X off k : Nat} {cs cs' : List Value} (h : w.rangeAt X off cs) (hk : ∀ j, j < cs'.length → cs[k + j]? = cs'[j]?) : w.rangeAt X (off + k) cs' := fun j v hv => by
  have := h (k + j) v (by rw [hk j (List.getElem?_eq_some_iff.1 hv).1]; exact hv)
  rwa [← Nat.add_assoc] at this
theorem range_cell {w : World} {X off : Nat} {cs : List Value} (h : w.rangeAt X off cs) (j : Nat) {v : Value} (hj : cs[j]? = some v) : w.cell? ⟨X, off + j, none⟩ = some v := h j v hj
theorem range_part {w : World} {X off : Nat} {cs : List Value} (h : w.rangeAt X off cs) : ∀ j v, cs[j]? = some v → w.cell? ⟨X, off + j, none⟩ = some v := h
def Part (vs : List Value) (off : Nat) (cs : List Value) : Prop := ∀ j, j < cs.length → vs[off + j]? = cs[j]?
structure Hd where
  ep : Int
  root : List UInt8
  prev : List UInt8
def Hd.ok (x : Hd) : Prop := x.root.length = 32 ∧ x.prev.length = 32
def hdc (x : Hd) : List Value := .int .i64 x.ep :: (bs x.root ++ bs x.prev)
theorem hdc_length {x : Hd} (h : x.ok) : (hdc x).length = 65 := by simp [hdc, bs_length, h.1, h.2]
theorem Part.hd0 {vs : List Value} {off : Nat} {x : Hd} (h : Part vs off (hdc x)) : vs[off]? = some (.int .i64 x.ep) := by
  have := h 0 (by simp [hdc]); simpa [hdc] using this
theorem Part.hd1 {vs : List Value} {off : Nat} {x : Hd} (h : Part vs off (hdc x)) (ho : x.ok) : Part vs (off + 1) (bs x.root) := by
  intro j hj
  have hj' : j < 32 := by rw [bs_length, ho.1] at hj; exact hj
  have := h (1 + j) (by rw [hdc_length ho]; omega)
  rw [show off + 1 + j = off + (1 + j) by omega, this]
  simp only [hdc, Nat.add_comm 1 j, List.getElem?_cons_succ]
  rw [List.getElem?_append_left hj]
theorem Part.hd2 {vs : List Value} {off : Nat} {x : Hd} (h : Part vs off (hdc x)) (ho : x.ok) : Part vs (off + 33) (bs x.prev) := by
  intro j hj
  have hj' : j < 32 := by rw [bs_length, ho.2] at hj; exact hj
  have := h (33 + j) (by rw [hdc_length ho]; omega)
  rw [show off + 33 + j = off + (33 + j) by omega, this]
  simp only [hdc, show 33 + j = (32 + j) + 1 by omega, List.getElem?_cons_succ]
  rw [List.getElem?_append_right (by rw [bs_length, ho.1]; omega), bs_length, ho.1]
  congr 1; omega
structure Sg where
  hd : Hd
  sign : List UInt8
def Sg.ok (x : Sg) : Prop := x.hd.ok ∧ x.sign.length = 32
def sgc (x : Sg) : List Value := hdc x.hd ++ bs x.sign
theorem sgc_length {x : Sg} (h : x.ok) : (sgc x).length = 97 := by simp [sgc, bs_length, hdc_length h.1, h.2]
theorem Part.sg0 {vs : List Value} {off : Nat} {x : Sg} (h : Part vs off (sgc x)) : Part vs off (hdc x.hd) := by
  intro j hj
  rw [h j (by simp [sgc]; omega), sgc, List.getElem?_append_left hj]
theorem Part.sg1 {vs : List Value} {off : Nat} {x : Sg} (h : Part vs off (sgc x)) (ho : x.ok) : Part vs (off + 65) (bs x.sign) := by
  intro j hj
  have hj' : j < 32 := by rw [bs_length, ho.2] at hj; exact hj
  have := h (65 + j) (by rw [sgc_length ho]; omega)
  rw [show off + 65 + j = off + (65 + j) by omega, this, sgc, List.getElem?_append_right (by rw [hdc_length ho.1]; omega), hdc_length ho.1]
  congr 1; omega
def hd0 : Hd := ⟨0, zero32, zero32⟩
theorem hd0_ok : hd0.ok := ⟨zero32_length, zero32_length⟩
theorem hdc_one (x : Hd) : ∀ v ∈ hdc x, v.oneCell' = true := by
  intro v hv
  rcases List.mem_cons.1 hv with rfl | h
  · rfl
  · rcases List.mem_append.1 h with h | h
    · exact bs_one _ v h
    · exact bs_one _ v h
theorem one_app {A B : List Value} (h : ∀ v ∈ A, v.oneCell' = true) (k : ∀ v ∈ B, v.oneCell' = true) : ∀ v ∈ A ++ B, v.oneCell' = true := fun v hv => (List.mem_append.1 hv).elim (h v) (k v)
def sgz : Sg := ⟨hd0, zero32⟩
theorem sgz_ok : sgz.ok := ⟨hd0_ok, zero32_length⟩
theorem sgz_info : (Tryd.prog.info? 36).map (fun i => (i.zero, i.size)) = some (some (.agg (sgc sgz).toArray), 97) := by kernel_rfl
theorem info_signed : (Tryd.prog.info? 36).map (·.size) = some 97 := by kernel_rfl
theorem sgc_one (x : Sg) : ∀ v ∈ sgc x, v.oneCell' = true := (one_app (hdc_one _) (bs_one _))
theorem hd0_info0 : (Tryd.prog.info? 25).map (fun i => (i.zero, i.size)) = some (some (.agg (hdc hd0).toArray), 65) := by kernel_rfl
theorem info_head0 : (Tryd.prog.info? 25).map (·.size) = some 65 := by kernel_rfl
noncomputable def sgR : Row Sg where
  T := 36
  S := 44
  k := 97
  b := 104
  cs := sgc
  ok := Sg.ok
  x0 := sgz
  z := .agg (sgc sgz).toArray
  pos := by decide
  klt := by decide
  small := by decide
  len := fun _ h => sgc_length h
  one := sgc_one
  und := by kernel_rfl
  info := by kernel_rfl
  zc := by simp [Value.cells, sgc_length sgz_ok]
theorem partD (w : World) (cs : List Value) (o : Nat) : (part 23 cs.toArray o).run Tryd.prog w = .ok (.agg (cs.toArray.extract o (o + 32))) w := by
  have hagg : (isAgg 23).run Tryd.prog w = .ok true w := by
    unfold isAgg
    rw [Sem.run_bind, run_underlying Tryd.underlying23 w]
    rfl
  simp [part, hagg]
theorem partH (w : World) (cs : List Value) (o : Nat) : (part 25 cs.toArray o).run Tryd.prog w = .ok (.agg (cs.toArray.extract o (o + 65))) w := by
  have hagg : (isAgg 25).run Tryd.prog w = .ok true w := by
    unfold isAgg
    rw [Sem.run_bind, run_underlying Tryd.underlying25 w]
    rfl
  simp [part, hagg]
theorem partI (w : World) (v : Int) (cs : List Value) : (part 3 (Value.int .i64 v :: cs).toArray 0).run Tryd.prog w = .ok (.int .i64 v) w := by
  have hagg : (isAgg 3).run Tryd.prog w = .ok false w := by
    unfold isAgg
    rw [Sem.run_bind, run_underlying Tryd.underlying3 w]
    rfl
  simp [part, hagg]
theorem hd_root {x : Hd} (h : x.ok) : (hdc x).toArray.extract 1 (1 + 32) = (bs x.root).toArray := by
  have hl : (bs x.root).length = 32 := by rw [bs_length, h.1]
  simp [hdc, hl]
theorem hd_prev {x : Hd} (h : x.ok) : (hdc x).toArray.extract 33 (33 + 32) = (bs x.prev).toArray := by
  have hl : (bs x.root).length = 32 := by rw [bs_length, h.1]
  have hv : List.take 32 (bs x.prev) = bs x.prev := List.take_of_length_le (by simp [bs_length, h.2])
  simp [hdc, hl, hv]
theorem sg_hd {x : Sg} (h : x.ok) : (sgc x).toArray.extract 0 (0 + 65) = (hdc x.hd).toArray := by
  simp [sgc, hdc_length h.1]
theorem sg_sign {x : Sg} (h : x.ok) : (sgc x).toArray.extract 65 (65 + 32) = (bs x.sign).toArray := by
  have hv : List.take 32 (bs x.sign) = bs x.sign := List.take_of_length_le (by simp [bs_length, h.2])
  simp [sgc, hdc_length h.1, hv]
theorem head_fields : (Tryd.prog.fieldsOf 25).toList.map (fun f => (f.name, f.type, f.offset)) = [("Epoch", 3, 0), ("Root", 23, 1), ("Prev", 23, 33)] := by kernel_rfl
theorem head_under : Tryd.prog.underlying 25 = some (.struct (Tryd.prog.fieldsOf 25)) := by kernel_rfl
theorem head_free : Tryd.prog.stoodInHeld 25 = false := by kernel_rfl
theorem sig_fields : (Tryd.prog.fieldsOf 36).toList.map (fun f => (f.name, f.type, f.offset)) = [("Head", 25, 0), ("Sign", 23, 65)] := by kernel_rfl
theorem sig_under : Tryd.prog.underlying 36 = some (.struct (Tryd.prog.fieldsOf 36)) := by kernel_rfl
theorem sig_free : Tryd.prog.stoodInHeld 36 = false := by kernel_rfl
/-- two heads, two signed heads held against each other -/
def eqHd (x y : Hd) : Bool := x.ep == y.ep && (x.root == y.root && x.prev == y.prev)
def eqSg (x y : Sg) : Bool := eqHd x.hd y.hd && x.sign == y.sign
theorem eqHd_self (x : Hd) : eqHd x x = true := by simp [eqHd]
theorem eqSg_self (x : Sg) : eqSg x x = true := by simp [eqSg, eqHd_self]
theorem eqHd_iff (x y : Hd) : eqHd x y = true ↔ x = y := by
  obtain ⟨a, b, c⟩ := x
  obtain ⟨a', b', c'⟩ := y
  simp [eqHd]
theorem eqSg_iff (x y : Sg) : eqSg x y = true ↔ x = y := by
  obtain ⟨h, s⟩ := x
  obtain ⟨h', s'⟩ := y
  simp [eqSg, eqHd_iff]
theorem eqHd_dec (x y : Hd) [Decidable (x = y)] : eqHd x y = decide (x = y) := by
  by_cases h : x = y
  · rw [decide_eq_true h, (eqHd_iff x y).2 h]
  · rw [decide_eq_false h]
    cases h2 : eqHd x y
    · rfl
    · exact absurd ((eqHd_iff x y).1 h2) h
theorem eqIn_head (k : Nat) (w : World) (x y : Hd) (hx : x.ok) (hy : y.ok) : (Op.equalIn (k + 3) 25 (.agg (hdc x).toArray) (.agg (hdc y).toArray)).run Tryd.prog w = .ok (eqHd x y) w := by
  rw [run_equalIn_struct (P := Tryd.prog) w (k + 2) 25 _ _ head_under head_free]
  have hf := head_fields
  generalize (Tryd.prog.fieldsOf 25).toList = fs at hf
  obtain ⟨f, g, m, rfl⟩ : ∃ f g m, fs = [f, g, m] := by
    match fs with
    | [f, g, m] => exact ⟨f, g, m, rfl⟩
    | [] => simp at hf
    | [_] => simp at hf
    | [_, _] => simp at hf
    | _ :: _ :: _ :: _ :: _ => simp at hf
  simp only [List.map_cons, List.map_nil, List.cons.injEq, Prod.mk.injEq, and_true] at hf
  obtain ⟨⟨f1, f2, f3⟩, ⟨g1, g2, g3⟩, k1, k2, k3⟩ := hf
  have e1 : (Op.equalIn (k + 2) 3 (.int .i64 x.ep) (.int .i64 y.ep)).run Tryd.prog w = .ok (x.ep == y.ep) w := run_equalIn_int w _ _ _ _ _ _ Tryd.underlying3
  have e2 : ∀ u v : List UInt8, u.length = 32 → v.length = 32 → (Op.equalIn (k + 2) 23 (.agg (bs u).toArray) (.agg (bs v).toArray)).run Tryd.prog w = .ok (u == v) w := fun u v hu hv =>
    run_equalIn_bytes (P := Tryd.prog) w k 23 5 32 Tryd.underlying23 Tryd.underlying5 sizeU8 u v hu hv
  have d1 : ("Epoch" : String) ≠ "_" := by decide
  have d2 : ("Root" : String) ≠ "_" := by decide
  have d3 : ("Prev" : String) ≠ "_" := by decide
  have p1 : (part 3 (hdc x).toArray 0).run Tryd.prog w = .ok (.int .i64 x.ep) w := partI w x.ep _
  have p2 : (part 3 (hdc y).toArray 0).run Tryd.prog w = .ok (.int .i64 y.ep) w := partI w y.ep _
  unfold eqHd
  unfold Op.eqFields
  rw [f1, f2, f3, if_pos d1]
  simp only [Sem.run_bind, p1, p2, Result.andThen_ok, e1]
  unfold Op.eqFields
  rw [g1, g2, g3, if_pos d2]
  cases h1 : (x.ep == y.ep)
  · simp
  · simp only [Bool.not_true, Bool.false_eq_true, if_false, Sem.run_bind, partD, Result.andThen_ok, hd_root hx, hd_root hy, e2 _ _ hx.1 hy.1]
    unfold Op.eqFields
    rw [k1, k2, k3, if_pos d3]
    cases h2 : (x.root == y.root)
    · simp
    · simp only [Bool.not_true, Bool.false_eq_true, if_false, Sem.run_bind, partD, Result.andThen_ok, hd_prev hx, hd_prev hy, e2 _ _ hx.2 hy.2]
      cases h3 : (x.prev == y.prev)
      · simp
      · simp [Op.eqFields]
theorem eqIn_signed (k : Nat) (w : World) (x y : Sg) (hx : x.ok) (hy : y.ok) : (Op.equalIn (k + 4) 36 (.agg (sgc x).toArray) (.agg (sgc y).toArray)).run Tryd.prog w = .ok (eqSg x y) w := by
  rw [run_equalIn_struct (P := Tryd.prog) w (k + 3) 36 _ _ sig_under sig_free]
  have hf := sig_fields
  generalize (Tryd.prog.fieldsOf 36).toList = fs at hf
  obtain ⟨f, g, rfl⟩ : ∃ f g, fs = [f, g] := by
    match fs with
    | [f, g] => exact ⟨f, g, rfl⟩
    | [] => simp at hf
    | [_] => simp at hf
    | _ :: _ :: _ :: _ => simp at hf
  simp only [List.map_cons, List.map_nil, List.cons.injEq, Prod.mk.injEq, and_true] at hf
  obtain ⟨⟨f1, f2, f3⟩, g1, g2, g3⟩ := hf
  have e2 : (Op.equalIn (k + 3) 23 (.agg (bs x.sign).toArray) (.agg (bs y.sign).toArray)).run Tryd.prog w = .ok (x.sign == y.sign) w :=
    run_equalIn_bytes (P := Tryd.prog) w (k + 1) 23 5 32 Tryd.underlying23 Tryd.underlying5 sizeU8 x.sign y.sign hx.2 hy.2
  have d1 : ("Head" : String) ≠ "_" := by decide
  have d2 : ("Sign" : String) ≠ "_" := by decide
  unfold eqSg
  unfold Op.eqFields
  rw [f1, f2, f3, if_pos d1]
  simp only [Sem.run_bind, partH, Result.andThen_ok, sg_hd hx, sg_hd hy, eqIn_head k w x.hd y.hd hx.1 hy.1]
  unfold Op.eqFields
  rw [g1, g2, g3, if_pos d2]
  cases h1 : eqHd x.hd y.hd
  · simp
  · simp only [Bool.not_true, Bool.false_eq_true, if_false, Sem.run_bind, partD, Result.andThen_ok, sg_sign hx, sg_sign hy, e2]
    cases h2 : (x.sign == y.sign)
    · simp
    · simp [Op.eqFields]
theorem eql_head (w : World) (x y : Hd) (hx : x.ok) (hy : y.ok) : (binOp .eql 25 (.agg (hdc x).toArray) (.agg (hdc y).toArray)).run Tryd.prog w = .ok (.bool (eqHd x y)) w := by
  rw [run_eql_struct, eqIn_head 9997 w x y hx hy]
  rfl
theorem neq_head (w : World) (x y : Hd) (hx : x.ok) (hy : y.ok) : (binOp .neq 25 (.agg (hdc x).toArray) (.agg (hdc y).toArray)).run Tryd.prog w = .ok (.bool (!(eqHd x y))) w := by
  rw [run_neq_struct, eqIn_head 9997 w x y hx hy]
  rfl
theorem eql_signed (w : World) (x y : Sg) (hx : x.ok) (hy : y.ok) : (binOp .eql 36 (.agg (sgc x).toArray) (.agg (sgc y).toArray)).run Tryd.prog w = .ok (.bool (eqSg x y)) w := by
  rw [run_eql_struct, eqIn_signed 9996 w x y hx hy]
  rfl
theorem neq_signed (w : World) (x y : Sg) (hx : x.ok) (hy : y.ok) : (binOp .neq 36 (.agg (sgc x).toArray) (.agg (sgc y).toArray)).run Tryd.prog w = .ok (.bool (!(eqSg x y))) w := by
  rw [run_neq_struct, eqIn_signed 9996 w x y hx hy]
  rfl
theorem guard_head : Tryd.prog.eqGuardType Tryd.prog.depth 25 = false := by kernel_rfl
theorem guard_signed : Tryd.prog.eqGuardType Tryd.prog.depth 36 = false := by kernel_rfl
theorem Blk.all0 {w : World} {g : Nat} {t : TypeId} {vs : List Value} (h : Blk w g t vs) : w.rangeAt g 0 vs := h.range 0 (fun j hj => by simp)
/-- the parts of a head and of a signed head in a block -/
theorem Blk.hdp {w : World} {g : Nat} {t : TypeId} {x : Hd} (h : Blk w g t (hdc x)) (hx : x.ok) : w.cell? ⟨g, 0, none⟩ = some (.int .i64 x.ep) ∧ w.rangeAt g 1 (bs x.root) ∧ w.rangeAt g 33 (bs x.prev) := by
  have hP : Part (hdc x) 0 (hdc x) := fun j _ => by rw [Nat.zero_add]
  exact ⟨h.cell rfl, h.range 1 (fun j hj => by have := hP.hd1 hx j hj; simpa using this), h.range 33 (fun j hj => by have := hP.hd2 hx j hj; simpa using this)⟩
theorem Blk.sgp {w : World} {g : Nat} {t : TypeId} {x : Sg} (h : Blk w g t (sgc x)) (hx : x.ok) : w.rangeAt g 0 (hdc x.hd) ∧ w.rangeAt g 65 (bs x.sign) ∧ w.cell? ⟨g, 0, none⟩ = some (.int .i64 x.hd.ep) ∧ w.rangeAt g 1 (bs x.hd.root) ∧ w.rangeAt g 33 (bs x.hd.prev) := by
  have hP : Part (sgc x) 0 (sgc x) := fun j _ => by rw [Nat.zero_add]
  have h0 := hP.sg0
  exact ⟨h.range 0 (fun j hj => h0 j hj), h.range 65 (fun j hj => by have := hP.sg1 hx j hj; simpa using this), h.cell (by have := h0.hd0; simpa using this), h.range 1 (fun j hj => by have := h0.hd1 hx.1 j hj; simpa using this), h.range 33 (fun j hj => by have := h0.hd2 hx.1 j hj; simpa using this)⟩
end Go.Proofs.YtoclahcibilbhaaDoor
