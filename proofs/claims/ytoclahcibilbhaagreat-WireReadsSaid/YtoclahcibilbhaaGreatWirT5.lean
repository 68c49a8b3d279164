/-
  Two lists of versions, two directories held against each other.
-/
import Derived.Test.YtoclahcibilbhaaGreatWirT4
import Derived.Test.YtoclahcibilbhaaGreatWirT2
namespace Go.Proofs.YtoclahcibilbhaaGreat
open Go.RowKit
set_option maxRecDepth 100000

theorem v_cells {W : World} {a : Option Addr} {n c : Nat} {l : List Vn} (h : RdG verR W a n c l) (i : Nat) (hi : i < n) : ∃ b off, a = some ⟨b, off, none⟩ ∧ W.rangeAt b (off + i * 3) (vc (l.getD i vn0)) := by
  obtain ⟨b, off, h1, _, h3⟩ := h.elems (by omega)
  exact ⟨b, off, h1, h3 i hi⟩

set_option maxHeartbeats 2000000 in
theorem same_versions (w : World) (a : Option Addr) (n c : Nat) (a' : Option Addr) (n' c' : Nat) (l : List Vn) (h : RdG verR w a n c l) (h' : RdG verR w a' n' c' l) :
    Calls Tryz.prog 50 #[.slice a n c, .slice a' n' c'] w fun f w' => f = .returned (.bool true) ∧ Below w.heap.size w w' := by
  obtain rfl : n' = n := by rw [← h.len, ← h'.len]
  have HA : Hid (∀ W, Below w.heap.size w W → ∀ k, k < n' → ∃ b off, a = some ⟨b, off, none⟩ ∧ W.rangeAt b (off + k * 3) (vc (l.getD k vn0))) := Lib.hid (fun W hW k hk => v_cells (h.below hW) k hk)
  have HB : Hid (∀ W, Below w.heap.size w W → ∀ k, k < n' → ∃ b off, a' = some ⟨b, off, none⟩ ∧ W.rangeAt b (off + k * 3) (vc (l.getD k vn0))) := Lib.hid (fun W hW k hk => v_cells (h'.below hW) k hk)
  have hcap := h.cap
  have hcap' := h'.cap
  have hmx := h.max
  unfold maxLen at hmx
  clear h h'
  go_enter Tryz.func50, Tryz.ntmps50
  go_wp2_with fail
  go_loopw [5] (fun i wr => ∃ k : Nat, k ≤ n' ∧ i = .int .i64 (k : Int) ∧ Below w.heap.size w wr) (fun i _ => n' - (intOf i).toNat)
  case atStart => exact ⟨0, by omega, rfl, Below.refl _ _⟩
  case round =>
    obtain ⟨k, hk, rfl, hB⟩ := hrel
    by_cases hkn : k < n'
    · obtain ⟨b1, o1, rfl, h1⟩ := HA.out _ hB k hkn
      obtain ⟨b2, o2, rfl, h2⟩ := HB.out _ hB k hkn
      have hki : (k : Int) < (n' : Int) := by omega
      have HW1 : Hid (∀ W, Below wr.heap.size wr W → W.rangeAt b1 (o1 + k * 3) (vc (l.getD k vn0))) := Lib.hid (fun W hW => range_below hW h1)
      have HW2 : Hid (∀ W, Below wr.heap.size wr W → W.rangeAt b2 (o2 + k * 3) (vc (l.getD k vn0))) := Lib.hid (fun W hW => range_below hW h2)
      generalize l.getD k vn0 = v at *
      have HIV : Hid ((Tryz.prog.info? 103).map (·.size) = some (vc v).length) := Lib.hid (by kernel_rfl)
      have RN : Hid (∀ W, (binOp .neq 103 (.agg (vc v).toArray) (.agg (vc v).toArray)).run Tryz.prog W = .ok (.bool false) W) := Lib.hid (fun W => by have := neqV W v v; rw [sameVn_refl] at this; exact this)
      clear h1 h2
      go_wp2_with fail
      refine wp_region_held_drew (S := fun W => Below wr.heap.size wr W) (by kernel_rfl) ((Below.refl _ wr).drew) (fun hHeld => ?_)
      refine wpAnyH_take (i := 0) (oi := ⟨some 17, .move (.tmp 0), _, _, _, none⟩) (v := ?_) rfl (by kernel_rfl) (by kernel_rfl) (by kernel_rfl) (fun _ _ _ h => h) (Or.inl ⟨by rfl, ?_⟩) hHeld ?_
      rotate_left
      · intro W _; go_simp; try with_reducible rfl
      try simp only [Act.put, List.setIfInBounds_toArray, List.set_cons_zero, List.set_cons_succ]
      refine wpAnyH_take (i := 1) (oi := ⟨some 18, .move (.tmp 5), _, _, _, none⟩) (v := ?_) rfl (by kernel_rfl) (by kernel_rfl) (by kernel_rfl) (fun _ _ _ h => h) (Or.inl ⟨by rfl, ?_⟩) hHeld ?_
      rotate_left
      · intro W _; go_simp; try with_reducible rfl
      try simp only [Act.put, List.setIfInBounds_toArray, List.set_cons_zero, List.set_cons_succ]
      refine wpAnyH_take (i := 2) (oi := ⟨some 19, .indexAddr 95 (.tmp 17) (.tmp 18), _, _, _, none⟩) (v := ?_) rfl (by kernel_rfl) (by kernel_rfl) (by kernel_rfl) (fun _ _ _ h => h) (Or.inl ⟨by rfl, ?_⟩) hHeld ?_
      rotate_left
      · intro W _; go_simp; try with_reducible rfl
      try simp only [Act.put, List.setIfInBounds_toArray, List.set_cons_zero, List.set_cons_succ]
      refine wpAnyH_take (i := 3) (oi := ⟨some 20, .load 103 (.tmp 19), _, _, _, none⟩) (v := .agg (vc v).toArray) rfl (by kernel_rfl) (by kernel_rfl) (by kernel_rfl) (fun _ _ _ h => h) (yieldsIf_load_mid (by rfl) _ _ rfl b1 (o1 + k * 3) rfl (vc v) _ (fun W hS => HW1.out W hS) underV rfl HIV.out) hHeld ?_
      try simp only [Act.put, List.setIfInBounds_toArray, List.set_cons_zero, List.set_cons_succ]
      refine wpAnyH_take (i := 4) (oi := ⟨some 21, .move (.tmp 1), _, _, _, none⟩) (v := ?_) rfl (by kernel_rfl) (by kernel_rfl) (by kernel_rfl) (fun _ _ _ h => h) (Or.inl ⟨by rfl, ?_⟩) hHeld ?_
      rotate_left
      · intro W _; go_simp; try with_reducible rfl
      try simp only [Act.put, List.setIfInBounds_toArray, List.set_cons_zero, List.set_cons_succ]
      refine wpAnyH_take (i := 5) (oi := ⟨some 22, .move (.tmp 5), _, _, _, none⟩) (v := ?_) rfl (by kernel_rfl) (by kernel_rfl) (by kernel_rfl) (fun _ _ _ h => h) (Or.inl ⟨by rfl, ?_⟩) hHeld ?_
      rotate_left
      · intro W _; go_simp; try with_reducible rfl
      try simp only [Act.put, List.setIfInBounds_toArray, List.set_cons_zero, List.set_cons_succ]
      refine wpAnyH_take (i := 6) (oi := ⟨some 23, .indexAddr 95 (.tmp 21) (.tmp 22), _, _, _, none⟩) (v := ?_) rfl (by kernel_rfl) (by kernel_rfl) (by kernel_rfl) (fun _ _ _ h => h) (Or.inl ⟨by rfl, ?_⟩) hHeld ?_
      rotate_left
      · intro W _; go_simp; try with_reducible rfl
      try simp only [Act.put, List.setIfInBounds_toArray, List.set_cons_zero, List.set_cons_succ]
      refine wpAnyH_take (i := 7) (oi := ⟨some 24, .load 103 (.tmp 23), _, _, _, none⟩) (v := .agg (vc v).toArray) rfl (by kernel_rfl) (by kernel_rfl) (by kernel_rfl) (fun _ _ _ h => h) (yieldsIf_load_mid (by rfl) _ _ rfl b2 (o2 + k * 3) rfl (vc v) _ (fun W hS => HW2.out W hS) underV rfl HIV.out) hHeld ?_
      try simp only [Act.put, List.setIfInBounds_toArray, List.set_cons_zero, List.set_cons_succ]
      refine wpAnyH_take (i := 8) (oi := ⟨some 25, .binOp .neq 103 (.tmp 20) (.tmp 24) 103, _, _, _, none⟩) (v := .bool false) rfl (by kernel_rfl) (by kernel_rfl) (by kernel_rfl) (fun _ _ _ h => h) (yieldsIf_eqH (by rfl) .neq 103 103 (.tmp 20) (.tmp 24) rfl _ _ rfl rfl guardV _ RN.out) hHeld ?_
      try simp only [Act.put, List.setIfInBounds_toArray, List.set_cons_zero, List.set_cons_succ]
      refine wpAnyH_done (by kernel_rfl) ?_ _
      go_wp2_with fail
      go_roundw
      case rel => exact ⟨k + 1, by omega, by go_num, Bt hB hHeld⟩
      case measure => simp [intOf]; omega
    · obtain rfl : k = n' := by omega
      have hki : ¬ (k : Int) < (k : Int) := by omega
      go_wp2_with fail
      go_ret
      exact ⟨rfl, hB⟩

theorem eqInH0 (w : World) (x : Hd) (h : x.ok) : (Op.equalIn 10000 47 (.agg (hdc x).toArray) (.agg (hdc x).toArray)).run Tryz.prog w = .ok true w := by
  rw [run_equalIn_struct (P := Tryz.prog) w 9999 47 _ _ head_under head_free]
  have hf := head_fields
  generalize (Tryz.prog.fieldsOf 47).toList = fs at hf
  obtain ⟨f, g, k, rfl⟩ : ∃ f g k, fs = [f, g, k] := by
    match fs with
    | [f, g, k] => exact ⟨f, g, k, rfl⟩
    | [] => simp at hf
    | [_] => simp at hf
    | [_, _] => simp at hf
    | _ :: _ :: _ :: _ :: _ => simp at hf
  simp only [List.map_cons, List.map_nil, List.cons.injEq, Prod.mk.injEq, and_true] at hf
  obtain ⟨⟨f1, f2, f3⟩, ⟨g1, g2, g3⟩, k1, k2, k3⟩ := hf
  have e1 : (Op.equalIn 9999 3 (.int .i64 x.ep) (.int .i64 x.ep)).run Tryz.prog w = .ok (x.ep == x.ep) w := run_equalIn_int w _ _ _ _ _ _ Tryz.underlying3
  have e2 : ∀ v : List UInt8, v.length = 32 → (Op.equalIn 9999 25 (.agg (bs v).toArray) (.agg (bs v).toArray)).run Tryz.prog w = .ok (v == v) w := fun v hv =>
    run_equalIn_bytes (P := Tryz.prog) w 9997 25 5 32 Tryz.underlying25 Tryz.underlying5 sizeU8 v v hv hv
  have d1 : ("Epoch" : String) ≠ "_" := by decide
  have d2 : ("Root" : String) ≠ "_" := by decide
  have d3 : ("Prev" : String) ≠ "_" := by decide
  have p1 : (part 3 (hdc x).toArray 0).run Tryz.prog w = .ok (.int .i64 x.ep) w := partI w x.ep _
  unfold Op.eqFields
  rw [f1, f2, f3, if_pos d1]
  simp only [Sem.run_bind, p1, Result.andThen_ok, e1, beq_self_eq_true]
  unfold Op.eqFields
  rw [g1, g2, g3, if_pos d2]
  simp only [Bool.not_true, Bool.false_eq_true, if_false, Sem.run_bind, partD, Result.andThen_ok, hd_root h, e2 _ h.1, beq_self_eq_true]
  unfold Op.eqFields
  rw [k1, k2, k3, if_pos d3]
  simp only [Bool.not_true, Bool.false_eq_true, if_false, Sem.run_bind, partD, Result.andThen_ok, hd_prev h, e2 _ h.2, beq_self_eq_true]
  simp [Op.eqFields]

theorem neqH (w : World) (x : Hd) (h : x.ok) : (binOp .neq 47 (.agg (hdc x).toArray) (.agg (hdc x).toArray)).run Tryz.prog w = .ok (.bool false) w := by
  rw [run_neq_struct, eqInH0 w x h]
  rfl
theorem guardHd : Tryz.prog.eqGuardType Tryz.prog.depth 47 = false := by kernel_rfl
theorem guardSe : Tryz.prog.eqGuardType Tryz.prog.depth 100 = false := by kernel_rfl
theorem se_fields : (Tryz.prog.fieldsOf 100).toList.map (fun f => (f.name, f.type, f.offset)) = [("Client", 3, 0), ("Seq", 3, 1), ("Code", 28, 2), ("Epoch", 3, 3)] := by kernel_rfl
theorem se_under : Tryz.prog.underlying 100 = some (.struct (Tryz.prog.fieldsOf 100)) := by kernel_rfl
theorem se_free : Tryz.prog.stoodInHeld 100 = false := by kernel_rfl
theorem neqSe (w : World) (x : Se) : (binOp .neq 100 (.agg (sec x).toArray) (.agg (sec x).toArray)).run Tryz.prog w = .ok (.bool false) w := by
  have hin : (Op.equalIn 10000 100 (.agg (sec x).toArray) (.agg (sec x).toArray)).run Tryz.prog w = .ok true w := by
    rw [run_equalIn_struct (P := Tryz.prog) w 9999 100 _ _ se_under se_free]
    have hf := se_fields
    generalize (Tryz.prog.fieldsOf 100).toList = fs at hf
    have hlen : fs.length = 4 := by have := congrArg List.length hf; simpa using this
    obtain ⟨f0, f1, f2, f3, rfl⟩ : ∃ f0 f1 f2 f3, fs = [f0, f1, f2, f3] := by
      match fs, hlen with
      | [f0, f1, f2, f3], _ => exact ⟨f0, f1, f2, f3, rfl⟩
    simp only [List.map_cons, List.map_nil, List.cons.injEq, Prod.mk.injEq, and_true] at hf
    obtain ⟨⟨a0, b0, c0⟩, ⟨a1, b1, c1⟩, ⟨a2, b2, c2⟩, a3, b3, c3⟩ := hf
    have e1 : ∀ n : Int, (Op.equalIn 9999 3 (.int .i64 n) (.int .i64 n)).run Tryz.prog w = .ok (n == n) w := fun n => run_equalIn_int w _ _ _ _ _ _ Tryz.underlying3
    have e2 : ∀ n : Int, (Op.equalIn 9999 28 (.int .i64 n) (.int .i64 n)).run Tryz.prog w = .ok (n == n) w := fun n => run_equalIn_int w _ _ _ _ _ _ Tryz.underlying28
    have p0 := partX 3 w (run_isAgg_plain (P := Tryz.prog) Tryz.underlying3 rfl w) (sec x) 0 (.int .i64 x.cl) rfl
    have p1 := partX 3 w (run_isAgg_plain (P := Tryz.prog) Tryz.underlying3 rfl w) (sec x) 1 (.int .i64 x.sq) rfl
    have p2 := partX 28 w (run_isAgg_plain (P := Tryz.prog) Tryz.underlying28 rfl w) (sec x) 2 (.int .i64 x.cd) rfl
    have p3 := partX 3 w (run_isAgg_plain (P := Tryz.prog) Tryz.underlying3 rfl w) (sec x) 3 (.int .i64 x.ep) rfl
    unfold Op.eqFields
    rw [a0, b0, c0, if_pos (by decide)]
    simp only [Sem.run_bind, p0, Result.andThen_ok, e1, beq_self_eq_true, Bool.not_true, Bool.false_eq_true, if_false]
    unfold Op.eqFields
    rw [a1, b1, c1, if_pos (by decide)]
    simp only [Sem.run_bind, p1, Result.andThen_ok, e1, beq_self_eq_true, Bool.not_true, Bool.false_eq_true, if_false]
    unfold Op.eqFields
    rw [a2, b2, c2, if_pos (by decide)]
    simp only [Sem.run_bind, p2, Result.andThen_ok, e2, beq_self_eq_true, Bool.not_true, Bool.false_eq_true, if_false]
    unfold Op.eqFields
    rw [a3, b3, c3, if_pos (by decide)]
    simp only [Sem.run_bind, p3, Result.andThen_ok, e1, beq_self_eq_true]
    simp [Op.eqFields]
  rw [run_neq_struct, hin]
  rfl

/-- a directory can be read -/
def Di.at (w : World) (x : Di) : Prop := RdG usR w x.usa x.us.length x.usc x.us ∧ (∀ u ∈ x.us, RdG verR w u.vsa u.vs.length u.vsc u.vs) ∧ RdG hdR w x.hsa x.hs.length x.hsc x.hs ∧ RdG seR w x.ssa x.ss.length x.ssc x.ss
theorem Di.at.below {w w' : World} {x : Di} (h : x.at w) (hb : Below w.heap.size w w') : x.at w' := ⟨h.1.below hb, fun u hu => (h.2.1 u hu).below hb, h.2.2.1.below hb, h.2.2.2.below hb⟩
theorem Di.own_at {w : World} {B : Nat} {x : Di} (h : Di.own w B x) : x.at w := ⟨h.1.rd, fun u hu => (h.2.1 u hu).rd, h.2.2.1.rd, h.2.2.2.rd⟩
theorem Di.rd_at {w : World} {x : Di} (h : x.rd w) : x.at w := by
  have := h w _ _ (Below.refl _ w) (Nat.le_refl _) (Nat.le_refl _)
  exact ⟨this.1.rd, fun u hu => (this.2.1 u hu).rd, this.2.2.1.rd, this.2.2.2.rd⟩
theorem cl_at {us us' : List Ux} (h : us'.map Ux.cl = us.map Ux.cl) (k : Nat) : (us'.getD k ux0).nm = (us.getD k ux0).nm ∧ (us'.getD k ux0).vs = (us.getD k ux0).vs := by
  have h1 : (us'.map Ux.cl).getD k ux0.cl = (us.map Ux.cl).getD k ux0.cl := by rw [h]
  have e : ∀ l : List Ux, (l.map Ux.cl).getD k ux0.cl = (l.getD k ux0).cl := fun l => by cases h : l[k]? <;> simp [List.getD, h]
  rw [e, e] at h1
  have h2 := congrArg Ux.nm h1
  have h3 := congrArg Ux.vs h1
  exact ⟨h2, h3⟩

set_option maxHeartbeats 8000000 in
theorem same_directory (w : World) (x y : Di) (he : y.cl = x.cl) (okx : x.ok) (hx : x.at w) (hy : y.at w) :
    Calls Tryz.prog 21 #[.agg (dic x).toArray, .agg (dic y).toArray] w fun f w' => f = .returned (.bool true) ∧ Below w.heap.size w w' := by
  obtain ⟨ep, us, usa, usc, hs, hsa, hsc, ss, ssa, ssc⟩ := x
  obtain ⟨ep', us', usa', usc', hs', hsa', hsc', ss', ssa', ssc'⟩ := y
  obtain ⟨rfl, hus, rfl, rfl⟩ : ep' = ep ∧ us'.map Ux.cl = us.map Ux.cl ∧ hs' = hs ∧ ss' = ss := by simp only [Di.cl, Di.mk.injEq] at he; exact ⟨he.1, he.2.1, he.2.2.2.2.1, he.2.2.2.2.2.2.2.1⟩
  have hul : us'.length = us.length := by have := congrArg List.length hus; simpa using this
  have h0 := (Blk.new w 63 (dic ⟨ep', us, usa, usc, hs', hsa, hsc, ss', ssa, ssc⟩)).alloc (.cells (dic ⟨ep', us', usa', usc', hs', hsa', hsc', ss', ssa', ssc'⟩).toArray 63)
  have h1 := Blk.new (w.alloc (.cells (dic ⟨ep', us, usa, usc, hs', hsa, hsc, ss', ssa, ssc⟩).toArray 63)) 63 (dic ⟨ep', us', usa', usc', hs', hsa', hsc', ss', ssa', ssc'⟩)
  have hz1 : (w.alloc (.cells (dic ⟨ep', us, usa, usc, hs', hsa, hsc, ss', ssa, ssc⟩).toArray 63)).heap.size = w.heap.size + 1 := by simp
  rw [hz1] at h1
  have hB : Below w.heap.size w ((w.alloc (.cells (dic ⟨ep', us, usa, usc, hs', hsa, hsc, ss', ssa, ssc⟩).toArray 63)).alloc (.cells (dic ⟨ep', us', usa', usc', hs', hsa', hsc', ss', ssa', ssc'⟩).toArray 63)) := ((Below.refl _ w).alloc (Nat.le_refl _) _).alloc (by simp) _
  have hx := hx.below hB
  have hy := hy.below hB
  have c0 := di_cells _ _ _ h0
  have d0 := di_cells _ _ _ h1
  simp only at c0 d0
  rw [hul] at d0
  have HCL := Lib.hid (cl_at hus)
  have HOKH : Hid (∀ h ∈ hs', h.ok) := Lib.hid okx
  have HUL := Lib.hid hul
  have HBW := Lib.hid hB
  have hux := hx.1.cap
  have hhx := hx.2.2.1.cap
  have hsx := hx.2.2.2.cap
  have huy := hy.1.cap
  have hhy := hy.2.2.1.cap
  have hsy := hy.2.2.2.cap
  have hum := hx.1.max
  have hhm := hx.2.2.1.max
  have hsm := hx.2.2.2.max
  unfold maxLen at hum hhm hsm
  simp only at hux hhx hsx huy hhy hsy hum hhm hsm
  rw [hul] at huy
  have HX := Lib.hid hx
  have HY := Lib.hid hy
  have HN : Hid (us.length = us.length ∧ hs'.length = hs'.length ∧ ss'.length = ss'.length) := Lib.hid ⟨rfl, rfl, rfl⟩
  obtain ⟨c00, c1, c2, c3⟩ := c0
  obtain ⟨d00, d1, d2, d3⟩ := d0
  clear h0 h1 hz1 hus he okx hx hy hul hB
  go_enter Tryz.func21, Tryz.ntmps21
  go_wp2_with fail
  generalize ((w.alloc (.cells (dic ⟨ep', us, usa, usc, hs', hsa, hsc, ss', ssa, ssc⟩).toArray 63)).alloc (.cells (dic ⟨ep', us', usa', usc', hs', hsa', hsc', ss', ssa', ssc'⟩).toArray 63)) = w1 at *
  have HC : Hid (∀ W, Below w1.heap.size w1 W → W.cell? ⟨w.heap.size, 0, none⟩ = some (.int .i64 ep') ∧ W.cell? ⟨w.heap.size, 1, none⟩ = some (.slice usa us.length usc) ∧ W.cell? ⟨w.heap.size, 2, none⟩ = some (.slice hsa hs'.length hsc) ∧ W.cell? ⟨w.heap.size, 3, none⟩ = some (.slice ssa ss'.length ssc)) := Lib.hid (fun W h => ⟨cell_later h c00, cell_later h c1, cell_later h c2, cell_later h c3⟩)
  have HD : Hid (∀ W, Below w1.heap.size w1 W → W.cell? ⟨w.heap.size + 1, 0, none⟩ = some (.int .i64 ep') ∧ W.cell? ⟨w.heap.size + 1, 1, none⟩ = some (.slice usa' us.length usc') ∧ W.cell? ⟨w.heap.size + 1, 2, none⟩ = some (.slice hsa' hs'.length hsc') ∧ W.cell? ⟨w.heap.size + 1, 3, none⟩ = some (.slice ssa' ss'.length ssc')) := Lib.hid (fun W h => ⟨cell_later h d00, cell_later h d1, cell_later h d2, cell_later h d3⟩)
  clear c00 c1 c2 c3 d00 d1 d2 d3
  generalize hnu : us.length = nu at *
  generalize hnh : hs'.length = nh at *
  generalize hns : ss'.length = ns at *
  have HNU := Lib.hid hnu
  have HNH := Lib.hid hnh
  have HNS := Lib.hid hns
  clear hnu hnh hns HN
  go_loopw [5] (fun i wr => ∃ k : Nat, k ≤ nu ∧ i = .int .i64 (k : Int) ∧ Hid (Below w1.heap.size w1 wr)) (fun i _ => nu - (intOf i).toNat)
  case atStart => exact ⟨0, by omega, rfl, Lib.hid (Below.refl _ _)⟩
  case round =>
    obtain ⟨k, hk, rfl, HBR⟩ := hrel
    obtain ⟨_, c1, c2, c3⟩ := HC.out _ HBR.out
    obtain ⟨_, d1, d2, d3⟩ := HD.out _ HBR.out
    by_cases hkn : k < nu
    · have hki : (k : Int) < (nu : Int) := by omega
      obtain ⟨ub, uo, hua, _, _⟩ := us_cells (HX.out.1.below HBR.out) k (by rw [HNU.out]; exact hkn)
      obtain ⟨vb, vo, hva, _, _⟩ := us_cells (HY.out.1.below HBR.out) k (by rw [HUL.out]; exact hkn)
      simp only at hua hva
      subst hua hva
      have HXC : Hid (∀ W, Below wr.heap.size wr W → _) := Lib.hid (fun W h => HC.out W (Bt HBR.out h))
      have HYC : Hid (∀ W, Below wr.heap.size wr W → _) := Lib.hid (fun W h => HD.out W (Bt HBR.out h))
      have HU1 : Hid (∀ W, Below wr.heap.size wr W → W.cell? ⟨ub, uo + k * 2, none⟩ = some (.string (us.getD k ux0).nm) ∧ W.cell? ⟨ub, uo + k * 2 + 1, none⟩ = some (.slice (us.getD k ux0).vsa (us.getD k ux0).vs.length (us.getD k ux0).vsc)) := Lib.hid (fun W h => by
        obtain ⟨b2, o2, e2, h2, h3⟩ := us_cells (HX.out.1.below (Bt HBR.out h)) k (by rw [HNU.out]; exact hkn)
        cases e2; exact ⟨h2, h3⟩)
      have HU2 : Hid (∀ W, Below wr.heap.size wr W → W.cell? ⟨vb, vo + k * 2, none⟩ = some (.string (us.getD k ux0).nm) ∧ W.cell? ⟨vb, vo + k * 2 + 1, none⟩ = some (.slice (us'.getD k ux0).vsa (us.getD k ux0).vs.length (us'.getD k ux0).vsc)) := Lib.hid (fun W h => by
        obtain ⟨b2, o2, e2, h2, h3⟩ := us_cells (HY.out.1.below (Bt HBR.out h)) k (by rw [HUL.out]; exact hkn)
        cases e2
        rw [(HCL.out k).1] at h2; rw [(HCL.out k).2] at h3
        exact ⟨h2, h3⟩)
      have HSV : Hid (∀ W, Below wr.heap.size wr W → Calls Tryz.prog 50 #[.slice (us.getD k ux0).vsa (us.getD k ux0).vs.length (us.getD k ux0).vsc, .slice (us'.getD k ux0).vsa (us.getD k ux0).vs.length (us'.getD k ux0).vsc] W fun f w' => f = .returned (.bool true) ∧ Below W.heap.size W w') := Lib.hid (fun W h => by
        have r1 := (HX.out.2.1 _ (getD_mem (l := us) (k := k) (x0 := ux0) (by rw [HNU.out]; exact hkn))).below (Bt HBR.out h)
        have r2 := (HY.out.2.1 _ (getD_mem (l := us') (k := k) (x0 := ux0) (by rw [HUL.out]; exact hkn))).below (Bt HBR.out h)
        simp only [(HCL.out k).2] at r2
        exact same_versions W _ _ _ _ _ _ _ r1 r2)
      generalize us.getD k ux0 = u at *
      generalize us'.getD k ux0 = u' at *
      generalize u.vs.length = nv at *
      go_wp2_with fail
      refine wp_region_held_drew (S := fun W => Below wr.heap.size wr W) (by kernel_rfl) ((Below.refl _ wr).drew) (fun hHeld => ?_)
      refine wpAnyH_take (i := 0) (oi := ⟨some 47, .fieldAddr 63 (.tmp 2) 1, _, _, _, none⟩) (v := ?_) rfl (by kernel_rfl) (by kernel_rfl) (by kernel_rfl) (fun _ _ _ h => h) (Or.inl ⟨by rfl, ?_⟩) hHeld ?_
      rotate_left
      · intro W _; go_simp; try with_reducible rfl
      try simp only [Act.put, List.setIfInBounds_toArray, List.set_cons_zero, List.set_cons_succ]
      refine wpAnyH_take (i := 1) (oi := ⟨some 48, .load 59 (.tmp 47), _, _, _, none⟩) (v := ?_) rfl (by kernel_rfl) (by kernel_rfl) (by kernel_rfl) (fun _ _ _ h => h) (Or.inl ⟨by rfl, ?_⟩) hHeld ?_
      rotate_left
      · intro W hS; have q0 := (HXC.out W hS).2.1; go_simp; try with_reducible rfl
      try simp only [Act.put, List.setIfInBounds_toArray, List.set_cons_zero, List.set_cons_succ]
      refine wpAnyH_take (i := 2) (oi := ⟨some 49, .move (.tmp 5), _, _, _, none⟩) (v := ?_) rfl (by kernel_rfl) (by kernel_rfl) (by kernel_rfl) (fun _ _ _ h => h) (Or.inl ⟨by rfl, ?_⟩) hHeld ?_
      rotate_left
      · intro W _; go_simp; try with_reducible rfl
      try simp only [Act.put, List.setIfInBounds_toArray, List.set_cons_zero, List.set_cons_succ]
      refine wpAnyH_take (i := 3) (oi := ⟨some 50, .indexAddr 59 (.tmp 48) (.tmp 49), _, _, _, none⟩) (v := ?_) rfl (by kernel_rfl) (by kernel_rfl) (by kernel_rfl) (fun _ _ _ h => h) (Or.inl ⟨by rfl, ?_⟩) hHeld ?_
      rotate_left
      · intro W _; go_simp; try with_reducible rfl
      try simp only [Act.put, List.setIfInBounds_toArray, List.set_cons_zero, List.set_cons_succ]
      refine wpAnyH_take (i := 4) (oi := ⟨some 51, .fieldAddr 97 (.tmp 50) 0, _, _, _, none⟩) (v := ?_) rfl (by kernel_rfl) (by kernel_rfl) (by kernel_rfl) (fun _ _ _ h => h) (Or.inl ⟨by rfl, ?_⟩) hHeld ?_
      rotate_left
      · intro W _; go_simp; try with_reducible rfl
      try simp only [Act.put, List.setIfInBounds_toArray, List.set_cons_zero, List.set_cons_succ]
      refine wpAnyH_take (i := 5) (oi := ⟨some 52, .load 9 (.tmp 51), _, _, _, none⟩) (v := ?_) rfl (by kernel_rfl) (by kernel_rfl) (by kernel_rfl) (fun _ _ _ h => h) (Or.inl ⟨by rfl, ?_⟩) hHeld ?_
      rotate_left
      · intro W hS; have q0 := (HU1.out W hS).1; go_simp; try with_reducible rfl
      try simp only [Act.put, List.setIfInBounds_toArray, List.set_cons_zero, List.set_cons_succ]
      refine wpAnyH_take (i := 6) (oi := ⟨some 53, .fieldAddr 63 (.tmp 3) 1, _, _, _, none⟩) (v := ?_) rfl (by kernel_rfl) (by kernel_rfl) (by kernel_rfl) (fun _ _ _ h => h) (Or.inl ⟨by rfl, ?_⟩) hHeld ?_
      rotate_left
      · intro W _; go_simp; try with_reducible rfl
      try simp only [Act.put, List.setIfInBounds_toArray, List.set_cons_zero, List.set_cons_succ]
      refine wpAnyH_take (i := 7) (oi := ⟨some 54, .load 59 (.tmp 53), _, _, _, none⟩) (v := ?_) rfl (by kernel_rfl) (by kernel_rfl) (by kernel_rfl) (fun _ _ _ h => h) (Or.inl ⟨by rfl, ?_⟩) hHeld ?_
      rotate_left
      · intro W hS; have q0 := (HYC.out W hS).2.1; go_simp; try with_reducible rfl
      try simp only [Act.put, List.setIfInBounds_toArray, List.set_cons_zero, List.set_cons_succ]
      refine wpAnyH_take (i := 8) (oi := ⟨some 55, .move (.tmp 5), _, _, _, none⟩) (v := ?_) rfl (by kernel_rfl) (by kernel_rfl) (by kernel_rfl) (fun _ _ _ h => h) (Or.inl ⟨by rfl, ?_⟩) hHeld ?_
      rotate_left
      · intro W _; go_simp; try with_reducible rfl
      try simp only [Act.put, List.setIfInBounds_toArray, List.set_cons_zero, List.set_cons_succ]
      refine wpAnyH_take (i := 9) (oi := ⟨some 56, .indexAddr 59 (.tmp 54) (.tmp 55), _, _, _, none⟩) (v := ?_) rfl (by kernel_rfl) (by kernel_rfl) (by kernel_rfl) (fun _ _ _ h => h) (Or.inl ⟨by rfl, ?_⟩) hHeld ?_
      rotate_left
      · intro W _; go_simp; try with_reducible rfl
      try simp only [Act.put, List.setIfInBounds_toArray, List.set_cons_zero, List.set_cons_succ]
      refine wpAnyH_take (i := 10) (oi := ⟨some 57, .fieldAddr 97 (.tmp 56) 0, _, _, _, none⟩) (v := ?_) rfl (by kernel_rfl) (by kernel_rfl) (by kernel_rfl) (fun _ _ _ h => h) (Or.inl ⟨by rfl, ?_⟩) hHeld ?_
      rotate_left
      · intro W _; go_simp; try with_reducible rfl
      try simp only [Act.put, List.setIfInBounds_toArray, List.set_cons_zero, List.set_cons_succ]
      refine wpAnyH_take (i := 11) (oi := ⟨some 58, .load 9 (.tmp 57), _, _, _, none⟩) (v := ?_) rfl (by kernel_rfl) (by kernel_rfl) (by kernel_rfl) (fun _ _ _ h => h) (Or.inl ⟨by rfl, ?_⟩) hHeld ?_
      rotate_left
      · intro W hS; have q0 := (HU2.out W hS).1; go_simp; try with_reducible rfl
      try simp only [Act.put, List.setIfInBounds_toArray, List.set_cons_zero, List.set_cons_succ]
      refine wpAnyH_take (i := 12) (oi := ⟨some 59, .binOp .neq 9 (.tmp 52) (.tmp 58) 9, _, _, _, none⟩) (v := ?_) rfl (by kernel_rfl) (by kernel_rfl) (by kernel_rfl) (fun _ _ _ h => h) (Or.inl ⟨by rfl, ?_⟩) hHeld ?_
      rotate_left
      · intro W _; go_simp; try with_reducible rfl
      try simp only [Act.put, List.setIfInBounds_toArray, List.set_cons_zero, List.set_cons_succ]
      refine wpAnyH_take (i := 13) (oi := ⟨some 60, .move (.tmp 59), _, _, _, none⟩) (v := ?_) rfl (by kernel_rfl) (by kernel_rfl) (by kernel_rfl) (fun _ _ _ h => h) (Or.inl ⟨by rfl, ?_⟩) hHeld ?_
      rotate_left
      · intro W _; go_simp; try with_reducible rfl
      try simp only [Act.put, List.setIfInBounds_toArray, List.set_cons_zero, List.set_cons_succ]
      refine wpAnyH_take (i := 14) (oi := ⟨some 61, .fieldAddr 63 (.tmp 2) 1, _, _, _, some (13, false)⟩) (v := ?_) rfl (by kernel_rfl) (by kernel_rfl) (by kernel_rfl) (fun _ _ _ h => h) (Or.inl ⟨by rfl, ?_⟩) hHeld ?_
      rotate_left
      · intro W _; go_simp; try with_reducible rfl
      try simp only [Act.put, List.setIfInBounds_toArray, List.set_cons_zero, List.set_cons_succ]
      refine wpAnyH_take (i := 15) (oi := ⟨some 62, .load 59 (.tmp 61), _, _, _, some (13, false)⟩) (v := ?_) rfl (by kernel_rfl) (by kernel_rfl) (by kernel_rfl) (fun _ _ _ h => h) (Or.inl ⟨by rfl, ?_⟩) hHeld ?_
      rotate_left
      · intro W hS; have q0 := (HXC.out W hS).2.1; go_simp; try with_reducible rfl
      try simp only [Act.put, List.setIfInBounds_toArray, List.set_cons_zero, List.set_cons_succ]
      refine wpAnyH_take (i := 16) (oi := ⟨some 63, .move (.tmp 5), _, _, _, some (13, false)⟩) (v := ?_) rfl (by kernel_rfl) (by kernel_rfl) (by kernel_rfl) (fun _ _ _ h => h) (Or.inl ⟨by rfl, ?_⟩) hHeld ?_
      rotate_left
      · intro W _; go_simp; try with_reducible rfl
      try simp only [Act.put, List.setIfInBounds_toArray, List.set_cons_zero, List.set_cons_succ]
      refine wpAnyH_take (i := 17) (oi := ⟨some 64, .indexAddr 59 (.tmp 62) (.tmp 63), _, _, _, some (13, false)⟩) (v := ?_) rfl (by kernel_rfl) (by kernel_rfl) (by kernel_rfl) (fun _ _ _ h => h) (Or.inl ⟨by rfl, ?_⟩) hHeld ?_
      rotate_left
      · intro W _; go_simp; try with_reducible rfl
      try simp only [Act.put, List.setIfInBounds_toArray, List.set_cons_zero, List.set_cons_succ]
      refine wpAnyH_take (i := 18) (oi := ⟨some 65, .fieldAddr 97 (.tmp 64) 1, _, _, _, some (13, false)⟩) (v := ?_) rfl (by kernel_rfl) (by kernel_rfl) (by kernel_rfl) (fun _ _ _ h => h) (Or.inl ⟨by rfl, ?_⟩) hHeld ?_
      rotate_left
      · intro W _; go_simp; try with_reducible rfl
      try simp only [Act.put, List.setIfInBounds_toArray, List.set_cons_zero, List.set_cons_succ]
      refine wpAnyH_take (i := 19) (oi := ⟨some 66, .load 95 (.tmp 65), _, _, _, some (13, false)⟩) (v := ?_) rfl (by kernel_rfl) (by kernel_rfl) (by kernel_rfl) (fun _ _ _ h => h) (Or.inl ⟨by rfl, ?_⟩) hHeld ?_
      rotate_left
      · intro W hS; have q0 := (HU1.out W hS).2; go_simp; try with_reducible rfl
      try simp only [Act.put, List.setIfInBounds_toArray, List.set_cons_zero, List.set_cons_succ]
      refine wpAnyH_take (i := 20) (oi := ⟨some 67, .fieldAddr 63 (.tmp 3) 1, _, _, _, some (13, false)⟩) (v := ?_) rfl (by kernel_rfl) (by kernel_rfl) (by kernel_rfl) (fun _ _ _ h => h) (Or.inl ⟨by rfl, ?_⟩) hHeld ?_
      rotate_left
      · intro W _; go_simp; try with_reducible rfl
      try simp only [Act.put, List.setIfInBounds_toArray, List.set_cons_zero, List.set_cons_succ]
      refine wpAnyH_take (i := 21) (oi := ⟨some 68, .load 59 (.tmp 67), _, _, _, some (13, false)⟩) (v := ?_) rfl (by kernel_rfl) (by kernel_rfl) (by kernel_rfl) (fun _ _ _ h => h) (Or.inl ⟨by rfl, ?_⟩) hHeld ?_
      rotate_left
      · intro W hS; have q0 := (HYC.out W hS).2.1; go_simp; try with_reducible rfl
      try simp only [Act.put, List.setIfInBounds_toArray, List.set_cons_zero, List.set_cons_succ]
      refine wpAnyH_take (i := 22) (oi := ⟨some 69, .move (.tmp 5), _, _, _, some (13, false)⟩) (v := ?_) rfl (by kernel_rfl) (by kernel_rfl) (by kernel_rfl) (fun _ _ _ h => h) (Or.inl ⟨by rfl, ?_⟩) hHeld ?_
      rotate_left
      · intro W _; go_simp; try with_reducible rfl
      try simp only [Act.put, List.setIfInBounds_toArray, List.set_cons_zero, List.set_cons_succ]
      refine wpAnyH_take (i := 23) (oi := ⟨some 70, .indexAddr 59 (.tmp 68) (.tmp 69), _, _, _, some (13, false)⟩) (v := ?_) rfl (by kernel_rfl) (by kernel_rfl) (by kernel_rfl) (fun _ _ _ h => h) (Or.inl ⟨by rfl, ?_⟩) hHeld ?_
      rotate_left
      · intro W _; go_simp; try with_reducible rfl
      try simp only [Act.put, List.setIfInBounds_toArray, List.set_cons_zero, List.set_cons_succ]
      refine wpAnyH_take (i := 24) (oi := ⟨some 71, .fieldAddr 97 (.tmp 70) 1, _, _, _, some (13, false)⟩) (v := ?_) rfl (by kernel_rfl) (by kernel_rfl) (by kernel_rfl) (fun _ _ _ h => h) (Or.inl ⟨by rfl, ?_⟩) hHeld ?_
      rotate_left
      · intro W _; go_simp; try with_reducible rfl
      try simp only [Act.put, List.setIfInBounds_toArray, List.set_cons_zero, List.set_cons_succ]
      refine wpAnyH_take (i := 25) (oi := ⟨some 72, .load 95 (.tmp 71), _, _, _, some (13, false)⟩) (v := ?_) rfl (by kernel_rfl) (by kernel_rfl) (by kernel_rfl) (fun _ _ _ h => h) (Or.inl ⟨by rfl, ?_⟩) hHeld ?_
      rotate_left
      · intro W hS; have q0 := (HU2.out W hS).2; go_simp; try with_reducible rfl
      try simp only [Act.put, List.setIfInBounds_toArray, List.set_cons_zero, List.set_cons_succ]
      refine wpAnyH_ready (rs := [26]) (by kernel_rfl) (by simp) ?_
      refine AllReadyH.cons (o := ⟨some 73, .call { callee := .value (.func 50), args := #[.tmp 66, .tmp 72], argTypes := #[95, 95] }, _, _, _, some (13, false)⟩) rfl (fun K hK => ?_) AllReadyH.nil
      refine step_ofR (by rfl) ?_
      go_simp
      refine (HSV.out _ hHeld).mono ?_
      rintro x W1 ⟨rfl, hB1⟩
      refine hK.out _ _ (Bt hHeld hB1) (fun hHeld => ?_)
      clear hK K
      try simp only [Act.put, List.setIfInBounds_toArray, List.set_cons_zero, List.set_cons_succ]
      refine wpAnyH_take (i := 27) (oi := ⟨some 74, .unOp .not 4 (.tmp 73), _, _, _, some (13, false)⟩) (v := ?_) rfl (by kernel_rfl) (by kernel_rfl) (by kernel_rfl) (fun _ _ _ h => h) (Or.inl ⟨by rfl, ?_⟩) hHeld ?_
      rotate_left
      · intro W _; go_simp; try with_reducible rfl
      try simp only [Act.put, List.setIfInBounds_toArray, List.set_cons_zero, List.set_cons_succ]
      refine wpAnyH_take (i := 28) (oi := ⟨some 75, .pick (.tmp 60) (.const (.bool true)) (.tmp 74), _, _, _, none⟩) (v := ?_) rfl (by kernel_rfl) (by kernel_rfl) (by kernel_rfl) (fun _ _ _ h => h) (Or.inl ⟨by rfl, ?_⟩) hHeld ?_
      rotate_left
      · intro W _; go_simp; try with_reducible rfl
      try simp only [Act.put, List.setIfInBounds_toArray, List.set_cons_zero, List.set_cons_succ]
      refine wpAnyH_done (by kernel_rfl) ?_ _
      have HBR2 := Lib.hid (Bt HBR.out hHeld)
      clear hHeld HXC HYC HU1 HU2 HSV
      go_wp2_with fail
      go_roundw
      case rel => exact ⟨k + 1, by omega, by go_num, HBR2⟩
      case measure => simp [intOf]; omega
    · obtain rfl : k = nu := by omega
      have hki : ¬ (k : Int) < (k : Int) := by omega
      have HB2 := HBR
      go_wp2_with fail
      go_loopw [6] (fun i wr => ∃ j : Nat, j ≤ nh ∧ i = .int .i64 (j : Int) ∧ Hid (Below w1.heap.size w1 wr)) (fun i _ => nh - (intOf i).toNat)
      case atStart => exact ⟨0, by omega, rfl, HB2⟩
      case round =>
        clear c1 c2 c3 d1 d2 d3 HBR
        obtain ⟨k, hk, rfl, HBR⟩ := hrel
        obtain ⟨_, c1, c2, c3⟩ := HC.out _ HBR.out
        obtain ⟨_, d1, d2, d3⟩ := HD.out _ HBR.out
        by_cases hkn : k < nh
        · have hki : (k : Int) < (nh : Int) := by omega
          obtain ⟨b1, o1, ha1, _, hv1⟩ := (HX.out.2.2.1.below HBR.out).elems (by simp only; rw [HNH.out]; omega)
          obtain ⟨b2, o2, ha2, _, hv2⟩ := (HY.out.2.2.1.below HBR.out).elems (by simp only; rw [HNH.out]; omega)
          simp only at ha1 ha2 hv1 hv2
          subst ha1 ha2
          have h1 : wr.rangeAt b1 (o1 + k * 65) (hdc (hs'.getD k hd0)) := hv1 k (by rw [HNH.out]; exact hkn)
          have h2 : wr.rangeAt b2 (o2 + k * 65) (hdc (hs'.getD k hd0)) := hv2 k (by rw [HNH.out]; exact hkn)
          have HXC : Hid (∀ W, Below wr.heap.size wr W → _) := Lib.hid (fun W h => HC.out W (Bt HBR.out h))
          have HYC : Hid (∀ W, Below wr.heap.size wr W → _) := Lib.hid (fun W h => HD.out W (Bt HBR.out h))
          have HW1 : Hid (∀ W, Below wr.heap.size wr W → W.rangeAt b1 (o1 + k * 65) (hdc (hs'.getD k hd0))) := Lib.hid (fun W hW => range_below hW h1)
          have HW2 : Hid (∀ W, Below wr.heap.size wr W → W.rangeAt b2 (o2 + k * 65) (hdc (hs'.getD k hd0))) := Lib.hid (fun W hW => range_below hW h2)
          have hok : (hs'.getD k hd0).ok := HOKH.out _ (getD_mem (by rw [HNH.out]; exact hkn))
          have HIV : Hid ((Tryz.prog.info? 47).map (·.size) = some (hdc (hs'.getD k hd0)).length) := Lib.hid (by rw [hdc_length hok]; kernel_rfl)
          have RN : Hid (∀ W, (binOp .neq 47 (.agg (hdc (hs'.getD k hd0)).toArray) (.agg (hdc (hs'.getD k hd0)).toArray)).run Tryz.prog W = .ok (.bool false) W) := Lib.hid (fun W => neqH W _ hok)
          clear h1 h2 hv1 hv2 hok
          generalize hs'.getD k hd0 = v at *
          go_wp2_with fail
          refine wp_region_held_drew (S := fun W => Below wr.heap.size wr W) (by kernel_rfl) ((Below.refl _ wr).drew) (fun hHeld => ?_)
          refine wpAnyH_take (i := 0) (oi := ⟨some 83, .fieldAddr 63 (.tmp 2) 2, _, _, _, none⟩) (v := ?_) rfl (by kernel_rfl) (by kernel_rfl) (by kernel_rfl) (fun _ _ _ h => h) (Or.inl ⟨by rfl, ?_⟩) hHeld ?_
          rotate_left
          · intro W _; go_simp; try with_reducible rfl
          try simp only [Act.put, List.setIfInBounds_toArray, List.set_cons_zero, List.set_cons_succ]
          refine wpAnyH_take (i := 1) (oi := ⟨some 84, .load 60 (.tmp 83), _, _, _, none⟩) (v := ?_) rfl (by kernel_rfl) (by kernel_rfl) (by kernel_rfl) (fun _ _ _ h => h) (Or.inl ⟨by rfl, ?_⟩) hHeld ?_
          rotate_left
          · intro W hS; have q0 := (HXC.out W hS).2.2.1; go_simp; try with_reducible rfl
          try simp only [Act.put, List.setIfInBounds_toArray, List.set_cons_zero, List.set_cons_succ]
          refine wpAnyH_take (i := 2) (oi := ⟨some 85, .move (.tmp 6), _, _, _, none⟩) (v := ?_) rfl (by kernel_rfl) (by kernel_rfl) (by kernel_rfl) (fun _ _ _ h => h) (Or.inl ⟨by rfl, ?_⟩) hHeld ?_
          rotate_left
          · intro W _; go_simp; try with_reducible rfl
          try simp only [Act.put, List.setIfInBounds_toArray, List.set_cons_zero, List.set_cons_succ]
          refine wpAnyH_take (i := 3) (oi := ⟨some 86, .indexAddr 60 (.tmp 84) (.tmp 85), _, _, _, none⟩) (v := ?_) rfl (by kernel_rfl) (by kernel_rfl) (by kernel_rfl) (fun _ _ _ h => h) (Or.inl ⟨by rfl, ?_⟩) hHeld ?_
          rotate_left
          · intro W _; go_simp; try with_reducible rfl
          try simp only [Act.put, List.setIfInBounds_toArray, List.set_cons_zero, List.set_cons_succ]
          refine wpAnyH_take (i := 4) (oi := ⟨some 87, .load 47 (.tmp 86), _, _, _, none⟩) (v := .agg (hdc v).toArray) rfl (by kernel_rfl) (by kernel_rfl) (by kernel_rfl) (fun _ _ _ h => h) (yieldsIf_load_mid (by rfl) _ _ rfl b1 (o1 + k * 65) rfl (hdc v) _ (fun W hS => HW1.out W hS) Tryz.underlying47 rfl HIV.out) hHeld ?_
          try simp only [Act.put, List.setIfInBounds_toArray, List.set_cons_zero, List.set_cons_succ]
          refine wpAnyH_take (i := 5) (oi := ⟨some 88, .fieldAddr 63 (.tmp 3) 2, _, _, _, none⟩) (v := ?_) rfl (by kernel_rfl) (by kernel_rfl) (by kernel_rfl) (fun _ _ _ h => h) (Or.inl ⟨by rfl, ?_⟩) hHeld ?_
          rotate_left
          · intro W _; go_simp; try with_reducible rfl
          try simp only [Act.put, List.setIfInBounds_toArray, List.set_cons_zero, List.set_cons_succ]
          refine wpAnyH_take (i := 6) (oi := ⟨some 89, .load 60 (.tmp 88), _, _, _, none⟩) (v := ?_) rfl (by kernel_rfl) (by kernel_rfl) (by kernel_rfl) (fun _ _ _ h => h) (Or.inl ⟨by rfl, ?_⟩) hHeld ?_
          rotate_left
          · intro W hS; have q0 := (HYC.out W hS).2.2.1; go_simp; try with_reducible rfl
          try simp only [Act.put, List.setIfInBounds_toArray, List.set_cons_zero, List.set_cons_succ]
          refine wpAnyH_take (i := 7) (oi := ⟨some 90, .move (.tmp 6), _, _, _, none⟩) (v := ?_) rfl (by kernel_rfl) (by kernel_rfl) (by kernel_rfl) (fun _ _ _ h => h) (Or.inl ⟨by rfl, ?_⟩) hHeld ?_
          rotate_left
          · intro W _; go_simp; try with_reducible rfl
          try simp only [Act.put, List.setIfInBounds_toArray, List.set_cons_zero, List.set_cons_succ]
          refine wpAnyH_take (i := 8) (oi := ⟨some 91, .indexAddr 60 (.tmp 89) (.tmp 90), _, _, _, none⟩) (v := ?_) rfl (by kernel_rfl) (by kernel_rfl) (by kernel_rfl) (fun _ _ _ h => h) (Or.inl ⟨by rfl, ?_⟩) hHeld ?_
          rotate_left
          · intro W _; go_simp; try with_reducible rfl
          try simp only [Act.put, List.setIfInBounds_toArray, List.set_cons_zero, List.set_cons_succ]
          refine wpAnyH_take (i := 9) (oi := ⟨some 92, .load 47 (.tmp 91), _, _, _, none⟩) (v := .agg (hdc v).toArray) rfl (by kernel_rfl) (by kernel_rfl) (by kernel_rfl) (fun _ _ _ h => h) (yieldsIf_load_mid (by rfl) _ _ rfl b2 (o2 + k * 65) rfl (hdc v) _ (fun W hS => HW2.out W hS) Tryz.underlying47 rfl HIV.out) hHeld ?_
          try simp only [Act.put, List.setIfInBounds_toArray, List.set_cons_zero, List.set_cons_succ]
          refine wpAnyH_take (i := 10) (oi := ⟨some 93, .binOp .neq 47 (.tmp 87) (.tmp 92) 47, _, _, _, none⟩) (v := .bool false) rfl (by kernel_rfl) (by kernel_rfl) (by kernel_rfl) (fun _ _ _ h => h) (yieldsIf_eqH (by rfl) .neq 47 47 (.tmp 87) (.tmp 92) rfl _ _ rfl rfl guardHd _ RN.out) hHeld ?_
          try simp only [Act.put, List.setIfInBounds_toArray, List.set_cons_zero, List.set_cons_succ]
          refine wpAnyH_done (by kernel_rfl) ?_ _
          have HBR2 := Lib.hid (Bt HBR.out hHeld)
          clear hHeld HXC HYC HW1 HW2 RN
          go_wp2_with fail
          go_roundw
          case rel => exact ⟨k + 1, by omega, by go_num, HBR2⟩
          case measure => simp [intOf]; omega
        · obtain rfl : k = nh := by omega
          have hki : ¬ (k : Int) < (k : Int) := by omega
          have HB3 := HBR
          go_wp2_with fail
          go_loopw [7] (fun i wr => ∃ j : Nat, j ≤ ns ∧ i = .int .i64 (j : Int) ∧ Hid (Below w1.heap.size w1 wr)) (fun i _ => ns - (intOf i).toNat)
          case atStart => exact ⟨0, by omega, rfl, HB3⟩
          case round =>
            clear c1 c2 c3 d1 d2 d3 HBR
            obtain ⟨k, hk, rfl, HBR⟩ := hrel
            obtain ⟨_, c1, c2, c3⟩ := HC.out _ HBR.out
            obtain ⟨_, d1, d2, d3⟩ := HD.out _ HBR.out
            by_cases hkn : k < ns
            · have hki : (k : Int) < (ns : Int) := by omega
              obtain ⟨b1, o1, ha1, _, hv1⟩ := (HX.out.2.2.2.below HBR.out).elems (by simp only; rw [HNS.out]; omega)
              obtain ⟨b2, o2, ha2, _, hv2⟩ := (HY.out.2.2.2.below HBR.out).elems (by simp only; rw [HNS.out]; omega)
              simp only at ha1 ha2 hv1 hv2
              subst ha1 ha2
              have h1 : wr.rangeAt b1 (o1 + k * 4) (sec (ss'.getD k se0)) := hv1 k (by rw [HNS.out]; exact hkn)
              have h2 : wr.rangeAt b2 (o2 + k * 4) (sec (ss'.getD k se0)) := hv2 k (by rw [HNS.out]; exact hkn)
              have HXC : Hid (∀ W, Below wr.heap.size wr W → _) := Lib.hid (fun W h => HC.out W (Bt HBR.out h))
              have HYC : Hid (∀ W, Below wr.heap.size wr W → _) := Lib.hid (fun W h => HD.out W (Bt HBR.out h))
              have HW1 : Hid (∀ W, Below wr.heap.size wr W → W.rangeAt b1 (o1 + k * 4) (sec (ss'.getD k se0))) := Lib.hid (fun W hW => range_below hW h1)
              have HW2 : Hid (∀ W, Below wr.heap.size wr W → W.rangeAt b2 (o2 + k * 4) (sec (ss'.getD k se0))) := Lib.hid (fun W hW => range_below hW h2)
              have HIV : Hid ((Tryz.prog.info? 100).map (·.size) = some (sec (ss'.getD k se0)).length) := Lib.hid (by rw [sec_length trivial]; kernel_rfl)
              have RN : Hid (∀ W, (binOp .neq 100 (.agg (sec (ss'.getD k se0)).toArray) (.agg (sec (ss'.getD k se0)).toArray)).run Tryz.prog W = .ok (.bool false) W) := Lib.hid (fun W => neqSe W _)
              clear h1 h2 hv1 hv2
              generalize ss'.getD k se0 = v at *
              go_wp2_with fail
              refine wp_region_held_drew (S := fun W => Below wr.heap.size wr W) (by kernel_rfl) ((Below.refl _ wr).drew) (fun hHeld => ?_)
              refine wpAnyH_take (i := 0) (oi := ⟨some 101, .fieldAddr 63 (.tmp 2) 3, _, _, _, none⟩) (v := ?_) rfl (by kernel_rfl) (by kernel_rfl) (by kernel_rfl) (fun _ _ _ h => h) (Or.inl ⟨by rfl, ?_⟩) hHeld ?_
              rotate_left
              · intro W _; go_simp; try with_reducible rfl
              try simp only [Act.put, List.setIfInBounds_toArray, List.set_cons_zero, List.set_cons_succ]
              refine wpAnyH_take (i := 1) (oi := ⟨some 102, .load 61 (.tmp 101), _, _, _, none⟩) (v := ?_) rfl (by kernel_rfl) (by kernel_rfl) (by kernel_rfl) (fun _ _ _ h => h) (Or.inl ⟨by rfl, ?_⟩) hHeld ?_
              rotate_left
              · intro W hS; have q0 := (HXC.out W hS).2.2.2; go_simp; try with_reducible rfl
              try simp only [Act.put, List.setIfInBounds_toArray, List.set_cons_zero, List.set_cons_succ]
              refine wpAnyH_take (i := 2) (oi := ⟨some 103, .move (.tmp 7), _, _, _, none⟩) (v := ?_) rfl (by kernel_rfl) (by kernel_rfl) (by kernel_rfl) (fun _ _ _ h => h) (Or.inl ⟨by rfl, ?_⟩) hHeld ?_
              rotate_left
              · intro W _; go_simp; try with_reducible rfl
              try simp only [Act.put, List.setIfInBounds_toArray, List.set_cons_zero, List.set_cons_succ]
              refine wpAnyH_take (i := 3) (oi := ⟨some 104, .indexAddr 61 (.tmp 102) (.tmp 103), _, _, _, none⟩) (v := ?_) rfl (by kernel_rfl) (by kernel_rfl) (by kernel_rfl) (fun _ _ _ h => h) (Or.inl ⟨by rfl, ?_⟩) hHeld ?_
              rotate_left
              · intro W _; go_simp; try with_reducible rfl
              try simp only [Act.put, List.setIfInBounds_toArray, List.set_cons_zero, List.set_cons_succ]
              refine wpAnyH_take (i := 4) (oi := ⟨some 105, .load 100 (.tmp 104), _, _, _, none⟩) (v := .agg (sec v).toArray) rfl (by kernel_rfl) (by kernel_rfl) (by kernel_rfl) (fun _ _ _ h => h) (yieldsIf_load_mid (by rfl) _ _ rfl b1 (o1 + k * 4) rfl (sec v) _ (fun W hS => HW1.out W hS) Tryz.underlying100 rfl HIV.out) hHeld ?_
              try simp only [Act.put, List.setIfInBounds_toArray, List.set_cons_zero, List.set_cons_succ]
              refine wpAnyH_take (i := 5) (oi := ⟨some 106, .fieldAddr 63 (.tmp 3) 3, _, _, _, none⟩) (v := ?_) rfl (by kernel_rfl) (by kernel_rfl) (by kernel_rfl) (fun _ _ _ h => h) (Or.inl ⟨by rfl, ?_⟩) hHeld ?_
              rotate_left
              · intro W _; go_simp; try with_reducible rfl
              try simp only [Act.put, List.setIfInBounds_toArray, List.set_cons_zero, List.set_cons_succ]
              refine wpAnyH_take (i := 6) (oi := ⟨some 107, .load 61 (.tmp 106), _, _, _, none⟩) (v := ?_) rfl (by kernel_rfl) (by kernel_rfl) (by kernel_rfl) (fun _ _ _ h => h) (Or.inl ⟨by rfl, ?_⟩) hHeld ?_
              rotate_left
              · intro W hS; have q0 := (HYC.out W hS).2.2.2; go_simp; try with_reducible rfl
              try simp only [Act.put, List.setIfInBounds_toArray, List.set_cons_zero, List.set_cons_succ]
              refine wpAnyH_take (i := 7) (oi := ⟨some 108, .move (.tmp 7), _, _, _, none⟩) (v := ?_) rfl (by kernel_rfl) (by kernel_rfl) (by kernel_rfl) (fun _ _ _ h => h) (Or.inl ⟨by rfl, ?_⟩) hHeld ?_
              rotate_left
              · intro W _; go_simp; try with_reducible rfl
              try simp only [Act.put, List.setIfInBounds_toArray, List.set_cons_zero, List.set_cons_succ]
              refine wpAnyH_take (i := 8) (oi := ⟨some 109, .indexAddr 61 (.tmp 107) (.tmp 108), _, _, _, none⟩) (v := ?_) rfl (by kernel_rfl) (by kernel_rfl) (by kernel_rfl) (fun _ _ _ h => h) (Or.inl ⟨by rfl, ?_⟩) hHeld ?_
              rotate_left
              · intro W _; go_simp; try with_reducible rfl
              try simp only [Act.put, List.setIfInBounds_toArray, List.set_cons_zero, List.set_cons_succ]
              refine wpAnyH_take (i := 9) (oi := ⟨some 110, .load 100 (.tmp 109), _, _, _, none⟩) (v := .agg (sec v).toArray) rfl (by kernel_rfl) (by kernel_rfl) (by kernel_rfl) (fun _ _ _ h => h) (yieldsIf_load_mid (by rfl) _ _ rfl b2 (o2 + k * 4) rfl (sec v) _ (fun W hS => HW2.out W hS) Tryz.underlying100 rfl HIV.out) hHeld ?_
              try simp only [Act.put, List.setIfInBounds_toArray, List.set_cons_zero, List.set_cons_succ]
              refine wpAnyH_take (i := 10) (oi := ⟨some 111, .binOp .neq 100 (.tmp 105) (.tmp 110) 100, _, _, _, none⟩) (v := .bool false) rfl (by kernel_rfl) (by kernel_rfl) (by kernel_rfl) (fun _ _ _ h => h) (yieldsIf_eqH (by rfl) .neq 100 100 (.tmp 105) (.tmp 110) rfl _ _ rfl rfl guardSe _ RN.out) hHeld ?_
              try simp only [Act.put, List.setIfInBounds_toArray, List.set_cons_zero, List.set_cons_succ]
              refine wpAnyH_done (by kernel_rfl) ?_ _
              have HBR2 := Lib.hid (Bt HBR.out hHeld)
              clear hHeld HXC HYC HW1 HW2 RN
              go_wp2_with fail
              go_roundw
              case rel => exact ⟨k + 1, by omega, by go_num, HBR2⟩
              case measure => simp [intOf]; omega
            · obtain rfl : k = ns := by omega
              have hki : ¬ (k : Int) < (k : Int) := by omega
              go_wp2_with fail
              go_ret
              exact ⟨rfl, Bt HBW.out HBR.out⟩
end Go.Proofs.YtoclahcibilbhaaGreat
