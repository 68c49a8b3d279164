/-
  A directory in memory of its own.
-/
import Derived.Test.YteeefehbfamfiaaWirT5
namespace Go.Proofs.Yteeefehbfamfiaa
open Go.RowKit
set_option maxRecDepth 100000

theorem yieldsIf_buildU {ops : Array Oper} {S : World → Prop} {o : Oper} {a : Act} (hw : Region.wanted o (yielded ops a.tmps) = true) (T : TypeId) (parts : Array (Nat × Operand)) (ho : o.op = .build T parts)
    {vs : List Value} {ps : List (Nat × Value)} (hp : parts.toList.map (fun p => (p.1, a.eval p.2)) = ps) (hb : Try.prog.built T ps = some vs.toArray) : YieldsIf Try.prog ops S o (.agg vs.toArray) a := by
  have hb : Try.prog.built T (parts.map fun (i, x) => (i, a.eval x)).toList = some vs.toArray := by rw [Array.toList_map]; rw [← hb, ← hp]
  exact .inl ⟨hw, fun W _ => by
    unfold execOp
    simp only [ho, Sem.run_bind, run_build W T _ vs.toArray hb, Result.andThen_ok]
    rfl⟩
theorem built_ux0 (nm : ByteArray) (a : Option Addr) (n c : Nat) : Try.prog.built 86 [(0, .string nm), (1, .slice a n c)] = some ([.string nm, .slice a n c] : List Value).toArray := by kernel_rfl
theorem built_ux (nm : ByteArray) (l : List Vn) (a : Option Addr) (c : Nat) : Try.prog.built 86 [(0, .string nm), (1, .slice a l.length c)] = some (uxc ⟨nm, l, a, c⟩).toArray := built_ux0 nm a l.length c
theorem built_dep (ep : Int) : Try.prog.built 62 [(0, .int .i64 ep)] = some (dic ⟨ep, [], none, 0, [], none, 0, [], none, 0⟩).toArray := by kernel_rfl

/-- append(nil, x...) -/
theorem wpList_app0G {α : Type} (R : Row α) {w : World} {ops : Array Oper} {rest : List Oper} {o : Oper} {a : Act} {Q : Exit → Act → World → Prop} (hgd : o.guard = none) (s x : Operand)
    (ho : o.op = Op.call { callee := Callee.builtin Builtin.append, args := #[s, x], argTypes := #[R.S, R.S] })
    {base : Nat} {l : List α} {ao : Option Addr} {n c : Nat} (hs : a.eval s = .slice none 0 0) (hx : a.eval x = .slice ao n c) (hR : RdG R w ao n c l)
    (hsz : n ≤ 1000000) (hbase : base ≤ w.heap.size)
    (hK : ∀ ao' c' w', OwnG R w' base (.slice ao' n c') l → Below w.heap.size w w' → wpList Try.prog ops Q rest (a.put o.dst (.slice ao' n c')) w') :
    wpList Try.prog ops Q (o :: rest) a w := by
  refine wpList_appG R hgd s x ho hs (OwnG.nil0 w base) hx hR (by simpa using hsz) hbase ?_
  intro ao' c' w' h1 h2 _
  simp only [List.length_nil, Nat.zero_add, List.nil_append] at h1 ⊢
  exact hK ao' c' w' h1 ((Below.refl _ w).grown h2 (Nat.le_refl _) (by simp [Value.ownBlock]))

/-- what a call knows of the copy that it makes: k users are copied -/
structure OwnAt (w W : World) (x : Di) (k : Nat) (qs : List Ux) (qa : Option Addr) (qc : Nat) : Prop where
  bel : Below w.heap.size w W
  b0 : Blk W w.heap.size 62 (dic x)
  b1 : Blk W (w.heap.size + 1) 62 (dic di0)
  b2 : Blk W (w.heap.size + 1 + 1) 62 (dic ⟨x.ep, qs, qa, qc, [], none, 0, [], none, 0⟩)
  own : OwnG usR W w.heap.size (.slice qa qs.length qc) qs
  each : ∀ q ∈ qs, Ux.own W w.heap.size q
  cl : qs.map Ux.cl = (x.us.take k).map Ux.cl
  len : qs.length = k

theorem OwnAt.below {w W W' : World} {x : Di} {k : Nat} {qs : List Ux} {qa : Option Addr} {qc : Nat} (h : OwnAt w W x k qs qa qc) (hb : Below W.heap.size W W') : OwnAt w W' x k qs qa qc :=
  ⟨Bt h.bel hb, h.b0.below hb, h.b1.below hb, h.b2.below hb, h.own.below hb, fun q hq => Ux.own_keep (h.each q hq) (KpT.below hb), h.cl, h.len⟩
theorem OwnAt.step {w W0 W1 W2 : World} {x : Di} {k : Nat} {qs : List Ux} {qa a6 : Option Addr} {qc c6 : Nat} {u2 : Ux} (h : OwnAt w W0 x k qs qa qc) (hB1 : Below W0.heap.size W0 W1)
    (hO6 : OwnG usR W2 w.heap.size (.slice a6 (qs.length + 1) c6) (qs ++ [u2])) (hg6 : W1.grownBy W2 (Value.slice qa qs.length qc).ownBlock) (hv : Ux.own W0 w.heap.size u2) (hcl : (x.us.take (k + 1)).map Ux.cl = (x.us.take k).map Ux.cl ++ [u2.cl]) :
    OwnAt w (W2.setCell ⟨w.heap.size + 1 + 1, 1, none⟩ (.slice a6 (qs.length + 1) c6)) x (k + 1) (qs ++ [u2]) a6 c6 := by
  have h1 := h.below hB1
  have no : ∀ {z : Nat} {vs : List Value}, Blk W1 z 62 vs → (Value.slice qa qs.length qc).ownBlock ≠ some z := fun hb e => h1.own.noT (T := 62) (by decide) _ e _ _ hb.at_
  have hgs := set_grown W2 (w.heap.size + 1 + 1) 1 (.slice a6 (qs.length + 1) c6)
  have hb2 := h1.b2.grown hg6 (no h1.b2)
  have kv : KpT 96 W1 (W2.setCell ⟨w.heap.size + 1 + 1, 1, none⟩ (.slice a6 (qs.length + 1) c6)) :=
    (KpT.grown hg6 (fun g e => h1.own.noT (by decide) g e)).trans (KpT.grown hgs (fun g e => by cases e; exact hb2.noT (by decide)))
  refine ⟨(h1.bel.grown hg6 h1.bel.size (fun k e => (h1.own.lt e).1)).grown hgs (Nat.le_trans h1.bel.size hg6.size) (fun k e => by cases e; omega), (h1.b0.grown hg6 (no h1.b0)).grown hgs (by simp; omega), (h1.b1.grown hg6 (no h1.b1)).grown hgs (by simp), ?_, ?_, fun q hq => ?_, ?_, by simp [h.len]⟩
  · have := hb2.set 1 (.slice a6 (qs.length + 1) c6)
    simpa [dic] using this
  · have := hO6.kpT (KpT.grown hgs (fun g e => by cases e; exact hb2.noT (by decide)))
    simpa using this
  · rcases List.mem_append.1 hq with hq | hq
    · exact Ux.own_keep (h1.each q hq) kv
    · simp only [List.mem_singleton] at hq
      subst hq
      exact Ux.own_keep (Ux.own_keep hv (KpT.below hB1)) kv
  · rw [List.map_append, h.cl, hcl]; rfl
set_option maxHeartbeats 8000000 in
theorem own_directory (w : World) (x : Di) (hx : x.at w) (hsm : DiSmall x) :
    Calls Try.prog 20 #[.agg (dic x).toArray] w fun f w' => (∃ y : Di, y.cl = x.cl ∧ f = .returned (.agg (dic y).toArray) ∧ Di.own w' w.heap.size y) ∧ Below w.heap.size w w' := by
  have B0 := Lib.hid (built_dep x.ep)
  have ISX : Hid ((Try.prog.info? 62).map (·.size) = some (dic ⟨x.ep, [], none, 0, [], none, 0, [], none, 0⟩).length) := Lib.hid (by kernel_rfl)
  have hb0 := Blk.new w 62 (dic x)
  have hB0 : Below w.heap.size w (w.alloc (.cells (dic x).toArray 62)) := (Below.refl _ w).alloc (Nat.le_refl _) _
  have hz0 : (w.alloc (.cells (dic x).toArray 62)).heap.size = w.heap.size + 1 := by simp
  have hc0 := hb0.cell (j := 0) (v := .int .i64 x.ep) rfl
  have HX := Lib.hid hx
  have HSM := Lib.hid hsm
  clear hx hsm
  go_enter Try.func20, Try.ntmps20
  have HC0 : Hid (∀ W, Below (w.heap.size + 1) (w.alloc (.cells (dic x).toArray 62)) W → W.cell? ⟨w.heap.size, 0, none⟩ = some (.int .i64 x.ep)) := Lib.hid (fun W h => (h.cell (by simp)).trans hc0)
  go_wp2_with (first
    | (((with_reducible refine wpList_allocB (o := ⟨some 2, _, _, _, _, _⟩) ?_ 62 ?_ di0_info ?_); rfl; rfl; intro w1 hb1 hg1 hz1); have hc1 := (hb0.grown hg1 (by simp)).cell (j := 0) (v := .int .i64 x.ep) rfl)
    | ((with_reducible refine wpList_buildI (dst := some 8) B0.out ?_ ?_); rfl)
    | ((with_reducible refine wpList_allocB (o := ⟨some 3, _, _, _, _, _⟩) ?_ 62 ?_ di0_info ?_); rfl; rfl; intro w2 hb2 hg2 hz2)
    | ((with_reducible refine wpList_storeB (o := ⟨none, .store 62 (.tmp 3) (.tmp 8), _, _, _, _⟩) ?_ 62 (.tmp 3) (.tmp 8) ?_ ?_ ?_ hb2 ISX.out rfl (dic_one _) ?_); rfl; rfl; rfl; rfl; intro w3 hb3 hg3 hz3))
  have hs1 : w1.heap.size = w.heap.size + 1 + 1 := by omega
  have hs3 : w3.heap.size = w.heap.size + 1 + 1 + 1 := by omega
  rw [hz0] at hb1
  rw [hs1] at hb3
  have HO3 : OwnAt w w3 x 0 [] none 0 := by
    refine ⟨((hB0.grown hg1 hB0.size (by simp)).grown hg2 (by omega) (by simp)).grown hg3 (by omega) (fun k e => by cases e; omega), ?_, ?_, hb3, OwnG.nil0 _ _, (fun q hq => by simp at hq), rfl, rfl⟩
    · exact ((hb0.grown hg1 (by simp)).grown hg2 (by simp)).grown hg3 (by simp; omega)
    · exact ((hb1.grown hg2 (by simp)).grown hg3 (by simp; omega))
  have hnu := HSM.out.1
  clear hb0 hB0 hz0 hc0 hb1 hg1 hz1 hb2 hg2 hz2 hb3 hg3 hz3 hs1 hs3 hc1 HC0
  have HC := Lib.hid (fun (W : World) k qs qa qc (h : OwnAt w W x k qs qa qc) => di_cells x W _ h.b0)
  have hcap := HX.out.1.cap
  generalize hn : x.us.length = nu at *
  have HN := Lib.hid hn
  clear hn
  go_loopw [4] (fun i wr => ∃ (k : Nat) (qs : List Ux) (qa : Option Addr) (qc : Nat), k ≤ nu ∧ i = .int .i64 (k : Int) ∧ Hid (OwnAt w wr x k qs qa qc)) (fun i _ => nu - (intOf i).toNat)
  case atStart => exact ⟨0, [], none, 0, by omega, rfl, Lib.hid HO3⟩
  case round =>
    clear HO3
    obtain ⟨k, qs, qa, qc, hk, rfl, HO⟩ := hrel
    obtain ⟨_, c1, c2, c3⟩ := HC.out _ _ _ _ _ HO.out
    by_cases hkn : k < nu
    · have hki : (k : Int) < (nu : Int) := by omega
      obtain ⟨ub, uo, hua, _, hcv⟩ := us_cells (HX.out.1.below HO.out.bel) k (by rw [HN.out]; exact hkn)
      rw [hua] at c1
      have HUC : Hid (∀ W, Below w.heap.size w W → W.cell? ⟨ub, uo + k * 2, none⟩ = some (.string (x.us.getD k ux0).nm)) := Lib.hid (fun W hW => by
        obtain ⟨b2, o2, e2, h2, _⟩ := us_cells (HX.out.1.below hW) k (by rw [HN.out]; exact hkn)
        rw [hua] at e2; cases e2; exact h2)
      have HUM : x.us.getD k ux0 ∈ x.us := getD_mem (by rw [HN.out]; exact hkn)
      have hrv := (HX.out.2.1 _ HUM).below HO.out.bel
      have hvl : (x.us.getD k ux0).vs.length ≤ 5000 := HSM.out.2.2.2 _ HUM
      have HTK : Hid ((x.us.take (k + 1)).map Ux.cl = (x.us.take k).map Ux.cl ++ [(x.us.getD k ux0).cl]) := Lib.hid (by
        have hl : k < x.us.length := by rw [HN.out]; exact hkn
        have e : x.us.getD k ux0 = x.us[k] := by simp [List.getD, hl]
        rw [e, List.take_succ_eq_append_getElem hl, List.map_append]; rfl)
      have HS : Hid (w.heap.size ≤ wr.heap.size) := Lib.hid HO.out.bel.size
      clear HUM
      generalize x.us.getD k ux0 = u at *
      have hsz : u.vs.length ≤ 1000000 := by omega
      go_wp2_with (first | ((with_reducible refine wpList_app0G verR (o := ⟨some 23, _, _, _, _, _⟩) ?_ (.tmp 16) (.tmp 22) ?_ ?_ ?_ hrv hsz HS.out ?_); rfl; rfl; rfl; rfl; intro a1 c4 w4 hO4 hB4))
      have hSd : Below w.heap.size w w4.drew ∧ Blk w4.drew w.heap.size 62 (dic x) := ⟨(Bt HO.out.bel hB4).drew, (HO.out.b0.below hB4).drew⟩
      have hBd : Below wr.heap.size wr w4.drew := hB4.drew
      have HO0 := Lib.hid (HO.out.below hBd)
      have HV0 : Hid (OwnV w4.drew w.heap.size (.slice a1 u.vs.length c4) u.vs) := Lib.hid (OwnG.below hO4 (Below.refl _ w4).drew)
      have HBU := Lib.hid (built_ux u.nm u.vs a1 c4)
      have HX1 : Hid (∀ W, Blk W w.heap.size 62 (dic x) → W.cell? ⟨w.heap.size, 1, none⟩ = some (.slice (some ⟨ub, uo, none⟩) nu x.usc)) := Lib.hid (fun W hW => by
        have := (di_cells x W _ hW).2.1
        rw [hua, HN.out] at this; exact this)
      generalize hu2 : (⟨u.nm, u.vs, a1, c4⟩ : Ux) = u2 at *
      have HV4 : Hid (Ux.own w4.drew w.heap.size u2) := Lib.hid (by subst hu2; exact HV0.out)
      have HKC : Hid ((x.us.take (k + 1)).map Ux.cl = (x.us.take k).map Ux.cl ++ [u2.cl]) := Lib.hid (by rw [HTK.out]; subst hu2; rfl)
      have hln : qs.length + 1 ≤ 1000000 := by have := HO.out.len; omega
      clear hO4 hB4 hBd c1 c2 c3 hcv hrv hvl hsz HV0 hu2
      refine wp_region_held_drew (S := fun W => Below w.heap.size w W ∧ Blk W w.heap.size 62 (dic x)) (by kernel_rfl) hSd (fun hHeld => ?_)
      generalize w4.drew = W0 at *
      have hB1 : Below W0.heap.size W0 (W0.alloc (.cells (usR.cells [u2]).toArray usR.T)) := (Below.refl _ W0).alloc (Nat.le_refl _) _
      have hR1 : RdG usR (W0.alloc (.cells (usR.cells [u2]).toArray usR.T)) (some ⟨W0.heap.size, 0, none⟩) 1 1 [u2] := RdG.many W0 (Row.all.single trivial) rfl (by decide)
      have hO1 := HO0.out.own.below hB1
      have hBB : w.heap.size ≤ (W0.alloc (.cells (usR.cells [u2]).toArray usR.T)).heap.size := Nat.le_trans HO0.out.bel.size hB1.size
      have hck0 := HO0.out.b2.cell (j := 1) (v := .slice qa qs.length qc) rfl
      have hck1 := (HO0.out.b2.below hB1).cell (j := 1) (v := .slice qa qs.length qc) rfl
      refine wpAnyH_take (i := 0) (oi := ⟨some 24, .fieldAddr 62 (.tmp 3) 1, _, _, _, none⟩) (v := ?_) rfl (by kernel_rfl) (by kernel_rfl) (by kernel_rfl) (fun _ _ _ h => h) (Or.inl ⟨by rfl, ?_⟩) hHeld ?_
      rotate_left
      · intro W _; go_simp; try with_reducible rfl
      try simp only [Act.put, List.setIfInBounds_toArray, List.set_cons_zero, List.set_cons_succ]
      refine wpAnyH_take (i := 2) (oi := ⟨some 26, .fieldAddr 62 (.tmp 1) 1, _, _, _, none⟩) (v := ?_) rfl (by kernel_rfl) (by kernel_rfl) (by kernel_rfl) (fun _ _ _ h => h) (Or.inl ⟨by rfl, ?_⟩) hHeld ?_
      rotate_left
      · intro W _; go_simp; try with_reducible rfl
      try simp only [Act.put, List.setIfInBounds_toArray, List.set_cons_zero, List.set_cons_succ]
      refine wpAnyH_take (i := 3) (oi := ⟨some 27, .load 58 (.tmp 26), _, _, _, none⟩) (v := ?_) rfl (by kernel_rfl) (by kernel_rfl) (by kernel_rfl) (fun _ _ _ h => h) (Or.inl ⟨by rfl, ?_⟩) hHeld ?_
      rotate_left
      · intro W hS; have q0 := HX1.out W hS.2; go_simp; try with_reducible rfl
      try simp only [Act.put, List.setIfInBounds_toArray, List.set_cons_zero, List.set_cons_succ]
      refine wpAnyH_take (i := 4) (oi := ⟨some 28, .move (.tmp 4), _, _, _, none⟩) (v := ?_) rfl (by kernel_rfl) (by kernel_rfl) (by kernel_rfl) (fun _ _ _ h => h) (Or.inl ⟨by rfl, ?_⟩) hHeld ?_
      rotate_left
      · intro W _; go_simp; try with_reducible rfl
      try simp only [Act.put, List.setIfInBounds_toArray, List.set_cons_zero, List.set_cons_succ]
      refine wpAnyH_take (i := 5) (oi := ⟨some 29, .indexAddr 58 (.tmp 27) (.tmp 28), _, _, _, none⟩) (v := ?_) rfl (by kernel_rfl) (by kernel_rfl) (by kernel_rfl) (fun _ _ _ h => h) (Or.inl ⟨by rfl, ?_⟩) hHeld ?_
      rotate_left
      · intro W _; go_simp; try with_reducible rfl
      try simp only [Act.put, List.setIfInBounds_toArray, List.set_cons_zero, List.set_cons_succ]
      refine wpAnyH_take (i := 6) (oi := ⟨some 30, .fieldAddr 86 (.tmp 29) 0, _, _, _, none⟩) (v := ?_) rfl (by kernel_rfl) (by kernel_rfl) (by kernel_rfl) (fun _ _ _ h => h) (Or.inl ⟨by rfl, ?_⟩) hHeld ?_
      rotate_left
      · intro W _; go_simp; try with_reducible rfl
      try simp only [Act.put, List.setIfInBounds_toArray, List.set_cons_zero, List.set_cons_succ]
      refine wpAnyH_take (i := 7) (oi := ⟨some 31, .load 9 (.tmp 30), _, _, _, none⟩) (v := ?_) rfl (by kernel_rfl) (by kernel_rfl) (by kernel_rfl) (fun _ _ _ h => h) (Or.inl ⟨by rfl, ?_⟩) hHeld ?_
      rotate_left
      · intro W hS; have q0 := HUC.out W hS.1; go_simp; try with_reducible rfl
      try simp only [Act.put, List.setIfInBounds_toArray, List.set_cons_zero, List.set_cons_succ]
      refine wpAnyH_take (i := 8) (oi := ⟨some 32, .move (.tmp 5), _, _, _, none⟩) (v := ?_) rfl (by kernel_rfl) (by kernel_rfl) (by kernel_rfl) (fun _ _ _ h => h) (Or.inl ⟨by rfl, ?_⟩) hHeld ?_
      rotate_left
      · intro W _; go_simp; try with_reducible rfl
      try simp only [Act.put, List.setIfInBounds_toArray, List.set_cons_zero, List.set_cons_succ]
      refine wpAnyH_take (i := 9) (oi := ⟨some 33, .build 86 #[(0, .tmp 31), (1, .tmp 32)], _, _, _, none⟩) (v := .agg (uxc u2).toArray) rfl (by kernel_rfl) (by kernel_rfl) (by kernel_rfl) (fun _ _ _ h => h) (yieldsIf_buildU (by rfl) _ _ rfl (ps := [(0, .string u.nm), (1, .slice a1 u.vs.length c4)]) rfl HBU.out) hHeld ?_
      try simp only [Act.put, List.setIfInBounds_toArray, List.set_cons_zero, List.set_cons_succ]
      refine wpAnyH_ready (rs := [1, 10]) (by kernel_rfl) (by simp) ?_
      refine AllReadyH.cons (o := ⟨some 25, .load 58 (.tmp 24), _, _, _, none⟩) rfl (fun K hK => ?_) (AllReadyH.cons (o := ⟨some 34, .buildSlice 58 1 #[(0, .tmp 33)], _, _, _, none⟩) rfl (fun K hK => ?_) AllReadyH.nil)
      · refine step_ofR (by rfl) ?_
        go_simp
        refine hK.out _ _ (hHeld) (fun hHeld => ?_)
        clear hK K
        try simp only [Act.put, List.setIfInBounds_toArray, List.set_cons_zero, List.set_cons_succ]
        refine wpAnyH_ready (rs := [10]) (by kernel_rfl) (by simp) ?_
        refine AllReadyH.cons (o := ⟨some 34, .buildSlice 58 1 #[(0, .tmp 33)], _, _, _, none⟩) rfl (fun K hK => ?_) AllReadyH.nil
        refine step_ofR (by rfl) ?_
        refine wp_oneG usR (.tmp 33) rfl (y1 := u2) trivial rfl ?_
        refine hK.out _ _ (⟨hHeld.1.alloc hHeld.1.size _, hHeld.2.alloc _⟩) (fun hHeld => ?_)
        clear hK K
        try simp only [Act.put, List.setIfInBounds_toArray, List.set_cons_zero, List.set_cons_succ]
        refine wpAnyH_ready (rs := [11]) (by kernel_rfl) (by simp) ?_
        refine AllReadyH.cons (o := ⟨some 35, .call { callee := .builtin .append, args := #[.tmp 25, .tmp 34], argTypes := #[58, 58] }, _, _, _, none⟩) rfl (fun K hK => ?_) AllReadyH.nil
        refine step_ofR (by rfl) ?_
        refine wp_appG usR (.tmp 25) (.tmp 34) rfl rfl hO1 rfl hR1 hln hBB ?_
        intro a6 c6 W2 hO6 hg6 hx6
        refine hK.out _ _ (⟨hHeld.1.grown hg6 hHeld.1.size (fun k e => (hO1.lt e).1), hHeld.2.grown hg6 (fun e => hO1.noT (T := 62) (by decide) _ e _ _ hHeld.2.at_)⟩) (fun hHeld => ?_)
        clear hK K
        try simp only [Act.put, List.setIfInBounds_toArray, List.set_cons_zero, List.set_cons_succ]
        have hb26 := (HO0.out.b2.below hB1).grown hg6 (fun e => hO1.noT (T := 62) (by decide) _ e _ _ (HO0.out.b2.below hB1).at_)
        have hc6 := hb26.cell (j := 1) (v := .slice qa qs.length qc) rfl
        have hf6 := hb26.free 1
        refine wpAnyH_take (i := 12) (oi := ⟨some 36, .fieldAddr 62 (.tmp 3) 1, _, _, _, none⟩) (v := ?_) rfl (by kernel_rfl) (by kernel_rfl) (by kernel_rfl) (fun _ _ _ h => h) (Or.inl ⟨by rfl, ?_⟩) hHeld ?_
        rotate_left
        · intro W _; go_simp; try with_reducible rfl
        try simp only [Act.put, List.setIfInBounds_toArray, List.set_cons_zero, List.set_cons_succ]
        refine wpAnyH_ready (rs := [13]) (by kernel_rfl) (by simp) ?_
        refine AllReadyH.cons (o := ⟨none, .store 58 (.tmp 36) (.tmp 35), _, _, _, none⟩) rfl (fun K hK => ?_) AllReadyH.nil
        refine step_ofR (by rfl) ?_
        go_simp
        refine hK.out _ _ (⟨hHeld.1.trans ⟨rfl, rfl, rfl, by simp [World.setCell], fun k hk => Below.heap_setCell W2 _ _ k (by simp; omega)⟩, hHeld.2.setOther _ _ (by simp; omega)⟩) (fun hHeld => ?_)
        clear hK K
        try simp only [Act.put, List.setIfInBounds_toArray, List.set_cons_zero, List.set_cons_succ]
        refine wpAnyH_done (by kernel_rfl) ?_ _
        have HO9 := Lib.hid (HO0.out.step hB1 hO6 hg6 HV4.out HKC.out)
        clear hHeld hB1 hR1 hO1 hBB hck0 hck1 hO6 hg6 hx6 hb26 hc6 hf6
        go_wp2_with fail
        go_roundw
        case rel => exact ⟨k + 1, qs ++ [u2], a6, c6, by omega, by go_num, HO9⟩
        case measure => simp [intOf]; omega
      · refine step_ofR (by rfl) ?_
        refine wp_oneG usR (.tmp 33) rfl (y1 := u2) trivial rfl ?_
        refine hK.out _ _ (⟨hHeld.1.alloc hHeld.1.size _, hHeld.2.alloc _⟩) (fun hHeld => ?_)
        clear hK K
        try simp only [Act.put, List.setIfInBounds_toArray, List.set_cons_zero, List.set_cons_succ]
        refine wpAnyH_ready (rs := [1]) (by kernel_rfl) (by simp) ?_
        refine AllReadyH.cons (o := ⟨some 25, .load 58 (.tmp 24), _, _, _, none⟩) rfl (fun K hK => ?_) AllReadyH.nil
        refine step_ofR (by rfl) ?_
        go_simp
        refine hK.out _ _ (hHeld) (fun hHeld => ?_)
        clear hK K
        try simp only [Act.put, List.setIfInBounds_toArray, List.set_cons_zero, List.set_cons_succ]
        refine wpAnyH_ready (rs := [11]) (by kernel_rfl) (by simp) ?_
        refine AllReadyH.cons (o := ⟨some 35, .call { callee := .builtin .append, args := #[.tmp 25, .tmp 34], argTypes := #[58, 58] }, _, _, _, none⟩) rfl (fun K hK => ?_) AllReadyH.nil
        refine step_ofR (by rfl) ?_
        refine wp_appG usR (.tmp 25) (.tmp 34) rfl rfl hO1 rfl hR1 hln hBB ?_
        intro a6 c6 W2 hO6 hg6 hx6
        refine hK.out _ _ (⟨hHeld.1.grown hg6 hHeld.1.size (fun k e => (hO1.lt e).1), hHeld.2.grown hg6 (fun e => hO1.noT (T := 62) (by decide) _ e _ _ hHeld.2.at_)⟩) (fun hHeld => ?_)
        clear hK K
        try simp only [Act.put, List.setIfInBounds_toArray, List.set_cons_zero, List.set_cons_succ]
        have hb26 := (HO0.out.b2.below hB1).grown hg6 (fun e => hO1.noT (T := 62) (by decide) _ e _ _ (HO0.out.b2.below hB1).at_)
        have hc6 := hb26.cell (j := 1) (v := .slice qa qs.length qc) rfl
        have hf6 := hb26.free 1
        refine wpAnyH_take (i := 12) (oi := ⟨some 36, .fieldAddr 62 (.tmp 3) 1, _, _, _, none⟩) (v := ?_) rfl (by kernel_rfl) (by kernel_rfl) (by kernel_rfl) (fun _ _ _ h => h) (Or.inl ⟨by rfl, ?_⟩) hHeld ?_
        rotate_left
        · intro W _; go_simp; try with_reducible rfl
        try simp only [Act.put, List.setIfInBounds_toArray, List.set_cons_zero, List.set_cons_succ]
        refine wpAnyH_ready (rs := [13]) (by kernel_rfl) (by simp) ?_
        refine AllReadyH.cons (o := ⟨none, .store 58 (.tmp 36) (.tmp 35), _, _, _, none⟩) rfl (fun K hK => ?_) AllReadyH.nil
        refine step_ofR (by rfl) ?_
        go_simp
        refine hK.out _ _ (⟨hHeld.1.trans ⟨rfl, rfl, rfl, by simp [World.setCell], fun k hk => Below.heap_setCell W2 _ _ k (by simp; omega)⟩, hHeld.2.setOther _ _ (by simp; omega)⟩) (fun hHeld => ?_)
        clear hK K
        try simp only [Act.put, List.setIfInBounds_toArray, List.set_cons_zero, List.set_cons_succ]
        refine wpAnyH_done (by kernel_rfl) ?_ _
        have HO9 := Lib.hid (HO0.out.step hB1 hO6 hg6 HV4.out HKC.out)
        clear hHeld hB1 hR1 hO1 hBB hck0 hck1 hO6 hg6 hx6 hb26 hc6 hf6
        go_wp2_with fail
        go_roundw
        case rel => exact ⟨k + 1, qs ++ [u2], a6, c6, by omega, by go_num, HO9⟩
        case measure => simp [intOf]; omega
    · obtain rfl : k = nu := by omega
      have hki : ¬ (k : Int) < (k : Int) := by omega
      have hz2h := HO.out.b2.cell (j := 2) (v := .slice none 0 0) rfl
      have hrh := HX.out.2.2.1.below HO.out.bel
      have hszh : x.hs.length ≤ 1000000 := by have := HSM.out.2.1; omega
      have hszs : x.ss.length ≤ 1000000 := by have := HSM.out.2.2.1; omega
      have HS : Hid (w.heap.size ≤ wr.heap.size) := Lib.hid HO.out.bel.size
      have HQ : Hid (qs.map Ux.cl = x.us.map Ux.cl) := Lib.hid (by have := HO.out.cl; rwa [List.take_of_length_le (by rw [HN.out]; omega)] at this)
      have HYL : Hid (∀ a5 c5 a7 c7, (dic ⟨x.ep, qs, qa, qc, x.hs, a5, c5, x.ss, a7, c7⟩).length = 4) := Lib.hid (fun _ _ _ _ => rfl)
      have ISY : Hid (∀ a5 c5 a7 c7, (Try.prog.info? 62).map (·.size) = some (dic ⟨x.ep, qs, qa, qc, x.hs, a5, c5, x.ss, a7, c7⟩).length) := Lib.hid (fun _ _ _ _ => by kernel_rfl)
      go_wp2_with (first
        | (((with_reducible refine wpList_app0G hdR (o := ⟨some 41, _, _, _, _, _⟩) ?_ (.tmp 38) (.tmp 40) ?_ ?_ ?_ hrh hszh HS.out ?_); rfl; rfl; rfl; rfl; intro a5 c5 w5 hO5 hB5); have hb5 := HO.out.b2.below hB5; have hc5 := hb5.cell (j := 2) (v := .slice none 0 0) rfl; have hf5 := hb5.free 2; have hb6 : Blk (w5.setCell ⟨w.heap.size + 1 + 1, 2, none⟩ (.slice a5 x.hs.length c5)) (w.heap.size + 1 + 1) 62 (dic ⟨x.ep, qs, qa, qc, x.hs, a5, c5, [], none, 0⟩) := hb5.set 2 (.slice a5 x.hs.length c5); have hc6 := hb6.cell (j := 3) (v := .slice none 0 0) rfl; have h06 := (HO.out.b0.below hB5).setOther ⟨w.heap.size + 1 + 1, 2, none⟩ (.slice a5 x.hs.length c5) (by simp; omega); have hx6 := h06.cell (j := 3) (v := .slice x.ssa x.ss.length x.ssc) rfl; have hB6 : Below w.heap.size w (w5.setCell ⟨w.heap.size + 1 + 1, 2, none⟩ (.slice a5 x.hs.length c5)) := (Bt HO.out.bel hB5).grown (set_grown _ _ _ _) (Bt HO.out.bel hB5).size (fun k e => by cases e; omega); have hrs := HX.out.2.2.2.below hB6; have h16 := (HO.out.b1.below hB5).setOther ⟨w.heap.size + 1 + 1, 2, none⟩ (.slice a5 x.hs.length c5) (by simp); have hS6 := hB6.size; have k56 : KpT 86 wr (w5.setCell ⟨w.heap.size + 1 + 1, 2, none⟩ (.slice a5 x.hs.length c5)) ∧ KpT 96 wr (w5.setCell ⟨w.heap.size + 1 + 1, 2, none⟩ (.slice a5 x.hs.length c5)) ∧ KpT 48 w5 (w5.setCell ⟨w.heap.size + 1 + 1, 2, none⟩ (.slice a5 x.hs.length c5)) := ⟨(KpT.below hB5).trans (KpT.grown (set_grown _ _ _ _) (fun g e => by cases e; exact hb5.noT (by decide))), (KpT.below hB5).trans (KpT.grown (set_grown _ _ _ _) (fun g e => by cases e; exact hb5.noT (by decide))), KpT.grown (set_grown _ _ _ _) (fun g e => by cases e; exact hb5.noT (by decide))⟩)
        | (((with_reducible refine wpList_app0G seR (o := ⟨some 47, _, _, _, _, _⟩) ?_ (.tmp 44) (.tmp 46) ?_ ?_ ?_ hrs hszs hS6 ?_); rfl; rfl; rfl; rfl; intro a7 c7 w7 hO7 hB7); have hb7 := hb6.below hB7; have hc7 := hb7.cell (j := 3) (v := .slice none 0 0) rfl; have hf7 := hb7.free 3; have hb8 : Blk (w7.setCell ⟨w.heap.size + 1 + 1, 3, none⟩ (.slice a7 x.ss.length c7)) (w.heap.size + 1 + 1) 62 (dic ⟨x.ep, qs, qa, qc, x.hs, a5, c5, x.ss, a7, c7⟩) := hb7.set 3 (.slice a7 x.ss.length c7); have h18 := (h16.below hB7).setOther ⟨w.heap.size + 1 + 1, 3, none⟩ (.slice a7 x.ss.length c7) (by simp))
        | ((with_reducible refine wpList_loadB (o := ⟨some 49, _, _, _, _, _⟩) ?_ 62 (.tmp 3) ?_ ?_ hb8 Try.underlying62 ?_ (ISY.out a5 c5 a7 c7) ?_); rfl; rfl; rfl; rfl)
        | ((with_reducible refine wpList_storeB (o := ⟨none, .store 62 (.tmp 2) (.tmp 49), _, _, _, _⟩) ?_ 62 (.tmp 2) (.tmp 49) ?_ ?_ ?_ h18 (ISY.out a5 c5 a7 c7) rfl (dic_one _) ?_); rfl; rfl; rfl; rfl; intro w9 hb9 hg9 hz9))
      refine bodyPost_blk hb9 Try.underlying62 (ISY.out a5 c5 a7 c7) rfl rfl rfl rfl ?_
      have hg8 := set_grown w7 (w.heap.size + 1 + 1) 3 (.slice a7 x.ss.length c7)
      have hB8 : Below w.heap.size w (w7.setCell ⟨w.heap.size + 1 + 1, 3, none⟩ (.slice a7 x.ss.length c7)) := (Bt hB6 hB7).grown hg8 (Bt hB6 hB7).size (fun k e => by cases e; omega)
      have k8 : ∀ T, (62 : TypeId) ≠ T → KpT T w7 w9 := fun T hT => (KpT.grown hg8 (fun g e => by cases e; exact hb7.noT hT)).trans (KpT.grown hg9 (fun g e => by cases e; exact h18.noT hT))
      have ku := (k56.1.trans (KpT.below hB7)).trans (k8 _ (by decide))
      have kv := (k56.2.1.trans (KpT.below hB7)).trans (k8 _ (by decide))
      have kh := (k56.2.2.trans (KpT.below hB7)).trans (k8 _ (by decide))
      refine ⟨⟨⟨x.ep, qs, qa, qc, x.hs, a5, c5, x.ss, a7, c7⟩, ?_, rfl, HO.out.own.kpT ku, fun q hq => Ux.own_keep (HO.out.each q hq) kv, hO5.kpT kh, (hO7.lower (Nat.le_refl _)).kpT (k8 _ (by decide))⟩, hB8.grown hg9 hB8.size (fun k e => by cases e; omega)⟩
      simp only [Di.cl, HQ.out]
end Go.Proofs.Yteeefehbfamfiaa
