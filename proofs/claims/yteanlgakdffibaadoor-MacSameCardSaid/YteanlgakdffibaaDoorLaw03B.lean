/-
  The walk of MacSame.
-/
import Derived.Test.YteanlgakdffibaaDoorLaw03A
namespace Go.Proofs.YteanlgakdffibaaDoor
open Go.RowKit

/-- what the last region of MacSame knows of a world: the three digests -/
structure SameAt (w W : World) (xs ys zs : List UInt8) : Prop where
  b0 : Blk W w.heap.size 32 (bs xs)
  b1 : Blk W (w.heap.size + 1) 32 (bs ys)
  b2 : Blk W (w.heap.size + 1 + 1) 32 (bs zs)
  bel : Below w.heap.size w W
theorem SameAt.below {w W W' : World} {xs ys zs : List UInt8} (h : SameAt w W xs ys zs) (hb : Below W.heap.size W W') : SameAt w W' xs ys zs :=
  ⟨h.b0.below hb, h.b1.below hb, h.b2.below hb, Bt h.bel hb⟩
theorem SameAt.drew {w W : World} {xs ys zs : List UInt8} (h : SameAt w W xs ys zs) : SameAt w W.drew xs ys zs := h.below ⟨rfl, rfl, rfl, Nat.le_refl _, fun _ _ => rfl⟩
theorem Blk.all {w : World} {g : Nat} {t : TypeId} {vs : List Value} (h : Blk w g t vs) : w.rangeAt g 0 vs := h.range 0 (fun j hj => by simp)
theorem SameAt.lims {w W : World} {xs ys zs : List UInt8} (h : SameAt w W xs ys zs) : W.rangeAt w.heap.size 0 (bs xs) ∧ W.rangeAt (w.heap.size + 1) 0 (bs ys) ∧ W.rangeAt (w.heap.size + 1 + 1) 0 (bs zs) ∧ SameAt w W xs ys zs :=
  ⟨h.b0.all, h.b1.all, h.b2.all, h⟩

/-- two arrays held against each other, in whatever world -/
theorem yieldsIf_eq {ops : Array Oper} {S : World → Prop} {o : Oper} {a : Act} (hw : Region.wanted o (yielded ops a.tmps) = true) (op : BinOp) (t t' : TypeId) (x y : Operand) (ho : o.op = .binOp op t x y t')
    (xs ys : Array Value) (hx : a.eval x = .agg xs) (hy : a.eval y = .agg ys) (hm : Tryd.prog.eqGuardType Tryd.prog.depth t = false) (v : Value) (hrun : ∀ W : World, (binOp op t (.agg xs) (.agg ys)).run Tryd.prog W = .ok v W) :
    YieldsIf Tryd.prog ops S o v a :=
  .inl ⟨hw, fun W _ => by simp [execOp, ho, hx, hy, run_eqGuard_agg W op t x y xs ys hm, hrun]⟩
theorem guardM : Tryd.prog.eqGuardType Tryd.prog.depth 32 = false := by kernel_rfl

set_option maxRecDepth 100000 in
set_option maxHeartbeats 1000000 in
theorem walkMacSame (w : World) (hT : Tab w 1) (xs : List UInt8) (hx : xs.length = 32) (ys : List UInt8) (hy : ys.length = 32) (at_ : Int) (_wf2 : (Lit.int .i64 at_).wf = true) (by_ : Int) (wf3 : (Lit.int .u8 by_).wf = true) :
    Calls Tryd.prog 6 #[.agg (bs xs).toArray, .agg (bs ys).toArray, .int .i64 at_, .int .u8 by_] w (Yes3 w) := by
  have hb0 := (Blk.new w 32 (bs xs)).alloc (.cells (bs ys).toArray 32)
  have hb1 := Blk.new (w.alloc (.cells (bs xs).toArray 32)) 32 (bs ys)
  have hB1 : Below w.heap.size w ((w.alloc (.cells (bs xs).toArray 32)).alloc (.cells (bs ys).toArray 32)) := ((Below.refl _ w).alloc (Nat.le_refl _) _).alloc (by simp) _
  have hz : (w.alloc (.cells (bs xs).toArray 32)).heap.size = w.heap.size + 1 := by simp
  have hz1 : ((w.alloc (.cells (bs xs).toArray 32)).alloc (.cells (bs ys).toArray 32)).heap.size = w.heap.size + 1 + 1 := by simp
  rw [hz] at hb1
  have H5 := Lib.hid (show (Tryd.prog.info? 32).map (·.size) = some (bs xs).length by rw [info_digest, bs_length, hx])
  have H6 := Lib.hid (show (bs zero32).length = (bs xs).length by rw [bs_length, bs_length, zero32_length, hx])
  have H7 := bs_one xs
  obtain ⟨by8, rfl⟩ : ∃ c : UInt8, by_ = (c.toNat : Int) := by
    have h : 0 ≤ by_ ∧ by_ ≤ 255 := by simpa [Lit.wf, IntKind.min, IntKind.max, IntKind.signed, IntKind.bits] using wf3
    refine ⟨UInt8.ofNat by_.toNat, ?_⟩
    have : (UInt8.ofNat by_.toNat).toNat = by_.toNat := by simp; omega
    omega
  clear wf3
  by_cases h0 : 0 ≤ at_ ∧ at_ < 32
  case' pos =>
    obtain ⟨ha, hb⟩ := h0
    obtain ⟨k, rfl⟩ := Int.eq_ofNat_of_zero_le ha
    have hk : k < 32 := by omega
    obtain ⟨x, hx0⟩ : ∃ x, xs.getD k 0 = x := ⟨_, rfl⟩
    have hbx : (bs xs)[k]? = some (.int .u8 (x.toNat : Int)) := by rw [← hx0]; exact bs_at xs k (by omega)
    go_enter Tryd.func6, Tryd.ntmps6
    go_wp2_with (first | ((with_reducible refine wpList_loadB (o := ⟨some 10, _, _, _, _, _⟩) ?_ 32 (.tmp 4) ?_ ?_ hb0 Tryd.underlying32 ?_ H5.out ?_); rfl; rfl; rfl; rfl) | ((with_reducible refine wpList_allocB (o := ⟨some 9, _, _, _, _, _⟩) ?_ 32 ?_ zero32_info ?_); rfl; rfl; intro w2 hr2 hg2 hz2) | ((with_reducible refine wpList_storeB (o := ⟨none, .store 32 (.tmp 9) (.tmp 10), _, _, _, _⟩) ?_ 32 (.tmp 9) (.tmp 10) ?_ ?_ ?_ hr2 H5.out H6.out H7 ?_); rfl; rfl; rfl; rfl; intro w3 hr3 hg3 hz3; rw [hz1] at hr3 hg3; have c0 := hr3.cell hbx; have f0 := hr3.free k))
    have hB3 : Below w.heap.size w w3 := below_of_grown (hB1.grown hg2 (by omega) (fun k e => by cases e)) hg3 (by omega)
    have HS : ∀ z : Int, z = ((x ^^^ by8).toNat : Int) → SameAt w (w3.setCell ⟨w.heap.size + 1 + 1, k, none⟩ (.int .u8 z)) xs ys (xs.set k (x ^^^ by8)) := fun z hz => by
      refine ⟨((hb0.grown hg2 (by simp)).grown hg3 (by simp; omega)).setOther _ _ (by simp; omega), ((hb1.grown hg2 (by simp)).grown hg3 (by simp)).setOther _ _ (by simp), ?_, hB3.setCell (by simp; omega) _⟩
      have hs := hr3.set k (.int .u8 z)
      rw [hz, bs_set _ _ _ (UInt8.toNat_lt _), UInt8.ofNat_toNat] at hs
      rw [hz]; exact hs
    have hS := HS _ (u8_xor_c x by8)
    have hzl : (xs.set k (x ^^^ by8)).length = 32 := by simpa using hx
    generalize w3.setCell _ _ = w4 at *
    generalize xs.set k (x ^^^ by8) = zs at *
    clear HS hB3 hr3 hg3 hz3 hr2 hg2 hz2 c0 f0 hbx hx0
  case' neg =>
    go_enter Tryd.func6, Tryd.ntmps6
    have hd : (decide (0 ≤ at_) && decide (at_ < 32)) = false := by simp; omega
    go_wp2_with (first | ((with_reducible refine wpList_loadB (o := ⟨some 10, _, _, _, _, _⟩) ?_ 32 (.tmp 4) ?_ ?_ hb0 Tryd.underlying32 ?_ H5.out ?_); rfl; rfl; rfl; rfl) | ((with_reducible refine wpList_allocB (o := ⟨some 9, _, _, _, _, _⟩) ?_ 32 ?_ zero32_info ?_); rfl; rfl; intro w2 hr2 hg2 hz2) | ((with_reducible refine wpList_storeB (o := ⟨none, .store 32 (.tmp 9) (.tmp 10), _, _, _, _⟩) ?_ 32 (.tmp 9) (.tmp 10) ?_ ?_ ?_ hr2 H5.out H6.out H7 ?_); rfl; rfl; rfl; rfl; intro w3 hr3 hg3 hz3; rw [hz1] at hr3 hg3))
    all_goals
      have hB3 : Below w.heap.size w w3 := below_of_grown (hB1.grown hg2 (by omega) (fun k e => by cases e)) hg3 (by omega)
      obtain ⟨zs, hzl, hS⟩ : ∃ zs : List UInt8, zs.length = 32 ∧ SameAt w w3 xs ys zs := ⟨xs, hx, (hb0.grown hg2 (by simp)).grown hg3 (by simp; omega), (hb1.grown hg2 (by simp)).grown hg3 (by simp), hr3, hB3⟩
      generalize w3 = w4 at *
      clear hB3 hr3 hg3 hz3 hr2 hg2 hz2
  all_goals
    clear hb0 hb1 hB1 hz hz1 H5 H6 H7
    have q0 := Lib.hid (show (Tryd.prog.info? 32).map (·.size) = some (bs xs).length by rw [info_digest, bs_length, hx])
    have q1 := Lib.hid (show (Tryd.prog.info? 32).map (·.size) = some (bs ys).length by rw [info_digest, bs_length, hy])
    have q2 := Lib.hid (show (Tryd.prog.info? 32).map (·.size) = some (bs zs).length by rw [info_digest, bs_length, hzl])
    have e1 := Lib.hid (fun W : World => eqD W xs ys hx hy)
    have e2 := Lib.hid (fun W : World => eqD W xs zs hx hzl)
    have F1 := Lib.hid (fun W : World => same_mac W xs ys hx hy)
    have F2 := Lib.hid (fun W : World => same_mac W xs zs hx hzl)
    generalize (xs == ys) = p1 at *
    generalize (xs == zs) = p2 at *
    -- REGION
    refine wp_region_held_drew (S := fun W => SameAt w W xs ys zs) (by kernel_rfl) hS.drew (fun hHeld => ?_)
    refine wpAnyH_ready (rs := [0]) (by kernel_rfl) (by simp) ?_
    refine AllReadyH.cons (o := ⟨some 24, .call { callee := .value (.func 18), args := #[], argTypes := #[] }, _, _, _, none⟩) rfl (fun K hK => ?_) AllReadyH.nil
    refine step_ofM (by rfl) ?_
    go_simp
    refine (macs_any _ (hT.below hHeld.bel)).mono ?_
    rintro e W1 ⟨rfl, hb1⟩
    refine hK.out _ _ (hHeld.below hb1) (fun hHeld => ?_)
    clear hK K
    try simp only [Act.put, List.setIfInBounds_toArray, List.set_cons_zero, List.set_cons_succ]
    refine wpAnyH_take (i := 1) (oi := ⟨some 25, .move (.tmp 24), _, _, _, none⟩) (v := ?_) rfl (by kernel_rfl) (by kernel_rfl) (by kernel_rfl) (fun _ _ _ h => h) (Or.inl ⟨by rfl, ?_⟩) hHeld ?_
    rotate_left
    · intro W _; go_simp; try with_reducible rfl
    try simp only [Act.put, List.setIfInBounds_toArray, List.set_cons_zero, List.set_cons_succ]
    refine wpAnyH_take (i := 2) (oi := ⟨some 26, .load 32 (.tmp 4), _, _, _, some (1, true)⟩) (v := .agg (bs xs).toArray) rfl (by kernel_rfl) (by kernel_rfl) (by kernel_rfl) (fun _ _ _ h => h) (yieldsIf_load_mid (by rfl) _ _ rfl w.heap.size 0 rfl (bs xs) _ (fun W h => h.b0.all) Tryd.underlying32 rfl q0.out) hHeld ?_
    try simp only [Act.put, List.setIfInBounds_toArray, List.set_cons_zero, List.set_cons_succ]
    refine wpAnyH_take (i := 3) (oi := ⟨some 27, .load 32 (.tmp 5), _, _, _, some (1, true)⟩) (v := .agg (bs ys).toArray) rfl (by kernel_rfl) (by kernel_rfl) (by kernel_rfl) (fun _ _ _ h => h) (yieldsIf_load_mid (by rfl) _ _ rfl (w.heap.size + 1) 0 rfl (bs ys) _ (fun W h => h.b1.all) Tryd.underlying32 rfl q1.out) hHeld ?_
    try simp only [Act.put, List.setIfInBounds_toArray, List.set_cons_zero, List.set_cons_succ]
    refine wpAnyH_take (i := 5) (oi := ⟨some 29, .load 32 (.tmp 4), _, _, _, some (1, true)⟩) (v := .agg (bs xs).toArray) rfl (by kernel_rfl) (by kernel_rfl) (by kernel_rfl) (fun _ _ _ h => h) (yieldsIf_load_mid (by rfl) _ _ rfl w.heap.size 0 rfl (bs xs) _ (fun W h => h.b0.all) Tryd.underlying32 rfl q0.out) hHeld ?_
    try simp only [Act.put, List.setIfInBounds_toArray, List.set_cons_zero, List.set_cons_succ]
    refine wpAnyH_take (i := 6) (oi := ⟨some 30, .load 32 (.tmp 5), _, _, _, some (1, true)⟩) (v := .agg (bs ys).toArray) rfl (by kernel_rfl) (by kernel_rfl) (by kernel_rfl) (fun _ _ _ h => h) (yieldsIf_load_mid (by rfl) _ _ rfl (w.heap.size + 1) 0 rfl (bs ys) _ (fun W h => h.b1.all) Tryd.underlying32 rfl q1.out) hHeld ?_
    try simp only [Act.put, List.setIfInBounds_toArray, List.set_cons_zero, List.set_cons_succ]
    refine wpAnyH_take (i := 7) (oi := ⟨some 31, .binOp .eql 32 (.tmp 29) (.tmp 30) 32, _, _, _, some (1, true)⟩) (v := .bool p1) rfl (by kernel_rfl) (by kernel_rfl) (by kernel_rfl) (fun _ _ _ h => h) (yieldsIf_eq (by rfl) .eql 32 32 (.tmp 29) (.tmp 30) rfl _ _ rfl rfl guardM _ e1.out) hHeld ?_
    try simp only [Act.put, List.setIfInBounds_toArray, List.set_cons_zero, List.set_cons_succ]
    refine wpAnyH_ready (rs := [4]) (by kernel_rfl) (by simp) ?_
    refine AllReadyH.cons (o := ⟨some 28, .call { callee := .value (.func 21), args := #[.tmp 26, .tmp 27], argTypes := #[32, 32] }, _, _, _, some (1, true)⟩) rfl (fun K hK => ?_) AllReadyH.nil
    refine step_ofM (by rfl) ?_
    go_simp
    refine (F1.out _).mono ?_
    rintro e W2 ⟨rfl, hb2⟩
    refine hK.out _ _ (hHeld.below hb2) (fun hHeld => ?_)
    clear hK K
    try simp only [Act.put, List.setIfInBounds_toArray, List.set_cons_zero, List.set_cons_succ]
    refine wpAnyH_take (i := 8) (oi := ⟨some 32, .binOp .eql 4 (.tmp 28) (.tmp 31) 4, _, _, _, some (1, true)⟩) (v := ?_) rfl (by kernel_rfl) (by kernel_rfl) (by kernel_rfl) (fun _ _ _ h => h) (Or.inl ⟨by rfl, ?_⟩) hHeld ?_
    rotate_left
    · intro W _; go_simp; try with_reducible rfl
    try simp only [Act.put, List.setIfInBounds_toArray, List.set_cons_zero, List.set_cons_succ]
    refine wpAnyH_take (i := 9) (oi := ⟨some 33, .pick (.tmp 25) (.tmp 32) (.const (.bool false)), _, _, _, none⟩) (v := ?_) rfl (by kernel_rfl) (by kernel_rfl) (by kernel_rfl) (fun _ _ _ h => h) (Or.inl ⟨by rfl, ?_⟩) hHeld ?_
    rotate_left
    · intro W _; go_simp; try with_reducible rfl
    try simp only [Act.put, List.setIfInBounds_toArray, List.set_cons_zero, List.set_cons_succ]
    refine wpAnyH_take (i := 10) (oi := ⟨some 34, .move (.tmp 33), _, _, _, none⟩) (v := ?_) rfl (by kernel_rfl) (by kernel_rfl) (by kernel_rfl) (fun _ _ _ h => h) (Or.inl ⟨by rfl, ?_⟩) hHeld ?_
    rotate_left
    · intro W _; go_simp; try with_reducible rfl
    try simp only [Act.put, List.setIfInBounds_toArray, List.set_cons_zero, List.set_cons_succ]
    refine wpAnyH_take (i := 11) (oi := ⟨some 35, .load 32 (.tmp 4), _, _, _, some (10, true)⟩) (v := .agg (bs xs).toArray) rfl (by kernel_rfl) (by kernel_rfl) (by kernel_rfl) (fun _ _ _ h => h) (yieldsIf_load_mid (by rfl) _ _ rfl w.heap.size 0 rfl (bs xs) _ (fun W h => h.b0.all) Tryd.underlying32 rfl q0.out) hHeld ?_
    try simp only [Act.put, List.setIfInBounds_toArray, List.set_cons_zero, List.set_cons_succ]
    refine wpAnyH_take (i := 12) (oi := ⟨some 36, .load 32 (.tmp 9), _, _, _, some (10, true)⟩) (v := .agg (bs zs).toArray) rfl (by kernel_rfl) (by kernel_rfl) (by kernel_rfl) (fun _ _ _ h => h) (yieldsIf_load_mid (by rfl) _ _ rfl (w.heap.size + 1 + 1) 0 rfl (bs zs) _ (fun W h => h.b2.all) Tryd.underlying32 rfl q2.out) hHeld ?_
    try simp only [Act.put, List.setIfInBounds_toArray, List.set_cons_zero, List.set_cons_succ]
    refine wpAnyH_take (i := 14) (oi := ⟨some 38, .load 32 (.tmp 4), _, _, _, some (10, true)⟩) (v := .agg (bs xs).toArray) rfl (by kernel_rfl) (by kernel_rfl) (by kernel_rfl) (fun _ _ _ h => h) (yieldsIf_load_mid (by rfl) _ _ rfl w.heap.size 0 rfl (bs xs) _ (fun W h => h.b0.all) Tryd.underlying32 rfl q0.out) hHeld ?_
    try simp only [Act.put, List.setIfInBounds_toArray, List.set_cons_zero, List.set_cons_succ]
    refine wpAnyH_take (i := 15) (oi := ⟨some 39, .load 32 (.tmp 9), _, _, _, some (10, true)⟩) (v := .agg (bs zs).toArray) rfl (by kernel_rfl) (by kernel_rfl) (by kernel_rfl) (fun _ _ _ h => h) (yieldsIf_load_mid (by rfl) _ _ rfl (w.heap.size + 1 + 1) 0 rfl (bs zs) _ (fun W h => h.b2.all) Tryd.underlying32 rfl q2.out) hHeld ?_
    try simp only [Act.put, List.setIfInBounds_toArray, List.set_cons_zero, List.set_cons_succ]
    refine wpAnyH_take (i := 16) (oi := ⟨some 40, .binOp .eql 32 (.tmp 38) (.tmp 39) 32, _, _, _, some (10, true)⟩) (v := .bool p2) rfl (by kernel_rfl) (by kernel_rfl) (by kernel_rfl) (fun _ _ _ h => h) (yieldsIf_eq (by rfl) .eql 32 32 (.tmp 38) (.tmp 39) rfl _ _ rfl rfl guardM _ e2.out) hHeld ?_
    try simp only [Act.put, List.setIfInBounds_toArray, List.set_cons_zero, List.set_cons_succ]
    refine wpAnyH_ready (rs := [13]) (by kernel_rfl) (by simp) ?_
    refine AllReadyH.cons (o := ⟨some 37, .call { callee := .value (.func 21), args := #[.tmp 35, .tmp 36], argTypes := #[32, 32] }, _, _, _, some (10, true)⟩) rfl (fun K hK => ?_) AllReadyH.nil
    refine step_ofM (by rfl) ?_
    go_simp
    refine (F2.out _).mono ?_
    rintro e W3 ⟨rfl, hb3⟩
    refine hK.out _ _ (hHeld.below hb3) (fun hHeld => ?_)
    clear hK K
    try simp only [Act.put, List.setIfInBounds_toArray, List.set_cons_zero, List.set_cons_succ]
    refine wpAnyH_take (i := 17) (oi := ⟨some 41, .binOp .eql 4 (.tmp 37) (.tmp 40) 4, _, _, _, some (10, true)⟩) (v := ?_) rfl (by kernel_rfl) (by kernel_rfl) (by kernel_rfl) (fun _ _ _ h => h) (Or.inl ⟨by rfl, ?_⟩) hHeld ?_
    rotate_left
    · intro W _; go_simp; try with_reducible rfl
    try simp only [Act.put, List.setIfInBounds_toArray, List.set_cons_zero, List.set_cons_succ]
    refine wpAnyH_take (i := 18) (oi := ⟨some 42, .pick (.tmp 34) (.tmp 41) (.const (.bool false)), _, _, _, none⟩) (v := ?_) rfl (by kernel_rfl) (by kernel_rfl) (by kernel_rfl) (fun _ _ _ h => h) (Or.inl ⟨by rfl, ?_⟩) hHeld ?_
    rotate_left
    · intro W _; go_simp; try with_reducible rfl
    try simp only [Act.put, List.setIfInBounds_toArray, List.set_cons_zero, List.set_cons_succ]
    refine wpAnyH_ready (rs := [19]) (by kernel_rfl) (by simp) ?_
    refine AllReadyH.cons (o := ⟨some 8, .assign (.tmp 42), _, _, _, none⟩) rfl (fun K hK => ?_) AllReadyH.nil
    refine step_ofM (by rfl) ?_
    go_simp
    refine hK.out _ _ (hHeld) (fun hHeld => ?_)
    clear hK K
    try simp only [Act.put, List.setIfInBounds_toArray, List.set_cons_zero, List.set_cons_succ]
    refine wpAnyH_done (by kernel_rfl) ?_ _
    -- END
    go_wp2_with fail
    go_ret
    exact Yes3.mk hHeld.bel
end Go.Proofs.YteanlgakdffibaaDoor
