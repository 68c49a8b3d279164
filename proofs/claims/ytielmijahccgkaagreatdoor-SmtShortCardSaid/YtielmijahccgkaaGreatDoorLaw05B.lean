/-
  The walk of SmtShort.
-/
import Derived.Test.YtielmijahccgkaaGreatDoorLaw05A
namespace Go.Proofs.YtielmijahccgkaaGreatDoor
open Go.RowKit

/-- what the last region of SmtShort knows of a world -/
structure ShortAt (w W : World) (y : Lf) (p q d : List UInt8) (g h : Nat) : Prop where
  b7 : Blk W w.heap.size 26 (lc y)
  b8 : Blk W (w.heap.size + 1) 24 (bs p)
  b9 : Blk W (w.heap.size + 1 + 1) 24 (bs q)
  b11 : Blk W g 24 (bs d)
  b13 : Blk W h 24 (bs d)
  bel : Below w.heap.size w W
theorem ShortAt.below {w W W' : World} {y : Lf} {p q d : List UInt8} {g h : Nat} (s : ShortAt w W y p q d g h) (hb : Below W.heap.size W W') : ShortAt w W' y p q d g h :=
  ⟨s.b7.below hb, s.b8.below hb, s.b9.below hb, s.b11.below hb, s.b13.below hb, Bt s.bel hb⟩
theorem ShortAt.drew {w W : World} {y : Lf} {p q d : List UInt8} {g h : Nat} (s : ShortAt w W y p q d g h) : ShortAt w W.drew y p q d g h := s.below ⟨rfl, rfl, rfl, Nat.le_refl _, fun _ _ => rfl⟩
theorem eq5 {d : List UInt8} (h : d.length = 32) : ∀ W : World, (binOp .eql 24 (.agg (bs d).toArray) (.agg (bs d).toArray)).run Tryz.prog W = .ok (.bool true) W := fun W => by rw [eqD W _ _ h h]; simp

set_option maxRecDepth 100000 in
set_option maxHeartbeats 2000000 in
theorem walkSmtShort (w : World) (hT : Tab w 1) (hK : Tab w 0) (x : Int) (_wf : (Lit.int .i64 x).wf = true) (a : Option Addr) (n c : Nat) (l : List UInt8) (hr : Rd w a n c l) (y : Lf) (hy : y.ok)
    (p : List UInt8) (hp : p.length = 32) (q : List UInt8) (hq : q.length = 32) :
    Calls Tryz.prog 3 #[.int .i64 x, .slice a n c, .agg (lc y).toArray, .agg (bs p).toArray, .agg (bs q).toArray] w (Yes5 w) := by
  have k7 := ((Blk.new w 26 (lc y)).alloc (.cells (bs p).toArray 24)).alloc (.cells (bs q).toArray 24)
  have k8 := (Blk.new (w.alloc (.cells (lc y).toArray 26)) 24 (bs p)).alloc (.cells (bs q).toArray 24)
  have k9 := Blk.new ((w.alloc (.cells (lc y).toArray 26)).alloc (.cells (bs p).toArray 24)) 24 (bs q)
  have hB : Below w.heap.size w (((w.alloc (.cells (lc y).toArray 26)).alloc (.cells (bs p).toArray 24)).alloc (.cells (bs q).toArray 24)) := (((Below.refl _ w).alloc (Nat.le_refl _) _).alloc (by simp) _).alloc (by simp; omega) _
  rw [show (w.alloc (.cells (lc y).toArray 26)).heap.size = w.heap.size + 1 by simp] at k8
  rw [show ((w.alloc (.cells (lc y).toArray 26)).alloc (.cells (bs p).toArray 24)).heap.size = w.heap.size + 1 + 1 by simp] at k9
  by_cases hlong : (65536 : Int) < (n : Int)
  · go_enter Tryz.func3, Tryz.ntmps3
    go_wp2_with fail
    go_ret
    exact Yes5.mk hB
  · have hn : n ≤ 65536 := by omega
    have S1 := Lib.hid (fun (W : World) (hb : Below w.heap.size w W) => sshort_any W x a n c l (hr.below hb) (hT.below hb) (by omega))
    have S2 := Lib.hid (fun (W : World) (hb : Below w.heap.size w W) => short_any W x a n c l (hr.below hb) (hK.below hb) (by omega))
    have E1 := Lib.hid (fun (W : World) (hb : Below w.heap.size w W) => sempty_any W x (hT.below hb))
    have E2 := Lib.hid (fun (W : World) (hb : Below w.heap.size w W) => empty_ref W x (hK.below hb))
    have L1 := Lib.hid (fun (W : World) (hb : Below w.heap.size w W) => sleaf_any W x y hy (hT.below hb))
    have L2 := Lib.hid (fun (W : World) (hb : Below w.heap.size w W) => leaf_ref W x y hy (hK.below hb))
    have N1 := Lib.hid (fun (W : World) (hb : Below w.heap.size w W) => snode_any W x p q hp hq (hT.below hb))
    have N2 := Lib.hid (fun (W : World) (hb : Below w.heap.size w W) => node_ref W x p q hp hq (hK.below hb))
    have RO := Lib.hid (fun (W : World) (hb : Below w.heap.size w W) => roots_any W (hT.below hb))
    have hd := shortI_length x l
    have i11 := Lib.hid (dig5 hd).1
    have j11 := Lib.hid (dig5 hd).2
    have o11 := bs_one (shortI x l)
    have e11 := Lib.hid (eq5 hd)
    have eE := Lib.hid (eq5 (shortI_length x [2]))
    have eL := Lib.hid (eq5 (shortI_length x ([0] ++ y.path ++ y.val)))
    have eN := Lib.hid (eq5 (shortI_length x ([1] ++ p ++ q)))
    have iY := Lib.hid (show (Tryz.prog.info? 26).map (·.size) = some (lc y).length by rw [sizeL, lc_length hy])
    have iP := Lib.hid (dig5 hp).1
    have iQ := Lib.hid (dig5 hq).1
    clear hd
    generalize errW x = er at *
    generalize shortI x l = D at *
    generalize shortI x [2] = DE at *
    generalize shortI x ([0] ++ y.path ++ y.val) = DL at *
    generalize shortI x ([1] ++ p ++ q) = DN at *
    go_enter Tryz.func3, Tryz.ntmps3
    go_wp2_with fail
    generalize (((w.alloc _).alloc _).alloc _) = w0 at *
    refine (S1.out _ hB).mono ?_
    rintro e w1 ⟨rfl, hB1⟩
    have hC1 := Bt hB hB1
    go_wp2_with (first | ((with_reducible refine wpList_allocB (o := ⟨some 11, _, _, _, _, _⟩) ?_ 24 ?_ zeroD_info ?_); rfl; rfl; intro w2 hr2 hg2 hz2) | ((with_reducible refine wpList_storeB (o := ⟨none, .store 24 (.tmp 11) (.tmp 22), _, _, _, _⟩) ?_ 24 (.tmp 11) (.tmp 22) ?_ ?_ ?_ hr2 i11.out j11.out o11 ?_); rfl; rfl; rfl; rfl; intro w3 hr3 hg3 hz3))
    have hB3 := below5 (hC1.grown hg2 hC1.size (fun k e => by cases e)) hg3 hC1.size
    refine (S2.out _ hB3).mono ?_
    rintro e w4 ⟨rfl, hB4⟩
    have hC4 := Bt hB3 hB4
    go_wp2_with (first | ((with_reducible refine wpList_allocB (o := ⟨some 13, _, _, _, _, _⟩) ?_ 24 ?_ zeroD_info ?_); rfl; rfl; intro w5 hr5 hg5 hz5) | ((with_reducible refine wpList_storeB (o := ⟨none, .store 24 (.tmp 13) (.tmp 28), _, _, _, _⟩) ?_ 24 (.tmp 13) (.tmp 28) ?_ ?_ ?_ hr5 i11.out j11.out o11 ?_); rfl; rfl; rfl; rfl; intro w6 hr6 hg6 hz6))
    have hB6 := below5 (hC4.grown hg5 hC4.size (fun k e => by cases e)) hg6 hC4.size
    have mv : ∀ {g : Nat} {t : TypeId} {vs : List Value}, Blk w0 g t vs → Blk w6 g t vs := fun {g t vs} k => by
      have k1 := k.below hB1
      have l1 := k1.lt
      have k3 := (k1.grown hg2 (by simp)).grown hg3 (by simp; omega)
      have k4 := k3.below hB4
      have l4 := k4.lt
      exact (k4.grown hg5 (by simp)).grown hg6 (by simp; omega)
    have k11 := hr3.below hB4
    have l11 := k11.lt
    have hS : ShortAt w w6 y p q D w1.heap.size w4.heap.size := ⟨mv k7, mv k8, mv k9, (k11.grown hg5 (by simp)).grown hg6 (by simp; omega), hr6, hB6⟩
    clear mv
    generalize w1.heap.size = g11 at *
    generalize w4.heap.size = g13 at *
    -- REGION 5 4
    refine wp_region_held_drew (S := fun W => ShortAt w W y p q D g11 g13) (by kernel_rfl) hS.drew (fun hHeld => ?_)
    refine wpAnyH_ready (rs := [0]) (by kernel_rfl) (by simp) ?_
    refine AllReadyH.cons (o := ⟨some 30, .call { callee := .value (.func 14), args := #[], argTypes := #[] }, _, _, _, none⟩) rfl (fun K hK => ?_) AllReadyH.nil
    refine step_ofR (by rfl) ?_
    go_simp
    refine (RO.out _ hHeld.bel).mono ?_
    rintro x W1 ⟨rfl, hb1⟩
    refine hK.out _ _ (hHeld.below hb1) (fun hHeld => ?_)
    clear hK K
    try simp only [Act.put, List.setIfInBounds_toArray, List.set_cons_zero, List.set_cons_succ]
    refine wpAnyH_take (i := 1) (oi := ⟨some 31, .move (.tmp 30), _, _, _, none⟩) (v := ?_) rfl (by kernel_rfl) (by kernel_rfl) (by kernel_rfl) (fun _ _ _ h => h) (Or.inl ⟨by rfl, ?_⟩) hHeld ?_
    rotate_left
    · intro W _; go_simp; try with_reducible rfl
    try simp only [Act.put, List.setIfInBounds_toArray, List.set_cons_zero, List.set_cons_succ]
    refine wpAnyH_take (i := 2) (oi := ⟨some 32, .load 24 (.tmp 11), _, _, _, some (1, true)⟩) (v := .agg (bs D).toArray) rfl (by kernel_rfl) (by kernel_rfl) (by kernel_rfl) (fun _ _ _ h => h) (yieldsIf_load_mid (by rfl) _ _ rfl g11 0 rfl (bs D) _ (fun W h => h.b11.allR) Tryz.underlying24 rfl i11.out) hHeld ?_
    try simp only [Act.put, List.setIfInBounds_toArray, List.set_cons_zero, List.set_cons_succ]
    refine wpAnyH_take (i := 3) (oi := ⟨some 33, .load 24 (.tmp 13), _, _, _, some (1, true)⟩) (v := .agg (bs D).toArray) rfl (by kernel_rfl) (by kernel_rfl) (by kernel_rfl) (fun _ _ _ h => h) (yieldsIf_load_mid (by rfl) _ _ rfl g13 0 rfl (bs D) _ (fun W h => h.b13.allR) Tryz.underlying24 rfl i11.out) hHeld ?_
    try simp only [Act.put, List.setIfInBounds_toArray, List.set_cons_zero, List.set_cons_succ]
    refine wpAnyH_take (i := 4) (oi := ⟨some 34, .binOp .eql 24 (.tmp 32) (.tmp 33) 24, _, _, _, some (1, true)⟩) (v := .bool true) rfl (by kernel_rfl) (by kernel_rfl) (by kernel_rfl) (fun _ _ _ h => h) (yieldsIf_eqE (by rfl) .eql 24 24 (.tmp 32) (.tmp 33) rfl _ _ rfl rfl guardR _ e11.out) hHeld ?_
    try simp only [Act.put, List.setIfInBounds_toArray, List.set_cons_zero, List.set_cons_succ]
    refine wpAnyH_take (i := 5) (oi := ⟨some 35, .pick (.tmp 31) (.tmp 34) (.const (.bool false)), _, _, _, none⟩) (v := ?_) rfl (by kernel_rfl) (by kernel_rfl) (by kernel_rfl) (fun _ _ _ h => h) (Or.inl ⟨by rfl, ?_⟩) hHeld ?_
    rotate_left
    · intro W _; go_simp; try with_reducible rfl
    try simp only [Act.put, List.setIfInBounds_toArray, List.set_cons_zero, List.set_cons_succ]
    refine wpAnyH_take (i := 6) (oi := ⟨some 36, .move (.tmp 35), _, _, _, none⟩) (v := ?_) rfl (by kernel_rfl) (by kernel_rfl) (by kernel_rfl) (fun _ _ _ h => h) (Or.inl ⟨by rfl, ?_⟩) hHeld ?_
    rotate_left
    · intro W _; go_simp; try with_reducible rfl
    try simp only [Act.put, List.setIfInBounds_toArray, List.set_cons_zero, List.set_cons_succ]
    refine wpAnyH_take (i := 7) (oi := ⟨some 37, .move (.tmp 12), _, _, _, some (6, true)⟩) (v := ?_) rfl (by kernel_rfl) (by kernel_rfl) (by kernel_rfl) (fun _ _ _ h => h) (Or.inl ⟨by rfl, ?_⟩) hHeld ?_
    rotate_left
    · intro W _; go_simp; try with_reducible rfl
    try simp only [Act.put, List.setIfInBounds_toArray, List.set_cons_zero, List.set_cons_succ]
    refine wpAnyH_take (i := 8) (oi := ⟨some 38, .move (.tmp 14), _, _, _, some (6, true)⟩) (v := ?_) rfl (by kernel_rfl) (by kernel_rfl) (by kernel_rfl) (fun _ _ _ h => h) (Or.inl ⟨by rfl, ?_⟩) hHeld ?_
    rotate_left
    · intro W _; go_simp; try with_reducible rfl
    try simp only [Act.put, List.setIfInBounds_toArray, List.set_cons_zero, List.set_cons_succ]
    refine wpAnyH_take (i := 9) (oi := ⟨some 39, .binOp .eql 27 (.tmp 37) (.tmp 38) 27, _, _, _, some (6, true)⟩) (v := ?_) rfl (by kernel_rfl) (by kernel_rfl) (by kernel_rfl) (fun _ _ _ h => h) (Or.inl ⟨by rfl, ?_⟩) hHeld ?_
    rotate_left
    · intro W _; go_simp; try with_reducible rfl
    try simp only [Act.put, List.setIfInBounds_toArray, List.set_cons_zero, List.set_cons_succ]
    refine wpAnyH_take (i := 10) (oi := ⟨some 40, .pick (.tmp 36) (.tmp 39) (.const (.bool false)), _, _, _, none⟩) (v := ?_) rfl (by kernel_rfl) (by kernel_rfl) (by kernel_rfl) (fun _ _ _ h => h) (Or.inl ⟨by rfl, ?_⟩) hHeld ?_
    rotate_left
    · intro W _; go_simp; try with_reducible rfl
    try simp only [Act.put, List.setIfInBounds_toArray, List.set_cons_zero, List.set_cons_succ]
    refine wpAnyH_take (i := 11) (oi := ⟨some 41, .move (.tmp 40), _, _, _, none⟩) (v := ?_) rfl (by kernel_rfl) (by kernel_rfl) (by kernel_rfl) (fun _ _ _ h => h) (Or.inl ⟨by rfl, ?_⟩) hHeld ?_
    rotate_left
    · intro W _; go_simp; try with_reducible rfl
    try simp only [Act.put, List.setIfInBounds_toArray, List.set_cons_zero, List.set_cons_succ]
    refine wpAnyH_take (i := 12) (oi := ⟨some 42, .move (.tmp 0), _, _, _, some (11, true)⟩) (v := ?_) rfl (by kernel_rfl) (by kernel_rfl) (by kernel_rfl) (fun _ _ _ h => h) (Or.inl ⟨by rfl, ?_⟩) hHeld ?_
    rotate_left
    · intro W _; go_simp; try with_reducible rfl
    try simp only [Act.put, List.setIfInBounds_toArray, List.set_cons_zero, List.set_cons_succ]
    refine wpAnyH_take (i := 14) (oi := ⟨some 44, .move (.tmp 0), _, _, _, some (11, true)⟩) (v := ?_) rfl (by kernel_rfl) (by kernel_rfl) (by kernel_rfl) (fun _ _ _ h => h) (Or.inl ⟨by rfl, ?_⟩) hHeld ?_
    rotate_left
    · intro W _; go_simp; try with_reducible rfl
    try simp only [Act.put, List.setIfInBounds_toArray, List.set_cons_zero, List.set_cons_succ]
    refine wpAnyH_ready (rs := [13]) (by kernel_rfl) (by simp) ?_
    refine AllReadyH.cons (o := ⟨some 43, .call { callee := .value (.func 15), args := #[.tmp 42], argTypes := #[3] }, _, _, _, some (11, true)⟩) rfl (fun K hK => ?_) AllReadyH.nil
    refine step_ofR (by rfl) ?_
    go_simp
    refine (E1.out _ hHeld.bel).mono ?_
    rintro x W1 ⟨rfl, hb1⟩
    refine hK.out _ _ (hHeld.below hb1) (fun hHeld => ?_)
    clear hK K
    try simp only [Act.put, List.setIfInBounds_toArray, List.set_cons_zero, List.set_cons_succ]
    refine wpAnyH_ready (rs := [15]) (by kernel_rfl) (by simp) ?_
    refine AllReadyH.cons (o := ⟨some 45, .call { callee := .value (.func 16), args := #[.tmp 44], argTypes := #[3] }, _, _, _, some (11, true)⟩) rfl (fun K hK => ?_) AllReadyH.nil
    refine step_ofR (by rfl) ?_
    go_simp
    refine (E2.out _ hHeld.bel).mono ?_
    rintro x W1 ⟨rfl, hb1⟩
    refine hK.out _ _ (hHeld.below hb1) (fun hHeld => ?_)
    clear hK K
    try simp only [Act.put, List.setIfInBounds_toArray, List.set_cons_zero, List.set_cons_succ]
    refine wpAnyH_take (i := 16) (oi := ⟨some 46, .binOp .eql 24 (.tmp 43) (.tmp 45) 24, _, _, _, some (11, true)⟩) (v := .bool true) rfl (by kernel_rfl) (by kernel_rfl) (by kernel_rfl) (fun _ _ _ h => h) (yieldsIf_eqE (by rfl) .eql 24 24 (.tmp 43) (.tmp 45) rfl _ _ rfl rfl guardR _ eE.out) hHeld ?_
    try simp only [Act.put, List.setIfInBounds_toArray, List.set_cons_zero, List.set_cons_succ]
    refine wpAnyH_take (i := 17) (oi := ⟨some 47, .pick (.tmp 41) (.tmp 46) (.const (.bool false)), _, _, _, none⟩) (v := ?_) rfl (by kernel_rfl) (by kernel_rfl) (by kernel_rfl) (fun _ _ _ h => h) (Or.inl ⟨by rfl, ?_⟩) hHeld ?_
    rotate_left
    · intro W _; go_simp; try with_reducible rfl
    try simp only [Act.put, List.setIfInBounds_toArray, List.set_cons_zero, List.set_cons_succ]
    refine wpAnyH_take (i := 18) (oi := ⟨some 48, .move (.tmp 47), _, _, _, none⟩) (v := ?_) rfl (by kernel_rfl) (by kernel_rfl) (by kernel_rfl) (fun _ _ _ h => h) (Or.inl ⟨by rfl, ?_⟩) hHeld ?_
    rotate_left
    · intro W _; go_simp; try with_reducible rfl
    try simp only [Act.put, List.setIfInBounds_toArray, List.set_cons_zero, List.set_cons_succ]
    refine wpAnyH_take (i := 19) (oi := ⟨some 49, .move (.tmp 0), _, _, _, some (18, true)⟩) (v := ?_) rfl (by kernel_rfl) (by kernel_rfl) (by kernel_rfl) (fun _ _ _ h => h) (Or.inl ⟨by rfl, ?_⟩) hHeld ?_
    rotate_left
    · intro W _; go_simp; try with_reducible rfl
    try simp only [Act.put, List.setIfInBounds_toArray, List.set_cons_zero, List.set_cons_succ]
    refine wpAnyH_take (i := 20) (oi := ⟨some 50, .load 26 (.tmp 7), _, _, _, some (18, true)⟩) (v := .agg (lc y).toArray) rfl (by kernel_rfl) (by kernel_rfl) (by kernel_rfl) (fun _ _ _ h => h) (yieldsIf_load_mid (by rfl) _ _ rfl w.heap.size 0 rfl (lc y) _ (fun W h => h.b7.allR) Tryz.underlying26 rfl iY.out) hHeld ?_
    try simp only [Act.put, List.setIfInBounds_toArray, List.set_cons_zero, List.set_cons_succ]
    refine wpAnyH_take (i := 22) (oi := ⟨some 52, .move (.tmp 0), _, _, _, some (18, true)⟩) (v := ?_) rfl (by kernel_rfl) (by kernel_rfl) (by kernel_rfl) (fun _ _ _ h => h) (Or.inl ⟨by rfl, ?_⟩) hHeld ?_
    rotate_left
    · intro W _; go_simp; try with_reducible rfl
    try simp only [Act.put, List.setIfInBounds_toArray, List.set_cons_zero, List.set_cons_succ]
    refine wpAnyH_take (i := 23) (oi := ⟨some 53, .load 26 (.tmp 7), _, _, _, some (18, true)⟩) (v := .agg (lc y).toArray) rfl (by kernel_rfl) (by kernel_rfl) (by kernel_rfl) (fun _ _ _ h => h) (yieldsIf_load_mid (by rfl) _ _ rfl w.heap.size 0 rfl (lc y) _ (fun W h => h.b7.allR) Tryz.underlying26 rfl iY.out) hHeld ?_
    try simp only [Act.put, List.setIfInBounds_toArray, List.set_cons_zero, List.set_cons_succ]
    refine wpAnyH_ready (rs := [21]) (by kernel_rfl) (by simp) ?_
    refine AllReadyH.cons (o := ⟨some 51, .call { callee := .value (.func 17), args := #[.tmp 49, .tmp 50], argTypes := #[3, 26] }, _, _, _, some (18, true)⟩) rfl (fun K hK => ?_) AllReadyH.nil
    refine step_ofR (by rfl) ?_
    go_simp
    refine (L1.out _ hHeld.bel).mono ?_
    rintro x W1 ⟨rfl, hb1⟩
    refine hK.out _ _ (hHeld.below hb1) (fun hHeld => ?_)
    clear hK K
    try simp only [Act.put, List.setIfInBounds_toArray, List.set_cons_zero, List.set_cons_succ]
    refine wpAnyH_ready (rs := [24]) (by kernel_rfl) (by simp) ?_
    refine AllReadyH.cons (o := ⟨some 54, .call { callee := .value (.func 18), args := #[.tmp 52, .tmp 53], argTypes := #[3, 26] }, _, _, _, some (18, true)⟩) rfl (fun K hK => ?_) AllReadyH.nil
    refine step_ofR (by rfl) ?_
    go_simp
    refine (L2.out _ hHeld.bel).mono ?_
    rintro x W1 ⟨rfl, hb1⟩
    refine hK.out _ _ (hHeld.below hb1) (fun hHeld => ?_)
    clear hK K
    try simp only [Act.put, List.setIfInBounds_toArray, List.set_cons_zero, List.set_cons_succ]
    refine wpAnyH_take (i := 25) (oi := ⟨some 55, .binOp .eql 24 (.tmp 51) (.tmp 54) 24, _, _, _, some (18, true)⟩) (v := .bool true) rfl (by kernel_rfl) (by kernel_rfl) (by kernel_rfl) (fun _ _ _ h => h) (yieldsIf_eqE (by rfl) .eql 24 24 (.tmp 51) (.tmp 54) rfl _ _ rfl rfl guardR _ eL.out) hHeld ?_
    try simp only [Act.put, List.setIfInBounds_toArray, List.set_cons_zero, List.set_cons_succ]
    refine wpAnyH_take (i := 26) (oi := ⟨some 56, .pick (.tmp 48) (.tmp 55) (.const (.bool false)), _, _, _, none⟩) (v := ?_) rfl (by kernel_rfl) (by kernel_rfl) (by kernel_rfl) (fun _ _ _ h => h) (Or.inl ⟨by rfl, ?_⟩) hHeld ?_
    rotate_left
    · intro W _; go_simp; try with_reducible rfl
    try simp only [Act.put, List.setIfInBounds_toArray, List.set_cons_zero, List.set_cons_succ]
    refine wpAnyH_take (i := 27) (oi := ⟨some 57, .move (.tmp 56), _, _, _, none⟩) (v := ?_) rfl (by kernel_rfl) (by kernel_rfl) (by kernel_rfl) (fun _ _ _ h => h) (Or.inl ⟨by rfl, ?_⟩) hHeld ?_
    rotate_left
    · intro W _; go_simp; try with_reducible rfl
    try simp only [Act.put, List.setIfInBounds_toArray, List.set_cons_zero, List.set_cons_succ]
    refine wpAnyH_take (i := 28) (oi := ⟨some 58, .move (.tmp 0), _, _, _, some (27, true)⟩) (v := ?_) rfl (by kernel_rfl) (by kernel_rfl) (by kernel_rfl) (fun _ _ _ h => h) (Or.inl ⟨by rfl, ?_⟩) hHeld ?_
    rotate_left
    · intro W _; go_simp; try with_reducible rfl
    try simp only [Act.put, List.setIfInBounds_toArray, List.set_cons_zero, List.set_cons_succ]
    refine wpAnyH_take (i := 29) (oi := ⟨some 59, .load 24 (.tmp 8), _, _, _, some (27, true)⟩) (v := .agg (bs p).toArray) rfl (by kernel_rfl) (by kernel_rfl) (by kernel_rfl) (fun _ _ _ h => h) (yieldsIf_load_mid (by rfl) _ _ rfl (w.heap.size + 1) 0 rfl (bs p) _ (fun W h => h.b8.allR) Tryz.underlying24 rfl iP.out) hHeld ?_
    try simp only [Act.put, List.setIfInBounds_toArray, List.set_cons_zero, List.set_cons_succ]
    refine wpAnyH_take (i := 30) (oi := ⟨some 60, .load 24 (.tmp 9), _, _, _, some (27, true)⟩) (v := .agg (bs q).toArray) rfl (by kernel_rfl) (by kernel_rfl) (by kernel_rfl) (fun _ _ _ h => h) (yieldsIf_load_mid (by rfl) _ _ rfl (w.heap.size + 1 + 1) 0 rfl (bs q) _ (fun W h => h.b9.allR) Tryz.underlying24 rfl iQ.out) hHeld ?_
    try simp only [Act.put, List.setIfInBounds_toArray, List.set_cons_zero, List.set_cons_succ]
    refine wpAnyH_take (i := 32) (oi := ⟨some 62, .move (.tmp 0), _, _, _, some (27, true)⟩) (v := ?_) rfl (by kernel_rfl) (by kernel_rfl) (by kernel_rfl) (fun _ _ _ h => h) (Or.inl ⟨by rfl, ?_⟩) hHeld ?_
    rotate_left
    · intro W _; go_simp; try with_reducible rfl
    try simp only [Act.put, List.setIfInBounds_toArray, List.set_cons_zero, List.set_cons_succ]
    refine wpAnyH_take (i := 33) (oi := ⟨some 63, .load 24 (.tmp 8), _, _, _, some (27, true)⟩) (v := .agg (bs p).toArray) rfl (by kernel_rfl) (by kernel_rfl) (by kernel_rfl) (fun _ _ _ h => h) (yieldsIf_load_mid (by rfl) _ _ rfl (w.heap.size + 1) 0 rfl (bs p) _ (fun W h => h.b8.allR) Tryz.underlying24 rfl iP.out) hHeld ?_
    try simp only [Act.put, List.setIfInBounds_toArray, List.set_cons_zero, List.set_cons_succ]
    refine wpAnyH_take (i := 34) (oi := ⟨some 64, .load 24 (.tmp 9), _, _, _, some (27, true)⟩) (v := .agg (bs q).toArray) rfl (by kernel_rfl) (by kernel_rfl) (by kernel_rfl) (fun _ _ _ h => h) (yieldsIf_load_mid (by rfl) _ _ rfl (w.heap.size + 1 + 1) 0 rfl (bs q) _ (fun W h => h.b9.allR) Tryz.underlying24 rfl iQ.out) hHeld ?_
    try simp only [Act.put, List.setIfInBounds_toArray, List.set_cons_zero, List.set_cons_succ]
    refine wpAnyH_ready (rs := [31]) (by kernel_rfl) (by simp) ?_
    refine AllReadyH.cons (o := ⟨some 61, .call { callee := .value (.func 19), args := #[.tmp 58, .tmp 59, .tmp 60], argTypes := #[3, 24, 24] }, _, _, _, some (27, true)⟩) rfl (fun K hK => ?_) AllReadyH.nil
    refine step_ofR (by rfl) ?_
    go_simp
    refine (N1.out _ hHeld.bel).mono ?_
    rintro x W1 ⟨rfl, hb1⟩
    refine hK.out _ _ (hHeld.below hb1) (fun hHeld => ?_)
    clear hK K
    try simp only [Act.put, List.setIfInBounds_toArray, List.set_cons_zero, List.set_cons_succ]
    refine wpAnyH_ready (rs := [35]) (by kernel_rfl) (by simp) ?_
    refine AllReadyH.cons (o := ⟨some 65, .call { callee := .value (.func 20), args := #[.tmp 62, .tmp 63, .tmp 64], argTypes := #[3, 24, 24] }, _, _, _, some (27, true)⟩) rfl (fun K hK => ?_) AllReadyH.nil
    refine step_ofR (by rfl) ?_
    go_simp
    refine (N2.out _ hHeld.bel).mono ?_
    rintro x W1 ⟨rfl, hb1⟩
    refine hK.out _ _ (hHeld.below hb1) (fun hHeld => ?_)
    clear hK K
    try simp only [Act.put, List.setIfInBounds_toArray, List.set_cons_zero, List.set_cons_succ]
    refine wpAnyH_take (i := 36) (oi := ⟨some 66, .binOp .eql 24 (.tmp 61) (.tmp 65) 24, _, _, _, some (27, true)⟩) (v := .bool true) rfl (by kernel_rfl) (by kernel_rfl) (by kernel_rfl) (fun _ _ _ h => h) (yieldsIf_eqE (by rfl) .eql 24 24 (.tmp 61) (.tmp 65) rfl _ _ rfl rfl guardR _ eN.out) hHeld ?_
    try simp only [Act.put, List.setIfInBounds_toArray, List.set_cons_zero, List.set_cons_succ]
    refine wpAnyH_take (i := 37) (oi := ⟨some 67, .pick (.tmp 57) (.tmp 66) (.const (.bool false)), _, _, _, none⟩) (v := ?_) rfl (by kernel_rfl) (by kernel_rfl) (by kernel_rfl) (fun _ _ _ h => h) (Or.inl ⟨by rfl, ?_⟩) hHeld ?_
    rotate_left
    · intro W _; go_simp; try with_reducible rfl
    try simp only [Act.put, List.setIfInBounds_toArray, List.set_cons_zero, List.set_cons_succ]
    refine wpAnyH_ready (rs := [38]) (by kernel_rfl) (by simp) ?_
    refine AllReadyH.cons (o := ⟨some 10, .assign (.tmp 67), _, _, _, none⟩) rfl (fun K hK => ?_) AllReadyH.nil
    refine step_ofR (by rfl) ?_
    go_simp
    refine hK.out _ _ (hHeld) (fun hHeld => ?_)
    clear hK K
    try simp only [Act.put, List.setIfInBounds_toArray, List.set_cons_zero, List.set_cons_succ]
    refine wpAnyH_done (by kernel_rfl) ?_ _
    -- END 5 4
    go_wp2_with fail
    go_ret
    exact Yes5.mk hHeld.bel
end Go.Proofs.YtielmijahccgkaaGreatDoor
