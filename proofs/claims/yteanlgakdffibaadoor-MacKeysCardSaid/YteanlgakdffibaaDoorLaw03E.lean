/-
  The walk of MacKeys.
-/
import Derived.Test.YteanlgakdffibaaDoorLaw03A
namespace Go.Proofs.YteanlgakdffibaaDoor
open Go.RowKit

theorem hmac_long (k l : List UInt8) (h : 64 < k.length) : hmac (sha k) l = hmac k l := by
  have e1 : keyOf (sha k) = sha k := by unfold keyOf; rw [if_pos (by rw [sha_length]; decide)]
  have e2 : keyOf k = sha k := by unfold keyOf; rw [if_neg (by omega)]
  have e : kblock (sha k) = kblock k := by rw [kblock, kblock, e1, e2]
  rw [hmac, hmac, e]
theorem hmac_pad (k l : List UInt8) (j : Nat) (h : (k ++ List.replicate j (0 : UInt8)).length ≤ 64) : hmac (k ++ List.replicate j 0) l = hmac k l := by
  have h' := h
  rw [List.length_append, List.length_replicate] at h'
  have e1 : keyOf (k ++ List.replicate j 0) = k ++ List.replicate j 0 := by unfold keyOf; rw [if_pos h]
  have e2 : keyOf k = k := by unfold keyOf; rw [if_pos (by omega)]
  have e : kblock (k ++ List.replicate j 0) = kblock k := by
    rw [kblock, kblock, e1, e2, List.length_append, List.length_replicate, List.append_assoc, List.replicate_append_replicate]
    congr 2
    omega
  rw [hmac, hmac, e]

/-- two arrays held against each other, in whatever world -/
theorem yieldsIf_eqK {ops : Array Oper} {S : World → Prop} {o : Oper} {a : Act} (hw : Region.wanted o (yielded ops a.tmps) = true) (op : BinOp) (t t' : TypeId) (x y : Operand) (ho : o.op = .binOp op t x y t')
    (xs ys : Array Value) (hx : a.eval x = .agg xs) (hy : a.eval y = .agg ys) (hm : Tryd.prog.eqGuardType Tryd.prog.depth t = false) (v : Value) (hrun : ∀ W : World, (binOp op t (.agg xs) (.agg ys)).run Tryd.prog W = .ok v W) :
    YieldsIf Tryd.prog ops S o v a :=
  .inl ⟨hw, fun W _ => by simp [execOp, ho, hx, hy, run_eqGuard_agg W op t x y xs ys hm, hrun]⟩
theorem guardK : Tryd.prog.eqGuardType Tryd.prog.depth 32 = false := by kernel_rfl

/-- what the walk of MacKeys knows of a world: the code that was asked first -/
structure KeyAt (w W : World) (D : List UInt8) (g : Nat) : Prop where
  blk : Blk W g 32 (bs D)
  bel : Below w.heap.size w W
theorem KeyAt.below {w W W' : World} {D : List UInt8} {g : Nat} (h : KeyAt w W D g) (hb : Below W.heap.size W W') : KeyAt w W' D g := ⟨h.blk.below hb, Bt h.bel hb⟩
theorem KeyAt.drew {w W : World} {D : List UInt8} {g : Nat} (h : KeyAt w W D g) : KeyAt w W.drew D g := h.below ⟨rfl, rfl, rfl, Nat.le_refl _, fun _ _ => rfl⟩
theorem Blk.allK {w : World} {g : Nat} {t : TypeId} {vs : List Value} (h : Blk w g t vs) : w.rangeAt g 0 vs := h.range 0 (fun j hj => by simp)
/-- the same beside the digest of the key -/
structure LongAt (w W : World) (D E : List UInt8) (g s : Nat) : Prop extends KeyAt w W D g where
  sum : Blk W s 32 (bs E)
theorem LongAt.below {w W W' : World} {D E : List UInt8} {g s : Nat} (h : LongAt w W D E g s) (hb : Below W.heap.size W W') : LongAt w W' D E g s := ⟨h.toKeyAt.below hb, h.sum.below hb⟩
theorem LongAt.drew {w W : World} {D E : List UInt8} {g s : Nat} (h : LongAt w W D E g s) : LongAt w W.drew D E g s := h.below ⟨rfl, rfl, rfl, Nat.le_refl _, fun _ _ => rfl⟩
/-- the same beside the row that grows -/
structure PadAt (w W : World) (D p : List UInt8) (g B : Nat) (v : Value) : Prop extends KeyAt w W D g where
  own : Own W B v p
  le : B ≤ W.heap.size
  gt : g < B
  up : w.heap.size ≤ B
theorem PadAt.below {w W W' : World} {D p : List UInt8} {g B : Nat} {v : Value} (h : PadAt w W D p g B v) (hb : Below W.heap.size W W') : PadAt w W' D p g B v := ⟨h.toKeyAt.below hb, h.own.below hb, Nat.le_trans h.le hb.size, h.gt, h.up⟩
theorem PadAt.drew {w W : World} {D p : List UInt8} {g B : Nat} {v : Value} (h : PadAt w W D p g B v) : PadAt w W.drew D p g B v := h.below ⟨rfl, rfl, rfl, Nat.le_refl _, fun _ _ => rfl⟩
theorem PadAt.alloc {w W : World} {D p : List UInt8} {g B : Nat} {v : Value} (h : PadAt w W D p g B v) (o : Obj) : PadAt w (W.alloc o) D p g B v := h.below ((Below.refl _ _).alloc (Nat.le_refl _) _)
theorem PadAt.app {w W W' : World} {D p p' : List UInt8} {g B : Nat} {v v' : Value} (h : PadAt w W D p g B v) (hO : Own W' B v' p') (hg : W.grownBy W' v.ownBlock) : PadAt w W' D p' g B v' := by
  have hlt := h.gt
  have hup := h.up
  refine ⟨⟨h.blk.grown hg (fun e => by have := (World.ownsRow.lt h.own g e).1; omega), h.bel.grown hg h.bel.size (fun x e => by have := (World.ownsRow.lt h.own x e).1; omega)⟩, hO, Nat.le_trans h.le hg.size, h.gt, h.up⟩

set_option maxRecDepth 100000 in
set_option maxHeartbeats 2000000 in
theorem walkMacKeys (w : World) (hT : Tab w 1) (ka : Option Addr) (kn kc : Nat) (k : List UInt8) (hk : Rd w ka kn kc k) (a : Option Addr) (n c : Nat) (l : List UInt8) (hr : Rd w a n c l) :
    Calls Tryd.prog 5 #[.slice ka kn kc, .slice a n c] w (Yes3 w) := by
  by_cases hkn : 131072 < kn
  · have h1 : (131072 : Int) < kn := by omega
    go_enter Tryd.func5, Tryd.ntmps5
    go_wp2_with fail
    go_ret
    exact Yes3.mk (Below.refl _ _)
  have h1 : ¬ (131072 : Int) < kn := by omega
  by_cases hn : 131072 < n
  · have h2 : (131072 : Int) < n := by omega
    go_enter Tryd.func5, Tryd.ntmps5
    go_wp2_with fail
    go_ret
    exact Yes3.mk (Below.refl _ _)
  have h2 : ¬ (131072 : Int) < n := by omega
  have hkl := Lib.hid hk.len
  have HP := Lib.hid (hmac_pad k l)
  have HL := Lib.hid (hmac_long k l)
  have hD := hmac_length k l
  have HM := Lib.hid (fun (W : World) (h1 : Rd W ka kn kc k) (h2 : Rd W a n c l) (h3 : Tab W 1) => mac_any W ka kn kc k a n c l h1 h2 h3 (by omega) (by omega))
  generalize hmac k l = D at *
  have H1 := Lib.hid (show (Tryd.prog.info? 32).map (·.size) = some (bs D).length by rw [info_digest, bs_length, hD])
  have H2 := Lib.hid (show (bs zero32).length = (bs D).length by rw [bs_length, bs_length, zero32_length, hD])
  have H3 := bs_one D
  have e1 := Lib.hid (show ∀ W : World, (binOp .eql 32 (.agg (bs D).toArray) (.agg (bs D).toArray)).run Tryd.prog W = .ok (.bool true) W from fun W => by rw [eqD W _ _ hD hD]; simp)
  have e2 := Lib.hid (show ∀ W : World, (binOp .neq 32 (.agg (bs D).toArray) (.agg (bs D).toArray)).run Tryd.prog W = .ok (.bool false) W from fun W => by rw [neqD W _ _ hD hD]; simp)
  go_enter Tryd.func5, Tryd.ntmps5
  go_wp2_with fail
  refine (HM.out w hk hr hT).mono ?_
  rintro e w1 ⟨rfl, hB1⟩
  have hs1 := hB1.size
  by_cases h64 : kn ≤ 64
  · have h64' : ¬ (64 : Int) < kn := by omega
    go_wp2_with (first | ((with_reducible refine wpList_allocB (o := ⟨some 5, _, _, _, _, _⟩) ?_ 32 ?_ zero32_info ?_); rfl; rfl; intro w2 hr2 hg2 hz2) | ((with_reducible refine wpList_storeB (o := ⟨none, .store 32 (.tmp 5) (.tmp 18), _, _, _, _⟩) ?_ 32 (.tmp 5) (.tmp 18) ?_ ?_ ?_ hr2 H1.out H2.out H3 ?_); rfl; rfl; rfl; rfl; intro w3 hr3 hg3 hz3; have hB3 := below_of_grown (hB1.grown hg2 hs1 (fun k e => by cases e)) hg3 hs1; have hP3 : PadAt w w3 D [] w1.heap.size w3.heap.size (.slice none 0 0) := ⟨⟨hr3, hB3⟩, Own.nil0 _ _, Nat.le_refl _, by omega, by omega⟩; have hk3 := hk.below hB3) | (at_builtin; refine wpList_app (base := w3.heap.size) (q := []) rfl (.tmp 32) (.tmp 33) rfl rfl hP3.own rfl hk3 (by simp; omega) (Nat.le_refl _) ?_; intro a4 c4 w4 hO4 hg4; have hP4 := hP3.app hO4 hg4))
    rw [List.nil_append] at hP4
    replace hP4 : PadAt w w4 D k w1.heap.size w3.heap.size (.slice a4 k.length c4) := by
      rw [hkl.out]; simpa using hP4
    rw [← hkl.out]
    generalize w1.heap.size = g at *
    generalize w3.heap.size = B at *
    clear hr2 hg2 hz2 hr3 hg3 hz3 hB3 hP3 hk3 hO4 hg4 hB1
    go_loopw [7] (fun v wr => ∃ (j : Nat) (p : List UInt8) (ai : Option Addr) (ci : Nat), v = .slice ai p.length ci ∧ p = k ++ List.replicate j 0 ∧ p.length ≤ 64 ∧ PadAt w wr D p g B (.slice ai p.length ci)) (fun v _ => 64 - sliceLen v)
    case atStart => exact ⟨0, k, a4, c4, rfl, by simp, by rw [hkl.out]; exact h64, hP4⟩
    case round =>
      obtain ⟨j, p, ai, ci, rfl, hp, hpl, hPd⟩ := hrel
      by_cases hlt : p.length < 64
      · have hlt' : (p.length : Int) < 64 := by omega
        have hp1 : p ++ [0] = k ++ List.replicate (j + 1) 0 := by rw [hp, List.append_assoc, List.replicate_succ']
        have hp1l : (p ++ [0]).length = p.length + 1 := by simp
        have HM3 := Lib.hid (fun (W : World) (ai : Option Addr) (ci : Nat) (h1 : Rd W ai (p.length + 1) ci (p ++ [0])) (h2 : Rd W a n c l) (h3 : Tab W 1) => mac_any W ai _ ci _ a n c l h1 h2 h3 (by omega) (by omega))
        rw [hp1, HP.out _ (by rw [← hp1, hp1l]; omega), ← hp1] at HM3
        have HPL := Lib.hid hpl
        clear hp hpl
        go_wp2_with (at_builtin; refine wpList_app (base := B) (v := .slice ai p.length ci) rfl (.tmp 38) (.tmp 39) rfl rfl (hPd.alloc _).own rfl (Rd.lit wr [0] 1 rfl (by decide)) (by have := HPL.out; omega) (hPd.alloc _).le ?_; intro a5 c5 w5 hO5 hg5; have hS := (hPd.alloc _).app hO5 hg5)
        -- REGION 11
        refine wp_region_held_drew (S := fun W => PadAt w W D (p ++ [0]) g B (.slice a5 (p.length + 1) c5)) (by kernel_rfl) hS.drew (fun hHeld => ?_)
        refine wpAnyH_take (i := 0) (oi := ⟨some 41, .move (.tmp 7), _, _, _, none⟩) (v := ?_) rfl (by kernel_rfl) (by kernel_rfl) (by kernel_rfl) (fun _ _ _ h => h) (Or.inl ⟨by rfl, ?_⟩) hHeld ?_
        rotate_left
        · intro W _; go_simp; try with_reducible rfl
        try simp only [Act.put, List.setIfInBounds_toArray, List.set_cons_zero, List.set_cons_succ]
        refine wpAnyH_take (i := 1) (oi := ⟨some 42, .move (.tmp 1), _, _, _, none⟩) (v := ?_) rfl (by kernel_rfl) (by kernel_rfl) (by kernel_rfl) (fun _ _ _ h => h) (Or.inl ⟨by rfl, ?_⟩) hHeld ?_
        rotate_left
        · intro W _; go_simp; try with_reducible rfl
        try simp only [Act.put, List.setIfInBounds_toArray, List.set_cons_zero, List.set_cons_succ]
        refine wpAnyH_take (i := 3) (oi := ⟨some 44, .load 32 (.tmp 5), _, _, _, none⟩) (v := .agg (bs D).toArray) rfl (by kernel_rfl) (by kernel_rfl) (by kernel_rfl) (fun _ _ _ h => h) (yieldsIf_load_mid (by rfl) _ _ rfl g 0 rfl (bs D) _ (fun W h => h.blk.allK) Tryd.underlying32 rfl H1.out) hHeld ?_
        try simp only [Act.put, List.setIfInBounds_toArray, List.set_cons_zero, List.set_cons_succ]
        refine wpAnyH_ready (rs := [2]) (by kernel_rfl) (by simp) ?_
        refine AllReadyH.cons (o := ⟨some 43, .call { callee := .value (.func 19), args := #[.tmp 41, .tmp 42], argTypes := #[26, 26] }, _, _, _, none⟩) rfl (fun K hK => ?_) AllReadyH.nil
        refine step_ofM (by rfl) ?_
        go_simp
        refine (HM3.out _ _ _ hHeld.own.rd (hr.below hHeld.bel) (hT.below hHeld.bel)).mono ?_
        rintro e W2 ⟨rfl, hb2⟩
        refine hK.out _ _ (hHeld.below hb2) (fun hHeld => ?_)
        clear hK K
        try simp only [Act.put, List.setIfInBounds_toArray, List.set_cons_zero, List.set_cons_succ]
        refine wpAnyH_take (i := 4) (oi := ⟨some 45, .binOp .neq 32 (.tmp 43) (.tmp 44) 32, _, _, _, none⟩) (v := .bool false) rfl (by kernel_rfl) (by kernel_rfl) (by kernel_rfl) (fun _ _ _ h => h) (yieldsIf_eqK (by rfl) .neq 32 32 (.tmp 43) (.tmp 44) rfl _ _ rfl rfl guardK _ e2.out) hHeld ?_
        try simp only [Act.put, List.setIfInBounds_toArray, List.set_cons_zero, List.set_cons_succ]
        refine wpAnyH_done (by kernel_rfl) ?_ _
        -- END 11
        go_wp2_with fail
        refine ⟨⟨j + 1, p ++ [0], a5, c5, by rw [hp1l], hp1, by rw [hp1l]; omega, by rw [hp1l]; exact hHeld⟩, by simp [sliceLen]; omega⟩
      · have hlt' : ¬ (p.length : Int) < 64 := by omega
        clear hp hpl hlt H1 H2 H3 hP4
        generalize p.length = m at *
        go_wp2_with fail
        refine (macs_any wr (hT.below hPd.bel)).mono ?_
        rintro e w6 ⟨rfl, hB6⟩
        go_wp2_with fail
        go_ret
        exact Yes3.mk (Bt hPd.bel hB6)
  · have h64' : (64 : Int) < kn := by omega
    go_wp2_with (first | ((with_reducible refine wpList_allocB (o := ⟨some 5, _, _, _, _, _⟩) ?_ 32 ?_ zero32_info ?_); rfl; rfl; intro w2 hr2 hg2 hz2) | ((with_reducible refine wpList_storeB (o := ⟨none, .store 32 (.tmp 5) (.tmp 18), _, _, _, _⟩) ?_ 32 (.tmp 5) (.tmp 18) ?_ ?_ ?_ hr2 H1.out H2.out H3 ?_); rfl; rfl; rfl; rfl; intro w3 hr3 hg3 hz3))
    have hB3 := below_of_grown (hB1.grown hg2 hs1 (fun k e => by cases e)) hg3 hs1
    have hK3 : KeyAt w w3 D w1.heap.size := ⟨hr3, hB3⟩
    generalize w1.heap.size = g at *
    have HL2 := HL.out (by rw [hkl.out]; omega)
    have hE := sha_length k
    refine (sum_any w3 ka kn kc k (hk.below hB3) (hT.below hB3) (by omega)).mono ?_
    rintro e w4 ⟨rfl, hB4⟩
    have HM2 := Lib.hid (fun (W : World) (s : Nat) (h1 : Rd W (some ⟨s, 0, none⟩) 32 32 (sha k)) (h2 : Rd W a n c l) (h3 : Tab W 1) => mac_any W _ _ _ (sha k) a n c l h1 h2 h3 (by omega) (by omega))
    rw [HL2] at HM2
    clear HL2 HL HP
    generalize sha k = E at *
    have H4 := Lib.hid (show (Tryd.prog.info? 32).map (·.size) = some (bs E).length by rw [info_digest, bs_length, hE])
    have H5 := Lib.hid (show (bs zero32).length = (bs E).length by rw [bs_length, bs_length, zero32_length, hE])
    have H6 := bs_one E
    have hK4 := hK3.below hB4
    go_wp2_with (first | ((with_reducible refine wpList_allocB (o := ⟨some 6, _, _, _, _, _⟩) ?_ 32 ?_ zero32_info ?_); rfl; rfl; intro w5 hr5 hg5 hz5) | ((with_reducible refine wpList_storeB (o := ⟨none, .store 32 (.tmp 6) (.tmp 23), _, _, _, _⟩) ?_ 32 (.tmp 6) (.tmp 23) ?_ ?_ ?_ hr5 H4.out H5.out H6 ?_); rfl; rfl; rfl; rfl; intro w6 hr6 hg6 hz6))
    have hS : LongAt w w6 D E g w4.heap.size := ⟨hK4.below (below_of_grown ((Below.refl _ w4).grown hg5 (Nat.le_refl _) (fun k e => by cases e)) hg6 (Nat.le_refl _)), hr6⟩
    generalize w4.heap.size = s at *
    -- REGION 6
    refine wp_region_held_drew (S := fun W => LongAt w W D E g s) (by kernel_rfl) hS.drew (fun hHeld => ?_)
    refine wpAnyH_ready (rs := [0]) (by kernel_rfl) (by simp) ?_
    refine AllReadyH.cons (o := ⟨some 24, .call { callee := .value (.func 18), args := #[], argTypes := #[] }, _, _, _, none⟩) rfl (fun K hK => ?_) AllReadyH.nil
    refine step_ofM (by rfl) ?_
    go_simp
    refine (macs_any _ (hT.below hHeld.bel)).mono ?_
    rintro e W1 ⟨rfl, hb1⟩
    refine hK.out _ _ (hHeld.below hb1) (fun hHeld => ?_)
    clear hK K
    try simp only [Act.put, List.setIfInBounds_toArray, List.set_cons_zero, List.set_cons_succ]
    refine wpAnyH_take (i := 1) (oi := ⟨some 25, .move (.tmp 24), _, _, _, none⟩) (v := ?_) rfl (by kernel_rfl) (by kernel_rfl) (by kernel_rfl) (fun _ _ _ h => h) (Or.inl ⟨by rfl, ?_⟩) hHeld ?_
    rotate_left
    · intro W _; go_simp; try with_reducible rfl
    try simp only [Act.put, List.setIfInBounds_toArray, List.set_cons_zero, List.set_cons_succ]
    refine wpAnyH_take (i := 2) (oi := ⟨some 26, .slice 32 (.tmp 6) none none none, _, _, _, some (1, true)⟩) (v := ?_) rfl (by kernel_rfl) (by kernel_rfl) (by kernel_rfl) (fun _ _ _ h => h) (Or.inl ⟨by rfl, ?_⟩) hHeld ?_
    rotate_left
    · intro W _; go_simp; try with_reducible rfl
    try simp only [Act.put, List.setIfInBounds_toArray, List.set_cons_zero, List.set_cons_succ]
    refine wpAnyH_take (i := 3) (oi := ⟨some 27, .move (.tmp 1), _, _, _, some (1, true)⟩) (v := ?_) rfl (by kernel_rfl) (by kernel_rfl) (by kernel_rfl) (fun _ _ _ h => h) (Or.inl ⟨by rfl, ?_⟩) hHeld ?_
    rotate_left
    · intro W _; go_simp; try with_reducible rfl
    try simp only [Act.put, List.setIfInBounds_toArray, List.set_cons_zero, List.set_cons_succ]
    refine wpAnyH_take (i := 5) (oi := ⟨some 29, .load 32 (.tmp 5), _, _, _, some (1, true)⟩) (v := .agg (bs D).toArray) rfl (by kernel_rfl) (by kernel_rfl) (by kernel_rfl) (fun _ _ _ h => h) (yieldsIf_load_mid (by rfl) _ _ rfl g 0 rfl (bs D) _ (fun W h => h.blk.allK) Tryd.underlying32 rfl H1.out) hHeld ?_
    try simp only [Act.put, List.setIfInBounds_toArray, List.set_cons_zero, List.set_cons_succ]
    refine wpAnyH_ready (rs := [4]) (by kernel_rfl) (by simp) ?_
    refine AllReadyH.cons (o := ⟨some 28, .call { callee := .value (.func 19), args := #[.tmp 26, .tmp 27], argTypes := #[26, 26] }, _, _, _, some (1, true)⟩) rfl (fun K hK => ?_) AllReadyH.nil
    refine step_ofM (by rfl) ?_
    go_simp
    refine (HM2.out _ _ (Rd.block hHeld.sum.at_ hE (by decide)) (hr.below hHeld.bel) (hT.below hHeld.bel)).mono ?_
    rintro e W2 ⟨rfl, hb2⟩
    refine hK.out _ _ (hHeld.below hb2) (fun hHeld => ?_)
    clear hK K
    try simp only [Act.put, List.setIfInBounds_toArray, List.set_cons_zero, List.set_cons_succ]
    refine wpAnyH_take (i := 6) (oi := ⟨some 30, .binOp .eql 32 (.tmp 28) (.tmp 29) 32, _, _, _, some (1, true)⟩) (v := .bool true) rfl (by kernel_rfl) (by kernel_rfl) (by kernel_rfl) (fun _ _ _ h => h) (yieldsIf_eqK (by rfl) .eql 32 32 (.tmp 28) (.tmp 29) rfl _ _ rfl rfl guardK _ e1.out) hHeld ?_
    try simp only [Act.put, List.setIfInBounds_toArray, List.set_cons_zero, List.set_cons_succ]
    refine wpAnyH_take (i := 7) (oi := ⟨some 31, .pick (.tmp 25) (.tmp 30) (.const (.bool false)), _, _, _, none⟩) (v := ?_) rfl (by kernel_rfl) (by kernel_rfl) (by kernel_rfl) (fun _ _ _ h => h) (Or.inl ⟨by rfl, ?_⟩) hHeld ?_
    rotate_left
    · intro W _; go_simp; try with_reducible rfl
    try simp only [Act.put, List.setIfInBounds_toArray, List.set_cons_zero, List.set_cons_succ]
    refine wpAnyH_ready (rs := [8]) (by kernel_rfl) (by simp) ?_
    refine AllReadyH.cons (o := ⟨some 4, .assign (.tmp 31), _, _, _, none⟩) rfl (fun K hK => ?_) AllReadyH.nil
    refine step_ofM (by rfl) ?_
    go_simp
    refine hK.out _ _ (hHeld) (fun hHeld => ?_)
    clear hK K
    try simp only [Act.put, List.setIfInBounds_toArray, List.set_cons_zero, List.set_cons_succ]
    refine wpAnyH_done (by kernel_rfl) ?_ _
    -- END 6
    go_wp2_with fail
    go_ret
    exact Yes3.mk hHeld.bel
end Go.Proofs.YteanlgakdffibaaDoor
