/-
  The walk of mac.Mac.
-/
import Derived.Test.YtoclahcibilbhaaDoorMacB
namespace Go.Proofs.YtoclahcibilbhaaDoor
open Go.RowKit

/-- an operation that is wanted, as one step of a region that draws its order -/
theorem step_ofM {ops : Array Oper} {o : Oper} {a : Act} {w : World} {K : Act → World → Prop} {Q : Exit → Act → World → Prop} {E : Prop} (hw : Region.wanted o (yielded ops a.tmps) = true) (h : Oper.wp Tryd.prog o a w K Q) :
    if Region.wanted o (yielded ops a.tmps) = true then Oper.wp Tryd.prog o a w K Q else E := by
  rw [if_pos hw]; exact h

/-- an alloc of an array as one step of a region that draws its order -/
theorem step_allocB {ops : Array Oper} {o : Oper} {a : Act} {w : World} {K : Act → World → Prop} {Q : Exit → Act → World → Prop} {E : Prop} (hgd : o.guard = none) (T : TypeId) (ho : o.op = .alloc T)
    {zs : List Value} {n : Nat} (hz : (Tryd.prog.info? T).map (fun i => (i.zero, i.size)) = some (some (.agg zs.toArray), n))
    (h : ∀ w', Blk w' w.heap.size T zs → w.grownBy w' none → w'.heap.size = w.heap.size + 1 → K (a.put o.dst (.pointer (some ⟨w.heap.size, 0, none⟩))) w') :
    if Region.wanted o (yielded ops a.tmps) = true then Oper.wp Tryd.prog o a w K Q else E := by
  have hw : Region.wanted o (yielded ops a.tmps) = true := by simp [Region.wanted, hgd]
  rw [if_pos hw]
  have h' := h (w.alloc (.cells zs.toArray T)) (Blk.new w T zs) (World.grownBy_alloc w _ none) (by simp)
  have hz := (zero_of_info hz).1
  unfold Oper.wp execOp
  simp [ho, Instr.alloc, hz, newVar, newRow, Value.cells]
  exact h'

theorem splice_full (vs cs : List Value) (h : cs.length = vs.length) : splice vs 0 cs = cs := by
  simp [splice, h]

/-- what the walk of Mac knows of a world: its result, the block of the key, the bytes, the table -/
structure MacAt (w W : World) (g : Nat) (B : List UInt8) (a : Option Addr) (n c : Nat) (l : List UInt8) : Prop where
  res : Blk W w.heap.size 23 (bs zero32)
  blk : Blk W g 54 (bs B)
  rd : Rd W a n c l
  tab : Tab W 0
  bel : Below w.heap.size w W
  gt : w.heap.size < g
theorem MacAt.below {w W W' : World} {g : Nat} {B : List UInt8} {a : Option Addr} {n c : Nat} {l : List UInt8} (h : MacAt w W g B a n c l) (hb : Below W.heap.size W W') : MacAt w W' g B a n c l :=
  ⟨h.res.below hb, h.blk.below hb, h.rd.below hb, h.tab.below hb, Bt h.bel hb, h.gt⟩
theorem MacAt.drew {w W : World} {g : Nat} {B : List UInt8} {a : Option Addr} {n c : Nat} {l : List UInt8} (h : MacAt w W g B a n c l) : MacAt w W.drew g B a n c l :=
  h.below ⟨rfl, rfl, rfl, Nat.le_refl _, fun _ _ => rfl⟩
theorem MacAt.new {w W W' : World} {g : Nat} {B : List UInt8} {a : Option Addr} {n c : Nat} {l : List UInt8} (h : MacAt w W g B a n c l) (hg : W.grownBy W' none) : MacAt w W' g B a n c l :=
  h.below ((Below.refl _ W).grown hg (Nat.le_refl _) (fun k e => by cases e))
/-- the variable of the inner sum -/
structure InAt (w W : World) (g : Nat) (a : Option Addr) (n g6 : Nat) (D : List UInt8) : Prop where
  blk : Blk W g6 23 (bs D)
  gt : w.heap.size < g6
  ne : g ≠ g6
  ap : Ap a n g6
  tb : 0 ≠ g6
theorem InAt.below {w W W' : World} {g g6 n : Nat} {a : Option Addr} {D : List UInt8} (h : InAt w W g a n g6 D) (hb : Below W.heap.size W W') : InAt w W' g a n g6 D := ⟨h.blk.below hb, h.gt, h.ne, h.ap, h.tb⟩
theorem InAt.drew {w W : World} {g g6 n : Nat} {a : Option Addr} {D : List UInt8} (h : InAt w W g a n g6 D) : InAt w W.drew g a n g6 D := ⟨h.blk.drew, h.gt, h.ne, h.ap, h.tb⟩
theorem InAt.make {w W W' : World} {g n c : Nat} {B D : List UInt8} {a : Option Addr} {l : List UInt8} (h : MacAt w W g B a n c l) (hA : Blk W' W.heap.size 23 (bs D)) : InAt w W' g a n W.heap.size D := by
  have h1 := h.blk.lt
  have h2 := h.gt
  have h3 := h.tab.lt
  exact ⟨hA, by omega, by omega, h.rd.ap (Nat.le_refl _), by omega⟩
theorem MacAt.stored {w W W' : World} {g g6 : Nat} {B D : List UInt8} {a : Option Addr} {n c : Nat} {l : List UInt8} (h : MacAt w W g B a n c l) (hI : InAt w W g a n g6 D) (hg : W.grownBy W' (some g6)) : MacAt w W' g B a n c l := by
  have h1 := hI.gt
  have h2 := hI.ne
  exact ⟨h.res.grown hg (by simp; omega), h.blk.grown hg (by simp; omega), Ap.grown h.rd hg hI.ap, h.tab.grown hg hI.tb, below_of_grown h.bel hg (by omega), h.gt⟩

set_option maxRecDepth 100000 in
set_option maxHeartbeats 2000000 in
theorem mac_any (w : World) (ka : Option Addr) (kn kc : Nat) (k : List UInt8) (a : Option Addr) (n c : Nat) (l : List UInt8) (hk : Rd w ka kn kc k) (hr : Rd w a n c l) (hT : Tab w 0) (hkn : kn ≤ 1000000) (hn : n ≤ 1000000) :
    Calls Tryd.prog 19 #[.slice ka kn kc, .slice a n c] w fun e w' => e = .returned (.agg (bs (hmac k l)).toArray) ∧ Below w.heap.size w w' := by
  have hl := hr.len
  have hTl := hT.lt
  have HB := Lib.hid (fun (W : World) (h1 : Rd W ka kn kc k) (h2 : Tab W 0) => blockOf_any W ka kn kc k h1 h2 (by omega))
  have hBl := kblock_length k
  have hx1 := xorb_length 54 (kblock k)
  have hx2 := xorb_length 92 (kblock k)
  have HE1 := Lib.hid (fun (W : World) (r : Nat) => each_any W (kblock k) hBl 54 r)
  have HE2 := Lib.hid (fun (W : World) (r : Nat) => each_any W (kblock k) hBl 92 r)
  have HS1 := Lib.hid (fun (W : World) (h : Rd W a n c l) (hT : Tab W 0) => sum_mac W (xorb 54 (kblock k)) (by rw [hx1, hBl]) a n c l h hT (by omega))
  have HS2 := Lib.hid (fun (W : World) (g : Nat) (h : Rd W (some ⟨g, 0, none⟩) 32 32 (sha (xorb 54 (kblock k) ++ l))) (hT : Tab W 0) => sum_mac W (xorb 92 (kblock k)) (by rw [hx2, hBl]) (some ⟨g, 0, none⟩) 32 32 _ h hT (by omega))
  rw [show sha (xorb 92 (kblock k) ++ sha (xorb 54 (kblock k) ++ l)) = hmac k l from rfl] at HS2
  have hl1 := sha_length (xorb 54 (kblock k) ++ l)
  have hl2 := hmac_length k l
  generalize hmac k l = D2 at *
  generalize sha (xorb 54 (kblock k) ++ l) = D1 at *
  generalize xorb 54 (kblock k) = X1 at *
  generalize xorb 92 (kblock k) = X2 at *
  generalize kblock k = B at *
  have HI := Lib.hid (show (Tryd.prog.info? 54).map (·.size) = some (bs B).length by rw [info64b, bs_length, hBl])
  have HZ := Lib.hid (show (bs zeros64).length = (bs B).length by rw [bs_length, bs_length, zeros64_length, hBl])
  have HO := bs_one B
  have HD1 := Lib.hid (show (Tryd.prog.info? 23).map (·.size) = some (bs D1).length by rw [info_digest, bs_length, hl1])
  have HD2 := Lib.hid (show (Tryd.prog.info? 23).map (·.size) = some (bs D2).length by rw [info_digest, bs_length, hl2])
  have HSP1 := Lib.hid (show splice (bs zero32) 0 (bs D1) = bs D1 from splice_full _ _ (by rw [bs_length, bs_length, zero32_length, hl1]))
  have HSP2 := Lib.hid (show splice (bs zero32) 0 (bs D2) = bs D2 from splice_full _ _ (by rw [bs_length, bs_length, zero32_length, hl2]))
  have HF1 := Lib.hid (show 0 + (bs D1).length ≤ (bs zero32).length by rw [bs_length, bs_length, zero32_length, hl1]; decide)
  have HF2 := Lib.hid (show 0 + (bs D2).length ≤ (bs zero32).length by rw [bs_length, bs_length, zero32_length, hl2]; decide)
  go_enter Tryd.func19, Tryd.ntmps19
  go_wp2_with ((with_reducible refine wpList_allocB (o := ⟨some 4, _, _, _, _, _⟩) ?_ 23 ?_ zero32_info ?_); rfl; rfl; intro w1 hr1 hg1 hz1)
  have hB1 := (Below.refl _ w).grown hg1 (Nat.le_refl _) (fun k e => by cases e)
  refine (HB.out w1 (hk.below hB1) (hT.below hB1)).mono ?_
  rintro e w2 ⟨rfl, hB2⟩
  have hs2 := hB2.size
  go_wp2_with (first | ((with_reducible refine wpList_allocB (o := ⟨some 5, _, _, _, _, _⟩) ?_ 54 ?_ zeros64_info ?_); rfl; rfl; intro w3 hr3 hg3 hz3) | ((with_reducible refine wpList_storeB (o := ⟨none, .store 54 (.tmp 5) (.tmp 8), _, _, _, _⟩) ?_ 54 (.tmp 5) (.tmp 8) ?_ ?_ ?_ hr3 HI.out HZ.out HO ?_); rfl; rfl; rfl; rfl; intro w4 hr4 hg4 hz4))
  have hM : MacAt w w4 w2.heap.size B a n c l := by
    have hB4 := below_of_grown ((Bt hB1 hB2).grown hg3 (by omega) (fun k e => by cases e)) hg4 (by omega)
    exact ⟨((hr1.below hB2).grown hg3 (by simp)).grown hg4 (by simp; omega), hr4, hr.below hB4, hT.below hB4, hB4, by omega⟩
  generalize w2.heap.size = g at *
  clear hr1 hg1 hz1 hB1 hB2 hs2 hr3 hg3 hz3 hr4 hg4 hz4 hk hr hT
  refine wp_region_held_drew (S := fun W => MacAt w W g B a n c l) (by kernel_rfl) hM.drew (fun hHeld => ?_)
  clear hM
  refine wpAnyH_take (i := 0) (oi := ⟨some 9, .load 54 (.tmp 5), _, _, _, none⟩) (v := .agg (bs B).toArray) rfl (by kernel_rfl) (by kernel_rfl) (by kernel_rfl) (fun _ _ _ h => h) (yieldsIf_load_mid (by rfl) _ _ rfl g 0 rfl (bs B) _ (fun W h => h.blk.range 0 (fun j hj => by simp)) Tryd.underlying54 rfl HI.out) hHeld ?_
  try simp only [Act.put, List.setIfInBounds_toArray, List.set_cons_zero, List.set_cons_succ]
  refine wpAnyH_take (i := 3) (oi := ⟨some 12, .move (.tmp 1), _, _, _, none⟩) (v := .slice a n c) rfl (by kernel_rfl) (by kernel_rfl) (by kernel_rfl) (fun _ _ _ h => h) (Or.inl ⟨by rfl, fun W _ => by rfl⟩) hHeld ?_
  try simp only [Act.put, List.setIfInBounds_toArray, List.set_cons_zero, List.set_cons_succ]
  refine wpAnyH_ready (rs := [1, 5]) (by kernel_rfl) (by simp) ?_
  refine AllReadyH.cons (o := ⟨some 10, .call { callee := .value (.func 39), args := #[.const (.int .u8 54)], argTypes := #[5] }, _, _, _, none⟩) rfl (fun K hK => ?_) (AllReadyH.cons (o := ⟨some 6, .alloc 23, _, _, _, none⟩) rfl (fun K hK => ?_) AllReadyH.nil)
  · refine step_ofM (by rfl) ?_
    go_simp
    refine (xored_any _ 54).mono ?_
    rintro e W1 ⟨r1, rfl, hc1, hb1⟩
    refine hK.out _ _ (hHeld.below hb1) (fun hHeld => ?_)
    clear hK K
    try simp only [Act.put, List.setIfInBounds_toArray, List.set_cons_zero, List.set_cons_succ]
    refine wpAnyH_ready (rs := [2, 5]) (by kernel_rfl) (by simp) ?_
    refine AllReadyH.cons (o := ⟨some 11, .call { callee := .value (.func 38), args := #[.tmp 9, .tmp 10], argTypes := #[54, 65] }, _, _, _, none⟩) rfl (fun K hK => ?_) (AllReadyH.cons (o := ⟨some 6, .alloc 23, _, _, _, none⟩) rfl (fun K hK => ?_) AllReadyH.nil)
    · refine step_ofM (by rfl) ?_
      go_simp
      refine (HE1.out _ _ hc1).mono ?_
      rintro e W2 ⟨rfl, hb2⟩
      refine hK.out _ _ (hHeld.below hb2) (fun hHeld => ?_)
      clear hK K
      try simp only [Act.put, List.setIfInBounds_toArray, List.set_cons_zero, List.set_cons_succ]
      refine wpAnyH_ready (rs := [4, 5]) (by kernel_rfl) (by simp) ?_
      refine AllReadyH.cons (o := ⟨some 13, .call { callee := .value (.func 37), args := #[.tmp 11, .tmp 12], argTypes := #[54, 26] }, _, _, _, none⟩) rfl (fun K hK => ?_) (AllReadyH.cons (o := ⟨some 6, .alloc 23, _, _, _, none⟩) rfl (fun K hK => ?_) AllReadyH.nil)
      · refine step_ofM (by rfl) ?_
        go_simp
        refine (HS1.out _ hHeld.rd hHeld.tab).mono ?_
        rintro e W3 ⟨rfl, hb3⟩
        refine hK.out _ _ (hHeld.below hb3) (fun hHeld => ?_)
        clear hK K
        try simp only [Act.put, List.setIfInBounds_toArray, List.set_cons_zero, List.set_cons_succ]
        refine wpAnyH_ready (rs := [5]) (by kernel_rfl) (by simp) ?_
        refine AllReadyH.cons (o := ⟨some 6, .alloc 23, _, _, _, none⟩) rfl (fun K hK => ?_) AllReadyH.nil
        refine step_allocB rfl 23 rfl zero32_info ?_
        intro W4 hA hgA hzA
        have hI := InAt.make hHeld hA
        clear hA hzA
        refine hK.out _ _ (hHeld.new hgA) (fun hHeld => ?_)
        clear hK K
        try simp only [Act.put, List.setIfInBounds_toArray, List.set_cons_zero, List.set_cons_succ]
        refine wpAnyH_ready (rs := [6]) (by kernel_rfl) (by simp) ?_
        refine AllReadyH.cons (o := ⟨none, .store 23 (.tmp 6) (.tmp 13), _, _, _, none⟩) rfl (fun K hK => ?_) AllReadyH.nil
        refine step_storeM _ 0 23 (.tmp 6) (.tmp 13) (bs D1) (bs zero32) 23 hI.blk HF1.out HD1.out (bs_one _) rfl rfl rfl rfl ?_
        intro W5 hA hgA hzA
        rw [HSP1.out] at hA
        have hM' := hHeld.stored hI hgA
        replace hI : InAt w W5 g a n _ D1 := ⟨hA, hI.gt, hI.ne, hI.ap, hI.tb⟩
        clear hA hzA hgA hHeld
        refine hK.out _ _ (hM') (fun hHeld => ?_)
        clear hK K
        refine wpAnyH_done (by kernel_rfl) ?_ _
        have hM := hHeld.drew
        replace hI := hI.drew
        clear hHeld
        go_wp2_with fail
        refine wp_region_held_drew (S := fun W => Blk W g 54 (bs B)) (by kernel_rfl) hM.blk (fun hHeld => ?_)
        refine wpAnyH_take (i := 0) (oi := ⟨some 14, .load 54 (.tmp 5), _, _, _, none⟩) (v := .agg (bs B).toArray) rfl (by kernel_rfl) (by kernel_rfl) (by kernel_rfl) (fun _ _ _ h => h) (yieldsIf_load_mid (by rfl) _ _ rfl g 0 rfl (bs B) _ (fun W h => h.range 0 (fun j hj => by simp)) Tryd.underlying54 rfl HI.out) hHeld ?_
        try simp only [Act.put, List.setIfInBounds_toArray, List.set_cons_zero, List.set_cons_succ]
        refine wpAnyH_take (i := 3) (oi := ⟨some 17, .slice 23 (.tmp 6) none none none, _, _, _, none⟩) (v := ?_) rfl (by kernel_rfl) (by kernel_rfl) (by kernel_rfl) (fun _ _ _ h => h) (Or.inl ⟨by rfl, ?_⟩) hHeld ?_
        rotate_left
        · intro W _; go_simp; with_reducible rfl
        try simp only [Act.put, List.setIfInBounds_toArray, List.set_cons_zero, List.set_cons_succ]
        refine wpAnyH_ready (rs := [1]) (by kernel_rfl) (by simp) ?_
        refine AllReadyH.cons (o := ⟨some 15, .call { callee := .value (.func 39), args := #[.const (.int .u8 92)], argTypes := #[5] }, _, _, _, none⟩) rfl (fun K hK => ?_) AllReadyH.nil
        refine step_ofM (by rfl) ?_
        go_simp
        refine (xored_any _ 92).mono ?_
        rintro e W6 ⟨r6, rfl, hc6, hb6⟩
        replace hI := hI.below hb6
        replace hM := hM.below hb6
        refine hK.out _ _ (hHeld.below hb6) (fun hHeld => ?_)
        clear hK K
        try simp only [Act.put, List.setIfInBounds_toArray, List.set_cons_zero, List.set_cons_succ]
        refine wpAnyH_ready (rs := [2]) (by kernel_rfl) (by simp) ?_
        refine AllReadyH.cons (o := ⟨some 16, .call { callee := .value (.func 38), args := #[.tmp 14, .tmp 15], argTypes := #[54, 65] }, _, _, _, none⟩) rfl (fun K hK => ?_) AllReadyH.nil
        refine step_ofM (by rfl) ?_
        go_simp
        refine (HE2.out _ _ hc6).mono ?_
        rintro e W7 ⟨rfl, hb7⟩
        replace hI := hI.below hb7
        replace hM := hM.below hb7
        refine hK.out _ _ (hHeld.below hb7) (fun hHeld => ?_)
        clear hK K
        try simp only [Act.put, List.setIfInBounds_toArray, List.set_cons_zero, List.set_cons_succ]
        refine wpAnyH_ready (rs := [4]) (by kernel_rfl) (by simp) ?_
        refine AllReadyH.cons (o := ⟨some 18, .call { callee := .value (.func 37), args := #[.tmp 16, .tmp 17], argTypes := #[54, 26] }, _, _, _, none⟩) rfl (fun K hK => ?_) AllReadyH.nil
        refine step_ofM (by rfl) ?_
        go_simp
        refine (HS2.out _ _ (Rd.block hI.blk.at_ hl1 (by decide)) hM.tab).mono ?_
        rintro e W8 ⟨rfl, hb8⟩
        replace hI := hI.below hb8
        replace hM := hM.below hb8
        refine hK.out _ _ (hHeld.below hb8) (fun hHeld => ?_)
        clear hK K
        try simp only [Act.put, List.setIfInBounds_toArray, List.set_cons_zero, List.set_cons_succ]
        refine wpAnyH_ready (rs := [5]) (by kernel_rfl) (by simp) ?_
        refine AllReadyH.cons (o := ⟨none, .store 23 (.tmp 4) (.tmp 18), _, _, _, none⟩) rfl (fun K hK => ?_) AllReadyH.nil
        refine step_storeM _ 0 23 (.tmp 4) (.tmp 18) (bs D2) (bs zero32) 23 hM.res HF2.out HD2.out (bs_one _) rfl rfl rfl rfl ?_
        intro WZ hA hgA hzA
        rw [HSP2.out] at hA
        have hgt := hM.gt
        refine hK.out _ _ (hHeld.grown hgA (by simp; omega)) (fun _ => ?_)
        clear hK K
        refine wpAnyH_done (by kernel_rfl) ?_ _
        go_wp2_with fail
        try simp only [Exit.inBlock, Exit.then]
        refine bodyPost_blk hA Tryd.underlying23 HD2.out rfl rfl rfl rfl ⟨rfl, ?_⟩
        exact below_of_grown hM.bel hgA (Nat.le_refl _)
      · refine step_allocB rfl 23 rfl zero32_info ?_
        intro W9 hA hgA hzA
        have hI := InAt.make hHeld hA
        clear hA hzA
        refine hK.out _ _ (hHeld.new hgA) (fun hHeld => ?_)
        clear hK K
        try simp only [Act.put, List.setIfInBounds_toArray, List.set_cons_zero, List.set_cons_succ]
        refine wpAnyH_ready (rs := [4]) (by kernel_rfl) (by simp) ?_
        refine AllReadyH.cons (o := ⟨some 13, .call { callee := .value (.func 37), args := #[.tmp 11, .tmp 12], argTypes := #[54, 26] }, _, _, _, none⟩) rfl (fun K hK => ?_) AllReadyH.nil
        refine step_ofM (by rfl) ?_
        go_simp
        refine (HS1.out _ hHeld.rd hHeld.tab).mono ?_
        rintro e W10 ⟨rfl, hb10⟩
        replace hI := hI.below hb10
        refine hK.out _ _ (hHeld.below hb10) (fun hHeld => ?_)
        clear hK K
        try simp only [Act.put, List.setIfInBounds_toArray, List.set_cons_zero, List.set_cons_succ]
        refine wpAnyH_ready (rs := [6]) (by kernel_rfl) (by simp) ?_
        refine AllReadyH.cons (o := ⟨none, .store 23 (.tmp 6) (.tmp 13), _, _, _, none⟩) rfl (fun K hK => ?_) AllReadyH.nil
        refine step_storeM _ 0 23 (.tmp 6) (.tmp 13) (bs D1) (bs zero32) 23 hI.blk HF1.out HD1.out (bs_one _) rfl rfl rfl rfl ?_
        intro W11 hA hgA hzA
        rw [HSP1.out] at hA
        have hM' := hHeld.stored hI hgA
        replace hI : InAt w W11 g a n _ D1 := ⟨hA, hI.gt, hI.ne, hI.ap, hI.tb⟩
        clear hA hzA hgA hHeld
        refine hK.out _ _ (hM') (fun hHeld => ?_)
        clear hK K
        refine wpAnyH_done (by kernel_rfl) ?_ _
        have hM := hHeld.drew
        replace hI := hI.drew
        clear hHeld
        go_wp2_with fail
        refine wp_region_held_drew (S := fun W => Blk W g 54 (bs B)) (by kernel_rfl) hM.blk (fun hHeld => ?_)
        refine wpAnyH_take (i := 0) (oi := ⟨some 14, .load 54 (.tmp 5), _, _, _, none⟩) (v := .agg (bs B).toArray) rfl (by kernel_rfl) (by kernel_rfl) (by kernel_rfl) (fun _ _ _ h => h) (yieldsIf_load_mid (by rfl) _ _ rfl g 0 rfl (bs B) _ (fun W h => h.range 0 (fun j hj => by simp)) Tryd.underlying54 rfl HI.out) hHeld ?_
        try simp only [Act.put, List.setIfInBounds_toArray, List.set_cons_zero, List.set_cons_succ]
        refine wpAnyH_take (i := 3) (oi := ⟨some 17, .slice 23 (.tmp 6) none none none, _, _, _, none⟩) (v := ?_) rfl (by kernel_rfl) (by kernel_rfl) (by kernel_rfl) (fun _ _ _ h => h) (Or.inl ⟨by rfl, ?_⟩) hHeld ?_
        rotate_left
        · intro W _; go_simp; with_reducible rfl
        try simp only [Act.put, List.setIfInBounds_toArray, List.set_cons_zero, List.set_cons_succ]
        refine wpAnyH_ready (rs := [1]) (by kernel_rfl) (by simp) ?_
        refine AllReadyH.cons (o := ⟨some 15, .call { callee := .value (.func 39), args := #[.const (.int .u8 92)], argTypes := #[5] }, _, _, _, none⟩) rfl (fun K hK => ?_) AllReadyH.nil
        refine step_ofM (by rfl) ?_
        go_simp
        refine (xored_any _ 92).mono ?_
        rintro e W12 ⟨r12, rfl, hc12, hb12⟩
        replace hI := hI.below hb12
        replace hM := hM.below hb12
        refine hK.out _ _ (hHeld.below hb12) (fun hHeld => ?_)
        clear hK K
        try simp only [Act.put, List.setIfInBounds_toArray, List.set_cons_zero, List.set_cons_succ]
        refine wpAnyH_ready (rs := [2]) (by kernel_rfl) (by simp) ?_
        refine AllReadyH.cons (o := ⟨some 16, .call { callee := .value (.func 38), args := #[.tmp 14, .tmp 15], argTypes := #[54, 65] }, _, _, _, none⟩) rfl (fun K hK => ?_) AllReadyH.nil
        refine step_ofM (by rfl) ?_
        go_simp
        refine (HE2.out _ _ hc12).mono ?_
        rintro e W13 ⟨rfl, hb13⟩
        replace hI := hI.below hb13
        replace hM := hM.below hb13
        refine hK.out _ _ (hHeld.below hb13) (fun hHeld => ?_)
        clear hK K
        try simp only [Act.put, List.setIfInBounds_toArray, List.set_cons_zero, List.set_cons_succ]
        refine wpAnyH_ready (rs := [4]) (by kernel_rfl) (by simp) ?_
        refine AllReadyH.cons (o := ⟨some 18, .call { callee := .value (.func 37), args := #[.tmp 16, .tmp 17], argTypes := #[54, 26] }, _, _, _, none⟩) rfl (fun K hK => ?_) AllReadyH.nil
        refine step_ofM (by rfl) ?_
        go_simp
        refine (HS2.out _ _ (Rd.block hI.blk.at_ hl1 (by decide)) hM.tab).mono ?_
        rintro e W14 ⟨rfl, hb14⟩
        replace hI := hI.below hb14
        replace hM := hM.below hb14
        refine hK.out _ _ (hHeld.below hb14) (fun hHeld => ?_)
        clear hK K
        try simp only [Act.put, List.setIfInBounds_toArray, List.set_cons_zero, List.set_cons_succ]
        refine wpAnyH_ready (rs := [5]) (by kernel_rfl) (by simp) ?_
        refine AllReadyH.cons (o := ⟨none, .store 23 (.tmp 4) (.tmp 18), _, _, _, none⟩) rfl (fun K hK => ?_) AllReadyH.nil
        refine step_storeM _ 0 23 (.tmp 4) (.tmp 18) (bs D2) (bs zero32) 23 hM.res HF2.out HD2.out (bs_one _) rfl rfl rfl rfl ?_
        intro WZ hA hgA hzA
        rw [HSP2.out] at hA
        have hgt := hM.gt
        refine hK.out _ _ (hHeld.grown hgA (by simp; omega)) (fun _ => ?_)
        clear hK K
        refine wpAnyH_done (by kernel_rfl) ?_ _
        go_wp2_with fail
        try simp only [Exit.inBlock, Exit.then]
        refine bodyPost_blk hA Tryd.underlying23 HD2.out rfl rfl rfl rfl ⟨rfl, ?_⟩
        exact below_of_grown hM.bel hgA (Nat.le_refl _)
    · refine step_allocB rfl 23 rfl zero32_info ?_
      intro W15 hA hgA hzA
      have hI := InAt.make hHeld hA
      replace hc1 := cell_later ((Below.refl _ _).grown hgA (Nat.le_refl _) (fun k e => by cases e)) hc1
      clear hA hzA
      refine hK.out _ _ (hHeld.new hgA) (fun hHeld => ?_)
      clear hK K
      try simp only [Act.put, List.setIfInBounds_toArray, List.set_cons_zero, List.set_cons_succ]
      refine wpAnyH_ready (rs := [2]) (by kernel_rfl) (by simp) ?_
      refine AllReadyH.cons (o := ⟨some 11, .call { callee := .value (.func 38), args := #[.tmp 9, .tmp 10], argTypes := #[54, 65] }, _, _, _, none⟩) rfl (fun K hK => ?_) AllReadyH.nil
      refine step_ofM (by rfl) ?_
      go_simp
      refine (HE1.out _ _ hc1).mono ?_
      rintro e W16 ⟨rfl, hb16⟩
      replace hI := hI.below hb16
      refine hK.out _ _ (hHeld.below hb16) (fun hHeld => ?_)
      clear hK K
      try simp only [Act.put, List.setIfInBounds_toArray, List.set_cons_zero, List.set_cons_succ]
      refine wpAnyH_ready (rs := [4]) (by kernel_rfl) (by simp) ?_
      refine AllReadyH.cons (o := ⟨some 13, .call { callee := .value (.func 37), args := #[.tmp 11, .tmp 12], argTypes := #[54, 26] }, _, _, _, none⟩) rfl (fun K hK => ?_) AllReadyH.nil
      refine step_ofM (by rfl) ?_
      go_simp
      refine (HS1.out _ hHeld.rd hHeld.tab).mono ?_
      rintro e W17 ⟨rfl, hb17⟩
      replace hI := hI.below hb17
      refine hK.out _ _ (hHeld.below hb17) (fun hHeld => ?_)
      clear hK K
      try simp only [Act.put, List.setIfInBounds_toArray, List.set_cons_zero, List.set_cons_succ]
      refine wpAnyH_ready (rs := [6]) (by kernel_rfl) (by simp) ?_
      refine AllReadyH.cons (o := ⟨none, .store 23 (.tmp 6) (.tmp 13), _, _, _, none⟩) rfl (fun K hK => ?_) AllReadyH.nil
      refine step_storeM _ 0 23 (.tmp 6) (.tmp 13) (bs D1) (bs zero32) 23 hI.blk HF1.out HD1.out (bs_one _) rfl rfl rfl rfl ?_
      intro W18 hA hgA hzA
      rw [HSP1.out] at hA
      have hM' := hHeld.stored hI hgA
      replace hI : InAt w W18 g a n _ D1 := ⟨hA, hI.gt, hI.ne, hI.ap, hI.tb⟩
      clear hA hzA hgA hHeld
      refine hK.out _ _ (hM') (fun hHeld => ?_)
      clear hK K
      refine wpAnyH_done (by kernel_rfl) ?_ _
      have hM := hHeld.drew
      replace hI := hI.drew
      clear hHeld
      go_wp2_with fail
      refine wp_region_held_drew (S := fun W => Blk W g 54 (bs B)) (by kernel_rfl) hM.blk (fun hHeld => ?_)
      refine wpAnyH_take (i := 0) (oi := ⟨some 14, .load 54 (.tmp 5), _, _, _, none⟩) (v := .agg (bs B).toArray) rfl (by kernel_rfl) (by kernel_rfl) (by kernel_rfl) (fun _ _ _ h => h) (yieldsIf_load_mid (by rfl) _ _ rfl g 0 rfl (bs B) _ (fun W h => h.range 0 (fun j hj => by simp)) Tryd.underlying54 rfl HI.out) hHeld ?_
      try simp only [Act.put, List.setIfInBounds_toArray, List.set_cons_zero, List.set_cons_succ]
      refine wpAnyH_take (i := 3) (oi := ⟨some 17, .slice 23 (.tmp 6) none none none, _, _, _, none⟩) (v := ?_) rfl (by kernel_rfl) (by kernel_rfl) (by kernel_rfl) (fun _ _ _ h => h) (Or.inl ⟨by rfl, ?_⟩) hHeld ?_
      rotate_left
      · intro W _; go_simp; with_reducible rfl
      try simp only [Act.put, List.setIfInBounds_toArray, List.set_cons_zero, List.set_cons_succ]
      refine wpAnyH_ready (rs := [1]) (by kernel_rfl) (by simp) ?_
      refine AllReadyH.cons (o := ⟨some 15, .call { callee := .value (.func 39), args := #[.const (.int .u8 92)], argTypes := #[5] }, _, _, _, none⟩) rfl (fun K hK => ?_) AllReadyH.nil
      refine step_ofM (by rfl) ?_
      go_simp
      refine (xored_any _ 92).mono ?_
      rintro e W19 ⟨r19, rfl, hc19, hb19⟩
      replace hI := hI.below hb19
      replace hM := hM.below hb19
      refine hK.out _ _ (hHeld.below hb19) (fun hHeld => ?_)
      clear hK K
      try simp only [Act.put, List.setIfInBounds_toArray, List.set_cons_zero, List.set_cons_succ]
      refine wpAnyH_ready (rs := [2]) (by kernel_rfl) (by simp) ?_
      refine AllReadyH.cons (o := ⟨some 16, .call { callee := .value (.func 38), args := #[.tmp 14, .tmp 15], argTypes := #[54, 65] }, _, _, _, none⟩) rfl (fun K hK => ?_) AllReadyH.nil
      refine step_ofM (by rfl) ?_
      go_simp
      refine (HE2.out _ _ hc19).mono ?_
      rintro e W20 ⟨rfl, hb20⟩
      replace hI := hI.below hb20
      replace hM := hM.below hb20
      refine hK.out _ _ (hHeld.below hb20) (fun hHeld => ?_)
      clear hK K
      try simp only [Act.put, List.setIfInBounds_toArray, List.set_cons_zero, List.set_cons_succ]
      refine wpAnyH_ready (rs := [4]) (by kernel_rfl) (by simp) ?_
      refine AllReadyH.cons (o := ⟨some 18, .call { callee := .value (.func 37), args := #[.tmp 16, .tmp 17], argTypes := #[54, 26] }, _, _, _, none⟩) rfl (fun K hK => ?_) AllReadyH.nil
      refine step_ofM (by rfl) ?_
      go_simp
      refine (HS2.out _ _ (Rd.block hI.blk.at_ hl1 (by decide)) hM.tab).mono ?_
      rintro e W21 ⟨rfl, hb21⟩
      replace hI := hI.below hb21
      replace hM := hM.below hb21
      refine hK.out _ _ (hHeld.below hb21) (fun hHeld => ?_)
      clear hK K
      try simp only [Act.put, List.setIfInBounds_toArray, List.set_cons_zero, List.set_cons_succ]
      refine wpAnyH_ready (rs := [5]) (by kernel_rfl) (by simp) ?_
      refine AllReadyH.cons (o := ⟨none, .store 23 (.tmp 4) (.tmp 18), _, _, _, none⟩) rfl (fun K hK => ?_) AllReadyH.nil
      refine step_storeM _ 0 23 (.tmp 4) (.tmp 18) (bs D2) (bs zero32) 23 hM.res HF2.out HD2.out (bs_one _) rfl rfl rfl rfl ?_
      intro WZ hA hgA hzA
      rw [HSP2.out] at hA
      have hgt := hM.gt
      refine hK.out _ _ (hHeld.grown hgA (by simp; omega)) (fun _ => ?_)
      clear hK K
      refine wpAnyH_done (by kernel_rfl) ?_ _
      go_wp2_with fail
      try simp only [Exit.inBlock, Exit.then]
      refine bodyPost_blk hA Tryd.underlying23 HD2.out rfl rfl rfl rfl ⟨rfl, ?_⟩
      exact below_of_grown hM.bel hgA (Nat.le_refl _)
  · refine step_allocB rfl 23 rfl zero32_info ?_
    intro W22 hA hgA hzA
    have hI := InAt.make hHeld hA
    clear hA hzA
    refine hK.out _ _ (hHeld.new hgA) (fun hHeld => ?_)
    clear hK K
    try simp only [Act.put, List.setIfInBounds_toArray, List.set_cons_zero, List.set_cons_succ]
    refine wpAnyH_ready (rs := [1]) (by kernel_rfl) (by simp) ?_
    refine AllReadyH.cons (o := ⟨some 10, .call { callee := .value (.func 39), args := #[.const (.int .u8 54)], argTypes := #[5] }, _, _, _, none⟩) rfl (fun K hK => ?_) AllReadyH.nil
    refine step_ofM (by rfl) ?_
    go_simp
    refine (xored_any _ 54).mono ?_
    rintro e W23 ⟨r23, rfl, hc23, hb23⟩
    replace hI := hI.below hb23
    refine hK.out _ _ (hHeld.below hb23) (fun hHeld => ?_)
    clear hK K
    try simp only [Act.put, List.setIfInBounds_toArray, List.set_cons_zero, List.set_cons_succ]
    refine wpAnyH_ready (rs := [2]) (by kernel_rfl) (by simp) ?_
    refine AllReadyH.cons (o := ⟨some 11, .call { callee := .value (.func 38), args := #[.tmp 9, .tmp 10], argTypes := #[54, 65] }, _, _, _, none⟩) rfl (fun K hK => ?_) AllReadyH.nil
    refine step_ofM (by rfl) ?_
    go_simp
    refine (HE1.out _ _ hc23).mono ?_
    rintro e W24 ⟨rfl, hb24⟩
    replace hI := hI.below hb24
    refine hK.out _ _ (hHeld.below hb24) (fun hHeld => ?_)
    clear hK K
    try simp only [Act.put, List.setIfInBounds_toArray, List.set_cons_zero, List.set_cons_succ]
    refine wpAnyH_ready (rs := [4]) (by kernel_rfl) (by simp) ?_
    refine AllReadyH.cons (o := ⟨some 13, .call { callee := .value (.func 37), args := #[.tmp 11, .tmp 12], argTypes := #[54, 26] }, _, _, _, none⟩) rfl (fun K hK => ?_) AllReadyH.nil
    refine step_ofM (by rfl) ?_
    go_simp
    refine (HS1.out _ hHeld.rd hHeld.tab).mono ?_
    rintro e W25 ⟨rfl, hb25⟩
    replace hI := hI.below hb25
    refine hK.out _ _ (hHeld.below hb25) (fun hHeld => ?_)
    clear hK K
    try simp only [Act.put, List.setIfInBounds_toArray, List.set_cons_zero, List.set_cons_succ]
    refine wpAnyH_ready (rs := [6]) (by kernel_rfl) (by simp) ?_
    refine AllReadyH.cons (o := ⟨none, .store 23 (.tmp 6) (.tmp 13), _, _, _, none⟩) rfl (fun K hK => ?_) AllReadyH.nil
    refine step_storeM _ 0 23 (.tmp 6) (.tmp 13) (bs D1) (bs zero32) 23 hI.blk HF1.out HD1.out (bs_one _) rfl rfl rfl rfl ?_
    intro W26 hA hgA hzA
    rw [HSP1.out] at hA
    have hM' := hHeld.stored hI hgA
    replace hI : InAt w W26 g a n _ D1 := ⟨hA, hI.gt, hI.ne, hI.ap, hI.tb⟩
    clear hA hzA hgA hHeld
    refine hK.out _ _ (hM') (fun hHeld => ?_)
    clear hK K
    refine wpAnyH_done (by kernel_rfl) ?_ _
    have hM := hHeld.drew
    replace hI := hI.drew
    clear hHeld
    go_wp2_with fail
    refine wp_region_held_drew (S := fun W => Blk W g 54 (bs B)) (by kernel_rfl) hM.blk (fun hHeld => ?_)
    refine wpAnyH_take (i := 0) (oi := ⟨some 14, .load 54 (.tmp 5), _, _, _, none⟩) (v := .agg (bs B).toArray) rfl (by kernel_rfl) (by kernel_rfl) (by kernel_rfl) (fun _ _ _ h => h) (yieldsIf_load_mid (by rfl) _ _ rfl g 0 rfl (bs B) _ (fun W h => h.range 0 (fun j hj => by simp)) Tryd.underlying54 rfl HI.out) hHeld ?_
    try simp only [Act.put, List.setIfInBounds_toArray, List.set_cons_zero, List.set_cons_succ]
    refine wpAnyH_take (i := 3) (oi := ⟨some 17, .slice 23 (.tmp 6) none none none, _, _, _, none⟩) (v := ?_) rfl (by kernel_rfl) (by kernel_rfl) (by kernel_rfl) (fun _ _ _ h => h) (Or.inl ⟨by rfl, ?_⟩) hHeld ?_
    rotate_left
    · intro W _; go_simp; with_reducible rfl
    try simp only [Act.put, List.setIfInBounds_toArray, List.set_cons_zero, List.set_cons_succ]
    refine wpAnyH_ready (rs := [1]) (by kernel_rfl) (by simp) ?_
    refine AllReadyH.cons (o := ⟨some 15, .call { callee := .value (.func 39), args := #[.const (.int .u8 92)], argTypes := #[5] }, _, _, _, none⟩) rfl (fun K hK => ?_) AllReadyH.nil
    refine step_ofM (by rfl) ?_
    go_simp
    refine (xored_any _ 92).mono ?_
    rintro e W27 ⟨r27, rfl, hc27, hb27⟩
    replace hI := hI.below hb27
    replace hM := hM.below hb27
    refine hK.out _ _ (hHeld.below hb27) (fun hHeld => ?_)
    clear hK K
    try simp only [Act.put, List.setIfInBounds_toArray, List.set_cons_zero, List.set_cons_succ]
    refine wpAnyH_ready (rs := [2]) (by kernel_rfl) (by simp) ?_
    refine AllReadyH.cons (o := ⟨some 16, .call { callee := .value (.func 38), args := #[.tmp 14, .tmp 15], argTypes := #[54, 65] }, _, _, _, none⟩) rfl (fun K hK => ?_) AllReadyH.nil
    refine step_ofM (by rfl) ?_
    go_simp
    refine (HE2.out _ _ hc27).mono ?_
    rintro e W28 ⟨rfl, hb28⟩
    replace hI := hI.below hb28
    replace hM := hM.below hb28
    refine hK.out _ _ (hHeld.below hb28) (fun hHeld => ?_)
    clear hK K
    try simp only [Act.put, List.setIfInBounds_toArray, List.set_cons_zero, List.set_cons_succ]
    refine wpAnyH_ready (rs := [4]) (by kernel_rfl) (by simp) ?_
    refine AllReadyH.cons (o := ⟨some 18, .call { callee := .value (.func 37), args := #[.tmp 16, .tmp 17], argTypes := #[54, 26] }, _, _, _, none⟩) rfl (fun K hK => ?_) AllReadyH.nil
    refine step_ofM (by rfl) ?_
    go_simp
    refine (HS2.out _ _ (Rd.block hI.blk.at_ hl1 (by decide)) hM.tab).mono ?_
    rintro e W29 ⟨rfl, hb29⟩
    replace hI := hI.below hb29
    replace hM := hM.below hb29
    refine hK.out _ _ (hHeld.below hb29) (fun hHeld => ?_)
    clear hK K
    try simp only [Act.put, List.setIfInBounds_toArray, List.set_cons_zero, List.set_cons_succ]
    refine wpAnyH_ready (rs := [5]) (by kernel_rfl) (by simp) ?_
    refine AllReadyH.cons (o := ⟨none, .store 23 (.tmp 4) (.tmp 18), _, _, _, none⟩) rfl (fun K hK => ?_) AllReadyH.nil
    refine step_storeM _ 0 23 (.tmp 4) (.tmp 18) (bs D2) (bs zero32) 23 hM.res HF2.out HD2.out (bs_one _) rfl rfl rfl rfl ?_
    intro WZ hA hgA hzA
    rw [HSP2.out] at hA
    have hgt := hM.gt
    refine hK.out _ _ (hHeld.grown hgA (by simp; omega)) (fun _ => ?_)
    clear hK K
    refine wpAnyH_done (by kernel_rfl) ?_ _
    go_wp2_with fail
    try simp only [Exit.inBlock, Exit.then]
    refine bodyPost_blk hA Tryd.underlying23 HD2.out rfl rfl rfl rfl ⟨rfl, ?_⟩
    exact below_of_grown hM.bel hgA (Nat.le_refl _)
end Go.Proofs.YtoclahcibilbhaaDoor
