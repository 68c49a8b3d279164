/-
  The reference's Chain of layer 9.
-/
import Derived.Test.YtoclahcibilbhaaDoorHedR
import Derived.Test.YtoclahcibilbhaaDoorHedX
namespace Go.Proofs.YtoclahcibilbhaaDoor
open Go.RowKit
set_option maxRecDepth 100000

/-- what the loop of the reference's Chain knows -/
structure RcAt (w W : World) (P : Nat) (k : ByteArray) (l : List Sg) (j : Nat) : Prop where
  dig : Blk W P 23 (bs (lastX zero32 (seqI l j)))
  bel : Below w.heap.size w W
  ok : chX k zero32 (seqI l j) = 0
theorem chX_at {k : ByteArray} {l : List Sg} {j n : Nat} (hj : j < n) (h : chX k zero32 (seqI l j) = 0) (hs : stepX k (lastX zero32 (seqI l j)) (j, l.getD j sgz) ≠ 0) : chX k zero32 (seqI l n) = stepX k (lastX zero32 (seqI l j)) (j, l.getD j sgz) := by
  obtain ⟨r, hr⟩ := seqI_split l (show j + 1 ≤ n by omega)
  have h2 := chX_snoc k zero32 (seqI l j) (j, l.getD j sgz) h
  rw [← seqI_succ] at h2
  rw [hr, chX_stop k zero32 _ _ (by rw [h2]; exact hs), h2]

set_option maxHeartbeats 8000000 in
theorem rchain_any (w : World) (hT : Tab w 1) (k : ByteArray) (a : Option Addr) (n c : Nat) (l : List Sg) (hr : RdG sgR w a n c l) (hn : n ≤ 1000000) :
    Calls Tryd.prog 22 #[.string k, .slice a n c] w fun e w' => e = .returned (.int .i64 (chI k l)) ∧ Below w.heap.size w w' := by
  have HT := Lib.hid (fun W (h : Below w.heap.size w W) => hT.below h)
  have HR := Lib.hid (fun W (h : Below w.heap.size w W) => hr.below h)
  have HOK : Hid (sgR.all l) := Lib.hid hr.ok
  have HLN := Lib.hid hr.len
  have HKY := Lib.hid (fun W => rkey_any W k)
  have HBU := Lib.hid built0
  have IZ : Hid ((Tryd.prog.info? 23).map (·.size) = some (bs zero32).length) := Lib.hid (by rw [info_digest, bs_length, zero32_length])
  have OZ : Hid (∀ v ∈ bs zero32, v.oneCell' = true) := Lib.hid (bs_one _)
  clear hT hr
  cases hk : keyok k with
  | false =>
    rw [hk] at HKY
    have HE : Hid (chI k l = 80) := Lib.hid (by rw [chI, hk]; rfl)
    clear hk
    go_enter Tryd.func22, Tryd.ntmps22
    go_wp2_with fail
    refine (HKY.out w).mono ?_
    rintro e w1 ⟨rfl, hB1⟩
    go_wp2_with fail
    go_ret
    exact ⟨by rw [HE.out]; rfl, hB1⟩
  | true =>
    rw [hk] at HKY
    have HE : Hid (chI k l = chX k zero32 (seqI l n)) := Lib.hid (by rw [chI, hk, HLN.out]; rfl)
    clear hk
    go_enter Tryd.func22, Tryd.ntmps22
    go_wp2_with fail
    refine (HKY.out w).mono ?_
    rintro e w1 ⟨rfl, hB1⟩
    have HB1 := Lib.hid hB1
    clear hB1 HKY
    go_wp2_with (first
      | ((with_reducible refine wpList_buildI (dst := some 13) HBU.out ?_ ?_); rfl)
      | ((with_reducible refine wpList_allocB (o := ⟨some 5, _, _, _, _, _⟩) ?_ 23 ?_ zeroD_info ?_); rfl; rfl; intro w2 hd2 hg2 hz2)
      | ((with_reducible refine wpList_storeB (o := ⟨none, .store 23 (.tmp 5) (.tmp 13), _, _, _, _⟩) ?_ 23 (.tmp 5) (.tmp 13) ?_ ?_ ?_ hd2 IZ.out rfl OZ.out ?_); rfl; rfl; rfl; rfl; intro w3 hd3 hg3 hz3))
    have HST : Hid (RcAt w w3 w1.heap.size k l 0) := Lib.hid ⟨hd3, (HB1.out.grown hg2 HB1.out.size (by simp)).grown hg3 (by have := HB1.out.size; omega) (fun k e => by cases e; exact HB1.out.size), rfl⟩
    have HPW := Lib.hid HB1.out.size
    generalize w1.heap.size = P at *
    clear hd2 hg2 hz2 hd3 hg3 hz3
    go_loopw [6] (fun i wr => ∃ j : Nat, j ≤ n ∧ i = .int .i64 (j : Int) ∧ Hid (RcAt w wr P k l j)) (fun i _ => n - (intOf i).toNat)
    case atStart => exact ⟨0, Nat.zero_le _, rfl, HST⟩
    case round =>
      clear HST
      obtain ⟨j, hj, rfl, HA⟩ := hrel
      by_cases hjn : j < n
      · have hjni : (j : Int) < (n : Int) := by omega
        have hj0 : (0 : Int) ≤ (j : Int) := by omega
        obtain ⟨b, off, hae, hbl, hel⟩ := (HR.out wr HA.out.bel).elems (by omega)
        subst hae
        have hx : wr.rangeAt b (off + j * 97) (sgc (l.getD j sgz)) := hel j hjn
        have HX := Lib.hid hx
        have hso : (l.getD j sgz).ok := HOK.out.at (by rw [HLN.out]; exact hjn)
        have HSO := Lib.hid hso
        have IX : Hid ((Tryd.prog.info? 36).map (·.size) = some (sgc (l.getD j sgz)).length) := Lib.hid (by rw [sgc_length hso]; exact info_signed)
        have IH : Hid ((Tryd.prog.info? 25).map (·.size) = some (hdc (l.getD j sgz).hd).length) := Lib.hid (by rw [hdc_length hso.1]; exact info_head0)
        have HCK := Lib.hid (fun W (h : Below w.heap.size w W) => rcheck_any W (HT.out W h) k (l.getD j sgz) hso)
        have HDG := Lib.hid (fun W (h : Below w.heap.size w W) => rdig_any W (HT.out W h) (l.getD j sgz).hd hso.1)
        have HAT := Lib.hid (fun h => chX_at (k := k) (l := l) hjn HA.out.ok h)
        have HSN : Hid (stepX k (lastX zero32 (seqI l j)) (j, l.getD j sgz) = 0 → chX k zero32 (seqI l (j + 1)) = 0) := Lib.hid (fun h => by rw [seqI_succ, chX_snoc k zero32 _ _ HA.out.ok]; exact h)
        have HLS : Hid (lastX zero32 (seqI l (j + 1)) = digH (l.getD j sgz).hd) := Lib.hid (by rw [seqI_succ, lastX_snoc])
        have HDL := Lib.hid (lastX_length zero32 zero32_length (seqI l j))
        have hA := HA.out.dig
        have HBW := Lib.hid HA.out.bel
        clear hel hso HA
        generalize lastX zero32 (seqI l j) = D at *
        generalize l.getD j sgz = s at *
        have ID2 : Hid ((Tryd.prog.info? 23).map (·.size) = some (bs D).length) := Lib.hid (by rw [info_digest, bs_length, HDL.out])
        have ID1 : Hid ((Tryd.prog.info? 23).map (·.size) = some (bs s.hd.prev).length) := Lib.hid (by rw [info_digest, bs_length, HSO.out.1.2])
        by_cases hq : chkH k s = 0
        · rw [hq] at HCK
          have hw1 : IntKind.i64.wrap ((j : Int) + 1) = (j : Int) + 1 := IntWalk.i64_in _ (by omega)
          go_wp2_with ((with_reducible refine wpList_loadMH (o := ⟨some 24, _, _, _, _, _⟩) ?_ b (off + j * 97) 36 (.tmp 23) ?_ ?_ hx Tryd.underlying36 ?_ IX.out ?_); rfl; rfl; rfl; rfl)
          refine (HCK.out wr HBW.out).mono ?_
          rintro e w4 ⟨rfl, hB4⟩
          have HB4 := Lib.hid (Bt HBW.out hB4)
          have HX4 : Hid (∀ W, Below w4.heap.size w4 W → W.rangeAt b (off + j * 97) (sgc s)) := Lib.hid (fun W h i v hv => cell_later h (cell_later hB4 (HX.out i v hv)))
          have hA4 := hA.below hB4
          clear hx hA hB4
          have hsz := sgc_length HSO.out
          cases he1 : (s.hd.ep == (j : Int) + 1) with
          | false =>
            have HST : Hid (chI k l = 82) := Lib.hid (by
              have h0 : stepX k D (j, s) = 82 := by unfold stepX; rw [if_neg (by simp [hq]), if_neg (by simp [eqHd, he1])]
              rw [HE.out, HAT.out (by rw [h0]; decide), h0])
            have hne : (s.hd.ep != (j : Int) + 1) = true := by rw [bne, he1]; rfl
            have HC0 := Lib.hid (fun W (h : Below w4.heap.size w4 W) => sg_ep (HX4.out W h))
            clear hq
            go_wp2_with fail
            -- REGION rchA 12
            refine wp_region_held_drew (S := fun W => Below w4.heap.size w4 W) (by kernel_rfl) ((Below.refl _ w4).drew) (fun hHeld => ?_)
            refine wpAnyH_take (i := 0) (oi := ⟨some 29, .move (.tmp 1), _, _, _, none⟩) (v := ?_) rfl (by kernel_rfl) (by kernel_rfl) (by kernel_rfl) (fun _ _ _ h => h) (Or.inl ⟨by rfl, ?_⟩) hHeld ?_
            rotate_left
            · intro W _; go_simp; try with_reducible rfl
            try simp only [Act.put, List.setIfInBounds_toArray, List.set_cons_zero, List.set_cons_succ]
            refine wpAnyH_take (i := 1) (oi := ⟨some 30, .move (.tmp 6), _, _, _, none⟩) (v := ?_) rfl (by kernel_rfl) (by kernel_rfl) (by kernel_rfl) (fun _ _ _ h => h) (Or.inl ⟨by rfl, ?_⟩) hHeld ?_
            rotate_left
            · intro W _; go_simp; try with_reducible rfl
            try simp only [Act.put, List.setIfInBounds_toArray, List.set_cons_zero, List.set_cons_succ]
            refine wpAnyH_take (i := 2) (oi := ⟨some 31, .indexAddr 44 (.tmp 29) (.tmp 30), _, _, _, none⟩) (v := ?_) rfl (by kernel_rfl) (by kernel_rfl) (by kernel_rfl) (fun _ _ _ h => h) (Or.inl ⟨by rfl, ?_⟩) hHeld ?_
            rotate_left
            · intro W _; go_simp; try with_reducible rfl
            try simp only [Act.put, List.setIfInBounds_toArray, List.set_cons_zero, List.set_cons_succ]
            refine wpAnyH_take (i := 3) (oi := ⟨some 32, .fieldAddr 36 (.tmp 31) 0, _, _, _, none⟩) (v := ?_) rfl (by kernel_rfl) (by kernel_rfl) (by kernel_rfl) (fun _ _ _ h => h) (Or.inl ⟨by rfl, ?_⟩) hHeld ?_
            rotate_left
            · intro W _; go_simp; try with_reducible rfl
            try simp only [Act.put, List.setIfInBounds_toArray, List.set_cons_zero, List.set_cons_succ]
            refine wpAnyH_take (i := 4) (oi := ⟨some 33, .fieldAddr 25 (.tmp 32) 0, _, _, _, none⟩) (v := ?_) rfl (by kernel_rfl) (by kernel_rfl) (by kernel_rfl) (fun _ _ _ h => h) (Or.inl ⟨by rfl, ?_⟩) hHeld ?_
            rotate_left
            · intro W _; go_simp; try with_reducible rfl
            try simp only [Act.put, List.setIfInBounds_toArray, List.set_cons_zero, List.set_cons_succ]
            refine wpAnyH_take (i := 5) (oi := ⟨some 34, .load 3 (.tmp 33), _, _, _, none⟩) (v := ?_) rfl (by kernel_rfl) (by kernel_rfl) (by kernel_rfl) (fun _ _ _ h => h) (Or.inl ⟨by rfl, ?_⟩) hHeld ?_
            rotate_left
            · intro W hS; have q0 := HC0.out W hS; go_simp; try with_reducible rfl
            try simp only [Act.put, List.setIfInBounds_toArray, List.set_cons_zero, List.set_cons_succ]
            refine wpAnyH_take (i := 6) (oi := ⟨some 35, .move (.tmp 6), _, _, _, none⟩) (v := ?_) rfl (by kernel_rfl) (by kernel_rfl) (by kernel_rfl) (fun _ _ _ h => h) (Or.inl ⟨by rfl, ?_⟩) hHeld ?_
            rotate_left
            · intro W _; go_simp; try with_reducible rfl
            try simp only [Act.put, List.setIfInBounds_toArray, List.set_cons_zero, List.set_cons_succ]
            refine wpAnyH_take (i := 7) (oi := ⟨some 36, .binOp .add 3 (.tmp 35) (.const (.int .i64 1)) 3, _, _, _, none⟩) (v := ?_) rfl (by kernel_rfl) (by kernel_rfl) (by kernel_rfl) (fun _ _ _ h => h) (Or.inl ⟨by rfl, ?_⟩) hHeld ?_
            rotate_left
            · intro W _; go_simp; try with_reducible rfl
            try simp only [Act.put, List.setIfInBounds_toArray, List.set_cons_zero, List.set_cons_succ]
            refine wpAnyH_take (i := 8) (oi := ⟨some 37, .binOp .neq 3 (.tmp 34) (.tmp 36) 3, _, _, _, none⟩) (v := ?_) rfl (by kernel_rfl) (by kernel_rfl) (by kernel_rfl) (fun _ _ _ h => h) (Or.inl ⟨by rfl, ?_⟩) hHeld ?_
            rotate_left
            · intro W _; go_simp; try with_reducible rfl
            try simp only [Act.put, List.setIfInBounds_toArray, List.set_cons_zero, List.set_cons_succ]
            refine wpAnyH_take (i := 9) (oi := ⟨some 38, .move (.tmp 37), _, _, _, none⟩) (v := ?_) rfl (by kernel_rfl) (by kernel_rfl) (by kernel_rfl) (fun _ _ _ h => h) (Or.inl ⟨by rfl, ?_⟩) hHeld ?_
            rotate_left
            · intro W _; go_simp; try with_reducible rfl
            try simp only [Act.put, List.setIfInBounds_toArray, List.set_cons_zero, List.set_cons_succ]
            refine wpAnyH_take (i := 10) (oi := ⟨some 39, .move (.tmp 1), _, _, _, some (9, false)⟩) (v := undef) rfl (by kernel_rfl) (by kernel_rfl) (by kernel_rfl) (fun _ _ _ h => h) (Or.inr ⟨by rfl, rfl⟩) hHeld ?_
            try simp only [Act.put, List.setIfInBounds_toArray, List.set_cons_zero, List.set_cons_succ]
            refine wpAnyH_take (i := 11) (oi := ⟨some 40, .move (.tmp 6), _, _, _, some (9, false)⟩) (v := undef) rfl (by kernel_rfl) (by kernel_rfl) (by kernel_rfl) (fun _ _ _ h => h) (Or.inr ⟨by rfl, rfl⟩) hHeld ?_
            try simp only [Act.put, List.setIfInBounds_toArray, List.set_cons_zero, List.set_cons_succ]
            refine wpAnyH_take (i := 12) (oi := ⟨some 41, .indexAddr 44 (.tmp 39) (.tmp 40), _, _, _, some (9, false)⟩) (v := undef) rfl (by kernel_rfl) (by kernel_rfl) (by kernel_rfl) (fun _ _ _ h => h) (Or.inr ⟨by rfl, rfl⟩) hHeld ?_
            try simp only [Act.put, List.setIfInBounds_toArray, List.set_cons_zero, List.set_cons_succ]
            refine wpAnyH_take (i := 13) (oi := ⟨some 42, .fieldAddr 36 (.tmp 41) 0, _, _, _, some (9, false)⟩) (v := undef) rfl (by kernel_rfl) (by kernel_rfl) (by kernel_rfl) (fun _ _ _ h => h) (Or.inr ⟨by rfl, rfl⟩) hHeld ?_
            try simp only [Act.put, List.setIfInBounds_toArray, List.set_cons_zero, List.set_cons_succ]
            refine wpAnyH_take (i := 14) (oi := ⟨some 43, .fieldAddr 25 (.tmp 42) 2, _, _, _, some (9, false)⟩) (v := undef) rfl (by kernel_rfl) (by kernel_rfl) (by kernel_rfl) (fun _ _ _ h => h) (Or.inr ⟨by rfl, rfl⟩) hHeld ?_
            try simp only [Act.put, List.setIfInBounds_toArray, List.set_cons_zero, List.set_cons_succ]
            refine wpAnyH_take (i := 15) (oi := ⟨some 44, .load 23 (.tmp 43), _, _, _, some (9, false)⟩) (v := undef) rfl (by kernel_rfl) (by kernel_rfl) (by kernel_rfl) (fun _ _ _ h => h) (Or.inr ⟨by rfl, rfl⟩) hHeld ?_
            try simp only [Act.put, List.setIfInBounds_toArray, List.set_cons_zero, List.set_cons_succ]
            refine wpAnyH_take (i := 16) (oi := ⟨some 45, .load 23 (.tmp 5), _, _, _, some (9, false)⟩) (v := undef) rfl (by kernel_rfl) (by kernel_rfl) (by kernel_rfl) (fun _ _ _ h => h) (Or.inr ⟨by rfl, rfl⟩) hHeld ?_
            try simp only [Act.put, List.setIfInBounds_toArray, List.set_cons_zero, List.set_cons_succ]
            refine wpAnyH_take (i := 17) (oi := ⟨some 46, .binOp .neq 23 (.tmp 44) (.tmp 45) 23, _, _, _, some (9, false)⟩) (v := undef) rfl (by kernel_rfl) (by kernel_rfl) (by kernel_rfl) (fun _ _ _ h => h) (Or.inr ⟨by rfl, rfl⟩) hHeld ?_
            try simp only [Act.put, List.setIfInBounds_toArray, List.set_cons_zero, List.set_cons_succ]
            refine wpAnyH_take (i := 18) (oi := ⟨some 47, .pick (.tmp 38) (.const (.bool true)) (.tmp 46), _, _, _, none⟩) (v := ?_) rfl (by kernel_rfl) (by kernel_rfl) (by kernel_rfl) (fun _ _ _ h => h) (Or.inl ⟨by rfl, ?_⟩) hHeld ?_
            rotate_left
            · intro W _; go_simp; try with_reducible rfl
            try simp only [Act.put, List.setIfInBounds_toArray, List.set_cons_zero, List.set_cons_succ]
            refine wpAnyH_done (by kernel_rfl) ?_ _
            -- END rchA
            have HF := Lib.hid (Bt HB4.out hHeld)
            clear hHeld
            go_wp2_with fail
            go_ret
            exact ⟨by rw [HST.out]; rfl, HF.out⟩
          | true =>
            have hne : (s.hd.ep != (j : Int) + 1) = false := by rw [bne, he1]; rfl
            have HC0 := Lib.hid (fun W (h : Below w4.heap.size w4 W) => sg_ep (HX4.out W h))
            cases he2 : (s.hd.prev == D) with
            | false =>
              have HST : Hid (chI k l = 82) := Lib.hid (by
                have h0 : stepX k D (j, s) = 82 := by unfold stepX; rw [if_neg (by simp [hq]), if_neg (by simp [eqHd, he2])]
                rw [HE.out, HAT.out (by rw [h0]; decide), h0])
              have HEQ := Lib.hid (fun W : World => (neqD W s.hd.prev D HSO.out.1.2 HDL.out).trans (by rw [he2]))
              clear hq
              go_wp2_with fail
              -- REGION rchB 14
              refine wp_region_held_drew (S := fun W => Below w4.heap.size w4 W) (by kernel_rfl) ((Below.refl _ w4).drew) (fun hHeld => ?_)
              refine wpAnyH_take (i := 0) (oi := ⟨some 29, .move (.tmp 1), _, _, _, none⟩) (v := ?_) rfl (by kernel_rfl) (by kernel_rfl) (by kernel_rfl) (fun _ _ _ h => h) (Or.inl ⟨by rfl, ?_⟩) hHeld ?_
              rotate_left
              · intro W _; go_simp; try with_reducible rfl
              try simp only [Act.put, List.setIfInBounds_toArray, List.set_cons_zero, List.set_cons_succ]
              refine wpAnyH_take (i := 1) (oi := ⟨some 30, .move (.tmp 6), _, _, _, none⟩) (v := ?_) rfl (by kernel_rfl) (by kernel_rfl) (by kernel_rfl) (fun _ _ _ h => h) (Or.inl ⟨by rfl, ?_⟩) hHeld ?_
              rotate_left
              · intro W _; go_simp; try with_reducible rfl
              try simp only [Act.put, List.setIfInBounds_toArray, List.set_cons_zero, List.set_cons_succ]
              refine wpAnyH_take (i := 2) (oi := ⟨some 31, .indexAddr 44 (.tmp 29) (.tmp 30), _, _, _, none⟩) (v := ?_) rfl (by kernel_rfl) (by kernel_rfl) (by kernel_rfl) (fun _ _ _ h => h) (Or.inl ⟨by rfl, ?_⟩) hHeld ?_
              rotate_left
              · intro W _; go_simp; try with_reducible rfl
              try simp only [Act.put, List.setIfInBounds_toArray, List.set_cons_zero, List.set_cons_succ]
              refine wpAnyH_take (i := 3) (oi := ⟨some 32, .fieldAddr 36 (.tmp 31) 0, _, _, _, none⟩) (v := ?_) rfl (by kernel_rfl) (by kernel_rfl) (by kernel_rfl) (fun _ _ _ h => h) (Or.inl ⟨by rfl, ?_⟩) hHeld ?_
              rotate_left
              · intro W _; go_simp; try with_reducible rfl
              try simp only [Act.put, List.setIfInBounds_toArray, List.set_cons_zero, List.set_cons_succ]
              refine wpAnyH_take (i := 4) (oi := ⟨some 33, .fieldAddr 25 (.tmp 32) 0, _, _, _, none⟩) (v := ?_) rfl (by kernel_rfl) (by kernel_rfl) (by kernel_rfl) (fun _ _ _ h => h) (Or.inl ⟨by rfl, ?_⟩) hHeld ?_
              rotate_left
              · intro W _; go_simp; try with_reducible rfl
              try simp only [Act.put, List.setIfInBounds_toArray, List.set_cons_zero, List.set_cons_succ]
              refine wpAnyH_take (i := 5) (oi := ⟨some 34, .load 3 (.tmp 33), _, _, _, none⟩) (v := ?_) rfl (by kernel_rfl) (by kernel_rfl) (by kernel_rfl) (fun _ _ _ h => h) (Or.inl ⟨by rfl, ?_⟩) hHeld ?_
              rotate_left
              · intro W hS; have q0 := HC0.out W hS; go_simp; try with_reducible rfl
              try simp only [Act.put, List.setIfInBounds_toArray, List.set_cons_zero, List.set_cons_succ]
              refine wpAnyH_take (i := 6) (oi := ⟨some 35, .move (.tmp 6), _, _, _, none⟩) (v := ?_) rfl (by kernel_rfl) (by kernel_rfl) (by kernel_rfl) (fun _ _ _ h => h) (Or.inl ⟨by rfl, ?_⟩) hHeld ?_
              rotate_left
              · intro W _; go_simp; try with_reducible rfl
              try simp only [Act.put, List.setIfInBounds_toArray, List.set_cons_zero, List.set_cons_succ]
              refine wpAnyH_take (i := 7) (oi := ⟨some 36, .binOp .add 3 (.tmp 35) (.const (.int .i64 1)) 3, _, _, _, none⟩) (v := ?_) rfl (by kernel_rfl) (by kernel_rfl) (by kernel_rfl) (fun _ _ _ h => h) (Or.inl ⟨by rfl, ?_⟩) hHeld ?_
              rotate_left
              · intro W _; go_simp; try with_reducible rfl
              try simp only [Act.put, List.setIfInBounds_toArray, List.set_cons_zero, List.set_cons_succ]
              refine wpAnyH_take (i := 8) (oi := ⟨some 37, .binOp .neq 3 (.tmp 34) (.tmp 36) 3, _, _, _, none⟩) (v := ?_) rfl (by kernel_rfl) (by kernel_rfl) (by kernel_rfl) (fun _ _ _ h => h) (Or.inl ⟨by rfl, ?_⟩) hHeld ?_
              rotate_left
              · intro W _; go_simp; try with_reducible rfl
              try simp only [Act.put, List.setIfInBounds_toArray, List.set_cons_zero, List.set_cons_succ]
              refine wpAnyH_take (i := 9) (oi := ⟨some 38, .move (.tmp 37), _, _, _, none⟩) (v := ?_) rfl (by kernel_rfl) (by kernel_rfl) (by kernel_rfl) (fun _ _ _ h => h) (Or.inl ⟨by rfl, ?_⟩) hHeld ?_
              rotate_left
              · intro W _; go_simp; try with_reducible rfl
              try simp only [Act.put, List.setIfInBounds_toArray, List.set_cons_zero, List.set_cons_succ]
              refine wpAnyH_take (i := 10) (oi := ⟨some 39, .move (.tmp 1), _, _, _, some (9, false)⟩) (v := ?_) rfl (by kernel_rfl) (by kernel_rfl) (by kernel_rfl) (fun _ _ _ h => h) (Or.inl ⟨by rfl, ?_⟩) hHeld ?_
              rotate_left
              · intro W _; go_simp; try with_reducible rfl
              try simp only [Act.put, List.setIfInBounds_toArray, List.set_cons_zero, List.set_cons_succ]
              refine wpAnyH_take (i := 11) (oi := ⟨some 40, .move (.tmp 6), _, _, _, some (9, false)⟩) (v := ?_) rfl (by kernel_rfl) (by kernel_rfl) (by kernel_rfl) (fun _ _ _ h => h) (Or.inl ⟨by rfl, ?_⟩) hHeld ?_
              rotate_left
              · intro W _; go_simp; try with_reducible rfl
              try simp only [Act.put, List.setIfInBounds_toArray, List.set_cons_zero, List.set_cons_succ]
              refine wpAnyH_take (i := 12) (oi := ⟨some 41, .indexAddr 44 (.tmp 39) (.tmp 40), _, _, _, some (9, false)⟩) (v := ?_) rfl (by kernel_rfl) (by kernel_rfl) (by kernel_rfl) (fun _ _ _ h => h) (Or.inl ⟨by rfl, ?_⟩) hHeld ?_
              rotate_left
              · intro W _; go_simp; try with_reducible rfl
              try simp only [Act.put, List.setIfInBounds_toArray, List.set_cons_zero, List.set_cons_succ]
              refine wpAnyH_take (i := 13) (oi := ⟨some 42, .fieldAddr 36 (.tmp 41) 0, _, _, _, some (9, false)⟩) (v := ?_) rfl (by kernel_rfl) (by kernel_rfl) (by kernel_rfl) (fun _ _ _ h => h) (Or.inl ⟨by rfl, ?_⟩) hHeld ?_
              rotate_left
              · intro W _; go_simp; try with_reducible rfl
              try simp only [Act.put, List.setIfInBounds_toArray, List.set_cons_zero, List.set_cons_succ]
              refine wpAnyH_take (i := 14) (oi := ⟨some 43, .fieldAddr 25 (.tmp 42) 2, _, _, _, some (9, false)⟩) (v := ?_) rfl (by kernel_rfl) (by kernel_rfl) (by kernel_rfl) (fun _ _ _ h => h) (Or.inl ⟨by rfl, ?_⟩) hHeld ?_
              rotate_left
              · intro W _; go_simp; try with_reducible rfl
              try simp only [Act.put, List.setIfInBounds_toArray, List.set_cons_zero, List.set_cons_succ]
              refine wpAnyH_take (i := 15) (oi := ⟨some 44, .load 23 (.tmp 43), _, _, _, some (9, false)⟩) (v := .agg (bs s.hd.prev).toArray) rfl (by kernel_rfl) (by kernel_rfl) (by kernel_rfl) (fun _ _ _ h => h) (yieldsIf_load_mid (by rfl) _ _ rfl b (off + j * 97 + 33) rfl (bs s.hd.prev) _ (fun W h => sg_prevr (HX4.out W h) HSO.out) Tryd.underlying23 rfl ID1.out) hHeld ?_
              try simp only [Act.put, List.setIfInBounds_toArray, List.set_cons_zero, List.set_cons_succ]
              refine wpAnyH_take (i := 16) (oi := ⟨some 45, .load 23 (.tmp 5), _, _, _, some (9, false)⟩) (v := .agg (bs D).toArray) rfl (by kernel_rfl) (by kernel_rfl) (by kernel_rfl) (fun _ _ _ h => h) (yieldsIf_load_mid (by rfl) _ _ rfl P 0 rfl (bs D) _ (fun W h => (hA4.below h).all0) Tryd.underlying23 rfl ID2.out) hHeld ?_
              try simp only [Act.put, List.setIfInBounds_toArray, List.set_cons_zero, List.set_cons_succ]
              refine wpAnyH_take (i := 17) (oi := ⟨some 46, .binOp .neq 23 (.tmp 44) (.tmp 45) 23, _, _, _, some (9, false)⟩) (v := .bool true) rfl (by kernel_rfl) (by kernel_rfl) (by kernel_rfl) (fun _ _ _ h => h) (yieldsIf_eqH (by rfl) .neq 23 23 (.tmp 44) (.tmp 45) rfl _ _ rfl rfl guardH _ HEQ.out) hHeld ?_
              try simp only [Act.put, List.setIfInBounds_toArray, List.set_cons_zero, List.set_cons_succ]
              refine wpAnyH_take (i := 18) (oi := ⟨some 47, .pick (.tmp 38) (.const (.bool true)) (.tmp 46), _, _, _, none⟩) (v := ?_) rfl (by kernel_rfl) (by kernel_rfl) (by kernel_rfl) (fun _ _ _ h => h) (Or.inl ⟨by rfl, ?_⟩) hHeld ?_
              rotate_left
              · intro W _; go_simp; try with_reducible rfl
              try simp only [Act.put, List.setIfInBounds_toArray, List.set_cons_zero, List.set_cons_succ]
              refine wpAnyH_done (by kernel_rfl) ?_ _
              -- END rchB
              have HF := Lib.hid (Bt HB4.out hHeld)
              clear hHeld
              go_wp2_with fail
              go_ret
              exact ⟨by rw [HST.out]; rfl, HF.out⟩
            | true =>
              have HST : Hid (chX k zero32 (seqI l (j + 1)) = 0) := Lib.hid (HSN.out (by unfold stepX; rw [if_neg (by simp [hq]), if_pos (by simp only [eqHd, he1, he2, beq_self_eq_true]; rfl)]))
              have HEQ := Lib.hid (fun W : World => (neqD W s.hd.prev D HSO.out.1.2 HDL.out).trans (by rw [he2]))
              have ID3 : Hid ((Tryd.prog.info? 23).map (·.size) = some (bs (digH s.hd)).length) := Lib.hid (by rw [info_digest, bs_length, digH_length])
              have HL3 : Hid ((bs zero32).length = (bs (digH s.hd)).length) := Lib.hid (by rw [bs_length, bs_length, zero32_length, digH_length])
              have HLD : Hid ((bs D).length = (bs (digH s.hd)).length) := Lib.hid (by rw [bs_length, bs_length, HDL.out, digH_length])
              have HOD : Hid (∀ v ∈ bs (digH s.hd), v.oneCell' = true) := Lib.hid (bs_one _)
              clear hq
              go_wp2_with fail
              -- REGION rchC 14
              refine wp_region_held_drew (S := fun W => Below w4.heap.size w4 W) (by kernel_rfl) ((Below.refl _ w4).drew) (fun hHeld => ?_)
              refine wpAnyH_take (i := 0) (oi := ⟨some 29, .move (.tmp 1), _, _, _, none⟩) (v := ?_) rfl (by kernel_rfl) (by kernel_rfl) (by kernel_rfl) (fun _ _ _ h => h) (Or.inl ⟨by rfl, ?_⟩) hHeld ?_
              rotate_left
              · intro W _; go_simp; try with_reducible rfl
              try simp only [Act.put, List.setIfInBounds_toArray, List.set_cons_zero, List.set_cons_succ]
              refine wpAnyH_take (i := 1) (oi := ⟨some 30, .move (.tmp 6), _, _, _, none⟩) (v := ?_) rfl (by kernel_rfl) (by kernel_rfl) (by kernel_rfl) (fun _ _ _ h => h) (Or.inl ⟨by rfl, ?_⟩) hHeld ?_
              rotate_left
              · intro W _; go_simp; try with_reducible rfl
              try simp only [Act.put, List.setIfInBounds_toArray, List.set_cons_zero, List.set_cons_succ]
              refine wpAnyH_take (i := 2) (oi := ⟨some 31, .indexAddr 44 (.tmp 29) (.tmp 30), _, _, _, none⟩) (v := ?_) rfl (by kernel_rfl) (by kernel_rfl) (by kernel_rfl) (fun _ _ _ h => h) (Or.inl ⟨by rfl, ?_⟩) hHeld ?_
              rotate_left
              · intro W _; go_simp; try with_reducible rfl
              try simp only [Act.put, List.setIfInBounds_toArray, List.set_cons_zero, List.set_cons_succ]
              refine wpAnyH_take (i := 3) (oi := ⟨some 32, .fieldAddr 36 (.tmp 31) 0, _, _, _, none⟩) (v := ?_) rfl (by kernel_rfl) (by kernel_rfl) (by kernel_rfl) (fun _ _ _ h => h) (Or.inl ⟨by rfl, ?_⟩) hHeld ?_
              rotate_left
              · intro W _; go_simp; try with_reducible rfl
              try simp only [Act.put, List.setIfInBounds_toArray, List.set_cons_zero, List.set_cons_succ]
              refine wpAnyH_take (i := 4) (oi := ⟨some 33, .fieldAddr 25 (.tmp 32) 0, _, _, _, none⟩) (v := ?_) rfl (by kernel_rfl) (by kernel_rfl) (by kernel_rfl) (fun _ _ _ h => h) (Or.inl ⟨by rfl, ?_⟩) hHeld ?_
              rotate_left
              · intro W _; go_simp; try with_reducible rfl
              try simp only [Act.put, List.setIfInBounds_toArray, List.set_cons_zero, List.set_cons_succ]
              refine wpAnyH_take (i := 5) (oi := ⟨some 34, .load 3 (.tmp 33), _, _, _, none⟩) (v := ?_) rfl (by kernel_rfl) (by kernel_rfl) (by kernel_rfl) (fun _ _ _ h => h) (Or.inl ⟨by rfl, ?_⟩) hHeld ?_
              rotate_left
              · intro W hS; have q0 := HC0.out W hS; go_simp; try with_reducible rfl
              try simp only [Act.put, List.setIfInBounds_toArray, List.set_cons_zero, List.set_cons_succ]
              refine wpAnyH_take (i := 6) (oi := ⟨some 35, .move (.tmp 6), _, _, _, none⟩) (v := ?_) rfl (by kernel_rfl) (by kernel_rfl) (by kernel_rfl) (fun _ _ _ h => h) (Or.inl ⟨by rfl, ?_⟩) hHeld ?_
              rotate_left
              · intro W _; go_simp; try with_reducible rfl
              try simp only [Act.put, List.setIfInBounds_toArray, List.set_cons_zero, List.set_cons_succ]
              refine wpAnyH_take (i := 7) (oi := ⟨some 36, .binOp .add 3 (.tmp 35) (.const (.int .i64 1)) 3, _, _, _, none⟩) (v := ?_) rfl (by kernel_rfl) (by kernel_rfl) (by kernel_rfl) (fun _ _ _ h => h) (Or.inl ⟨by rfl, ?_⟩) hHeld ?_
              rotate_left
              · intro W _; go_simp; try with_reducible rfl
              try simp only [Act.put, List.setIfInBounds_toArray, List.set_cons_zero, List.set_cons_succ]
              refine wpAnyH_take (i := 8) (oi := ⟨some 37, .binOp .neq 3 (.tmp 34) (.tmp 36) 3, _, _, _, none⟩) (v := ?_) rfl (by kernel_rfl) (by kernel_rfl) (by kernel_rfl) (fun _ _ _ h => h) (Or.inl ⟨by rfl, ?_⟩) hHeld ?_
              rotate_left
              · intro W _; go_simp; try with_reducible rfl
              try simp only [Act.put, List.setIfInBounds_toArray, List.set_cons_zero, List.set_cons_succ]
              refine wpAnyH_take (i := 9) (oi := ⟨some 38, .move (.tmp 37), _, _, _, none⟩) (v := ?_) rfl (by kernel_rfl) (by kernel_rfl) (by kernel_rfl) (fun _ _ _ h => h) (Or.inl ⟨by rfl, ?_⟩) hHeld ?_
              rotate_left
              · intro W _; go_simp; try with_reducible rfl
              try simp only [Act.put, List.setIfInBounds_toArray, List.set_cons_zero, List.set_cons_succ]
              refine wpAnyH_take (i := 10) (oi := ⟨some 39, .move (.tmp 1), _, _, _, some (9, false)⟩) (v := ?_) rfl (by kernel_rfl) (by kernel_rfl) (by kernel_rfl) (fun _ _ _ h => h) (Or.inl ⟨by rfl, ?_⟩) hHeld ?_
              rotate_left
              · intro W _; go_simp; try with_reducible rfl
              try simp only [Act.put, List.setIfInBounds_toArray, List.set_cons_zero, List.set_cons_succ]
              refine wpAnyH_take (i := 11) (oi := ⟨some 40, .move (.tmp 6), _, _, _, some (9, false)⟩) (v := ?_) rfl (by kernel_rfl) (by kernel_rfl) (by kernel_rfl) (fun _ _ _ h => h) (Or.inl ⟨by rfl, ?_⟩) hHeld ?_
              rotate_left
              · intro W _; go_simp; try with_reducible rfl
              try simp only [Act.put, List.setIfInBounds_toArray, List.set_cons_zero, List.set_cons_succ]
              refine wpAnyH_take (i := 12) (oi := ⟨some 41, .indexAddr 44 (.tmp 39) (.tmp 40), _, _, _, some (9, false)⟩) (v := ?_) rfl (by kernel_rfl) (by kernel_rfl) (by kernel_rfl) (fun _ _ _ h => h) (Or.inl ⟨by rfl, ?_⟩) hHeld ?_
              rotate_left
              · intro W _; go_simp; try with_reducible rfl
              try simp only [Act.put, List.setIfInBounds_toArray, List.set_cons_zero, List.set_cons_succ]
              refine wpAnyH_take (i := 13) (oi := ⟨some 42, .fieldAddr 36 (.tmp 41) 0, _, _, _, some (9, false)⟩) (v := ?_) rfl (by kernel_rfl) (by kernel_rfl) (by kernel_rfl) (fun _ _ _ h => h) (Or.inl ⟨by rfl, ?_⟩) hHeld ?_
              rotate_left
              · intro W _; go_simp; try with_reducible rfl
              try simp only [Act.put, List.setIfInBounds_toArray, List.set_cons_zero, List.set_cons_succ]
              refine wpAnyH_take (i := 14) (oi := ⟨some 43, .fieldAddr 25 (.tmp 42) 2, _, _, _, some (9, false)⟩) (v := ?_) rfl (by kernel_rfl) (by kernel_rfl) (by kernel_rfl) (fun _ _ _ h => h) (Or.inl ⟨by rfl, ?_⟩) hHeld ?_
              rotate_left
              · intro W _; go_simp; try with_reducible rfl
              try simp only [Act.put, List.setIfInBounds_toArray, List.set_cons_zero, List.set_cons_succ]
              refine wpAnyH_take (i := 15) (oi := ⟨some 44, .load 23 (.tmp 43), _, _, _, some (9, false)⟩) (v := .agg (bs s.hd.prev).toArray) rfl (by kernel_rfl) (by kernel_rfl) (by kernel_rfl) (fun _ _ _ h => h) (yieldsIf_load_mid (by rfl) _ _ rfl b (off + j * 97 + 33) rfl (bs s.hd.prev) _ (fun W h => sg_prevr (HX4.out W h) HSO.out) Tryd.underlying23 rfl ID1.out) hHeld ?_
              try simp only [Act.put, List.setIfInBounds_toArray, List.set_cons_zero, List.set_cons_succ]
              refine wpAnyH_take (i := 16) (oi := ⟨some 45, .load 23 (.tmp 5), _, _, _, some (9, false)⟩) (v := .agg (bs D).toArray) rfl (by kernel_rfl) (by kernel_rfl) (by kernel_rfl) (fun _ _ _ h => h) (yieldsIf_load_mid (by rfl) _ _ rfl P 0 rfl (bs D) _ (fun W h => (hA4.below h).all0) Tryd.underlying23 rfl ID2.out) hHeld ?_
              try simp only [Act.put, List.setIfInBounds_toArray, List.set_cons_zero, List.set_cons_succ]
              refine wpAnyH_take (i := 17) (oi := ⟨some 46, .binOp .neq 23 (.tmp 44) (.tmp 45) 23, _, _, _, some (9, false)⟩) (v := .bool false) rfl (by kernel_rfl) (by kernel_rfl) (by kernel_rfl) (fun _ _ _ h => h) (yieldsIf_eqH (by rfl) .neq 23 23 (.tmp 44) (.tmp 45) rfl _ _ rfl rfl guardH _ HEQ.out) hHeld ?_
              try simp only [Act.put, List.setIfInBounds_toArray, List.set_cons_zero, List.set_cons_succ]
              refine wpAnyH_take (i := 18) (oi := ⟨some 47, .pick (.tmp 38) (.const (.bool true)) (.tmp 46), _, _, _, none⟩) (v := ?_) rfl (by kernel_rfl) (by kernel_rfl) (by kernel_rfl) (fun _ _ _ h => h) (Or.inl ⟨by rfl, ?_⟩) hHeld ?_
              rotate_left
              · intro W _; go_simp; try with_reducible rfl
              try simp only [Act.put, List.setIfInBounds_toArray, List.set_cons_zero, List.set_cons_succ]
              refine wpAnyH_done (by kernel_rfl) ?_ _
              -- END rchC
              have HB5 := Lib.hid (Bt HB4.out hHeld)
              have hx5 := sg_hdr (HX4.out _ hHeld)
              have hA5 := hA4.below hHeld
              clear hA4
              go_wp2_with ((with_reducible refine wpList_loadMH (o := ⟨some 53, _, _, _, _, _⟩) ?_ b (off + j * 97) 25 (.tmp 52) ?_ ?_ hx5 Tryd.underlying25 ?_ IH.out ?_); rfl; rfl; rfl; rfl)
              refine (HDG.out _ HB5.out).mono ?_
              rintro e w6 ⟨rfl, hB6⟩
              have hA6 := hA5.below hB6
              have HB6 := Lib.hid (Bt HB5.out hB6)
              clear hB6 hA5 hx5 hHeld
              go_wp2_with (first
                | ((with_reducible refine wpList_allocB (o := ⟨some 8, _, _, _, _, _⟩) ?_ 23 ?_ zeroD_info ?_); rfl; rfl; intro w7 hd7 hg7 hz7)
                | ((with_reducible refine wpList_storeB (o := ⟨none, .store 23 (.tmp 8) (.tmp 55), _, _, _, _⟩) ?_ 23 (.tmp 8) (.tmp 55) ?_ ?_ ?_ hd7 ID3.out HL3.out HOD.out ?_); rfl; rfl; rfl; rfl; intro w8 hd8 hg8 hz8; have hA8 := (hA6.grown hg7 (by simp)).grown hg8 (by have := hA6.lt; simp; omega); have HB8 := Lib.hid ((HB6.out.grown hg7 HB6.out.size (by simp)).grown hg8 (by have := HB6.out.size; omega) (fun k e => by cases e; exact HB6.out.size)))
                | ((with_reducible refine wpList_loadB (o := ⟨some 57, _, _, _, _, _⟩) ?_ 23 (.tmp 8) ?_ ?_ hd8 Tryd.underlying23 ?_ ID3.out ?_); rfl; rfl; rfl; rfl)
                | ((with_reducible refine wpList_storeB (o := ⟨none, .store 23 (.tmp 5) (.tmp 57), _, _, _, _⟩) ?_ 23 (.tmp 5) (.tmp 57) ?_ ?_ ?_ hA8 ID3.out HLD.out HOD.out ?_); rfl; rfl; rfl; rfl; intro w9 hd9 hg9 hz9))
              refine ⟨⟨j + 1, by omega, by simp, Lib.hid ⟨by rw [HLS.out]; exact hd9, HB8.out.grown hg9 HB8.out.size (fun k e => by cases e; exact HPW.out), HST.out⟩⟩, ?_⟩
              simp only [intOf]
              omega
        · have HST : Hid (chI k l = chkH k s) := Lib.hid (by
            have h0 : stepX k D (j, s) = chkH k s := by unfold stepX; rw [if_pos hq]
            rw [HE.out, HAT.out (by rw [h0]; exact hq), h0])
          have hq2 : (chkH k s != 0) = true := by simpa using hq
          generalize chkH k s = z at *
          go_wp2_with ((with_reducible refine wpList_loadMH (o := ⟨some 24, _, _, _, _, _⟩) ?_ b (off + j * 97) 36 (.tmp 23) ?_ ?_ hx Tryd.underlying36 ?_ IX.out ?_); rfl; rfl; rfl; rfl)
          refine (HCK.out wr HBW.out).mono ?_
          rintro e w4 ⟨rfl, hB4⟩
          have HB4 := Lib.hid (Bt HBW.out hB4)
          clear hx hA hB4
          go_wp2_with fail
          go_ret
          exact ⟨by rw [HST.out]; rfl, HB4.out⟩
      · obtain rfl : j = n := by omega
        have HST : Hid (chI k l = 0) := Lib.hid (by rw [HE.out]; exact HA.out.ok)
        have HF := Lib.hid HA.out.bel
        clear HA
        go_wp2_with fail
        go_ret
        exact ⟨by rw [HST.out]; rfl, HF.out⟩
end Go.Proofs.YtoclahcibilbhaaDoor
