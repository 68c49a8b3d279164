/-
  The statement HeadChains of layer 9.
-/
import Derived.Test.YtoclahcibilbhaaDoorLaw09B
import Derived.Test.YtoclahcibilbhaaDoorHedF
import Derived.Test.YtoclahcibilbhaaDoorHedG
namespace Go.Proofs.YtoclahcibilbhaaDoor
open Go.RowKit
set_option maxRecDepth 100000

theorem hchain_any (w : World) (hT : Tab w 0) (k : ByteArray) (a : Option Addr) (n c : Nat) (l : List Sg) (hr : RdG sgR w a n c l) (hn : n ≤ 1000000) :
    Calls Tryd.prog 20 #[.string k, .slice a n c] w fun e w' => e = .returned (.int .i64 (chI k l)) ∧ Below w.heap.size w w' :=
  callsIn_wide.1 ((hchain_in w hT k a n c l hr hn).more (Nat.le_refl _))
theorem keyok_K : keyok kK = true := by decide
theorem ch_one : chI kK [sgnI kK hOne] = 0 := by
  have h1 : seqI [sgnI kK hOne] 1 = [(0, sgnI kK hOne)] := rfl
  unfold chI
  rw [keyok_K, show [sgnI kK hOne].length = 1 from rfl, h1]
  have h2 : stepX kK zero32 (0, sgnI kK hOne) = 0 := by
    unfold stepX
    rw [if_neg (by simp [chk_KK]), if_pos (by rw [sgnI_hd]; decide)]
  simp only [if_true, chX, h2, ne_eq, not_true_eq_false, if_false]
theorem ch_two : chI kK [sgnI kK hOne, sgnI kK hOne] = 82 := by
  have h1 : seqI [sgnI kK hOne, sgnI kK hOne] 2 = [(0, sgnI kK hOne), (1, sgnI kK hOne)] := rfl
  unfold chI
  rw [keyok_K, show [sgnI kK hOne, sgnI kK hOne].length = 2 from rfl, h1]
  have h2 : stepX kK zero32 (0, sgnI kK hOne) = 0 := by
    unfold stepX
    rw [if_neg (by simp [chk_KK]), if_pos (by rw [sgnI_hd]; decide)]
  have h3 : ∀ D, stepX kK D (1, sgnI kK hOne) = 82 := fun D => by
    unfold stepX
    rw [if_neg (by simp [chk_KK]), if_neg (by rw [sgnI_hd]; simp [eqHd, hOne])]
  simp only [if_true, chX, h2, h3, ne_eq, not_true_eq_false, if_false]
  decide
theorem ch_none : chI ByteArray.empty [] = 80 := rfl

set_option maxHeartbeats 2000000 in
theorem chains_any (w : World) (hT : Tab w 0) : Calls Tryd.prog 21 #[] w fun e w' => e = .returned (.bool true) ∧ Below w.heap.size w w' := by
  have hok : (sgnI kK hOne).ok := sgnI_ok kK hOne_ok
  have HOK : Hid (sgR.ok (sgnI kK hOne)) := Lib.hid hok
  have HOK2 : Hid (sgR.all [sgnI kK hOne, sgnI kK hOne]) := Lib.hid (fun x hx => by simp at hx; subst hx; exact hok)
  have IX : Hid ((Tryd.prog.info? 36).map (·.size) = some (sgc (sgnI kK hOne)).length) := Lib.hid (by rw [sgc_length hok]; exact info_signed)
  have HLX : Hid ((sgc sgz).length = (sgc (sgnI kK hOne)).length) := Lib.hid (by rw [sgc_length hok, sgc_length sgz_ok])
  have HOX : Hid (∀ v ∈ sgc (sgnI kK hOne), v.oneCell' = true) := Lib.hid (sgc_one _)
  have S1 := Lib.hid (fun W (h : Below w.heap.size w W) => hsign_any W (hT.below h) kK hOne hOne_ok)
  have C1 := Lib.hid (fun W (h : Below w.heap.size w W) a c (hr : RdG sgR W a 1 c [sgnI kK hOne]) => hchain_any W (hT.below h) kK a 1 c _ hr (by decide))
  have C2 := Lib.hid (fun W (h : Below w.heap.size w W) a c (hr : RdG sgR W a 2 c [sgnI kK hOne, sgnI kK hOne]) => hchain_any W (hT.below h) kK a 2 c _ hr (by decide))
  have C3 := Lib.hid (fun W (h : Below w.heap.size w W) => hchain_any W (hT.below h) ByteArray.empty none 0 0 [] (RdG.nil0 W) (by decide))
  rw [sgnP_K] at S1
  rw [ch_one] at C1
  rw [ch_two] at C2
  rw [ch_none] at C3
  clear hT hok
  generalize sgnI kK hOne = y at *
  go_enter Tryd.func21, Tryd.ntmps21
  go_wp2_with fail
  refine (first_any w).mono ?_
  rintro e w1 ⟨rfl, hB1⟩
  go_wp2_with fail
  refine (S1.out w1 hB1).mono ?_
  rintro e w2 ⟨rfl, hB2⟩
  have HB2 := Lib.hid (Bt hB1 hB2)
  clear hB1 hB2 S1
  go_wp2_with (first
    | ((with_reducible refine wpList_allocB (o := ⟨some 1, _, _, _, _, _⟩) ?_ 36 ?_ sgz_info ?_); rfl; rfl; intro w3 hd3 hg3 hz3)
    | ((with_reducible refine wpList_storeB (o := ⟨none, .store 36 (.tmp 1) (.tmp 8), _, _, _, _⟩) ?_ 36 (.tmp 1) (.tmp 8) ?_ ?_ ?_ hd3 IX.out HLX.out HOX.out ?_); rfl; rfl; rfl; rfl; intro w4 hd4 hg4 hz4; have HB4 := Lib.hid ((HB2.out.grown hg3 HB2.out.size (by simp)).grown hg4 (by have := HB2.out.size; omega) (fun k e => by cases e; exact HB2.out.size)); clear hz3 hz4)
    | ((with_reducible refine wpList_loadB (o := ⟨some 10, _, _, _, _, _⟩) ?_ 36 (.tmp 1) ?_ ?_ hd4 Tryd.underlying36 ?_ IX.out ?_); rfl; rfl; rfl; rfl)
    | ((with_reducible refine wpList_oneG sgR (o := ⟨some 11, _, _, _, _, _⟩) ?_ (.tmp 10) ?_ (y1 := y) HOK.out ?_ ?_); rfl; rfl; rfl; have hR5 : RdG sgR (w4.alloc (.cells (sgR.cells [y]).toArray sgR.T)) (some ⟨w4.heap.size, 0, none⟩) 1 1 [y] := RdG.many w4 (Row.all.single HOK.out) rfl (by decide); have hd5 := hd4.alloc (.cells (sgR.cells [y]).toArray sgR.T); have hB5 := HB4.out.alloc HB4.out.size (.cells (sgR.cells [y]).toArray sgR.T)))
  generalize w4.alloc (.cells (sgR.cells [y]).toArray sgR.T) = w5 at *
  refine (C1.out w5 hB5 _ _ hR5).mono ?_
  rintro e w6 ⟨rfl, hB6⟩
  have hd6 := hd5.below hB6
  have HB6 := Lib.hid (Bt hB5 hB6)
  clear hd3 hd4 hg3 hg4 hB5 hB6 HB4 C1 hR5 hd5
  generalize hR : w2.heap.size = R at *
  clear hR
  go_wp2_with (first
    | ((with_reducible refine wpList_loadB (o := ⟨some 13, _, _, _, _, _⟩) ?_ 36 (.tmp 1) ?_ ?_ hd6 Tryd.underlying36 ?_ IX.out ?_); rfl; rfl; rfl; rfl)
    | ((with_reducible refine wpList_loadB (o := ⟨some 14, _, _, _, _, _⟩) ?_ 36 (.tmp 1) ?_ ?_ hd6 Tryd.underlying36 ?_ IX.out ?_); rfl; rfl; rfl; rfl)
    | ((with_reducible refine wpList_twoG sgR (o := ⟨some 15, _, _, _, _, _⟩) ?_ (.tmp 13) (.tmp 14) ?_ (y1 := y) (y2 := y) HOK2.out ?_ ?_ ?_); rfl; rfl; rfl; rfl; have hR7 : RdG sgR (w6.alloc (.cells (sgR.cells [y, y]).toArray sgR.T)) (some ⟨w6.heap.size, 0, none⟩) 2 2 [y, y] := RdG.many w6 HOK2.out rfl (by decide); have hB7 := HB6.out.alloc HB6.out.size (.cells (sgR.cells [y, y]).toArray sgR.T)))
  generalize w6.alloc (.cells (sgR.cells [y, y]).toArray sgR.T) = w7 at *
  refine (C2.out w7 hB7 _ _ hR7).mono ?_
  rintro e w8 ⟨rfl, hB8⟩
  have HB8 := Lib.hid (Bt hB7 hB8)
  clear hd6 HB6 hB7 hR7 hB8 C2
  go_wp2_with fail
  refine (C3.out w8 HB8.out).mono ?_
  rintro e w9 ⟨rfl, hB9⟩
  have HB9 := Lib.hid (Bt HB8.out hB9)
  clear hB9
  go_wp2_with fail
  go_ret
  exact ⟨rfl, HB9.out⟩

set_option maxHeartbeats 4000000 in
theorem walkHeadChains (w : World) (hT : Tab w 0) (hK : Tab w 1) (k : ByteArray) (_hk : k.size ≤ maxLen) (a : Option Addr) (n c : Nat) (l : List Sg) (hr : RdG sgR w a n c l) :
    Calls Tryd.prog 7 #[.string k, .slice a n c] w (Yes9 w) := by
  by_cases hl : (65536 : Int) < (k.size : Int)
  · go_enter Tryd.func7, Tryd.ntmps7
    go_wp2_with fail
    go_ret
    exact ⟨rfl, Below.refl _ _⟩
  by_cases hn : (1000 : Int) < (n : Int)
  · go_enter Tryd.func7, Tryd.ntmps7
    go_wp2_with fail
    go_ret
    exact ⟨rfl, Below.refl _ _⟩
  have HN : Hid (n ≤ 1000) := Lib.hid (by omega)
  have HR := Lib.hid (fun W (h : Below w.heap.size w W) => hr.below h)
  have HOK : Hid (sgR.all l) := Lib.hid hr.ok
  have HLN := Lib.hid hr.len
  have C1 := Lib.hid (fun W (h : Below w.heap.size w W) => hchain_any W (hT.below h) k a n c l (hr.below h) (by omega))
  have C2 := Lib.hid (fun W (h : Below w.heap.size w W) a' c' (hr' : RdG sgR W a' n c' l) => rchain_any W (hK.below h) k a' n c' l hr' (by omega))
  have CH := Lib.hid (fun W (h : Below w.heap.size w W) => chains_any W (hT.below h))
  have hO0 := OwnG.nil0 (R := sgR) w w.heap.size
  have HS : Hid (([] : List Sg).length + n ≤ 1000000) := Lib.hid (by simp; omega)
  have hwl := Nat.le_refl w.heap.size
  clear hT hK
  generalize chI k l = z at *
  go_enter Tryd.func7, Tryd.ntmps7
  go_wp2_with ((with_reducible refine wpList_appG sgR (o := ⟨some 18, _, _, _, _, _⟩) ?_ (.tmp 16) (.tmp 17) ?_ ?_ hO0 ?_ hr HS.out hwl ?_); rfl; rfl; rfl; rfl; intro a1 c1 w1 hO1 hg1 _)
  have hB1 : Below w.heap.size w w1 := (Below.refl _ w).grown hg1 (Nat.le_refl _) (fun k e => by simp [Value.ownBlock] at e)
  have hR1 : RdG sgR w1 a1 n c1 l := by have := hO1.rd; simpa using this
  refine (C1.out w1 hB1).mono ?_
  rintro e w2 ⟨rfl, hB2⟩
  have HR2 := Lib.hid (fun W (h : Below w2.heap.size w2 W) => (hR1.below hB2).below h)
  have HB2 := Lib.hid (Bt hB1 hB2)
  clear hl hn hr hO0 hO1 hg1 hB1 hR1 hB2 C1 hwl
  go_wp2_with fail
  go_loopw [7] (fun i wr => ∃ j : Nat, j ≤ n ∧ i = .int .i64 (j : Int) ∧ Hid (Below w2.heap.size w2 wr)) (fun i _ => n - (intOf i).toNat)
  case atStart => exact ⟨0, Nat.zero_le _, rfl, Lib.hid (Below.refl _ _)⟩
  case round =>
    obtain ⟨j, hj, rfl, HB⟩ := hrel
    by_cases hjn : j < n
    · have hjni : (j : Int) < (n : Int) := by omega
      have hnn : n ≤ 1000 := HN.out
      obtain ⟨b, off, hae, hbl, hel⟩ := (HR.out wr (Bt HB2.out HB.out)).elems (by omega)
      obtain ⟨b2, off2, hae2, hbl2, hel2⟩ := (HR2.out wr HB.out).elems (by omega)
      subst hae hae2
      have hx : wr.rangeAt b (off + j * 97) (sgc (l.getD j sgz)) := hel j hjn
      have hx2 : wr.rangeAt b2 (off2 + j * 97) (sgc (l.getD j sgz)) := hel2 j hjn
      have HX1 := Lib.hid hx
      have HX2 := Lib.hid hx2
      have hso : (l.getD j sgz).ok := HOK.out.at (by rw [HLN.out]; exact hjn)
      have HSO := Lib.hid hso
      have IX : Hid ((Tryd.prog.info? 36).map (·.size) = some (sgc (l.getD j sgz)).length) := Lib.hid (by rw [sgc_length hso]; exact info_signed)
      clear hel hel2 hx hx2 hso
      generalize l.getD j sgz = s at *
      have HEQ := Lib.hid (fun W : World => (neq_signed W s s HSO.out HSO.out).trans (by rw [eqSg_self]; rfl : _ = Result.ok (Value.bool false) W))
      go_wp2_with fail
      -- REGION cheq 6
      refine wp_region_held_drew (S := fun W => Below wr.heap.size wr W) (by kernel_rfl) ((Below.refl _ wr).drew) (fun hHeld => ?_)
      refine wpAnyH_take (i := 0) (oi := ⟨some 28, .move (.tmp 1), _, _, _, none⟩) (v := ?_) rfl (by kernel_rfl) (by kernel_rfl) (by kernel_rfl) (fun _ _ _ h => h) (Or.inl ⟨by rfl, ?_⟩) hHeld ?_
      rotate_left
      · intro W _; go_simp; try with_reducible rfl
      try simp only [Act.put, List.setIfInBounds_toArray, List.set_cons_zero, List.set_cons_succ]
      refine wpAnyH_take (i := 1) (oi := ⟨some 29, .move (.tmp 7), _, _, _, none⟩) (v := ?_) rfl (by kernel_rfl) (by kernel_rfl) (by kernel_rfl) (fun _ _ _ h => h) (Or.inl ⟨by rfl, ?_⟩) hHeld ?_
      rotate_left
      · intro W _; go_simp; try with_reducible rfl
      try simp only [Act.put, List.setIfInBounds_toArray, List.set_cons_zero, List.set_cons_succ]
      refine wpAnyH_take (i := 2) (oi := ⟨some 30, .indexAddr 44 (.tmp 28) (.tmp 29), _, _, _, none⟩) (v := ?_) rfl (by kernel_rfl) (by kernel_rfl) (by kernel_rfl) (fun _ _ _ h => h) (Or.inl ⟨by rfl, ?_⟩) hHeld ?_
      rotate_left
      · intro W _; go_simp; try with_reducible rfl
      try simp only [Act.put, List.setIfInBounds_toArray, List.set_cons_zero, List.set_cons_succ]
      refine wpAnyH_take (i := 3) (oi := ⟨some 31, .load 36 (.tmp 30), _, _, _, none⟩) (v := .agg (sgc s).toArray) rfl (by kernel_rfl) (by kernel_rfl) (by kernel_rfl) (fun _ _ _ h => h) (yieldsIf_load_mid (by rfl) _ _ rfl b (off + j * 97) rfl (sgc s) _ (fun W h => fun i v hv => cell_later h (HX1.out i v hv)) Tryd.underlying36 rfl IX.out) hHeld ?_
      try simp only [Act.put, List.setIfInBounds_toArray, List.set_cons_zero, List.set_cons_succ]
      refine wpAnyH_take (i := 4) (oi := ⟨some 32, .move (.tmp 5), _, _, _, none⟩) (v := ?_) rfl (by kernel_rfl) (by kernel_rfl) (by kernel_rfl) (fun _ _ _ h => h) (Or.inl ⟨by rfl, ?_⟩) hHeld ?_
      rotate_left
      · intro W _; go_simp; try with_reducible rfl
      try simp only [Act.put, List.setIfInBounds_toArray, List.set_cons_zero, List.set_cons_succ]
      refine wpAnyH_take (i := 5) (oi := ⟨some 33, .move (.tmp 7), _, _, _, none⟩) (v := ?_) rfl (by kernel_rfl) (by kernel_rfl) (by kernel_rfl) (fun _ _ _ h => h) (Or.inl ⟨by rfl, ?_⟩) hHeld ?_
      rotate_left
      · intro W _; go_simp; try with_reducible rfl
      try simp only [Act.put, List.setIfInBounds_toArray, List.set_cons_zero, List.set_cons_succ]
      refine wpAnyH_take (i := 6) (oi := ⟨some 34, .indexAddr 44 (.tmp 32) (.tmp 33), _, _, _, none⟩) (v := ?_) rfl (by kernel_rfl) (by kernel_rfl) (by kernel_rfl) (fun _ _ _ h => h) (Or.inl ⟨by rfl, ?_⟩) hHeld ?_
      rotate_left
      · intro W _; go_simp; try with_reducible rfl
      try simp only [Act.put, List.setIfInBounds_toArray, List.set_cons_zero, List.set_cons_succ]
      refine wpAnyH_take (i := 7) (oi := ⟨some 35, .load 36 (.tmp 34), _, _, _, none⟩) (v := .agg (sgc s).toArray) rfl (by kernel_rfl) (by kernel_rfl) (by kernel_rfl) (fun _ _ _ h => h) (yieldsIf_load_mid (by rfl) _ _ rfl b2 (off2 + j * 97) rfl (sgc s) _ (fun W h => fun i v hv => cell_later h (HX2.out i v hv)) Tryd.underlying36 rfl IX.out) hHeld ?_
      try simp only [Act.put, List.setIfInBounds_toArray, List.set_cons_zero, List.set_cons_succ]
      refine wpAnyH_take (i := 8) (oi := ⟨some 36, .binOp .neq 36 (.tmp 31) (.tmp 35) 36, _, _, _, none⟩) (v := .bool false) rfl (by kernel_rfl) (by kernel_rfl) (by kernel_rfl) (fun _ _ _ h => h) (yieldsIf_eqH (by rfl) .neq 36 36 (.tmp 31) (.tmp 35) rfl _ _ rfl rfl guard_signed _ HEQ.out) hHeld ?_
      try simp only [Act.put, List.setIfInBounds_toArray, List.set_cons_zero, List.set_cons_succ]
      refine wpAnyH_done (by kernel_rfl) ?_ _
      -- END cheq
      have HB5 := Lib.hid (Bt HB.out hHeld)
      clear hHeld
      go_wp2_with fail
      refine ⟨⟨j + 1, by omega, by simp, HB5⟩, ?_⟩
      simp only [intOf]
      omega
    · obtain rfl : j = n := by omega
      have HB3 := Lib.hid (Bt HB2.out HB.out)
      have HR3 := Lib.hid (HR2.out wr HB.out)
      clear HR2 HB
      go_wp2_with fail
      refine (CH.out wr HB3.out).mono ?_
      rintro e w4 ⟨rfl, hB4⟩
      have HB4 := Lib.hid (Bt HB3.out hB4)
      have hR4 := HR3.out.below hB4
      clear hB4
      go_wp2_with fail
      refine (C2.out w4 HB4.out _ _ hR4).mono ?_
      rintro e w5 ⟨rfl, hB5⟩
      have HB5 := Lib.hid (Bt HB4.out hB5)
      clear hB5 hR4
      go_wp2_with fail
      go_ret
      exact ⟨rfl, HB5.out⟩
end Go.Proofs.YtoclahcibilbhaaDoor
