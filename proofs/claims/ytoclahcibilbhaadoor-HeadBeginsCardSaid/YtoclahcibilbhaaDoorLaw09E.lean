/-
  The statement HeadBegins of layer 9.
-/
import Derived.Test.YtoclahcibilbhaaDoorLaw09C
import Derived.Deep.CutBlock
namespace Go.Proofs.YtoclahcibilbhaaDoor
open Go.RowKit
set_option maxRecDepth 100000

/-- a chain: each element is right by itself, and names the one before it -/
theorem chX_all (k : ByteArray) (D : List UInt8) (q : List (Nat × Sg)) (h : chX k D q = 0) : ∀ i, (hi : i < q.length) → stepX k (lastX D (q.take i)) (q[i]) = 0 := by
  induction q generalizing D with
  | nil => intro i hi; simp at hi
  | cons y q ih =>
    simp only [chX] at h
    split at h
    · rename_i h2; exact absurd h h2
    · rename_i h2
      intro i hi
      cases i with
      | zero => simpa [lastX] using h2
      | succ i => simpa [lastX] using ih _ h i (by simpa using hi)
theorem seqI_length (l : List Sg) (k : Nat) : (seqI l k).length = k := by simp [seqI]
theorem seqI_get (l : List Sg) (k i : Nat) (hi : i < (seqI l k).length) : (seqI l k)[i] = (i, l.getD i sgz) := by simp [seqI]
theorem seqI_take (l : List Sg) (k n : Nat) (h : k ≤ n) : (seqI l n).take k = seqI l k := by
  unfold seqI
  rw [← List.map_take]
  congr 1
  rw [List.take_range, Nat.min_eq_left h]
theorem seqI_pre (l : List Sg) (k : Nat) : seqI (l.take k) k = seqI l k := by
  unfold seqI
  refine List.map_congr_left fun j hj => ?_
  have := List.mem_range.1 hj
  have h1 : (l.take k)[j]? = l[j]? := List.getElem?_take_of_lt this
  simp only [List.getD, h1]
theorem chI_ok {k : ByteArray} {l : List Sg} (h : chI k l = 0) : keyok k = true ∧ chX k zero32 (seqI l l.length) = 0 := by
  unfold chI at h
  cases hk : keyok k
  · rw [hk] at h
    simp at h
  · rw [hk] at h
    exact ⟨rfl, h⟩
/-- the beginning of a chain is one -/
theorem chI_take {k : ByteArray} {l : List Sg} (h : chI k l = 0) {n : Nat} (hn : n ≤ l.length) : chI k (l.take n) = 0 := by
  obtain ⟨h1, h2⟩ := chI_ok h
  have hl : (l.take n).length = n := by simp; omega
  unfold chI
  rw [h1, hl, seqI_pre l n]
  simp only [if_true]
  obtain ⟨r, hr⟩ := seqI_split l hn
  apply Classical.byContradiction
  intro hne
  rw [hr, chX_stop k zero32 _ _ hne] at h2
  exact hne h2
theorem stepX_ok {k : ByteArray} {D : List UInt8} {i : Nat} {s : Sg} (h : stepX k D (i, s) = 0) : chkH k s = 0 ∧ s.hd.ep = (i : Int) + 1 ∧ s.hd.prev = D := by
  unfold stepX at h
  split at h
  · rename_i h2; exact absurd h h2
  · rename_i h2
    simp only [ne_eq, Decidable.not_not] at h2
    split at h
    · rename_i h3
      have := (eqHd_iff _ _).1 h3
      refine ⟨h2, ?_, ?_⟩
      · rw [this]
      · rw [this]
    · simp at h
theorem chI_at {k : ByteArray} {l : List Sg} (h : chI k l = 0) (i : Nat) (hi : i < l.length) : chkH k (l.getD i sgz) = 0 ∧ (i + 1 < l.length → (l.getD (i + 1) sgz).hd.prev = digH (l.getD i sgz).hd) := by
  obtain ⟨_, h2⟩ := chI_ok h
  have ha := chX_all k zero32 _ h2
  have h3 := ha i (by rw [seqI_length]; exact hi)
  rw [seqI_get] at h3
  refine ⟨(stepX_ok h3).1, fun h4 => ?_⟩
  have h5 := ha (i + 1) (by rw [seqI_length]; exact h4)
  rw [seqI_get, seqI_take l (i + 1) l.length (by omega), seqI_succ, lastX_snoc] at h5
  exact (stepX_ok h5).2.2
theorem chk_valid {k : ByteArray} {s : Sg} (h : chkH k s = 0) : hvalid s.hd = true := by
  unfold chkH at h
  split at h
  · rename_i h2
    have : keyok k = true ∧ hvalid s.hd = true := by simpa [mayH] using h2
    exact this.2
  · simp at h
/-- two chains with the same head at the place behind: the digests of the heads are the same -/
theorem dig_same {k k2 : ByteArray} {l m : List Sg} (h : chI k l = 0) (h2 : chI k2 m = 0) (hl : m.length = l.length) (i : Nat) (hi : i + 1 < l.length) (he : (l.getD (i + 1) sgz).hd = (m.getD (i + 1) sgz).hd) :
    digH (l.getD i sgz).hd = digH (m.getD i sgz).hd ∧ hErr (l.getD i sgz).hd = 0 ∧ hErr (m.getD i sgz).hd = 0 := by
  have a1 := chI_at h i (by omega)
  have a2 := chI_at h2 i (by omega)
  refine ⟨?_, ?_, ?_⟩
  · rw [← a1.2 hi, ← a2.2 (by omega), he]
  · rw [hErr, chk_valid a1.1]; rfl
  · rw [hErr, chk_valid a2.1]; rfl

set_option maxHeartbeats 8000000 in
theorem walkHeadBegins (w : World) (hT : Tab w 0) (k : ByteArray) (_hk : k.size ≤ maxLen) (k2 : ByteArray) (_hk2 : k2.size ≤ maxLen) (a : Option Addr) (n c : Nat) (l : List Sg) (hr : RdG sgR w a n c l) (a2 : Option Addr) (n2 c2 : Nat) (m : List Sg) (hr2 : RdG sgR w a2 n2 c2 m) (at_ : Int) (_wf : (Lit.int .i64 at_).wf = true) :
    Calls Tryd.prog 8 #[.string k, .string k2, .slice a n c, .slice a2 n2 c2, .int .i64 at_] w (Yes9 w) := by
  by_cases h1 : (65536 : Int) < (k.size : Int)
  · go_enter Tryd.func8, Tryd.ntmps8
    go_wp2_with fail
    go_ret
    exact ⟨rfl, Below.refl _ _⟩
  by_cases h2 : (65536 : Int) < (k2.size : Int)
  · go_enter Tryd.func8, Tryd.ntmps8
    go_wp2_with fail
    go_ret
    exact ⟨rfl, Below.refl _ _⟩
  by_cases h3 : (300 : Int) < (n : Int)
  · go_enter Tryd.func8, Tryd.ntmps8
    go_wp2_with fail
    go_ret
    exact ⟨rfl, Below.refl _ _⟩
  by_cases h4 : (300 : Int) < (n2 : Int)
  · go_enter Tryd.func8, Tryd.ntmps8
    go_wp2_with fail
    go_ret
    exact ⟨rfl, Below.refl _ _⟩
  have CH := Lib.hid (fun W (h : Below w.heap.size w W) => chains_any W (hT.below h))
  have SG := Lib.hid (fun W (h : Below w.heap.size w W) => signs_any W (hT.below h))
  have DG := Lib.hid (fun W (h : Below w.heap.size w W) (x : Hd) (hx : x.ok) => hdig_any W (hT.below h) x hx)
  have C1 := Lib.hid (fun W (h : Below w.heap.size w W) => hchain_any W (hT.below h) k a n c l (hr.below h) (by omega))
  have C2 := Lib.hid (fun W (h : Below w.heap.size w W) => hchain_any W (hT.below h) k2 a2 n2 c2 m (hr2.below h) (by omega))
  have CT := Lib.hid (fun W (h : Below w.heap.size w W) (q : Nat) (hq : q ≤ n) => hchain_any W (hT.below h) k a q c (l.take q) ((hr.take q hq).below h) (by omega))
  have HR1 := Lib.hid (fun W (h : Below w.heap.size w W) => hr.below h)
  have HR2 := Lib.hid (fun W (h : Below w.heap.size w W) => hr2.below h)
  have HL1 := Lib.hid hr.len
  have HL2 := Lib.hid hr2.len
  have HO1 : Hid (sgR.all l) := Lib.hid hr.ok
  have HO2 : Hid (sgR.all m) := Lib.hid hr2.ok
  have HN : Hid (n ≤ 300) := Lib.hid (by omega)
  have hcap := hr.cap
  have hmax := hr.max
  unfold maxLen at hmax
  clear hT hr hr2
  go_enter Tryd.func8, Tryd.ntmps8
  go_wp2_with fail
  refine (C1.out w (Below.refl _ _)).mono ?_
  by_cases hq1 : chI k l = 0
  rotate_left
  · have hz1 : (chI k l != 0) = true := by simpa using hq1
    generalize chI k l = v1 at *
    rintro e w1 ⟨rfl, hB1⟩
    have HB1 := Lib.hid hB1
    clear hB1 h1 h2 h3 h4 hcap hmax
    go_wp2_with fail
    refine (CH.out w1 HB1.out).mono ?_
    rintro e z1 ⟨rfl, hBz1⟩
    have HBz1 := Lib.hid (Bt HB1.out hBz1)
    clear hBz1
    go_wp2_with fail
    refine (SG.out z1 HBz1.out).mono ?_
    rintro e z2 ⟨rfl, hBz2⟩
    have HBz2 := Lib.hid (Bt HBz1.out hBz2)
    clear hBz2
    go_wp2_with fail
    go_ret
    exact ⟨rfl, HBz2.out⟩
  have HQ1 := Lib.hid hq1
  rw [hq1]
  clear hq1
  rintro e w1 ⟨rfl, hB1⟩
  have HB1 := Lib.hid hB1
  clear hB1 h1 h2 h4
  go_upto_region 5 with fail
  go_cut [57] from 34 to 57 (fun st wx => st = .bool false ∧ Hid (Below w.heap.size w wx))
  case first =>
    by_cases p0 : 0 ≤ at_
    · obtain ⟨q, rfl⟩ := Int.eq_ofNat_of_zero_le p0
      by_cases p1 : (q : Int) ≤ (n : Int)
      · have hqn : q ≤ n := by omega
        have hqc : q ≤ c := by omega
        have CQ := Lib.hid (CT.out w1 HB1.out q hqn)
        rw [chI_take HQ1.out (by rw [HL1.out]; exact hqn)] at CQ
        go_wp2_with fail
        refine CQ.out.mono ?_
        rintro e w2 ⟨rfl, hB2⟩
        have HB2 := Lib.hid (Bt HB1.out hB2)
        clear hB2
        go_wp2_with fail
        go_meet
        exact ⟨rfl, HB2⟩
      · go_wp2_with fail
        go_meet
        exact ⟨rfl, HB1⟩
    · go_wp2_with fail
      go_meet
      exact ⟨rfl, HB1⟩
  case rest =>
    obtain ⟨rfl, HB2⟩ := hcut
    clear HB1 hcap hmax
    go_upto_region 7 with fail
    have S2 := Lib.hid (fun W (h : Below wc.heap.size wc W) => C2.out W (Bt HB2.out h))
    by_cases hq2 : chI k2 m = 0
    rotate_left
    · have hz2 : (chI k2 m != 0) = true := by simpa using hq2
      generalize chI k2 m = v2 at *
      -- REGION bgA 6
      refine wp_region_held_drew (S := fun W => Below wc.heap.size wc W) (by kernel_rfl) ((Below.refl _ wc).drew) (fun hHeld => ?_)
      refine wpAnyH_take (i := 0) (oi := ⟨some 58, .move (.tmp 1), _, _, _, none⟩) (v := ?_) rfl (by kernel_rfl) (by kernel_rfl) (by kernel_rfl) (fun _ _ _ h => h) (Or.inl ⟨by rfl, ?_⟩) hHeld ?_
      rotate_left
      · intro W _; go_simp; try with_reducible rfl
      try simp only [Act.put, List.setIfInBounds_toArray, List.set_cons_zero, List.set_cons_succ]
      refine wpAnyH_take (i := 1) (oi := ⟨some 59, .move (.tmp 3), _, _, _, none⟩) (v := ?_) rfl (by kernel_rfl) (by kernel_rfl) (by kernel_rfl) (fun _ _ _ h => h) (Or.inl ⟨by rfl, ?_⟩) hHeld ?_
      rotate_left
      · intro W _; go_simp; try with_reducible rfl
      try simp only [Act.put, List.setIfInBounds_toArray, List.set_cons_zero, List.set_cons_succ]
      refine wpAnyH_ready (rs := [2]) (by kernel_rfl) (by simp) ?_
      refine AllReadyH.cons (o := ⟨some 60, .call { callee := .value (.func 20), args := #[.tmp 58, .tmp 59], argTypes := #[9, 44] }, _, _, _, none⟩) rfl (fun K hK => ?_) AllReadyH.nil
      refine step_ofR (by rfl) ?_
      go_simp
      refine (S2.out _ hHeld).mono ?_
      rintro x1 W1 ⟨rfl, hB1⟩
      refine hK.out _ _ (Bt hHeld hB1) (fun hHeld => ?_)
      clear hK K
      try simp only [Act.put, List.setIfInBounds_toArray, List.set_cons_zero, List.set_cons_succ]
      refine wpAnyH_take (i := 3) (oi := ⟨some 61, .binOp .neq 27 (.tmp 60) (.const (.int .i64 0)) 27, _, _, _, none⟩) (v := ?_) rfl (by kernel_rfl) (by kernel_rfl) (by kernel_rfl) (fun _ _ _ h => h) (Or.inl ⟨by rfl, ?_⟩) hHeld ?_
      rotate_left
      · intro W _; go_simp; try with_reducible rfl
      try simp only [Act.put, List.setIfInBounds_toArray, List.set_cons_zero, List.set_cons_succ]
      refine wpAnyH_take (i := 4) (oi := ⟨some 62, .move (.tmp 61), _, _, _, none⟩) (v := ?_) rfl (by kernel_rfl) (by kernel_rfl) (by kernel_rfl) (fun _ _ _ h => h) (Or.inl ⟨by rfl, ?_⟩) hHeld ?_
      rotate_left
      · intro W _; go_simp; try with_reducible rfl
      try simp only [Act.put, List.setIfInBounds_toArray, List.set_cons_zero, List.set_cons_succ]
      refine wpAnyH_take (i := 5) (oi := ⟨some 63, .move (.tmp 3), _, _, _, some (4, false)⟩) (v := undef) rfl (by kernel_rfl) (by kernel_rfl) (by kernel_rfl) (fun _ _ _ h => h) (Or.inr ⟨by rfl, rfl⟩) hHeld ?_
      try simp only [Act.put, List.setIfInBounds_toArray, List.set_cons_zero, List.set_cons_succ]
      refine wpAnyH_take (i := 6) (oi := ⟨some 64, .call { callee := .builtin .len, args := #[.tmp 63], argTypes := #[44] }, _, _, _, some (4, false)⟩) (v := undef) rfl (by kernel_rfl) (by kernel_rfl) (by kernel_rfl) (fun _ _ _ h => h) (Or.inr ⟨by rfl, rfl⟩) hHeld ?_
      try simp only [Act.put, List.setIfInBounds_toArray, List.set_cons_zero, List.set_cons_succ]
      refine wpAnyH_take (i := 7) (oi := ⟨some 65, .move (.tmp 2), _, _, _, some (4, false)⟩) (v := undef) rfl (by kernel_rfl) (by kernel_rfl) (by kernel_rfl) (fun _ _ _ h => h) (Or.inr ⟨by rfl, rfl⟩) hHeld ?_
      try simp only [Act.put, List.setIfInBounds_toArray, List.set_cons_zero, List.set_cons_succ]
      refine wpAnyH_take (i := 8) (oi := ⟨some 66, .call { callee := .builtin .len, args := #[.tmp 65], argTypes := #[44] }, _, _, _, some (4, false)⟩) (v := undef) rfl (by kernel_rfl) (by kernel_rfl) (by kernel_rfl) (fun _ _ _ h => h) (Or.inr ⟨by rfl, rfl⟩) hHeld ?_
      try simp only [Act.put, List.setIfInBounds_toArray, List.set_cons_zero, List.set_cons_succ]
      refine wpAnyH_take (i := 9) (oi := ⟨some 67, .binOp .neq 3 (.tmp 64) (.tmp 66) 3, _, _, _, some (4, false)⟩) (v := undef) rfl (by kernel_rfl) (by kernel_rfl) (by kernel_rfl) (fun _ _ _ h => h) (Or.inr ⟨by rfl, rfl⟩) hHeld ?_
      try simp only [Act.put, List.setIfInBounds_toArray, List.set_cons_zero, List.set_cons_succ]
      refine wpAnyH_take (i := 10) (oi := ⟨some 68, .pick (.tmp 62) (.const (.bool true)) (.tmp 67), _, _, _, none⟩) (v := ?_) rfl (by kernel_rfl) (by kernel_rfl) (by kernel_rfl) (fun _ _ _ h => h) (Or.inl ⟨by rfl, ?_⟩) hHeld ?_
      rotate_left
      · intro W _; go_simp; try with_reducible rfl
      try simp only [Act.put, List.setIfInBounds_toArray, List.set_cons_zero, List.set_cons_succ]
      refine wpAnyH_take (i := 11) (oi := ⟨some 69, .move (.tmp 68), _, _, _, none⟩) (v := ?_) rfl (by kernel_rfl) (by kernel_rfl) (by kernel_rfl) (fun _ _ _ h => h) (Or.inl ⟨by rfl, ?_⟩) hHeld ?_
      rotate_left
      · intro W _; go_simp; try with_reducible rfl
      try simp only [Act.put, List.setIfInBounds_toArray, List.set_cons_zero, List.set_cons_succ]
      refine wpAnyH_take (i := 12) (oi := ⟨some 70, .move (.tmp 2), _, _, _, some (11, false)⟩) (v := undef) rfl (by kernel_rfl) (by kernel_rfl) (by kernel_rfl) (fun _ _ _ h => h) (Or.inr ⟨by rfl, rfl⟩) hHeld ?_
      try simp only [Act.put, List.setIfInBounds_toArray, List.set_cons_zero, List.set_cons_succ]
      refine wpAnyH_take (i := 13) (oi := ⟨some 71, .call { callee := .builtin .len, args := #[.tmp 70], argTypes := #[44] }, _, _, _, some (11, false)⟩) (v := undef) rfl (by kernel_rfl) (by kernel_rfl) (by kernel_rfl) (fun _ _ _ h => h) (Or.inr ⟨by rfl, rfl⟩) hHeld ?_
      try simp only [Act.put, List.setIfInBounds_toArray, List.set_cons_zero, List.set_cons_succ]
      refine wpAnyH_take (i := 14) (oi := ⟨some 72, .binOp .eql 3 (.tmp 71) (.const (.int .i64 0)) 3, _, _, _, some (11, false)⟩) (v := undef) rfl (by kernel_rfl) (by kernel_rfl) (by kernel_rfl) (fun _ _ _ h => h) (Or.inr ⟨by rfl, rfl⟩) hHeld ?_
      try simp only [Act.put, List.setIfInBounds_toArray, List.set_cons_zero, List.set_cons_succ]
      refine wpAnyH_take (i := 15) (oi := ⟨some 73, .pick (.tmp 69) (.const (.bool true)) (.tmp 72), _, _, _, none⟩) (v := ?_) rfl (by kernel_rfl) (by kernel_rfl) (by kernel_rfl) (fun _ _ _ h => h) (Or.inl ⟨by rfl, ?_⟩) hHeld ?_
      rotate_left
      · intro W _; go_simp; try with_reducible rfl
      try simp only [Act.put, List.setIfInBounds_toArray, List.set_cons_zero, List.set_cons_succ]
      refine wpAnyH_take (i := 16) (oi := ⟨some 74, .move (.tmp 73), _, _, _, none⟩) (v := ?_) rfl (by kernel_rfl) (by kernel_rfl) (by kernel_rfl) (fun _ _ _ h => h) (Or.inl ⟨by rfl, ?_⟩) hHeld ?_
      rotate_left
      · intro W _; go_simp; try with_reducible rfl
      try simp only [Act.put, List.setIfInBounds_toArray, List.set_cons_zero, List.set_cons_succ]
      refine wpAnyH_take (i := 17) (oi := ⟨some 75, .move (.tmp 2), _, _, _, some (16, false)⟩) (v := undef) rfl (by kernel_rfl) (by kernel_rfl) (by kernel_rfl) (fun _ _ _ h => h) (Or.inr ⟨by rfl, rfl⟩) hHeld ?_
      try simp only [Act.put, List.setIfInBounds_toArray, List.set_cons_zero, List.set_cons_succ]
      refine wpAnyH_take (i := 18) (oi := ⟨some 76, .move (.tmp 2), _, _, _, some (16, false)⟩) (v := undef) rfl (by kernel_rfl) (by kernel_rfl) (by kernel_rfl) (fun _ _ _ h => h) (Or.inr ⟨by rfl, rfl⟩) hHeld ?_
      try simp only [Act.put, List.setIfInBounds_toArray, List.set_cons_zero, List.set_cons_succ]
      refine wpAnyH_take (i := 19) (oi := ⟨some 77, .call { callee := .builtin .len, args := #[.tmp 76], argTypes := #[44] }, _, _, _, some (16, false)⟩) (v := undef) rfl (by kernel_rfl) (by kernel_rfl) (by kernel_rfl) (fun _ _ _ h => h) (Or.inr ⟨by rfl, rfl⟩) hHeld ?_
      try simp only [Act.put, List.setIfInBounds_toArray, List.set_cons_zero, List.set_cons_succ]
      refine wpAnyH_take (i := 20) (oi := ⟨some 78, .binOp .sub 3 (.tmp 77) (.const (.int .i64 1)) 3, _, _, _, some (16, false)⟩) (v := undef) rfl (by kernel_rfl) (by kernel_rfl) (by kernel_rfl) (fun _ _ _ h => h) (Or.inr ⟨by rfl, rfl⟩) hHeld ?_
      try simp only [Act.put, List.setIfInBounds_toArray, List.set_cons_zero, List.set_cons_succ]
      refine wpAnyH_take (i := 21) (oi := ⟨some 79, .indexAddr 44 (.tmp 75) (.tmp 78), _, _, _, some (16, false)⟩) (v := undef) rfl (by kernel_rfl) (by kernel_rfl) (by kernel_rfl) (fun _ _ _ h => h) (Or.inr ⟨by rfl, rfl⟩) hHeld ?_
      try simp only [Act.put, List.setIfInBounds_toArray, List.set_cons_zero, List.set_cons_succ]
      refine wpAnyH_take (i := 22) (oi := ⟨some 80, .fieldAddr 36 (.tmp 79) 0, _, _, _, some (16, false)⟩) (v := undef) rfl (by kernel_rfl) (by kernel_rfl) (by kernel_rfl) (fun _ _ _ h => h) (Or.inr ⟨by rfl, rfl⟩) hHeld ?_
      try simp only [Act.put, List.setIfInBounds_toArray, List.set_cons_zero, List.set_cons_succ]
      refine wpAnyH_take (i := 23) (oi := ⟨some 81, .load 25 (.tmp 80), _, _, _, some (16, false)⟩) (v := undef) rfl (by kernel_rfl) (by kernel_rfl) (by kernel_rfl) (fun _ _ _ h => h) (Or.inr ⟨by rfl, rfl⟩) hHeld ?_
      try simp only [Act.put, List.setIfInBounds_toArray, List.set_cons_zero, List.set_cons_succ]
      refine wpAnyH_take (i := 24) (oi := ⟨some 82, .move (.tmp 3), _, _, _, some (16, false)⟩) (v := undef) rfl (by kernel_rfl) (by kernel_rfl) (by kernel_rfl) (fun _ _ _ h => h) (Or.inr ⟨by rfl, rfl⟩) hHeld ?_
      try simp only [Act.put, List.setIfInBounds_toArray, List.set_cons_zero, List.set_cons_succ]
      refine wpAnyH_take (i := 25) (oi := ⟨some 83, .move (.tmp 2), _, _, _, some (16, false)⟩) (v := undef) rfl (by kernel_rfl) (by kernel_rfl) (by kernel_rfl) (fun _ _ _ h => h) (Or.inr ⟨by rfl, rfl⟩) hHeld ?_
      try simp only [Act.put, List.setIfInBounds_toArray, List.set_cons_zero, List.set_cons_succ]
      refine wpAnyH_take (i := 26) (oi := ⟨some 84, .call { callee := .builtin .len, args := #[.tmp 83], argTypes := #[44] }, _, _, _, some (16, false)⟩) (v := undef) rfl (by kernel_rfl) (by kernel_rfl) (by kernel_rfl) (fun _ _ _ h => h) (Or.inr ⟨by rfl, rfl⟩) hHeld ?_
      try simp only [Act.put, List.setIfInBounds_toArray, List.set_cons_zero, List.set_cons_succ]
      refine wpAnyH_take (i := 27) (oi := ⟨some 85, .binOp .sub 3 (.tmp 84) (.const (.int .i64 1)) 3, _, _, _, some (16, false)⟩) (v := undef) rfl (by kernel_rfl) (by kernel_rfl) (by kernel_rfl) (fun _ _ _ h => h) (Or.inr ⟨by rfl, rfl⟩) hHeld ?_
      try simp only [Act.put, List.setIfInBounds_toArray, List.set_cons_zero, List.set_cons_succ]
      refine wpAnyH_take (i := 28) (oi := ⟨some 86, .indexAddr 44 (.tmp 82) (.tmp 85), _, _, _, some (16, false)⟩) (v := undef) rfl (by kernel_rfl) (by kernel_rfl) (by kernel_rfl) (fun _ _ _ h => h) (Or.inr ⟨by rfl, rfl⟩) hHeld ?_
      try simp only [Act.put, List.setIfInBounds_toArray, List.set_cons_zero, List.set_cons_succ]
      refine wpAnyH_take (i := 29) (oi := ⟨some 87, .fieldAddr 36 (.tmp 86) 0, _, _, _, some (16, false)⟩) (v := undef) rfl (by kernel_rfl) (by kernel_rfl) (by kernel_rfl) (fun _ _ _ h => h) (Or.inr ⟨by rfl, rfl⟩) hHeld ?_
      try simp only [Act.put, List.setIfInBounds_toArray, List.set_cons_zero, List.set_cons_succ]
      refine wpAnyH_take (i := 30) (oi := ⟨some 88, .load 25 (.tmp 87), _, _, _, some (16, false)⟩) (v := undef) rfl (by kernel_rfl) (by kernel_rfl) (by kernel_rfl) (fun _ _ _ h => h) (Or.inr ⟨by rfl, rfl⟩) hHeld ?_
      try simp only [Act.put, List.setIfInBounds_toArray, List.set_cons_zero, List.set_cons_succ]
      refine wpAnyH_take (i := 31) (oi := ⟨some 89, .binOp .neq 25 (.tmp 81) (.tmp 88) 25, _, _, _, some (16, false)⟩) (v := undef) rfl (by kernel_rfl) (by kernel_rfl) (by kernel_rfl) (fun _ _ _ h => h) (Or.inr ⟨by rfl, rfl⟩) hHeld ?_
      try simp only [Act.put, List.setIfInBounds_toArray, List.set_cons_zero, List.set_cons_succ]
      refine wpAnyH_take (i := 32) (oi := ⟨some 90, .pick (.tmp 74) (.const (.bool true)) (.tmp 89), _, _, _, none⟩) (v := ?_) rfl (by kernel_rfl) (by kernel_rfl) (by kernel_rfl) (fun _ _ _ h => h) (Or.inl ⟨by rfl, ?_⟩) hHeld ?_
      rotate_left
      · intro W _; go_simp; try with_reducible rfl
      try simp only [Act.put, List.setIfInBounds_toArray, List.set_cons_zero, List.set_cons_succ]
      refine wpAnyH_done (by kernel_rfl) ?_ _
      -- END bgA
      have HB3 := Lib.hid (Bt HB2.out hHeld)
      clear hHeld
      go_wp2_with fail
      refine (CH.out _ HB3.out).mono ?_
      rintro e z1 ⟨rfl, hBz1⟩
      have HBz1 := Lib.hid (Bt HB3.out hBz1)
      clear hBz1
      go_wp2_with fail
      refine (SG.out z1 HBz1.out).mono ?_
      rintro e z2 ⟨rfl, hBz2⟩
      have HBz2 := Lib.hid (Bt HBz1.out hBz2)
      clear hBz2
      go_wp2_with fail
      go_ret
      exact ⟨rfl, HBz2.out⟩
    have HQ2 := Lib.hid hq2
    rw [hq2] at S2
    clear hq2
    by_cases hnn : n2 = n
    rotate_left
    · have hz3 : ((n2 : Int) != (n : Int)) = true := by simp; omega
      -- REGION bgB 6
      refine wp_region_held_drew (S := fun W => Below wc.heap.size wc W) (by kernel_rfl) ((Below.refl _ wc).drew) (fun hHeld => ?_)
      refine wpAnyH_take (i := 0) (oi := ⟨some 58, .move (.tmp 1), _, _, _, none⟩) (v := ?_) rfl (by kernel_rfl) (by kernel_rfl) (by kernel_rfl) (fun _ _ _ h => h) (Or.inl ⟨by rfl, ?_⟩) hHeld ?_
      rotate_left
      · intro W _; go_simp; try with_reducible rfl
      try simp only [Act.put, List.setIfInBounds_toArray, List.set_cons_zero, List.set_cons_succ]
      refine wpAnyH_take (i := 1) (oi := ⟨some 59, .move (.tmp 3), _, _, _, none⟩) (v := ?_) rfl (by kernel_rfl) (by kernel_rfl) (by kernel_rfl) (fun _ _ _ h => h) (Or.inl ⟨by rfl, ?_⟩) hHeld ?_
      rotate_left
      · intro W _; go_simp; try with_reducible rfl
      try simp only [Act.put, List.setIfInBounds_toArray, List.set_cons_zero, List.set_cons_succ]
      refine wpAnyH_ready (rs := [2]) (by kernel_rfl) (by simp) ?_
      refine AllReadyH.cons (o := ⟨some 60, .call { callee := .value (.func 20), args := #[.tmp 58, .tmp 59], argTypes := #[9, 44] }, _, _, _, none⟩) rfl (fun K hK => ?_) AllReadyH.nil
      refine step_ofR (by rfl) ?_
      go_simp
      refine (S2.out _ hHeld).mono ?_
      rintro x1 W1 ⟨rfl, hB1⟩
      refine hK.out _ _ (Bt hHeld hB1) (fun hHeld => ?_)
      clear hK K
      try simp only [Act.put, List.setIfInBounds_toArray, List.set_cons_zero, List.set_cons_succ]
      refine wpAnyH_take (i := 3) (oi := ⟨some 61, .binOp .neq 27 (.tmp 60) (.const (.int .i64 0)) 27, _, _, _, none⟩) (v := ?_) rfl (by kernel_rfl) (by kernel_rfl) (by kernel_rfl) (fun _ _ _ h => h) (Or.inl ⟨by rfl, ?_⟩) hHeld ?_
      rotate_left
      · intro W _; go_simp; try with_reducible rfl
      try simp only [Act.put, List.setIfInBounds_toArray, List.set_cons_zero, List.set_cons_succ]
      refine wpAnyH_take (i := 4) (oi := ⟨some 62, .move (.tmp 61), _, _, _, none⟩) (v := ?_) rfl (by kernel_rfl) (by kernel_rfl) (by kernel_rfl) (fun _ _ _ h => h) (Or.inl ⟨by rfl, ?_⟩) hHeld ?_
      rotate_left
      · intro W _; go_simp; try with_reducible rfl
      try simp only [Act.put, List.setIfInBounds_toArray, List.set_cons_zero, List.set_cons_succ]
      refine wpAnyH_take (i := 5) (oi := ⟨some 63, .move (.tmp 3), _, _, _, some (4, false)⟩) (v := ?_) rfl (by kernel_rfl) (by kernel_rfl) (by kernel_rfl) (fun _ _ _ h => h) (Or.inl ⟨by rfl, ?_⟩) hHeld ?_
      rotate_left
      · intro W _; go_simp; try with_reducible rfl
      try simp only [Act.put, List.setIfInBounds_toArray, List.set_cons_zero, List.set_cons_succ]
      refine wpAnyH_take (i := 6) (oi := ⟨some 64, .call { callee := .builtin .len, args := #[.tmp 63], argTypes := #[44] }, _, _, _, some (4, false)⟩) (v := ?_) rfl (by kernel_rfl) (by kernel_rfl) (by kernel_rfl) (fun _ _ _ h => h) (Or.inl ⟨by rfl, ?_⟩) hHeld ?_
      rotate_left
      · intro W _; go_simp; try with_reducible rfl
      try simp only [Act.put, List.setIfInBounds_toArray, List.set_cons_zero, List.set_cons_succ]
      refine wpAnyH_take (i := 7) (oi := ⟨some 65, .move (.tmp 2), _, _, _, some (4, false)⟩) (v := ?_) rfl (by kernel_rfl) (by kernel_rfl) (by kernel_rfl) (fun _ _ _ h => h) (Or.inl ⟨by rfl, ?_⟩) hHeld ?_
      rotate_left
      · intro W _; go_simp; try with_reducible rfl
      try simp only [Act.put, List.setIfInBounds_toArray, List.set_cons_zero, List.set_cons_succ]
      refine wpAnyH_take (i := 8) (oi := ⟨some 66, .call { callee := .builtin .len, args := #[.tmp 65], argTypes := #[44] }, _, _, _, some (4, false)⟩) (v := ?_) rfl (by kernel_rfl) (by kernel_rfl) (by kernel_rfl) (fun _ _ _ h => h) (Or.inl ⟨by rfl, ?_⟩) hHeld ?_
      rotate_left
      · intro W _; go_simp; try with_reducible rfl
      try simp only [Act.put, List.setIfInBounds_toArray, List.set_cons_zero, List.set_cons_succ]
      refine wpAnyH_take (i := 9) (oi := ⟨some 67, .binOp .neq 3 (.tmp 64) (.tmp 66) 3, _, _, _, some (4, false)⟩) (v := ?_) rfl (by kernel_rfl) (by kernel_rfl) (by kernel_rfl) (fun _ _ _ h => h) (Or.inl ⟨by rfl, ?_⟩) hHeld ?_
      rotate_left
      · intro W _; go_simp; try with_reducible rfl
      try simp only [Act.put, List.setIfInBounds_toArray, List.set_cons_zero, List.set_cons_succ]
      refine wpAnyH_take (i := 10) (oi := ⟨some 68, .pick (.tmp 62) (.const (.bool true)) (.tmp 67), _, _, _, none⟩) (v := ?_) rfl (by kernel_rfl) (by kernel_rfl) (by kernel_rfl) (fun _ _ _ h => h) (Or.inl ⟨by rfl, ?_⟩) hHeld ?_
      rotate_left
      · intro W _; go_simp; try with_reducible rfl
      try simp only [Act.put, List.setIfInBounds_toArray, List.set_cons_zero, List.set_cons_succ]
      refine wpAnyH_take (i := 11) (oi := ⟨some 69, .move (.tmp 68), _, _, _, none⟩) (v := ?_) rfl (by kernel_rfl) (by kernel_rfl) (by kernel_rfl) (fun _ _ _ h => h) (Or.inl ⟨by rfl, ?_⟩) hHeld ?_
      rotate_left
      · intro W _; go_simp; try with_reducible rfl
      try simp only [Act.put, List.setIfInBounds_toArray, List.set_cons_zero, List.set_cons_succ]
      refine wpAnyH_take (i := 12) (oi := ⟨some 70, .move (.tmp 2), _, _, _, some (11, false)⟩) (v := undef) rfl (by kernel_rfl) (by kernel_rfl) (by kernel_rfl) (fun _ _ _ h => h) (Or.inr ⟨by rfl, rfl⟩) hHeld ?_
      try simp only [Act.put, List.setIfInBounds_toArray, List.set_cons_zero, List.set_cons_succ]
      refine wpAnyH_take (i := 13) (oi := ⟨some 71, .call { callee := .builtin .len, args := #[.tmp 70], argTypes := #[44] }, _, _, _, some (11, false)⟩) (v := undef) rfl (by kernel_rfl) (by kernel_rfl) (by kernel_rfl) (fun _ _ _ h => h) (Or.inr ⟨by rfl, rfl⟩) hHeld ?_
      try simp only [Act.put, List.setIfInBounds_toArray, List.set_cons_zero, List.set_cons_succ]
      refine wpAnyH_take (i := 14) (oi := ⟨some 72, .binOp .eql 3 (.tmp 71) (.const (.int .i64 0)) 3, _, _, _, some (11, false)⟩) (v := undef) rfl (by kernel_rfl) (by kernel_rfl) (by kernel_rfl) (fun _ _ _ h => h) (Or.inr ⟨by rfl, rfl⟩) hHeld ?_
      try simp only [Act.put, List.setIfInBounds_toArray, List.set_cons_zero, List.set_cons_succ]
      refine wpAnyH_take (i := 15) (oi := ⟨some 73, .pick (.tmp 69) (.const (.bool true)) (.tmp 72), _, _, _, none⟩) (v := ?_) rfl (by kernel_rfl) (by kernel_rfl) (by kernel_rfl) (fun _ _ _ h => h) (Or.inl ⟨by rfl, ?_⟩) hHeld ?_
      rotate_left
      · intro W _; go_simp; try with_reducible rfl
      try simp only [Act.put, List.setIfInBounds_toArray, List.set_cons_zero, List.set_cons_succ]
      refine wpAnyH_take (i := 16) (oi := ⟨some 74, .move (.tmp 73), _, _, _, none⟩) (v := ?_) rfl (by kernel_rfl) (by kernel_rfl) (by kernel_rfl) (fun _ _ _ h => h) (Or.inl ⟨by rfl, ?_⟩) hHeld ?_
      rotate_left
      · intro W _; go_simp; try with_reducible rfl
      try simp only [Act.put, List.setIfInBounds_toArray, List.set_cons_zero, List.set_cons_succ]
      refine wpAnyH_take (i := 17) (oi := ⟨some 75, .move (.tmp 2), _, _, _, some (16, false)⟩) (v := undef) rfl (by kernel_rfl) (by kernel_rfl) (by kernel_rfl) (fun _ _ _ h => h) (Or.inr ⟨by rfl, rfl⟩) hHeld ?_
      try simp only [Act.put, List.setIfInBounds_toArray, List.set_cons_zero, List.set_cons_succ]
      refine wpAnyH_take (i := 18) (oi := ⟨some 76, .move (.tmp 2), _, _, _, some (16, false)⟩) (v := undef) rfl (by kernel_rfl) (by kernel_rfl) (by kernel_rfl) (fun _ _ _ h => h) (Or.inr ⟨by rfl, rfl⟩) hHeld ?_
      try simp only [Act.put, List.setIfInBounds_toArray, List.set_cons_zero, List.set_cons_succ]
      refine wpAnyH_take (i := 19) (oi := ⟨some 77, .call { callee := .builtin .len, args := #[.tmp 76], argTypes := #[44] }, _, _, _, some (16, false)⟩) (v := undef) rfl (by kernel_rfl) (by kernel_rfl) (by kernel_rfl) (fun _ _ _ h => h) (Or.inr ⟨by rfl, rfl⟩) hHeld ?_
      try simp only [Act.put, List.setIfInBounds_toArray, List.set_cons_zero, List.set_cons_succ]
      refine wpAnyH_take (i := 20) (oi := ⟨some 78, .binOp .sub 3 (.tmp 77) (.const (.int .i64 1)) 3, _, _, _, some (16, false)⟩) (v := undef) rfl (by kernel_rfl) (by kernel_rfl) (by kernel_rfl) (fun _ _ _ h => h) (Or.inr ⟨by rfl, rfl⟩) hHeld ?_
      try simp only [Act.put, List.setIfInBounds_toArray, List.set_cons_zero, List.set_cons_succ]
      refine wpAnyH_take (i := 21) (oi := ⟨some 79, .indexAddr 44 (.tmp 75) (.tmp 78), _, _, _, some (16, false)⟩) (v := undef) rfl (by kernel_rfl) (by kernel_rfl) (by kernel_rfl) (fun _ _ _ h => h) (Or.inr ⟨by rfl, rfl⟩) hHeld ?_
      try simp only [Act.put, List.setIfInBounds_toArray, List.set_cons_zero, List.set_cons_succ]
      refine wpAnyH_take (i := 22) (oi := ⟨some 80, .fieldAddr 36 (.tmp 79) 0, _, _, _, some (16, false)⟩) (v := undef) rfl (by kernel_rfl) (by kernel_rfl) (by kernel_rfl) (fun _ _ _ h => h) (Or.inr ⟨by rfl, rfl⟩) hHeld ?_
      try simp only [Act.put, List.setIfInBounds_toArray, List.set_cons_zero, List.set_cons_succ]
      refine wpAnyH_take (i := 23) (oi := ⟨some 81, .load 25 (.tmp 80), _, _, _, some (16, false)⟩) (v := undef) rfl (by kernel_rfl) (by kernel_rfl) (by kernel_rfl) (fun _ _ _ h => h) (Or.inr ⟨by rfl, rfl⟩) hHeld ?_
      try simp only [Act.put, List.setIfInBounds_toArray, List.set_cons_zero, List.set_cons_succ]
      refine wpAnyH_take (i := 24) (oi := ⟨some 82, .move (.tmp 3), _, _, _, some (16, false)⟩) (v := undef) rfl (by kernel_rfl) (by kernel_rfl) (by kernel_rfl) (fun _ _ _ h => h) (Or.inr ⟨by rfl, rfl⟩) hHeld ?_
      try simp only [Act.put, List.setIfInBounds_toArray, List.set_cons_zero, List.set_cons_succ]
      refine wpAnyH_take (i := 25) (oi := ⟨some 83, .move (.tmp 2), _, _, _, some (16, false)⟩) (v := undef) rfl (by kernel_rfl) (by kernel_rfl) (by kernel_rfl) (fun _ _ _ h => h) (Or.inr ⟨by rfl, rfl⟩) hHeld ?_
      try simp only [Act.put, List.setIfInBounds_toArray, List.set_cons_zero, List.set_cons_succ]
      refine wpAnyH_take (i := 26) (oi := ⟨some 84, .call { callee := .builtin .len, args := #[.tmp 83], argTypes := #[44] }, _, _, _, some (16, false)⟩) (v := undef) rfl (by kernel_rfl) (by kernel_rfl) (by kernel_rfl) (fun _ _ _ h => h) (Or.inr ⟨by rfl, rfl⟩) hHeld ?_
      try simp only [Act.put, List.setIfInBounds_toArray, List.set_cons_zero, List.set_cons_succ]
      refine wpAnyH_take (i := 27) (oi := ⟨some 85, .binOp .sub 3 (.tmp 84) (.const (.int .i64 1)) 3, _, _, _, some (16, false)⟩) (v := undef) rfl (by kernel_rfl) (by kernel_rfl) (by kernel_rfl) (fun _ _ _ h => h) (Or.inr ⟨by rfl, rfl⟩) hHeld ?_
      try simp only [Act.put, List.setIfInBounds_toArray, List.set_cons_zero, List.set_cons_succ]
      refine wpAnyH_take (i := 28) (oi := ⟨some 86, .indexAddr 44 (.tmp 82) (.tmp 85), _, _, _, some (16, false)⟩) (v := undef) rfl (by kernel_rfl) (by kernel_rfl) (by kernel_rfl) (fun _ _ _ h => h) (Or.inr ⟨by rfl, rfl⟩) hHeld ?_
      try simp only [Act.put, List.setIfInBounds_toArray, List.set_cons_zero, List.set_cons_succ]
      refine wpAnyH_take (i := 29) (oi := ⟨some 87, .fieldAddr 36 (.tmp 86) 0, _, _, _, some (16, false)⟩) (v := undef) rfl (by kernel_rfl) (by kernel_rfl) (by kernel_rfl) (fun _ _ _ h => h) (Or.inr ⟨by rfl, rfl⟩) hHeld ?_
      try simp only [Act.put, List.setIfInBounds_toArray, List.set_cons_zero, List.set_cons_succ]
      refine wpAnyH_take (i := 30) (oi := ⟨some 88, .load 25 (.tmp 87), _, _, _, some (16, false)⟩) (v := undef) rfl (by kernel_rfl) (by kernel_rfl) (by kernel_rfl) (fun _ _ _ h => h) (Or.inr ⟨by rfl, rfl⟩) hHeld ?_
      try simp only [Act.put, List.setIfInBounds_toArray, List.set_cons_zero, List.set_cons_succ]
      refine wpAnyH_take (i := 31) (oi := ⟨some 89, .binOp .neq 25 (.tmp 81) (.tmp 88) 25, _, _, _, some (16, false)⟩) (v := undef) rfl (by kernel_rfl) (by kernel_rfl) (by kernel_rfl) (fun _ _ _ h => h) (Or.inr ⟨by rfl, rfl⟩) hHeld ?_
      try simp only [Act.put, List.setIfInBounds_toArray, List.set_cons_zero, List.set_cons_succ]
      refine wpAnyH_take (i := 32) (oi := ⟨some 90, .pick (.tmp 74) (.const (.bool true)) (.tmp 89), _, _, _, none⟩) (v := ?_) rfl (by kernel_rfl) (by kernel_rfl) (by kernel_rfl) (fun _ _ _ h => h) (Or.inl ⟨by rfl, ?_⟩) hHeld ?_
      rotate_left
      · intro W _; go_simp; try with_reducible rfl
      try simp only [Act.put, List.setIfInBounds_toArray, List.set_cons_zero, List.set_cons_succ]
      refine wpAnyH_done (by kernel_rfl) ?_ _
      -- END bgB
      have HB3 := Lib.hid (Bt HB2.out hHeld)
      clear hHeld
      go_wp2_with fail
      refine (CH.out _ HB3.out).mono ?_
      rintro e z1 ⟨rfl, hBz1⟩
      have HBz1 := Lib.hid (Bt HB3.out hBz1)
      clear hBz1
      go_wp2_with fail
      refine (SG.out z1 HBz1.out).mono ?_
      rintro e z2 ⟨rfl, hBz2⟩
      have HBz2 := Lib.hid (Bt HBz1.out hBz2)
      clear hBz2
      go_wp2_with fail
      go_ret
      exact ⟨rfl, HBz2.out⟩
    subst hnn
    have hz3 : ((n2 : Int) != (n2 : Int)) = false := by simp
    cases n2 with
    | zero =>
      -- REGION bgC 6
      refine wp_region_held_drew (S := fun W => Below wc.heap.size wc W) (by kernel_rfl) ((Below.refl _ wc).drew) (fun hHeld => ?_)
      refine wpAnyH_take (i := 0) (oi := ⟨some 58, .move (.tmp 1), _, _, _, none⟩) (v := ?_) rfl (by kernel_rfl) (by kernel_rfl) (by kernel_rfl) (fun _ _ _ h => h) (Or.inl ⟨by rfl, ?_⟩) hHeld ?_
      rotate_left
      · intro W _; go_simp; try with_reducible rfl
      try simp only [Act.put, List.setIfInBounds_toArray, List.set_cons_zero, List.set_cons_succ]
      refine wpAnyH_take (i := 1) (oi := ⟨some 59, .move (.tmp 3), _, _, _, none⟩) (v := ?_) rfl (by kernel_rfl) (by kernel_rfl) (by kernel_rfl) (fun _ _ _ h => h) (Or.inl ⟨by rfl, ?_⟩) hHeld ?_
      rotate_left
      · intro W _; go_simp; try with_reducible rfl
      try simp only [Act.put, List.setIfInBounds_toArray, List.set_cons_zero, List.set_cons_succ]
      refine wpAnyH_ready (rs := [2]) (by kernel_rfl) (by simp) ?_
      refine AllReadyH.cons (o := ⟨some 60, .call { callee := .value (.func 20), args := #[.tmp 58, .tmp 59], argTypes := #[9, 44] }, _, _, _, none⟩) rfl (fun K hK => ?_) AllReadyH.nil
      refine step_ofR (by rfl) ?_
      go_simp
      refine (S2.out _ hHeld).mono ?_
      rintro x1 W1 ⟨rfl, hB1⟩
      refine hK.out _ _ (Bt hHeld hB1) (fun hHeld => ?_)
      clear hK K
      try simp only [Act.put, List.setIfInBounds_toArray, List.set_cons_zero, List.set_cons_succ]
      refine wpAnyH_take (i := 3) (oi := ⟨some 61, .binOp .neq 27 (.tmp 60) (.const (.int .i64 0)) 27, _, _, _, none⟩) (v := ?_) rfl (by kernel_rfl) (by kernel_rfl) (by kernel_rfl) (fun _ _ _ h => h) (Or.inl ⟨by rfl, ?_⟩) hHeld ?_
      rotate_left
      · intro W _; go_simp; try with_reducible rfl
      try simp only [Act.put, List.setIfInBounds_toArray, List.set_cons_zero, List.set_cons_succ]
      refine wpAnyH_take (i := 4) (oi := ⟨some 62, .move (.tmp 61), _, _, _, none⟩) (v := ?_) rfl (by kernel_rfl) (by kernel_rfl) (by kernel_rfl) (fun _ _ _ h => h) (Or.inl ⟨by rfl, ?_⟩) hHeld ?_
      rotate_left
      · intro W _; go_simp; try with_reducible rfl
      try simp only [Act.put, List.setIfInBounds_toArray, List.set_cons_zero, List.set_cons_succ]
      refine wpAnyH_take (i := 5) (oi := ⟨some 63, .move (.tmp 3), _, _, _, some (4, false)⟩) (v := ?_) rfl (by kernel_rfl) (by kernel_rfl) (by kernel_rfl) (fun _ _ _ h => h) (Or.inl ⟨by rfl, ?_⟩) hHeld ?_
      rotate_left
      · intro W _; go_simp; try with_reducible rfl
      try simp only [Act.put, List.setIfInBounds_toArray, List.set_cons_zero, List.set_cons_succ]
      refine wpAnyH_take (i := 6) (oi := ⟨some 64, .call { callee := .builtin .len, args := #[.tmp 63], argTypes := #[44] }, _, _, _, some (4, false)⟩) (v := ?_) rfl (by kernel_rfl) (by kernel_rfl) (by kernel_rfl) (fun _ _ _ h => h) (Or.inl ⟨by rfl, ?_⟩) hHeld ?_
      rotate_left
      · intro W _; go_simp; try with_reducible rfl
      try simp only [Act.put, List.setIfInBounds_toArray, List.set_cons_zero, List.set_cons_succ]
      refine wpAnyH_take (i := 7) (oi := ⟨some 65, .move (.tmp 2), _, _, _, some (4, false)⟩) (v := ?_) rfl (by kernel_rfl) (by kernel_rfl) (by kernel_rfl) (fun _ _ _ h => h) (Or.inl ⟨by rfl, ?_⟩) hHeld ?_
      rotate_left
      · intro W _; go_simp; try with_reducible rfl
      try simp only [Act.put, List.setIfInBounds_toArray, List.set_cons_zero, List.set_cons_succ]
      refine wpAnyH_take (i := 8) (oi := ⟨some 66, .call { callee := .builtin .len, args := #[.tmp 65], argTypes := #[44] }, _, _, _, some (4, false)⟩) (v := ?_) rfl (by kernel_rfl) (by kernel_rfl) (by kernel_rfl) (fun _ _ _ h => h) (Or.inl ⟨by rfl, ?_⟩) hHeld ?_
      rotate_left
      · intro W _; go_simp; try with_reducible rfl
      try simp only [Act.put, List.setIfInBounds_toArray, List.set_cons_zero, List.set_cons_succ]
      refine wpAnyH_take (i := 9) (oi := ⟨some 67, .binOp .neq 3 (.tmp 64) (.tmp 66) 3, _, _, _, some (4, false)⟩) (v := ?_) rfl (by kernel_rfl) (by kernel_rfl) (by kernel_rfl) (fun _ _ _ h => h) (Or.inl ⟨by rfl, ?_⟩) hHeld ?_
      rotate_left
      · intro W _; go_simp; try with_reducible rfl
      try simp only [Act.put, List.setIfInBounds_toArray, List.set_cons_zero, List.set_cons_succ]
      refine wpAnyH_take (i := 10) (oi := ⟨some 68, .pick (.tmp 62) (.const (.bool true)) (.tmp 67), _, _, _, none⟩) (v := ?_) rfl (by kernel_rfl) (by kernel_rfl) (by kernel_rfl) (fun _ _ _ h => h) (Or.inl ⟨by rfl, ?_⟩) hHeld ?_
      rotate_left
      · intro W _; go_simp; try with_reducible rfl
      try simp only [Act.put, List.setIfInBounds_toArray, List.set_cons_zero, List.set_cons_succ]
      refine wpAnyH_take (i := 11) (oi := ⟨some 69, .move (.tmp 68), _, _, _, none⟩) (v := ?_) rfl (by kernel_rfl) (by kernel_rfl) (by kernel_rfl) (fun _ _ _ h => h) (Or.inl ⟨by rfl, ?_⟩) hHeld ?_
      rotate_left
      · intro W _; go_simp; try with_reducible rfl
      try simp only [Act.put, List.setIfInBounds_toArray, List.set_cons_zero, List.set_cons_succ]
      refine wpAnyH_take (i := 12) (oi := ⟨some 70, .move (.tmp 2), _, _, _, some (11, false)⟩) (v := ?_) rfl (by kernel_rfl) (by kernel_rfl) (by kernel_rfl) (fun _ _ _ h => h) (Or.inl ⟨by rfl, ?_⟩) hHeld ?_
      rotate_left
      · intro W _; go_simp; try with_reducible rfl
      try simp only [Act.put, List.setIfInBounds_toArray, List.set_cons_zero, List.set_cons_succ]
      refine wpAnyH_take (i := 13) (oi := ⟨some 71, .call { callee := .builtin .len, args := #[.tmp 70], argTypes := #[44] }, _, _, _, some (11, false)⟩) (v := ?_) rfl (by kernel_rfl) (by kernel_rfl) (by kernel_rfl) (fun _ _ _ h => h) (Or.inl ⟨by rfl, ?_⟩) hHeld ?_
      rotate_left
      · intro W _; go_simp; try with_reducible rfl
      try simp only [Act.put, List.setIfInBounds_toArray, List.set_cons_zero, List.set_cons_succ]
      refine wpAnyH_take (i := 14) (oi := ⟨some 72, .binOp .eql 3 (.tmp 71) (.const (.int .i64 0)) 3, _, _, _, some (11, false)⟩) (v := ?_) rfl (by kernel_rfl) (by kernel_rfl) (by kernel_rfl) (fun _ _ _ h => h) (Or.inl ⟨by rfl, ?_⟩) hHeld ?_
      rotate_left
      · intro W _; go_simp; try with_reducible rfl
      try simp only [Act.put, List.setIfInBounds_toArray, List.set_cons_zero, List.set_cons_succ]
      refine wpAnyH_take (i := 15) (oi := ⟨some 73, .pick (.tmp 69) (.const (.bool true)) (.tmp 72), _, _, _, none⟩) (v := ?_) rfl (by kernel_rfl) (by kernel_rfl) (by kernel_rfl) (fun _ _ _ h => h) (Or.inl ⟨by rfl, ?_⟩) hHeld ?_
      rotate_left
      · intro W _; go_simp; try with_reducible rfl
      try simp only [Act.put, List.setIfInBounds_toArray, List.set_cons_zero, List.set_cons_succ]
      refine wpAnyH_take (i := 16) (oi := ⟨some 74, .move (.tmp 73), _, _, _, none⟩) (v := ?_) rfl (by kernel_rfl) (by kernel_rfl) (by kernel_rfl) (fun _ _ _ h => h) (Or.inl ⟨by rfl, ?_⟩) hHeld ?_
      rotate_left
      · intro W _; go_simp; try with_reducible rfl
      try simp only [Act.put, List.setIfInBounds_toArray, List.set_cons_zero, List.set_cons_succ]
      refine wpAnyH_take (i := 17) (oi := ⟨some 75, .move (.tmp 2), _, _, _, some (16, false)⟩) (v := undef) rfl (by kernel_rfl) (by kernel_rfl) (by kernel_rfl) (fun _ _ _ h => h) (Or.inr ⟨by rfl, rfl⟩) hHeld ?_
      try simp only [Act.put, List.setIfInBounds_toArray, List.set_cons_zero, List.set_cons_succ]
      refine wpAnyH_take (i := 18) (oi := ⟨some 76, .move (.tmp 2), _, _, _, some (16, false)⟩) (v := undef) rfl (by kernel_rfl) (by kernel_rfl) (by kernel_rfl) (fun _ _ _ h => h) (Or.inr ⟨by rfl, rfl⟩) hHeld ?_
      try simp only [Act.put, List.setIfInBounds_toArray, List.set_cons_zero, List.set_cons_succ]
      refine wpAnyH_take (i := 19) (oi := ⟨some 77, .call { callee := .builtin .len, args := #[.tmp 76], argTypes := #[44] }, _, _, _, some (16, false)⟩) (v := undef) rfl (by kernel_rfl) (by kernel_rfl) (by kernel_rfl) (fun _ _ _ h => h) (Or.inr ⟨by rfl, rfl⟩) hHeld ?_
      try simp only [Act.put, List.setIfInBounds_toArray, List.set_cons_zero, List.set_cons_succ]
      refine wpAnyH_take (i := 20) (oi := ⟨some 78, .binOp .sub 3 (.tmp 77) (.const (.int .i64 1)) 3, _, _, _, some (16, false)⟩) (v := undef) rfl (by kernel_rfl) (by kernel_rfl) (by kernel_rfl) (fun _ _ _ h => h) (Or.inr ⟨by rfl, rfl⟩) hHeld ?_
      try simp only [Act.put, List.setIfInBounds_toArray, List.set_cons_zero, List.set_cons_succ]
      refine wpAnyH_take (i := 21) (oi := ⟨some 79, .indexAddr 44 (.tmp 75) (.tmp 78), _, _, _, some (16, false)⟩) (v := undef) rfl (by kernel_rfl) (by kernel_rfl) (by kernel_rfl) (fun _ _ _ h => h) (Or.inr ⟨by rfl, rfl⟩) hHeld ?_
      try simp only [Act.put, List.setIfInBounds_toArray, List.set_cons_zero, List.set_cons_succ]
      refine wpAnyH_take (i := 22) (oi := ⟨some 80, .fieldAddr 36 (.tmp 79) 0, _, _, _, some (16, false)⟩) (v := undef) rfl (by kernel_rfl) (by kernel_rfl) (by kernel_rfl) (fun _ _ _ h => h) (Or.inr ⟨by rfl, rfl⟩) hHeld ?_
      try simp only [Act.put, List.setIfInBounds_toArray, List.set_cons_zero, List.set_cons_succ]
      refine wpAnyH_take (i := 23) (oi := ⟨some 81, .load 25 (.tmp 80), _, _, _, some (16, false)⟩) (v := undef) rfl (by kernel_rfl) (by kernel_rfl) (by kernel_rfl) (fun _ _ _ h => h) (Or.inr ⟨by rfl, rfl⟩) hHeld ?_
      try simp only [Act.put, List.setIfInBounds_toArray, List.set_cons_zero, List.set_cons_succ]
      refine wpAnyH_take (i := 24) (oi := ⟨some 82, .move (.tmp 3), _, _, _, some (16, false)⟩) (v := undef) rfl (by kernel_rfl) (by kernel_rfl) (by kernel_rfl) (fun _ _ _ h => h) (Or.inr ⟨by rfl, rfl⟩) hHeld ?_
      try simp only [Act.put, List.setIfInBounds_toArray, List.set_cons_zero, List.set_cons_succ]
      refine wpAnyH_take (i := 25) (oi := ⟨some 83, .move (.tmp 2), _, _, _, some (16, false)⟩) (v := undef) rfl (by kernel_rfl) (by kernel_rfl) (by kernel_rfl) (fun _ _ _ h => h) (Or.inr ⟨by rfl, rfl⟩) hHeld ?_
      try simp only [Act.put, List.setIfInBounds_toArray, List.set_cons_zero, List.set_cons_succ]
      refine wpAnyH_take (i := 26) (oi := ⟨some 84, .call { callee := .builtin .len, args := #[.tmp 83], argTypes := #[44] }, _, _, _, some (16, false)⟩) (v := undef) rfl (by kernel_rfl) (by kernel_rfl) (by kernel_rfl) (fun _ _ _ h => h) (Or.inr ⟨by rfl, rfl⟩) hHeld ?_
      try simp only [Act.put, List.setIfInBounds_toArray, List.set_cons_zero, List.set_cons_succ]
      refine wpAnyH_take (i := 27) (oi := ⟨some 85, .binOp .sub 3 (.tmp 84) (.const (.int .i64 1)) 3, _, _, _, some (16, false)⟩) (v := undef) rfl (by kernel_rfl) (by kernel_rfl) (by kernel_rfl) (fun _ _ _ h => h) (Or.inr ⟨by rfl, rfl⟩) hHeld ?_
      try simp only [Act.put, List.setIfInBounds_toArray, List.set_cons_zero, List.set_cons_succ]
      refine wpAnyH_take (i := 28) (oi := ⟨some 86, .indexAddr 44 (.tmp 82) (.tmp 85), _, _, _, some (16, false)⟩) (v := undef) rfl (by kernel_rfl) (by kernel_rfl) (by kernel_rfl) (fun _ _ _ h => h) (Or.inr ⟨by rfl, rfl⟩) hHeld ?_
      try simp only [Act.put, List.setIfInBounds_toArray, List.set_cons_zero, List.set_cons_succ]
      refine wpAnyH_take (i := 29) (oi := ⟨some 87, .fieldAddr 36 (.tmp 86) 0, _, _, _, some (16, false)⟩) (v := undef) rfl (by kernel_rfl) (by kernel_rfl) (by kernel_rfl) (fun _ _ _ h => h) (Or.inr ⟨by rfl, rfl⟩) hHeld ?_
      try simp only [Act.put, List.setIfInBounds_toArray, List.set_cons_zero, List.set_cons_succ]
      refine wpAnyH_take (i := 30) (oi := ⟨some 88, .load 25 (.tmp 87), _, _, _, some (16, false)⟩) (v := undef) rfl (by kernel_rfl) (by kernel_rfl) (by kernel_rfl) (fun _ _ _ h => h) (Or.inr ⟨by rfl, rfl⟩) hHeld ?_
      try simp only [Act.put, List.setIfInBounds_toArray, List.set_cons_zero, List.set_cons_succ]
      refine wpAnyH_take (i := 31) (oi := ⟨some 89, .binOp .neq 25 (.tmp 81) (.tmp 88) 25, _, _, _, some (16, false)⟩) (v := undef) rfl (by kernel_rfl) (by kernel_rfl) (by kernel_rfl) (fun _ _ _ h => h) (Or.inr ⟨by rfl, rfl⟩) hHeld ?_
      try simp only [Act.put, List.setIfInBounds_toArray, List.set_cons_zero, List.set_cons_succ]
      refine wpAnyH_take (i := 32) (oi := ⟨some 90, .pick (.tmp 74) (.const (.bool true)) (.tmp 89), _, _, _, none⟩) (v := ?_) rfl (by kernel_rfl) (by kernel_rfl) (by kernel_rfl) (fun _ _ _ h => h) (Or.inl ⟨by rfl, ?_⟩) hHeld ?_
      rotate_left
      · intro W _; go_simp; try with_reducible rfl
      try simp only [Act.put, List.setIfInBounds_toArray, List.set_cons_zero, List.set_cons_succ]
      refine wpAnyH_done (by kernel_rfl) ?_ _
      -- END bgC
      have HB3 := Lib.hid (Bt HB2.out hHeld)
      clear hHeld
      go_wp2_with fail
      refine (CH.out _ HB3.out).mono ?_
      rintro e z1 ⟨rfl, hBz1⟩
      have HBz1 := Lib.hid (Bt HB3.out hBz1)
      clear hBz1
      go_wp2_with fail
      refine (SG.out z1 HBz1.out).mono ?_
      rintro e z2 ⟨rfl, hBz2⟩
      have HBz2 := Lib.hid (Bt HBz1.out hBz2)
      clear hBz2
      go_wp2_with fail
      go_ret
      exact ⟨rfl, HBz2.out⟩
    | succ q =>
      obtain ⟨b, off, hae, hbl, hel⟩ := (HR1.out wc HB2.out).elems (by omega)
      obtain ⟨b2, off2, hae2, hbl2, hel2⟩ := (HR2.out wc HB2.out).elems (by omega)
      subst hae hae2
      have HE1 : Hid (∀ i, i < q + 1 → ∀ W, Below wc.heap.size wc W → W.rangeAt b (off + i * 97) (sgc (l.getD i sgz)) ∧ (l.getD i sgz).ok) := Lib.hid (fun i hi W h => ⟨fun j v hv => cell_later h (hel i hi j v hv), HO1.out.at (by rw [HL1.out]; exact hi)⟩)
      have HE2 : Hid (∀ i, i < q + 1 → ∀ W, Below wc.heap.size wc W → W.rangeAt b2 (off2 + i * 97) (sgc (m.getD i sgz)) ∧ (m.getD i sgz).ok) := Lib.hid (fun i hi W h => ⟨fun j v hv => cell_later h (hel2 i hi j v hv), HO2.out.at (by rw [HL2.out]; exact hi)⟩)
      have hqq : q < q + 1 := Nat.lt_succ_self q
      have hw1 : IntKind.i64.wrap (q : Int) = (q : Int) := IntWalk.i64_in _ (by have := HN.out; omega)
      have hqi : (q : Int) < (q : Int) + 1 := by omega
      have hqz : (((q + 1 : Nat) : Int) == 0) = false := by simp; omega
      have hqz2 : ((q : Int) + 1 == 0) = false := by simp; omega
      have HK1 := Lib.hid (HE1.out q hqq wc (Below.refl _ _)).2
      have HK2 := Lib.hid (HE2.out q hqq wc (Below.refl _ _)).2
      have IH1 : Hid ((Tryd.prog.info? 25).map (·.size) = some (hdc (l.getD q sgz).hd).length) := Lib.hid (by rw [hdc_length HK1.out.1]; exact info_head0)
      have IH2 : Hid ((Tryd.prog.info? 25).map (·.size) = some (hdc (m.getD q sgz).hd).length) := Lib.hid (by rw [hdc_length HK2.out.1]; exact info_head0)
      have HEQ := Lib.hid (fun W : World => neq_head W (l.getD q sgz).hd (m.getD q sgz).hd HK1.out.1 HK2.out.1)
      clear hel hel2
      cases he : eqHd (l.getD q sgz).hd (m.getD q sgz).hd with
      | false =>
        rw [he] at HEQ
        clear he
        -- REGION bgD 8
        refine wp_region_held_drew (S := fun W => Below wc.heap.size wc W) (by kernel_rfl) ((Below.refl _ wc).drew) (fun hHeld => ?_)
        refine wpAnyH_take (i := 0) (oi := ⟨some 58, .move (.tmp 1), _, _, _, none⟩) (v := ?_) rfl (by kernel_rfl) (by kernel_rfl) (by kernel_rfl) (fun _ _ _ h => h) (Or.inl ⟨by rfl, ?_⟩) hHeld ?_
        rotate_left
        · intro W _; go_simp; try with_reducible rfl
        try simp only [Act.put, List.setIfInBounds_toArray, List.set_cons_zero, List.set_cons_succ]
        refine wpAnyH_take (i := 1) (oi := ⟨some 59, .move (.tmp 3), _, _, _, none⟩) (v := ?_) rfl (by kernel_rfl) (by kernel_rfl) (by kernel_rfl) (fun _ _ _ h => h) (Or.inl ⟨by rfl, ?_⟩) hHeld ?_
        rotate_left
        · intro W _; go_simp; try with_reducible rfl
        try simp only [Act.put, List.setIfInBounds_toArray, List.set_cons_zero, List.set_cons_succ]
        refine wpAnyH_ready (rs := [2]) (by kernel_rfl) (by simp) ?_
        refine AllReadyH.cons (o := ⟨some 60, .call { callee := .value (.func 20), args := #[.tmp 58, .tmp 59], argTypes := #[9, 44] }, _, _, _, none⟩) rfl (fun K hK => ?_) AllReadyH.nil
        refine step_ofR (by rfl) ?_
        go_simp
        refine (S2.out _ hHeld).mono ?_
        rintro x1 W1 ⟨rfl, hB1⟩
        refine hK.out _ _ (Bt hHeld hB1) (fun hHeld => ?_)
        clear hK K
        try simp only [Act.put, List.setIfInBounds_toArray, List.set_cons_zero, List.set_cons_succ]
        refine wpAnyH_take (i := 3) (oi := ⟨some 61, .binOp .neq 27 (.tmp 60) (.const (.int .i64 0)) 27, _, _, _, none⟩) (v := ?_) rfl (by kernel_rfl) (by kernel_rfl) (by kernel_rfl) (fun _ _ _ h => h) (Or.inl ⟨by rfl, ?_⟩) hHeld ?_
        rotate_left
        · intro W _; go_simp; try with_reducible rfl
        try simp only [Act.put, List.setIfInBounds_toArray, List.set_cons_zero, List.set_cons_succ]
        refine wpAnyH_take (i := 4) (oi := ⟨some 62, .move (.tmp 61), _, _, _, none⟩) (v := ?_) rfl (by kernel_rfl) (by kernel_rfl) (by kernel_rfl) (fun _ _ _ h => h) (Or.inl ⟨by rfl, ?_⟩) hHeld ?_
        rotate_left
        · intro W _; go_simp; try with_reducible rfl
        try simp only [Act.put, List.setIfInBounds_toArray, List.set_cons_zero, List.set_cons_succ]
        refine wpAnyH_take (i := 5) (oi := ⟨some 63, .move (.tmp 3), _, _, _, some (4, false)⟩) (v := ?_) rfl (by kernel_rfl) (by kernel_rfl) (by kernel_rfl) (fun _ _ _ h => h) (Or.inl ⟨by rfl, ?_⟩) hHeld ?_
        rotate_left
        · intro W _; go_simp; try with_reducible rfl
        try simp only [Act.put, List.setIfInBounds_toArray, List.set_cons_zero, List.set_cons_succ]
        refine wpAnyH_take (i := 6) (oi := ⟨some 64, .call { callee := .builtin .len, args := #[.tmp 63], argTypes := #[44] }, _, _, _, some (4, false)⟩) (v := ?_) rfl (by kernel_rfl) (by kernel_rfl) (by kernel_rfl) (fun _ _ _ h => h) (Or.inl ⟨by rfl, ?_⟩) hHeld ?_
        rotate_left
        · intro W _; go_simp; try with_reducible rfl
        try simp only [Act.put, List.setIfInBounds_toArray, List.set_cons_zero, List.set_cons_succ]
        refine wpAnyH_take (i := 7) (oi := ⟨some 65, .move (.tmp 2), _, _, _, some (4, false)⟩) (v := ?_) rfl (by kernel_rfl) (by kernel_rfl) (by kernel_rfl) (fun _ _ _ h => h) (Or.inl ⟨by rfl, ?_⟩) hHeld ?_
        rotate_left
        · intro W _; go_simp; try with_reducible rfl
        try simp only [Act.put, List.setIfInBounds_toArray, List.set_cons_zero, List.set_cons_succ]
        refine wpAnyH_take (i := 8) (oi := ⟨some 66, .call { callee := .builtin .len, args := #[.tmp 65], argTypes := #[44] }, _, _, _, some (4, false)⟩) (v := ?_) rfl (by kernel_rfl) (by kernel_rfl) (by kernel_rfl) (fun _ _ _ h => h) (Or.inl ⟨by rfl, ?_⟩) hHeld ?_
        rotate_left
        · intro W _; go_simp; try with_reducible rfl
        try simp only [Act.put, List.setIfInBounds_toArray, List.set_cons_zero, List.set_cons_succ]
        refine wpAnyH_take (i := 9) (oi := ⟨some 67, .binOp .neq 3 (.tmp 64) (.tmp 66) 3, _, _, _, some (4, false)⟩) (v := ?_) rfl (by kernel_rfl) (by kernel_rfl) (by kernel_rfl) (fun _ _ _ h => h) (Or.inl ⟨by rfl, ?_⟩) hHeld ?_
        rotate_left
        · intro W _; go_simp; try with_reducible rfl
        try simp only [Act.put, List.setIfInBounds_toArray, List.set_cons_zero, List.set_cons_succ]
        refine wpAnyH_take (i := 10) (oi := ⟨some 68, .pick (.tmp 62) (.const (.bool true)) (.tmp 67), _, _, _, none⟩) (v := ?_) rfl (by kernel_rfl) (by kernel_rfl) (by kernel_rfl) (fun _ _ _ h => h) (Or.inl ⟨by rfl, ?_⟩) hHeld ?_
        rotate_left
        · intro W _; go_simp; try with_reducible rfl
        try simp only [Act.put, List.setIfInBounds_toArray, List.set_cons_zero, List.set_cons_succ]
        refine wpAnyH_take (i := 11) (oi := ⟨some 69, .move (.tmp 68), _, _, _, none⟩) (v := ?_) rfl (by kernel_rfl) (by kernel_rfl) (by kernel_rfl) (fun _ _ _ h => h) (Or.inl ⟨by rfl, ?_⟩) hHeld ?_
        rotate_left
        · intro W _; go_simp; try with_reducible rfl
        try simp only [Act.put, List.setIfInBounds_toArray, List.set_cons_zero, List.set_cons_succ]
        refine wpAnyH_take (i := 12) (oi := ⟨some 70, .move (.tmp 2), _, _, _, some (11, false)⟩) (v := ?_) rfl (by kernel_rfl) (by kernel_rfl) (by kernel_rfl) (fun _ _ _ h => h) (Or.inl ⟨by rfl, ?_⟩) hHeld ?_
        rotate_left
        · intro W _; go_simp; try with_reducible rfl
        try simp only [Act.put, List.setIfInBounds_toArray, List.set_cons_zero, List.set_cons_succ]
        refine wpAnyH_take (i := 13) (oi := ⟨some 71, .call { callee := .builtin .len, args := #[.tmp 70], argTypes := #[44] }, _, _, _, some (11, false)⟩) (v := ?_) rfl (by kernel_rfl) (by kernel_rfl) (by kernel_rfl) (fun _ _ _ h => h) (Or.inl ⟨by rfl, ?_⟩) hHeld ?_
        rotate_left
        · intro W _; go_simp; try with_reducible rfl
        try simp only [Act.put, List.setIfInBounds_toArray, List.set_cons_zero, List.set_cons_succ]
        refine wpAnyH_take (i := 14) (oi := ⟨some 72, .binOp .eql 3 (.tmp 71) (.const (.int .i64 0)) 3, _, _, _, some (11, false)⟩) (v := ?_) rfl (by kernel_rfl) (by kernel_rfl) (by kernel_rfl) (fun _ _ _ h => h) (Or.inl ⟨by rfl, ?_⟩) hHeld ?_
        rotate_left
        · intro W _; go_simp; try with_reducible rfl
        try simp only [Act.put, List.setIfInBounds_toArray, List.set_cons_zero, List.set_cons_succ]
        refine wpAnyH_take (i := 15) (oi := ⟨some 73, .pick (.tmp 69) (.const (.bool true)) (.tmp 72), _, _, _, none⟩) (v := ?_) rfl (by kernel_rfl) (by kernel_rfl) (by kernel_rfl) (fun _ _ _ h => h) (Or.inl ⟨by rfl, ?_⟩) hHeld ?_
        rotate_left
        · intro W _; go_simp; try with_reducible rfl
        try simp only [Act.put, List.setIfInBounds_toArray, List.set_cons_zero, List.set_cons_succ]
        refine wpAnyH_take (i := 16) (oi := ⟨some 74, .move (.tmp 73), _, _, _, none⟩) (v := ?_) rfl (by kernel_rfl) (by kernel_rfl) (by kernel_rfl) (fun _ _ _ h => h) (Or.inl ⟨by rfl, ?_⟩) hHeld ?_
        rotate_left
        · intro W _; go_simp; try with_reducible rfl
        try simp only [Act.put, List.setIfInBounds_toArray, List.set_cons_zero, List.set_cons_succ]
        refine wpAnyH_take (i := 17) (oi := ⟨some 75, .move (.tmp 2), _, _, _, some (16, false)⟩) (v := ?_) rfl (by kernel_rfl) (by kernel_rfl) (by kernel_rfl) (fun _ _ _ h => h) (Or.inl ⟨by rfl, ?_⟩) hHeld ?_
        rotate_left
        · intro W _; go_simp; try with_reducible rfl
        try simp only [Act.put, List.setIfInBounds_toArray, List.set_cons_zero, List.set_cons_succ]
        refine wpAnyH_take (i := 18) (oi := ⟨some 76, .move (.tmp 2), _, _, _, some (16, false)⟩) (v := ?_) rfl (by kernel_rfl) (by kernel_rfl) (by kernel_rfl) (fun _ _ _ h => h) (Or.inl ⟨by rfl, ?_⟩) hHeld ?_
        rotate_left
        · intro W _; go_simp; try with_reducible rfl
        try simp only [Act.put, List.setIfInBounds_toArray, List.set_cons_zero, List.set_cons_succ]
        refine wpAnyH_take (i := 19) (oi := ⟨some 77, .call { callee := .builtin .len, args := #[.tmp 76], argTypes := #[44] }, _, _, _, some (16, false)⟩) (v := ?_) rfl (by kernel_rfl) (by kernel_rfl) (by kernel_rfl) (fun _ _ _ h => h) (Or.inl ⟨by rfl, ?_⟩) hHeld ?_
        rotate_left
        · intro W _; go_simp; try with_reducible rfl
        try simp only [Act.put, List.setIfInBounds_toArray, List.set_cons_zero, List.set_cons_succ]
        refine wpAnyH_take (i := 20) (oi := ⟨some 78, .binOp .sub 3 (.tmp 77) (.const (.int .i64 1)) 3, _, _, _, some (16, false)⟩) (v := ?_) rfl (by kernel_rfl) (by kernel_rfl) (by kernel_rfl) (fun _ _ _ h => h) (Or.inl ⟨by rfl, ?_⟩) hHeld ?_
        rotate_left
        · intro W _; go_simp; try with_reducible rfl
        try simp only [Act.put, List.setIfInBounds_toArray, List.set_cons_zero, List.set_cons_succ]
        refine wpAnyH_take (i := 21) (oi := ⟨some 79, .indexAddr 44 (.tmp 75) (.tmp 78), _, _, _, some (16, false)⟩) (v := ?_) rfl (by kernel_rfl) (by kernel_rfl) (by kernel_rfl) (fun _ _ _ h => h) (Or.inl ⟨by rfl, ?_⟩) hHeld ?_
        rotate_left
        · intro W _; go_simp; try with_reducible rfl
        try simp only [Act.put, List.setIfInBounds_toArray, List.set_cons_zero, List.set_cons_succ]
        refine wpAnyH_take (i := 22) (oi := ⟨some 80, .fieldAddr 36 (.tmp 79) 0, _, _, _, some (16, false)⟩) (v := ?_) rfl (by kernel_rfl) (by kernel_rfl) (by kernel_rfl) (fun _ _ _ h => h) (Or.inl ⟨by rfl, ?_⟩) hHeld ?_
        rotate_left
        · intro W _; go_simp; try with_reducible rfl
        try simp only [Act.put, List.setIfInBounds_toArray, List.set_cons_zero, List.set_cons_succ]
        refine wpAnyH_take (i := 23) (oi := ⟨some 81, .load 25 (.tmp 80), _, _, _, some (16, false)⟩) (v := .agg (hdc (l.getD q sgz).hd).toArray) rfl (by kernel_rfl) (by kernel_rfl) (by kernel_rfl) (fun _ _ _ h => h) (yieldsIf_load_mid (by rfl) _ _ rfl b (off + q * 97) rfl (hdc (l.getD q sgz).hd) _ (fun W h => sg_hdr (HE1.out q hqq W h).1) Tryd.underlying25 rfl IH1.out) hHeld ?_
        try simp only [Act.put, List.setIfInBounds_toArray, List.set_cons_zero, List.set_cons_succ]
        refine wpAnyH_take (i := 24) (oi := ⟨some 82, .move (.tmp 3), _, _, _, some (16, false)⟩) (v := ?_) rfl (by kernel_rfl) (by kernel_rfl) (by kernel_rfl) (fun _ _ _ h => h) (Or.inl ⟨by rfl, ?_⟩) hHeld ?_
        rotate_left
        · intro W _; go_simp; try with_reducible rfl
        try simp only [Act.put, List.setIfInBounds_toArray, List.set_cons_zero, List.set_cons_succ]
        refine wpAnyH_take (i := 25) (oi := ⟨some 83, .move (.tmp 2), _, _, _, some (16, false)⟩) (v := ?_) rfl (by kernel_rfl) (by kernel_rfl) (by kernel_rfl) (fun _ _ _ h => h) (Or.inl ⟨by rfl, ?_⟩) hHeld ?_
        rotate_left
        · intro W _; go_simp; try with_reducible rfl
        try simp only [Act.put, List.setIfInBounds_toArray, List.set_cons_zero, List.set_cons_succ]
        refine wpAnyH_take (i := 26) (oi := ⟨some 84, .call { callee := .builtin .len, args := #[.tmp 83], argTypes := #[44] }, _, _, _, some (16, false)⟩) (v := ?_) rfl (by kernel_rfl) (by kernel_rfl) (by kernel_rfl) (fun _ _ _ h => h) (Or.inl ⟨by rfl, ?_⟩) hHeld ?_
        rotate_left
        · intro W _; go_simp; try with_reducible rfl
        try simp only [Act.put, List.setIfInBounds_toArray, List.set_cons_zero, List.set_cons_succ]
        refine wpAnyH_take (i := 27) (oi := ⟨some 85, .binOp .sub 3 (.tmp 84) (.const (.int .i64 1)) 3, _, _, _, some (16, false)⟩) (v := ?_) rfl (by kernel_rfl) (by kernel_rfl) (by kernel_rfl) (fun _ _ _ h => h) (Or.inl ⟨by rfl, ?_⟩) hHeld ?_
        rotate_left
        · intro W _; go_simp; try with_reducible rfl
        try simp only [Act.put, List.setIfInBounds_toArray, List.set_cons_zero, List.set_cons_succ]
        refine wpAnyH_take (i := 28) (oi := ⟨some 86, .indexAddr 44 (.tmp 82) (.tmp 85), _, _, _, some (16, false)⟩) (v := ?_) rfl (by kernel_rfl) (by kernel_rfl) (by kernel_rfl) (fun _ _ _ h => h) (Or.inl ⟨by rfl, ?_⟩) hHeld ?_
        rotate_left
        · intro W _; go_simp; try with_reducible rfl
        try simp only [Act.put, List.setIfInBounds_toArray, List.set_cons_zero, List.set_cons_succ]
        refine wpAnyH_take (i := 29) (oi := ⟨some 87, .fieldAddr 36 (.tmp 86) 0, _, _, _, some (16, false)⟩) (v := ?_) rfl (by kernel_rfl) (by kernel_rfl) (by kernel_rfl) (fun _ _ _ h => h) (Or.inl ⟨by rfl, ?_⟩) hHeld ?_
        rotate_left
        · intro W _; go_simp; try with_reducible rfl
        try simp only [Act.put, List.setIfInBounds_toArray, List.set_cons_zero, List.set_cons_succ]
        refine wpAnyH_take (i := 30) (oi := ⟨some 88, .load 25 (.tmp 87), _, _, _, some (16, false)⟩) (v := .agg (hdc (m.getD q sgz).hd).toArray) rfl (by kernel_rfl) (by kernel_rfl) (by kernel_rfl) (fun _ _ _ h => h) (yieldsIf_load_mid (by rfl) _ _ rfl b2 (off2 + q * 97) rfl (hdc (m.getD q sgz).hd) _ (fun W h => sg_hdr (HE2.out q hqq W h).1) Tryd.underlying25 rfl IH2.out) hHeld ?_
        try simp only [Act.put, List.setIfInBounds_toArray, List.set_cons_zero, List.set_cons_succ]
        refine wpAnyH_take (i := 31) (oi := ⟨some 89, .binOp .neq 25 (.tmp 81) (.tmp 88) 25, _, _, _, some (16, false)⟩) (v := .bool true) rfl (by kernel_rfl) (by kernel_rfl) (by kernel_rfl) (fun _ _ _ h => h) (yieldsIf_eqH (by rfl) .neq 25 25 (.tmp 81) (.tmp 88) rfl _ _ rfl rfl guard_head _ HEQ.out) hHeld ?_
        try simp only [Act.put, List.setIfInBounds_toArray, List.set_cons_zero, List.set_cons_succ]
        refine wpAnyH_take (i := 32) (oi := ⟨some 90, .pick (.tmp 74) (.const (.bool true)) (.tmp 89), _, _, _, none⟩) (v := ?_) rfl (by kernel_rfl) (by kernel_rfl) (by kernel_rfl) (fun _ _ _ h => h) (Or.inl ⟨by rfl, ?_⟩) hHeld ?_
        rotate_left
        · intro W _; go_simp; try with_reducible rfl
        try simp only [Act.put, List.setIfInBounds_toArray, List.set_cons_zero, List.set_cons_succ]
        refine wpAnyH_done (by kernel_rfl) ?_ _
        -- END bgD
        have HB3 := Lib.hid (Bt HB2.out hHeld)
        clear hHeld
        go_wp2_with fail
        refine (CH.out _ HB3.out).mono ?_
        rintro e z1 ⟨rfl, hBz1⟩
        have HBz1 := Lib.hid (Bt HB3.out hBz1)
        clear hBz1
        go_wp2_with fail
        refine (SG.out z1 HBz1.out).mono ?_
        rintro e z2 ⟨rfl, hBz2⟩
        have HBz2 := Lib.hid (Bt HBz1.out hBz2)
        clear hBz2
        go_wp2_with fail
        go_ret
        exact ⟨rfl, HBz2.out⟩
      | true =>
        rw [he] at HEQ
        have HS0 := Lib.hid ((eqHd_iff _ _).1 he)
        clear he
        -- REGION bgE 8
        refine wp_region_held_drew (S := fun W => Below wc.heap.size wc W) (by kernel_rfl) ((Below.refl _ wc).drew) (fun hHeld => ?_)
        refine wpAnyH_take (i := 0) (oi := ⟨some 58, .move (.tmp 1), _, _, _, none⟩) (v := ?_) rfl (by kernel_rfl) (by kernel_rfl) (by kernel_rfl) (fun _ _ _ h => h) (Or.inl ⟨by rfl, ?_⟩) hHeld ?_
        rotate_left
        · intro W _; go_simp; try with_reducible rfl
        try simp only [Act.put, List.setIfInBounds_toArray, List.set_cons_zero, List.set_cons_succ]
        refine wpAnyH_take (i := 1) (oi := ⟨some 59, .move (.tmp 3), _, _, _, none⟩) (v := ?_) rfl (by kernel_rfl) (by kernel_rfl) (by kernel_rfl) (fun _ _ _ h => h) (Or.inl ⟨by rfl, ?_⟩) hHeld ?_
        rotate_left
        · intro W _; go_simp; try with_reducible rfl
        try simp only [Act.put, List.setIfInBounds_toArray, List.set_cons_zero, List.set_cons_succ]
        refine wpAnyH_ready (rs := [2]) (by kernel_rfl) (by simp) ?_
        refine AllReadyH.cons (o := ⟨some 60, .call { callee := .value (.func 20), args := #[.tmp 58, .tmp 59], argTypes := #[9, 44] }, _, _, _, none⟩) rfl (fun K hK => ?_) AllReadyH.nil
        refine step_ofR (by rfl) ?_
        go_simp
        refine (S2.out _ hHeld).mono ?_
        rintro x1 W1 ⟨rfl, hB1⟩
        refine hK.out _ _ (Bt hHeld hB1) (fun hHeld => ?_)
        clear hK K
        try simp only [Act.put, List.setIfInBounds_toArray, List.set_cons_zero, List.set_cons_succ]
        refine wpAnyH_take (i := 3) (oi := ⟨some 61, .binOp .neq 27 (.tmp 60) (.const (.int .i64 0)) 27, _, _, _, none⟩) (v := ?_) rfl (by kernel_rfl) (by kernel_rfl) (by kernel_rfl) (fun _ _ _ h => h) (Or.inl ⟨by rfl, ?_⟩) hHeld ?_
        rotate_left
        · intro W _; go_simp; try with_reducible rfl
        try simp only [Act.put, List.setIfInBounds_toArray, List.set_cons_zero, List.set_cons_succ]
        refine wpAnyH_take (i := 4) (oi := ⟨some 62, .move (.tmp 61), _, _, _, none⟩) (v := ?_) rfl (by kernel_rfl) (by kernel_rfl) (by kernel_rfl) (fun _ _ _ h => h) (Or.inl ⟨by rfl, ?_⟩) hHeld ?_
        rotate_left
        · intro W _; go_simp; try with_reducible rfl
        try simp only [Act.put, List.setIfInBounds_toArray, List.set_cons_zero, List.set_cons_succ]
        refine wpAnyH_take (i := 5) (oi := ⟨some 63, .move (.tmp 3), _, _, _, some (4, false)⟩) (v := ?_) rfl (by kernel_rfl) (by kernel_rfl) (by kernel_rfl) (fun _ _ _ h => h) (Or.inl ⟨by rfl, ?_⟩) hHeld ?_
        rotate_left
        · intro W _; go_simp; try with_reducible rfl
        try simp only [Act.put, List.setIfInBounds_toArray, List.set_cons_zero, List.set_cons_succ]
        refine wpAnyH_take (i := 6) (oi := ⟨some 64, .call { callee := .builtin .len, args := #[.tmp 63], argTypes := #[44] }, _, _, _, some (4, false)⟩) (v := ?_) rfl (by kernel_rfl) (by kernel_rfl) (by kernel_rfl) (fun _ _ _ h => h) (Or.inl ⟨by rfl, ?_⟩) hHeld ?_
        rotate_left
        · intro W _; go_simp; try with_reducible rfl
        try simp only [Act.put, List.setIfInBounds_toArray, List.set_cons_zero, List.set_cons_succ]
        refine wpAnyH_take (i := 7) (oi := ⟨some 65, .move (.tmp 2), _, _, _, some (4, false)⟩) (v := ?_) rfl (by kernel_rfl) (by kernel_rfl) (by kernel_rfl) (fun _ _ _ h => h) (Or.inl ⟨by rfl, ?_⟩) hHeld ?_
        rotate_left
        · intro W _; go_simp; try with_reducible rfl
        try simp only [Act.put, List.setIfInBounds_toArray, List.set_cons_zero, List.set_cons_succ]
        refine wpAnyH_take (i := 8) (oi := ⟨some 66, .call { callee := .builtin .len, args := #[.tmp 65], argTypes := #[44] }, _, _, _, some (4, false)⟩) (v := ?_) rfl (by kernel_rfl) (by kernel_rfl) (by kernel_rfl) (fun _ _ _ h => h) (Or.inl ⟨by rfl, ?_⟩) hHeld ?_
        rotate_left
        · intro W _; go_simp; try with_reducible rfl
        try simp only [Act.put, List.setIfInBounds_toArray, List.set_cons_zero, List.set_cons_succ]
        refine wpAnyH_take (i := 9) (oi := ⟨some 67, .binOp .neq 3 (.tmp 64) (.tmp 66) 3, _, _, _, some (4, false)⟩) (v := ?_) rfl (by kernel_rfl) (by kernel_rfl) (by kernel_rfl) (fun _ _ _ h => h) (Or.inl ⟨by rfl, ?_⟩) hHeld ?_
        rotate_left
        · intro W _; go_simp; try with_reducible rfl
        try simp only [Act.put, List.setIfInBounds_toArray, List.set_cons_zero, List.set_cons_succ]
        refine wpAnyH_take (i := 10) (oi := ⟨some 68, .pick (.tmp 62) (.const (.bool true)) (.tmp 67), _, _, _, none⟩) (v := ?_) rfl (by kernel_rfl) (by kernel_rfl) (by kernel_rfl) (fun _ _ _ h => h) (Or.inl ⟨by rfl, ?_⟩) hHeld ?_
        rotate_left
        · intro W _; go_simp; try with_reducible rfl
        try simp only [Act.put, List.setIfInBounds_toArray, List.set_cons_zero, List.set_cons_succ]
        refine wpAnyH_take (i := 11) (oi := ⟨some 69, .move (.tmp 68), _, _, _, none⟩) (v := ?_) rfl (by kernel_rfl) (by kernel_rfl) (by kernel_rfl) (fun _ _ _ h => h) (Or.inl ⟨by rfl, ?_⟩) hHeld ?_
        rotate_left
        · intro W _; go_simp; try with_reducible rfl
        try simp only [Act.put, List.setIfInBounds_toArray, List.set_cons_zero, List.set_cons_succ]
        refine wpAnyH_take (i := 12) (oi := ⟨some 70, .move (.tmp 2), _, _, _, some (11, false)⟩) (v := ?_) rfl (by kernel_rfl) (by kernel_rfl) (by kernel_rfl) (fun _ _ _ h => h) (Or.inl ⟨by rfl, ?_⟩) hHeld ?_
        rotate_left
        · intro W _; go_simp; try with_reducible rfl
        try simp only [Act.put, List.setIfInBounds_toArray, List.set_cons_zero, List.set_cons_succ]
        refine wpAnyH_take (i := 13) (oi := ⟨some 71, .call { callee := .builtin .len, args := #[.tmp 70], argTypes := #[44] }, _, _, _, some (11, false)⟩) (v := ?_) rfl (by kernel_rfl) (by kernel_rfl) (by kernel_rfl) (fun _ _ _ h => h) (Or.inl ⟨by rfl, ?_⟩) hHeld ?_
        rotate_left
        · intro W _; go_simp; try with_reducible rfl
        try simp only [Act.put, List.setIfInBounds_toArray, List.set_cons_zero, List.set_cons_succ]
        refine wpAnyH_take (i := 14) (oi := ⟨some 72, .binOp .eql 3 (.tmp 71) (.const (.int .i64 0)) 3, _, _, _, some (11, false)⟩) (v := ?_) rfl (by kernel_rfl) (by kernel_rfl) (by kernel_rfl) (fun _ _ _ h => h) (Or.inl ⟨by rfl, ?_⟩) hHeld ?_
        rotate_left
        · intro W _; go_simp; try with_reducible rfl
        try simp only [Act.put, List.setIfInBounds_toArray, List.set_cons_zero, List.set_cons_succ]
        refine wpAnyH_take (i := 15) (oi := ⟨some 73, .pick (.tmp 69) (.const (.bool true)) (.tmp 72), _, _, _, none⟩) (v := ?_) rfl (by kernel_rfl) (by kernel_rfl) (by kernel_rfl) (fun _ _ _ h => h) (Or.inl ⟨by rfl, ?_⟩) hHeld ?_
        rotate_left
        · intro W _; go_simp; try with_reducible rfl
        try simp only [Act.put, List.setIfInBounds_toArray, List.set_cons_zero, List.set_cons_succ]
        refine wpAnyH_take (i := 16) (oi := ⟨some 74, .move (.tmp 73), _, _, _, none⟩) (v := ?_) rfl (by kernel_rfl) (by kernel_rfl) (by kernel_rfl) (fun _ _ _ h => h) (Or.inl ⟨by rfl, ?_⟩) hHeld ?_
        rotate_left
        · intro W _; go_simp; try with_reducible rfl
        try simp only [Act.put, List.setIfInBounds_toArray, List.set_cons_zero, List.set_cons_succ]
        refine wpAnyH_take (i := 17) (oi := ⟨some 75, .move (.tmp 2), _, _, _, some (16, false)⟩) (v := ?_) rfl (by kernel_rfl) (by kernel_rfl) (by kernel_rfl) (fun _ _ _ h => h) (Or.inl ⟨by rfl, ?_⟩) hHeld ?_
        rotate_left
        · intro W _; go_simp; try with_reducible rfl
        try simp only [Act.put, List.setIfInBounds_toArray, List.set_cons_zero, List.set_cons_succ]
        refine wpAnyH_take (i := 18) (oi := ⟨some 76, .move (.tmp 2), _, _, _, some (16, false)⟩) (v := ?_) rfl (by kernel_rfl) (by kernel_rfl) (by kernel_rfl) (fun _ _ _ h => h) (Or.inl ⟨by rfl, ?_⟩) hHeld ?_
        rotate_left
        · intro W _; go_simp; try with_reducible rfl
        try simp only [Act.put, List.setIfInBounds_toArray, List.set_cons_zero, List.set_cons_succ]
        refine wpAnyH_take (i := 19) (oi := ⟨some 77, .call { callee := .builtin .len, args := #[.tmp 76], argTypes := #[44] }, _, _, _, some (16, false)⟩) (v := ?_) rfl (by kernel_rfl) (by kernel_rfl) (by kernel_rfl) (fun _ _ _ h => h) (Or.inl ⟨by rfl, ?_⟩) hHeld ?_
        rotate_left
        · intro W _; go_simp; try with_reducible rfl
        try simp only [Act.put, List.setIfInBounds_toArray, List.set_cons_zero, List.set_cons_succ]
        refine wpAnyH_take (i := 20) (oi := ⟨some 78, .binOp .sub 3 (.tmp 77) (.const (.int .i64 1)) 3, _, _, _, some (16, false)⟩) (v := ?_) rfl (by kernel_rfl) (by kernel_rfl) (by kernel_rfl) (fun _ _ _ h => h) (Or.inl ⟨by rfl, ?_⟩) hHeld ?_
        rotate_left
        · intro W _; go_simp; try with_reducible rfl
        try simp only [Act.put, List.setIfInBounds_toArray, List.set_cons_zero, List.set_cons_succ]
        refine wpAnyH_take (i := 21) (oi := ⟨some 79, .indexAddr 44 (.tmp 75) (.tmp 78), _, _, _, some (16, false)⟩) (v := ?_) rfl (by kernel_rfl) (by kernel_rfl) (by kernel_rfl) (fun _ _ _ h => h) (Or.inl ⟨by rfl, ?_⟩) hHeld ?_
        rotate_left
        · intro W _; go_simp; try with_reducible rfl
        try simp only [Act.put, List.setIfInBounds_toArray, List.set_cons_zero, List.set_cons_succ]
        refine wpAnyH_take (i := 22) (oi := ⟨some 80, .fieldAddr 36 (.tmp 79) 0, _, _, _, some (16, false)⟩) (v := ?_) rfl (by kernel_rfl) (by kernel_rfl) (by kernel_rfl) (fun _ _ _ h => h) (Or.inl ⟨by rfl, ?_⟩) hHeld ?_
        rotate_left
        · intro W _; go_simp; try with_reducible rfl
        try simp only [Act.put, List.setIfInBounds_toArray, List.set_cons_zero, List.set_cons_succ]
        refine wpAnyH_take (i := 23) (oi := ⟨some 81, .load 25 (.tmp 80), _, _, _, some (16, false)⟩) (v := .agg (hdc (l.getD q sgz).hd).toArray) rfl (by kernel_rfl) (by kernel_rfl) (by kernel_rfl) (fun _ _ _ h => h) (yieldsIf_load_mid (by rfl) _ _ rfl b (off + q * 97) rfl (hdc (l.getD q sgz).hd) _ (fun W h => sg_hdr (HE1.out q hqq W h).1) Tryd.underlying25 rfl IH1.out) hHeld ?_
        try simp only [Act.put, List.setIfInBounds_toArray, List.set_cons_zero, List.set_cons_succ]
        refine wpAnyH_take (i := 24) (oi := ⟨some 82, .move (.tmp 3), _, _, _, some (16, false)⟩) (v := ?_) rfl (by kernel_rfl) (by kernel_rfl) (by kernel_rfl) (fun _ _ _ h => h) (Or.inl ⟨by rfl, ?_⟩) hHeld ?_
        rotate_left
        · intro W _; go_simp; try with_reducible rfl
        try simp only [Act.put, List.setIfInBounds_toArray, List.set_cons_zero, List.set_cons_succ]
        refine wpAnyH_take (i := 25) (oi := ⟨some 83, .move (.tmp 2), _, _, _, some (16, false)⟩) (v := ?_) rfl (by kernel_rfl) (by kernel_rfl) (by kernel_rfl) (fun _ _ _ h => h) (Or.inl ⟨by rfl, ?_⟩) hHeld ?_
        rotate_left
        · intro W _; go_simp; try with_reducible rfl
        try simp only [Act.put, List.setIfInBounds_toArray, List.set_cons_zero, List.set_cons_succ]
        refine wpAnyH_take (i := 26) (oi := ⟨some 84, .call { callee := .builtin .len, args := #[.tmp 83], argTypes := #[44] }, _, _, _, some (16, false)⟩) (v := ?_) rfl (by kernel_rfl) (by kernel_rfl) (by kernel_rfl) (fun _ _ _ h => h) (Or.inl ⟨by rfl, ?_⟩) hHeld ?_
        rotate_left
        · intro W _; go_simp; try with_reducible rfl
        try simp only [Act.put, List.setIfInBounds_toArray, List.set_cons_zero, List.set_cons_succ]
        refine wpAnyH_take (i := 27) (oi := ⟨some 85, .binOp .sub 3 (.tmp 84) (.const (.int .i64 1)) 3, _, _, _, some (16, false)⟩) (v := ?_) rfl (by kernel_rfl) (by kernel_rfl) (by kernel_rfl) (fun _ _ _ h => h) (Or.inl ⟨by rfl, ?_⟩) hHeld ?_
        rotate_left
        · intro W _; go_simp; try with_reducible rfl
        try simp only [Act.put, List.setIfInBounds_toArray, List.set_cons_zero, List.set_cons_succ]
        refine wpAnyH_take (i := 28) (oi := ⟨some 86, .indexAddr 44 (.tmp 82) (.tmp 85), _, _, _, some (16, false)⟩) (v := ?_) rfl (by kernel_rfl) (by kernel_rfl) (by kernel_rfl) (fun _ _ _ h => h) (Or.inl ⟨by rfl, ?_⟩) hHeld ?_
        rotate_left
        · intro W _; go_simp; try with_reducible rfl
        try simp only [Act.put, List.setIfInBounds_toArray, List.set_cons_zero, List.set_cons_succ]
        refine wpAnyH_take (i := 29) (oi := ⟨some 87, .fieldAddr 36 (.tmp 86) 0, _, _, _, some (16, false)⟩) (v := ?_) rfl (by kernel_rfl) (by kernel_rfl) (by kernel_rfl) (fun _ _ _ h => h) (Or.inl ⟨by rfl, ?_⟩) hHeld ?_
        rotate_left
        · intro W _; go_simp; try with_reducible rfl
        try simp only [Act.put, List.setIfInBounds_toArray, List.set_cons_zero, List.set_cons_succ]
        refine wpAnyH_take (i := 30) (oi := ⟨some 88, .load 25 (.tmp 87), _, _, _, some (16, false)⟩) (v := .agg (hdc (m.getD q sgz).hd).toArray) rfl (by kernel_rfl) (by kernel_rfl) (by kernel_rfl) (fun _ _ _ h => h) (yieldsIf_load_mid (by rfl) _ _ rfl b2 (off2 + q * 97) rfl (hdc (m.getD q sgz).hd) _ (fun W h => sg_hdr (HE2.out q hqq W h).1) Tryd.underlying25 rfl IH2.out) hHeld ?_
        try simp only [Act.put, List.setIfInBounds_toArray, List.set_cons_zero, List.set_cons_succ]
        refine wpAnyH_take (i := 31) (oi := ⟨some 89, .binOp .neq 25 (.tmp 81) (.tmp 88) 25, _, _, _, some (16, false)⟩) (v := .bool false) rfl (by kernel_rfl) (by kernel_rfl) (by kernel_rfl) (fun _ _ _ h => h) (yieldsIf_eqH (by rfl) .neq 25 25 (.tmp 81) (.tmp 88) rfl _ _ rfl rfl guard_head _ HEQ.out) hHeld ?_
        try simp only [Act.put, List.setIfInBounds_toArray, List.set_cons_zero, List.set_cons_succ]
        refine wpAnyH_take (i := 32) (oi := ⟨some 90, .pick (.tmp 74) (.const (.bool true)) (.tmp 89), _, _, _, none⟩) (v := ?_) rfl (by kernel_rfl) (by kernel_rfl) (by kernel_rfl) (fun _ _ _ h => h) (Or.inl ⟨by rfl, ?_⟩) hHeld ?_
        rotate_left
        · intro W _; go_simp; try with_reducible rfl
        try simp only [Act.put, List.setIfInBounds_toArray, List.set_cons_zero, List.set_cons_succ]
        refine wpAnyH_done (by kernel_rfl) ?_ _
        -- END bgE
        have HB3 := Lib.hid hHeld
        clear hHeld HEQ IH1 IH2 HK1 HK2 hw1 hqz hqz2 hz3
        have hw2 : IntKind.i64.wrap ((q : Int) + 1 - 2) = (q : Int) - 1 := by rw [show (q : Int) + 1 - 2 = (q : Int) - 1 by omega]; exact IntWalk.i64_in _ (by have := HN.out; omega)
        go_wp2_with fail
        go_loopw [11] (fun i wr => ∃ (t : Nat) (z : Int), t ≤ q ∧ i = .int .i64 z ∧ z = (t : Int) - 1 ∧ Hid ((l.getD t sgz).hd = (m.getD t sgz).hd ∧ Below wc.heap.size wc wr)) (fun i _ => (intOf i + 1).toNat)
        case atStart => exact ⟨q, (q : Int) - 1, Nat.le_refl _, rfl, rfl, Lib.hid ⟨HS0.out, HB3.out⟩⟩
        case round =>
          clear HS0 HB3 hw2
          obtain ⟨t, z, ht, rfl, hz, HA⟩ := hrel
          cases t with
          | zero =>
            obtain rfl : z = -1 := by omega
            have HB4 := Lib.hid (Bt HB2.out HA.out.2)
            clear hz HA
            go_wp2_with fail
            refine (CH.out wr HB4.out).mono ?_
            rintro e z1 ⟨rfl, hBz1⟩
            have HBz1 := Lib.hid (Bt HB4.out hBz1)
            clear hBz1
            go_wp2_with fail
            refine (SG.out z1 HBz1.out).mono ?_
            rintro e z2 ⟨rfl, hBz2⟩
            have HBz2 := Lib.hid (Bt HBz1.out hBz2)
            clear hBz2
            go_wp2_with fail
            go_ret
            exact ⟨rfl, HBz2.out⟩
          | succ u =>
            obtain rfl : z = (u : Int) := by omega
            clear hz
            have hu0 : (0 : Int) ≤ (u : Int) := by omega
            have huq : u < q + 1 := by omega
            have hui : (u : Int) < (q : Int) + 1 := by omega
            have HX1 := Lib.hid (HE1.out u huq wr HA.out.2)
            have HX2 := Lib.hid (HE2.out u huq wr HA.out.2)
            have IH1 : Hid ((Tryd.prog.info? 25).map (·.size) = some (hdc (l.getD u sgz).hd).length) := Lib.hid (by rw [hdc_length HX1.out.2.1]; exact info_head0)
            have IH2 : Hid ((Tryd.prog.info? 25).map (·.size) = some (hdc (m.getD u sgz).hd).length) := Lib.hid (by rw [hdc_length HX2.out.2.1]; exact info_head0)
            have HEQ := Lib.hid (fun W : World => eql_head W (l.getD u sgz).hd (m.getD u sgz).hd HX1.out.2.1 HX2.out.2.1)
            have HBA := Lib.hid HA.out.2
            have HSA := Lib.hid HA.out.1
            clear HA
            cases he : eqHd (l.getD u sgz).hd (m.getD u sgz).hd with
            | true =>
              rw [he] at HEQ
              have HS1 := Lib.hid ((eqHd_iff _ _).1 he)
              clear he
              go_wp2_with fail
              -- REGION bhT 14
              refine wp_region_held_drew (S := fun W => Below wr.heap.size wr W) (by kernel_rfl) ((Below.refl _ wr).drew) (fun hHeld => ?_)
              refine wpAnyH_take (i := 0) (oi := ⟨some 102, .move (.tmp 2), _, _, _, none⟩) (v := ?_) rfl (by kernel_rfl) (by kernel_rfl) (by kernel_rfl) (fun _ _ _ h => h) (Or.inl ⟨by rfl, ?_⟩) hHeld ?_
              rotate_left
              · intro W _; go_simp; try with_reducible rfl
              try simp only [Act.put, List.setIfInBounds_toArray, List.set_cons_zero, List.set_cons_succ]
              refine wpAnyH_take (i := 1) (oi := ⟨some 103, .move (.tmp 11), _, _, _, none⟩) (v := ?_) rfl (by kernel_rfl) (by kernel_rfl) (by kernel_rfl) (fun _ _ _ h => h) (Or.inl ⟨by rfl, ?_⟩) hHeld ?_
              rotate_left
              · intro W _; go_simp; try with_reducible rfl
              try simp only [Act.put, List.setIfInBounds_toArray, List.set_cons_zero, List.set_cons_succ]
              refine wpAnyH_take (i := 2) (oi := ⟨some 104, .indexAddr 44 (.tmp 102) (.tmp 103), _, _, _, none⟩) (v := ?_) rfl (by kernel_rfl) (by kernel_rfl) (by kernel_rfl) (fun _ _ _ h => h) (Or.inl ⟨by rfl, ?_⟩) hHeld ?_
              rotate_left
              · intro W _; go_simp; try with_reducible rfl
              try simp only [Act.put, List.setIfInBounds_toArray, List.set_cons_zero, List.set_cons_succ]
              refine wpAnyH_take (i := 3) (oi := ⟨some 105, .fieldAddr 36 (.tmp 104) 0, _, _, _, none⟩) (v := ?_) rfl (by kernel_rfl) (by kernel_rfl) (by kernel_rfl) (fun _ _ _ h => h) (Or.inl ⟨by rfl, ?_⟩) hHeld ?_
              rotate_left
              · intro W _; go_simp; try with_reducible rfl
              try simp only [Act.put, List.setIfInBounds_toArray, List.set_cons_zero, List.set_cons_succ]
              refine wpAnyH_take (i := 4) (oi := ⟨some 106, .load 25 (.tmp 105), _, _, _, none⟩) (v := .agg (hdc (l.getD u sgz).hd).toArray) rfl (by kernel_rfl) (by kernel_rfl) (by kernel_rfl) (fun _ _ _ h => h) (yieldsIf_load_mid (by rfl) _ _ rfl b (off + u * 97) rfl (hdc (l.getD u sgz).hd) _ (fun W h => sg_hdr (fun j v hv => cell_later h (HX1.out.1 j v hv))) Tryd.underlying25 rfl IH1.out) hHeld ?_
              try simp only [Act.put, List.setIfInBounds_toArray, List.set_cons_zero, List.set_cons_succ]
              refine wpAnyH_take (i := 5) (oi := ⟨some 107, .move (.tmp 3), _, _, _, none⟩) (v := ?_) rfl (by kernel_rfl) (by kernel_rfl) (by kernel_rfl) (fun _ _ _ h => h) (Or.inl ⟨by rfl, ?_⟩) hHeld ?_
              rotate_left
              · intro W _; go_simp; try with_reducible rfl
              try simp only [Act.put, List.setIfInBounds_toArray, List.set_cons_zero, List.set_cons_succ]
              refine wpAnyH_take (i := 6) (oi := ⟨some 108, .move (.tmp 11), _, _, _, none⟩) (v := ?_) rfl (by kernel_rfl) (by kernel_rfl) (by kernel_rfl) (fun _ _ _ h => h) (Or.inl ⟨by rfl, ?_⟩) hHeld ?_
              rotate_left
              · intro W _; go_simp; try with_reducible rfl
              try simp only [Act.put, List.setIfInBounds_toArray, List.set_cons_zero, List.set_cons_succ]
              refine wpAnyH_take (i := 7) (oi := ⟨some 109, .indexAddr 44 (.tmp 107) (.tmp 108), _, _, _, none⟩) (v := ?_) rfl (by kernel_rfl) (by kernel_rfl) (by kernel_rfl) (fun _ _ _ h => h) (Or.inl ⟨by rfl, ?_⟩) hHeld ?_
              rotate_left
              · intro W _; go_simp; try with_reducible rfl
              try simp only [Act.put, List.setIfInBounds_toArray, List.set_cons_zero, List.set_cons_succ]
              refine wpAnyH_take (i := 8) (oi := ⟨some 110, .fieldAddr 36 (.tmp 109) 0, _, _, _, none⟩) (v := ?_) rfl (by kernel_rfl) (by kernel_rfl) (by kernel_rfl) (fun _ _ _ h => h) (Or.inl ⟨by rfl, ?_⟩) hHeld ?_
              rotate_left
              · intro W _; go_simp; try with_reducible rfl
              try simp only [Act.put, List.setIfInBounds_toArray, List.set_cons_zero, List.set_cons_succ]
              refine wpAnyH_take (i := 9) (oi := ⟨some 111, .load 25 (.tmp 110), _, _, _, none⟩) (v := .agg (hdc (m.getD u sgz).hd).toArray) rfl (by kernel_rfl) (by kernel_rfl) (by kernel_rfl) (fun _ _ _ h => h) (yieldsIf_load_mid (by rfl) _ _ rfl b2 (off2 + u * 97) rfl (hdc (m.getD u sgz).hd) _ (fun W h => sg_hdr (fun j v hv => cell_later h (HX2.out.1 j v hv))) Tryd.underlying25 rfl IH2.out) hHeld ?_
              try simp only [Act.put, List.setIfInBounds_toArray, List.set_cons_zero, List.set_cons_succ]
              refine wpAnyH_take (i := 10) (oi := ⟨some 112, .binOp .eql 25 (.tmp 106) (.tmp 111) 25, _, _, _, none⟩) (v := .bool true) rfl (by kernel_rfl) (by kernel_rfl) (by kernel_rfl) (fun _ _ _ h => h) (yieldsIf_eqH (by rfl) .eql 25 25 (.tmp 106) (.tmp 111) rfl _ _ rfl rfl guard_head _ HEQ.out) hHeld ?_
              try simp only [Act.put, List.setIfInBounds_toArray, List.set_cons_zero, List.set_cons_succ]
              refine wpAnyH_done (by kernel_rfl) ?_ _
              -- END bhT
              have HB5 := Lib.hid (Bt HBA.out hHeld)
              clear hHeld
              go_wp2_with fail
              refine ⟨⟨u, (u : Int) - 1, by omega, rfl, rfl, Lib.hid ⟨HS1.out, HB5.out⟩⟩, ?_⟩
              simp only [intOf]
              omega
            | false =>
              rw [he] at HEQ
              have HDS := Lib.hid (dig_same HQ1.out HQ2.out (by rw [HL1.out, HL2.out]) u (by rw [HL1.out]; omega) HSA.out)
              clear he
              go_wp2_with fail
              -- REGION bhF 14
              refine wp_region_held_drew (S := fun W => Below wr.heap.size wr W) (by kernel_rfl) ((Below.refl _ wr).drew) (fun hHeld => ?_)
              refine wpAnyH_take (i := 0) (oi := ⟨some 102, .move (.tmp 2), _, _, _, none⟩) (v := ?_) rfl (by kernel_rfl) (by kernel_rfl) (by kernel_rfl) (fun _ _ _ h => h) (Or.inl ⟨by rfl, ?_⟩) hHeld ?_
              rotate_left
              · intro W _; go_simp; try with_reducible rfl
              try simp only [Act.put, List.setIfInBounds_toArray, List.set_cons_zero, List.set_cons_succ]
              refine wpAnyH_take (i := 1) (oi := ⟨some 103, .move (.tmp 11), _, _, _, none⟩) (v := ?_) rfl (by kernel_rfl) (by kernel_rfl) (by kernel_rfl) (fun _ _ _ h => h) (Or.inl ⟨by rfl, ?_⟩) hHeld ?_
              rotate_left
              · intro W _; go_simp; try with_reducible rfl
              try simp only [Act.put, List.setIfInBounds_toArray, List.set_cons_zero, List.set_cons_succ]
              refine wpAnyH_take (i := 2) (oi := ⟨some 104, .indexAddr 44 (.tmp 102) (.tmp 103), _, _, _, none⟩) (v := ?_) rfl (by kernel_rfl) (by kernel_rfl) (by kernel_rfl) (fun _ _ _ h => h) (Or.inl ⟨by rfl, ?_⟩) hHeld ?_
              rotate_left
              · intro W _; go_simp; try with_reducible rfl
              try simp only [Act.put, List.setIfInBounds_toArray, List.set_cons_zero, List.set_cons_succ]
              refine wpAnyH_take (i := 3) (oi := ⟨some 105, .fieldAddr 36 (.tmp 104) 0, _, _, _, none⟩) (v := ?_) rfl (by kernel_rfl) (by kernel_rfl) (by kernel_rfl) (fun _ _ _ h => h) (Or.inl ⟨by rfl, ?_⟩) hHeld ?_
              rotate_left
              · intro W _; go_simp; try with_reducible rfl
              try simp only [Act.put, List.setIfInBounds_toArray, List.set_cons_zero, List.set_cons_succ]
              refine wpAnyH_take (i := 4) (oi := ⟨some 106, .load 25 (.tmp 105), _, _, _, none⟩) (v := .agg (hdc (l.getD u sgz).hd).toArray) rfl (by kernel_rfl) (by kernel_rfl) (by kernel_rfl) (fun _ _ _ h => h) (yieldsIf_load_mid (by rfl) _ _ rfl b (off + u * 97) rfl (hdc (l.getD u sgz).hd) _ (fun W h => sg_hdr (fun j v hv => cell_later h (HX1.out.1 j v hv))) Tryd.underlying25 rfl IH1.out) hHeld ?_
              try simp only [Act.put, List.setIfInBounds_toArray, List.set_cons_zero, List.set_cons_succ]
              refine wpAnyH_take (i := 5) (oi := ⟨some 107, .move (.tmp 3), _, _, _, none⟩) (v := ?_) rfl (by kernel_rfl) (by kernel_rfl) (by kernel_rfl) (fun _ _ _ h => h) (Or.inl ⟨by rfl, ?_⟩) hHeld ?_
              rotate_left
              · intro W _; go_simp; try with_reducible rfl
              try simp only [Act.put, List.setIfInBounds_toArray, List.set_cons_zero, List.set_cons_succ]
              refine wpAnyH_take (i := 6) (oi := ⟨some 108, .move (.tmp 11), _, _, _, none⟩) (v := ?_) rfl (by kernel_rfl) (by kernel_rfl) (by kernel_rfl) (fun _ _ _ h => h) (Or.inl ⟨by rfl, ?_⟩) hHeld ?_
              rotate_left
              · intro W _; go_simp; try with_reducible rfl
              try simp only [Act.put, List.setIfInBounds_toArray, List.set_cons_zero, List.set_cons_succ]
              refine wpAnyH_take (i := 7) (oi := ⟨some 109, .indexAddr 44 (.tmp 107) (.tmp 108), _, _, _, none⟩) (v := ?_) rfl (by kernel_rfl) (by kernel_rfl) (by kernel_rfl) (fun _ _ _ h => h) (Or.inl ⟨by rfl, ?_⟩) hHeld ?_
              rotate_left
              · intro W _; go_simp; try with_reducible rfl
              try simp only [Act.put, List.setIfInBounds_toArray, List.set_cons_zero, List.set_cons_succ]
              refine wpAnyH_take (i := 8) (oi := ⟨some 110, .fieldAddr 36 (.tmp 109) 0, _, _, _, none⟩) (v := ?_) rfl (by kernel_rfl) (by kernel_rfl) (by kernel_rfl) (fun _ _ _ h => h) (Or.inl ⟨by rfl, ?_⟩) hHeld ?_
              rotate_left
              · intro W _; go_simp; try with_reducible rfl
              try simp only [Act.put, List.setIfInBounds_toArray, List.set_cons_zero, List.set_cons_succ]
              refine wpAnyH_take (i := 9) (oi := ⟨some 111, .load 25 (.tmp 110), _, _, _, none⟩) (v := .agg (hdc (m.getD u sgz).hd).toArray) rfl (by kernel_rfl) (by kernel_rfl) (by kernel_rfl) (fun _ _ _ h => h) (yieldsIf_load_mid (by rfl) _ _ rfl b2 (off2 + u * 97) rfl (hdc (m.getD u sgz).hd) _ (fun W h => sg_hdr (fun j v hv => cell_later h (HX2.out.1 j v hv))) Tryd.underlying25 rfl IH2.out) hHeld ?_
              try simp only [Act.put, List.setIfInBounds_toArray, List.set_cons_zero, List.set_cons_succ]
              refine wpAnyH_take (i := 10) (oi := ⟨some 112, .binOp .eql 25 (.tmp 106) (.tmp 111) 25, _, _, _, none⟩) (v := .bool false) rfl (by kernel_rfl) (by kernel_rfl) (by kernel_rfl) (fun _ _ _ h => h) (yieldsIf_eqH (by rfl) .eql 25 25 (.tmp 106) (.tmp 111) rfl _ _ rfl rfl guard_head _ HEQ.out) hHeld ?_
              try simp only [Act.put, List.setIfInBounds_toArray, List.set_cons_zero, List.set_cons_succ]
              refine wpAnyH_done (by kernel_rfl) ?_ _
              -- END bhF
              have HB5 := Lib.hid (Bt HB2.out (Bt HBA.out hHeld))
              have hx1 := sg_hdr (fun j v hv => cell_later hHeld (HX1.out.1 j v hv) : World.rangeAt _ b (off + u * 97) (sgc (l.getD u sgz)))
              have hx2 := sg_hdr (fun j v hv => cell_later hHeld (HX2.out.1 j v hv) : World.rangeAt _ b2 (off2 + u * 97) (sgc (m.getD u sgz)))
              have hk1 := HX1.out.2.1
              have hk2 := HX2.out.2.1
              clear hHeld HX1 HX2 HEQ HSA HE1 HE2 HBA
              generalize (l.getD u sgz).hd = x1 at *
              generalize (m.getD u sgz).hd = x2 at *
              have DG1 := Lib.hid (fun W h => DG.out W h x1 hk1)
              have DG2 := Lib.hid (fun W h => DG.out W h x2 hk2)
              rw [HDS.out.2.1] at DG1
              rw [HDS.out.2.2, ← HDS.out.1] at DG2
              have HDL := Lib.hid (digH_length x1)
              clear HDS hk1 hk2
              generalize digH x1 = D at *
              have ID : Hid ((Tryd.prog.info? 23).map (·.size) = some (bs D).length) := Lib.hid (by rw [info_digest, bs_length, HDL.out])
              have HLD : Hid ((bs zero32).length = (bs D).length) := Lib.hid (by rw [bs_length, bs_length, zero32_length, HDL.out])
              have HOD : Hid (∀ v ∈ bs D, v.oneCell' = true) := Lib.hid (bs_one _)
              have HED := Lib.hid (fun W : World => (eqD W D D HDL.out HDL.out).trans (by rw [beq_self_eq_true]))
              go_wp2_with ((with_reducible refine wpList_loadMH (o := ⟨some 118, _, _, _, _, _⟩) ?_ b (off + u * 97) 25 (.tmp 117) ?_ ?_ hx1 Tryd.underlying25 ?_ IH1.out ?_); rfl; rfl; rfl; rfl)
              refine (DG1.out _ HB5.out).mono ?_
              rintro e w6 ⟨rfl, hB6⟩
              have HB6 := Lib.hid (Bt HB5.out hB6)
              have hx26 : World.rangeAt w6 b2 (off2 + u * 97) (hdc x2) := fun j v hv => cell_later hB6 (hx2 j v hv)
              clear hB6 hx1 hx2 DG1
              go_wp2_with (first
                | ((with_reducible refine wpList_allocB (o := ⟨some 12, _, _, _, _, _⟩) ?_ 23 ?_ zeroD_info ?_); rfl; rfl; intro w7 hd7 hg7 hz7)
                | ((with_reducible refine wpList_storeB (o := ⟨none, .store 23 (.tmp 12) (.tmp 120), _, _, _, _⟩) ?_ 23 (.tmp 12) (.tmp 120) ?_ ?_ ?_ hd7 ID.out HLD.out HOD.out ?_); rfl; rfl; rfl; rfl; intro w8 hd8 hg8 hz8; have hB68 : Below w6.heap.size w6 w8 := ((Below.refl _ w6).grown hg7 (Nat.le_refl _) (by simp)).grown hg8 (by omega) (fun k e => by cases e; exact Nat.le_refl _); have hx28 : World.rangeAt w8 b2 (off2 + u * 97) (hdc x2) := (fun j v hv => cell_later hB68 (hx26 j v hv)); have HB8 := Lib.hid (Bt HB6.out hB68); clear hz7 hz8)
                | ((with_reducible refine wpList_loadMH (o := ⟨some 127, _, _, _, _, _⟩) ?_ b2 (off2 + u * 97) 25 (.tmp 126) ?_ ?_ hx28 Tryd.underlying25 ?_ IH2.out ?_); rfl; rfl; rfl; rfl))
              refine (DG2.out _ HB8.out).mono ?_
              rintro e w9 ⟨rfl, hB9⟩
              have HB9 := Lib.hid (Bt HB8.out hB9)
              have hd9 := hd8.below hB9
              clear hB9 hx26 hx28 hd7 hg7 hg8 hd8 hB68 DG2
              generalize w6.heap.size = R1 at *
              go_wp2_with (first
                | ((with_reducible refine wpList_allocB (o := ⟨some 14, _, _, _, _, _⟩) ?_ 23 ?_ zeroD_info ?_); rfl; rfl; intro w10 hd10 hg10 hz10)
                | ((with_reducible refine wpList_storeB (o := ⟨none, .store 23 (.tmp 14) (.tmp 129), _, _, _, _⟩) ?_ 23 (.tmp 14) (.tmp 129) ?_ ?_ ?_ hd10 ID.out HLD.out HOD.out ?_); rfl; rfl; rfl; rfl; intro w11 hd11 hg11 hz11; have hB11 : Below w9.heap.size w9 w11 := ((Below.refl _ w9).grown hg10 (Nat.le_refl _) (by simp)).grown hg11 (by omega) (fun k e => by cases e; exact Nat.le_refl _); have hd9b := hd9.below hB11; have HB11 := Lib.hid (Bt HB9.out hB11); clear hz10 hz11))
              refine (CH.out w11 HB11.out).mono ?_
              rintro e w12 ⟨rfl, hB12⟩
              have HB12 := Lib.hid (Bt HB11.out hB12)
              have ha12 := hd9b.below hB12
              have hb12 := hd11.below hB12
              clear hB12 hd9 hd9b hd10 hg10 hd11 hg11 hB11
              generalize w9.heap.size = R2 at *
              go_wp2_with fail
              refine (SG.out w12 HB12.out).mono ?_
              rintro e w13 ⟨rfl, hB13⟩
              have HB13 := Lib.hid (Bt HB12.out hB13)
              have ha13 := ha12.below hB13
              have hb13 := hb12.below hB13
              clear hB13 ha12 hb12
              go_wp2_with (first
                | ((with_reducible refine wpList_loadR (o := ⟨some 144, _, _, _, _, _⟩) ?_ 23 (.tmp 12) ?_ ?_ ha13 Tryd.underlying23 ?_ ID.out ?_); rfl; rfl; rfl; rfl)
                | ((with_reducible refine wpList_loadR (o := ⟨some 145, _, _, _, _, _⟩) ?_ 23 (.tmp 14) ?_ ?_ hb13 Tryd.underlying23 ?_ ID.out ?_); rfl; rfl; rfl; rfl)
                | ((with_reducible refine wpList_eqH (o := ⟨some 146, _, _, _, _, _⟩) ?_ .eql 23 23 (.tmp 144) (.tmp 145) ?_ (bs D).toArray (bs D).toArray ?_ ?_ guardH _ HED.out ?_); rfl; rfl; rfl; rfl))
              go_ret
              exact ⟨rfl, HB13.out⟩
end Go.Proofs.YtoclahcibilbhaaDoor
