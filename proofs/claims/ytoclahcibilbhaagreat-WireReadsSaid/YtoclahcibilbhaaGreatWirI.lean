/-
  WirI WirI2, in one text.
-/
import Derived.Test.YtoclahcibilbhaaGreatRefR01
import Derived.Test.YtoclahcibilbhaaGreatWirX
import Derived.Test.YtoclahcibilbhaaGreatWirP
namespace Go.Proofs.YtoclahcibilbhaaGreat
/-! The reference's reader of layer 8: its state, step, n. -/
section
open Go.RowKit
set_option maxRecDepth 100000

/-- the reader in block g: whether it failed, what is left -/
structure InC (a0 : Option Addr) (n0 c0 : Nat) (l0 : List UInt8) (g : Nat) (w : World) (bad : Bool) (l : List UInt8) : Prop where
  orig : Rd w a0 n0 c0 l0
  ne : ∀ ad, a0 = some ad → l0 ≠ [] → ad.block < g
  blk : ∃ a n c, Blk w g 74 [.slice a n c, .bool bad] ∧ ∀ W, Rd W a0 n0 c0 l0 → Rd W a n c l
/-- what is left: none if it failed -/
def lf (bad : Bool) (l : List UInt8) : Option (List UInt8) := if bad then none else some l
def In1 (a0 : Option Addr) (n0 c0 : Nat) (l0 : List UInt8) (g : Nat) (w : World) (s : Option (List UInt8)) : Prop := ∃ bad l, InC a0 n0 c0 l0 g w bad l ∧ lf bad l = s
section
variable {a0 : Option Addr} {n0 c0 : Nat} {l0 : List UInt8} {g : Nat} {w w' : World} {bad : Bool} {l : List UInt8} {s : Option (List UInt8)} {K : Nat → Prop} {B : Nat}
theorem Rd.stp {a : Option Addr} {n c : Nat} (h : Rd w a n c l) (hs : Stp K w.heap.size w w') (hk : ∀ ad, a = some ad → l ≠ [] → ¬ K ad.block) : Rd w' a n c l :=
  ⟨h.len, h.cap, h.max, h.nil, fun ad e j u hu => by
    have hc := h.cell ad e j u hu
    have hb : (ad.add j).block = ad.block := by unfold Addr.add; split <;> rfl
    exact hs.cell hc (World.block_lt_of_cell? _ _ hc) (by rw [hb]; exact hk ad e (fun h => by subst h; simp [bs] at hu))⟩
theorem InC.lt (h : InC a0 n0 c0 l0 g w bad l) : g < w.heap.size := by obtain ⟨_, _, _, h1, _⟩ := h.blk; exact h1.lt
theorem InC.stp (h : InC a0 n0 c0 l0 g w bad l) (hs : Stp K w.heap.size w w') (hk : ∀ i, K i → g < i) : InC a0 n0 c0 l0 g w' bad l := by
  obtain ⟨a, n, c, h1, h2⟩ := h.blk
  exact ⟨h.orig.stp hs (fun ad e hl hh => absurd (hk _ hh) (by have := h.ne ad e hl; omega)), h.ne, a, n, c, h1.stp hs h1.lt (fun hh => absurd (hk _ hh) (Nat.lt_irrefl _)), h2⟩
theorem In1.stp (h : In1 a0 n0 c0 l0 g w s) (hs : Stp K w.heap.size w w') (hk : ∀ i, K i → g < i) : In1 a0 n0 c0 l0 g w' s := by
  obtain ⟨b, l, h1, h2⟩ := h
  exact ⟨b, l, h1.stp hs hk, h2⟩
theorem In1.below (h : In1 a0 n0 c0 l0 g w s) (hs : Below w.heap.size w w') : In1 a0 n0 c0 l0 g w' s :=
  h.stp (K := fun _ => False) (Stp.of hs) (fun _ x => x.elim)
theorem InC.below (h : InC a0 n0 c0 l0 g w bad l) (hs : Below w.heap.size w w') : InC a0 n0 c0 l0 g w' bad l :=
  h.stp (K := fun _ => False) (Stp.of hs) (fun _ x => x.elim)
theorem In1.lt (h : In1 a0 n0 c0 l0 g w s) : g < w.heap.size := by obtain ⟨_, _, h1, _⟩ := h; exact h1.lt
end

set_option maxHeartbeats 400000 in
theorem step_any (a0 : Option Addr) (n0 c0 : Nat) (l0 : List UInt8) (g : Nat) (w : World) (bad : Bool) (l : List UInt8) (hI : InC a0 n0 c0 l0 g w bad l) (k z : Nat) (hk : z = 0 → k ≤ l.length) :
    Calls Tryz.prog 97 #[.pointer (some ⟨g, 0, none⟩), .int .i64 (k : Int), .int .i64 (z : Int)] w fun e w' => e = .returned (.tuple #[]) ∧ InC a0 n0 c0 l0 g w' (bad || z != 0) (if z = 0 then l.drop k else []) ∧ Stp (fun i => i = g) w.heap.size w w' := by
  obtain ⟨a, n, c, h1, h2⟩ := hI.blk
  have hc0 := h1.cell (j := 0) rfl
  have hc1 := h1.cell (j := 1) rfl
  have hf0 := h1.free 0
  have hf1 := h1.free 1
  have hrd := h2 w hI.orig
  have hS : ∀ v, w.rangeAt g 0 [v] = w.rangeAt g 0 [v] := fun _ => rfl
  have HI := Lib.hid hI
  have H1 := Lib.hid h1
  have H2 := Lib.hid h2
  have HR := Lib.hid hrd
  have HK := Lib.hid hk
  have HF : Hid (∀ W, Stp (fun i => i = g) w.heap.size w W → (∃ a n c, Blk W g 74 [.slice a n c, .bool (bad || z != 0)] ∧ ∀ V, Rd V a0 n0 c0 l0 → Rd V a n c (if z = 0 then l.drop k else [])) → InC a0 n0 c0 l0 g W (bad || z != 0) (if z = 0 then l.drop k else [])) := Lib.hid (fun W hs hb => ⟨hI.orig.stp hs (fun ad e hl => Nat.ne_of_lt (hI.ne ad e hl)), hI.ne, hb⟩)
  clear hI h1 h2 hrd hk hS
  by_cases hz : z = 0
  · subst hz
    have hk := HK.out rfl
    have hlen := HR.out.len
    have hcut := fun W => (cutU W a n c k k rfl (by omega)).1
    have hcut2 := fun W => (cutU W a n c k k rfl (by omega)).2
    go_enter Tryz.func97, Tryz.ntmps97
    go_wp2_with fail
    go_end0
    have hs : Stp (fun i => i = g) w.heap.size w (w.setCell ⟨g, 0, none⟩ (.slice (tailU a c k) (n - k) (c - k))) := (Stp.refl _ _ _).set _ _ (.inl rfl)
    have h3 := HF.out _ hs ⟨_, _, _, by simpa using H1.out.set 0 (.slice (tailU a c k) (n - k) (c - k)), fun V hV => by rw [if_pos trivial]; exact (H2.out V hV).tailU k (by omega)⟩
    simp only [if_true, bne_self_eq_false, Bool.or_false] at h3
    exact ⟨rfl, h3, hs⟩
  · go_enter Tryz.func97, Tryz.ntmps97
    go_wp2_with fail
    refine bodyPost_ret (results_none rfl _ _ _) rfl ?_
    have hs : Stp (fun i => i = g) w.heap.size w ((w.setCell ⟨g, 1, none⟩ (.bool true)).setCell ⟨g, 0, none⟩ (.slice none 0 0)) := by
      have h4 : Stp (fun i => i = g) w.heap.size w (w.setCell ⟨g, 1, none⟩ (.bool true)) := (Stp.refl _ _ _).set _ _ (.inl rfl)
      exact h4.set ⟨g, 0, none⟩ (.slice none 0 0) (.inl rfl)
    have hb : (bad || z != 0) = true := by simp [hz]
    have h3 := HF.out _ hs ⟨_, _, _, by rw [hb]; simpa using (H1.out.set 1 (.bool true)).set 0 (.slice none 0 0), fun V _ => by rw [if_neg hz]; exact Rd.nil0 V⟩
    simp only [if_neg hz, hb] at h3 ⊢
    simpa using ⟨h3, hs⟩

/-- what is left behind f -/
def nx {α : Type} (f : List UInt8 → Option (α × List UInt8)) (s : Option (List UInt8)) : Option (List UInt8) := s.bind fun l => (f l).map Prod.snd
/-- what f has read, where it could -/
def got {α : Type} (f : List UInt8 → Option (α × List UInt8)) (s : Option (List UInt8)) (v : α) : Prop := ∀ l p, s = some l → f l = some p → p.1 = v
def Low (v : Int) : Prop := 0 ≤ v ∧ v ≤ 2147483647

set_option maxHeartbeats 400000 in
theorem in_n (a0 : Option Addr) (n0 c0 : Nat) (l0 : List UInt8) (g : Nat) (w : World) (s : Option (List UInt8)) (hI : In1 a0 n0 c0 l0 g w s) :
    Calls Tryz.prog 59 #[.pointer (some ⟨g, 0, none⟩)] w fun e w' => ∃ v : Int, Low v ∧ got gN s v ∧ e = .returned (.int .i64 v) ∧ In1 a0 n0 c0 l0 g w' (nx gN s) ∧ Stp (fun i => i = g) w.heap.size w w' := by
  obtain ⟨bad, l, hI, hs⟩ := hI
  obtain ⟨a, n, c, h1, h2⟩ := hI.blk
  have hc0 := h1.cell (j := 0) rfl
  have hrd := h2 w hI.orig
  obtain ⟨b1, _, b3, b4, _⟩ := cnt_le l 0 0 (by omega)
  have HI := Lib.hid hI
  obtain ⟨x, k, z, hcnt⟩ : ∃ x y z, cnt 0 0 l = (x, y, z) := ⟨_, _, _, rfl⟩
  have HF : Hid (Low x ∧ got gN s x ∧ lf (bad || z != 0) (if z = 0 then l.drop k else []) = nx gN s) := by
    refine Lib.hid ⟨⟨by omega, by rw [hcnt] at b3; simp only at b3; omega⟩, ?_, ?_⟩
    · intro l' p hl hp
      subst hs
      cases bad <;> simp [lf] at hl
      subst hl
      unfold gN at hp
      rw [hcnt] at hp
      simp only at hp
      split at hp <;> simp at hp
      rw [← hp]
    · subst hs
      unfold nx gN
      cases bad <;> simp only [lf, Bool.true_or, Bool.false_or, if_true, Option.bind_none, Option.bind_some, Bool.false_eq_true, if_false]
      rw [hcnt]
      simp only
      by_cases hz : z = 0
      · simp [hz]
      · simp [hz]
  have HK : Hid (z = 0 → k ≤ l.length) := Lib.hid (fun _ => by rw [hcnt] at b1; simp only at b1; omega)
  clear hI h1 h2 hs b1 b3 b4
  go_enter Tryz.func59, Tryz.ntmps59
  go_wp2_with fail
  refine (readCount_any w a n c l hrd).mono ?_
  intro e w1 hP
  unfold CntPost at hP
  rw [hcnt] at hP
  obtain ⟨rfl, rfl⟩ := hP
  clear hcnt hrd hc0
  go_wp2_with fail
  refine (step_any a0 n0 c0 l0 g w bad l HI.out k z HK.out).mono ?_
  rintro e w2 ⟨rfl, hI2, hS2⟩
  have HI2 := Lib.hid hI2
  clear hI2
  go_wp2_with fail
  go_ret
  exact ⟨x, HF.out.1, HF.out.2.1, rfl, ⟨_, _, HI2.out, HF.out.2.2⟩, hS2⟩

set_option maxHeartbeats 400000 in
theorem in_s (a0 : Option Addr) (n0 c0 : Nat) (l0 : List UInt8) (g : Nat) (w : World) (s : Option (List UInt8)) (hI : In1 a0 n0 c0 l0 g w s) :
    Calls Tryz.prog 60 #[.pointer (some ⟨g, 0, none⟩)] w fun e w' => ∃ v : ByteArray, got gT s v ∧ e = .returned (.string v) ∧ In1 a0 n0 c0 l0 g w' (nx gT s) ∧ Stp (fun i => i = g) w.heap.size w w' := by
  obtain ⟨bad, l, hI, hs⟩ := hI
  obtain ⟨a, n, c, h1, h2⟩ := hI.blk
  have hc0 := h1.cell (j := 0) rfl
  have hrd := h2 w hI.orig
  have HI := Lib.hid hI
  have hle : (rdB l).2.2 = 0 → (rdB l).2.1 ≤ l.length := by
    unfold rdB
    split
    · intro _; simp
    · split
      · intro h; cases h
      · split
        · intro h; cases h
        · intro _; simp only; omega
  obtain ⟨x, k, z, hcnt⟩ : ∃ x y z, rdB l = (x, y, z) := ⟨_, _, _, rfl⟩
  have HF : Hid (got gT s (str x) ∧ lf (bad || z != 0) (if z = 0 then l.drop k else []) = nx gT s) := by
    refine Lib.hid ⟨?_, ?_⟩
    · intro l' p hl hp
      subst hs
      cases bad <;> simp [lf] at hl
      subst hl
      unfold gT at hp
      rw [hcnt] at hp
      simp only at hp
      split at hp <;> simp at hp
      rw [← hp]
    · subst hs
      unfold nx gT
      cases bad <;> simp only [lf, Bool.true_or, Bool.false_or, if_true, Option.bind_none, Option.bind_some, Bool.false_eq_true, if_false]
      rw [hcnt]
      simp only
      by_cases hz : z = 0
      · simp [hz]
      · simp [hz]
  have HK : Hid (z = 0 → k ≤ l.length) := Lib.hid (by rw [hcnt] at hle; exact hle)
  clear hI h1 h2 hs hle
  go_enter Tryz.func60, Tryz.ntmps60
  go_wp2_with fail
  refine (readBytes_any w a n c l hrd).mono ?_
  intro e w1 hP
  unfold RBPost at hP
  rw [hcnt] at hP
  obtain ⟨rfl, rfl⟩ := hP
  clear hcnt hrd hc0
  go_wp2_with fail
  refine (step_any a0 n0 c0 l0 g w bad l HI.out k z HK.out).mono ?_
  rintro e w2 ⟨rfl, hI2, hS2⟩
  have HI2 := Lib.hid hI2
  clear hI2
  go_wp2_with fail
  go_ret
  exact ⟨_, HF.out.1, rfl, ⟨_, _, HI2.out, HF.out.2⟩, hS2⟩

/-- how many elements -/
def gM (l : List UInt8) : Option (Int × List UInt8) := (gN l).bind fun p => if 4096 < p.1 then none else some p

set_option maxHeartbeats 400000 in
theorem in_many (a0 : Option Addr) (n0 c0 : Nat) (l0 : List UInt8) (g : Nat) (w : World) (s : Option (List UInt8)) (hI : In1 a0 n0 c0 l0 g w s) :
    Calls Tryz.prog 84 #[.pointer (some ⟨g, 0, none⟩)] w fun e w' => ∃ v : Int, (0 ≤ v ∧ v ≤ 4096) ∧ got gM s v ∧ (nx gM s = none → v = 0) ∧ e = .returned (.int .i64 v) ∧ In1 a0 n0 c0 l0 g w' (nx gM s) ∧ Stp (fun i => i = g) w.heap.size w w' := by
  have HI := Lib.hid hI
  clear hI
  go_enter Tryz.func84, Tryz.ntmps84
  go_wp2_with fail
  refine (in_n a0 n0 c0 l0 g w s HI.out).mono ?_
  rintro e w1 ⟨v, hv, hg, rfl, hI1, hS1⟩
  obtain ⟨bad, l, hI1, hl1⟩ := hI1
  obtain ⟨a, n, c, h1, h2⟩ := hI1.blk
  have hc1 := h1.cell (j := 1) rfl
  have hf1 := h1.free 1
  have HB := Lib.hid h1
  have HI1 := Lib.hid hI1
  have H2 := Lib.hid h2
  have hv0 : 0 ≤ v := hv.1
  have hvm : v ≤ 2147483647 := hv.2
  clear h1 hI1 hv h2
  by_cases hb : 4096 < v
  · have hn : nx gM s = none := by
      rcases s with _ | l'
      · rfl
      · unfold nx gM
        rw [Option.bind_some]
        rcases e2 : gN l' with _ | p
        · rfl
        · have := hg l' p rfl e2
          rw [Option.bind_some, if_pos (by omega)]; rfl
    have HN : Hid (got gM s 0 ∧ nx gM s = none) := by
      refine Lib.hid ⟨fun l' p e1 e2 => ?_, hn⟩
      subst e1
      unfold nx at hn
      rw [Option.bind_some, e2] at hn
      cases hn
    have HJ : Hid (InC a0 n0 c0 l0 g (w1.setCell ⟨g, 1, none⟩ (.bool true)) true l) := by
      refine Lib.hid ⟨HI1.out.orig.stp ((Stp.refl (fun i => i = g) _ _).set _ _ (.inl rfl)) (fun ad e hl => Nat.ne_of_lt (HI1.out.ne ad e hl)), HI1.out.ne, _, _, _, by simpa using HB.out.set 1 (.bool true), H2.out⟩
    clear hl1 hg hn
    go_wp2_with fail
    go_ret
    exact ⟨0, by omega, HN.out.1, fun _ => rfl, rfl, ⟨_, _, HJ.out, by rw [HN.out.2]; rfl⟩, hS1.set _ _ (.inl rfl)⟩
  · have HN : Hid (nx gM s = nx gN s ∧ got gM s v) := by
      rcases s with _ | l'
      · exact Lib.hid ⟨rfl, fun _ _ e _ => by cases e⟩
      · rcases e2 : gN l' with _ | p
        · refine Lib.hid ⟨by simp [nx, gM, e2], fun l2 p2 e3 e4 => ?_⟩
          cases e3; simp [gM, e2] at e4
        · have := hg l' p rfl e2
          have hp : ¬ 4096 < p.1 := by omega
          refine Lib.hid ⟨by simp only [nx, gM, e2, Option.bind_some, if_neg hp], fun l2 p2 e3 e4 => ?_⟩
          cases e3
          simp only [gM, e2, Option.bind_some, if_neg hp] at e4
          cases e4; exact this
    have HS := Lib.hid hl1
    cases bad
    · clear hl1 hg
      go_wp2_with fail
      go_ret
      refine ⟨v, by omega, HN.out.2, fun h => ?_, rfl, ⟨_, _, HI1.out, by rw [HN.out.1]; exact HS.out⟩, hS1⟩
      rw [HN.out.1, ← HS.out] at h
      cases h
    · have hn : nx gM s = none := by rw [HN.out.1, ← hl1]; rfl
      have HG : Hid (got gM s 0) := by
        refine Lib.hid fun l' p e1 e2 => ?_
        subst e1
        unfold nx at hn
        rw [Option.bind_some, e2] at hn
        cases hn
      clear hl1 hg hn
      go_wp2_with fail
      go_ret
      exact ⟨0, by omega, HG.out, fun _ => rfl, rfl, ⟨_, _, HI1.out, by rw [HN.out.1]; exact HS.out⟩, hS1⟩
end
/-! The reference's reader of layer 8: digest, head, signed, command. -/
section
open Go.RowKit
set_option maxRecDepth 100000
theorem d0_info : (Tryz.prog.info? 25).map (fun i => (i.zero, i.size)) = some (some (.agg (bs zero32).toArray), 32) := by kernel_rfl

set_option maxHeartbeats 400000 in
theorem in_d (a0 : Option Addr) (n0 c0 : Nat) (l0 : List UInt8) (g : Nat) (w : World) (s : Option (List UInt8)) (hI : In1 a0 n0 c0 l0 g w s) :
    Calls Tryz.prog 61 #[.pointer (some ⟨g, 0, none⟩)] w fun e w' => ∃ v : List UInt8, v.length = 32 ∧ got gD s v ∧ e = .returned (.agg (bs v).toArray) ∧ In1 a0 n0 c0 l0 g w' (nx gD s) ∧ Stp (fun i => i = g) w.heap.size w w' := by
  obtain ⟨bad, l, hI, hs⟩ := hI
  have HI := Lib.hid hI
  obtain ⟨x, k, z, hcnt⟩ : ∃ x y z, rdD l = (x, y, z) := ⟨_, _, _, rfl⟩
  have hgD : x.length = 32 ∧ (z = 0 → k ≤ l.length) ∧ (if z = 0 then some (x, l.drop k) else none) = gD l := by
    unfold rdD at hcnt
    unfold gD
    split at hcnt
    · cases hcnt
      refine ⟨zero32_length, fun h => ?_, ?_⟩
      · cases h
      · rw [if_neg (by omega), if_neg (by omega)]
    · cases hcnt
      refine ⟨by simp; omega, fun _ => by omega, ?_⟩
      rw [if_pos rfl, if_pos (by omega)]
  have HX : Hid (x.length = 32) := Lib.hid hgD.1
  have HK : Hid (z = 0 → k ≤ l.length) := Lib.hid hgD.2.1
  have HF : Hid (got gD s x ∧ lf (bad || z != 0) (if z = 0 then l.drop k else []) = nx gD s) := by
    refine Lib.hid ⟨?_, ?_⟩
    · intro l' p hl hp
      subst hs
      cases bad <;> simp [lf] at hl
      subst hl
      rw [← hgD.2.2] at hp
      split at hp <;> simp at hp
      rw [← hp]
    · subst hs
      unfold nx
      cases bad <;> simp only [lf, Bool.true_or, Bool.false_or, if_true, Option.bind_none, Option.bind_some, Bool.false_eq_true, if_false]
      rw [← hgD.2.2]
      by_cases hz : z = 0
      · simp [hz]
      · simp [hz]
  have I5 : Hid ((Tryz.prog.info? 25).map (·.size) = some (bs x).length) := Lib.hid (by rw [info_digest]; simp [bs_length, HX.out])
  have HL : Hid ((bs zero32).length = (bs x).length) := Lib.hid (by simp [bs_length, HX.out, zero32_length])
  have HONE : Hid (∀ v ∈ bs x, v.oneCell' = true) := Lib.hid (bs_one x)
  clear hI hs hgD
  go_enter Tryz.func61, Tryz.ntmps61
  go_wp2_with (first | ((with_reducible refine wpList_allocB (o := ⟨some 2, _, _, _, _, _⟩) ?_ 25 ?_ d0_info ?_); rfl; rfl; intro w1 hb1 hg1 hz1; have hB1 : Below w.heap.size w w1 := (Below.refl _ w).grown hg1 (Nat.le_refl _) (by simp); have hI1 : InC a0 n0 c0 l0 g w1 bad l := HI.out.below hB1; (obtain ⟨a, n, c, h1, h2⟩ := hI1.blk); have hc0 := h1.cell (j := 0) rfl))
  have hrd := h2 w1 hI1.orig
  have HI1 := Lib.hid hI1
  have HB1 := Lib.hid hB1
  have HZ1 := Lib.hid hz1
  clear h1 h2 hI1 hB1 hg1 hz1
  refine (readDigest_any w1 a n c l hrd).mono ?_
  intro e w2 hP
  unfold RDPost at hP
  rw [hcnt] at hP
  obtain ⟨rfl, hB2⟩ := hP
  have hb2 := hb1.below hB2
  have hI2 : InC a0 n0 c0 l0 g w2 bad l := HI1.out.below hB2
  have HI2 := Lib.hid hI2
  have HB2 := Lib.hid (Bt HB1.out hB2)
  clear hcnt hrd hc0 hb1 hB2 hI2
  go_wp2_with (first
    | ((with_reducible refine wpList_allocB (o := ⟨some 3, _, _, _, _, _⟩) ?_ 25 ?_ d0_info ?_); rfl; rfl; intro w3 hb3 hg3 hz3)
    | ((with_reducible refine wpList_storeB (o := ⟨none, .store 25 (.tmp 3) (.tmp 12), _, _, _, _⟩) ?_ 25 (.tmp 3) (.tmp 12) ?_ ?_ ?_ hb3 I5.out HL.out HONE.out ?_); rfl; rfl; rfl; rfl; intro w4 hb4 hg4 hz4))
  have hB4 : Below w2.heap.size w2 w4 := ((Below.refl _ w2).grown hg3 (Nat.le_refl _) (by simp)).grown hg4 (by omega) (fun k e => by cases e; exact Nat.le_refl _)
  have hI4 : InC a0 n0 c0 l0 g w4 bad l := HI2.out.below hB4
  have hb2 := hb2.below hB4
  have hlt : g < w.heap.size := HI.out.lt
  have hle : w.heap.size < w1.heap.size := by rw [HZ1.out]; omega
  have hne3 : w2.heap.size ≠ g := by have := HB2.out.size; omega
  have HB4 := Lib.hid (Bt HB2.out hB4)
  clear hb3 hg3 hz3 hg4 hz4 hB4
  refine (step_any a0 n0 c0 l0 g w4 bad l hI4 k z HK.out).mono ?_
  rintro e w5 ⟨rfl, hI5, hS5⟩
  have hb5 := hb4.stp hS5 hb4.lt hne3
  have hb25 := hb2.stp hS5 hb2.lt (by omega)
  have HI5 := Lib.hid hI5
  have HS5 := Lib.hid hS5
  clear hI4 hI5 hS5 hb2 hb4 
  go_wp2_with (first
    | ((with_reducible refine wpList_loadB (o := ⟨some 19, _, _, _, _, _⟩) ?_ 25 (.tmp 3) ?_ ?_ hb5 Tryz.underlying25 ?_ I5.out ?_); rfl; rfl; rfl; rfl)
    | ((with_reducible refine wpList_storeB (o := ⟨none, .store 25 (.tmp 2) (.tmp 19), _, _, _, _⟩) ?_ 25 (.tmp 2) (.tmp 19) ?_ ?_ ?_ hb25 I5.out HL.out HONE.out ?_); rfl; rfl; rfl; rfl; intro w6 hb6 hg6 hz6))
  apply bodyPost_ret
  exact results_blk rfl _ _ _ _ _ _ rfl hb6 Tryz.underlying25 rfl I5.out
  rfl
  have hS6 : Stp (fun i => i = g) w.heap.size w w6 := ((Stp.of HB4.out).trans (HS5.out.lower HB4.out.size)).grown hg6 (by have h1 := HS5.out.size; have h2 := HB4.out.size; omega) (fun k e => by cases e; exact .inr (Nat.le_refl _))
  have hI6 : InC a0 n0 c0 l0 g w6 (bad || z != 0) (if z = 0 then l.drop k else []) := HI5.out.stp (K := fun i => i = w.heap.size) ((Stp.refl _ _ _).grown hg6 (Nat.le_refl _) (fun k e => by cases e; exact .inl rfl)) (fun i e => by omega)
  exact ⟨x, HX.out, HF.out.1, rfl, ⟨_, _, hI6, HF.out.2⟩, hS6⟩
end
end Go.Proofs.YtoclahcibilbhaaGreat
