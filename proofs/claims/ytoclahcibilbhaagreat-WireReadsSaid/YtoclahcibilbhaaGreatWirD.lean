/-
  Package wire's fields, decoded: number, digest.
-/
import Derived.Test.YtoclahcibilbhaaGreatWirA
import Derived.Test.YtoclahcibilbhaaGreatLibD
namespace Go.Proofs.YtoclahcibilbhaaGreat
open Go.RowKit
set_option maxRecDepth 100000

/-- a coder that decodes: l is what is left of l0's bytes, which lie in a row of their own; the thing's cells vs lie in block X -/
structure Dc (A : Nat) (a0 : Option Addr) (n0 c0 : Nat) (l0 : List UInt8) (b r X B : Nat) (t : TypeId) (w : World) (l : List UInt8) (vs : List Value) : Prop where
  orig : Own w A (.slice a0 n0 c0) l0
  cb : Blk w b 107 [.pointer (some ⟨r, 0, none⟩), .slice none 0 0]
  xb : Blk w X t vs
  rd : ∃ a n c, Blk w r 150 [.slice a n c] ∧ ∀ W, Rd W a0 n0 c0 l0 → Rd W a n c l
  neb : b ≠ r ∧ b ≠ X ∧ r ≠ X
  lt : b < B ∧ r < B ∧ X < B
  tu : t ≠ 5
  le : B ≤ w.heap.size
section
variable {A : Nat} {a0 : Option Addr} {n0 c0 : Nat} {l0 : List UInt8} {b r X B : Nat} {t : TypeId} {w w' : World} {l l' : List UInt8} {vs : List Value}

theorem Dc.read (h : Dc A a0 n0 c0 l0 b r X B t w l vs) (hg : w.grownBy w' (some r)) (hr : ∃ a n c, Blk w' r 150 [.slice a n c] ∧ ∀ W, Rd W a0 n0 c0 l0 → Rd W a n c l') : Dc A a0 n0 c0 l0 b r X B t w' l' vs :=
  ⟨(by obtain ⟨a, n, c, h1, _⟩ := h.rd; exact h.orig.keptC hg h1.at_ (by decide)), h.cb.grown hg (by simp; exact fun e => h.neb.1 e.symm), h.xb.grown hg (by simp; exact h.neb.2.2), hr, h.neb, h.lt, h.tu, Nat.le_trans h.le hg.size⟩
theorem Dc.keep (h : Dc A a0 n0 c0 l0 b r X B t w l vs) (hg : Below w.heap.size w w') : Dc A a0 n0 c0 l0 b r X B t w' l vs :=
  ⟨h.orig.below hg, h.cb.below hg, h.xb.below hg, (by obtain ⟨a, n, c, h1, h2⟩ := h.rd; exact ⟨a, n, c, h1.below hg, h2⟩), h.neb, h.lt, h.tu, Nat.le_trans h.le hg.size⟩
theorem Dc.store (h : Dc A a0 n0 c0 l0 b r X B t w l vs) (j : Nat) (v : Value) : Dc A a0 n0 c0 l0 b r X B t (w.setCell ⟨X, j, none⟩ v) l (vs.set j v) := by
  refine ⟨h.orig.keptC (set_grown w X j v) h.xb.at_ h.tu, h.cb.setOther _ _ h.neb.2.1, h.xb.set j v, ?_, h.neb, h.lt, h.tu, by simpa [World.setCell] using h.le⟩
  obtain ⟨a, n, c, h1, h2⟩ := h.rd
  exact ⟨a, n, c, h1.setOther _ _ h.neb.2.2, h2⟩
theorem Dc.other (h : Dc A a0 n0 c0 l0 b r X B t w l vs) {Y : Nat} {t' : TypeId} {ys : List Value} (hY : Blk w Y t' ys) (ht : t' ≠ 5) (h1 : Y ≠ b) (h2 : Y ≠ r) : Dc A a0 n0 c0 l0 b r Y w.heap.size t' w l ys := by
  obtain ⟨a, n, c, k1, k2⟩ := h.rd
  exact ⟨h.orig, h.cb, hY, ⟨a, n, c, k1, k2⟩, ⟨h.neb.1, fun e => h1 e.symm, fun e => h2 e.symm⟩, ⟨h.cb.lt, k1.lt, hY.lt⟩, ht, Nat.le_refl _⟩
theorem Dc.back (h : Dc A a0 n0 c0 l0 b r X B t w l vs) {Y B' : Nat} {t' : TypeId} {ys : List Value} (h' : Dc A a0 n0 c0 l0 b r Y B' t' w' l' ys) (hs : Stp (fun k => k = r ∨ k = Y) w.heap.size w w') (hne : X ≠ Y) : Dc A a0 n0 c0 l0 b r X B t w' l' vs :=
  ⟨h'.orig, h'.cb, h.xb.stp hs h.xb.lt (fun e => by rcases e with e | e; exact h.neb.2.2 e.symm; exact hne e), h'.rd, h.neb, h.lt, h.tu, Nat.le_trans h.le hs.size⟩
theorem Dc.lift (h : Dc A a0 n0 c0 l0 b r X B t w l vs) : Dc A a0 n0 c0 l0 b r X w.heap.size t w l vs := by
  obtain ⟨a, n, c, k1, k2⟩ := h.rd
  exact ⟨h.orig, h.cb, h.xb, ⟨a, n, c, k1, k2⟩, h.neb, ⟨h.cb.lt, k1.lt, h.xb.lt⟩, h.tu, Nat.le_refl _⟩
theorem Dc.back' {B1 : Nat} (h : Dc A a0 n0 c0 l0 b r X B1 t w l vs) (hB : B ≤ w.heap.size) (hl : b < B ∧ r < B ∧ X < B) : Dc A a0 n0 c0 l0 b r X B t w l vs :=
  ⟨h.orig, h.cb, h.xb, h.rd, h.neb, hl, h.tu, hB⟩
theorem Dc.turn {vs' : List Value} (h : Dc A a0 n0 c0 l0 b r X B t w l vs) (hg : w.grownBy w' (some X)) (hb : Blk w' X t vs') : Dc A a0 n0 c0 l0 b r X B t w' l vs' := by
  refine ⟨h.orig.keptC hg h.xb.at_ h.tu, h.cb.grown hg (by simp; exact fun e => h.neb.2.1 e.symm), hb, ?_, h.neb, h.lt, h.tu, Nat.le_trans h.le hg.size⟩
  obtain ⟨a, n, c, h1, h2⟩ := h.rd
  exact ⟨a, n, c, h1.grown hg (by simp; exact fun e => h.neb.2.2 e.symm), h2⟩
end

theorem splice_one (vs : List Value) (off : Nat) (v : Value) (h : off < vs.length) : vs.set off v = splice vs off [v] := by
  rw [List.set_eq_take_append_cons_drop, if_pos h]; simp [splice]
theorem splice_next (vs c1 c2 : List Value) (off : Nat) (h : off + c1.length ≤ vs.length) : splice (splice vs off c1) (off + c1.length) c2 = splice vs off (c1 ++ c2) := by
  have h1 : (vs.take off).length = off := by simp; omega
  have e1 : (vs.take off ++ (c1 ++ vs.drop (off + c1.length))).take (off + c1.length) = vs.take off ++ c1 := by
    rw [← List.append_assoc, List.take_left' (by simp [h1])]
  have e2 : (vs.take off ++ (c1 ++ vs.drop (off + c1.length))).drop (off + c1.length + c2.length) = vs.drop (off + (c1.length + c2.length)) := by
    rw [← List.append_assoc, ← List.drop_drop, List.drop_left' (by simp [h1]), List.drop_drop]; congr 1; omega
  simp only [splice, e1, e2, List.length_append, List.append_assoc]
theorem splice_whole (vs cs : List Value) (h : cs.length = vs.length) : splice vs 0 cs = cs := by
  simp [splice, h]

/-- what reading a number does -/
def NumI (l : List UInt8) (err : Int) (C : List UInt8 → Value → Prop) : Prop :=
  (err = 0 ∧ (cnt 0 0 l).2.2 = 0 ∧ C (l.drop (cnt 0 0 l).2.1) (.int .i64 ((cnt 0 0 l).1 : Int))) ∨ (err ≠ 0 ∧ (cnt 0 0 l).2.2 ≠ 0)

set_option maxHeartbeats 400000 in
theorem number_dec_int (A : Nat) (a0 : Option Addr) (n0 c0 : Nat) (l0 : List UInt8) (b r X B : Nat) (t : TypeId) (w : World) (l : List UInt8) (vs : List Value) (hD : Dc A a0 n0 c0 l0 b r X B t w l vs) (off : Nat) (y : Value) (hy : vs[off]? = some y) :
    Calls Tryz.prog 56 #[.pointer (some ⟨b, 0, none⟩), .pointer (some ⟨X, off, none⟩)] w fun e w' => ∃ err, Abt err e ∧ (NumI l err fun l' v => Dc A a0 n0 c0 l0 b r X B t w' l' (vs.set off v)) ∧ Stp (fun k => k = r ∨ k = X) B w w' := by
  have hc0 := hD.cb.cell (j := 0) rfl
  have HD := Lib.hid hD
  have HY := Lib.hid hy
  obtain ⟨a, n, c, hr1, hr2⟩ := hD.rd
  have HR := Lib.hid hr2
  have hrd := hr2 w hD.orig.rd
  clear hD hr2 hy
  go_enter Tryz.func56, Tryz.ntmps56
  go_wp2_with fail
  refine (count_at w r l a n c hr1.at_ hrd).mono ?_
  rintro e w1 ⟨rfl, ⟨a', n', c', h1, h2⟩, hg⟩
  have hD1 := HD.out.read hg ⟨a', n', c', ⟨h1⟩, fun W hW => h2 W (HR.out W hW)⟩
  have hs1 : Stp (fun k => k = r ∨ k = X) B w w1 := (Stp.refl _ _ _).grown hg HD.out.le (fun k e => by cases e; exact .inl (.inl rfl))
  obtain ⟨x, k, z, hcnt⟩ : ∃ x y z, cnt 0 0 l = (x, y, z) := ⟨_, _, _, rfl⟩
  have HN : Hid (∀ err C, (err = 0 ∧ z = 0 ∧ C (l.drop k) (.int .i64 (x : Int))) ∨ (err ≠ 0 ∧ z ≠ 0) → NumI l err C) := Lib.hid (fun err C h => by unfold NumI; rw [hcnt]; exact h)
  rw [hcnt] at hD1 ⊢
  simp only at hD1 ⊢
  have hx := hD1.xb.cell HY.out
  have hf := hD1.xb.free off
  have HD1 := Lib.hid hD1
  clear hcnt h1 h2 hg hD1 hr1 hrd hc0
  go_wp2_with fail
  refine (must_any _ _).mono ?_
  rintro e w' ⟨he, rfl⟩
  obtain ⟨h0, rfl⟩ | ⟨h0, rfl⟩ := he
  · go_wp2
    go_end0
    exact ⟨0, Abt.ok, HN.out _ _ (.inl ⟨rfl, by omega, HD1.out.store _ _⟩), hs1.set _ _ (.inl (.inr rfl))⟩
  · exact ⟨rfl, z, Abt.no h0, HN.out _ _ (.inr ⟨h0, by omega⟩), hs1⟩

/-- what reading a digest does -/
def DigI (l : List UInt8) (err : Int) (C : List UInt8 → List UInt8 → Prop) : Prop :=
  (err = 0 ∧ 32 ≤ l.length ∧ C (l.drop 32) (l.take 32)) ∨ (err ≠ 0 ∧ l.length < 32)

set_option maxHeartbeats 400000 in
theorem digest_dec (A : Nat) (a0 : Option Addr) (n0 c0 : Nat) (l0 : List UInt8) (b r X B : Nat) (t : TypeId) (w : World) (l : List UInt8) (vs : List Value) (hD : Dc A a0 n0 c0 l0 b r X B t w l vs) (off : Nat) (hfit : off + 32 ≤ vs.length) :
    Calls Tryz.prog 58 #[.pointer (some ⟨b, 0, none⟩), .pointer (some ⟨X, off, none⟩)] w fun e w' => ∃ err, Abt err e ∧ (DigI l err fun l' d => Dc A a0 n0 c0 l0 b r X B t w' l' (splice vs off (bs d))) ∧ Stp (fun k => k = r ∨ k = X) B w w' := by
  have hc0 := hD.cb.cell (j := 0) rfl
  have HD := Lib.hid hD
  have HF := Lib.hid hfit
  obtain ⟨a, n, c, hr1, hr2⟩ := hD.rd
  have HR := Lib.hid hr2
  have hrd := hr2 w hD.orig.rd
  clear hD hr2 hfit
  by_cases h32 : 32 ≤ l.length
  · have H32 := Lib.hid h32
    go_enter Tryz.func58, Tryz.ntmps58
    go_wp2_with fail
    refine (digest_at w r l a n c hr1.at_ hrd h32).mono ?_
    rintro e w1 ⟨rfl, ⟨a', n', c', h1, h2⟩, hg⟩
    have hD1 := HD.out.read hg ⟨a', n', c', ⟨h1⟩, fun W hW => h2 W (HR.out W hW)⟩
    have hs1 : Stp (fun k => k = r ∨ k = X) B w w1 := (Stp.refl _ _ _).grown hg HD.out.le (fun k e => by cases e; exact .inl (.inl rfl))
    have HDL : Hid ((l.take 32).length = 32) := Lib.hid (by simp; omega)
    have HN : Hid (∀ C, C (l.drop 32) (l.take 32) → DigI l 0 C) := Lib.hid (fun C h => .inl ⟨rfl, h32, h⟩)
    generalize l.take 32 = d at HDL HN ⊢
    generalize l.drop 32 = l' at hD1 HN ⊢
    have HD1 := Lib.hid hD1
    have HS1 := Lib.hid hs1
    clear h1 h2 hg hD1 hr1 hrd hc0 hs1 h32
    go_wp2_with (first
      | (refine wpList_allocD rfl rfl ?_; intro w2 hr2 hg2 hz2)
      | (refine wpList_storeD rfl _ _ rfl rfl rfl hr2 HDL.out zero32_length ?_; intro w3 hr3 hg3 hz3))
    refine (must_any _ _).mono ?_
    rintro e w' ⟨he, rfl⟩
    obtain ⟨h0, rfl⟩ | ⟨h0, _⟩ := he
    rotate_left
    · exact absurd rfl h0
    have hB3 : Below w1.heap.size w1 w3 := ((Below.refl _ w1).grown hg2 (Nat.le_refl _) (by simp)).grown hg3 (by omega) (fun k e => by cases e; exact Nat.le_refl _)
    have hD3 := HD1.out.keep hB3
    have hX3 := hD3.xb
    have HB3 := Lib.hid hB3
    have HD3 := Lib.hid hD3
    have I5 : Hid ((Tryz.prog.info? 25).map (·.size) = some (bs d).length) := Lib.hid (by rw [info_digest]; simp [bs_length, HDL.out])
    have HFB : Hid (off + (bs d).length ≤ vs.length) := Lib.hid (by rw [bs_length, HDL.out]; exact HF.out)
    have HONE : Hid (∀ v ∈ bs d, v.oneCell' = true) := Lib.hid (fun v hv => bs_one d v hv)
    clear hB3 hD3 hg2 hg3
    go_wp2_with (first
      | (refine wpList_digest rfl _ rfl rfl HDL.out hr3 ?_)
      | ((with_reducible refine wpList_storeM (o := ⟨none, .store 25 (.tmp 29) (.tmp 28), _, _, _, _⟩) ?_ X off 25 (.tmp 29) (.tmp 28) ?_ ?_ ?_ hX3 HFB.out I5.out HONE.out ?_); rfl; rfl; rfl; rfl; intro w4 hr4 hg4 hz4))
    go_end0
    exact ⟨0, Abt.ok, HN.out _ (HD3.out.turn hg4 hr4), (HS1.out.trans (Stp.of (HB3.out.mono HD1.out.le))).grown hg4 HD3.out.le (fun k e => by cases e; exact .inl (.inr rfl))⟩
  · go_enter Tryz.func58, Tryz.ntmps58
    go_wp2_with fail
    refine (digest_short w r l ⟨a, n, c, hr1.at_, hrd⟩ (by omega)).mono ?_
    rintro e w1 ⟨rfl, hB1⟩
    have HB1 := Lib.hid hB1
    clear hB1 hr1 hrd hc0
    go_wp2_with (first
      | (refine wpList_allocD rfl rfl ?_; intro w2 hr2 hg2 hz2)
      | (refine wpList_storeD rfl _ _ rfl rfl rfl hr2 zero32_length zero32_length ?_; intro w3 hr3 hg3 hz3))
    refine (must_any _ _).mono ?_
    rintro e w' ⟨he, rfl⟩
    obtain ⟨h0, _⟩ | ⟨h0, rfl⟩ := he
    · exact absurd h0 (by decide)
    have hB3 : Below w1.heap.size w1 w3 := ((Below.refl _ w1).grown hg2 (Nat.le_refl _) (by simp)).grown hg3 (by omega) (fun k e => by cases e; exact Nat.le_refl _)
    exact ⟨rfl, 10, Abt.no (by decide), .inr ⟨by decide, by omega⟩, Stp.of ((HB1.out.trans (hB3.mono HB1.out.size)).mono HD.out.le)⟩

end Go.Proofs.YtoclahcibilbhaaGreat
