/-
  Package wire's fields, decoded: head, signed.
-/
import Derived.Test.YtgbhfpkngjlfkaaWirD
import Derived.Test.YtgbhfpkngjlfkaaWirB
namespace Go.Proofs.Ytgbhfpkngjlfkaa
open Go.RowKit
set_option maxRecDepth 100000

def gN (l : List UInt8) : Option (Int × List UInt8) := if (cnt 0 0 l).2.2 = 0 then some (((cnt 0 0 l).1 : Int), l.drop (cnt 0 0 l).2.1) else none
def gD (l : List UInt8) : Option (List UInt8 × List UInt8) := if 32 ≤ l.length then some (l.take 32, l.drop 32) else none
def gH (l : List UInt8) : Option (Hd × List UInt8) := (gN l).bind fun p => (gD p.2).bind fun q => (gD q.2).bind fun s => some (⟨p.1, q.1, s.1⟩, s.2)
def gS (l : List UInt8) : Option (Sg × List UInt8) := (gH l).bind fun p => (gD p.2).bind fun q => some (⟨p.1, q.1⟩, q.2)

/-- what reading does: the error, and without one the thing and what is left -/
def DecI {α : Type} (o : Option (α × List UInt8)) (err : Int) (C : α → List UInt8 → Prop) : Prop :=
  (err = 0 ∧ ∃ x l', o = some (x, l') ∧ C x l') ∨ (err ≠ 0 ∧ o = none)

theorem NumI.dec {l : List UInt8} {err : Int} {C : List UInt8 → Value → Prop} (h : NumI l err C) : DecI (gN l) err fun m l' => C l' (.int .i64 m) := by
  rcases h with ⟨h0, h1, h2⟩ | ⟨h0, h1⟩
  · exact .inl ⟨h0, _, _, by rw [gN, if_pos h1], h2⟩
  · exact .inr ⟨h0, by rw [gN, if_neg h1]⟩
theorem DigI.dec {l : List UInt8} {err : Int} {C : List UInt8 → List UInt8 → Prop} (h : DigI l err C) : DecI (gD l) err fun d l' => d.length = 32 ∧ C l' d := by
  rcases h with ⟨h0, h1, h2⟩ | ⟨h0, h1⟩
  · exact .inl ⟨h0, _, _, by rw [gD, if_pos h1], by simp; omega, h2⟩
  · exact .inr ⟨h0, by rw [gD, if_neg (by omega)]⟩

set_option maxHeartbeats 400000 in
theorem head_dec (A : Nat) (a0 : Option Addr) (n0 c0 : Nat) (l0 : List UInt8) (b r X B : Nat) (t : TypeId) (w : World) (l : List UInt8) (vs : List Value) (hD : Dc A a0 n0 c0 l0 b r X B t w l vs) (off : Nat) (hfit : off + 65 ≤ vs.length) :
    Calls Try.prog 83 #[.pointer (some ⟨b, 0, none⟩), .pointer (some ⟨X, off, none⟩)] w fun e w' => ∃ err, Abt err e ∧ (DecI (gH l) err fun x l' => x.ok ∧ Dc A a0 n0 c0 l0 b r X B t w' l' (splice vs off (hdc x))) ∧ Stp (fun k => k = r ∨ k = X) B w w' := by
  have HF := Lib.hid hfit
  obtain ⟨y, hy⟩ : ∃ y, vs[off]? = some y := ⟨vs[off], List.getElem?_eq_getElem (by omega)⟩
  clear hfit
  go_enter Try.func83, Try.ntmps83
  go_wp2_with fail
  refine (number_dec_int A a0 n0 c0 l0 b r X B t w l vs hD off y hy).mono ?_
  rintro e w1 ⟨err, he, hN, hs1⟩
  rcases hN.dec with ⟨rfl, m, l1, hg1, hD1⟩ | ⟨h0, hg1⟩
  · obtain ⟨_, rfl⟩ | ⟨h0, _⟩ := he
    rotate_left
    · exact absurd rfl h0
    have HG1 := Lib.hid hg1
    have HS1 := Lib.hid hs1
    clear hN hg1 hs1 hD hy
    go_wp2_with fail
    refine (digest_dec A a0 n0 c0 l0 b r X B t w1 l1 _ hD1 (off + 1) (by have := HF.out; rw [List.length_set]; omega)).mono ?_
    rintro e w2 ⟨err, he, hN, hs2⟩
    rcases hN.dec with ⟨rfl, d1, l2, hg2, hd1, hD2⟩ | ⟨h0, hg2⟩
    · obtain ⟨_, rfl⟩ | ⟨h0, _⟩ := he
      rotate_left
      · exact absurd rfl h0
      have HG2 := Lib.hid hg2
      have HS2 := Lib.hid hs2
      have HD1 := Lib.hid hd1
      have HE2 : Hid (splice (vs.set off (.int .i64 m)) (off + 1) (bs d1) = splice vs off (.int .i64 m :: bs d1)) := Lib.hid (splice_set vs off _ _ (by have := HF.out; omega))
      rw [HE2.out] at hD2
      have HFL : Hid (off + 33 + 32 ≤ (splice vs off (.int .i64 m :: bs d1)).length) := Lib.hid (by rw [length_splice _ _ _ (by have := HF.out; simp [bs_length, HD1.out]; omega)]; exact HF.out)
      clear hN hg2 hs2 hD1 hd1
      go_wp2_with fail
      refine (digest_dec A a0 n0 c0 l0 b r X B t w2 l2 _ hD2 (off + 33) HFL.out).mono ?_
      rintro e w3 ⟨err, he, hN, hs3⟩
      rcases hN.dec with ⟨rfl, d2, l3, hg3, hd2, hD3⟩ | ⟨h0, hg3⟩
      · obtain ⟨_, rfl⟩ | ⟨h0, _⟩ := he
        rotate_left
        · exact absurd rfl h0
        have e3 : splice (splice vs off (.int .i64 m :: bs d1)) (off + 33) (bs d2) = splice vs off (hdc ⟨m, d1, d2⟩) := by
          have := splice_next vs (.int .i64 m :: bs d1) (bs d2) off (by have := HF.out; simp [bs_length, HD1.out]; omega)
          rw [List.length_cons, bs_length, HD1.out] at this
          simpa [hdc] using this
        rw [e3] at hD3
        clear hN hD2
        go_wp2
        go_end0
        exact ⟨0, Abt.ok, .inl ⟨rfl, ⟨m, d1, d2⟩, l3, by simp [gH, HG1.out, HG2.out, hg3], ⟨HD1.out, hd2⟩, hD3⟩, (HS1.out.trans HS2.out).trans hs3⟩
      · obtain ⟨h1, _⟩ | ⟨_, rfl⟩ := he
        · exact absurd h1 h0
        exact ⟨rfl, err, Abt.no h0, .inr ⟨h0, by simp [gH, HG1.out, HG2.out, hg3]⟩, (HS1.out.trans HS2.out).trans hs3⟩
    · obtain ⟨h1, _⟩ | ⟨_, rfl⟩ := he
      · exact absurd h1 h0
      exact ⟨rfl, err, Abt.no h0, .inr ⟨h0, by simp [gH, HG1.out, hg2]⟩, HS1.out.trans hs2⟩
  · obtain ⟨h1, _⟩ | ⟨_, rfl⟩ := he
    · exact absurd h1 h0
    exact ⟨rfl, err, Abt.no h0, .inr ⟨h0, by simp [gH, hg1]⟩, hs1⟩

set_option maxHeartbeats 400000 in
theorem signed_dec (A : Nat) (a0 : Option Addr) (n0 c0 : Nat) (l0 : List UInt8) (b r X B : Nat) (t : TypeId) (w : World) (l : List UInt8) (vs : List Value) (hD : Dc A a0 n0 c0 l0 b r X B t w l vs) (off : Nat) (hfit : off + 97 ≤ vs.length) :
    Calls Try.prog 52 #[.pointer (some ⟨b, 0, none⟩), .pointer (some ⟨X, off, none⟩)] w fun e w' => ∃ err, Abt err e ∧ (DecI (gS l) err fun x l' => x.ok ∧ Dc A a0 n0 c0 l0 b r X B t w' l' (splice vs off (sgc x))) ∧ Stp (fun k => k = r ∨ k = X) B w w' := by
  have HF := Lib.hid hfit
  clear hfit
  go_enter Try.func52, Try.ntmps52
  go_wp2_with fail
  refine (head_dec A a0 n0 c0 l0 b r X B t w l vs hD off (by have := HF.out; omega)).mono ?_
  rintro e w1 ⟨err, he, hN, hs1⟩
  rcases hN with ⟨rfl, x, l1, hg1, hx, hD1⟩ | ⟨h0, hg1⟩
  · obtain ⟨_, rfl⟩ | ⟨h0, _⟩ := he
    rotate_left
    · exact absurd rfl h0
    have HG1 := Lib.hid hg1
    have HS1 := Lib.hid hs1
    have HX := Lib.hid hx
    have HFL : Hid (off + 65 + 32 ≤ (splice vs off (hdc x)).length) := Lib.hid (by rw [length_splice _ _ _ (by have := HF.out; rw [hdc_length hx]; omega)]; exact HF.out)
    clear hg1 hs1 hD hx
    go_wp2_with fail
    refine (digest_dec A a0 n0 c0 l0 b r X B t w1 l1 _ hD1 (off + 65) HFL.out).mono ?_
    rintro e w2 ⟨err, he, hN, hs2⟩
    rcases hN.dec with ⟨rfl, d1, l2, hg2, hd1, hD2⟩ | ⟨h0, hg2⟩
    · obtain ⟨_, rfl⟩ | ⟨h0, _⟩ := he
      rotate_left
      · exact absurd rfl h0
      have e3 : splice (splice vs off (hdc x)) (off + 65) (bs d1) = splice vs off (sgc ⟨x, d1⟩) := by
        have := splice_next vs (hdc x) (bs d1) off (by have := HF.out; rw [hdc_length HX.out]; omega)
        rw [hdc_length HX.out] at this
        simpa [sgc] using this
      rw [e3] at hD2
      clear hN hD1
      go_wp2
      go_end0
      exact ⟨0, Abt.ok, .inl ⟨rfl, ⟨x, d1⟩, l2, by simp [gS, HG1.out, hg2], ⟨HX.out, hd1⟩, hD2⟩, HS1.out.trans hs2⟩
    · obtain ⟨h1, _⟩ | ⟨_, rfl⟩ := he
      · exact absurd h1 h0
      exact ⟨rfl, err, Abt.no h0, .inr ⟨h0, by simp [gS, HG1.out, hg2]⟩, HS1.out.trans hs2⟩
  · obtain ⟨h1, _⟩ | ⟨_, rfl⟩ := he
    · exact absurd h1 h0
    exact ⟨rfl, err, Abt.no h0, .inr ⟨h0, by simp [gS, hg1]⟩, hs1⟩

end Go.Proofs.Ytgbhfpkngjlfkaa
