/-
  Package wire's fields: numbers of other types, and texts.
-/
import Derived.Test.YtoclahcibilbhaaGreatWirE
namespace Go.Proofs.YtoclahcibilbhaaGreat
open Go.RowKit
set_option maxRecDepth 100000


set_option maxHeartbeats 400000 in
theorem number_enc_CmdKind (w : World) (b B : Nat) (out : List UInt8) (hC : CdX w b B out) (p : Addr) (m : Int) (hp : w.cell? p = some (.int .i64 m)) (ho : out.length ≤ 70368744177664) :
    Calls Tryz.prog 55 #[.pointer (some ⟨b, 0, none⟩), .pointer (some p)] w fun e w' => ∃ err, Abt err e ∧ (NumO m out err fun l => CdX w' b B l) ∧ Stp (· = b) B w w' := by
  obtain ⟨n, ao, co, hc⟩ := hC
  have hc0 := hc.blk.cell (j := 0) rfl
  have HC := Lib.hid hc
  have HO := Lib.hid ho
  clear hc ho
  by_cases hm : 0 ≤ m ∧ m ≤ 2147483647
  · obtain ⟨h0, h1⟩ := hm
    have he5 := encC_len m.toNat (by omega)
    go_enter Tryz.func55, Tryz.ntmps55
    go_wp2_with fail
    refine (putCount_ok w none 0 0 m [] (Rd.nil0 w) (by omega) h0 h1).mono ?_
    rintro e w1 ⟨v, rfl, hO1, hB1⟩
    obtain ⟨a1, c1, rfl⟩ := hO1.shape
    have hC1 := HC.out.below hB1
    have hr1 := hO1.rd
    have hlen : ([] ++ encC m.toNat).length ≤ 5 := by simpa using he5
    have HB1 := Lib.hid hB1
    clear hB1 hO1 hc0
    go_wp2_with fail
    refine (add_ok w1 b B out ⟨_, _, _, hC1⟩ a1 _ c1 _ hr1 (by omega) HO.out).mono ?_
    rintro e w2 ⟨rfl, hC2, hs2⟩
    go_wp2
    apply bodyPost_ret
    exact results_none rfl _ _ _
    rfl
    exact ⟨0, Abt.ok, .inl ⟨rfl, h0, h1, by simpa using hC2⟩, (Stp.of (HB1.out.mono HC.out.le)).trans hs2⟩
  · have hm' : m < 0 ∨ 2147483647 < m := by omega
    go_enter Tryz.func55, Tryz.ntmps55
    go_wp2_with fail
    refine (putCount_no w none 0 0 m hm').mono ?_
    rintro e w1 ⟨rfl, rfl⟩
    go_wp2_with fail
    refine (add_no w b _ 1 (by decide)).mono ?_
    rintro e w1 ⟨he, rfl⟩
    obtain ⟨h0, _⟩ | ⟨_, rfl⟩ := he
    · exact absurd h0 (by decide)
    exact ⟨rfl, 1, Abt.no (by decide), .inr ⟨rfl, hm'⟩, Stp.refl _ _ _⟩

set_option maxHeartbeats 400000 in
theorem number_dec_CmdKind (A : Nat) (a0 : Option Addr) (n0 c0 : Nat) (l0 : List UInt8) (b r X B : Nat) (t : TypeId) (w : World) (l : List UInt8) (vs : List Value) (hD : Dc A a0 n0 c0 l0 b r X B t w l vs) (off : Nat) (y : Value) (hy : vs[off]? = some y) :
    Calls Tryz.prog 55 #[.pointer (some ⟨b, 0, none⟩), .pointer (some ⟨X, off, none⟩)] w fun e w' => ∃ err, Abt err e ∧ (NumI l err fun l' v => Dc A a0 n0 c0 l0 b r X B t w' l' (vs.set off v)) ∧ Stp (fun k => k = r ∨ k = X) B w w' := by
  have hc0 := hD.cb.cell (j := 0) rfl
  have HD := Lib.hid hD
  have HY := Lib.hid hy
  obtain ⟨a, n, c, hr1, hr2⟩ := hD.rd
  have HR := Lib.hid hr2
  have hrd := hr2 w hD.orig.rd
  clear hD hr2 hy
  go_enter Tryz.func55, Tryz.ntmps55
  go_wp2_with fail
  refine (count_at w r l a n c hr1.at_ hrd).mono ?_
  rintro e w1 ⟨rfl, ⟨a', n', c', h1, h2⟩, hg⟩
  have hD1 := HD.out.read hg ⟨a', n', c', ⟨h1⟩, fun W hW => h2 W (HR.out W hW)⟩
  have hs1 : Stp (fun k => k = r ∨ k = X) B w w1 := (Stp.refl _ _ _).grown hg HD.out.le (fun k e => by cases e; exact .inl (.inl rfl))
  obtain ⟨x, k, z, hcnt⟩ : ∃ x y z, cnt 0 0 l = (x, y, z) := ⟨_, _, _, rfl⟩
  have HN : Hid (∀ err C, (err = 0 ∧ z = 0 ∧ C (l.drop k) (.int .i64 (x : Int))) ∨ (err ≠ 0 ∧ z ≠ 0) → NumI l err C) := Lib.hid (fun err C h => by unfold NumI; rw [hcnt]; exact h)
  rw [hcnt] at hD1 ⊢
  simp only at hD1 ⊢
  have hx := hD1.xb.cell HY.out
  have hf := hD1.xb.free off
  have HD1 := Lib.hid hD1
  clear hcnt h1 h2 hg hD1 hr1 hrd hc0
  go_wp2_with fail
  refine (must_any _ _).mono ?_
  rintro e w' ⟨he, rfl⟩
  obtain ⟨h0, rfl⟩ | ⟨h0, rfl⟩ := he
  · go_wp2
    go_end0
    exact ⟨0, Abt.ok, HN.out _ _ (.inl ⟨rfl, by omega, HD1.out.store _ _⟩), hs1.set _ _ (.inl (.inr rfl))⟩
  · exact ⟨rfl, z, Abt.no h0, HN.out _ _ (.inr ⟨h0, by omega⟩), hs1⟩


set_option maxHeartbeats 400000 in
theorem number_enc_EntryKind (w : World) (b B : Nat) (out : List UInt8) (hC : CdX w b B out) (p : Addr) (m : Int) (hp : w.cell? p = some (.int .i64 m)) (ho : out.length ≤ 70368744177664) :
    Calls Tryz.prog 64 #[.pointer (some ⟨b, 0, none⟩), .pointer (some p)] w fun e w' => ∃ err, Abt err e ∧ (NumO m out err fun l => CdX w' b B l) ∧ Stp (· = b) B w w' := by
  obtain ⟨n, ao, co, hc⟩ := hC
  have hc0 := hc.blk.cell (j := 0) rfl
  have HC := Lib.hid hc
  have HO := Lib.hid ho
  clear hc ho
  by_cases hm : 0 ≤ m ∧ m ≤ 2147483647
  · obtain ⟨h0, h1⟩ := hm
    have he5 := encC_len m.toNat (by omega)
    go_enter Tryz.func64, Tryz.ntmps64
    go_wp2_with fail
    refine (putCount_ok w none 0 0 m [] (Rd.nil0 w) (by omega) h0 h1).mono ?_
    rintro e w1 ⟨v, rfl, hO1, hB1⟩
    obtain ⟨a1, c1, rfl⟩ := hO1.shape
    have hC1 := HC.out.below hB1
    have hr1 := hO1.rd
    have hlen : ([] ++ encC m.toNat).length ≤ 5 := by simpa using he5
    have HB1 := Lib.hid hB1
    clear hB1 hO1 hc0
    go_wp2_with fail
    refine (add_ok w1 b B out ⟨_, _, _, hC1⟩ a1 _ c1 _ hr1 (by omega) HO.out).mono ?_
    rintro e w2 ⟨rfl, hC2, hs2⟩
    go_wp2
    apply bodyPost_ret
    exact results_none rfl _ _ _
    rfl
    exact ⟨0, Abt.ok, .inl ⟨rfl, h0, h1, by simpa using hC2⟩, (Stp.of (HB1.out.mono HC.out.le)).trans hs2⟩
  · have hm' : m < 0 ∨ 2147483647 < m := by omega
    go_enter Tryz.func64, Tryz.ntmps64
    go_wp2_with fail
    refine (putCount_no w none 0 0 m hm').mono ?_
    rintro e w1 ⟨rfl, rfl⟩
    go_wp2_with fail
    refine (add_no w b _ 1 (by decide)).mono ?_
    rintro e w1 ⟨he, rfl⟩
    obtain ⟨h0, _⟩ | ⟨_, rfl⟩ := he
    · exact absurd h0 (by decide)
    exact ⟨rfl, 1, Abt.no (by decide), .inr ⟨rfl, hm'⟩, Stp.refl _ _ _⟩

set_option maxHeartbeats 400000 in
theorem number_dec_EntryKind (A : Nat) (a0 : Option Addr) (n0 c0 : Nat) (l0 : List UInt8) (b r X B : Nat) (t : TypeId) (w : World) (l : List UInt8) (vs : List Value) (hD : Dc A a0 n0 c0 l0 b r X B t w l vs) (off : Nat) (y : Value) (hy : vs[off]? = some y) :
    Calls Tryz.prog 64 #[.pointer (some ⟨b, 0, none⟩), .pointer (some ⟨X, off, none⟩)] w fun e w' => ∃ err, Abt err e ∧ (NumI l err fun l' v => Dc A a0 n0 c0 l0 b r X B t w' l' (vs.set off v)) ∧ Stp (fun k => k = r ∨ k = X) B w w' := by
  have hc0 := hD.cb.cell (j := 0) rfl
  have HD := Lib.hid hD
  have HY := Lib.hid hy
  obtain ⟨a, n, c, hr1, hr2⟩ := hD.rd
  have HR := Lib.hid hr2
  have hrd := hr2 w hD.orig.rd
  clear hD hr2 hy
  go_enter Tryz.func64, Tryz.ntmps64
  go_wp2_with fail
  refine (count_at w r l a n c hr1.at_ hrd).mono ?_
  rintro e w1 ⟨rfl, ⟨a', n', c', h1, h2⟩, hg⟩
  have hD1 := HD.out.read hg ⟨a', n', c', ⟨h1⟩, fun W hW => h2 W (HR.out W hW)⟩
  have hs1 : Stp (fun k => k = r ∨ k = X) B w w1 := (Stp.refl _ _ _).grown hg HD.out.le (fun k e => by cases e; exact .inl (.inl rfl))
  obtain ⟨x, k, z, hcnt⟩ : ∃ x y z, cnt 0 0 l = (x, y, z) := ⟨_, _, _, rfl⟩
  have HN : Hid (∀ err C, (err = 0 ∧ z = 0 ∧ C (l.drop k) (.int .i64 (x : Int))) ∨ (err ≠ 0 ∧ z ≠ 0) → NumI l err C) := Lib.hid (fun err C h => by unfold NumI; rw [hcnt]; exact h)
  rw [hcnt] at hD1 ⊢
  simp only at hD1 ⊢
  have hx := hD1.xb.cell HY.out
  have hf := hD1.xb.free off
  have HD1 := Lib.hid hD1
  clear hcnt h1 h2 hg hD1 hr1 hrd hc0
  go_wp2_with fail
  refine (must_any _ _).mono ?_
  rintro e w' ⟨he, rfl⟩
  obtain ⟨h0, rfl⟩ | ⟨h0, rfl⟩ := he
  · go_wp2
    go_end0
    exact ⟨0, Abt.ok, HN.out _ _ (.inl ⟨rfl, by omega, HD1.out.store _ _⟩), hs1.set _ _ (.inl (.inr rfl))⟩
  · exact ⟨rfl, z, Abt.no h0, HN.out _ _ (.inr ⟨h0, by omega⟩), hs1⟩


set_option maxHeartbeats 400000 in
theorem number_enc_RecordKind (w : World) (b B : Nat) (out : List UInt8) (hC : CdX w b B out) (p : Addr) (m : Int) (hp : w.cell? p = some (.int .i64 m)) (ho : out.length ≤ 70368744177664) :
    Calls Tryz.prog 70 #[.pointer (some ⟨b, 0, none⟩), .pointer (some p)] w fun e w' => ∃ err, Abt err e ∧ (NumO m out err fun l => CdX w' b B l) ∧ Stp (· = b) B w w' := by
  obtain ⟨n, ao, co, hc⟩ := hC
  have hc0 := hc.blk.cell (j := 0) rfl
  have HC := Lib.hid hc
  have HO := Lib.hid ho
  clear hc ho
  by_cases hm : 0 ≤ m ∧ m ≤ 2147483647
  · obtain ⟨h0, h1⟩ := hm
    have he5 := encC_len m.toNat (by omega)
    go_enter Tryz.func70, Tryz.ntmps70
    go_wp2_with fail
    refine (putCount_ok w none 0 0 m [] (Rd.nil0 w) (by omega) h0 h1).mono ?_
    rintro e w1 ⟨v, rfl, hO1, hB1⟩
    obtain ⟨a1, c1, rfl⟩ := hO1.shape
    have hC1 := HC.out.below hB1
    have hr1 := hO1.rd
    have hlen : ([] ++ encC m.toNat).length ≤ 5 := by simpa using he5
    have HB1 := Lib.hid hB1
    clear hB1 hO1 hc0
    go_wp2_with fail
    refine (add_ok w1 b B out ⟨_, _, _, hC1⟩ a1 _ c1 _ hr1 (by omega) HO.out).mono ?_
    rintro e w2 ⟨rfl, hC2, hs2⟩
    go_wp2
    apply bodyPost_ret
    exact results_none rfl _ _ _
    rfl
    exact ⟨0, Abt.ok, .inl ⟨rfl, h0, h1, by simpa using hC2⟩, (Stp.of (HB1.out.mono HC.out.le)).trans hs2⟩
  · have hm' : m < 0 ∨ 2147483647 < m := by omega
    go_enter Tryz.func70, Tryz.ntmps70
    go_wp2_with fail
    refine (putCount_no w none 0 0 m hm').mono ?_
    rintro e w1 ⟨rfl, rfl⟩
    go_wp2_with fail
    refine (add_no w b _ 1 (by decide)).mono ?_
    rintro e w1 ⟨he, rfl⟩
    obtain ⟨h0, _⟩ | ⟨_, rfl⟩ := he
    · exact absurd h0 (by decide)
    exact ⟨rfl, 1, Abt.no (by decide), .inr ⟨rfl, hm'⟩, Stp.refl _ _ _⟩

set_option maxHeartbeats 400000 in
theorem number_dec_RecordKind (A : Nat) (a0 : Option Addr) (n0 c0 : Nat) (l0 : List UInt8) (b r X B : Nat) (t : TypeId) (w : World) (l : List UInt8) (vs : List Value) (hD : Dc A a0 n0 c0 l0 b r X B t w l vs) (off : Nat) (y : Value) (hy : vs[off]? = some y) :
    Calls Tryz.prog 70 #[.pointer (some ⟨b, 0, none⟩), .pointer (some ⟨X, off, none⟩)] w fun e w' => ∃ err, Abt err e ∧ (NumI l err fun l' v => Dc A a0 n0 c0 l0 b r X B t w' l' (vs.set off v)) ∧ Stp (fun k => k = r ∨ k = X) B w w' := by
  have hc0 := hD.cb.cell (j := 0) rfl
  have HD := Lib.hid hD
  have HY := Lib.hid hy
  obtain ⟨a, n, c, hr1, hr2⟩ := hD.rd
  have HR := Lib.hid hr2
  have hrd := hr2 w hD.orig.rd
  clear hD hr2 hy
  go_enter Tryz.func70, Tryz.ntmps70
  go_wp2_with fail
  refine (count_at w r l a n c hr1.at_ hrd).mono ?_
  rintro e w1 ⟨rfl, ⟨a', n', c', h1, h2⟩, hg⟩
  have hD1 := HD.out.read hg ⟨a', n', c', ⟨h1⟩, fun W hW => h2 W (HR.out W hW)⟩
  have hs1 : Stp (fun k => k = r ∨ k = X) B w w1 := (Stp.refl _ _ _).grown hg HD.out.le (fun k e => by cases e; exact .inl (.inl rfl))
  obtain ⟨x, k, z, hcnt⟩ : ∃ x y z, cnt 0 0 l = (x, y, z) := ⟨_, _, _, rfl⟩
  have HN : Hid (∀ err C, (err = 0 ∧ z = 0 ∧ C (l.drop k) (.int .i64 (x : Int))) ∨ (err ≠ 0 ∧ z ≠ 0) → NumI l err C) := Lib.hid (fun err C h => by unfold NumI; rw [hcnt]; exact h)
  rw [hcnt] at hD1 ⊢
  simp only at hD1 ⊢
  have hx := hD1.xb.cell HY.out
  have hf := hD1.xb.free off
  have HD1 := Lib.hid hD1
  clear hcnt h1 h2 hg hD1 hr1 hrd hc0
  go_wp2_with fail
  refine (must_any _ _).mono ?_
  rintro e w' ⟨he, rfl⟩
  obtain ⟨h0, rfl⟩ | ⟨h0, rfl⟩ := he
  · go_wp2
    go_end0
    exact ⟨0, Abt.ok, HN.out _ _ (.inl ⟨rfl, by omega, HD1.out.store _ _⟩), hs1.set _ _ (.inl (.inr rfl))⟩
  · exact ⟨rfl, z, Abt.no h0, HN.out _ _ (.inr ⟨h0, by omega⟩), hs1⟩


set_option maxHeartbeats 400000 in
theorem number_enc_VerKind (w : World) (b B : Nat) (out : List UInt8) (hC : CdX w b B out) (p : Addr) (m : Int) (hp : w.cell? p = some (.int .i64 m)) (ho : out.length ≤ 70368744177664) :
    Calls Tryz.prog 110 #[.pointer (some ⟨b, 0, none⟩), .pointer (some p)] w fun e w' => ∃ err, Abt err e ∧ (NumO m out err fun l => CdX w' b B l) ∧ Stp (· = b) B w w' := by
  obtain ⟨n, ao, co, hc⟩ := hC
  have hc0 := hc.blk.cell (j := 0) rfl
  have HC := Lib.hid hc
  have HO := Lib.hid ho
  clear hc ho
  by_cases hm : 0 ≤ m ∧ m ≤ 2147483647
  · obtain ⟨h0, h1⟩ := hm
    have he5 := encC_len m.toNat (by omega)
    go_enter Tryz.func110, Tryz.ntmps110
    go_wp2_with fail
    refine (putCount_ok w none 0 0 m [] (Rd.nil0 w) (by omega) h0 h1).mono ?_
    rintro e w1 ⟨v, rfl, hO1, hB1⟩
    obtain ⟨a1, c1, rfl⟩ := hO1.shape
    have hC1 := HC.out.below hB1
    have hr1 := hO1.rd
    have hlen : ([] ++ encC m.toNat).length ≤ 5 := by simpa using he5
    have HB1 := Lib.hid hB1
    clear hB1 hO1 hc0
    go_wp2_with fail
    refine (add_ok w1 b B out ⟨_, _, _, hC1⟩ a1 _ c1 _ hr1 (by omega) HO.out).mono ?_
    rintro e w2 ⟨rfl, hC2, hs2⟩
    go_wp2
    apply bodyPost_ret
    exact results_none rfl _ _ _
    rfl
    exact ⟨0, Abt.ok, .inl ⟨rfl, h0, h1, by simpa using hC2⟩, (Stp.of (HB1.out.mono HC.out.le)).trans hs2⟩
  · have hm' : m < 0 ∨ 2147483647 < m := by omega
    go_enter Tryz.func110, Tryz.ntmps110
    go_wp2_with fail
    refine (putCount_no w none 0 0 m hm').mono ?_
    rintro e w1 ⟨rfl, rfl⟩
    go_wp2_with fail
    refine (add_no w b _ 1 (by decide)).mono ?_
    rintro e w1 ⟨he, rfl⟩
    obtain ⟨h0, _⟩ | ⟨_, rfl⟩ := he
    · exact absurd h0 (by decide)
    exact ⟨rfl, 1, Abt.no (by decide), .inr ⟨rfl, hm'⟩, Stp.refl _ _ _⟩

set_option maxHeartbeats 400000 in
theorem number_dec_VerKind (A : Nat) (a0 : Option Addr) (n0 c0 : Nat) (l0 : List UInt8) (b r X B : Nat) (t : TypeId) (w : World) (l : List UInt8) (vs : List Value) (hD : Dc A a0 n0 c0 l0 b r X B t w l vs) (off : Nat) (y : Value) (hy : vs[off]? = some y) :
    Calls Tryz.prog 110 #[.pointer (some ⟨b, 0, none⟩), .pointer (some ⟨X, off, none⟩)] w fun e w' => ∃ err, Abt err e ∧ (NumI l err fun l' v => Dc A a0 n0 c0 l0 b r X B t w' l' (vs.set off v)) ∧ Stp (fun k => k = r ∨ k = X) B w w' := by
  have hc0 := hD.cb.cell (j := 0) rfl
  have HD := Lib.hid hD
  have HY := Lib.hid hy
  obtain ⟨a, n, c, hr1, hr2⟩ := hD.rd
  have HR := Lib.hid hr2
  have hrd := hr2 w hD.orig.rd
  clear hD hr2 hy
  go_enter Tryz.func110, Tryz.ntmps110
  go_wp2_with fail
  refine (count_at w r l a n c hr1.at_ hrd).mono ?_
  rintro e w1 ⟨rfl, ⟨a', n', c', h1, h2⟩, hg⟩
  have hD1 := HD.out.read hg ⟨a', n', c', ⟨h1⟩, fun W hW => h2 W (HR.out W hW)⟩
  have hs1 : Stp (fun k => k = r ∨ k = X) B w w1 := (Stp.refl _ _ _).grown hg HD.out.le (fun k e => by cases e; exact .inl (.inl rfl))
  obtain ⟨x, k, z, hcnt⟩ : ∃ x y z, cnt 0 0 l = (x, y, z) := ⟨_, _, _, rfl⟩
  have HN : Hid (∀ err C, (err = 0 ∧ z = 0 ∧ C (l.drop k) (.int .i64 (x : Int))) ∨ (err ≠ 0 ∧ z ≠ 0) → NumI l err C) := Lib.hid (fun err C h => by unfold NumI; rw [hcnt]; exact h)
  rw [hcnt] at hD1 ⊢
  simp only at hD1 ⊢
  have hx := hD1.xb.cell HY.out
  have hf := hD1.xb.free off
  have HD1 := Lib.hid hD1
  clear hcnt h1 h2 hg hD1 hr1 hrd hc0
  go_wp2_with fail
  refine (must_any _ _).mono ?_
  rintro e w' ⟨he, rfl⟩
  obtain ⟨h0, rfl⟩ | ⟨h0, rfl⟩ := he
  · go_wp2
    go_end0
    exact ⟨0, Abt.ok, HN.out _ _ (.inl ⟨rfl, by omega, HD1.out.store _ _⟩), hs1.set _ _ (.inl (.inr rfl))⟩
  · exact ⟨rfl, z, Abt.no h0, HN.out _ _ (.inr ⟨h0, by omega⟩), hs1⟩


set_option maxHeartbeats 400000 in
theorem number_enc_Errno (w : World) (b B : Nat) (out : List UInt8) (hC : CdX w b B out) (p : Addr) (m : Int) (hp : w.cell? p = some (.int .i64 m)) (ho : out.length ≤ 70368744177664) :
    Calls Tryz.prog 105 #[.pointer (some ⟨b, 0, none⟩), .pointer (some p)] w fun e w' => ∃ err, Abt err e ∧ (NumO m out err fun l => CdX w' b B l) ∧ Stp (· = b) B w w' := by
  obtain ⟨n, ao, co, hc⟩ := hC
  have hc0 := hc.blk.cell (j := 0) rfl
  have HC := Lib.hid hc
  have HO := Lib.hid ho
  clear hc ho
  by_cases hm : 0 ≤ m ∧ m ≤ 2147483647
  · obtain ⟨h0, h1⟩ := hm
    have he5 := encC_len m.toNat (by omega)
    go_enter Tryz.func105, Tryz.ntmps105
    go_wp2_with fail
    refine (putCount_ok w none 0 0 m [] (Rd.nil0 w) (by omega) h0 h1).mono ?_
    rintro e w1 ⟨v, rfl, hO1, hB1⟩
    obtain ⟨a1, c1, rfl⟩ := hO1.shape
    have hC1 := HC.out.below hB1
    have hr1 := hO1.rd
    have hlen : ([] ++ encC m.toNat).length ≤ 5 := by simpa using he5
    have HB1 := Lib.hid hB1
    clear hB1 hO1 hc0
    go_wp2_with fail
    refine (add_ok w1 b B out ⟨_, _, _, hC1⟩ a1 _ c1 _ hr1 (by omega) HO.out).mono ?_
    rintro e w2 ⟨rfl, hC2, hs2⟩
    go_wp2
    apply bodyPost_ret
    exact results_none rfl _ _ _
    rfl
    exact ⟨0, Abt.ok, .inl ⟨rfl, h0, h1, by simpa using hC2⟩, (Stp.of (HB1.out.mono HC.out.le)).trans hs2⟩
  · have hm' : m < 0 ∨ 2147483647 < m := by omega
    go_enter Tryz.func105, Tryz.ntmps105
    go_wp2_with fail
    refine (putCount_no w none 0 0 m hm').mono ?_
    rintro e w1 ⟨rfl, rfl⟩
    go_wp2_with fail
    refine (add_no w b _ 1 (by decide)).mono ?_
    rintro e w1 ⟨he, rfl⟩
    obtain ⟨h0, _⟩ | ⟨_, rfl⟩ := he
    · exact absurd h0 (by decide)
    exact ⟨rfl, 1, Abt.no (by decide), .inr ⟨rfl, hm'⟩, Stp.refl _ _ _⟩

set_option maxHeartbeats 400000 in
theorem number_dec_Errno (A : Nat) (a0 : Option Addr) (n0 c0 : Nat) (l0 : List UInt8) (b r X B : Nat) (t : TypeId) (w : World) (l : List UInt8) (vs : List Value) (hD : Dc A a0 n0 c0 l0 b r X B t w l vs) (off : Nat) (y : Value) (hy : vs[off]? = some y) :
    Calls Tryz.prog 105 #[.pointer (some ⟨b, 0, none⟩), .pointer (some ⟨X, off, none⟩)] w fun e w' => ∃ err, Abt err e ∧ (NumI l err fun l' v => Dc A a0 n0 c0 l0 b r X B t w' l' (vs.set off v)) ∧ Stp (fun k => k = r ∨ k = X) B w w' := by
  have hc0 := hD.cb.cell (j := 0) rfl
  have HD := Lib.hid hD
  have HY := Lib.hid hy
  obtain ⟨a, n, c, hr1, hr2⟩ := hD.rd
  have HR := Lib.hid hr2
  have hrd := hr2 w hD.orig.rd
  clear hD hr2 hy
  go_enter Tryz.func105, Tryz.ntmps105
  go_wp2_with fail
  refine (count_at w r l a n c hr1.at_ hrd).mono ?_
  rintro e w1 ⟨rfl, ⟨a', n', c', h1, h2⟩, hg⟩
  have hD1 := HD.out.read hg ⟨a', n', c', ⟨h1⟩, fun W hW => h2 W (HR.out W hW)⟩
  have hs1 : Stp (fun k => k = r ∨ k = X) B w w1 := (Stp.refl _ _ _).grown hg HD.out.le (fun k e => by cases e; exact .inl (.inl rfl))
  obtain ⟨x, k, z, hcnt⟩ : ∃ x y z, cnt 0 0 l = (x, y, z) := ⟨_, _, _, rfl⟩
  have HN : Hid (∀ err C, (err = 0 ∧ z = 0 ∧ C (l.drop k) (.int .i64 (x : Int))) ∨ (err ≠ 0 ∧ z ≠ 0) → NumI l err C) := Lib.hid (fun err C h => by unfold NumI; rw [hcnt]; exact h)
  rw [hcnt] at hD1 ⊢
  simp only at hD1 ⊢
  have hx := hD1.xb.cell HY.out
  have hf := hD1.xb.free off
  have HD1 := Lib.hid hD1
  clear hcnt h1 h2 hg hD1 hr1 hrd hc0
  go_wp2_with fail
  refine (must_any _ _).mono ?_
  rintro e w' ⟨he, rfl⟩
  obtain ⟨h0, rfl⟩ | ⟨h0, rfl⟩ := he
  · go_wp2
    go_end0
    exact ⟨0, Abt.ok, HN.out _ _ (.inl ⟨rfl, by omega, HD1.out.store _ _⟩), hs1.set _ _ (.inl (.inr rfl))⟩
  · exact ⟨rfl, z, Abt.no h0, HN.out _ _ (.inr ⟨h0, by omega⟩), hs1⟩


/-- what laying a text does -/
def TxtO (s : ByteArray) (out : List UInt8) (err : Int) (C : List UInt8 → Prop) : Prop :=
  (err = 0 ∧ s.size ≤ 65536 ∧ C (out ++ (encC s.size ++ s.data.toList))) ∨ (err = 2 ∧ 65536 < s.size)

set_option maxHeartbeats 400000 in
theorem text_enc (w : World) (b B : Nat) (out : List UInt8) (hC : CdX w b B out) (p : Addr) (s : ByteArray) (hp : w.cell? p = some (.string s)) (ho : out.length ≤ 70368744177664) :
    Calls Tryz.prog 57 #[.pointer (some ⟨b, 0, none⟩), .pointer (some p)] w fun e w' => ∃ err, Abt err e ∧ (TxtO s out err fun l => CdX w' b B l) ∧ Stp (· = b) B w w' := by
  obtain ⟨n, ao, co, hc⟩ := hC
  have hc0 := hc.blk.cell (j := 0) rfl
  have HC := Lib.hid hc
  have HO := Lib.hid ho
  clear hc ho
  by_cases hm : s.size ≤ 65536
  · have HM := Lib.hid hm
    have he5 := encC_len s.size (by omega)
    go_enter Tryz.func57, Tryz.ntmps57
    go_wp2_with fail
    refine (putBytes_ok w none 0 0 s [] (Rd.nil0 w) (by omega) hm).mono ?_
    rintro e w1 ⟨v, rfl, hO1, hB1⟩
    rw [List.nil_append] at hO1
    obtain ⟨a1, c1, rfl⟩ := hO1.shape
    have hC1 := HC.out.below hB1
    have hr1 := hO1.rd
    have HLEN : Hid ((encC s.size ++ s.data.toList).length ≤ 1000000) := Lib.hid (by rw [List.length_append]; have : s.data.toList.length = s.size := rfl; omega)
    have HB1 := Lib.hid hB1
    clear hB1 hO1 hc0 he5 hm
    have HQ : Hid (∀ C, C (out ++ (encC s.size ++ s.data.toList)) → TxtO s out 0 C) := Lib.hid (fun C h => .inl ⟨rfl, HM.out, h⟩)
    generalize encC s.size ++ s.data.toList = q at *
    generalize hq : q.length = nq at *
    go_wp2_with fail
    refine (add_ok w1 b B out ⟨_, _, _, hC1⟩ a1 _ c1 _ hr1 HLEN.out HO.out).mono ?_
    rintro e w2 ⟨rfl, hC2, hs2⟩
    go_wp2
    apply bodyPost_ret
    exact results_none rfl _ _ _
    rfl
    exact ⟨0, Abt.ok, HQ.out _ hC2, (Stp.of (HB1.out.mono HC.out.le)).trans hs2⟩
  · have hm' : 65536 < s.size := by omega
    go_enter Tryz.func57, Tryz.ntmps57
    go_wp2_with fail
    refine (putBytes_no w none 0 0 s hm').mono ?_
    rintro e w1 ⟨rfl, rfl⟩
    go_wp2_with fail
    refine (add_no w b _ 2 (by decide)).mono ?_
    rintro e w1 ⟨he, rfl⟩
    obtain ⟨h0, _⟩ | ⟨_, rfl⟩ := he
    · exact absurd h0 (by decide)
    exact ⟨rfl, 2, Abt.no (by decide), .inr ⟨rfl, hm'⟩, Stp.refl _ _ _⟩

/-- what reading a text does -/
def TxtI (l : List UInt8) (err : Int) (C : List UInt8 → Value → Prop) : Prop :=
  (err = 0 ∧ (rdB l).2.2 = 0 ∧ C (l.drop (rdB l).2.1) (.string (str (rdB l).1))) ∨ (err ≠ 0 ∧ (rdB l).2.2 ≠ 0)

set_option maxHeartbeats 400000 in
theorem text_dec (A : Nat) (a0 : Option Addr) (n0 c0 : Nat) (l0 : List UInt8) (b r X B : Nat) (t : TypeId) (w : World) (l : List UInt8) (vs : List Value) (hD : Dc A a0 n0 c0 l0 b r X B t w l vs) (off : Nat) (y : Value) (hy : vs[off]? = some y) :
    Calls Tryz.prog 57 #[.pointer (some ⟨b, 0, none⟩), .pointer (some ⟨X, off, none⟩)] w fun e w' => ∃ err, Abt err e ∧ (TxtI l err fun l' v => Dc A a0 n0 c0 l0 b r X B t w' l' (vs.set off v)) ∧ Stp (fun k => k = r ∨ k = X) B w w' := by
  have hc0 := hD.cb.cell (j := 0) rfl
  have HD := Lib.hid hD
  have HY := Lib.hid hy
  obtain ⟨a, n, c, hr1, hr2⟩ := hD.rd
  have HR := Lib.hid hr2
  have hrd := hr2 w hD.orig.rd
  clear hD hr2 hy
  go_enter Tryz.func57, Tryz.ntmps57
  go_wp2_with fail
  refine (bytes_at w r l a n c hr1.at_ hrd).mono ?_
  rintro e w1 ⟨rfl, ⟨a', n', c', h1, h2⟩, hg⟩
  have hD1 := HD.out.read hg ⟨a', n', c', ⟨h1⟩, fun W hW => h2 W (HR.out W hW)⟩
  have hs1 : Stp (fun k => k = r ∨ k = X) B w w1 := (Stp.refl _ _ _).grown hg HD.out.le (fun k e => by cases e; exact .inl (.inl rfl))
  obtain ⟨x, k, z, hcnt⟩ : ∃ x y z, rdB l = (x, y, z) := ⟨_, _, _, rfl⟩
  have HN : Hid (∀ err C, (err = 0 ∧ z = 0 ∧ C (l.drop k) (.string (str x))) ∨ (err ≠ 0 ∧ z ≠ 0) → TxtI l err C) := Lib.hid (fun err C h => by unfold TxtI; rw [hcnt]; exact h)
  rw [hcnt] at hD1 ⊢
  simp only at hD1 ⊢
  have hx := hD1.xb.cell HY.out
  have hf := hD1.xb.free off
  have HD1 := Lib.hid hD1
  clear hcnt h1 h2 hg hD1 hr1 hrd hc0
  go_wp2_with fail
  refine (must_any _ _).mono ?_
  rintro e w' ⟨he, rfl⟩
  obtain ⟨h0, rfl⟩ | ⟨h0, rfl⟩ := he
  · go_wp2
    go_end0
    exact ⟨0, Abt.ok, HN.out _ _ (.inl ⟨rfl, by omega, HD1.out.store _ _⟩), hs1.set _ _ (.inl (.inr rfl))⟩
  · exact ⟨rfl, z, Abt.no h0, HN.out _ _ (.inr ⟨h0, by omega⟩), hs1⟩

end Go.Proofs.YtoclahcibilbhaaGreat
