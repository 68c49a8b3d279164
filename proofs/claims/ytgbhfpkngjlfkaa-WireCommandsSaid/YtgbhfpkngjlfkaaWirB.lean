/-
  Package wire's fields, encoded: digest, head, signed.
-/
import Derived.Test.YtgbhfpkngjlfkaaWirA
namespace Go.Proofs.Ytgbhfpkngjlfkaa
open Go.RowKit
set_option maxRecDepth 100000

set_option maxHeartbeats 400000 in
theorem digest_enc (w : World) (b B : Nat) (out : List UInt8) (hC : CdX w b B out) (X off : Nat) (ds : List UInt8) (hd : ds.length = 32) (hp : w.rangeAt X off (bs ds)) (ho : out.length ≤ 70368744177664) :
    Calls Try.prog 65 #[.pointer (some ⟨b, 0, none⟩), .pointer (some ⟨X, off, none⟩)] w fun e w' => e = .returned (.tuple #[]) ∧ CdX w' b B (out ++ ds) ∧ Stp (· = b) B w w' := by
  obtain ⟨n, ao, co, hc⟩ := hC
  have hc0 := hc.blk.cell (j := 0) rfl
  have HC := Lib.hid hc
  have HO := Lib.hid ho
  have I5 : Hid ((Try.prog.info? 24).map (·.size) = some (bs ds).length) := Lib.hid (by rw [info_digest]; simp [bs_length, hd])
  have HD := Lib.hid hd
  clear hc ho hd
  go_enter Try.func65, Try.ntmps65
  go_wp2_with ((with_reducible refine wpList_loadM (o := ⟨some 14, _, _, _, _, _⟩) ?_ X off 24 (.tmp 13) ?_ ?_ hp Try.underlying24 ?_ I5.out ?_); rfl; rfl; rfl; rfl)
  refine (putDigest_ok w none 0 0 ds HD.out [] (Rd.nil0 w) (by omega)).mono ?_
  rintro e w1 ⟨v, rfl, hO1, hB1⟩
  obtain ⟨a1, c1, rfl⟩ := hO1.shape
  have hC1 := HC.out.below hB1
  have hr1 := hO1.rd
  have hlen : ([] ++ ds).length ≤ 32 := by simp [HD.out]
  have HB1 := Lib.hid hB1
  clear hB1 hO1 hc0
  go_wp2_with fail
  refine (add_ok w1 b B out ⟨_, _, _, hC1⟩ a1 _ c1 _ hr1 (by omega) HO.out).mono ?_
  rintro e w2 ⟨rfl, hC2, hs2⟩
  go_wp2
  apply bodyPost_ret
  exact results_none rfl _ _ _
  rfl
  exact ⟨rfl, by simpa using hC2, (Stp.of (HB1.out.mono HC.out.le)).trans hs2⟩

/-- bytes that are laid, and the first error: one more number, digest -/
abbrev Lo := Int × List UInt8
def loN (m : Int) (o : Lo) : Lo := if o.1 ≠ 0 then o else if 0 ≤ m ∧ m ≤ 2147483647 then (0, o.2 ++ encC m.toNat) else (1, o.2)
def loD (ds : List UInt8) (o : Lo) : Lo := if o.1 ≠ 0 then o else (0, o.2 ++ ds)
theorem loN_ok {m : Int} (o : List UInt8) (h0 : 0 ≤ m) (h1 : m ≤ 2147483647) : loN m (0, o) = (0, o ++ encC m.toNat) := by simp [loN, h0, h1]
theorem loN_no {m : Int} (o : List UInt8) (h : m < 0 ∨ 2147483647 < m) : loN m (0, o) = (1, o) := by
  have : ¬ (0 ≤ m ∧ m ≤ 2147483647) := by omega
  simp only [loN, ne_eq, not_true_eq_false, if_false, if_neg this]
theorem loN_err {m : Int} {x : Int} (o : List UInt8) (h : x ≠ 0) : loN m (x, o) = (x, o) := by simp [loN, h]
theorem loD_err {m : List UInt8} {x : Int} (o : List UInt8) (h : x ≠ 0) : loD m (x, o) = (x, o) := by simp [loD, h]
theorem loD_ok (m : List UInt8) (o : List UInt8) : loD m (0, o) = (0, o ++ m) := by simp [loD]

/-- what laying does: the error, and without one the bytes -/
def LayO (o : Lo) (err : Int) (C : List UInt8 → Prop) : Prop := err = o.1 ∧ (err = 0 → C o.2)

/-- the cells of a part -/
def Part (vs : List Value) (off : Nat) (cs : List Value) : Prop := ∀ j, j < cs.length → vs[off + j]? = cs[j]?

/-- a head -/
structure Hd where
  ep : Int
  root : List UInt8
  prev : List UInt8
def Hd.ok (x : Hd) : Prop := x.root.length = 32 ∧ x.prev.length = 32
def hdc (x : Hd) : List Value := .int .i64 x.ep :: (bs x.root ++ bs x.prev)
def loH (x : Hd) (o : Lo) : Lo := loD x.prev (loD x.root (loN x.ep o))

theorem hdc_length {x : Hd} (h : x.ok) : (hdc x).length = 65 := by simp [hdc, bs_length, h.1, h.2]
theorem Part.hd0 {vs : List Value} {off : Nat} {x : Hd} (h : Part vs off (hdc x)) : vs[off]? = some (.int .i64 x.ep) := by
  have := h 0 (by simp [hdc]); simpa [hdc] using this
theorem Part.hd1 {vs : List Value} {off : Nat} {x : Hd} (h : Part vs off (hdc x)) (ho : x.ok) : Part vs (off + 1) (bs x.root) := by
  intro j hj
  have hj' : j < 32 := by rw [bs_length, ho.1] at hj; exact hj
  have := h (1 + j) (by rw [hdc_length ho]; omega)
  rw [show off + 1 + j = off + (1 + j) by omega, this]
  simp only [hdc, Nat.add_comm 1 j, List.getElem?_cons_succ]
  rw [List.getElem?_append_left hj]
theorem Part.hd2 {vs : List Value} {off : Nat} {x : Hd} (h : Part vs off (hdc x)) (ho : x.ok) : Part vs (off + 33) (bs x.prev) := by
  intro j hj
  have hj' : j < 32 := by rw [bs_length, ho.2] at hj; exact hj
  have := h (33 + j) (by rw [hdc_length ho]; omega)
  rw [show off + 33 + j = off + (33 + j) by omega, this]
  simp only [hdc, show 33 + j = (32 + j) + 1 by omega, List.getElem?_cons_succ]
  rw [List.getElem?_append_right (by rw [bs_length, ho.1]; omega), bs_length, ho.1]
  congr 1; omega

set_option maxHeartbeats 400000 in
theorem head_enc (w : World) (b B : Nat) (out : List UInt8) (hC : CdX w b B out) (X off : Nat) (t : TypeId) (vs : List Value) (hX : Blk w X t vs) (hlt : X < B) (hne : X ≠ b) (x : Hd) (hx : x.ok) (hp : Part vs off (hdc x)) (ho : out.length ≤ 1000000000000) :
    Calls Try.prog 83 #[.pointer (some ⟨b, 0, none⟩), .pointer (some ⟨X, off, none⟩)] w fun e w' => ∃ err, Abt err e ∧ LayO (loH x (0, out)) err (fun l => CdX w' b B l) ∧ Stp (· = b) B w w' := by
  have h0 := hp.hd0
  have H1 := Lib.hid (hp.hd1 hx)
  have H2 := Lib.hid (hp.hd2 hx)
  have HL1 := Lib.hid hx.1
  have HL2 := Lib.hid hx.2
  have HO := Lib.hid ho
  have HLT := Lib.hid hlt
  have HNE := Lib.hid hne
  clear hp hx ho hlt hne
  go_enter Try.func83, Try.ntmps83
  go_wp2_with fail
  refine (number_enc_int w b B out hC _ x.ep (hX.cell h0) (by have := HO.out; omega)).mono ?_
  rintro e w1 ⟨err, he, hN, hs1⟩
  rcases hN with ⟨rfl, hm0, hm1, hC1⟩ | ⟨rfl, hm⟩
  · obtain ⟨_, rfl⟩ | ⟨h0, _⟩ := he
    rotate_left
    · exact absurd rfl h0
    have hl1 := encC_len x.ep.toNat (by omega)
    have hX1 := hX.stp hs1 HLT.out HNE.out
    have HE : Hid (loH x (0, out) = (0, out ++ encC x.ep.toNat ++ x.root ++ x.prev)) := Lib.hid (by rw [loH, loN_ok out hm0 hm1, loD_ok, loD_ok])
    have HS1 := Lib.hid hs1
    clear hs1
    go_wp2_with fail
    refine (digest_enc w1 b B _ hC1 X (off + 1) x.root HL1.out (hX1.range _ H1.out) (by have := HO.out; rw [List.length_append]; omega)).mono ?_
    rintro e w2 ⟨rfl, hC2, hs2⟩
    have hX2 := hX1.stp hs2 HLT.out HNE.out
    have HS2 := Lib.hid hs2
    clear hs2
    go_wp2_with fail
    refine (digest_enc w2 b B _ hC2 X (off + 33) x.prev HL2.out (hX2.range _ H2.out) (by have := HO.out; have := HL1.out; simp only [List.length_append]; omega)).mono ?_
    rintro e w3 ⟨rfl, hC3, hs3⟩
    go_wp2
    go_end0
    exact ⟨0, Abt.ok, by rw [HE.out]; exact ⟨rfl, fun _ => hC3⟩, (HS1.out.trans HS2.out).trans hs3⟩
  · obtain ⟨h0, _⟩ | ⟨_, rfl⟩ := he
    · exact absurd h0 (by decide)
    have HE : loH x (0, out) = (1, out) := by simp [loH, loN_no out hm, loD]
    exact ⟨rfl, 1, Abt.no (by decide), by rw [HE]; exact ⟨rfl, fun h => absurd h (by decide)⟩, hs1⟩

/-- a signed head -/
structure Sg where
  hd : Hd
  sign : List UInt8
def Sg.ok (x : Sg) : Prop := x.hd.ok ∧ x.sign.length = 32
def sgc (x : Sg) : List Value := hdc x.hd ++ bs x.sign
def loS (x : Sg) (o : Lo) : Lo := loD x.sign (loH x.hd o)
theorem sgc_length {x : Sg} (h : x.ok) : (sgc x).length = 97 := by simp [sgc, bs_length, hdc_length h.1, h.2]
theorem Part.sg0 {vs : List Value} {off : Nat} {x : Sg} (h : Part vs off (sgc x)) : Part vs off (hdc x.hd) := by
  intro j hj
  rw [h j (by simp [sgc]; omega), sgc, List.getElem?_append_left hj]
theorem Part.sg1 {vs : List Value} {off : Nat} {x : Sg} (h : Part vs off (sgc x)) (ho : x.ok) : Part vs (off + 65) (bs x.sign) := by
  intro j hj
  have hj' : j < 32 := by rw [bs_length, ho.2] at hj; exact hj
  have := h (65 + j) (by rw [sgc_length ho]; omega)
  rw [show off + 65 + j = off + (65 + j) by omega, this, sgc, List.getElem?_append_right (by rw [hdc_length ho.1]; omega), hdc_length ho.1]
  congr 1; omega
theorem loN_len (m : Int) (o : List UInt8) (hm : m ≤ 2147483647) : (loN m (0, o)).2.length ≤ o.length + 5 := by
  unfold loN
  split
  · omega
  · split
    · have := encC_len m.toNat (by omega); simp; omega
    · simp
theorem loH_len (x : Hd) (o : List UInt8) (hx : x.ok) (h : (loH x (0, o)).1 = 0) : (loH x (0, o)).2.length ≤ o.length + 69 := by
  by_cases hm : 0 ≤ x.ep ∧ x.ep ≤ 2147483647
  · have := encC_len x.ep.toNat (by omega)
    have h1 := hx.1
    have h2 := hx.2
    rw [loH, loN_ok o hm.1 hm.2, loD_ok, loD_ok]
    simp; omega
  · have hm' : x.ep < 0 ∨ 2147483647 < x.ep := by omega
    simp [loH, loN_no o hm', loD] at h

set_option maxHeartbeats 400000 in
theorem signed_enc (w : World) (b B : Nat) (out : List UInt8) (hC : CdX w b B out) (X off : Nat) (t : TypeId) (vs : List Value) (hX : Blk w X t vs) (hlt : X < B) (hne : X ≠ b) (x : Sg) (hx : x.ok) (hp : Part vs off (sgc x)) (ho : out.length ≤ 100000000000) :
    Calls Try.prog 52 #[.pointer (some ⟨b, 0, none⟩), .pointer (some ⟨X, off, none⟩)] w fun e w' => ∃ err, Abt err e ∧ LayO (loS x (0, out)) err (fun l => CdX w' b B l) ∧ Stp (· = b) B w w' := by
  have H0 := Lib.hid hp.sg0
  have H1 := Lib.hid (hp.sg1 hx)
  have HX := Lib.hid hx
  have HL := Lib.hid hx.2
  have HO := Lib.hid ho
  have HLT := Lib.hid hlt
  have HNE := Lib.hid hne
  clear hp hx ho hlt hne
  go_enter Try.func52, Try.ntmps52
  go_wp2_with fail
  refine (head_enc w b B out hC X off t vs hX HLT.out HNE.out x.hd HX.out.1 H0.out (by have := HO.out; omega)).mono ?_
  rintro e w1 ⟨err, he, ⟨h1, h2⟩, hs1⟩
  rcases he with ⟨rfl, rfl⟩ | ⟨h0, rfl⟩
  · have hC1 := h2 rfl
    have hlen := loH_len x.hd out HX.out.1 h1.symm
    have HE : Hid (loS x (0, out) = (0, (loH x.hd (0, out)).2 ++ x.sign)) := Lib.hid (by rw [loS, show loH x.hd (0, out) = (0, (loH x.hd (0, out)).2) from Prod.ext h1.symm rfl, loD_ok])
    generalize (loH x.hd (0, out)).2 = q at hC1 hlen HE
    have HLEN := Lib.hid hlen
    have hX1 := hX.stp hs1 HLT.out HNE.out
    have HS1 := Lib.hid hs1
    clear hs1 h1 h2 hlen
    go_wp2_with fail
    refine (digest_enc w1 b B _ hC1 X (off + 65) x.sign HL.out (hX1.range _ H1.out) (by have := HO.out; have := HLEN.out; omega)).mono ?_
    rintro e w2 ⟨rfl, hC2, hs2⟩
    go_wp2
    go_end0
    exact ⟨0, Abt.ok, by rw [HE.out]; exact ⟨rfl, fun _ => hC2⟩, HS1.out.trans hs2⟩
  · have HE : loS x (0, out) = loH x.hd (0, out) := by rw [loS, loD, if_pos (by rw [← h1]; exact h0)]
    exact ⟨rfl, err, Abt.no h0, by rw [HE]; exact ⟨h1, fun h => absurd h h0⟩, hs1⟩

end Go.Proofs.Ytgbhfpkngjlfkaa
