/-
  Package wire's fields, encoded: digest, head, signed.
-/
import Derived.Test.YtoclahcibilbhaaGreatWirA
namespace Go.Proofs.YtoclahcibilbhaaGreat
open Go.RowKit
set_option maxRecDepth 100000

set_option maxHeartbeats 400000 in
theorem digest_enc (w : World) (b B : Nat) (out : List UInt8) (hC : CdX w b B out) (X off : Nat) (ds : List UInt8) (hd : ds.length = 32) (hp : w.rangeAt X off (bs ds)) (ho : out.length ≤ 70368744177664) :
    Calls Tryz.prog 58 #[.pointer (some ⟨b, 0, none⟩), .pointer (some ⟨X, off, none⟩)] w fun e w' => e = .returned (.tuple #[]) ∧ CdX w' b B (out ++ ds) ∧ Stp (· = b) B w w' := by
  obtain ⟨n, ao, co, hc⟩ := hC
  have hc0 := hc.blk.cell (j := 0) rfl
  have HC := Lib.hid hc
  have HO := Lib.hid ho
  have I5 : Hid ((Tryz.prog.info? 25).map (·.size) = some (bs ds).length) := Lib.hid (by rw [info_digest]; simp [bs_length, hd])
  have HD := Lib.hid hd
  clear hc ho hd
  go_enter Tryz.func58, Tryz.ntmps58
  go_wp2_with ((with_reducible refine wpList_loadM (o := ⟨some 14, _, _, _, _, _⟩) ?_ X off 25 (.tmp 13) ?_ ?_ hp Tryz.underlying25 ?_ I5.out ?_); rfl; rfl; rfl; rfl)
  refine (putDigest_ok w none 0 0 ds HD.out [] (Rd.nil0 w) (by omega)).mono ?_
  rintro e w1 ⟨v, rfl, hO1, hB1⟩
  obtain ⟨a1, c1, rfl⟩ := hO1.shape
  have hC1 := HC.out.below hB1
  have hr1 := hO1.rd
  have hlen : ([] ++ ds).length ≤ 32 := by simp [HD.out]
  have HB1 := Lib.hid hB1
  clear hB1 hO1 hc0
  go_wp2_with fail
  refine (add_ok w1 b B out ⟨_, _, _, hC1⟩ a1 _ c1 _ hr1 (by omega) HO.out).mono ?_
  rintro e w2 ⟨rfl, hC2, hs2⟩
  go_wp2
  apply bodyPost_ret
  exact results_none rfl _ _ _
  rfl
  exact ⟨rfl, by simpa using hC2, (Stp.of (HB1.out.mono HC.out.le)).trans hs2⟩

/-- bytes that are laid, and the first error: one more number, digest -/
abbrev Lo := Int × List UInt8
def loN (m : Int) (o : Lo) : Lo := if o.1 ≠ 0 then o else if 0 ≤ m ∧ m ≤ 2147483647 then (0, o.2 ++ encC m.toNat) else (1, o.2)
def loD (ds : List UInt8) (o : Lo) : Lo := if o.1 ≠ 0 then o else (0, o.2 ++ ds)
theorem loN_ok {m : Int} (o : List UInt8) (h0 : 0 ≤ m) (h1 : m ≤ 2147483647) : loN m (0, o) = (0, o ++ encC m.toNat) := by simp [loN, h0, h1]
theorem loN_no {m : Int} (o : List UInt8) (h : m < 0 ∨ 2147483647 < m) : loN m (0, o) = (1, o) := by
  have : ¬ (0 ≤ m ∧ m ≤ 2147483647) := by omega
  simp only [loN, ne_eq, not_true_eq_false, if_false, if_neg this]
theorem loN_err {m : Int} {x : Int} (o : List UInt8) (h : x ≠ 0) : loN m (x, o) = (x, o) := by simp [loN, h]
theorem loD_err {m : List UInt8} {x : Int} (o : List UInt8) (h : x ≠ 0) : loD m (x, o) = (x, o) := by simp [loD, h]
theorem loD_ok (m : List UInt8) (o : List UInt8) : loD m (0, o) = (0, o ++ m) := by simp [loD]

/-- what laying does: the error, and without one the bytes -/
def LayO (o : Lo) (err : Int) (C : List UInt8 → Prop) : Prop := err = o.1 ∧ (err = 0 → C o.2)

theorem range_sub {w : World} {X off k : Nat} {cs cs' : List Value} (h : w.rangeAt X off cs) (hk : ∀ j, j < cs'.length → cs[k + j]? = cs'[j]?) : w.rangeAt X (off + k) cs' := fun j v hv => by
  have := h (k + j) v (by rw [hk j (List.getElem?_eq_some_iff.1 hv).1]; exact hv)
  rwa [← Nat.add_assoc] at this
theorem range_cell {w : World} {X off : Nat} {cs : List Value} (h : w.rangeAt X off cs) (j : Nat) {v : Value} (hj : cs[j]? = some v) : w.cell? ⟨X, off + j, none⟩ = some v := h j v hj
theorem range_part {w : World} {X off : Nat} {cs : List Value} (h : w.rangeAt X off cs) : ∀ j v, cs[j]? = some v → w.cell? ⟨X, off + j, none⟩ = some v := h

/-- the cells of a part -/
def Part (vs : List Value) (off : Nat) (cs : List Value) : Prop := ∀ j, j < cs.length → vs[off + j]? = cs[j]?

/-- a head -/
structure Hd where
  ep : Int
  root : List UInt8
  prev : List UInt8
def Hd.ok (x : Hd) : Prop := x.root.length = 32 ∧ x.prev.length = 32
def hdc (x : Hd) : List Value := .int .i64 x.ep :: (bs x.root ++ bs x.prev)
def loH (x : Hd) (o : Lo) : Lo := loD x.prev (loD x.root (loN x.ep o))

theorem hdc_length {x : Hd} (h : x.ok) : (hdc x).length = 65 := by simp [hdc, bs_length, h.1, h.2]
theorem Part.hd0 {vs : List Value} {off : Nat} {x : Hd} (h : Part vs off (hdc x)) : vs[off]? = some (.int .i64 x.ep) := by
  have := h 0 (by simp [hdc]); simpa [hdc] using this
theorem Part.hd1 {vs : List Value} {off : Nat} {x : Hd} (h : Part vs off (hdc x)) (ho : x.ok) : Part vs (off + 1) (bs x.root) := by
  intro j hj
  have hj' : j < 32 := by rw [bs_length, ho.1] at hj; exact hj
  have := h (1 + j) (by rw [hdc_length ho]; omega)
  rw [show off + 1 + j = off + (1 + j) by omega, this]
  simp only [hdc, Nat.add_comm 1 j, List.getElem?_cons_succ]
  rw [List.getElem?_append_left hj]
theorem Part.hd2 {vs : List Value} {off : Nat} {x : Hd} (h : Part vs off (hdc x)) (ho : x.ok) : Part vs (off + 33) (bs x.prev) := by
  intro j hj
  have hj' : j < 32 := by rw [bs_length, ho.2] at hj; exact hj
  have := h (33 + j) (by rw [hdc_length ho]; omega)
  rw [show off + 33 + j = off + (33 + j) by omega, this]
  simp only [hdc, show 33 + j = (32 + j) + 1 by omega, List.getElem?_cons_succ]
  rw [List.getElem?_append_right (by rw [bs_length, ho.1]; omega), bs_length, ho.1]
  congr 1; omega


/-- a signed head -/
structure Sg where
  hd : Hd
  sign : List UInt8
def Sg.ok (x : Sg) : Prop := x.hd.ok ∧ x.sign.length = 32
def sgc (x : Sg) : List Value := hdc x.hd ++ bs x.sign
def loS (x : Sg) (o : Lo) : Lo := loD x.sign (loH x.hd o)
theorem sgc_length {x : Sg} (h : x.ok) : (sgc x).length = 97 := by simp [sgc, bs_length, hdc_length h.1, h.2]
theorem Part.sg0 {vs : List Value} {off : Nat} {x : Sg} (h : Part vs off (sgc x)) : Part vs off (hdc x.hd) := by
  intro j hj
  rw [h j (by simp [sgc]; omega), sgc, List.getElem?_append_left hj]
theorem Part.sg1 {vs : List Value} {off : Nat} {x : Sg} (h : Part vs off (sgc x)) (ho : x.ok) : Part vs (off + 65) (bs x.sign) := by
  intro j hj
  have hj' : j < 32 := by rw [bs_length, ho.2] at hj; exact hj
  have := h (65 + j) (by rw [sgc_length ho]; omega)
  rw [show off + 65 + j = off + (65 + j) by omega, this, sgc, List.getElem?_append_right (by rw [hdc_length ho.1]; omega), hdc_length ho.1]
  congr 1; omega
theorem loN_len (m : Int) (o : List UInt8) (hm : m ≤ 2147483647) : (loN m (0, o)).2.length ≤ o.length + 5 := by
  unfold loN
  split
  · omega
  · split
    · have := encC_len m.toNat (by omega); simp; omega
    · simp
theorem loH_len (x : Hd) (o : List UInt8) (hx : x.ok) (h : (loH x (0, o)).1 = 0) : (loH x (0, o)).2.length ≤ o.length + 69 := by
  by_cases hm : 0 ≤ x.ep ∧ x.ep ≤ 2147483647
  · have := encC_len x.ep.toNat (by omega)
    have h1 := hx.1
    have h2 := hx.2
    rw [loH, loN_ok o hm.1 hm.2, loD_ok, loD_ok]
    simp; omega
  · have hm' : x.ep < 0 ∨ 2147483647 < x.ep := by omega
    simp [loH, loN_no o hm', loD] at h


end Go.Proofs.YtoclahcibilbhaaGreat
