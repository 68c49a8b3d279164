/-
  The walks of octet's reader: frontCount, after, New, Left, Count, Bytes, Digest.
-/
import Derived.Test.YtoclahcibilbhaaDoorOctAB
namespace Go.Proofs.YtoclahcibilbhaaDoor
open Go.RowKit
set_option maxRecDepth 100000

/-- what a count at the front of bytes is: the number, how many bytes, the error; k groups are read, m is their number -/
def cnt (k m : Nat) : List UInt8 → Nat × Nat × Nat
  | [] => if k < 5 then (0, 0, 10) else (0, 0, 11)
  | c :: r =>
    if 5 ≤ k then (0, 0, 11)
    else if 128 ≤ c.toNat then cnt (k + 1) (m + c.toNat % 128 * 128 ^ k) r
    else if (0 < k ∧ c.toNat = 0) ∨ 2147483647 < m + c.toNat % 128 * 128 ^ k then (0, 0, 11)
    else (m + c.toNat % 128 * 128 ^ k, k + 1, 0)

/-- after k rounds -/
structure CntAt (l : List UInt8) (k m : Nat) : Prop where
  eq : cnt 0 0 l = cnt k m (l.drop k)
  lt : m < 128 ^ k

theorem CntAt.zero (l : List UInt8) : CntAt l 0 0 := ⟨rfl, by decide⟩
theorem CntAt.fin {l : List UInt8} {k m : Nat} (h : CntAt l k m) (hk : k < 5) (hl : l.length = k) : cnt 0 0 l = (0, 0, 10) := by
  rw [h.eq, List.drop_eq_nil_of_le (by omega), cnt, if_pos hk]
theorem CntAt.five {l : List UInt8} {m : Nat} (h : CntAt l 5 m) : cnt 0 0 l = (0, 0, 11) := by
  rw [h.eq]
  cases l.drop 5 <;> simp [cnt]
theorem CntAt.step {l : List UInt8} {k m : Nat} (h : CntAt l k m) (hk : k < 5) (hl : k < l.length) (hc : 128 ≤ l[k].toNat) : CntAt l (k + 1) (m + l[k].toNat % 128 * 128 ^ k) := by
  refine ⟨?_, ?_⟩
  · rw [h.eq, List.drop_eq_getElem_cons hl, cnt, if_neg (by omega), if_pos hc]
  · have h1 := h.lt
    have h2 : l[k].toNat % 128 * 128 ^ k ≤ 127 * 128 ^ k := Nat.mul_le_mul_right _ (by omega)
    rw [Nat.pow_succ]; omega
theorem CntAt.bad {l : List UInt8} {k m : Nat} (h : CntAt l k m) (hk : k < 5) (hl : k < l.length) (hc : l[k].toNat < 128) (hb : (0 < k ∧ l[k].toNat = 0) ∨ 2147483647 < m + l[k].toNat % 128 * 128 ^ k) : cnt 0 0 l = (0, 0, 11) := by
  rw [h.eq, List.drop_eq_getElem_cons hl, cnt, if_neg (by omega), if_neg (by omega), if_pos hb]
theorem CntAt.good {l : List UInt8} {k m : Nat} (h : CntAt l k m) (hk : k < 5) (hl : k < l.length) (hc : l[k].toNat < 128) (hb : ¬ ((0 < k ∧ l[k].toNat = 0) ∨ 2147483647 < m + l[k].toNat % 128 * 128 ^ k)) :
    cnt 0 0 l = (m + l[k].toNat % 128 * 128 ^ k, k + 1, 0) := by
  rw [h.eq, List.drop_eq_getElem_cons hl, cnt, if_neg (by omega), if_neg (by omega), if_neg hb]

/-- what frontCount hands back -/
def CntPost (l : List UInt8) (w : World) (e : Ending) (w' : World) : Prop :=
  e = .returned (.tuple #[.int .i64 ((cnt 0 0 l).1 : Int), .int .i64 ((cnt 0 0 l).2.1 : Int), .int .i64 ((cnt 0 0 l).2.2 : Int)]) ∧ w = w'
theorem CntPost.mk {l : List UInt8} {w : World} {a b c : Nat} {x y z : Int} (h : cnt 0 0 l = (a, b, c)) (hx : x = (a : Int)) (hy : y = (b : Int)) (hz : z = (c : Int)) : CntPost l w (.returned (.tuple #[.int .i64 x, .int .i64 y, .int .i64 z])) w := by
  subst hx; subst hy; subst hz
  unfold CntPost; rw [h]; exact ⟨rfl, rfl⟩

theorem u64_in (y : Nat) (h : y < 18446744073709551616) : IntKind.u64.wrap (y : Int) = (y : Int) := by
  simp only [IntKind.wrap]
  simp [IntKind.bits, IntKind.signed]
  omega

theorem sum_eq (k m x : Nat) (hk : k < 5) (hm : m < 128 ^ k) : IntKind.u64.wrap ((m : Int) + IntKind.u64.wrap ((x : Int) % 128 * 2 ^ (7 * k))) = ((m + x % 128 * 128 ^ k : Nat) : Int) := by
  have e : (2 : Int) ^ (7 * k) = ((128 ^ k : Nat) : Int) := by
    have : 128 ^ k = 2 ^ (7 * k) := by rw [Nat.pow_mul]
    rw [this]; simp
  have h1 : 128 ^ k ≤ 128 ^ 4 := Nat.pow_le_pow_right (by omega) (by omega)
  have h2 : x % 128 * 128 ^ k ≤ 127 * 128 ^ k := Nat.mul_le_mul_right _ (by omega)
  have e1 : (x : Int) % 128 * 2 ^ (7 * k) = ((x % 128 * 128 ^ k : Nat) : Int) := by rw [e]; simp
  rw [e1, u64_in _ (by omega)]
  rw [show (m : Int) + ((x % 128 * 128 ^ k : Nat) : Int) = ((m + x % 128 * 128 ^ k : Nat) : Int) by simp, u64_in _ (by omega)]

theorem Rd.byteC {w : World} {b off n c : Nat} {l : List UInt8} (h : Rd w (some ⟨b, off, none⟩) n c l) {k : Nat} (hk : k < l.length) : w.cell? ⟨b, off + k, none⟩ = some (.int .u8 (l[k].toNat : Int)) := by
  rw [← Addr.add_lit]
  exact h.cell _ rfl k _ (by simp [bs, hk])

theorem Rd.drop {w : World} {a : Option Addr} {n c : Nat} {l : List UInt8} (h : Rd w a n c l) (k : Nat) (hk : k ≤ n) : Rd w (if n = k then a else a.map (fun x => x.add k)) (n - k) (n - k) (l.drop k) := by
  have hl := h.len
  have hc := h.cap
  have hm := h.max
  refine ⟨by simp [hl], Nat.le_refl _, by omega, ?_, ?_⟩
  · split
    · intro _; omega
    · intro e
      cases a with
      | none => have := (h.nil rfl).1; omega
      | some a => simp at e
  · intro ad e j u hu
    have hj : j < n - k := by
      have := (List.getElem?_eq_some_iff.1 hu).1
      simpa [bs, hl] using this
    rw [if_neg (by omega)] at e
    obtain ⟨b, off, rfl, _, _⟩ := h.at (by omega)
    simp only [Option.map_some, Option.some.injEq, Addr.add_lit] at e
    subst e
    rw [Addr.add_lit, Nat.add_assoc, ← Addr.add_lit]
    refine h.cell _ rfl (k + j) u ?_
    rw [← hu]
    simp [bs, List.getElem?_drop]

/-- what happens to reader r alone leaves slices of bytes as they are -/
theorem Rd.kept {w w' : World} {r : Nat} {x : Value} {t : TypeId} {f : Nat × Nat} {a : Option Addr} {n c : Nat} {l : List UInt8} (h : Rd w a n c l) (hg : w.grownBy w' (some r)) (hr : w.heap[r]? = some (.cells #[x] t f)) (hx : ∀ k i, x ≠ .int k i) : Rd w' a n c l := by
  refine ⟨h.len, h.cap, h.max, h.nil, fun ad e j u hu => ?_⟩
  have hc := h.cell ad e j u hu
  refine hg.cell hc ?_
  intro e2
  simp only [Option.some.injEq] at e2
  have hw : ∃ v, w.cell? (ad.add j) = some v ∧ v = x := by
    unfold World.cell? at hc ⊢
    rw [e2, hr] at hc ⊢
    simp only at hc ⊢
    refine ⟨u, hc, ?_⟩
    have : (ad.add j).off = 0 := by
      by_cases ho : (ad.add j).off = 0
      · exact ho
      · simp [ho] at hc
    simp [this] at hc
    exact hc.2.symm
  obtain ⟨v, hv, rfl⟩ := hw
  rw [hc] at hv
  cases hv
  obtain ⟨b, _, rfl⟩ := List.mem_map.1 (List.mem_of_getElem? hu)
  exact hx _ _ rfl

theorem Own.keptC {w w' : World} {r : Nat} {base : Nat} {v : Value} {cs : Array Value} {t : TypeId} {f : Nat × Nat} {l : List UInt8} (h : Own w base v l) (hg : w.grownBy w' (some r)) (hr : w.heap[r]? = some (.cells cs t f)) (ht : t ≠ 5) : Own w' base v l :=
  World.ownsRow.kept h hg (.inr (Own.ne h hr ht))

theorem cnt_le : ∀ (l : List UInt8) (k m : Nat), k ≤ 5 → (cnt k m l).2.1 ≤ k + l.length ∧ (cnt k m l).2.1 ≤ 5 ∧ (cnt k m l).1 ≤ 2147483647 ∧ ((cnt k m l).2.2 ≠ 0 → (cnt k m l).2.1 = 0 ∧ (cnt k m l).1 = 0) ∧ (cnt k m l).2.2 ≤ 11
  | [], k, m, hk => by unfold cnt; split <;> simp
  | c :: r, k, m, hk => by
    unfold cnt
    split
    · simp
    · split
      · have := cnt_le r (k + 1) (m + c.toNat % 128 * 128 ^ k) (by omega)
        refine ⟨by simp; omega, this.2.1, this.2.2.1, this.2.2.2⟩
      · split
        · simp
        · refine ⟨?_, ?_, ?_, ?_, ?_⟩ <;> simp <;> omega

end Go.Proofs.YtoclahcibilbhaaDoor
