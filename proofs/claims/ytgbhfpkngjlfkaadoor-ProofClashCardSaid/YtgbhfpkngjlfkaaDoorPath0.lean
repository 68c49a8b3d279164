/-
  Bits of lists of bytes: what layer 4 speaks of.
-/
namespace Go.Proofs.YtgbhfpkngjlfkaaDoor

/-- the weight of bit i in its byte -/
def wt (i : Nat) : Nat := 128 / 2 ^ (i % 8)
/-- bit i -/
def bitAt (p : List UInt8) (i : Nat) : Nat := (p.getD (i / 8) 0).toNat / wt i % 2
/-- bit i replaced by b -/
def withBit (p : List UInt8) (i b : Nat) : List UInt8 := p.set (i / 8) (UInt8.ofNat ((p.getD (i / 8) 0).toNat + b * wt i - bitAt p i * wt i))
/-- the bits n, n + 1, .. n + k - 1 replaced by 0 -/
def clr (p : List UInt8) (n : Nat) : Nat → List UInt8
  | 0 => p
  | k + 1 => withBit (clr p n k) (n + k) 0
/-- the prefix of n bits -/
def pref (p : List UInt8) (n : Nat) : List UInt8 := clr p n (256 - n)
/-- how many bits from n on are the same, counted up to 256 -/
def commF (a b : List UInt8) : Nat → Nat → Nat
  | 0, n => n
  | k + 1, n => if bitAt a n = bitAt b n then commF a b k (n + 1) else n
def comm (a b : List UInt8) : Nat := commF a b 256 0
def lessB (a b : List UInt8) : Bool := decide (comm a b < 256) && decide (bitAt a (comm a b) = 0)

theorem wt_pos (i : Nat) : 0 < wt i := by
  have h : i % 8 < 8 := Nat.mod_lt _ (by decide)
  unfold wt
  generalize i % 8 = j at *
  rcases (by omega : j = 0 ∨ j = 1 ∨ j = 2 ∨ j = 3 ∨ j = 4 ∨ j = 5 ∨ j = 6 ∨ j = 7) with rfl | rfl | rfl | rfl | rfl | rfl | rfl | rfl <;> decide
theorem wt_le (i : Nat) : wt i ≤ 128 := Nat.div_le_self _ _
theorem bitAt_lt (p : List UInt8) (i : Nat) : bitAt p i < 2 := Nat.mod_lt _ (by decide)
theorem withBit_length (p : List UInt8) (i b : Nat) : (withBit p i b).length = p.length := by simp [withBit]
theorem clr_length (p : List UInt8) (n k : Nat) : (clr p n k).length = p.length := by
  induction k with
  | zero => rfl
  | succ k ih => rw [clr, withBit_length, ih]
theorem pref_length (p : List UInt8) (n : Nat) : (pref p n).length = p.length := clr_length _ _ _

/-- what a byte is behind a bit's replacing fits a byte, and nothing is taken from what isn't there -/
theorem byte_fits : ∀ (x : Fin 256) (j : Fin 8) (b : Fin 2), x.val / (128 / 2 ^ j.val) % 2 * (128 / 2 ^ j.val) ≤ x.val ∧ x.val + b.val * (128 / 2 ^ j.val) - x.val / (128 / 2 ^ j.val) % 2 * (128 / 2 ^ j.val) < 256 := by decide +kernel
theorem with_fits (p : List UInt8) (i b : Nat) (hb : b < 2) : bitAt p i * wt i ≤ (p.getD (i / 8) 0).toNat ∧ (p.getD (i / 8) 0).toNat + b * wt i - bitAt p i * wt i < 256 :=
  byte_fits ⟨(p.getD (i / 8) 0).toNat, UInt8.toNat_lt _⟩ ⟨i % 8, Nat.mod_lt _ (by decide)⟩ ⟨b, hb⟩

theorem byte_bits : ∀ (x : Fin 256) (j k : Fin 8) (b : Fin 2), (x.val + b.val * (128 / 2 ^ j.val) - x.val / (128 / 2 ^ j.val) % 2 * (128 / 2 ^ j.val)) / (128 / 2 ^ k.val) % 2 = if k = j then b.val else x.val / (128 / 2 ^ k.val) % 2 := by decide +kernel
/-- the bits of a list in which one bit was replaced -/
theorem bitAt_with (p : List UInt8) (i b k : Nat) (hb : b < 2) (hi : i / 8 < p.length) : bitAt (withBit p i b) k = if k = i then b else bitAt p k := by
  have hf := (with_fits p i b hb).2
  have hB := byte_bits ⟨(p.getD (i / 8) 0).toNat, UInt8.toNat_lt _⟩ ⟨i % 8, Nat.mod_lt _ (by decide)⟩ ⟨k % 8, Nat.mod_lt _ (by decide)⟩ ⟨b, hb⟩
  simp only [Fin.mk.injEq] at hB
  by_cases h : k / 8 = i / 8
  · have e : (withBit p i b).getD (k / 8) 0 = UInt8.ofNat ((p.getD (i / 8) 0).toNat + b * wt i - bitAt p i * wt i) := by
      rw [h, withBit, List.getD, List.getElem?_set_self hi]; rfl
    have e2 : ((withBit p i b).getD (k / 8) 0).toNat = (p.getD (i / 8) 0).toNat + b * wt i - bitAt p i * wt i := by
      rw [e, UInt8.toNat_ofNat', Nat.mod_eq_of_lt hf]
    unfold bitAt
    rw [e2]
    unfold bitAt wt at *
    rw [hB]
    have hk : k % 8 = i % 8 ↔ k = i := by omega
    simp only [hk, h]
  · have e : (withBit p i b).getD (k / 8) 0 = p.getD (k / 8) 0 := by
      rw [withBit, List.getD, List.getElem?_set_ne (fun e => h e.symm)]; rfl
    rw [bitAt, e, if_neg (fun e => h (by rw [e]))]; rfl
theorem bitAt_clr (p : List UInt8) (n m k : Nat) (hp : p.length = 32) (hn : n + m ≤ 256) : bitAt (clr p n m) k = if n ≤ k ∧ k < n + m then 0 else bitAt p k := by
  induction m with
  | zero => rw [if_neg (by omega)]; rfl
  | succ m ih =>
    rw [clr, bitAt_with _ _ _ _ (by decide) (by rw [clr_length]; omega), ih (by omega)]
    by_cases h1 : k = n + m
    · rw [if_pos h1, if_pos (by omega)]
    · rw [if_neg h1]
      by_cases h2 : n ≤ k ∧ k < n + m
      · rw [if_pos h2, if_pos (by omega)]
      · rw [if_neg h2, if_neg (by omega)]
/-- the bits of a prefix -/
theorem bitAt_pref (p : List UInt8) (n k : Nat) (hp : p.length = 32) (hn : n ≤ 256) (hk : k < 256) : bitAt (pref p n) k = if k < n then bitAt p k else 0 := by
  rw [pref, bitAt_clr _ _ _ _ hp (by omega)]
  by_cases h : k < n
  · rw [if_neg (by omega), if_pos h]
  · rw [if_pos (by omega), if_neg h]

theorem byte_same (x y : Nat) (hx : x < 256) (hy : y < 256) (h : ∀ j, j < 8 → x / (128 / 2 ^ j) % 2 = y / (128 / 2 ^ j) % 2) : x = y := by
  have h0 := h 0 (by decide)
  have h1 := h 1 (by decide)
  have h2 := h 2 (by decide)
  have h3 := h 3 (by decide)
  have h4 := h 4 (by decide)
  have h5 := h 5 (by decide)
  have h6 := h 6 (by decide)
  have h7 := h 7 (by decide)
  simp only [show 128 / 2 ^ 0 = 128 from rfl, show 128 / 2 ^ 1 = 64 from rfl, show 128 / 2 ^ 2 = 32 from rfl, show 128 / 2 ^ 3 = 16 from rfl, show 128 / 2 ^ 4 = 8 from rfl, show 128 / 2 ^ 5 = 4 from rfl, show 128 / 2 ^ 6 = 2 from rfl, show 128 / 2 ^ 7 = 1 from rfl] at h0 h1 h2 h3 h4 h5 h6 h7
  omega
/-- lists of 32 bytes with the same bits are the same -/
theorem bits_ext (p q : List UInt8) (hp : p.length = 32) (hq : q.length = 32) (h : ∀ k, k < 256 → bitAt p k = bitAt q k) : p = q := by
  refine List.ext_getElem (by omega) fun i h1 h2 => ?_
  have e' : (p.getD i 0).toNat = (q.getD i 0).toNat := byte_same _ _ (UInt8.toNat_lt _) (UInt8.toNat_lt _) fun j hj => by
    have hb := h (8 * i + j) (by omega)
    have d1 : (8 * i + j) / 8 = i := by omega
    have d2 : (8 * i + j) % 8 = j := by omega
    simpa only [bitAt, wt, d1, d2] using hb
  have := UInt8.toNat_inj.1 e'
  simpa [List.getD, h1, h2] using this

theorem commF_spec (a b : List UInt8) : ∀ k n, n ≤ commF a b k n ∧ commF a b k n ≤ n + k ∧ (∀ i, n ≤ i → i < commF a b k n → bitAt a i = bitAt b i) ∧ (commF a b k n < n + k → bitAt a (commF a b k n) ≠ bitAt b (commF a b k n)) := by
  intro k
  induction k with
  | zero => intro n; exact ⟨Nat.le_refl _, Nat.le_refl _, fun i h1 h2 => by simp only [commF] at h2; omega, fun h => by simp only [commF] at h; omega⟩
  | succ k ih =>
    intro n
    unfold commF
    split
    · rename_i he
      obtain ⟨h1, h2, h3, h4⟩ := ih (n + 1)
      refine ⟨by omega, by omega, fun i hi hl => ?_, fun h => h4 (by omega)⟩
      by_cases hin : i = n
      · subst hin; exact he
      · exact h3 i (by omega) hl
    · rename_i he
      exact ⟨Nat.le_refl _, by omega, fun i h1 h2 => by omega, fun _ => he⟩
theorem comm_le (a b : List UInt8) : comm a b ≤ 256 := by have := (commF_spec a b 256 0).2.1; simpa [comm] using this
theorem comm_same (a b : List UInt8) (i : Nat) (h : i < comm a b) : bitAt a i = bitAt b i := (commF_spec a b 256 0).2.2.1 i (Nat.zero_le _) h
theorem comm_ne (a b : List UInt8) (h : comm a b < 256) : bitAt a (comm a b) ≠ bitAt b (comm a b) := (commF_spec a b 256 0).2.2.2 (by simpa [comm] using h)
theorem comm_unique (a b : List UInt8) (n : Nat) (h1 : n ≤ 256) (h2 : ∀ i, i < n → bitAt a i = bitAt b i) (h3 : n < 256 → bitAt a n ≠ bitAt b n) : comm a b = n := by
  have k1 := comm_le a b
  rcases Nat.lt_trichotomy (comm a b) n with h | h | h
  · exact absurd (h2 _ h) (comm_ne a b (by omega))
  · exact h
  · exact absurd (comm_same a b n h) (h3 (by omega))
end Go.Proofs.YtgbhfpkngjlfkaaDoor
