/-
  Bits of lists of bytes, as the program works them out: masks, whole words of eight bytes, leading noughts.
-/
import Derived.Test.YtgbhfpkngjlfkaaDoorPath1
import Derived.Lib.BitFns
namespace Go.Proofs.YtgbhfpkngjlfkaaDoor

theorem byte_and : ∀ (x : Fin 256) (j : Fin 8), x.val &&& (128 / 2 ^ j.val) = x.val / (128 / 2 ^ j.val) % 2 * (128 / 2 ^ j.val) := by decide +kernel
theorem byte_or : ∀ (x : Fin 256) (j : Fin 8), x.val ||| (128 / 2 ^ j.val) = x.val + 1 * (128 / 2 ^ j.val) - x.val / (128 / 2 ^ j.val) % 2 * (128 / 2 ^ j.val) := by decide +kernel
theorem byte_not : ∀ (x : Fin 256) (j : Fin 8), x.val &&& (255 - 128 / 2 ^ j.val) = x.val + 0 * (128 / 2 ^ j.val) - x.val / (128 / 2 ^ j.val) % 2 * (128 / 2 ^ j.val) := by decide +kernel
/-- what is left of a byte behind its first j bits -/
theorem byte_head : ∀ (x : Fin 256) (j k : Fin 8), (x.val &&& (255 - 255 / 2 ^ j.val)) / (128 / 2 ^ k.val) % 2 = if k.val < j.val then x.val / (128 / 2 ^ k.val) % 2 else 0 := by decide +kernel

/-- the prefix of n bits, as the program makes it -/
def prefW (p : List UInt8) (n : Nat) : List UInt8 :=
  p.take (n / 8) ++ [UInt8.ofNat ((p.getD (n / 8) 0).toNat &&& (255 - 255 / 2 ^ (n % 8)))] ++ List.replicate (31 - n / 8) 0

theorem prefW_length (p : List UInt8) (n : Nat) (hp : p.length = 32) (hn : n < 256) : (prefW p n).length = 32 := by
  simp [prefW, hp]; omega
theorem bitAt_lo (p q : List UInt8) (k : Nat) (h : (p.getD (k / 8) 0) = q.getD (k / 8) 0) : bitAt p k = bitAt q k := by
  unfold bitAt; rw [h]
theorem pref_eq (p : List UInt8) (n : Nat) (hp : p.length = 32) (hn : n < 256) : prefW p n = pref p n := by
  refine bits_ext _ _ (prefW_length p n hp hn) (by rw [pref_length, hp]) fun k hk => ?_
  rw [bitAt_pref p n k hp (by omega) hk]
  rcases Nat.lt_trichotomy (k / 8) (n / 8) with h | h | h
  · rw [if_pos (by omega)]
    refine bitAt_lo _ _ _ ?_
    have h2 : k / 8 < p.length := by omega
    have h3 : min (n / 8) p.length = n / 8 := by omega
    simp only [prefW, List.getD, List.append_assoc, List.getElem?_append, List.length_take, h3, h, if_true, List.getElem?_take]
  · have e : (prefW p n).getD (k / 8) 0 = UInt8.ofNat ((p.getD (n / 8) 0).toNat &&& (255 - 255 / 2 ^ (n % 8))) := by
      have h2 : min (n / 8) p.length = n / 8 := by omega
      simp only [prefW, List.getD, List.append_assoc, List.getElem?_append, List.length_take, h2, h, Nat.lt_irrefl, if_false, List.length_singleton, Nat.sub_self, Nat.zero_lt_one, if_true, List.getElem?_cons_zero, Option.getD_some]
    have hlt : (p.getD (n / 8) 0).toNat &&& (255 - 255 / 2 ^ (n % 8)) < 256 := Nat.lt_of_le_of_lt Nat.and_le_left (UInt8.toNat_lt _)
    have hB := byte_head ⟨(p.getD (n / 8) 0).toNat, UInt8.toNat_lt _⟩ ⟨n % 8, Nat.mod_lt _ (by decide)⟩ ⟨k % 8, Nat.mod_lt _ (by decide)⟩
    simp only at hB
    unfold bitAt
    rw [e, UInt8.toNat_ofNat', Nat.mod_eq_of_lt hlt]
    unfold wt
    rw [hB, h]
    have hk8 : k % 8 < n % 8 ↔ k < n := by omega
    simp only [hk8]
  · rw [if_neg (by omega)]
    have e : (prefW p n).getD (k / 8) 0 = 0 := by
      have h2 : min (n / 8) p.length = n / 8 := by omega
      have h3 : k / 8 < 32 := by omega
      simp only [prefW, List.getD, List.append_assoc, List.getElem?_append, List.length_take, h2, show ¬ k / 8 < n / 8 by omega, if_false, List.length_singleton, show ¬ k / 8 - n / 8 < 1 by omega, List.getElem?_replicate]
      split <;> rfl
    unfold bitAt
    rw [e]
    simp

/-- the number that bytes make, the first one the greatest -/
def big (l : List UInt8) : Nat := l.foldl (fun x b => x * 256 + b.toNat) 0
theorem big_snoc (l : List UInt8) (b : UInt8) : big (l ++ [b]) = big l * 256 + b.toNat := by simp [big]
/-- the k-th word -/
def wordAt (p : List UInt8) (k : Nat) : Nat := big ((p.drop (8 * k)).take 8)

theorem big8 (a b c d e f g h : UInt8) : big [a, b, c, d, e, f, g, h] = a.toNat * 72057594037927936 + b.toNat * 281474976710656 + c.toNat * 1099511627776 + d.toNat * 4294967296 + e.toNat * 16777216 + f.toNat * 65536 + g.toNat * 256 + h.toNat := by
  simp only [big, List.foldl]; omega
theorem big8_byte (l : List UInt8) (hl : l.length = 8) (m : Nat) (hm : m < 8) : big l / 256 ^ (7 - m) % 256 = (l.getD m 0).toNat := by
  match l, hl with
  | [a, b, c, d, e, f, g, h], _ =>
    rw [big8]
    have ha := a.toNat_lt; have hb := b.toNat_lt; have hc := c.toNat_lt; have hd := d.toNat_lt
    have he := e.toNat_lt; have hf := f.toNat_lt; have hg := g.toNat_lt; have hh := h.toNat_lt
    rcases (by omega : m = 0 ∨ m = 1 ∨ m = 2 ∨ m = 3 ∨ m = 4 ∨ m = 5 ∨ m = 6 ∨ m = 7) with rfl | rfl | rfl | rfl | rfl | rfl | rfl | rfl <;> simp only [List.getD, List.getElem?_cons_zero, List.getElem?_cons_succ, Option.getD_some, Nat.reduceSub, Nat.reducePow] <;> omega
theorem big8_lt (l : List UInt8) (hl : l.length = 8) : big l < 18446744073709551616 := by
  match l, hl with
  | [a, b, c, d, e, f, g, h], _ =>
    rw [big8]
    have ha := a.toNat_lt; have hb := b.toNat_lt; have hc := c.toNat_lt; have hd := d.toNat_lt
    have he := e.toNat_lt; have hf := f.toNat_lt; have hg := g.toNat_lt; have hh := h.toNat_lt
    omega
theorem part_length (p : List UInt8) (hp : p.length = 32) (k : Nat) (hk : k < 4) : ((p.drop (8 * k)).take 8).length = 8 := by simp [hp]; omega
theorem wordAt_lt (p : List UInt8) (hp : p.length = 32) (k : Nat) (hk : k < 4) : wordAt p k < 18446744073709551616 := big8_lt _ (part_length p hp k hk)

theorem wt_div (i : Nat) : wt i = 2 ^ (7 - i % 8) := by
  have h : i % 8 < 8 := Nat.mod_lt _ (by decide)
  unfold wt
  generalize i % 8 = j at *
  rcases (by omega : j = 0 ∨ j = 1 ∨ j = 2 ∨ j = 3 ∨ j = 4 ∨ j = 5 ∨ j = 6 ∨ j = 7) with rfl | rfl | rfl | rfl | rfl | rfl | rfl | rfl <;> decide
/-- bit j of word k is bit 64 k + j of the path -/
theorem bitAt_word (p : List UInt8) (hp : p.length = 32) (k j : Nat) (hk : k < 4) (hj : j < 64) : bitAt p (64 * k + j) = wordAt p k / 2 ^ (63 - j) % 2 := by
  have hb := big8_byte _ (part_length p hp k hk) (j / 8) (by omega)
  have e1 : ((p.drop (8 * k)).take 8).getD (j / 8) 0 = p.getD ((64 * k + j) / 8) 0 := by
    rw [show (64 * k + j) / 8 = 8 * k + j / 8 by omega]
    simp [List.getD, show j / 8 < 8 by omega]
  rw [e1] at hb
  unfold bitAt
  rw [← hb, wt_div, show (64 * k + j) % 8 = j % 8 by omega]
  unfold wordAt
  generalize big _ = x
  rw [show (256 : Nat) ^ (7 - j / 8) = 2 ^ (8 * (7 - j / 8)) by rw [show (256 : Nat) = 2 ^ 8 from rfl, ← Nat.pow_mul]]
  rw [show 63 - j = 8 * (7 - j / 8) + (7 - j % 8) by omega, Nat.pow_add, ← Nat.div_div_eq_div_mul]
  generalize x / 2 ^ (8 * (7 - j / 8)) = y
  have h8 : 7 - j % 8 < 8 := by omega
  generalize 7 - j % 8 = s at *
  rcases (by omega : s = 0 ∨ s = 1 ∨ s = 2 ∨ s = 3 ∨ s = 4 ∨ s = 5 ∨ s = 6 ∨ s = 7) with rfl | rfl | rfl | rfl | rfl | rfl | rfl | rfl <;> simp only [Nat.reducePow] <;> omega
theorem bitAt_test (p : List UInt8) (hp : p.length = 32) (k j : Nat) (hk : k < 4) (hj : j < 64) : bitAt p (64 * k + j) = ((wordAt p k).testBit (63 - j)).toNat := by
  rw [bitAt_word p hp k j hk hj, Nat.toNat_testBit]

/-- a number that is not nought, between the powers of two that its length tells -/
theorem bitLen_spec : ∀ (f x : Nat), x ≠ 0 → x < 2 ^ f → f ≤ 64 → 1 ≤ Go.Lib.bitLenAux f x ∧ Go.Lib.bitLenAux f x ≤ f ∧ 2 ^ (Go.Lib.bitLenAux f x - 1) ≤ x ∧ x < 2 ^ (Go.Lib.bitLenAux f x) := by
  intro f
  induction f with
  | zero => intro x h0 h; simp at h; exact absurd h h0
  | succ f ih =>
    intro x h0 h hf
    unfold Go.Lib.bitLenAux
    rw [if_neg h0]
    by_cases h1 : x / 2 = 0
    · have : x = 1 := by omega
      subst this
      cases f <;> simp [Go.Lib.bitLenAux]
    · obtain ⟨k1, k2, k3, k4⟩ := ih (x / 2) h1 (by rw [Nat.pow_succ] at h; omega) (by omega)
      generalize Go.Lib.bitLenAux f (x / 2) = L at *
      obtain ⟨M, rfl⟩ : ∃ M, L = M + 1 := ⟨L - 1, by omega⟩
      refine ⟨by omega, by omega, ?_, ?_⟩
      · rw [show 1 + (M + 1) - 1 = M + 1 by omega, Nat.pow_succ]
        simp only [Nat.add_sub_cancel] at k3
        omega
      · rw [show 1 + (M + 1) = (M + 1) + 1 by omega, Nat.pow_succ]
        omega

theorem xor_zero {a b : Nat} (h : a ^^^ b = 0) : a = b := by
  have := congrArg (· ^^^ b) h
  simpa [Nat.xor_assoc] using this
/-- where paths part whose words are the same ahead of the k-th -/
theorem comm_words (p q : List UInt8) (hp : p.length = 32) (hq : q.length = 32) (k : Nat) (hk : k < 4) (hs : ∀ i, i < k → wordAt p i = wordAt q i) (hne : wordAt p k ≠ wordAt q k) :
    comm p q = 64 * k + (64 - Go.Lib.bitLen (wordAt p k ^^^ wordAt q k)) := by
  have hx0 : wordAt p k ^^^ wordAt q k ≠ 0 := fun h => hne (xor_zero h)
  have hxl : wordAt p k ^^^ wordAt q k < 2 ^ 64 := Nat.xor_lt_two_pow (wordAt_lt p hp k hk) (wordAt_lt q hq k hk)
  obtain ⟨l1, l2, l3, l4⟩ := bitLen_spec 64 _ hx0 hxl (Nat.le_refl _)
  unfold Go.Lib.bitLen
  generalize hL : Go.Lib.bitLenAux 64 (wordAt p k ^^^ wordAt q k) = L at *
  have hhi : ∀ i, L ≤ i → (wordAt p k).testBit i = (wordAt q k).testBit i := fun i hi => by
    have := Nat.testBit_lt_two_pow (Nat.lt_of_lt_of_le l4 (Nat.pow_le_pow_right (by decide) hi))
    rw [Nat.testBit_xor] at this
    simpa using this
  have hat : (wordAt p k).testBit (L - 1) ≠ (wordAt q k).testBit (L - 1) := fun e => by
    have h2 : (wordAt p k ^^^ wordAt q k).testBit (L - 1) = true := by
      rw [Nat.testBit_eq_decide_div_mod_eq]
      have h3 : (wordAt p k ^^^ wordAt q k) / 2 ^ (L - 1) = 1 := by
        rw [show L = (L - 1) + 1 by omega, Nat.pow_succ] at l4
        have hpos : 0 < 2 ^ (L - 1) := Nat.pos_of_ne_zero (by simp)
        refine Nat.div_eq_of_lt_le (by omega) (by omega)
      rw [h3]; rfl
    rw [Nat.testBit_xor, e] at h2
    simp at h2
  refine comm_unique p q _ (by omega) (fun i hi => ?_) (fun _ => ?_)
  · rcases Nat.lt_or_ge i (64 * k) with h | h
    · have hi4 : i / 64 < k := by omega
      have e := hs _ hi4
      rw [show i = 64 * (i / 64) + i % 64 by omega, bitAt_test p hp _ _ (by omega) (by omega), bitAt_test q hq _ _ (by omega) (by omega), e]
    · rw [show i = 64 * k + (i - 64 * k) by omega, bitAt_test p hp _ _ hk (by omega), bitAt_test q hq _ _ hk (by omega), hhi _ (by omega)]
  · rw [bitAt_test p hp _ _ hk (by omega), bitAt_test q hq _ _ hk (by omega), show 63 - (64 - L) = L - 1 by omega]
    intro e
    refine hat ?_
    revert e
    cases (wordAt p k).testBit (L - 1) <;> cases (wordAt q k).testBit (L - 1) <;> simp
/-- paths that are not the same have a word that is not -/
theorem words_ext (p q : List UInt8) (hp : p.length = 32) (hq : q.length = 32) (h : ∀ k, k < 4 → wordAt p k = wordAt q k) : p = q :=
  bits_ext p q hp hq fun i hi => by
    rw [show i = 64 * (i / 64) + i % 64 by omega, bitAt_test p hp _ _ (by omega) (by omega), bitAt_test q hq _ _ (by omega) (by omega), h _ (by omega)]
end Go.Proofs.YtgbhfpkngjlfkaaDoor
