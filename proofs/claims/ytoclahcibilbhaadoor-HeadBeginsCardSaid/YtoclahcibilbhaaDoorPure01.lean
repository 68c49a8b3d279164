/-
  What is encoded is decoded, and what is decoded was encoded: of lists of bytes alone.
-/
import Derived.Test.YtoclahcibilbhaaDoorOctD
import Derived.Test.YtoclahcibilbhaaDoorRef01
namespace Go.Proofs.YtoclahcibilbhaaDoor
set_option maxRecDepth 100000

theorem toU8 (n : Nat) (h : n < 256) : (n.toUInt8).toNat = n := by simp [Nat.toUInt8]; omega

theorem cnt_enc : ∀ (n k m : Nat) (t : List UInt8), k ≤ 4 → m + n * 128 ^ k ≤ 2147483647 → (0 < k → 0 < n) → cnt k m (encC n ++ t) = (m + n * 128 ^ k, k + (encC n).length, 0) := by
  intro n
  induction n using Nat.strongRecOn with
  | _ n ih =>
    intro k m t hk hm h0
    by_cases h : n < 128
    · rw [encC_lt h]
      simp only [List.cons_append, List.nil_append, List.length_cons, List.length_nil]
      rw [cnt, if_neg (by omega), if_neg (by rw [toU8 n (by omega)]; omega), toU8 n (by omega), Nat.mod_eq_of_lt h, if_neg]
      intro hc
      rcases hc with ⟨h1, h2⟩ | h1
      · have := h0 h1; omega
      · omega
    · have e1 : ((n % 128).toUInt8 ||| 128).toNat = n % 128 + 128 := by rw [or128 _ (by rw [toU8 _ (by omega)]; omega), toU8 _ (by omega)]
      have hp : 128 ^ (k + 1) ≤ 2147483647 := by
        rw [Nat.pow_succ]
        have : 128 * 128 ^ k ≤ n * 128 ^ k := Nat.mul_le_mul_right _ (by omega)
        omega
      have hk4 : k + 1 ≤ 4 := by
        rcases Nat.lt_or_ge k 4 with h4 | h4
        · omega
        · have : 128 ^ (4 + 1) ≤ 128 ^ (k + 1) := Nat.pow_le_pow_right (by omega) (by omega)
          omega
      have e2 : n % 128 * 128 ^ k + n / 128 * 128 ^ (k + 1) = n * 128 ^ k := by
        rw [Nat.pow_succ, Nat.mul_comm (128 ^ k) 128, ← Nat.mul_assoc, ← Nat.add_mul]
        congr 1
        omega
      rw [encC_ge h]
      simp only [List.cons_append, List.length_cons]
      rw [cnt, if_neg (by omega), if_pos (by rw [e1]; omega), e1, show (n % 128 + 128) % 128 = n % 128 by omega, ih (n / 128) (by omega) (k + 1) _ t hk4 (by omega) (by omega)]
      simp only [Prod.mk.injEq, and_true]
      omega

theorem or128_back (c : UInt8) (h : 128 ≤ c.toNat) : ((c.toNat % 128).toUInt8 ||| 128) = c := by
  have key : ∀ k : Fin 256, 128 ≤ k.val → ((k.val % 128).toUInt8 ||| 128) = UInt8.ofNat k.val := by decide +kernel
  have := key ⟨c.toNat, c.toNat_lt⟩ h
  simpa using this

theorem cnt_back : ∀ (l : List UInt8) (k m N y : Nat), cnt k m l = (N, y, 0) → ∃ n, N = m + n * 128 ^ k ∧ y = k + (encC n).length ∧ l.take (encC n).length = encC n ∧ (0 < k → 0 < n) := by
  intro l
  induction l with
  | nil =>
    intro k m N y h
    unfold cnt at h
    split at h <;> simp at h
  | cons c r ih =>
    intro k m N y h
    unfold cnt at h
    split at h
    · simp at h
    · split at h
      · rename_i hc
        obtain ⟨n', h1, h2, h3, h4⟩ := ih _ _ _ _ h
        have hn' := h4 (by omega)
        have hcl := c.toNat_lt
        have hge : ¬ (c.toNat % 128 + 128 * n') < 128 := by omega
        refine ⟨c.toNat % 128 + 128 * n', ?_, ?_, ?_, fun _ => by omega⟩
        · rw [h1, Nat.pow_succ, Nat.add_mul, Nat.mul_comm 128 n', Nat.mul_assoc, Nat.mul_comm 128 (128 ^ k)]
          omega
        · rw [encC_ge hge, show (c.toNat % 128 + 128 * n') / 128 = n' by omega, h2]
          simp; omega
        · rw [encC_ge hge, show (c.toNat % 128 + 128 * n') / 128 = n' by omega, show (c.toNat % 128 + 128 * n') % 128 = c.toNat % 128 by omega, or128_back c hc]
          simp [h3]
      · split at h
        · simp at h
        · rename_i hc hb
          simp only [Prod.mk.injEq, and_true] at h
          have h128 : c.toNat < 128 := by omega
          refine ⟨c.toNat, ?_, ?_, ?_, fun hk => ?_⟩
          · rw [← h.1, Nat.mod_eq_of_lt h128]
          · rw [encC_lt h128, ← h.2]; rfl
          · rw [encC_lt h128]; simp
          · by_cases h0 : c.toNat = 0
            · exact absurd (.inl ⟨hk, h0⟩) hb
            · omega

theorem cnt_enc0 (n : Nat) (t : List UInt8) (h : n ≤ 2147483647) : cnt 0 0 (encC n ++ t) = (n, (encC n).length, 0) := by
  have := cnt_enc n 0 0 t (by omega) (by omega) (by omega)
  simpa using this

theorem cnt_back0 (l : List UInt8) (N y : Nat) (h : cnt 0 0 l = (N, y, 0)) : l.take y = encC N ∧ y = (encC N).length := by
  obtain ⟨n, h1, h2, h3, _⟩ := cnt_back l 0 0 N y h
  obtain rfl : N = n := by omega
  obtain rfl : y = (encC N).length := by omega
  exact ⟨h3, rfl⟩

theorem rdB_enc (s t : List UInt8) (h : s.length ≤ 65536) : rdB (encC s.length ++ s ++ t) = (s, (encC s.length).length + s.length, 0) := by
  have hc := cnt_enc0 s.length (s ++ t) (by omega)
  rw [← List.append_assoc] at hc
  unfold rdB
  rw [hc]
  simp only
  rw [if_neg (by simp), if_neg (by omega), if_neg (by simp)]
  simp

theorem rdB_back (l s : List UInt8) (y : Nat) (h : rdB l = (s, y, 0)) : encC s.length ++ s = l.take y ∧ y ≤ l.length ∧ s.length ≤ 65536 := by
  unfold rdB at h
  obtain ⟨N, z, e, hc⟩ : ∃ N z e, cnt 0 0 l = (N, z, e) := ⟨_, _, _, rfl⟩
  rw [hc] at h
  simp only at h
  split at h
  · rename_i he
    simp only [Prod.mk.injEq] at h
    exact absurd h.2.2 he
  · rename_i he
    split at h
    · simp at h
    · split at h
      · simp at h
      · rename_i h1 h2
        simp only [Prod.mk.injEq, and_true] at h
        obtain ⟨rfl, rfl⟩ := h
        obtain rfl : e = 0 := by omega
        obtain ⟨h3, h4⟩ := cnt_back0 l N z hc
        have hl : ((l.drop z).take N).length = N := by simp; omega
        rw [hl]
        refine ⟨?_, by omega, by omega⟩
        rw [← h3, List.take_add]

theorem rdB_upto (l : List UInt8) : (rdB l).2.1 ≤ l.length := by
  unfold rdB
  split
  · simp
  · split
    · simp
    · split
      · simp
      · simp only; omega
end Go.Proofs.YtoclahcibilbhaaDoor
