/-
  What follows of paths: prefixes, the order, turned bits.
-/
import Derived.Test.YtgbhfpkngjlfkaaDoorPath0
namespace Go.Proofs.YtgbhfpkngjlfkaaDoor

theorem comm_self (a : List UInt8) : comm a a = 256 := comm_unique a a 256 (Nat.le_refl _) (fun _ _ => rfl) (fun h => absurd h (Nat.lt_irrefl _))
theorem comm_symm (a b : List UInt8) : comm a b = comm b a :=
  comm_unique a b (comm b a) (comm_le b a) (fun i hi => (comm_same b a i hi).symm) (fun h => (comm_ne b a h).symm)
theorem comm_full (a b : List UInt8) (ha : a.length = 32) (hb : b.length = 32) : comm a b = 256 ↔ a = b :=
  ⟨fun h => bits_ext a b ha hb fun k hk => comm_same a b k (by omega), fun h => by rw [h, comm_self]⟩
/-- paths whose first n bits are the same have so many in common -/
theorem le_comm (a b : List UInt8) (n : Nat) (hn : n ≤ 256) (h : ∀ i, i < n → bitAt a i = bitAt b i) : n ≤ comm a b := by
  rcases Nat.lt_or_ge (comm a b) n with hlt | hge
  · exact absurd (h _ hlt) (comm_ne a b (by omega))
  · exact hge
theorem pref_eq_iff (a b : List UInt8) (ha : a.length = 32) (hb : b.length = 32) (n : Nat) (hn : n ≤ 256) : pref a n = pref b n ↔ n ≤ comm a b := by
  constructor
  · intro h
    refine le_comm a b n hn fun i hi => ?_
    have h1 := bitAt_pref a n i ha hn (by omega)
    have h2 := bitAt_pref b n i hb hn (by omega)
    rw [if_pos hi] at h1 h2
    rw [← h1, ← h2, h]
  · intro h
    refine bits_ext _ _ (by rw [pref_length, ha]) (by rw [pref_length, hb]) fun k hk => ?_
    rw [bitAt_pref a n k ha hn hk, bitAt_pref b n k hb hn hk]
    by_cases hkn : k < n
    · rw [if_pos hkn, if_pos hkn, comm_same a b k (by omega)]
    · rw [if_neg hkn, if_neg hkn]
theorem comm_pref (a : List UInt8) (ha : a.length = 32) (n : Nat) (hn : n ≤ 256) : n ≤ comm a (pref a n) :=
  le_comm _ _ n hn fun i hi => by rw [bitAt_pref a n i ha hn (by omega), if_pos hi]

theorem lessB_iff (a b : List UInt8) : lessB a b = true ↔ comm a b < 256 ∧ bitAt a (comm a b) = 0 := by simp [lessB]
theorem less_self (a : List UInt8) : lessB a a = false := by simp [lessB, comm_self]
/-- of two paths that part one is less -/
theorem less_other (a b : List UInt8) (h : comm a b < 256) : lessB b a = !lessB a b := by
  have hne := comm_ne a b h
  have h1 := bitAt_lt a (comm a b)
  have h2 := bitAt_lt b (comm a b)
  have hs := comm_symm b a
  unfold lessB
  rw [hs]
  simp only [h, decide_true, Bool.true_and]
  generalize bitAt a (comm a b) = x at *
  generalize bitAt b (comm a b) = y at *
  rcases (by omega : x = 0 ∧ y = 1 ∨ x = 1 ∧ y = 0) with ⟨rfl, rfl⟩ | ⟨rfl, rfl⟩ <;> rfl
theorem less_total (a b : List UInt8) (ha : a.length = 32) (hb : b.length = 32) (h : a ≠ b) : lessB a b ≠ lessB b a := by
  have hc : comm a b < 256 := by
    have h1 := comm_le a b
    have h2 : comm a b ≠ 256 := fun e => h ((comm_full a b ha hb).1 e)
    omega
  rw [less_other a b hc]
  cases lessB a b <;> simp
theorem less_trans (a b c : List UInt8) (h1 : lessB a b = true) (h2 : lessB b c = true) : lessB a c = true := by
  obtain ⟨l1, z1⟩ := (lessB_iff a b).1 h1
  obtain ⟨l2, z2⟩ := (lessB_iff b c).1 h2
  have n1 := comm_ne a b l1
  have n2 := comm_ne b c l2
  rw [lessB_iff]
  rcases Nat.lt_trichotomy (comm a b) (comm b c) with h | h | h
  · have e : comm a c = comm a b := comm_unique a c _ (by omega) (fun i hi => (comm_same a b i hi).trans (comm_same b c i (by omega))) (fun _ => by
      rw [← comm_same b c _ h]; exact n1)
    rw [e]
    exact ⟨l1, z1⟩
  · have hb := bitAt_lt b (comm a b)
    rw [h] at z1 n1 hb
    rw [z2] at n1
    exact absurd z1 n1
  · have e : comm a c = comm b c := comm_unique a c _ (by omega) (fun i hi => (comm_same a b i (by omega)).trans (comm_same b c i hi)) (fun _ => by
      rw [comm_same a b _ h]; exact n2)
    rw [e, comm_same a b _ h]
    exact ⟨l2, z2⟩

/-- a bit turned is where the paths part -/
theorem comm_with (p : List UInt8) (hp : p.length = 32) (i b : Nat) (hi : i < 256) (hb : b < 2) (h : bitAt p i ≠ b) : comm p (withBit p i b) = i :=
  comm_unique _ _ i (by omega) (fun k hk => by rw [bitAt_with p i b k hb (by omega), if_neg (by omega)]) (fun _ => by rw [bitAt_with p i b i hb (by omega), if_pos rfl]; exact h)
theorem with_same (p : List UInt8) (hp : p.length = 32) (i b : Nat) (hi : i < 256) (hb : b < 2) (h : bitAt p i = b) : withBit p i b = p :=
  bits_ext _ _ (by rw [withBit_length, hp]) hp fun k _ => by
    rw [bitAt_with p i b k hb (by omega)]
    by_cases hk : k = i
    · rw [if_pos hk, hk, h]
    · rw [if_neg hk]
theorem less_with (p : List UInt8) (hp : p.length = 32) (i b : Nat) (hi : i < 256) (hb : b < 2) (h : bitAt p i ≠ b) : lessB p (withBit p i b) = decide (b = 1) := by
  have hl := bitAt_lt p i
  have hc := comm_with p hp i b hi hb h
  unfold lessB
  rw [hc]
  simp only [hi, decide_true, Bool.true_and]
  generalize bitAt p i = x at *
  rcases (by omega : x = 0 ∧ b = 1 ∨ x = 1 ∧ b = 0) with ⟨rfl, rfl⟩ | ⟨rfl, rfl⟩ <;> rfl
end Go.Proofs.YtgbhfpkngjlfkaaDoor
