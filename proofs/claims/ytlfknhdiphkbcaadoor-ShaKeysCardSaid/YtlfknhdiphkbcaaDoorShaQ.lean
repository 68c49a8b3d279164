/-
  A quick way to reckon SHA-256's first word of a message of one block, and that a byte and the same byte twice have unlike sums.
-/
import Derived.Test.YtlfknhdiphkbcaaDoorShaC
namespace Go.Proofs.YtlfknhdiphkbcaaDoor

/-- n, reckoned out, handed to f -/
def force (n : Nat) (f : Nat → Nat) : Nat := match n with
  | 0 => f 0
  | m + 1 => f (m + 1)
theorem force_eq (n : Nat) (f : Nat → Nat) : force n f = f n := by cases n <;> rfl

/-- the rounds on a window of sixteen words: the first word behind them -/
def quick : List Nat → (w0 w1 w2 w3 w4 w5 w6 w7 w8 w9 w10 w11 w12 w13 w14 w15 a b c d e f g h : Nat) → Nat
  | [], _, _, _, _, _, _, _, _, _, _, _, _, _, _, _, _, a, _, _, _, _, _, _, _ => a
  | k :: r, w0, w1, w2, w3, w4, w5, w6, w7, w8, w9, w10, w11, w12, w13, w14, w15, a, b, c, d, e, f, g, h =>
    force ((sg1 w14 + w9 + sg0 w1 + w0) % 4294967296) fun n =>
    force (one e f g h k w0) fun t =>
    force ((d + t) % 4294967296) fun e' =>
    force ((t + two a b c) % 4294967296) fun a' =>
    quick r w1 w2 w3 w4 w5 w6 w7 w8 w9 w10 w11 w12 w13 w14 w15 n a' a b c e' e f g

/-- the t-th word -/
def wq (b : List UInt8) (t : Nat) : Nat := (sched b (t + 1)).getD t 0

theorem sched_getD (b : List UInt8) (n t : Nat) (h : t < n) : (sched b n).getD t 0 = wq b t := by
  induction n with
  | zero => omega
  | succ n ih =>
    by_cases hn : t = n
    · subst hn; rfl
    · rw [sched]
      simp only [List.getD]
      rw [List.getElem?_append_left (by rw [show (sched b n).length = n from by
        clear ih h hn
        induction n with
        | zero => rfl
        | succ n ih => simp [sched, ih]]; omega)]
      exact ih (by omega)

theorem sched_len (b : List UInt8) (n : Nat) : (sched b n).length = n := by
  induction n with
  | zero => rfl
  | succ n ih => simp [sched, ih]

theorem wq_small (b : List UInt8) (t : Nat) (h : t < 16) : wq b t = word b t := by
  unfold wq
  rw [sched, if_pos h]
  simp only [List.getD]
  rw [List.getElem?_append_right (by rw [sched_len]; omega), sched_len]
  simp

theorem wq_rec (b : List UInt8) (t : Nat) : wq b (t + 16) = (sg1 (wq b (t + 14)) + wq b (t + 9) + sg0 (wq b (t + 1)) + wq b t) % 4294967296 := by
  unfold wq
  rw [sched, if_neg (by omega)]
  simp only [List.getD]
  rw [List.getElem?_append_right (by rw [sched_len]; omega), sched_len]
  simp only [Nat.sub_self, List.getElem?_cons_zero, Option.getD_some, ext]
  have e : ∀ j, j < t + 16 → (sched b (t + 16)).getD j 0 = (sched b (j + 1)).getD j 0 := fun j hj => sched_getD b _ j hj
  rw [e _ (by omega), e _ (by omega), e _ (by omega), e _ (by omega)]
  rw [show t + 16 - 2 = t + 14 by omega, show t + 16 - 7 = t + 9 by omega, show t + 16 - 15 = t + 1 by omega, show t + 16 - 16 = t by omega]
  rfl

theorem quick_eq (b : List UInt8) (s : H8) : ∀ (m t : Nat), t + m = 64 →
    quick (ks.drop t) (wq b t) (wq b (t + 1)) (wq b (t + 2)) (wq b (t + 3)) (wq b (t + 4)) (wq b (t + 5)) (wq b (t + 6)) (wq b (t + 7)) (wq b (t + 8)) (wq b (t + 9)) (wq b (t + 10)) (wq b (t + 11)) (wq b (t + 12)) (wq b (t + 13)) (wq b (t + 14)) (wq b (t + 15))
      (s.rounds (sched b 64) t).a (s.rounds (sched b 64) t).b (s.rounds (sched b 64) t).c (s.rounds (sched b 64) t).d (s.rounds (sched b 64) t).e (s.rounds (sched b 64) t).f (s.rounds (sched b 64) t).g (s.rounds (sched b 64) t).h
      = (s.rounds (sched b 64) 64).a
  | 0, t, h => by
    obtain rfl : t = 64 := by omega
    rw [List.drop_eq_nil_of_le (by decide)]
    rfl
  | m + 1, t, h => by
    have ht : t < ks.length := by have : ks.length = 64 := by decide
                                  omega
    rw [List.drop_eq_getElem_cons ht]
    unfold quick
    simp only [force_eq]
    have ih := quick_eq b s m (t + 1) (by omega)
    have hk : ks[t] = ks.getD t 0 := by simp [List.getD, ht]
    have hw : wq b t = (sched b 64).getD t 0 := (sched_getD b 64 t (by omega)).symm
    rw [← wq_rec b t, hk]
    have e : s.rounds (sched b 64) (t + 1) = (s.rounds (sched b 64) t).round (ks.getD t 0) ((sched b 64).getD t 0) := rfl
    rw [e] at ih
    simp only [H8.round, ← hw] at ih
    exact ih

def pad1 (l : List UInt8) : List UInt8 := l ++ padOf l.length

/-- the first word of the sum of a message that is padded to one block -/
def quickA (l : List UInt8) : Nat :=
  (1779033703 + quick ks (word (pad1 l) 0) (word (pad1 l) 1) (word (pad1 l) 2) (word (pad1 l) 3) (word (pad1 l) 4) (word (pad1 l) 5) (word (pad1 l) 6) (word (pad1 l) 7) (word (pad1 l) 8) (word (pad1 l) 9) (word (pad1 l) 10) (word (pad1 l) 11) (word (pad1 l) 12) (word (pad1 l) 13) (word (pad1 l) 14) (word (pad1 l) 15)
    1779033703 3144134277 1013904242 2773480762 1359893119 2600822924 528734635 1541459225) % 4294967296

theorem quickA_eq (l : List UInt8) (h : (pad1 l).length = 64) : (sha l).take 4 = be4 (quickA l) := by
  have h1 : sha l = ((H8.init.mix (pad1 l))).bytes := by
    unfold sha
    change (blocks (pad1 l) ((pad1 l).length / 64)).bytes = _
    rw [h]
    show (blocks (pad1 l) 1).bytes = _
    unfold blocks blocks
    rw [Nat.mul_zero, List.drop_zero, List.take_of_length_le (Nat.le_of_eq h)]
  have h2 := quick_eq (pad1 l) H8.init 64 0 rfl
  rw [h1]
  unfold H8.bytes
  rw [List.append_assoc, List.append_assoc, List.append_assoc, List.append_assoc, List.append_assoc, List.append_assoc, List.take_append_of_le_length (by simp [be4]), List.take_of_length_le (by simp [be4])]
  congr 1
  unfold H8.mix H8.add quickA
  rw [← h2]
  simp only [Nat.zero_add, List.drop_zero, wq_small _ _ (by omega : 0 < 16), wq_small _ _ (by omega : 1 < 16), wq_small _ _ (by omega : 2 < 16), wq_small _ _ (by omega : 3 < 16), wq_small _ _ (by omega : 4 < 16), wq_small _ _ (by omega : 5 < 16), wq_small _ _ (by omega : 6 < 16), wq_small _ _ (by omega : 7 < 16), wq_small _ _ (by omega : 8 < 16), wq_small _ _ (by omega : 9 < 16), wq_small _ _ (by omega : 10 < 16), wq_small _ _ (by omega : 11 < 16), wq_small _ _ (by omega : 12 < 16), wq_small _ _ (by omega : 13 < 16), wq_small _ _ (by omega : 14 < 16), wq_small _ _ (by omega : 15 < 16)]
  rfl
end Go.Proofs.YtlfknhdiphkbcaaDoor
