/-
  The walk of path's word.
-/
import Derived.Test.YtgbhfpkngjlfkaaGreatDoorCon04A
namespace Go.Proofs.YtgbhfpkngjlfkaaGreatDoor
open Go.RowKit

theorem bigF_lt (l : List UInt8) : ∀ x n : Nat, x < 256 ^ n → l.foldl (fun x b => x * 256 + b.toNat) x < 256 ^ (n + l.length) := by
  induction l with
  | nil => intro x n h; simpa using h
  | cons b l ih =>
    intro x n h
    have hb := b.toNat_lt
    have := ih (x * 256 + b.toNat) (n + 1) (by rw [Nat.pow_succ]; omega)
    rw [List.foldl_cons, List.length_cons, show n + (l.length + 1) = n + 1 + l.length by omega]
    exact this
theorem big_lt (l : List UInt8) : big l < 256 ^ l.length := by
  have := bigF_lt l 0 0 (by decide)
  rwa [Nat.zero_add] at this
/-- the number of a word's first j bytes -/
def wordTo (p : List UInt8) (k j : Nat) : Nat := big ((p.drop (8 * k)).take j)
theorem wordTo_zero (p : List UInt8) (k : Nat) : wordTo p k 0 = 0 := by simp [wordTo, big]
theorem wordTo_eight (p : List UInt8) (k : Nat) : wordTo p k 8 = wordAt p k := rfl
theorem wordTo_step (p : List UInt8) (hp : p.length = 32) (k j : Nat) (hk : k < 4) (hj : j < 8) : wordTo p k (j + 1) = wordTo p k j * 256 + (p.getD (8 * k + j) 0).toNat := by
  unfold wordTo
  have h : j < (p.drop (8 * k)).length := by simp [hp]; omega
  rw [List.take_succ_eq_append_getElem h, big_snoc]
  have h2 : 8 * k + j < p.length := by omega
  simp [List.getD, h2]
theorem wordTo_lt (p : List UInt8) (k j : Nat) (hj : j < 8) : wordTo p k j < 72057594037927936 := by
  have h := big_lt ((p.drop (8 * k)).take j)
  have h2 : ((p.drop (8 * k)).take j).length ≤ 7 := by simp; omega
  have h3 := Nat.pow_le_pow_right (show 0 < 256 by decide) h2
  unfold wordTo
  have h4 : (256 : Nat) ^ 7 = 72057594037927936 := by decide
  omega
theorem or_byte (x b : Nat) (hx : x < 72057594037927936) (hb : b < 256) : bits .or .u64 ((x : Int) * 256) (b : Int) = ((x * 256 + b : Nat) : Int) := by
  rw [show ((x : Int) * 256) = ((x * 256 : Nat) : Int) by simp, u64_or_nat _ _ (by omega) (by omega)]
  have h := Nat.two_pow_add_eq_or_of_lt (i := 8) (b := b) (by simpa using hb) x
  rw [Nat.mul_comm x 256]
  simp only [Nat.reducePow] at h
  rw [h]

set_option maxRecDepth 100000 in
set_option maxHeartbeats 1000000 in
theorem word_any (w : World) (p : List UInt8) (hp : p.length = 32) (k : Nat) (hk : k < 4) :
    Calls Tryz.prog 52 #[.agg (bs p).toArray, .int .i64 (k : Int)] w fun e w' => e = .returned (.int .u64 (wordAt p k : Int)) ∧ Below w.heap.size w w' := by
  have hb0 := Blk.new w 24 (bs p)
  have hB0 : Below w.heap.size w (w.alloc (.cells (bs p).toArray 24)) := (Below.refl _ w).alloc (Nat.le_refl _) _
  have hsl := Lib.hid (fun W : World => sliceD W w.heap.size (8 * k) (8 * k + 8) (8 * (k : Int)) (8 * ((k : Int) + 1)) (by omega) (by omega) (by omega) (by omega) (by omega))
  have e8 : 8 * k + 8 - 8 * k = 8 := by omega
  rw [e8] at hsl
  clear e8
  go_enter Tryz.func52, Tryz.ntmps52
  go_wp2_with (simp only [hsl.out])
  clear hsl
  have hW0 := wordTo_zero p k
  generalize w.alloc _ = w1 at *
  go_loopw [5, 15] (fun x t wr => ∃ j : Nat, j ≤ 8 ∧ t = .int .i64 j ∧ x = .int .u64 (wordTo p k j : Int) ∧ w1 = wr) (fun _ t _ => 8 - (intOf t).toNat)
  case atStart => exact ⟨0, by omega, rfl, by rw [hW0]; rfl, rfl⟩
  case round =>
    obtain ⟨j, hj, rfl, rfl, rfl⟩ := hrel
    clear hW0
    by_cases hlt : j < 8
    · have c0 := hb0.cell (bs_at p (8 * k + j) (by omega))
      have hst := Lib.hid (wordTo_step p hp k j hk hlt)
      have hxl := wordTo_lt p k j hlt
      have hbl := (p.getD (8 * k + j) 0).toNat_lt
      have h3 : (j : Int) < 8 := by omega
      generalize wordTo p k j = x at *
      generalize (p.getD (8 * k + j) 0).toNat = b at *
      have ho := Lib.hid (or_byte x b hxl (by omega))
      have s1 : IntKind.u64.wrap ((x : Int) * 256) = (x : Int) * 256 := by rw [IntKind.wrap_u64]; omega
      go_wp2_with fail
      exact ⟨⟨j + 1, by omega, by go_num, by rw [hst.out, ← ho.out], trivial⟩, by simp [intOf]; omega⟩
    · obtain rfl : j = 8 := by omega
      rw [wordTo_eight]
      have h3 : ¬ ((8 : Nat) : Int) < 8 := by omega
      generalize hv : wordAt p k = v at *
      have HV := Lib.hid hv
      clear hv
      go_wp2_with fail
      go_ret
      exact ⟨by rw [HV.out]; rfl, hB0⟩
end Go.Proofs.YtgbhfpkngjlfkaaGreatDoor
