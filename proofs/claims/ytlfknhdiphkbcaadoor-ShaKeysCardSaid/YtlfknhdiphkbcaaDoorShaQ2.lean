/-
  A byte and the same byte twice have unlike sums, reckoned out for each byte.
-/
import Derived.Test.YtlfknhdiphkbcaaDoorShaQ
namespace Go.Proofs.YtlfknhdiphkbcaaDoor

def qne (n : Nat) : Bool := be4 (quickA [UInt8.ofNat n]) != be4 (quickA [UInt8.ofNat n, UInt8.ofNat n])
set_option maxRecDepth 1000000 in
theorem q0 : (List.range' 0 16).all qne = true := by decide +kernel
set_option maxRecDepth 1000000 in
theorem q1 : (List.range' 16 16).all qne = true := by decide +kernel
set_option maxRecDepth 1000000 in
theorem q2 : (List.range' 32 16).all qne = true := by decide +kernel
set_option maxRecDepth 1000000 in
theorem q3 : (List.range' 48 16).all qne = true := by decide +kernel
set_option maxRecDepth 1000000 in
theorem q4 : (List.range' 64 16).all qne = true := by decide +kernel
set_option maxRecDepth 1000000 in
theorem q5 : (List.range' 80 16).all qne = true := by decide +kernel
set_option maxRecDepth 1000000 in
theorem q6 : (List.range' 96 16).all qne = true := by decide +kernel
set_option maxRecDepth 1000000 in
theorem q7 : (List.range' 112 16).all qne = true := by decide +kernel
set_option maxRecDepth 1000000 in
theorem q8 : (List.range' 128 16).all qne = true := by decide +kernel
set_option maxRecDepth 1000000 in
theorem q9 : (List.range' 144 16).all qne = true := by decide +kernel
set_option maxRecDepth 1000000 in
theorem q10 : (List.range' 160 16).all qne = true := by decide +kernel
set_option maxRecDepth 1000000 in
theorem q11 : (List.range' 176 16).all qne = true := by decide +kernel
set_option maxRecDepth 1000000 in
theorem q12 : (List.range' 192 16).all qne = true := by decide +kernel
set_option maxRecDepth 1000000 in
theorem q13 : (List.range' 208 16).all qne = true := by decide +kernel
set_option maxRecDepth 1000000 in
theorem q14 : (List.range' 224 16).all qne = true := by decide +kernel
set_option maxRecDepth 1000000 in
theorem q15 : (List.range' 240 16).all qne = true := by decide +kernel

theorem qne_all (n : Nat) (h : n < 256) : qne n = true := by
  have hm : ∀ j k, n = 16 * j + k → k < 16 → ((List.range' (16 * j) 16).all qne = true) → qne n = true := fun j k e hk hq => by
    rw [List.all_eq_true] at hq
    exact hq n (by rw [List.mem_range']; exact ⟨k, hk, by omega⟩)
  have hj : n / 16 = 0 ∨ n / 16 = 1 ∨ n / 16 = 2 ∨ n / 16 = 3 ∨ n / 16 = 4 ∨ n / 16 = 5 ∨ n / 16 = 6 ∨ n / 16 = 7 ∨ n / 16 = 8 ∨ n / 16 = 9 ∨ n / 16 = 10 ∨ n / 16 = 11 ∨ n / 16 = 12 ∨ n / 16 = 13 ∨ n / 16 = 14 ∨ n / 16 = 15 := by omega
  rcases hj with h | h | h | h | h | h | h | h | h | h | h | h | h | h | h | h
  · exact hm 0 (n % 16) (by omega) (by omega) q0
  · exact hm 1 (n % 16) (by omega) (by omega) q1
  · exact hm 2 (n % 16) (by omega) (by omega) q2
  · exact hm 3 (n % 16) (by omega) (by omega) q3
  · exact hm 4 (n % 16) (by omega) (by omega) q4
  · exact hm 5 (n % 16) (by omega) (by omega) q5
  · exact hm 6 (n % 16) (by omega) (by omega) q6
  · exact hm 7 (n % 16) (by omega) (by omega) q7
  · exact hm 8 (n % 16) (by omega) (by omega) q8
  · exact hm 9 (n % 16) (by omega) (by omega) q9
  · exact hm 10 (n % 16) (by omega) (by omega) q10
  · exact hm 11 (n % 16) (by omega) (by omega) q11
  · exact hm 12 (n % 16) (by omega) (by omega) q12
  · exact hm 13 (n % 16) (by omega) (by omega) q13
  · exact hm 14 (n % 16) (by omega) (by omega) q14
  · exact hm 15 (n % 16) (by omega) (by omega) q15

theorem sha_twice (c : UInt8) : sha [c] ≠ sha [c, c] := by
  intro e
  have h := qne_all c.toNat c.toNat_lt
  have hc : UInt8.ofNat c.toNat = c := by simp
  unfold qne at h
  rw [hc, bne_iff_ne] at h
  refine h ?_
  rw [← quickA_eq [c] (by simp [pad1, padOf, be8]), ← quickA_eq [c, c] (by simp [pad1, padOf, be8]), e]
end Go.Proofs.YtlfknhdiphkbcaaDoor
