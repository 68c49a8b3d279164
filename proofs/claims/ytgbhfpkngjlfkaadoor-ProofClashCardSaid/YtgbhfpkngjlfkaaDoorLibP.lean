/-
  A slice of slices of bytes, and a slice of bools, that came in.
-/
import Derived.Test.YtgbhfpkngjlfkaaDoorLib
namespace Go.Proofs.YtgbhfpkngjlfkaaDoor
open Go.RowKit

/-- a slice of slices of bytes reads as ps -/
structure RdP (w : World) (a : Option Addr) (n c : Nat) (ps : List (List UInt8)) : Prop where
  len : ps.length = n
  cap : n ≤ c
  max : c ≤ maxLen
  nil : a = none → n = 0
  cell : ∀ ad, a = some ad → ∀ j, j < n → ∃ aj nj cj, w.cell? (ad.add j) = some (.slice aj nj cj) ∧ Rd w aj nj cj (ps.getD j [])
/-- a slice of bools reads as qs -/
structure RdB (w : World) (a : Option Addr) (n c : Nat) (qs : List Bool) : Prop where
  len : qs.length = n
  cap : n ≤ c
  max : c ≤ maxLen
  nil : a = none → n = 0
  cell : ∀ ad, a = some ad → ∀ j, j < n → w.cell? (ad.add j) = some (.bool (qs.getD j false))

theorem RdP.at {w : World} {a : Option Addr} {n c : Nat} {ps : List (List UInt8)} (h : RdP w a n c ps) {i : Nat} (hi : i < n) : ∃ b off ai ni ci, a = some ⟨b, off, none⟩ ∧ w.cell? ⟨b, off + i, none⟩ = some (.slice ai ni ci) ∧ Rd w ai ni ci (ps.getD i []) := by
  cases a with
  | none => have := h.nil rfl; omega
  | some ad =>
    obtain ⟨b, off, sp⟩ := ad
    obtain ⟨_, _, _, h0, _⟩ := h.cell _ rfl 0 (by omega)
    obtain rfl : sp = none := by simpa [Addr.add] using World.cell?_spot h0
    obtain ⟨ai, ni, ci, h1, h2⟩ := h.cell _ rfl i hi
    rw [Addr.add_lit] at h1
    exact ⟨b, off, ai, ni, ci, rfl, h1, h2⟩
theorem RdB.at {w : World} {a : Option Addr} {n c : Nat} {qs : List Bool} (h : RdB w a n c qs) {i : Nat} (hi : i < n) : ∃ b off, a = some ⟨b, off, none⟩ ∧ w.cell? ⟨b, off + i, none⟩ = some (.bool (qs.getD i false)) := by
  cases a with
  | none => have := h.nil rfl; omega
  | some ad =>
    obtain ⟨b, off, sp⟩ := ad
    have h0 := h.cell _ rfl 0 (by omega)
    obtain rfl : sp = none := by simpa [Addr.add] using World.cell?_spot h0
    have h1 := h.cell _ rfl i hi
    rw [Addr.add_lit] at h1
    exact ⟨b, off, rfl, h1⟩
end Go.Proofs.YtgbhfpkngjlfkaaDoor
