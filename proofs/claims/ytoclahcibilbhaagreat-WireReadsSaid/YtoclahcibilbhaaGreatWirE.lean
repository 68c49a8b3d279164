/-
  Package wire's fields, decoded: head, signed.
-/
import Derived.Test.YtoclahcibilbhaaGreatWirD
import Derived.Test.YtoclahcibilbhaaGreatWirB
namespace Go.Proofs.YtoclahcibilbhaaGreat
open Go.RowKit
set_option maxRecDepth 100000

def gN (l : List UInt8) : Option (Int × List UInt8) := if (cnt 0 0 l).2.2 = 0 then some (((cnt 0 0 l).1 : Int), l.drop (cnt 0 0 l).2.1) else none
def gD (l : List UInt8) : Option (List UInt8 × List UInt8) := if 32 ≤ l.length then some (l.take 32, l.drop 32) else none
def gH (l : List UInt8) : Option (Hd × List UInt8) := (gN l).bind fun p => (gD p.2).bind fun q => (gD q.2).bind fun s => some (⟨p.1, q.1, s.1⟩, s.2)
def gS (l : List UInt8) : Option (Sg × List UInt8) := (gH l).bind fun p => (gD p.2).bind fun q => some (⟨p.1, q.1⟩, q.2)

/-- what reading does: the error, and without one the thing and what is left -/
def DecI {α : Type} (o : Option (α × List UInt8)) (err : Int) (C : α → List UInt8 → Prop) : Prop :=
  (err = 0 ∧ ∃ x l', o = some (x, l') ∧ C x l') ∨ (err ≠ 0 ∧ o = none)

theorem NumI.dec {l : List UInt8} {err : Int} {C : List UInt8 → Value → Prop} (h : NumI l err C) : DecI (gN l) err fun m l' => C l' (.int .i64 m) := by
  rcases h with ⟨h0, h1, h2⟩ | ⟨h0, h1⟩
  · exact .inl ⟨h0, _, _, by rw [gN, if_pos h1], h2⟩
  · exact .inr ⟨h0, by rw [gN, if_neg h1]⟩
theorem DigI.dec {l : List UInt8} {err : Int} {C : List UInt8 → List UInt8 → Prop} (h : DigI l err C) : DecI (gD l) err fun d l' => d.length = 32 ∧ C l' d := by
  rcases h with ⟨h0, h1, h2⟩ | ⟨h0, h1⟩
  · exact .inl ⟨h0, _, _, by rw [gD, if_pos h1], by simp; omega, h2⟩
  · exact .inr ⟨h0, by rw [gD, if_neg (by omega)]⟩



end Go.Proofs.YtoclahcibilbhaaGreat
