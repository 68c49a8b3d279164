/-
  The document's answer, laid out: lists, councils, entries.
-/
import Derived.Test.YtoclahcibilbhaaGreatWirS
import Derived.Test.YtoclahcibilbhaaGreatWirPE
namespace Go.Proofs.YtoclahcibilbhaaGreat
open Go.RowKit
set_option maxRecDepth 100000

/-- what holds in every later world -/
def Ev (base : Nat) (w : World) (P : World → Prop) : Prop := ∀ W, Below base w W → P W
theorem Ev.step {base : Nat} {w w' : World} {P : World → Prop} (h : Ev base w P) (hb : Below base w w') : Ev base w' P := fun W hW => h W (hb.trans hW)
theorem Ev.now {base : Nat} {w : World} {P : World → Prop} (h : Ev base w P) : P w := h w (Below.refl _ _)
theorem loL_longA {α : Type} {lo1 : α → Lo → Lo} {l : List α} {o : Lo} (h : 4096 < l.length) : loL lo1 l o = loA [] 2 o := by
  by_cases h0 : o.1 = 0 <;> simp [loL, loA, h0, h]
theorem loL_shortA {α : Type} {lo1 : α → Lo → Lo} {l : List α} {o : Lo} (h : l.length ≤ 4096) (hs : ∀ x o, o.1 ≠ 0 → lo1 x o = o) : loL lo1 l o = l.foldl (fun o x => lo1 x o) (loN l.length o) := by
  unfold loL
  split
  · rename_i h0
    rw [loN_stuck h0, fold_stuck (fun x => hs x o h0)]
  · rw [if_neg (by omega)]

end Go.Proofs.YtoclahcibilbhaaGreat
