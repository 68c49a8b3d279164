/-
  Ref06P Ref06B, in one text.
-/
import Derived.Test.YtgbhfpkngjlfkaaGreatDoorPrfC
import Derived.Deep.RegionHeld3
namespace Go.Proofs.YtgbhfpkngjlfkaaGreatDoor
/-! The reference of layer 6: Own, plain. -/
section
open Go.RowKit

theorem Rd.partP {w : World} {g o n : Nat} {l : List UInt8} (h : w.rangeAt g o (bs l)) (hn : l.length = n) (hm : n ≤ maxLen) : Rd w (some ⟨g, o, none⟩) n n l := by
  refine ⟨hn, Nat.le_refl _, hm, (fun e => by cases e), fun ad e j u hu => ?_⟩
  cases e
  rw [Addr.add_lit]
  exact h j u hu

/-- append(nil, x...) of digests -/
theorem wpList_appD0 {w : World} {ops : Array Oper} {rest : List Oper} {o : Oper} {a : Act} {Q : Exit → Act → World → Prop} (hgd : o.guard = none) (s x : Operand)
    (ho : o.op = Op.call { callee := Callee.builtin Builtin.append, args := #[s, x], argTypes := #[27, 27] })
    {l : List (List UInt8)} {ao : Option Addr} {n c : Nat} (hs : a.eval s = .slice none 0 0) (hx : a.eval x = .slice ao n c) (hR : RdD w ao n c l) (hsz : n ≤ 1000000)
    (hK : ∀ ao' c' w', OwnD w' w.heap.size (.slice ao' n c') l → Below w.heap.size w w' → wpList Tryz.prog ops Q rest (a.put o.dst (.slice ao' n c')) w') :
    wpList Tryz.prog ops Q (o :: rest) a w := by
  refine wpList_appD hgd s x ho hs (OwnD.nil0 w w.heap.size) hx hR (by simpa using hsz) (Nat.le_refl _) ?_
  intro a' c' w' hO hg _
  have e : ([] : List (List UInt8)).length + n = n := by simp
  rw [e] at hO ⊢
  exact hK a' c' w' (by simpa using hO) ((Below.refl _ w).grown hg (Nat.le_refl _) (fun k e => by cases e))

end
/-! The reference of layer 6: Same, of two proofs that are the same. -/
section
open Go.RowKit

/-- what Same knows of a world -/
structure SmP (w W : World) (a : Option Addr) (n c : Nat) (a' : Option Addr) (c' : Nat) (x : Pf) : Prop where
  one : PAt w W w.heap.size a n c x
  two : PAt w W (w.heap.size + 1) a' n c' x
  fst : RdD W a n c x.sibs
  snd : RdD W a' n c' x.sibs
theorem SmP.below {w W W' : World} {a : Option Addr} {n c : Nat} {a' : Option Addr} {c' : Nat} {x : Pf} (h : SmP w W a n c a' c' x) (hb : Below W.heap.size W W') : SmP w W' a n c a' c' x := ⟨h.one.below hb, h.two.below hb, h.fst.below hb, h.snd.below hb⟩
/-- and in a round -/
structure SmK (w W : World) (b o b' o' : Nat) (n c c' k : Nat) (d : List UInt8) : Prop where
  c1 : W.cell? ⟨w.heap.size, 0, none⟩ = some (.slice (some ⟨b, o, none⟩) n c)
  c2 : W.cell? ⟨w.heap.size + 1, 0, none⟩ = some (.slice (some ⟨b', o', none⟩) n c')
  r1 : W.rangeAt b (o + k * 32) (bs d)
  r2 : W.rangeAt b' (o' + k * 32) (bs d)
theorem SmK.drew {w W : World} {b o b' o' n c c' k : Nat} {d : List UInt8} (h : SmK w W b o b' o' n c c' k d) : SmK w W.drew b o b' o' n c c' k d := ⟨h.c1, h.c2, h.r1, h.r2⟩
theorem neqSelf (d : List UInt8) (h : d.length = 32) : ∀ W : World, (binOp .neq 24 (.agg (bs d).toArray) (.agg (bs d).toArray)).run Tryz.prog W = .ok (.bool false) W := fun W => by rw [neqD W _ _ h h]; simp

end
end Go.Proofs.YtgbhfpkngjlfkaaGreatDoor
