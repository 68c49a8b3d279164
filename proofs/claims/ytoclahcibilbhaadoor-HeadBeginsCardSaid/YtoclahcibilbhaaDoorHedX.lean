/-
  Chains of signed heads, without a program; operations within a round.
-/
import Derived.Test.YtoclahcibilbhaaDoorHedK
import Derived.Test.YtoclahcibilbhaaDoorLibI
namespace Go.Proofs.YtoclahcibilbhaaDoor
open Go.RowKit
set_option maxRecDepth 100000

def seqI (l : List Sg) (k : Nat) : List (Nat × Sg) := (List.range k).map fun j => (j, l.getD j sgz)
theorem seqI_succ (l : List Sg) (k : Nat) : seqI l (k + 1) = seqI l k ++ [(k, l.getD k sgz)] := by simp [seqI, List.range_succ]
theorem seqI_split (l : List Sg) {k n : Nat} (h : k ≤ n) : ∃ r, seqI l n = seqI l k ++ r := by
  obtain ⟨m, rfl⟩ := Nat.exists_eq_add_of_le h
  clear h
  induction m with
  | zero => exact ⟨[], by simp⟩
  | succ m ih =>
    obtain ⟨r, hr⟩ := ih
    exact ⟨r ++ [(k + m, l.getD (k + m) sgz)], by rw [← Nat.add_assoc, seqI_succ, hr, List.append_assoc]⟩
/-- one element of a chain, behind the digest D -/
def stepX (k : ByteArray) (D : List UInt8) (x : Nat × Sg) : Int := if chkH k x.2 ≠ 0 then chkH k x.2 else if eqHd x.2.hd ⟨(x.1 : Int) + 1, x.2.hd.root, D⟩ then 0 else 82
def chX (k : ByteArray) : List UInt8 → List (Nat × Sg) → Int
  | _, [] => 0
  | D, x :: r => if stepX k D x ≠ 0 then stepX k D x else chX k (digH x.2.hd) r
def lastX : List UInt8 → List (Nat × Sg) → List UInt8
  | D, [] => D
  | _, x :: r => lastX (digH x.2.hd) r
theorem lastX_snoc (D : List UInt8) (q : List (Nat × Sg)) (x : Nat × Sg) : lastX D (q ++ [x]) = digH x.2.hd := by
  induction q generalizing D with
  | nil => rfl
  | cons y q ih => exact ih _
theorem chX_snoc (k : ByteArray) (D : List UInt8) (q : List (Nat × Sg)) (x : Nat × Sg) (h : chX k D q = 0) : chX k D (q ++ [x]) = stepX k (lastX D q) x := by
  induction q generalizing D with
  | nil =>
    simp only [List.nil_append, chX, lastX]
    split
    · rfl
    · rename_i h2; simp only [ne_eq, Decidable.not_not] at h2; exact h2.symm
  | cons y q ih =>
    simp only [List.cons_append, chX, lastX] at h ⊢
    split at h
    · rename_i h2; exact absurd h h2
    · rename_i h2
      rw [if_neg h2]
      exact ih _ h
theorem chX_stop (k : ByteArray) (D : List UInt8) (q r : List (Nat × Sg)) (h : chX k D q ≠ 0) : chX k D (q ++ r) = chX k D q := by
  induction q generalizing D with
  | nil => exact absurd rfl h
  | cons y q ih =>
    simp only [List.cons_append, chX] at h ⊢
    split
    · rfl
    · rename_i h2
      rw [if_neg h2] at h
      exact ih _ h
def chI (k : ByteArray) (l : List Sg) : Int := if keyok k then chX k zero32 (seqI l l.length) else 80
theorem lastX_length (D : List UInt8) (hD : D.length = 32) (q : List (Nat × Sg)) : (lastX D q).length = 32 := by
  induction q generalizing D with
  | nil => exact hD
  | cons y q ih => exact ih _ (digH_length _)

/-- the parts of a signed head that lies in memory -/
theorem sg_ep {W : World} {b o : Nat} {s : Sg} (h : W.rangeAt b o (sgc s)) : W.cell? ⟨b, o, none⟩ = some (.int .i64 s.hd.ep) := h 0 _ rfl
theorem sg_hdr {W : World} {b o : Nat} {s : Sg} (h : W.rangeAt b o (sgc s)) : W.rangeAt b o (hdc s.hd) := fun i v hv => h i v (by
  have hi := (List.getElem?_eq_some_iff.1 hv).1
  rw [sgc, List.getElem?_append_left hi]
  exact hv)
theorem sg_prevr {W : World} {b o : Nat} {s : Sg} (h : W.rangeAt b o (sgc s)) (hs : s.ok) : W.rangeAt b (o + 33) (bs s.hd.prev) := by
  have hP : Part (sgc s) 0 (sgc s) := fun j _ => by rw [Nat.zero_add]
  exact range_sub h (fun j hj => by have := hP.sg0.hd2 hs.1 j hj; simpa using this)
theorem sg_rootr {W : World} {b o : Nat} {s : Sg} (h : W.rangeAt b o (sgc s)) (hs : s.ok) : W.rangeAt b (o + 1) (bs s.hd.root) := by
  have hP : Part (sgc s) 0 (sgc s) := fun j _ => by rw [Nat.zero_add]
  exact range_sub h (fun j hj => by have := hP.sg0.hd1 hs.1 j hj; simpa using this)

/-- a struct or an array built, two arrays held against each other, within a round -/
theorem wpListIn_buildX {n : Nat} {F : Fence} [Wide F] {w : World} {ops : Array Oper} {rest : List Oper} {o : Oper} {a : Act} {Q : Exit → Act → World → Prop} (hgd : o.guard = none) (T : TypeId) (parts : Array (Nat × Operand)) (ho : o.op = .build T parts)
    {vs : List Value} {ps : List (Nat × Value)} (hp : parts.toList.map (fun p => (p.1, a.eval p.2)) = ps) (hb : Tryd.prog.built T ps = some vs.toArray)
    (h : wpListIn F n Tryd.prog ops Q rest (a.put o.dst (.agg vs.toArray)) w) : wpListIn F n Tryd.prog ops Q (o :: rest) a w := by
  have hb : Tryd.prog.built T (parts.map fun (i, x) => (i, a.eval x)).toList = some vs.toArray := by rw [Array.toList_map]; rw [← hb, ← hp]
  refine listIn_of hgd (fun c e => by rw [ho] at e; cases e) fun K hK => ?_
  have hr : (execOp a.eval o).run Tryd.prog w = .ok (.value (.agg vs.toArray)) w := by
    unfold execOp
    simp only [ho, Sem.run_bind, run_build w T _ vs.toArray hb, Result.andThen_ok]
    rfl
  unfold Oper.wp
  rw [hr, Oper.upon_value]
  exact hK _ _ h
theorem wpListIn_eqX {n : Nat} {F : Fence} [Wide F] {w : World} {ops : Array Oper} {rest : List Oper} {o : Oper} {a : Act} {Q : Exit → Act → World → Prop} (hgd : o.guard = none) (op : BinOp) (t t' : TypeId) (x y : Operand) (ho : o.op = .binOp op t x y t')
    (xs ys : Array Value) (hx : a.eval x = .agg xs) (hy : a.eval y = .agg ys) (hm : Tryd.prog.eqGuardType Tryd.prog.depth t = false) (v : Value) (hrun : ∀ W : World, (binOp op t (.agg xs) (.agg ys)).run Tryd.prog W = .ok v W)
    (h : wpListIn F n Tryd.prog ops Q rest (a.put o.dst v) w) : wpListIn F n Tryd.prog ops Q (o :: rest) a w := by
  refine listIn_of hgd (fun c e => by rw [ho] at e; cases e) fun K hK => ?_
  have hr : (execOp a.eval o).run Tryd.prog w = .ok (.value v) w := by
    simp [execOp, ho, hx, hy, run_eqGuard_agg w op t x y xs ys hm, hrun]
  unfold Oper.wp
  rw [hr, Oper.upon_value]
  exact hK _ _ h
end Go.Proofs.YtoclahcibilbhaaDoor
