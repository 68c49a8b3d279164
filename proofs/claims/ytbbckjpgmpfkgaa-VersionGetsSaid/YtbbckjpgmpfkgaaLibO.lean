/-
  One digest, or two, that a call keeps as its own variables; operations behind a guard.
-/
import Derived.Test.YtbbckjpgmpfkgaaLibB
import Derived.Deep.RegionHeld3
namespace Go.Proofs.Ytbbckjpgmpfkgaa
open Go.RowKit

theorem Blk.allR {w : World} {g : Nat} {t : TypeId} {vs : List Value} (h : Blk w g t vs) : w.rangeAt g 0 vs := h.range 0 (fun j hj => by simp)
/-- an operation that is wanted, as one step of a region that draws its order -/
theorem step_ofR {ops : Array Oper} {o : Oper} {a : Act} {w : World} {K : Act → World → Prop} {Q : Exit → Act → World → Prop} {E : Prop} (hw : Region.wanted o (yielded ops a.tmps) = true) (h : Oper.wp Try.prog o a w K Q) :
    if Region.wanted o (yielded ops a.tmps) = true then Oper.wp Try.prog o a w K Q else E := by
  rw [if_pos hw]; exact h

/-- a whole array out of a variable, behind a guard that says yes -/
theorem wpList_loadR {w : World} {ops : Array Oper} {rest : List Oper} {o : Oper} {a : Act} {Q : Exit → Act → World → Prop} (hw : Region.wanted o (yielded ops a.tmps) = true) (ty : TypeId) (x : Operand) (ho : o.op = .load ty x)
    {g : Nat} (hx : a.eval x = .pointer (some ⟨g, 0, none⟩)) {t : TypeId} {vs : List Value} {d : TypeDesc} (hg : Blk w g t vs) (hu : Try.prog.underlying ty = some d) (hd : d.isRow = true)
    (hi : (Try.prog.info? ty).map (·.size) = some vs.length)
    (h : wpList Try.prog ops Q rest (a.put o.dst (.agg vs.toArray)) w) : wpList Try.prog ops Q (o :: rest) a w :=
  wpList_step fun K hK => by
    rw [if_pos hw]
    exact wp_load_mid ty x ho g 0 hx vs d (hg.range 0 (fun j hj => by simp)) hu hd hi (hK _ _ h)

/-- a whole array out of a variable, behind a guard that says yes -/
theorem wpList_loadH {w : World} {ops : Array Oper} {rest : List Oper} {o : Oper} {a : Act} {Q : Exit → Act → World → Prop} (hw : Region.wanted o (yielded ops a.tmps) = true) (ty : TypeId) (x : Operand) (ho : o.op = .load ty x)
    {g : Nat} (hx : a.eval x = .pointer (some ⟨g, 0, none⟩)) {t : TypeId} {vs : List Value} {d : TypeDesc} (hg : Blk w g t vs) (hu : Try.prog.underlying ty = some d) (hd : d.isRow = true)
    (hi : (Try.prog.info? ty).map (·.size) = some vs.length)
    (h : wpList Try.prog ops Q rest (a.put o.dst (.agg vs.toArray)) w) : wpList Try.prog ops Q (o :: rest) a w :=
  wpList_step fun K hK => by
    rw [if_pos hw]
    exact wp_load_mid ty x ho g 0 hx vs d (hg.range 0 (fun j hj => by simp)) hu hd hi (hK _ _ h)
/-- two arrays held against each other, behind a guard that says yes -/
theorem wpList_eqH {w : World} {ops : Array Oper} {rest : List Oper} {o : Oper} {a : Act} {Q : Exit → Act → World → Prop} (hw : Region.wanted o (yielded ops a.tmps) = true) (op : BinOp) (t t' : TypeId) (x y : Operand) (ho : o.op = .binOp op t x y t')
    (xs ys : Array Value) (hx : a.eval x = .agg xs) (hy : a.eval y = .agg ys) (hm : Try.prog.eqGuardType Try.prog.depth t = false) (v : Value) (hrun : ∀ W : World, (binOp op t (.agg xs) (.agg ys)).run Try.prog W = .ok v W)
    (h : wpList Try.prog ops Q rest (a.put o.dst v) w) : wpList Try.prog ops Q (o :: rest) a w :=
  wpList_step fun K hK => by
    rw [if_pos hw]
    have hr : (execOp a.eval o).run Try.prog w = .ok (.value v) w := by
      simp [execOp, ho, hx, hy, run_eqGuard_agg w op t x y xs ys hm, hrun]
    unfold Oper.wp
    rw [hr, Oper.upon_value]
    exact hK _ _ h
theorem yieldsIf_eqH {ops : Array Oper} {S : World → Prop} {o : Oper} {a : Act} (hw : Region.wanted o (yielded ops a.tmps) = true) (op : BinOp) (t t' : TypeId) (x y : Operand) (ho : o.op = .binOp op t x y t')
    (xs ys : Array Value) (hx : a.eval x = .agg xs) (hy : a.eval y = .agg ys) (hm : Try.prog.eqGuardType Try.prog.depth t = false) (v : Value) (hrun : ∀ W : World, (binOp op t (.agg xs) (.agg ys)).run Try.prog W = .ok v W) :
    YieldsIf Try.prog ops S o v a :=
  .inl ⟨hw, fun W _ => by simp [execOp, ho, hx, hy, run_eqGuard_agg W op t x y xs ys hm, hrun]⟩
/-- a whole array into a variable of its own, as one step of a region that draws its order -/
theorem step_storeW {ops : Array Oper} {o : Oper} {a : Act} {w : World} {K : Act → World → Prop} {Q : Exit → Act → World → Prop} {E : Prop} (g : Nat) (ty : TypeId) (x y : Operand) (vs old : List Value) (t : TypeId) (hg : Blk w g t old)
    (hi : (Try.prog.info? ty).map (·.size) = some vs.length) (hold : old.length = vs.length) (hone : ∀ v ∈ vs, v.oneCell' = true) (hgd : o.guard = none) (ho : o.op = .store ty x y) (hx : a.eval x = .pointer (some ⟨g, 0, none⟩)) (hy : a.eval y = .agg vs.toArray)
    (h : ∀ w', Blk w' g t vs → w.grownBy w' (some g) → w'.heap.size = w.heap.size → K (a.put o.dst undef) w') : if Region.wanted o (yielded ops a.tmps) = true then Oper.wp Try.prog o a w K Q else E := by
  have hw : Region.wanted o (yielded ops a.tmps) = true := by simp [Region.wanted, hgd]
  rw [if_pos hw]
  refine wp_store_row ty x y ho g _ hx hy t _ hg.at_ (by simpa using hi) (by simpa using hold) ?_ (h (w.setRow g vs.toArray) ⟨setRow_heap w g _ _ t _ hg.at_⟩ ⟨rfl, rfl, rfl, by simp, fun k _ hk => setRow_other w g k _ (fun e => hk (by simp [e]))⟩ (by simp))
  rw [Array.all_eq_true_iff_forall_mem]
  intro v hv
  exact hone v (by simpa using hv)
/-- an operation that isn't wanted, as one step of a region that draws its order -/
theorem step_skipR {ops : Array Oper} {o : Oper} {a : Act} {w : World} {K : Act → World → Prop} {Q : Exit → Act → World → Prop} {E : Prop} (hw : Region.wanted o (yielded ops a.tmps) = false) (h : E) :
    if Region.wanted o (yielded ops a.tmps) = true then Oper.wp Try.prog o a w K Q else E := by
  rw [if_neg (by simp [hw])]; exact h

/-- the results of a function that names a struct first, and hands back something beside it -/
theorem results_blk2 {fn : Func} {p t : Tmp} {ty : TypeId} (h : fn.results = #[.cell p ty, .tmp t]) (tmps : Array Value) (w : World) (g : Nat) (u : TypeId) (vs : List Value) (d : TypeDesc)
    (hp : tmps.getD p undef = .pointer (some ⟨g, 0, none⟩)) (hg : Blk w g u vs) (hu : Try.prog.underlying ty = some d) (hd : d.isRow = true) (hi : (Try.prog.info? ty).map (·.size) = some vs.length) :
    (results fn tmps).run Try.prog w = .ok (.tuple #[.agg vs.toArray, tmps.getD t undef]) w := by
  have hp' : tmps[p]?.getD undef = .pointer (some ⟨g, 0, none⟩) := by simpa using hp
  simp [results, h, hp', asAddr, run_loadVar_row w g u ty _ (0, 0) _ hg.at_ hu (by cases d <;> simp_all) (by simpa using hi)]

end Go.Proofs.Ytbbckjpgmpfkgaa
