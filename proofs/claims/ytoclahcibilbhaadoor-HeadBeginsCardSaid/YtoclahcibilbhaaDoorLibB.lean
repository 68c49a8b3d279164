/-
  More on arrays: a copy into a block that is known whole; parts of a block loaded and stored.
-/
import Derived.Test.YtoclahcibilbhaaDoorLibA
import Derived.Deep.RegionLaw
import Derived.StillTailTactics
namespace Go.Proofs.YtoclahcibilbhaaDoor
open Go.RowKit

/-- copy(dst, src) into block g, as one step of a region that draws its order -/
theorem step_copyB {ops : Array Oper} {o : Oper} {a : Act} {w : World} {K : Act → World → Prop} {Q : Exit → Act → World → Prop} {E : Prop} (hgd : o.guard = none) (d s : Operand) (dT sT : TypeId)
    (ho : o.op = .call { callee := .builtin .copy, args := #[d, s], argTypes := #[dT, sT] }) (elem : TypeId) (hu : Tryd.prog.underlying dT = some (.slice elem)) (hsz : (Tryd.prog.info? elem).map (·.size) = some 1)
    (dp sp : Option Addr) (dLen dCap sLen sCap : Nat) (hd : a.eval d = .slice dp dLen dCap) (hs : a.eval s = .slice sp sLen sCap)
    (g off : Nat) (cur : List Value) (t : TypeId) (hg : Blk w g t cur) (cs : List Value) (hn : cs.length = Nat.min sLen dLen)
    (hpos : 0 < cs.length → dp = some ⟨g, off, none⟩ ∧ ∃ ad, sp = some ad ∧ ∀ j v, cs[j]? = some v → w.cell? (ad.add j) = some v)
    (hfit : off + cs.length ≤ cur.length) (h1 : ∀ v ∈ cs, v.oneCell' = true)
    (h : ∀ w', Blk w' g t (splice cur off cs) → w.grownBy w' (some g) → w'.heap.size = w.heap.size → K (a.put o.dst (goInt cs.length)) w') :
    if Region.wanted o (yielded ops a.tmps) = true then Oper.wp Tryd.prog o a w K Q else E := by
  have hw : Region.wanted o (yielded ops a.tmps) = true := by simp [Region.wanted, hgd]
  rw [if_pos hw]
  by_cases h0 : cs.length = 0
  · obtain rfl : cs = [] := List.eq_nil_of_length_eq_zero h0
    have hrun := run_copy_none (P := Tryd.prog) w dT sT o.type elem dp sp dLen dCap sLen sCap hu hsz (by simpa using hn.symm)
    unfold Oper.wp
    simp [execOp, ho, resolve, invoke, builtin, hd, hs, hrun, Result.andThen]
    exact h w ⟨by simpa [splice] using hg.at_⟩ (World.grownBy.refl _ _) rfl
  · obtain ⟨rfl, ad, rfl, hsrc⟩ := hpos (by omega)
    have hrun := run_copy_row (P := Tryd.prog) w dT sT o.type elem g off dLen dCap ad sLen sCap cur.toArray t cs hu hsz hg.at_ hn hsrc (by simpa using hfit) h1
    unfold Oper.wp
    simp [execOp, ho, resolve, invoke, builtin, hd, hs, hrun, Result.andThen]
    exact h _ ⟨by simpa [splice] using setRow_heap w g _ _ t _ hg.at_⟩ ⟨rfl, rfl, rfl, by simp, fun k _ hk => setRow_other w g k _ (fun e => hk (by simp [e]))⟩ (by simp)

theorem splice_app (p q cs : List Value) : splice (p ++ q) p.length cs = p ++ (cs ++ q.drop cs.length) := by
  simp [splice, List.drop_append]
theorem splice_set (vs : List Value) (o : Nat) (c : Value) (cs : List Value) (h : o < vs.length) : splice (vs.set o c) (o + 1) cs = splice vs o (c :: cs) := by
  obtain ⟨p, x, q, rfl, rfl⟩ : ∃ p x q, vs = p ++ x :: q ∧ o = p.length := ⟨vs.take o, vs[o], vs.drop (o + 1), by simp, by simp; omega⟩
  have e1 : (p ++ x :: q).set p.length c = (p ++ [c]) ++ q := by simp
  have e2 : p.length + 1 = (p ++ [c]).length := by simp
  rw [e1, e2, splice_app, splice_app]
  simp

/-- many cells of a known block set, one behind the other -/
theorem Blk.sets {w : World} {g : Nat} {t : TypeId} : ∀ (cs vs : List Value) (o : Nat), Blk w g t vs → o + cs.length ≤ vs.length → Blk (w.setCells g o cs) g t (splice vs o cs) := by
  intro cs
  induction cs generalizing w with
  | nil => intro vs o h _; simpa [splice, World.setCells] using h
  | cons c cs ih =>
    intro vs o h hl
    simp only [List.length_cons] at hl
    have := ih (vs.set o c) (o + 1) (h.set o c) (by simp; omega)
    have e : splice (vs.set o c) (o + 1) cs = splice vs o (c :: cs) := splice_set vs o c cs (by omega)
    rw [e] at this
    exact this

theorem setCells_grown (g : Nat) : ∀ (cs : List Value) (o : Nat) (w : World), w.grownBy (w.setCells g o cs) (some g)
  | [], _, w => World.grownBy.refl _ _
  | c :: cs, o, w => by
    have h1 := set_grown w g o c
    have h2 := setCells_grown g cs (o + 1) (w.setCell ⟨g, o, none⟩ c)
    exact grown2 h1 h2 (fun k e => by right; cases e; rfl)
theorem setCells_size (g : Nat) : ∀ (cs : List Value) (o : Nat) (w : World), (w.setCells g o cs).heap.size = w.heap.size
  | [], _, w => rfl
  | c :: cs, o, w => by
    have h2 := setCells_size g cs (o + 1) (w.setCell ⟨g, o, none⟩ c)
    rw [World.setCells, h2, set_size]

/-- a part of a known block is there, and may be written -/
theorem Blk.there {w : World} {g : Nat} {t : TypeId} {vs : List Value} (h : Blk w g t vs) (o n : Nat) (hn : o + n ≤ vs.length) : w.there g o n := fun j hj =>
  ⟨by rw [h.cell (List.getElem?_eq_getElem (show o + j < vs.length by omega))]; rfl, h.free _⟩

/-- a part of a block loaded, as one step of a region that draws its order -/
theorem step_loadM {ops : Array Oper} {o : Oper} {a : Act} {w : World} {K : Act → World → Prop} {Q : Exit → Act → World → Prop} {E : Prop} (b off : Nat) (ty : TypeId) (x : Operand) (cs : List Value) (d : TypeDesc) (hc : w.rangeAt b off cs)
    (hu : Tryd.prog.underlying ty = some d) (hi : (Tryd.prog.info? ty).map (·.size) = some cs.length) (hgd : o.guard = none) (ho : o.op = .load ty x) (hx : a.eval x = .pointer (some ⟨b, off, none⟩)) (hd : d.isRow = true)
    (h : K (a.put o.dst (.agg cs.toArray)) w) : if Region.wanted o (yielded ops a.tmps) = true then Oper.wp Tryd.prog o a w K Q else E := by
  have hw : Region.wanted o (yielded ops a.tmps) = true := by simp [Region.wanted, hgd]
  rw [if_pos hw]
  exact wp_load_mid ty x ho b off hx cs d hc hu hd hi h

/-- a part of a block stored, as one step of a region that draws its order -/
theorem step_storeM {ops : Array Oper} {o : Oper} {a : Act} {w : World} {K : Act → World → Prop} {Q : Exit → Act → World → Prop} {E : Prop} (b off : Nat) (ty : TypeId) (x y : Operand) (cs vs : List Value) (t : TypeId) (hB : Blk w b t vs) (hfit : off + cs.length ≤ vs.length)
    (hi : (Tryd.prog.info? ty).map (·.size) = some cs.length) (hone : ∀ v ∈ cs, v.oneCell' = true) (hgd : o.guard = none) (ho : o.op = .store ty x y) (hx : a.eval x = .pointer (some ⟨b, off, none⟩)) (hy : a.eval y = .agg cs.toArray)
    (h : ∀ w', Blk w' b t (splice vs off cs) → w.grownBy w' (some b) → w'.heap.size = w.heap.size → K (a.put o.dst undef) w') : if Region.wanted o (yielded ops a.tmps) = true then Oper.wp Tryd.prog o a w K Q else E := by
  have hw : Region.wanted o (yielded ops a.tmps) = true := by simp [Region.wanted, hgd]
  rw [if_pos hw]
  refine wp_store_mid ty x y ho b off cs.toArray hx hy (by simpa using hB.there off cs.length hfit) (by simpa using hi) (all_oneCell_toArray hone) ?_
  exact h _ (by simpa using Blk.sets cs vs off hB hfit) (setCells_grown b _ off w) (setCells_size b _ off w)

/-- a call as one step of a region that draws its order -/
theorem step_call {ops : Array Oper} {o : Oper} {a : Act} {w : World} {K : Act → World → Prop} {Q : Exit → Act → World → Prop} {E : Prop} (hgd : o.guard = none) (h : Oper.wp Tryd.prog o a w K Q) :
    if Region.wanted o (yielded ops a.tmps) = true then Oper.wp Tryd.prog o a w K Q else E := by
  have hw : Region.wanted o (yielded ops a.tmps) = true := by simp [Region.wanted, hgd]
  rw [if_pos hw]
  exact h

/-- a part of a block loaded, in a region whose reads come first -/
theorem wpStill_loadM {ops : Array Oper} {o : Oper} {rest : List Oper} {a : Act} {w : World} {Q : Act → Prop} (b off : Nat) (ty : TypeId) (x : Operand) (cs : List Value) (d : TypeDesc) (hc : w.rangeAt b off cs)
    (hu : Tryd.prog.underlying ty = some d) (hi : (Tryd.prog.info? ty).map (·.size) = some cs.length) (hgd : o.guard = none) (ho : o.op = .load ty x) (hx : a.eval x = .pointer (some ⟨b, off, none⟩)) (hd : d.isRow = true)
    (h : wpStill Tryd.prog ops w Q rest (a.put o.dst (.agg cs.toArray))) : wpStill Tryd.prog ops w Q (o :: rest) a := by
  have hw : Region.wanted o (yielded ops a.tmps) = true := by simp [Region.wanted, hgd]
  unfold wpStill
  rw [if_pos hw]
  unfold Oper.still execOp
  simp only [ho, hx, Instr.loadAt, Instr.sureAddr, Sem.run_bind, Sem.run_pure, Result.andThen_ok, run_loadVar_mid w b off ty cs d hc hu hd hi]
  exact ⟨rfl, h⟩

/-- a part of a block stored -/
theorem wpList_storeM {w : World} {ops : Array Oper} {rest : List Oper} {o : Oper} {a : Act} {Q : Exit → Act → World → Prop} (hgd : o.guard = none) (b off : Nat) (ty : TypeId) (x y : Operand) (ho : o.op = .store ty x y)
    (hx : a.eval x = .pointer (some ⟨b, off, none⟩)) {cs vs : List Value} (hy : a.eval y = .agg cs.toArray) {t : TypeId} (hB : Blk w b t vs) (hfit : off + cs.length ≤ vs.length)
    (hi : (Tryd.prog.info? ty).map (·.size) = some cs.length) (hone : ∀ v ∈ cs, v.oneCell' = true)
    (h : ∀ w', Blk w' b t (splice vs off cs) → w.grownBy w' (some b) → w'.heap.size = w.heap.size → wpList Tryd.prog ops Q rest (a.put o.dst undef) w') : wpList Tryd.prog ops Q (o :: rest) a w := by
  refine wpList_store_mid hgd ty x y ho b off cs.toArray hx hy (by simpa using hB.there off cs.length hfit) (by simpa using hi) (all_oneCell_toArray hone) ?_
  exact h _ (by simpa using Blk.sets cs vs off hB hfit) (setCells_grown b _ off w) (setCells_size b _ off w)

/-- a part of a block loaded -/
theorem wpList_loadM {w : World} {ops : Array Oper} {rest : List Oper} {o : Oper} {a : Act} {Q : Exit → Act → World → Prop} (hgd : o.guard = none) (b off : Nat) (ty : TypeId) (x : Operand) (ho : o.op = .load ty x)
    (hx : a.eval x = .pointer (some ⟨b, off, none⟩)) {cs : List Value} {d : TypeDesc} (hc : w.rangeAt b off cs) (hu : Tryd.prog.underlying ty = some d) (hd : d.isRow = true)
    (hi : (Tryd.prog.info? ty).map (·.size) = some cs.length)
    (h : wpList Tryd.prog ops Q rest (a.put o.dst (.agg cs.toArray)) w) : wpList Tryd.prog ops Q (o :: rest) a w :=
  wpList_load_mid hgd ty x ho b off hx cs d hc hu hd hi h

/-- a composite literal whose cells are known, its parts read off the operation -/
theorem wpList_buildI {w : World} {ops : Array Oper} {rest : List Oper} {dst : Option Tmp} {T : TypeId} {parts : Array (Nat × Operand)} {ty : TypeId} {pos : String} {after : Array Edge} {a : Act} {Q : Exit → Act → World → Prop}
    {vs : List Value} {ps : List (Nat × Value)} (hb : Tryd.prog.built T ps = some vs.toArray) (hp : parts.toList.map (fun p => (p.1, a.eval p.2)) = ps)
    (h : wpList Tryd.prog ops Q rest (a.put dst (.agg vs.toArray)) w) : wpList Tryd.prog ops Q (⟨dst, .build T parts, ty, pos, after, none⟩ :: rest) a w :=
  wpList_buildC rfl T parts rfl hp hb h
theorem range_below {w w' : World} {b o : Nat} {cs : List Value} (hb : Below w.heap.size w w') (h : w.rangeAt b o cs) : w'.rangeAt b o cs := fun j v hv => cell_later hb (h j v hv)
theorem range_kept {w w' : World} {b o : Nat} {cs : List Value} {row : Option Nat} (h : w.rangeAt b o cs) (hg : w.grownBy w' row) (hne : row ≠ some b) : w'.rangeAt b o cs :=
  fun j v hv => hg.cell (h j v hv) (by simpa using fun e => hne e.symm)
end Go.Proofs.YtoclahcibilbhaaDoor
