/-
  Small facts on arrays: a block that is known whole; array variables made, loaded, stored; one cell of them stored.
-/
import Derived.Test.YtoclahcibilbhaaDoorLibD
import Derived.Deep.MidRow
import Derived.Laws.CopyOwn
namespace Go.Proofs.YtoclahcibilbhaaDoor
open Go.RowKit

/-- block g holds the cells vs, and may be written -/
structure Blk (w : World) (g : Nat) (t : TypeId) (vs : List Value) : Prop where
  at_ : w.heap[g]? = some (.cells vs.toArray t (0, 0))

section
variable {w w' : World} {g : Nat} {t : TypeId} {vs : List Value}
theorem Blk.lt (h : Blk w g t vs) : g < w.heap.size := lt_of_block h.at_
theorem Blk.cell (h : Blk w g t vs) {j : Nat} {v : Value} (hj : vs[j]? = some v) : w.cell? ⟨g, j, none⟩ = some v := by
  rw [cell_of_row w g j _ _ _ h.at_]; simpa using hj
theorem Blk.free (h : Blk w g t vs) (j : Nat) : w.frozen? ⟨g, j, none⟩ = false := frozen_of_row w g j _ _ h.at_
theorem Blk.range (h : Blk w g t vs) (o : Nat) {cs : List Value} (hc : ∀ j, j < cs.length → vs[o + j]? = cs[j]?) : w.rangeAt g o cs := fun j v hv =>
  h.cell (by rw [hc j (List.getElem?_eq_some_iff.1 hv).1]; exact hv)
theorem Blk.below (h : Blk w g t vs) (hb : Below w.heap.size w w') : Blk w' g t vs := ⟨(hb.block g h.lt).trans h.at_⟩
theorem Blk.grown (h : Blk w g t vs) {row : Option Nat} (hg : w.grownBy w' row) (hne : row ≠ some g) : Blk w' g t vs :=
  ⟨(hg.block g h.lt (fun e => hne e.symm)).trans h.at_⟩
theorem Blk.new (w : World) (t : TypeId) (vs : List Value) : Blk (w.alloc (.cells vs.toArray t)) w.heap.size t vs := ⟨World.alloc_heap_new w _⟩
theorem Blk.alloc (h : Blk w g t vs) (o : Obj) : Blk (w.alloc o) g t vs := ⟨(Below.heap_alloc _ _ _ h.lt).trans h.at_⟩
theorem Blk.drew (h : Blk w g t vs) : Blk w.drew g t vs := ⟨h.at_⟩
theorem Blk.drewN (h : Blk w g t vs) (n : Nat) : Blk (w.drewN n) g t vs := ⟨h.at_⟩
theorem Blk.set (h : Blk w g t vs) (i : Nat) (v : Value) : Blk (w.setCell ⟨g, i, none⟩ v) g t (vs.set i v) :=
  ⟨by rw [heap_setCell_same w g i _ t v h.at_]; simp⟩
theorem Blk.setOther (h : Blk w g t vs) (a : Addr) (v : Value) (hne : g ≠ a.block) : Blk (w.setCell a v) g t vs :=
  ⟨(heap_setCell_other w a g v hne).trans h.at_⟩
end

/-- numbers of kind k as cells -/
def ns (k : IntKind) (l : List Nat) : List Value := l.map fun (n : Nat) => .int k (n : Int)
theorem ns_length (k l) : (ns k l).length = l.length := by simp [ns]
theorem ns_one (k l) : ∀ u ∈ ns k l, u.oneCell' = true := by
  intro u hu
  obtain ⟨_, _, rfl⟩ := List.mem_map.1 hu
  rfl
theorem ns_at (k : IntKind) (l : List Nat) (j : Nat) (h : j < l.length) : (ns k l)[j]? = some (.int k ((l.getD j 0 : Nat) : Int)) := by
  simp [ns, List.getD, h]
theorem ns_set (k : IntKind) (l : List Nat) (j n : Nat) : (ns k l).set j (.int k (n : Int)) = ns k (l.set j n) := by
  simp [ns, List.map_set]
theorem ns_append (k l m) : ns k (l ++ m) = ns k l ++ ns k m := by simp [ns]
theorem bs_at (l : List UInt8) (j : Nat) (h : j < l.length) : (bs l)[j]? = some (.int .u8 ((l.getD j 0).toNat : Int)) := by
  simp [bs, List.getD, h]
theorem bs_set (l : List UInt8) (j : Nat) (n : Nat) (hn : n < 256) : (bs l).set j (.int .u8 (n : Int)) = bs (l.set j (UInt8.ofNat n)) := by
  have e : (UInt8.ofNat n).toNat = n := by simp; omega
  simp [bs, List.map_set, e]

theorem grown2 {w w1 w2 : World} {a b : Option Nat} (h1 : w.grownBy w1 a) (h2 : w1.grownBy w2 b) (hb : ∀ k, b = some k → w.heap.size ≤ k ∨ a = some k) : w.grownBy w2 a :=
  ⟨h2.os.trans h1.os, h2.tape.trans h1.tape, h2.output.trans h1.output, Nat.le_trans h1.size h2.size, fun k hk hne => by
    have h3 := h1.size
    rw [h2.block k (by omega) (fun e => by
      rcases hb k e.symm with h | h
      · omega
      · exact hne h.symm), h1.block k hk hne]⟩

/-- var d T, an array, as a block of its own -/
theorem wpList_allocB {w : World} {ops : Array Oper} {rest : List Oper} {o : Oper} {a : Act} {Q : Exit → Act → World → Prop} (hgd : o.guard = none) (T : TypeId) (ho : o.op = .alloc T)
    {zs : List Value} {n : Nat} (hz : (Tryd.prog.info? T).map (fun i => (i.zero, i.size)) = some (some (.agg zs.toArray), n))
    (h : ∀ w', Blk w' w.heap.size T zs → w.grownBy w' none → w'.heap.size = w.heap.size + 1 → wpList Tryd.prog ops Q rest (a.put o.dst (.pointer (some ⟨w.heap.size, 0, none⟩))) w') : wpList Tryd.prog ops Q (o :: rest) a w := by
  have h' := h (w.alloc (.cells zs.toArray T)) (Blk.new w T zs) (World.grownBy_alloc w _ none) (by simp)
  refine wpList_plain hgd fun K hK => ?_
  have hz := (zero_of_info hz).1
  unfold Oper.wp execOp
  simp [ho, Instr.alloc, hz, newVar, newRow, Value.cells, Result.andThen]
  exact hK _ _ h'

/-- a whole array into a variable of its own -/
theorem wpList_storeB {w : World} {ops : Array Oper} {rest : List Oper} {o : Oper} {a : Act} {Q : Exit → Act → World → Prop} (hgd : o.guard = none) (ty : TypeId) (x y : Operand) (ho : o.op = .store ty x y)
    {g : Nat} {vs old : List Value} (hx : a.eval x = .pointer (some ⟨g, 0, none⟩)) (hy : a.eval y = .agg vs.toArray) {t : TypeId} (hg : Blk w g t old) (hi : (Tryd.prog.info? ty).map (·.size) = some vs.length) (hold : old.length = vs.length) (hone : ∀ v ∈ vs, v.oneCell' = true)
    (h : ∀ w', Blk w' g t vs → w.grownBy w' (some g) → w'.heap.size = w.heap.size → wpList Tryd.prog ops Q rest (a.put o.dst undef) w') : wpList Tryd.prog ops Q (o :: rest) a w := by
  have h' := h (w.setRow g vs.toArray) ⟨setRow_heap w g _ _ t _ hg.at_⟩ ⟨rfl, rfl, rfl, by simp, fun k _ hk => setRow_other w g k _ (fun e => hk (by simp [e]))⟩ (by simp)
  refine wpList_plain hgd fun K hK => ?_
  refine wp_store_row ty x y ho g _ hx hy t _ hg.at_ (by simpa using hi) (by simpa using hold) ?_ (hK _ _ h')
  rw [Array.all_eq_true_iff_forall_mem]
  intro v hv
  exact hone v (by simpa using hv)

/-- a whole array out of a variable of its own -/
theorem wpList_loadB {w : World} {ops : Array Oper} {rest : List Oper} {o : Oper} {a : Act} {Q : Exit → Act → World → Prop} (hgd : o.guard = none) (ty : TypeId) (x : Operand) (ho : o.op = .load ty x)
    {g : Nat} (hx : a.eval x = .pointer (some ⟨g, 0, none⟩)) {t : TypeId} {vs : List Value} {d : TypeDesc} (hg : Blk w g t vs) (hu : Tryd.prog.underlying ty = some d) (hd : d.isRow = true)
    (hi : (Tryd.prog.info? ty).map (·.size) = some vs.length)
    (h : wpList Tryd.prog ops Q rest (a.put o.dst (.agg vs.toArray)) w) : wpList Tryd.prog ops Q (o :: rest) a w :=
  wpList_load_row hgd ty x ho g hx t _ (0, 0) _ hg.at_ hu (by cases d <;> simp_all) (by simpa using hi) h

theorem set_grown (w : World) (g i : Nat) (v : Value) : w.grownBy (w.setCell ⟨g, i, none⟩ v) (some g) := by
  refine ⟨?_, ?_, ?_, ?_, fun k _ hk => heap_setCell_other w _ k v (fun e => hk (by simp [e]))⟩ <;> first | rfl | simp
theorem set_size (w : World) (a : Addr) (v : Value) : (w.setCell a v).heap.size = w.heap.size := by simp

/-- a composite literal whose cells are known -/
theorem wpList_buildC {w : World} {ops : Array Oper} {rest : List Oper} {o : Oper} {a : Act} {Q : Exit → Act → World → Prop} (hgd : o.guard = none) (T : TypeId) (parts : Array (Nat × Operand)) (ho : o.op = .build T parts)
    {vs : List Value} {ps : List (Nat × Value)} (hp : parts.toList.map (fun p => (p.1, a.eval p.2)) = ps) (hb : Tryd.prog.built T ps = some vs.toArray)
    (h : wpList Tryd.prog ops Q rest (a.put o.dst (.agg vs.toArray)) w) : wpList Tryd.prog ops Q (o :: rest) a w := by
  have hb : Tryd.prog.built T (parts.map fun (i, x) => (i, a.eval x)).toList = some vs.toArray := by rw [Array.toList_map]; rw [← hb, ← hp]
  refine wpList_build hgd T parts ho (by rw [hb]; rfl) ?_
  rw [hb]
  exact h

/-- a[i] of an array by value, its elements one cell each -/
theorem run_index_in (w : World) (t e : TypeId) (n : Nat) (cs : List Value) (k : IntKind) (i : Nat) (v : Value) {d : TypeDesc} (h : Tryd.prog.underlying t = some (.array n e)) (hu : Tryd.prog.underlying e = some d) (hd : d.isRow = false)
    (hs : (Tryd.prog.info? e).map (·.size) = some 1) (hi : i < n) (hv : cs[i]? = some v) : (Instr.index t (.agg cs.toArray) (.int k (i : Int))).run Tryd.prog w = .ok v w := by
  cases hq : Tryd.prog.info? e with
  | none => simp [hq] at hs
  | some q =>
    have hs1 : q.size = 1 := by simpa [hq] using hs
    have hagg : (isAgg e).run Tryd.prog w = .ok false w := by
      unfold isAgg
      rw [Sem.run_bind, run_underlying hu w]
      cases d <;> simp_all
    simp [Instr.index, run_underlying h, asIntOf, go_sem, sizeOf, typeInfo, hq, hs1, part, hagg, hv]
    intro hh
    omega

/-- the result that is a whole array -/
theorem results_blk {fn : Func} {p : Tmp} {ty : TypeId} (h : fn.results = #[.cell p ty]) (tmps : Array Value) (w : World) (g : Nat) (t : TypeId) (vs : List Value) (d : TypeDesc)
    (hp : tmps.getD p undef = .pointer (some ⟨g, 0, none⟩)) (hg : Blk w g t vs)
    (hu : Tryd.prog.underlying ty = some d) (hd : d.isRow = true) (hi : (Tryd.prog.info? ty).map (·.size) = some vs.length) :
    (results fn tmps).run Tryd.prog w = .ok (.agg vs.toArray) w :=
  results_cell_row h tmps w g t _ _ d hp hg.at_ hu (by cases d <;> simp_all) (by simpa using hi)

/-- a function's end whose result is a whole array -/
theorem bodyPost_blk {fn : Func} {R : Ending → World → Prop} {a : Act} {w : World} {p : Tmp} {ty : TypeId} {g : Nat} {t : TypeId} {vs : List Value} {d : TypeDesc} (hg : Blk w g t vs)
    (hu : Tryd.prog.underlying ty = some d) (hi : (Tryd.prog.info? ty).map (·.size) = some vs.length) (h : fn.results = #[.cell p ty]) (hp : a.tmps.getD p undef = .pointer (some ⟨g, 0, none⟩)) (hd : d.isRow = true) (hdef : a.defers = [])
    (hR : R (.returned (.agg vs.toArray)) w) : bodyPost Tryd.prog fn R .ret a w :=
  bodyPost_ret (results_blk h _ _ _ _ _ _ hp hg hu hd hi) hdef hR
end Go.Proofs.YtoclahcibilbhaaDoor
