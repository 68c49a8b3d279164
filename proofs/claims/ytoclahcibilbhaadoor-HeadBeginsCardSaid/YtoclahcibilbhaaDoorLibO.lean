/-
  One digest, or two, that a call keeps as its own variables; operations behind a guard.
-/
import Derived.Test.YtoclahcibilbhaaDoorLibB
import Derived.Deep.RegionHeld3
namespace Go.Proofs.YtoclahcibilbhaaDoor
open Go.RowKit
set_option maxRecDepth 100000

/-- two digests of a call's own -/
structure PairAt (w W : World) (p q : List UInt8) : Prop where
  b0 : Blk W w.heap.size 23 (bs p)
  b1 : Blk W (w.heap.size + 1) 23 (bs q)
  bel : Below w.heap.size w W
theorem PairAt.below {w W W' : World} {p q : List UInt8} (h : PairAt w W p q) (hb : Below W.heap.size W W') : PairAt w W' p q := ⟨h.b0.below hb, h.b1.below hb, Bt h.bel hb⟩
theorem PairAt.drew {w W : World} {p q : List UInt8} (h : PairAt w W p q) : PairAt w W.drew p q := h.below ⟨rfl, rfl, rfl, Nat.le_refl _, fun _ _ => rfl⟩
theorem PairAt.start (w : World) (p q : List UInt8) : PairAt w ((w.alloc (.cells (bs p).toArray 23)).alloc (.cells (bs q).toArray 23)) p q := by
  have hb1 := Blk.new (w.alloc (.cells (bs p).toArray 23)) 23 (bs q)
  rw [show (w.alloc (.cells (bs p).toArray 23)).heap.size = w.heap.size + 1 by simp] at hb1
  exact ⟨(Blk.new w 23 (bs p)).alloc _, hb1, ((Below.refl _ w).alloc (Nat.le_refl _) _).alloc (by simp) _⟩
theorem Blk.allR {w : World} {g : Nat} {t : TypeId} {vs : List Value} (h : Blk w g t vs) : w.rangeAt g 0 vs := h.range 0 (fun j hj => by simp)
/-- an operation that is wanted, as one step of a region that draws its order -/
theorem step_ofR {ops : Array Oper} {o : Oper} {a : Act} {w : World} {K : Act → World → Prop} {Q : Exit → Act → World → Prop} {E : Prop} (hw : Region.wanted o (yielded ops a.tmps) = true) (h : Oper.wp Tryd.prog o a w K Q) :
    if Region.wanted o (yielded ops a.tmps) = true then Oper.wp Tryd.prog o a w K Q else E := by
  rw [if_pos hw]; exact h

/-- a whole array out of a variable, behind a guard that says yes -/
theorem wpList_loadR {w : World} {ops : Array Oper} {rest : List Oper} {o : Oper} {a : Act} {Q : Exit → Act → World → Prop} (hw : Region.wanted o (yielded ops a.tmps) = true) (ty : TypeId) (x : Operand) (ho : o.op = .load ty x)
    {g : Nat} (hx : a.eval x = .pointer (some ⟨g, 0, none⟩)) {t : TypeId} {vs : List Value} {d : TypeDesc} (hg : Blk w g t vs) (hu : Tryd.prog.underlying ty = some d) (hd : d.isRow = true)
    (hi : (Tryd.prog.info? ty).map (·.size) = some vs.length)
    (h : wpList Tryd.prog ops Q rest (a.put o.dst (.agg vs.toArray)) w) : wpList Tryd.prog ops Q (o :: rest) a w :=
  wpList_step fun K hK => by
    rw [if_pos hw]
    exact wp_load_mid ty x ho g 0 hx vs d (hg.range 0 (fun j hj => by simp)) hu hd hi (hK _ _ h)

/-- a digest's call with a number beside it: the result's variable and the digest at work -/
structure OneAt (w W : World) (p r : List UInt8) : Prop where
  b0 : Blk W w.heap.size 23 (bs p)
  b1 : Blk W (w.heap.size + 1) 23 (bs r)
  bel : Below w.heap.size w W
theorem OneAt.below {w W W' : World} {p q : List UInt8} (h : OneAt w W p q) (hb : Below W.heap.size W W') : OneAt w W' p q := ⟨h.b0.below hb, h.b1.below hb, Bt h.bel hb⟩
theorem OneAt.drew {w W : World} {p q : List UInt8} (h : OneAt w W p q) : OneAt w W.drew p q := h.below ⟨rfl, rfl, rfl, Nat.le_refl _, fun _ _ => rfl⟩
theorem OneAt.set {w W : World} {p q : List UInt8} (h : OneAt w W p q) (j n : Nat) (hn : n < 256) : OneAt w (W.setCell ⟨w.heap.size, j, none⟩ (.int .u8 (n : Int))) (p.set j (UInt8.ofNat n)) q := by
  refine ⟨?_, h.b1.setOther _ _ (by simp), h.bel.setCell (Nat.le_refl _) _⟩
  have hs := h.b0.set j (.int .u8 (n : Int))
  rwa [bs_set _ _ _ hn] at hs
theorem OneAt.start (w : World) (p : List UInt8) {w2 : World} (hr2 : Blk w2 (w.alloc (.cells (bs p).toArray 23)).heap.size 23 (bs zero32)) (hg2 : (w.alloc (.cells (bs p).toArray 23)).grownBy w2 none) : OneAt w w2 p zero32 := by
  have hz : (w.alloc (.cells (bs p).toArray 23)).heap.size = w.heap.size + 1 := by simp
  rw [hz] at hr2
  exact ⟨(Blk.new w 23 (bs p)).grown hg2 (by simp), hr2, ((Below.refl _ w).alloc (Nat.le_refl _) _).grown hg2 (by omega) (fun k e => by cases e)⟩

theorem built0 : Tryd.prog.built 23 [] = some (bs zero32).toArray := by kernel_rfl

theorem lenD : Tryd.prog.arrayLen 23 = 32 := by kernel_rfl
theorem elemD : Tryd.prog.elem 23 = 5 := by kernel_rfl
theorem underD : Tryd.prog.underlying 23 = some (.array (Tryd.prog.arrayLen 23) (Tryd.prog.elem 23)) := by kernel_rfl
/-- p[lo:hi] of a digest's variable -/
theorem sliceD (W : World) (g lo hi : Nat) (x y : Int) (hx : x = lo) (hy : y = hi) (h0 : lo < 32) (h1 : lo ≤ hi) (h2 : hi ≤ 32) :
    (Instr.sliceAt 23 (.pointer (some ⟨g, 0, none⟩)) (some (.int .i64 x)) (some (.int .i64 y)) none).run Tryd.prog W = .ok (.slice (some ⟨g, lo, none⟩) (hi - lo) (32 - lo)) W := by
  subst hx; subst hy
  rw [run_sliceAt_array_lh W 23 ⟨g, 0, none⟩ underD .i64 .i64 lo hi (by omega) (by omega) (by rw [lenD]; omega), elemD, sizeU8, lenD]
  simp [slicedAt, Result.andThen, Addr.add, show ¬ 32 = lo by omega]
  intro h; omega
/-- p[lo:] of a digest's variable -/
theorem sliceDl (W : World) (g lo : Nat) (x : Int) (hx : x = lo) (h0 : lo < 32) :
    (Instr.sliceAt 23 (.pointer (some ⟨g, 0, none⟩)) (some (.int .i64 x)) none none).run Tryd.prog W = .ok (.slice (some ⟨g, lo, none⟩) (32 - lo) (32 - lo)) W := by
  subst hx
  rw [run_sliceAt_array_l W 23 ⟨g, 0, none⟩ underD .i64 lo (by omega) (by rw [lenD]; omega), elemD, sizeU8, lenD]
  simp [slicedAt, Result.andThen, Addr.add, show ¬ 32 = lo by omega]
  intro h; omega
theorem sliceDe (W : World) (g : Nat) (x : Int) (hx : x = 32) :
    (Instr.sliceAt 23 (.pointer (some ⟨g, 0, none⟩)) (some (.int .i64 x)) none none).run Tryd.prog W = .ok (.slice (some ⟨g, 0, none⟩) 0 0) W := by
  subst hx
  rw [run_sliceAt_array_l W 23 ⟨g, 0, none⟩ underD .i64 32 (by omega) (by rw [lenD]; omega), elemD, sizeU8, lenD]
  simp [slicedAt, Result.andThen]
/-- a whole array out of a variable, behind a guard that says yes -/
theorem wpList_loadH {w : World} {ops : Array Oper} {rest : List Oper} {o : Oper} {a : Act} {Q : Exit → Act → World → Prop} (hw : Region.wanted o (yielded ops a.tmps) = true) (ty : TypeId) (x : Operand) (ho : o.op = .load ty x)
    {g : Nat} (hx : a.eval x = .pointer (some ⟨g, 0, none⟩)) {t : TypeId} {vs : List Value} {d : TypeDesc} (hg : Blk w g t vs) (hu : Tryd.prog.underlying ty = some d) (hd : d.isRow = true)
    (hi : (Tryd.prog.info? ty).map (·.size) = some vs.length)
    (h : wpList Tryd.prog ops Q rest (a.put o.dst (.agg vs.toArray)) w) : wpList Tryd.prog ops Q (o :: rest) a w :=
  wpList_step fun K hK => by
    rw [if_pos hw]
    exact wp_load_mid ty x ho g 0 hx vs d (hg.range 0 (fun j hj => by simp)) hu hd hi (hK _ _ h)
/-- two arrays held against each other, behind a guard that says yes -/
theorem wpList_eqH {w : World} {ops : Array Oper} {rest : List Oper} {o : Oper} {a : Act} {Q : Exit → Act → World → Prop} (hw : Region.wanted o (yielded ops a.tmps) = true) (op : BinOp) (t t' : TypeId) (x y : Operand) (ho : o.op = .binOp op t x y t')
    (xs ys : Array Value) (hx : a.eval x = .agg xs) (hy : a.eval y = .agg ys) (hm : Tryd.prog.eqGuardType Tryd.prog.depth t = false) (v : Value) (hrun : ∀ W : World, (binOp op t (.agg xs) (.agg ys)).run Tryd.prog W = .ok v W)
    (h : wpList Tryd.prog ops Q rest (a.put o.dst v) w) : wpList Tryd.prog ops Q (o :: rest) a w :=
  wpList_step fun K hK => by
    rw [if_pos hw]
    have hr : (execOp a.eval o).run Tryd.prog w = .ok (.value v) w := by
      simp [execOp, ho, hx, hy, run_eqGuard_agg w op t x y xs ys hm, hrun]
    unfold Oper.wp
    rw [hr, Oper.upon_value]
    exact hK _ _ h
theorem yieldsIf_eqH {ops : Array Oper} {S : World → Prop} {o : Oper} {a : Act} (hw : Region.wanted o (yielded ops a.tmps) = true) (op : BinOp) (t t' : TypeId) (x y : Operand) (ho : o.op = .binOp op t x y t')
    (xs ys : Array Value) (hx : a.eval x = .agg xs) (hy : a.eval y = .agg ys) (hm : Tryd.prog.eqGuardType Tryd.prog.depth t = false) (v : Value) (hrun : ∀ W : World, (binOp op t (.agg xs) (.agg ys)).run Tryd.prog W = .ok v W) :
    YieldsIf Tryd.prog ops S o v a :=
  .inl ⟨hw, fun W _ => by simp [execOp, ho, hx, hy, run_eqGuard_agg W op t x y xs ys hm, hrun]⟩
theorem guardH : Tryd.prog.eqGuardType Tryd.prog.depth 23 = false := by kernel_rfl

/-- a whole array into a variable of its own, as one step of a region that draws its order -/
theorem step_storeW {ops : Array Oper} {o : Oper} {a : Act} {w : World} {K : Act → World → Prop} {Q : Exit → Act → World → Prop} {E : Prop} (g : Nat) (ty : TypeId) (x y : Operand) (vs old : List Value) (t : TypeId) (hg : Blk w g t old)
    (hi : (Tryd.prog.info? ty).map (·.size) = some vs.length) (hold : old.length = vs.length) (hone : ∀ v ∈ vs, v.oneCell' = true) (hgd : o.guard = none) (ho : o.op = .store ty x y) (hx : a.eval x = .pointer (some ⟨g, 0, none⟩)) (hy : a.eval y = .agg vs.toArray)
    (h : ∀ w', Blk w' g t vs → w.grownBy w' (some g) → w'.heap.size = w.heap.size → K (a.put o.dst undef) w') : if Region.wanted o (yielded ops a.tmps) = true then Oper.wp Tryd.prog o a w K Q else E := by
  have hw : Region.wanted o (yielded ops a.tmps) = true := by simp [Region.wanted, hgd]
  rw [if_pos hw]
  refine wp_store_row ty x y ho g _ hx hy t _ hg.at_ (by simpa using hi) (by simpa using hold) ?_ (h (w.setRow g vs.toArray) ⟨setRow_heap w g _ _ t _ hg.at_⟩ ⟨rfl, rfl, rfl, by simp, fun k _ hk => setRow_other w g k _ (fun e => hk (by simp [e]))⟩ (by simp))
  rw [Array.all_eq_true_iff_forall_mem]
  intro v hv
  exact hone v (by simpa using hv)
/-- an operation that isn't wanted, as one step of a region that draws its order -/
theorem step_skipR {ops : Array Oper} {o : Oper} {a : Act} {w : World} {K : Act → World → Prop} {Q : Exit → Act → World → Prop} {E : Prop} (hw : Region.wanted o (yielded ops a.tmps) = false) (h : E) :
    if Region.wanted o (yielded ops a.tmps) = true then Oper.wp Tryd.prog o a w K Q else E := by
  rw [if_neg (by simp [hw])]; exact h

/-- the results of a function that names a struct first, and hands back something beside it -/
theorem results_blk2 {fn : Func} {p t : Tmp} {ty : TypeId} (h : fn.results = #[.cell p ty, .tmp t]) (tmps : Array Value) (w : World) (g : Nat) (u : TypeId) (vs : List Value) (d : TypeDesc)
    (hp : tmps.getD p undef = .pointer (some ⟨g, 0, none⟩)) (hg : Blk w g u vs) (hu : Tryd.prog.underlying ty = some d) (hd : d.isRow = true) (hi : (Tryd.prog.info? ty).map (·.size) = some vs.length) :
    (results fn tmps).run Tryd.prog w = .ok (.tuple #[.agg vs.toArray, tmps.getD t undef]) w := by
  have hp' : tmps[p]?.getD undef = .pointer (some ⟨g, 0, none⟩) := by simpa using hp
  simp [results, h, hp', asAddr, run_loadVar_row w g u ty _ (0, 0) _ hg.at_ hu (by cases d <;> simp_all) (by simpa using hi)]

/-- api.Digest{}, behind a guard that says yes -/
theorem wpList_buildZ {w : World} {ops : Array Oper} {rest : List Oper} {o : Oper} {a : Act} {Q : Exit → Act → World → Prop} (hw : Region.wanted o (yielded ops a.tmps) = true) (ho : o.op = .build 23 #[])
    (h : wpList Tryd.prog ops Q rest (a.put o.dst (.agg (bs zero32).toArray)) w) : wpList Tryd.prog ops Q (o :: rest) a w := by
  have hb : Tryd.prog.built 23 [] = some (bs zero32).toArray := by kernel_rfl
  refine wpList_step fun K hK => ?_
  rw [if_pos hw]
  refine wp_build 23 #[] ho (by simp [hb]) ?_
  have e : (Tryd.prog.built 23 ((#[] : Array (Nat × Operand)).map fun (i, x) => (i, a.eval x)).toList).getD #[] = (bs zero32).toArray := by simp [hb]
  first | (rw [e]; exact hK _ _ h) | (simp [hb]; exact hK _ _ h)
end Go.Proofs.YtoclahcibilbhaaDoor
