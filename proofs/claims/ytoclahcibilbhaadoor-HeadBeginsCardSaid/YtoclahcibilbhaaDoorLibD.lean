/-
  Laws on whole digests: a variable made, built, stored, handed back.
-/
import Derived.Test.YtoclahcibilbhaaDoorLib
import Derived.Laws.Tables
import Derived.Deep.WholeRow
import Derived.Stop.BytesEq
namespace Go.Proofs.YtoclahcibilbhaaDoor
open Go.RowKit

/-- 32 noughts -/
def zero32 : List UInt8 := List.replicate 32 0
theorem zero32_length : zero32.length = 32 := by decide

theorem info_u8 : (Tryd.prog.info? 5).map (·.size) = some 1 := by kernel_rfl
theorem zeroD_info : (Tryd.prog.info? 23).map (fun i => (i.zero, i.size)) = some (some (.agg (bs zero32).toArray), 32) := by kernel_rfl

/-- var d api.Digest, as a cell of its own -/
theorem wpList_allocD {w : World} {ops : Array Oper} {rest : List Oper} {o : Oper} {a : Act} {Q : Exit → Act → World → Prop} (hgd : o.guard = none) (ho : o.op = .alloc 23)
    (h : ∀ w', w'.heap[w.heap.size]? = some (.cells (bs zero32).toArray 23 (0, 0)) → w.grownBy w' none → w'.heap.size = w.heap.size + 1 → wpList Tryd.prog ops Q rest (a.put o.dst (.pointer (some ⟨w.heap.size, 0, none⟩))) w') : wpList Tryd.prog ops Q (o :: rest) a w := by
  have h' := h (w.alloc (.cells (bs zero32).toArray 23)) (World.alloc_heap_new w _) (World.grownBy_alloc w _ none) (by simp)
  refine wpList_plain hgd fun K hK => ?_
  have hz := (zero_of_info zeroD_info).1
  unfold Oper.wp execOp
  simp [ho, Instr.alloc, hz, newVar, newRow, Value.cells, Result.andThen]
  exact hK _ _ h'

theorem wpList_buildD {w : World} {ops : Array Oper} {rest : List Oper} {o : Oper} {a : Act} {Q : Exit → Act → World → Prop} (hgd : o.guard = none) (ho : o.op = .build 23 #[])
    (h : wpList Tryd.prog ops Q rest (a.put o.dst (.agg (bs zero32).toArray)) w) : wpList Tryd.prog ops Q (o :: rest) a w := by
  have hb : Tryd.prog.built 23 [] = some (bs zero32).toArray := by kernel_rfl
  refine wpList_build hgd 23 #[] ho (by simp [hb]) ?_
  simpa [hb] using h

theorem wpList_storeD {w : World} {ops : Array Oper} {rest : List Oper} {o : Oper} {a : Act} {Q : Exit → Act → World → Prop} (hgd : o.guard = none) (x y : Operand) (ho : o.op = .store 23 x y)
    {g : Nat} {ds old : List UInt8} (hx : a.eval x = .pointer (some ⟨g, 0, none⟩)) (hy : a.eval y = .agg (bs ds).toArray) {t : TypeId} (hg : w.heap[g]? = some (.cells (bs old).toArray t (0, 0))) (hd : ds.length = 32) (hold : old.length = 32)
    (h : ∀ w', w'.heap[g]? = some (.cells (bs ds).toArray t (0, 0)) → w.grownBy w' (some g) → w'.heap.size = w.heap.size → wpList Tryd.prog ops Q rest (a.put o.dst undef) w') : wpList Tryd.prog ops Q (o :: rest) a w := by
  have h' := h (w.setRow g (bs ds).toArray) (setRow_heap w g _ _ t _ hg) ⟨rfl, rfl, rfl, by simp, fun k _ hk => setRow_other w g k _ (fun e => hk (by simp [e]))⟩ (by simp)
  refine wpList_plain hgd fun K hK => ?_
  refine wp_store_row 23 x y ho g _ hx hy t _ hg (by rw [info_digest]; simp [bs_length, hd]) (by simp [bs_length, hd, hold]) ?_ (hK _ _ h')
  rw [Array.all_eq_true_iff_forall_mem]
  intro v hv
  exact bs_one ds v (by simpa using hv)

/-- the results of a function that names a digest first, and hands back a number beside it -/
theorem results_digest2 {fn : Func} {p t : Tmp} (h : fn.results = #[.cell p 23, .tmp t]) (tmps : Array Value) (w : World) (g : Nat) (u : TypeId) (ds : List UInt8) (hd : ds.length = 32)
    (hp : tmps.getD p undef = .pointer (some ⟨g, 0, none⟩)) (hg : w.heap[g]? = some (.cells (bs ds).toArray u (0, 0))) :
    (results fn tmps).run Tryd.prog w = .ok (.tuple #[.agg (bs ds).toArray, tmps.getD t undef]) w := by
  have hp' : tmps[p]?.getD undef = .pointer (some ⟨g, 0, none⟩) := by simpa using hp
  simp [results, h, hp', asAddr, run_loadVar_row w g u 23 _ (0, 0) _ hg Tryd.underlying23 rfl (by rw [info_digest]; simp [bs_length, hd])]

theorem sizeU8 (w : World) : (sizeOf 5).run Tryd.prog w = .ok 1 w := by kernel_rfl

/-- two digests held against each other -/
theorem eqD (w : World) (xs ys : List UInt8) (hx : xs.length = 32) (hy : ys.length = 32) : (binOp .eql 23 (.agg (bs xs).toArray) (.agg (bs ys).toArray)).run Tryd.prog w = .ok (.bool (xs == ys)) w :=
  run_eql_bytes w 23 5 32 Tryd.underlying23 Tryd.underlying5 sizeU8 xs ys hx hy
theorem eqInD (w : World) (xs ys : List UInt8) (hx : xs.length = 32) (hy : ys.length = 32) : (Op.equalIn 10000 23 (.agg (bs xs).toArray) (.agg (bs ys).toArray)).run Tryd.prog w = .ok (xs == ys) w :=
  run_equalIn_bytes (P := Tryd.prog) w 9998 23 5 32 Tryd.underlying23 Tryd.underlying5 sizeU8 xs ys hx hy
theorem neqD (w : World) (xs ys : List UInt8) (hx : xs.length = 32) (hy : ys.length = 32) : (binOp .neq 23 (.agg (bs xs).toArray) (.agg (bs ys).toArray)).run Tryd.prog w = .ok (.bool (!(xs == ys))) w := by
  rw [run_neq_struct]
  have h : (Op.equalIn 10000 23 (.agg (bs xs).toArray) (.agg (bs ys).toArray)).run Tryd.prog w = .ok (xs == ys) w :=
    run_equalIn_bytes (P := Tryd.prog) w 9998 23 5 32 Tryd.underlying23 Tryd.underlying5 sizeU8 xs ys hx hy
  rw [h]
  rfl
end Go.Proofs.YtoclahcibilbhaaDoor
