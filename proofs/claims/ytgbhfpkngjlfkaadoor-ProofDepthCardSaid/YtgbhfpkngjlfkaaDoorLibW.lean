/-
  Slices of leaves, written out; the leaves a and b.
-/
import Derived.Test.YtgbhfpkngjlfkaaDoorLibL
namespace Go.Proofs.YtgbhfpkngjlfkaaDoor
open Go.RowKit

theorem fill_many (z : Array Value) (ys : List Lf) (hk : oks ys) (hz : z.size = ys.length * 64) :
    Instr.fill (fun i => some (i * 64, 64)) z (((ys.map fun y => Value.agg (lc y).toArray).zipIdx 0).map fun x => (x.2, x.1)) = some (lcs ys).toArray := by
  obtain ⟨r, hr, hsz, hc⟩ := Go.Great.fill_dense (s := 64) (by decide) (ys.map fun y => Value.agg (lc y).toArray) 0 z (fun v hv => by
    obtain ⟨y, hy, rfl⟩ := List.mem_map.1 hv
    simpa [Value.cells] using lc_length (hk y hy)) (by simp [hz])
  rw [hr]
  congr 1
  refine Array.ext_getElem? fun k => ?_
  rw [hc k]
  have hl := lcs_length hk
  by_cases h : k < ys.length * 64
  · have hi : k / 64 < ys.length := by omega
    have h1 := lcs_at hk (k / 64) (k % 64) hi (Nat.mod_lt _ (by decide))
    rw [show k / 64 * 64 + k % 64 = k by omega] at h1
    rw [if_pos (by simp; omega)]
    have hg : ys.getD (k / 64) lf0 = ys[k / 64] := by simp [List.getD, hi]
    rw [hg] at h1
    simp [Value.cells, hi, h1]
  · rw [if_neg (by simp; omega), Array.getElem?_eq_none (by omega)]
    simp
    omega

/-- []api.Leaf{x, y, ..} -/
theorem wpList_manyL {w : World} {ops : Array Oper} {rest : List Oper} {o : Oper} {a : Act} {Q : Exit → Act → World → Prop} (hgd : o.guard = none) (n : Nat) (parts : Array (Nat × Operand)) (ho : o.op = .buildSlice 41 n parts)
    {ys : List Lf} (hk : oks ys) (hn : ys.length = n) (hnn : n ≤ 4096) (hpos : 0 < n)
    (hx : (parts.map fun (i, x) => (i, a.eval x)).toList = ((ys.map fun y => Value.agg (lc y).toArray).zipIdx 0).map fun x => (x.2, x.1))
    (h : wpList Tryd.prog ops Q rest (a.put o.dst (.slice (some ⟨w.heap.size, 0, none⟩) n n)) (w.alloc (.cells (lcs ys).toArray 46))) : wpList Tryd.prog ops Q (o :: rest) a w := by
  obtain ⟨i, hi, hz0, hz1, hz2⟩ := info_parts infoLeaf
  subst hn
  refine wpList_buildSlice hgd 41 46 ys.length parts ho _ i _ Tryd.underlying41 hi hz0 (by rw [hz1]; omega) (by rw [hz1]; omega) ?_ h
  rw [hz1, hx]
  exact fill_many _ ys hk (by simp)
theorem wpList_twoL {w : World} {ops : Array Oper} {rest : List Oper} {o : Oper} {a : Act} {Q : Exit → Act → World → Prop} (hgd : o.guard = none) (x1 x2 : Operand) (ho : o.op = .buildSlice 41 2 #[(0, x1), (1, x2)])
    {y1 y2 : Lf} (hk : oks [y1, y2]) (hx1 : a.eval x1 = .agg (lc y1).toArray) (hx2 : a.eval x2 = .agg (lc y2).toArray)
    (h : wpList Tryd.prog ops Q rest (a.put o.dst (.slice (some ⟨w.heap.size, 0, none⟩) 2 2)) (w.alloc (.cells (lcs [y1, y2]).toArray 46))) : wpList Tryd.prog ops Q (o :: rest) a w :=
  wpList_manyL hgd 2 _ ho hk rfl (by decide) (by decide) (by simp [hx1, hx2]) h
theorem RdL.many (w : World) {ys : List Lf} {n : Nat} (hk : oks ys) (hn : ys.length = n) (hnn : n ≤ 4096) : RdL (w.alloc (.cells (lcs ys).toArray 46)) (some ⟨w.heap.size, 0, none⟩) n n ys := by
  refine ⟨hn, hk, Nat.le_refl _, by unfold maxLen; omega, (fun e => by cases e), fun ad e j u hu => ?_⟩
  cases e
  exact World.news_of_block (World.alloc_heap_new w _) j u (by simpa using hu)

def d5 : List UInt8 := 5 :: List.replicate 31 0
def d6 : List UInt8 := 6 :: List.replicate 31 0
def dB : List UInt8 := 128 :: List.replicate 31 0
def lfA : Lf := ⟨zero32, d5⟩
def lfB : Lf := ⟨dB, d6⟩
theorem lfA_ok : lfA.ok := ⟨by decide, by decide⟩
theorem lfB_ok : lfB.ok := ⟨by decide, by decide⟩
theorem built5 : Tryd.prog.built 23 [(0, .int .u8 5)] = some (bs d5).toArray := by kernel_rfl
theorem built6 : Tryd.prog.built 23 [(0, .int .u8 6)] = some (bs d6).toArray := by kernel_rfl
theorem builtB : Tryd.prog.built 23 [(0, .int .u8 128)] = some (bs dB).toArray := by kernel_rfl
theorem built_lfA : Tryd.prog.built 46 [(1, .agg (bs d5).toArray)] = some (lc lfA).toArray := by kernel_rfl
theorem built_lfB : Tryd.prog.built 46 [(0, .agg (bs dB).toArray), (1, .agg (bs d6).toArray)] = some (lc lfB).toArray := by kernel_rfl
theorem zeroL_info : (Tryd.prog.info? 46).map (fun i => (i.zero, i.size)) = some (some (.agg (bs (zero32 ++ zero32)).toArray), 64) := by kernel_rfl
theorem sizeL : (Tryd.prog.info? 46).map (·.size) = some 64 := by kernel_rfl

end Go.Proofs.YtgbhfpkngjlfkaaDoor
