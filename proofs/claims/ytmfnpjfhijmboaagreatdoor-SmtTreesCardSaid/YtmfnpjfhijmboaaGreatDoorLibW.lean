/-
  Slices of leaves, written out; the leaves a and b.
-/
import Derived.Test.YtmfnpjfhijmboaaGreatDoorLibL
namespace Go.Proofs.YtmfnpjfhijmboaaGreatDoor
open Go.RowKit

theorem fill_many (z : Array Value) (ys : List Lf) (hk : oks ys) (hz : z.size = ys.length * 64) :
    Instr.fill (fun i => some (i * 64, 64)) z (((ys.map fun y => Value.agg (lc y).toArray).zipIdx 0).map fun x => (x.2, x.1)) = some (lcs ys).toArray := by
  obtain ⟨r, hr, hsz, hc⟩ := Go.Great.fill_dense (s := 64) (by decide) (ys.map fun y => Value.agg (lc y).toArray) 0 z (fun v hv => by
    obtain ⟨y, hy, rfl⟩ := List.mem_map.1 hv
    simpa [Value.cells] using lc_length (hk y hy)) (by simp [hz])
  rw [hr]
  congr 1
  refine Array.ext_getElem? fun k => ?_
  rw [hc k]
  have hl := lcs_length hk
  by_cases h : k < ys.length * 64
  · have hi : k / 64 < ys.length := by omega
    have h1 := lcs_at hk (k / 64) (k % 64) hi (Nat.mod_lt _ (by decide))
    rw [show k / 64 * 64 + k % 64 = k by omega] at h1
    rw [if_pos (by simp; omega)]
    have hg : ys.getD (k / 64) lf0 = ys[k / 64] := by simp [List.getD, hi]
    rw [hg] at h1
    simp [Value.cells, hi, h1]
  · rw [if_neg (by simp; omega), Array.getElem?_eq_none (by omega)]
    simp
    omega

/-- []api.Leaf{x, y, ..} -/
theorem wpList_manyL {w : World} {ops : Array Oper} {rest : List Oper} {o : Oper} {a : Act} {Q : Exit → Act → World → Prop} (hgd : o.guard = none) (n : Nat) (parts : Array (Nat × Operand)) (ho : o.op = .buildSlice 23 n parts)
    {ys : List Lf} (hk : oks ys) (hn : ys.length = n) (hnn : n ≤ 4096) (hpos : 0 < n)
    (hx : (parts.map fun (i, x) => (i, a.eval x)).toList = ((ys.map fun y => Value.agg (lc y).toArray).zipIdx 0).map fun x => (x.2, x.1))
    (h : wpList Tryz.prog ops Q rest (a.put o.dst (.slice (some ⟨w.heap.size, 0, none⟩) n n)) (w.alloc (.cells (lcs ys).toArray 50))) : wpList Tryz.prog ops Q (o :: rest) a w := by
  obtain ⟨i, hi, hz0, hz1, hz2⟩ := info_parts infoLeaf
  subst hn
  refine wpList_buildSlice hgd 23 50 ys.length parts ho _ i _ Tryz.underlying23 hi hz0 (by rw [hz1]; omega) (by rw [hz1]; omega) ?_ h
  rw [hz1, hx]
  exact fill_many _ ys hk (by simp)
theorem wpList_twoL {w : World} {ops : Array Oper} {rest : List Oper} {o : Oper} {a : Act} {Q : Exit → Act → World → Prop} (hgd : o.guard = none) (x1 x2 : Operand) (ho : o.op = .buildSlice 23 2 #[(0, x1), (1, x2)])
    {y1 y2 : Lf} (hk : oks [y1, y2]) (hx1 : a.eval x1 = .agg (lc y1).toArray) (hx2 : a.eval x2 = .agg (lc y2).toArray)
    (h : wpList Tryz.prog ops Q rest (a.put o.dst (.slice (some ⟨w.heap.size, 0, none⟩) 2 2)) (w.alloc (.cells (lcs [y1, y2]).toArray 50))) : wpList Tryz.prog ops Q (o :: rest) a w :=
  wpList_manyL hgd 2 _ ho hk rfl (by decide) (by decide) (by simp [hx1, hx2]) h
theorem RdL.many (w : World) {ys : List Lf} {n : Nat} (hk : oks ys) (hn : ys.length = n) (hnn : n ≤ 4096) : RdL (w.alloc (.cells (lcs ys).toArray 50)) (some ⟨w.heap.size, 0, none⟩) n n ys := by
  refine ⟨hn, hk, Nat.le_refl _, by unfold maxLen; omega, (fun e => by cases e), fun ad e j u hu => ?_⟩
  cases e
  exact World.news_of_block (World.alloc_heap_new w _) j u (by simpa using hu)

def d5 : List UInt8 := 5 :: List.replicate 31 0
def d6 : List UInt8 := 6 :: List.replicate 31 0
def dB : List UInt8 := 128 :: List.replicate 31 0
def lfA : Lf := ⟨zero32, d5⟩
def lfB : Lf := ⟨dB, d6⟩
theorem lfA_ok : lfA.ok := ⟨by decide, by decide⟩
theorem lfB_ok : lfB.ok := ⟨by decide, by decide⟩
theorem built5 : Tryz.prog.built 25 [(0, .int .u8 5)] = some (bs d5).toArray := by kernel_rfl
theorem built6 : Tryz.prog.built 25 [(0, .int .u8 6)] = some (bs d6).toArray := by kernel_rfl
theorem builtB : Tryz.prog.built 25 [(0, .int .u8 128)] = some (bs dB).toArray := by kernel_rfl
theorem built_lfA : Tryz.prog.built 50 [(1, .agg (bs d5).toArray)] = some (lc lfA).toArray := by kernel_rfl
theorem built_lfB : Tryz.prog.built 50 [(0, .agg (bs dB).toArray), (1, .agg (bs d6).toArray)] = some (lc lfB).toArray := by kernel_rfl
theorem zeroL_info : (Tryz.prog.info? 50).map (fun i => (i.zero, i.size)) = some (some (.agg (bs (zero32 ++ zero32)).toArray), 64) := by kernel_rfl
theorem sizeL : (Tryz.prog.info? 50).map (·.size) = some 64 := by kernel_rfl

set_option maxRecDepth 100000 in
theorem a_any (w : World) :
    Calls Tryz.prog 36 #[] w fun e w' => e = .returned (.agg (lc lfA).toArray) ∧ Below w.heap.size w w' := by
  have hl := lc_length lfA_ok
  have H5 := Lib.hid (show (Tryz.prog.info? 50).map (·.size) = some (lc lfA).length by rw [sizeL, hl])
  have H6 := Lib.hid (show (bs (zero32 ++ zero32)).length = (lc lfA).length by rw [hl, bs_length]; rfl)
  have H7 := lc_one lfA
  have B1 := Lib.hid built5
  have B2 := Lib.hid built_lfA
  clear hl
  generalize lfA = A at *
  generalize d5 = D at *
  go_enter Tryz.func36, Tryz.ntmps36
  go_wp2_with (first | ((with_reducible refine wpList_allocB (o := ⟨some 0, _, _, _, _, _⟩) ?_ 50 ?_ zeroL_info ?_); rfl; rfl; intro w1 hr1 hg1 hz1) | ((with_reducible refine wpList_buildI (dst := some 1) B1.out ?_ ?_); rfl) | ((with_reducible refine wpList_buildI (dst := some 2) B2.out ?_ ?_); rfl) | ((with_reducible refine wpList_storeB (o := ⟨none, .store 50 (.tmp 0) (.tmp 2), _, _, _, _⟩) ?_ 50 (.tmp 0) (.tmp 2) ?_ ?_ ?_ hr1 H5.out H6.out H7 ?_); rfl; rfl; rfl; rfl; intro w2 hr2 hg2 hz2))
  try simp only [Exit.inBlock, Exit.then]
  refine bodyPost_blk hr2 Tryz.underlying50 H5.out rfl rfl rfl rfl ⟨rfl, ?_⟩
  exact ((Below.refl _ w).grown hg1 (Nat.le_refl _) (fun k e => by cases e)).grown hg2 (by omega) (fun k e => by cases e; exact Nat.le_refl _)

set_option maxRecDepth 100000 in
theorem b_any (w : World) :
    Calls Tryz.prog 37 #[] w fun e w' => e = .returned (.agg (lc lfB).toArray) ∧ Below w.heap.size w w' := by
  have hl := lc_length lfB_ok
  have H5 := Lib.hid (show (Tryz.prog.info? 50).map (·.size) = some (lc lfB).length by rw [sizeL, hl])
  have H6 := Lib.hid (show (bs (zero32 ++ zero32)).length = (lc lfB).length by rw [hl, bs_length]; rfl)
  have H7 := lc_one lfB
  have B1 := Lib.hid builtB
  have B2 := Lib.hid built6
  have B3 := Lib.hid built_lfB
  clear hl
  generalize lfB = A at *
  generalize d6 = D at *
  generalize dB = E at *
  go_enter Tryz.func37, Tryz.ntmps37
  go_wp2_with (first | ((with_reducible refine wpList_allocB (o := ⟨some 0, _, _, _, _, _⟩) ?_ 50 ?_ zeroL_info ?_); rfl; rfl; intro w1 hr1 hg1 hz1) | ((with_reducible refine wpList_buildI (dst := some 1) B1.out ?_ ?_); rfl) | ((with_reducible refine wpList_buildI (dst := some 2) B2.out ?_ ?_); rfl) | ((with_reducible refine wpList_buildI (dst := some 3) B3.out ?_ ?_); rfl) | ((with_reducible refine wpList_storeB (o := ⟨none, .store 50 (.tmp 0) (.tmp 3), _, _, _, _⟩) ?_ 50 (.tmp 0) (.tmp 3) ?_ ?_ ?_ hr1 H5.out H6.out H7 ?_); rfl; rfl; rfl; rfl; intro w2 hr2 hg2 hz2))
  try simp only [Exit.inBlock, Exit.then]
  refine bodyPost_blk hr2 Tryz.underlying50 H5.out rfl rfl rfl rfl ⟨rfl, ?_⟩
  exact ((Below.refl _ w).grown hg1 (Nat.le_refl _) (fun k e => by cases e)).grown hg2 (by omega) (fun k e => by cases e; exact Nat.le_refl _)
end Go.Proofs.YtmfnpjfhijmboaaGreatDoor
