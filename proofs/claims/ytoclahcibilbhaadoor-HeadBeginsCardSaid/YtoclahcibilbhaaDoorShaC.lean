/-
  The walks of package sha: digest, empty.
-/
import Derived.Test.YtoclahcibilbhaaDoorShaB
namespace Go.Proofs.YtoclahcibilbhaaDoor
open Go.RowKit

def be4s (ws : List Nat) : List UInt8 := ws.flatMap be4
theorem be4s_length (ws : List Nat) : (be4s ws).length = 4 * ws.length := by
  induction ws with
  | nil => rfl
  | cons x ws ih => simp only [be4s, List.flatMap_cons, List.length_append, List.length_cons] at ih ⊢; rw [ih]; simp [be4]; omega
theorem H8.bytes_eq (s : H8) : s.bytes = be4s s.list := by simp [H8.bytes, be4s, H8.list]

theorem sha_length (l : List UInt8) : (sha l).length = 32 := by rw [sha, H8.bytes_eq, be4s_length, H8.list_length]

/-- k words are there as bytes, then noughts -/
def outAt (ws : List Nat) (k : Nat) : List UInt8 := be4s (ws.take k) ++ List.replicate (32 - 4 * k) 0

theorem set4 (p : List UInt8) (k : Nat) (a b c d : UInt8) (hp : p.length = 4 * k) (hk : k < 8) :
    ((((p ++ List.replicate (32 - 4 * k) 0).set (4 * k) a).set (4 * k + 1) b).set (4 * k + 2) c).set (4 * k + 3) d = (p ++ [a, b, c, d]) ++ List.replicate (32 - 4 * (k + 1)) 0 := by
  obtain ⟨m, hm⟩ : ∃ m, 32 - 4 * k = m + 4 := ⟨28 - 4 * k, by omega⟩
  have hm2 : 32 - 4 * (k + 1) = m := by omega
  rw [hm, hm2, ← hp]
  rw [List.set_append_right _ _ (Nat.le_refl _), List.set_append_right _ _ (by omega), List.set_append_right _ _ (by omega), List.set_append_right _ _ (by omega)]
  simp [List.replicate_succ, List.append_assoc]

theorem outAt_step (ws : List Nat) (k : Nat) (hw : ws.length = 8) (hk : k < 8) :
    ((((outAt ws k).set (4 * k) (UInt8.ofNat (ws.getD k 0 / 16777216))).set (4 * k + 1) (UInt8.ofNat (ws.getD k 0 / 65536))).set (4 * k + 2) (UInt8.ofNat (ws.getD k 0 / 256))).set (4 * k + 3) (UInt8.ofNat (ws.getD k 0)) = outAt ws (k + 1) := by
  unfold outAt
  rw [set4 _ _ _ _ _ _ (by rw [be4s_length, List.length_take]; omega) hk]
  congr 1
  have e : ws.take (k + 1) = ws.take k ++ [ws.getD k 0] := by
    rw [List.take_succ_eq_append_getElem (by omega)]
    simp [List.getD, show k < ws.length by omega]
  rw [e]
  simp [be4s, be4]

theorem outAt_length (ws : List Nat) (k : Nat) (hw : ws.length = 8) (hk : k ≤ 8) : (outAt ws k).length = 32 := by
  simp only [outAt, List.length_append, be4s_length, List.length_take, List.length_replicate]; omega
theorem outAt_full (ws : List Nat) (hw : ws.length = 8) : outAt ws 8 = be4s ws := by
  simp [outAt, List.take_of_length_le (Nat.le_of_eq hw)]

theorem zero32_info : (Tryd.prog.info? 23).map (fun i => (i.zero, i.size)) = some (some (.agg (bs zero32).toArray), 32) := zeroD_info

structure DigAt (w wr : World) (ws : List Nat) (k : Nat) : Prop where
  res : Blk wr (w.heap.size + 1) 23 (bs zero32)
  arr : Blk wr (w.heap.size + 1 + 1) 23 (bs (outAt ws k))
  bel : Below w.heap.size w wr

theorem bset {w : World} {g : Nat} {t : TypeId} {l : List UInt8} (h : Blk w g t (bs l)) (j : Nat) (z : Int) (n : Nat) (hz : z = ((n % 256 : Nat) : Int)) : Blk (w.setCell ⟨g, j, none⟩ (.int .u8 z)) g t (bs (l.set j (UInt8.ofNat n))) := by
  have := h.set j (.int .u8 z)
  rw [hz, bs_set _ _ _ (Nat.mod_lt _ (by decide)), show UInt8.ofNat (n % 256) = UInt8.ofNat n from UInt8.toNat_inj.1 (by simp)] at this
  rw [hz]
  exact this

theorem DigAt.step {w wr : World} {ws : List Nat} {k x : Nat} (h : DigAt w wr ws k) (lx : x < 4294967296)
    (he : ((((outAt ws k).set (4 * k) (UInt8.ofNat (x / 16777216))).set (4 * k + 1) (UInt8.ofNat (x / 65536))).set (4 * k + 2) (UInt8.ofNat (x / 256))).set (4 * k + 3) (UInt8.ofNat x) = outAt ws (k + 1)) :
    DigAt w ((((wr.setCell ⟨w.heap.size + 1 + 1, 4 * k, none⟩ (.int .u8 ((x : Int) / 16777216))).setCell ⟨w.heap.size + 1 + 1, 4 * k + 1, none⟩ (.int .u8 ((x : Int) / 65536 % 256))).setCell ⟨w.heap.size + 1 + 1, 4 * k + 2, none⟩ (.int .u8 ((x : Int) / 256 % 256))).setCell ⟨w.heap.size + 1 + 1, 4 * k + 3, none⟩ (.int .u8 ((x : Int) % 256))) ws (k + 1) := by
  refine ⟨(((h.res.setOther _ _ (by simp)).setOther _ _ (by simp)).setOther _ _ (by simp)).setOther _ _ (by simp), ?_, (((h.bel.setCell (by simp; omega) _).setCell (by simp; omega) _).setCell (by simp; omega) _).setCell (by simp; omega) _⟩
  rw [← he]
  exact bset (bset (bset (bset h.arr _ _ (x / 16777216) (by omega)) _ _ (x / 65536) (by omega)) _ _ (x / 256) (by omega)) _ _ x (by omega)

set_option maxRecDepth 100000 in
set_option maxHeartbeats 1000000 in
theorem digest_words (w : World) (ws : List Nat) (hw : ws.length = 8) (hs : ∀ x ∈ ws, x < 4294967296) :
    Calls Tryd.prog 45 #[.agg (ns .u32 ws).toArray] w fun e w' => e = .returned (.agg (bs (be4s ws)).toArray) ∧ Below w.heap.size w w' := by
  have hb0 := Blk.new w 53 (ns .u32 ws)
  have hB0 : Below w.heap.size w (w.alloc (.cells (ns .u32 ws).toArray 53)) := (Below.refl _ w).alloc (Nat.le_refl _) _
  have hz0 : (w.alloc (.cells (ns .u32 ws).toArray 53)).heap.size = w.heap.size + 1 := by simp
  have H1 := Lib.hid (show (Tryd.prog.info? 53).map (·.size) = some (ns .u32 ws).length by rw [info8, ns_length, hw])
  go_enter Tryd.func45, Tryd.ntmps45
  go_wp2_with (first | ((with_reducible refine wpList_allocB (o := ⟨some 2, _, _, _, _, _⟩) ?_ 23 ?_ zero32_info ?_); rfl; rfl; intro w1 hr hg1 hz1; have hb01 := hb0.grown hg1 (by simp)) | ((with_reducible refine wpList_allocB (o := ⟨some 3, _, _, _, _, _⟩) ?_ 23 ?_ zero32_info ?_); rfl; rfl; intro w2 ha hg2 hz2; have hb02 := hb01.grown hg2 (by simp)) | ((with_reducible refine wpList_loadB (o := ⟨some 6, _, _, _, _, _⟩) ?_ 53 (.tmp 1) ?_ ?_ hb02 Tryd.underlying53 ?_ H1.out ?_); rfl; rfl; rfl; rfl))
  have hD : DigAt w w2 ws 0 := by
    have hr2 := hr.grown hg2 (by simp)
    have ha2 := ha
    rw [hz0] at hr2
    rw [hz1, hz0] at ha2
    exact ⟨hr2, by simpa [outAt, be4s, zero32] using ha2, (hB0.grown hg1 (by omega) (fun k e => by cases e)).grown hg2 (by omega) (fun k e => by cases e)⟩
  clear hb0 hB0 hz0 hr hg1 hz1 ha hg2 hz2 hb01 hb02 H1
  go_loopw [7] (fun t wr => ∃ k : Nat, k ≤ 8 ∧ t = .int .i64 k ∧ DigAt w wr ws k) (fun t _ => 8 - (intOf t).toNat)
  case atStart => exact ⟨0, by omega, rfl, hD⟩
  case round =>
    obtain ⟨k, hk, rfl, hD⟩ := hrel
    by_cases hlt : k < 8
    · have hix : ∀ W : World, (Instr.index 53 (.agg (ns .u32 ws).toArray) (.int .i64 (k : Int))).run Tryd.prog W = .ok (.int .u32 ((ws.getD k 0 : Nat) : Int)) W := fun W =>
        run_index_in W 53 52 8 _ .i64 k _ Tryd.underlying53 Tryd.underlying52 rfl (by kernel_rfl) hlt (ns_at .u32 ws k (by omega))
      have lx := getD_lt ws hs k
      have hst := Lib.hid (outAt_step ws k hw hlt)
      have hol := Lib.hid (outAt_length ws k hw hk)
      generalize ws.getD k 0 = x at *
      have c0 := hD.arr.cell (bs_at _ (4 * k) (by rw [hol.out]; omega))
      have c1 := hD.arr.cell (bs_at _ (4 * k + 1) (by rw [hol.out]; omega))
      have c2 := hD.arr.cell (bs_at _ (4 * k + 2) (by rw [hol.out]; omega))
      have c3 := hD.arr.cell (bs_at _ (4 * k + 3) (by rw [hol.out]; omega))
      have f0 := hD.arr.free (4 * k)
      have f1 := hD.arr.free (4 * k + 1)
      have f2 := hD.arr.free (4 * k + 2)
      have f3 := hD.arr.free (4 * k + 3)
      go_wp2_with fail
      refine ⟨⟨k + 1, by omega, by go_num, hD.step lx hst.out⟩, by simp [intOf]; omega⟩
    · obtain rfl : k = 8 := by omega
      have hr := hD.res
      have ha := hD.arr
      have hB := hD.bel
      have hlt2 := ha.lt
      rw [outAt_full ws hw] at ha
      have HL : (bs (be4s ws)).length = 32 := by rw [bs_length, be4s_length, hw]
      have H1 := Lib.hid (show (Tryd.prog.info? 23).map (·.size) = some (bs (be4s ws)).length by rw [info_digest, HL])
      have H2 := Lib.hid (show (bs zero32).length = (bs (be4s ws)).length by rw [bs_length, zero32_length, HL])
      have H3 := bs_one (be4s ws)
      clear HL hD
      go_wp2_with (first | ((with_reducible refine wpList_loadB (o := ⟨some 38, _, _, _, _, _⟩) ?_ 23 (.tmp 3) ?_ ?_ ha Tryd.underlying23 ?_ H1.out ?_); rfl; rfl; rfl; rfl) | ((with_reducible refine wpList_storeB (o := ⟨none, .store 23 (.tmp 2) (.tmp 38), _, _, _, _⟩) ?_ 23 (.tmp 2) (.tmp 38) ?_ ?_ ?_ hr H1.out H2.out H3 ?_); rfl; rfl; rfl; rfl; intro w5 hb5 hg5 hz5))
      try simp only [Exit.inBlock, Exit.then]
      refine bodyPost_blk hb5 Tryd.underlying23 H1.out rfl rfl rfl rfl ⟨rfl, ?_⟩
      exact hB.grown hg5 hB.size (fun k e => by cases e; omega)

theorem H8.init_ok : H8.init.Ok := by unfold H8.Ok; decide
theorem infoH : (Tryd.prog.info? 56).map (·.size) = some 73 := by kernel_rfl
/-- a hash's cells: its words, its block, its size -/
def hcells (s : H8) (bl : List UInt8) (n : Nat) : List Value := ns .u32 s.list ++ bs bl ++ [.int .i64 (n : Int)]
theorem hcells_length (s : H8) (bl : List UInt8) (n : Nat) (hb : bl.length = 64) : (hcells s bl n).length = 73 := by
  simp [hcells, ns_length, bs_length, hb, H8.list_length]
theorem hcells_one (s : H8) (bl : List UInt8) (n : Nat) : ∀ v ∈ hcells s bl n, v.oneCell' = true := by
  intro v hv
  simp only [hcells, List.mem_append, List.mem_singleton] at hv
  rcases hv with (hv | hv) | rfl
  · exact ns_one _ _ v hv
  · exact bs_one _ v hv
  · rfl
def zeros64 : List UInt8 := List.replicate 64 0
theorem zeros64_length : zeros64.length = 64 := by decide

set_option maxRecDepth 100000 in
set_option maxHeartbeats 1000000 in
theorem empty_any (w : World) :
    Calls Tryd.prog 29 #[] w fun e w' => e = .returned (.agg (hcells H8.init zeros64 0).toArray) ∧ Below w.heap.size w w' := by
  have hbt : Tryd.prog.built 56 [(0, .agg #[.int .u32 1779033703, .int .u32 3144134277, .int .u32 1013904242, .int .u32 2773480762, .int .u32 1359893119, .int .u32 2600822924, .int .u32 528734635, .int .u32 1541459225])] = some (hcells H8.init zeros64 0).toArray := by kernel_rfl
  have H1 := Lib.hid (show (Tryd.prog.info? 56).map (·.size) = some (hcells H8.init zeros64 0).length by rw [infoH, hcells_length _ _ _ zeros64_length])
  have H2 := Lib.hid (show (hcells ⟨0, 0, 0, 0, 0, 0, 0, 0⟩ zeros64 0).length = (hcells H8.init zeros64 0).length by rw [hcells_length _ _ _ zeros64_length, hcells_length _ _ _ zeros64_length])
  have H3 := hcells_one H8.init zeros64 0
  have HZ : (Tryd.prog.info? 56).map (fun i => (i.zero, i.size)) = some (some (.agg (hcells ⟨0, 0, 0, 0, 0, 0, 0, 0⟩ zeros64 0).toArray), 73) := by kernel_rfl
  have HZ' := Lib.hid HZ
  have HBT := Lib.hid hbt
  clear HZ hbt
  generalize hhi : hcells H8.init zeros64 0 = hi at *
  have HI := Lib.hid hhi
  clear hhi
  go_enter Tryd.func29, Tryd.ntmps29
  go_wp2_with (first | ((with_reducible refine wpList_allocB (o := ⟨some 0, _, _, _, _, _⟩) ?_ 56 ?_ HZ'.out ?_); rfl; rfl; intro w1 hr hg1 hz1) | (refine wpList_buildC (o := ⟨some 2, _, _, _, _, _⟩) rfl 56 #[(0, .tmp 1)] rfl rfl HBT.out ?_) | ((with_reducible refine wpList_storeB (o := ⟨none, .store 56 (.tmp 0) (.tmp 2), _, _, _, _⟩) ?_ 56 (.tmp 0) (.tmp 2) ?_ ?_ ?_ hr H1.out H2.out H3 ?_); rfl; rfl; rfl; rfl; intro w5 hb5 hg5 hz5))
  try simp only [Exit.inBlock, Exit.then]
  refine bodyPost_blk hb5 Tryd.underlying56 H1.out rfl rfl rfl rfl ⟨rfl, ?_⟩
  exact ((Below.refl _ w).grown hg1 (Nat.le_refl _) (fun k e => by cases e)).grown hg5 (by omega) (fun k e => by cases e; omega)
end Go.Proofs.YtoclahcibilbhaaDoor
