/-
  HMAC-SHA256 on lists of bytes; the walks of mac's Same, xored and each.
-/
import Derived.Test.YtoclahcibilbhaaDoorShaF
import Derived.Deep.RegionHeld3
namespace Go.Proofs.YtoclahcibilbhaaDoor
open Go.RowKit

def xorb (m : UInt8) (l : List UInt8) : List UInt8 := l.map (· ^^^ m)
def keyOf (k : List UInt8) : List UInt8 := if k.length ≤ 64 then k else sha k
def kblock (k : List UInt8) : List UInt8 := keyOf k ++ List.replicate (64 - (keyOf k).length) 0
def hmac (k b : List UInt8) : List UInt8 := sha (xorb 92 (kblock k) ++ sha (xorb 54 (kblock k) ++ b))

theorem keyOf_length (k : List UInt8) : (keyOf k).length ≤ 64 := by
  unfold keyOf
  split
  · assumption
  · rw [sha_length]; decide
theorem kblock_length (k : List UInt8) : (kblock k).length = 64 := by
  have := keyOf_length k
  simp [kblock]; omega
theorem xorb_length (m l) : (xorb m l).length = l.length := by simp [xorb]
theorem hmac_length (k b : List UInt8) : (hmac k b).length = 32 := sha_length _

theorem u8_xor_c (x y : UInt8) : bits .xor .u8 (x.toNat : Int) (y.toNat : Int) = (((x ^^^ y).toNat : Nat) : Int) := by
  rw [u8_xor_nat _ _ x.toNat_lt y.toNat_lt, UInt8.toNat_xor]
theorem u8_or_c (x y : UInt8) : bits .or .u8 (x.toNat : Int) (y.toNat : Int) = (((x ||| y).toNat : Nat) : Int) := by
  rw [u8_or_nat _ _ x.toNat_lt y.toNat_lt, UInt8.toNat_or]

/-- the bits in which the first k bytes differ -/
def dif (xs ys : List UInt8) : Nat → UInt8
  | 0 => 0
  | k + 1 => dif xs ys k ||| (xs.getD k 0 ^^^ ys.getD k 0)
theorem dif_zero (xs ys : List UInt8) (k : Nat) : dif xs ys k = 0 ↔ ∀ j, j < k → xs.getD j 0 = ys.getD j 0 := by
  induction k with
  | zero => simp [dif]
  | succ k ih =>
    rw [dif, UInt8.or_eq_zero_iff, ih, UInt8.xor_eq_zero_iff]
    constructor
    · rintro ⟨h1, h2⟩ j hj
      rcases Nat.lt_succ_iff_lt_or_eq.1 hj with h | rfl
      · exact h1 j h
      · exact h2
    · intro h
      exact ⟨fun j hj => h j (by omega), h k (by omega)⟩
theorem dif_same (xs ys : List UInt8) (hx : xs.length = 32) (hy : ys.length = 32) : ((((dif xs ys 32).toNat : Nat) : Int) == 0) = (xs == ys) := by
  have h := dif_zero xs ys 32
  have e : ((((dif xs ys 32).toNat : Nat) : Int) = 0) ↔ xs = ys := by
    rw [show ((((dif xs ys 32).toNat : Nat) : Int) = 0) ↔ dif xs ys 32 = 0 from ⟨fun h => UInt8.toNat_inj.1 (by simpa using h), fun h => by rw [h]; rfl⟩, h]
    constructor
    · intro h
      refine List.ext_getElem (by omega) fun j h1 h2 => ?_
      have := h j (by omega)
      simpa [List.getD, h1, h2] using this
    · rintro rfl j _; rfl
  rw [Bool.eq_iff_iff, beq_iff_eq, beq_iff_eq]
  exact e

theorem xorb_full (m : UInt8) (l : List UInt8) : xorb m (l.take l.length) ++ l.drop l.length = xorb m l := by simp
theorem xorb_step (m : UInt8) (l : List UInt8) (k : Nat) (hk : k < l.length) : (xorb m (l.take k) ++ l.drop k).set k (l.getD k 0 ^^^ m) = xorb m (l.take (k + 1)) ++ l.drop (k + 1) := by
  have e1 : l.drop k = l.getD k 0 :: l.drop (k + 1) := by rw [List.drop_eq_getElem_cons hk]; simp [List.getD, hk]
  have e2 : l.take (k + 1) = l.take k ++ [l.getD k 0] := by rw [List.take_succ_eq_append_getElem hk]; simp [List.getD, hk]
  have e3 : k = (xorb m (l.take k)).length := by rw [xorb_length, List.length_take]; omega
  rw [e1, e2]
  conv => lhs; arg 2; rw [e3]
  rw [List.set_append_right _ _ (Nat.le_refl _)]
  simp [xorb]

set_option maxRecDepth 100000 in
set_option maxHeartbeats 1000000 in
theorem same_mac (w : World) (xs ys : List UInt8) (hx : xs.length = 32) (hy : ys.length = 32) :
    Calls Tryd.prog 35 #[.agg (bs xs).toArray, .agg (bs ys).toArray] w fun e w' => e = .returned (.bool (xs == ys)) ∧ Below w.heap.size w w' := by
  have hD := Lib.hid (dif_same xs ys hx hy)
  have hb0 := (Blk.new w 23 (bs xs)).alloc (.cells (bs ys).toArray 23)
  have hb1 := Blk.new (w.alloc (.cells (bs xs).toArray 23)) 23 (bs ys)
  have hB1 : Below w.heap.size w ((w.alloc (.cells (bs xs).toArray 23)).alloc (.cells (bs ys).toArray 23)) := ((Below.refl _ w).alloc (Nat.le_refl _) _).alloc (by simp) _
  have hz : (w.alloc (.cells (bs xs).toArray 23)).heap.size = w.heap.size + 1 := by simp
  rw [hz] at hb1
  go_enter Tryd.func35, Tryd.ntmps35
  go_wp2_with fail
  generalize (w.alloc (.cells (bs xs).toArray 23)).alloc (.cells (bs ys).toArray 23) = w1 at *
  go_loopw [5, 7] (fun d t wr => ∃ k : Nat, k ≤ 32 ∧ t = .int .i64 k ∧ d = .int .u8 ((dif xs ys k).toNat : Nat) ∧ Below w.heap.size w wr ∧ Blk wr w.heap.size 23 (bs xs) ∧ Blk wr (w.heap.size + 1) 23 (bs ys)) (fun _ t _ => 32 - (intOf t).toNat)
  case atStart => exact ⟨0, by omega, rfl, rfl, hB1, hb0, hb1⟩
  case round =>
    obtain ⟨k, hk, rfl, rfl, hB, hbx, hby⟩ := hrel
    by_cases hlt : k < 32
    · have c0 := hbx.cell (bs_at xs k (by omega))
      have c1 := hby.cell (bs_at ys k (by omega))
      have hst : dif xs ys (k + 1) = dif xs ys k ||| (xs.getD k 0 ^^^ ys.getD k 0) := rfl
      have HST := Lib.hid hst
      clear hst
      generalize xs.getD k 0 = x at *
      generalize ys.getD k 0 = y at *
      generalize dif xs ys k = d at *
      have hx1 := u8_xor_c x y
      have ho1 := u8_or_c d (x ^^^ y)
      have k32 : (k : Int) < 32 := by omega
      go_wp2_with fail
      go_quiet (fail)
      go_wp2_with fail
      exact ⟨⟨k + 1, by omega, by go_num, by rw [HST.out, ← ho1, UInt8.toNat_xor], ⟨hB.os, hB.tape, hB.output, hB.size, hB.block⟩, hbx.drewN nq, hby.drewN nq⟩, by simp [intOf]; omega⟩
    · obtain rfl : k = 32 := by omega
      go_wp2_with fail
      go_ret
      refine ⟨?_, hB⟩
      show Ending.returned (.bool ((((dif xs ys 32).toNat : Nat) : Int) == 0)) = _
      rw [hD.out]

set_option maxRecDepth 100000 in
theorem xored_any (w : World) (m : UInt8) :
    Calls Tryd.prog 39 #[.int .u8 (m.toNat : Int)] w fun e w' => ∃ r, e = .returned (.func (.func 50) #[] #[.pointer (some ⟨r, 0, none⟩)]) ∧ w'.cell? ⟨r, 0, none⟩ = some (.int .u8 (m.toNat : Int)) ∧ Below w.heap.size w w' := by
  go_enter Tryd.func39, Tryd.ntmps39
  go_wp2_with fail
  go_ret
  exact ⟨_, rfl, by simp, (Below.refl _ w).alloc (Nat.le_refl _) _⟩

set_option maxRecDepth 100000 in
theorem flip_any (w : World) (x m : UInt8) (r : Nat) (hc : w.cell? ⟨r, 0, none⟩ = some (.int .u8 (m.toNat : Int))) :
    Calls Tryd.prog 50 #[.int .u8 (x.toNat : Int), .pointer (some ⟨r, 0, none⟩)] w fun e w' => e = .returned (.int .u8 ((x ^^^ m).toNat : Int)) ∧ w = w' := by
  have hx := u8_xor_c x m
  go_enter Tryd.func50, Tryd.ntmps50
  go_wp2_with fail
  go_ret
  exact ⟨by rw [UInt8.toNat_xor]; rfl, rfl⟩

theorem zeros64_info : (Tryd.prog.info? 54).map (fun i => (i.zero, i.size)) = some (some (.agg (bs zeros64).toArray), 64) := by kernel_rfl

/-- the walk of each: the first k bytes of the box are changed -/
structure EachAt (w wr : World) (m : UInt8) (l : List UInt8) (r : Nat) (k : Nat) : Prop where
  box : Blk wr w.heap.size 54 (bs (xorb m (l.take k) ++ l.drop k))
  res : Blk wr (w.heap.size + 1) 54 (bs zeros64)
  clo : wr.cell? ⟨r, 0, none⟩ = some (.int .u8 (m.toNat : Int))
  bel : Below w.heap.size w wr
  old : r < w.heap.size

theorem EachAt.step {w wr : World} {m : UInt8} {l : List UInt8} {r k : Nat} (h : EachAt w wr m l r k) (hk : k < l.length) {z : Int} (hz : z = (((l.getD k 0 ^^^ m).toNat : Nat) : Int)) :
    EachAt w (wr.setCell ⟨w.heap.size, k, none⟩ (.int .u8 z)) m l r (k + 1) := by
  have ho := h.old
  refine ⟨?_, h.res.setOther _ _ (by simp), ?_, h.bel.setCell (Nat.le_refl _) _, h.old⟩
  · have hb := h.box.set k (.int .u8 z)
    rw [hz, bs_set _ _ _ (UInt8.toNat_lt _), UInt8.ofNat_toNat, xorb_step _ _ _ hk] at hb
    rw [hz]; exact hb
  · exact (set_grown wr w.heap.size k _).cell h.clo (by simp; omega)

set_option maxRecDepth 100000 in
set_option maxHeartbeats 1000000 in
theorem each_any (w : World) (l : List UInt8) (hl : l.length = 64) (m : UInt8) (r : Nat) (hc : w.cell? ⟨r, 0, none⟩ = some (.int .u8 (m.toNat : Int))) :
    Calls Tryd.prog 38 #[.agg (bs l).toArray, .func (.func 50) #[] #[.pointer (some ⟨r, 0, none⟩)]] w fun e w' => e = .returned (.agg (bs (xorb m l)).toArray) ∧ Below w.heap.size w w' := by
  have hb0 := Blk.new w 54 (bs l)
  have hB0 : Below w.heap.size w (w.alloc (.cells (bs l).toArray 54)) := (Below.refl _ w).alloc (Nat.le_refl _) _
  have hz0 : (w.alloc (.cells (bs l).toArray 54)).heap.size = w.heap.size + 1 := by simp
  have H1 := Lib.hid (show (Tryd.prog.info? 54).map (·.size) = some (bs l).length by rw [info64b, bs_length, hl])
  have hr0 : r < w.heap.size := World.block_lt_of_cell? _ _ hc
  go_enter Tryd.func38, Tryd.ntmps38
  go_wp2_with (first | ((with_reducible refine wpList_allocB (o := ⟨some 4, _, _, _, _, _⟩) ?_ 54 ?_ zeros64_info ?_); rfl; rfl; intro w1 hr hg1 hz1; have hb01 := hb0.grown hg1 (by simp)) | ((with_reducible refine wpList_loadB (o := ⟨some 7, _, _, _, _, _⟩) ?_ 54 (.tmp 2) ?_ ?_ hb01 Tryd.underlying54 ?_ H1.out ?_); rfl; rfl; rfl; rfl))
  have hE : EachAt w w1 m l r 0 := ⟨by simpa [xorb] using hb01, by rw [hz0] at hr; exact hr, cell_later (hB0.grown hg1 (by omega) (fun k e => by cases e)) hc, hB0.grown hg1 (by omega) (fun k e => by cases e), hr0⟩
  clear hb0 hB0 hz0 hr hg1 hz1 hb01 H1 hc
  go_loopw [5, 6, 8] (fun _ _ t wr => ∃ k : Nat, k ≤ 64 ∧ t = .int .i64 k ∧ EachAt w wr m l r k) (fun _ _ t _ => 64 - (intOf t).toNat)
  case atStart => exact ⟨0, by omega, rfl, hE⟩
  case round =>
    obtain ⟨k, hk, rfl, hE⟩ := hrel
    by_cases hlt : k < 64
    · have hix : ∀ W : World, (Instr.index 54 (.agg (bs l).toArray) (.int .i64 (k : Int))).run Tryd.prog W = .ok (.int .u8 ((l.getD k 0).toNat : Int)) W := fun W =>
        run_index_in W 54 5 64 _ .i64 k _ Tryd.underlying54 Tryd.underlying5 rfl (by kernel_rfl) hlt (bs_at l k (by omega))
      have hs := Lib.hid (show ∀ z : Int, z = _ → EachAt w _ m l r (k + 1) from fun z => hE.step (z := z) (by omega))
      have f0 := hE.box.free k
      have d0 := hE.clo
      have c0 := hE.box.cell (bs_at _ k (by simp [xorb_length]; omega))
      generalize l.getD k 0 = x at *
      have k64 : (k : Int) < 64 := by omega
      go_wp2_with fail
      refine (flip_any wr x m r d0).mono ?_
      rintro e w' ⟨rfl, rfl⟩
      go_wp2_with fail
      exact ⟨⟨k + 1, by omega, by go_num, hs.out _ rfl⟩, by simp [intOf]; omega⟩
    · obtain rfl : k = 64 := by omega
      obtain ⟨hb, hr, -, hB, -⟩ := hE
      rw [← hl, xorb_full] at hb
      have H1 := Lib.hid (show (Tryd.prog.info? 54).map (·.size) = some (bs (xorb m l)).length by rw [info64b, bs_length, xorb_length, hl])
      have H2 := Lib.hid (show (bs zeros64).length = (bs (xorb m l)).length by rw [bs_length, bs_length, xorb_length, hl, zeros64_length])
      have H3 := bs_one (xorb m l)
      go_wp2_with (first | ((with_reducible refine wpList_loadB (o := ⟨some 18, _, _, _, _, _⟩) ?_ 54 (.tmp 2) ?_ ?_ hb Tryd.underlying54 ?_ H1.out ?_); rfl; rfl; rfl; rfl) | ((with_reducible refine wpList_storeB (o := ⟨none, .store 54 (.tmp 4) (.tmp 18), _, _, _, _⟩) ?_ 54 (.tmp 4) (.tmp 18) ?_ ?_ ?_ hr H1.out H2.out H3 ?_); rfl; rfl; rfl; rfl; intro w5 hb5 hg5 hz5))
      try simp only [Exit.inBlock, Exit.then]
      refine bodyPost_blk hb5 Tryd.underlying54 H1.out rfl rfl rfl rfl ⟨rfl, ?_⟩
      exact hB.grown hg5 hB.size (fun k e => by cases e; omega)
end Go.Proofs.YtoclahcibilbhaaDoor
