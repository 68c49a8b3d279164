/-
  The walks of package sha: rotations, the spread words.
-/
import Derived.Test.YtoclahcibilbhaaDoorLibA
import Derived.Test.YtoclahcibilbhaaDoorSha0
import Derived.Laws.BitsAllLaws
import Derived.IntWalk
import Derived.StillTailTactics
import Derived.BigQuiet
import Derived.Deep.QuietTactic
namespace Go.Proofs.YtoclahcibilbhaaDoor
open Go.RowKit

theorem ret_int {k : IntKind} {a b : Int} (h : a = b) : Ending.returned (.int k a) = .returned (.int k b) := by rw [h]
theorem rotr_lt (x n : Nat) (h : x < 4294967296) : rotr x n < 4294967296 := by
  have h1 : x / 2 ^ n < 2 ^ 32 := Nat.lt_of_le_of_lt (Nat.div_le_self _ _) h
  have h2 : x * 2 ^ (32 - n) % 4294967296 < 2 ^ 32 := Nat.mod_lt _ (by decide)
  exact Nat.or_lt_two_pow h1 h2

theorem and31 (n : Nat) (h1 : 1 ≤ n) (h2 : n ≤ 31) : bits .and .u64 (IntKind.u64.wrap (-(n : Int))) 31 = ((32 - n : Nat) : Int) := by
  have e : IntKind.u64.wrap (-(n : Int)) = ((18446744073709551616 - n : Nat) : Int) := by rw [IntKind.wrap_u64]; omega
  rw [e, show (31 : Int) = ((31 : Nat) : Int) from rfl, u64_and_nat _ _ (by omega) (by omega), nat_mask5]
  omega

theorem rot_val (x n : Nat) (hx : x < 4294967296) :
    bits .or .u32 (IntKind.u32.wrap ((x : Int) * 2 ^ (32 - n))) ((x : Int) / 2 ^ n) = ((rotr x n : Nat) : Int) := by
  have e1 : IntKind.u32.wrap ((x : Int) * 2 ^ (32 - n)) = ((x * 2 ^ (32 - n) % 4294967296 : Nat) : Int) := by
    rw [IntKind.wrap_u32']
    simp
  have e2 : (x : Int) / 2 ^ n = ((x / 2 ^ n : Nat) : Int) := by simp
  rw [e1, e2, u32_or_nat _ _ (Nat.mod_lt _ (by decide)) (Nat.lt_of_le_of_lt (Nat.div_le_self _ _) hx), Nat.or_comm]
  rfl

set_option maxHeartbeats 400000 in
theorem rotl_any (w : World) (x : Nat) (n : Nat) (hx : x < 4294967296) (h1 : 1 ≤ n) (h2 : n ≤ 31) :
    Calls Tryd.prog 59 #[.int .u32 x, .int .i64 (-n)] w fun e w' => e = .returned (.int .u32 (rotr x n)) ∧ w = w' := by
  have ha := and31 n h1 h2
  have h3 : 32 - n < 32 := by omega
  have HR := Lib.hid (rot_val x n hx)
  have e1 : min (32 - n) 32 = 32 - n := by omega
  have e2 : 32 - (32 - n) = n := by omega
  have e3 : IntKind.u64.wrap (32 - ((32 - n : Nat) : Int)) = (n : Int) := by rw [IntKind.wrap_u64]; omega
  have e4 : min n 32 = n := by omega
  go_enter Tryd.func59, Tryd.ntmps59
  go_wp2
  go_ret
  exact ⟨ret_int HR.out, rfl⟩

set_option maxHeartbeats 400000 in
theorem right_any (w : World) (x : Nat) (m : Int) (n : Nat) (hm : m = n) (hx : x < 4294967296) (h1 : 1 ≤ n) (h2 : n ≤ 31) :
    Calls Tryd.prog 54 #[.int .u32 x, .int .i64 m] w fun e w' => e = .returned (.int .u32 (rotr x n)) ∧ w = w' := by
  subst hm
  go_enter Tryd.func54, Tryd.ntmps54
  go_wp2_with (go_at_call 59; refine (rotl_any _ x n hx h1 h2).mono ?_; rintro e w' ⟨rfl, rfl⟩)
  go_ret
  exact ⟨rfl, rfl⟩

/-- words, then noughts up to 64 -/
def pad64 (p : List Nat) : List Nat := p ++ List.replicate (64 - p.length) 0
theorem pad64_length (p : List Nat) (h : p.length ≤ 64) : (pad64 p).length = 64 := by simp [pad64]; omega
theorem pad64_set (p : List Nat) (v : Nat) (t : Nat) (h : p.length = t) (ht : t < 64) : (pad64 p).set t v = pad64 (p ++ [v]) := by
  subst h
  obtain ⟨m, hm⟩ : ∃ m, 64 - p.length = m + 1 := ⟨63 - p.length, by omega⟩
  have hm2 : 64 - (p ++ [v]).length = m := by simp; omega
  unfold pad64
  rw [hm, hm2, List.set_append_right _ _ (Nat.le_refl _), Nat.sub_self, List.replicate_succ]
  simp
theorem pad64_get (p : List Nat) (j : Nat) (h : j < p.length) : (pad64 p).getD j 0 = p.getD j 0 := by
  simp [pad64, List.getD, List.getElem?_append_left h]
theorem pad64_full (p : List Nat) (h : p.length = 64) : pad64 p = p := by simp [pad64, h]

theorem sched_length (b : List UInt8) (t : Nat) : (sched b t).length = t := by
  induction t with
  | zero => rfl
  | succ t ih => simp [sched, ih]

theorem word_lt (b : List UInt8) (t : Nat) : word b t < 4294967296 := by
  unfold word
  have := (b.getD (4 * t) 0).toNat_lt
  have := (b.getD (4 * t + 1) 0).toNat_lt
  have := (b.getD (4 * t + 2) 0).toNat_lt
  have := (b.getD (4 * t + 3) 0).toNat_lt
  omega
theorem ext_lt (p : List Nat) (t : Nat) : ext p t < 4294967296 := Nat.mod_lt _ (by decide)
theorem sched_lt (b : List UInt8) (t : Nat) : ∀ x ∈ sched b t, x < 4294967296 := by
  induction t with
  | zero => simp [sched]
  | succ t ih =>
    intro x hx
    simp only [sched, List.mem_append, List.mem_singleton] at hx
    rcases hx with hx | rfl
    · exact ih x hx
    · split
      · exact word_lt _ _
      · exact ext_lt _ _
theorem getD_lt (p : List Nat) (h : ∀ x ∈ p, x < 4294967296) (j : Nat) : p.getD j 0 < 4294967296 := by
  rw [List.getD]
  cases e : p[j]? with
  | none => decide
  | some x => exact h x (List.mem_of_getElem? e)

def zero64 : List Nat := List.replicate 64 0
theorem zero64_length : zero64.length = 64 := by decide
theorem zero64_info : (Tryd.prog.info? 82).map (fun i => (i.zero, i.size)) = some (some (.agg (ns .u32 zero64).toArray), 64) := by kernel_rfl

theorem info64 : (Tryd.prog.info? 82).map (·.size) = some 64 := by kernel_rfl
/-- what the loops of spread carry: t words are there -/
structure SpreadAt (w wr : World) (bl : List UInt8) (t : Nat) : Prop where
  blk : Blk wr w.heap.size 54 (bs bl)
  res : Blk wr (w.heap.size + 1) 82 (ns .u32 zero64)
  arr : Blk wr (w.heap.size + 1 + 1) 82 (ns .u32 (pad64 (sched bl t)))
  bel : Below w.heap.size w wr

theorem SpreadAt.step {w wr : World} {bl : List UInt8} {k : Nat} (h : SpreadAt w wr bl k) (hk : k < 64) {v : Int} {x : Nat} (hv : v = x) (hx : x = if k < 16 then word bl k else ext (sched bl k) k) :
    SpreadAt w (wr.setCell ⟨w.heap.size + 1 + 1, k, none⟩ (.int .u32 v)) bl (k + 1) := by
  subst hv
  refine ⟨h.blk.setOther _ _ (by simp; omega), h.res.setOther _ _ (by simp), ?_, ?_⟩
  · have := h.arr.set k (.int .u32 (x : Int))
    rw [ns_set, pad64_set _ _ _ (sched_length bl k) hk, hx] at this
    rw [hx]; exact this
  · exact h.bel.setCell (by simp; omega) _
theorem SpreadAt.drew {w wr : World} {bl : List UInt8} {k : Nat} (h : SpreadAt w wr bl k) : SpreadAt w wr.drew bl k := ⟨h.blk.drew, h.res.drew, h.arr.drew, h.bel.drew⟩
theorem SpreadAt.drewN {w wr : World} {bl : List UInt8} {k : Nat} (h : SpreadAt w wr bl k) (n : Nat) : SpreadAt w (wr.drewN n) bl k := ⟨h.blk.drewN n, h.res.drewN n, h.arr.drewN n, ⟨h.bel.os, h.bel.tape, h.bel.output, h.bel.size, h.bel.block⟩⟩

theorem sg_val (x a b c : Nat) (hx : x < 4294967296) :
    bits .xor .u32 (bits .xor .u32 ((rotr x a : Nat) : Int) ((rotr x b : Nat) : Int)) ((x : Int) / ((2 ^ c : Nat) : Int)) = ((rotr x a ^^^ rotr x b ^^^ x / 2 ^ c : Nat) : Int) := by
  have h1 := rotr_lt x a hx
  have h2 := rotr_lt x b hx
  have h3 : rotr x a ^^^ rotr x b < 2 ^ 32 := Nat.xor_lt_two_pow h1 h2
  rw [show (x : Int) / ((2 ^ c : Nat) : Int) = ((x / 2 ^ c : Nat) : Int) by simp, u32_xor_nat _ _ h1 h2, u32_xor_nat _ _ h3 (Nat.lt_of_le_of_lt (Nat.div_le_self _ _) hx)]

theorem word_or (a b c d : Nat) (ha : a < 256) (hb : b < 256) (hc : c < 256) (hd : d < 256) :
    bits .or .u32 (bits .or .u32 (bits .or .u32 ((a : Int) * 16777216) ((b : Int) * 65536)) ((c : Int) * 256)) (d : Int) = ((a * 16777216 + b * 65536 + c * 256 + d : Nat) : Int) := by
  rw [show (a : Int) * 16777216 = ((a * 16777216 : Nat) : Int) by simp, show (b : Int) * 65536 = ((b * 65536 : Nat) : Int) by simp, show (c : Int) * 256 = ((c * 256 : Nat) : Int) by simp]
  rw [u32_or_nat _ _ (by omega) (by omega), nat_join 24 _ _ (by omega) (by omega), u32_or_nat _ _ (by omega) (by omega), nat_join 16 _ _ (by omega) (by omega),
    u32_or_nat _ _ (by omega) (by omega), nat_join 8 _ _ (by omega) (by omega)]

set_option maxRecDepth 100000 in
set_option maxHeartbeats 1000000 in
theorem spread_any (w : World) (bl : List UInt8) (hb : bl.length = 64) :
    Calls Tryd.prog 53 #[.agg (bs bl).toArray] w fun e w' => e = .returned (.agg (ns .u32 (sched bl 64)).toArray) ∧ Below w.heap.size w w' := by
  go_enter Tryd.func53, Tryd.ntmps53
  have hb0 := Blk.new w 54 (bs bl)
  have hB0 : Below w.heap.size w (w.alloc (.cells (bs bl).toArray 54)) := (Below.refl _ w).alloc (Nat.le_refl _) _
  have hz0 : (w.alloc (.cells (bs bl).toArray 54)).heap.size = w.heap.size + 1 := by simp
  go_wp2_with (first | (refine wpList_allocB (o := ⟨some 2, _, _, _, _, _⟩) rfl 82 rfl zero64_info ?_; intro w1 hb1 hg1 hz1) | (refine wpList_allocB (o := ⟨some 3, _, _, _, _, _⟩) rfl 82 rfl zero64_info ?_; intro w2 hb2 hg2 hz2))
  have hs2 : w2.heap.size = w.heap.size + 3 := by omega
  have H0 : SpreadAt w w2 bl 0 := by
    refine ⟨((hb0.grown hg1 (by simp)).grown hg2 (by simp)), ?_, ?_, ?_⟩
    · have h := hb1.grown hg2 (by simp)
      rwa [hz0] at h
    · rw [hz1, hz0] at hb2; exact hb2
    · exact (hB0.grown hg1 (by simp) (by simp)).grown hg2 (by omega) (by simp)
  clear hb0 hB0 hz0 hb1 hg1 hz1 hb2 hg2 hz2 hs2
  go_loopw [10] (fun i wr => ∃ k : Nat, k ≤ 16 ∧ i = .int .i64 k ∧ SpreadAt w wr bl k) (fun i _ => 16 - (intOf i).toNat)
  case atStart => exact ⟨0, by omega, rfl, H0⟩
  case round =>
    obtain ⟨k, hk, rfl, hS⟩ := hrel
    by_cases hlt : k < 16
    · have c0 := hS.blk.cell (bs_at bl (4 * k) (by omega))
      have c1 := hS.blk.cell (bs_at bl (4 * k + 1) (by omega))
      have c2 := hS.blk.cell (bs_at bl (4 * k + 2) (by omega))
      have c3 := hS.blk.cell (bs_at bl (4 * k + 3) (by omega))
      have hw : word bl k = (bl.getD (4 * k) 0).toNat * 16777216 + (bl.getD (4 * k + 1) 0).toNat * 65536 + (bl.getD (4 * k + 2) 0).toNat * 256 + (bl.getD (4 * k + 3) 0).toNat := rfl
      have l0 := (bl.getD (4 * k) 0).toNat_lt
      have l1 := (bl.getD (4 * k + 1) 0).toNat_lt
      have l2 := (bl.getD (4 * k + 2) 0).toNat_lt
      have l3 := (bl.getD (4 * k + 3) 0).toNat_lt
      generalize (bl.getD (4 * k) 0).toNat = b0 at *
      generalize (bl.getD (4 * k + 1) 0).toNat = b1 at *
      generalize (bl.getD (4 * k + 2) 0).toNat = b2 at *
      generalize (bl.getD (4 * k + 3) 0).toNat = b3 at *
      have hw2 := word_or b0 b1 b2 b3 l0 l1 l2 l3
      rw [← hw] at hw2
      have HW := Lib.hid hw2
      have d := hS.arr.cell (ns_at .u32 (pad64 (sched bl k)) k (by rw [pad64_length _ (by rw [sched_length]; omega)]; omega))
      have f := hS.arr.free k
      clear hw hw2
      have q0 : IntKind.i64.wrap (4 * (k : Int)) = 4 * k := IntWalk.i64_in _ (by omega)
      have q1 : IntKind.i64.wrap (4 * (k : Int) + 1) = 4 * k + 1 := IntWalk.i64_in _ (by omega)
      have q2 : IntKind.i64.wrap (4 * (k : Int) + 2) = 4 * k + 2 := IntWalk.i64_in _ (by omega)
      have q3 : IntKind.i64.wrap (4 * (k : Int) + 3) = 4 * k + 3 := IntWalk.i64_in _ (by omega)
      have p4 : (k : Int) < 64 := by omega
      have p0 : 4 * (k : Int) < 64 := by omega
      have p1 : 4 * (k : Int) + 1 < 64 := by omega
      have p2 : 4 * (k : Int) + 2 < 64 := by omega
      have p3 : 4 * (k : Int) + 3 < 64 := by omega
      have g0 : 0 ≤ 4 * (k : Int) := by omega
      have g1 : 0 ≤ 4 * (k : Int) + 1 := by omega
      have g2 : 0 ≤ 4 * (k : Int) + 2 := by omega
      have g3 : 0 ≤ 4 * (k : Int) + 3 := by omega
      have n0 : (4 * (k : Int)).toNat = 4 * k := by omega
      have n1 : (4 * (k : Int) + 1).toNat = 4 * k + 1 := by omega
      have n2 : (4 * (k : Int) + 2).toNat = 4 * k + 2 := by omega
      have n3 : (4 * (k : Int) + 3).toNat = 4 * k + 3 := by omega
      have v0 : IntKind.u32.wrap ((b0 : Int) * 16777216) = (b0 : Int) * 16777216 := by rw [IntKind.wrap_u32']; omega
      have v1 : IntKind.u32.wrap ((b1 : Int) * 65536) = (b1 : Int) * 65536 := by rw [IntKind.wrap_u32']; omega
      have v2 : IntKind.u32.wrap ((b2 : Int) * 256) = (b2 : Int) * 256 := by rw [IntKind.wrap_u32']; omega
      have r0 : IntKind.u32.wrap (b0 : Int) = (b0 : Int) := by rw [IntKind.wrap_u32']; omega
      have r1 : IntKind.u32.wrap (b1 : Int) = (b1 : Int) := by rw [IntKind.wrap_u32']; omega
      have r2 : IntKind.u32.wrap (b2 : Int) = (b2 : Int) := by rw [IntKind.wrap_u32']; omega
      have r3 : IntKind.u32.wrap (b3 : Int) = (b3 : Int) := by rw [IntKind.wrap_u32']; omega
      go_wp2_with fail
      go_still_tail 31, (by kernel_rfl)
      change wpList _ _ _ _ _ wr.drew
      have d' := (show wr.drew.cell? _ = _ from d)
      have f' := (show wr.drew.frozen? _ = _ from f)
      generalize hwd : wr.drew = wd at *
      have HWD := Lib.hid hwd
      clear hwd
      go_wp2_with fail
      have hstep := (hS.drew).step (by omega) HW.out (by rw [if_pos hlt])
      rw [HWD.out] at hstep
      exact ⟨⟨k + 1, by omega, by go_num, hstep⟩, by simp [intOf]; omega⟩
    · obtain rfl : k = 16 := by omega
      clear hlt hk
      obtain ⟨wo, rfl⟩ : ∃ wo : World, wo = wr := ⟨_, rfl⟩
      rw [show ((16 : Nat) : Int) = 16 from rfl]
      go_wp2_with fail
      go_loopw [5] (fun i wr => ∃ k : Nat, 16 ≤ k ∧ k ≤ 64 ∧ i = .int .i64 k ∧ SpreadAt w wr bl k) (fun i _ => 64 - (intOf i).toNat)
      case atStart => exact ⟨16, by omega, by omega, rfl, hS⟩
      case round =>
        obtain ⟨k, hk1, hk2, rfl, hS⟩ := hrel
        by_cases hlt : k < 64
        · have hl := sched_length bl k
          have hx : ∀ j, j < k → wr.cell? ⟨w.heap.size + 1 + 1, j, none⟩ = some (.int .u32 (((sched bl k).getD j 0 : Nat) : Int)) := fun j hj => by
            have := hS.arr.cell (ns_at .u32 (pad64 (sched bl k)) j (by rw [pad64_length _ (by omega)]; omega))
            rwa [pad64_get _ _ (by omega)] at this
          have e15 : IntKind.i64.wrap ((k : Int) - 15) = ((k - 15 : Nat) : Int) := by rw [IntWalk.i64_in _ (by omega)]; omega
          have e2 : IntKind.i64.wrap ((k : Int) - 2) = ((k - 2 : Nat) : Int) := by rw [IntWalk.i64_in _ (by omega)]; omega
          have e7 : IntKind.i64.wrap ((k : Int) - 7) = ((k - 7 : Nat) : Int) := by rw [IntWalk.i64_in _ (by omega)]; omega
          have e16 : IntKind.i64.wrap ((k : Int) - 16) = ((k - 16 : Nat) : Int) := by rw [IntWalk.i64_in _ (by omega)]; omega
          have c15 := hx (k - 15) (by omega)
          have c2 := hx (k - 2) (by omega)
          have c7 := hx (k - 7) (by omega)
          have c16 := hx (k - 16) (by omega)
          have b15 : ((k - 15 : Nat) : Int) < 64 := by omega
          have b2 : ((k - 2 : Nat) : Int) < 64 := by omega
          have b7 : ((k - 7 : Nat) : Int) < 64 := by omega
          have b16 : ((k - 16 : Nat) : Int) < 64 := by omega
          have b0 : (k : Int) < 64 := by omega
          have hsl := sched_lt bl k
          have l15 := getD_lt _ hsl (k - 15)
          have l2 := getD_lt _ hsl (k - 2)
          have l7 := getD_lt _ hsl (k - 7)
          have l16 := getD_lt _ hsl (k - 16)
          have hext : ext (sched bl k) k = (sg1 ((sched bl k).getD (k - 2) 0) + (sched bl k).getD (k - 7) 0 + sg0 ((sched bl k).getD (k - 15) 0) + (sched bl k).getD (k - 16) 0) % 4294967296 := rfl
          have hf := hS.arr.free k
          have hd := hS.arr.cell (ns_at .u32 (pad64 (sched bl k)) k (by rw [pad64_length _ (by omega)]; omega))
          clear hx hl hsl
          generalize (sched bl k).getD (k - 15) 0 = x15 at *
          generalize (sched bl k).getD (k - 2) 0 = x2 at *
          generalize (sched bl k).getD (k - 7) 0 = x7 at *
          generalize (sched bl k).getD (k - 16) 0 = x16 at *
          have HX := Lib.hid hext
          clear hext
          have z1 : bits .xor .u32 (bits .xor .u32 ((rotr x15 7 : Nat) : Int) ((rotr x15 18 : Nat) : Int)) ((x15 : Int) / 8) = ((sg0 x15 : Nat) : Int) := sg_val x15 7 18 3 l15
          have z2 : bits .xor .u32 (bits .xor .u32 ((rotr x2 17 : Nat) : Int) ((rotr x2 19 : Nat) : Int)) ((x2 : Int) / 1024) = ((sg1 x2 : Nat) : Int) := sg_val x2 17 19 10 l2
          go_wp2_with fail
          go_quiet (fail)
          go_wp2_with fail
          refine (right_any _ x15 7 7 rfl l15 (by decide) (by decide)).mono ?_
          rintro e w' ⟨rfl, rfl⟩
          go_wp2_with fail
          refine (right_any _ x15 18 18 rfl l15 (by decide) (by decide)).mono ?_
          rintro e w' ⟨rfl, rfl⟩
          go_wp2_with fail
          refine (right_any _ x2 17 17 rfl l2 (by decide) (by decide)).mono ?_
          rintro e w' ⟨rfl, rfl⟩
          go_wp2_with fail
          refine (right_any _ x2 19 19 rfl l2 (by decide) (by decide)).mono ?_
          rintro e w' ⟨rfl, rfl⟩
          go_wp2_with fail
          have HF := Lib.hid hf
          have HD := Lib.hid hd
          clear z1 z2 hf hd
          generalize hwx : wr.drewN nq = wx at *
          have HWX := Lib.hid hwx
          clear hwx
          have c7' : wx.cell? ⟨w.heap.size + 1 + 1, k - 7, none⟩ = some (.int .u32 x7) := by rw [← HWX.out]; exact c7
          have c16' : wx.cell? ⟨w.heap.size + 1 + 1, k - 16, none⟩ = some (.int .u32 x16) := by rw [← HWX.out]; exact c16
          clear c7 c16 c15 c2
          go_still_tail 15, (by kernel_rfl)
          change wpList _ _ _ _ _ wx.drew
          have d' : wx.drew.cell? ⟨w.heap.size + 1 + 1, k, none⟩ = some (.int .u32 (((pad64 (sched bl k)).getD k 0 : Nat) : Int)) := by rw [← HWX.out]; exact HD.out
          have f' : wx.drew.frozen? ⟨w.heap.size + 1 + 1, k, none⟩ = false := by rw [← HWX.out]; exact HF.out
          generalize hwd : wx.drew = wd at *
          have HWD := Lib.hid hwd
          clear hwd
          go_wp2_with fail
          have hstep := ((hS.drewN nq).drew).step hlt (v := ((sg1 x2 : Nat) + (x7 : Int) + (sg0 x15 : Nat) + x16) % 4294967296) (x := (sg1 x2 + x7 + sg0 x15 + x16) % 4294967296) (by simp) (by rw [if_neg (by omega), HX.out])
          rw [HWX.out, HWD.out] at hstep
          exact ⟨⟨k + 1, by omega, by omega, by go_num, hstep⟩, by simp [intOf]; omega⟩
        · obtain rfl : k = 64 := by omega
          have hl := sched_length bl 64
          have hfull := pad64_full _ hl
          have ha := hS.arr
          rw [hfull] at ha
          have hr := hS.res
          have hB := hS.bel
          have hlt2 := ha.lt
          have HL := Lib.hid hl
          have HI := Lib.hid (show (Tryd.prog.info? 82).map (·.size) = some (ns .u32 (sched bl 64)).length by rw [info64, ns_length, hl])
          have HZ := Lib.hid (show (ns .u32 zero64).length = (ns .u32 (sched bl 64)).length by rw [ns_length, ns_length, hl]; rfl)
          clear hfull hS hl HL
          generalize hp64 : sched bl 64 = p64 at *
          have HP := Lib.hid hp64
          clear hp64
          have HO := ns_one .u32 p64
          go_wp2_with (first | ((with_reducible refine wpList_loadB (o := ⟨some 88, _, _, _, _, _⟩) ?_ 82 (.tmp 3) ?_ ?_ ha Tryd.underlying82 ?_ HI.out ?_); rfl; rfl; rfl; rfl) | ((with_reducible refine wpList_storeB (o := ⟨none, .store 82 (.tmp 2) (.tmp 88), _, _, _, _⟩) ?_ 82 (.tmp 2) (.tmp 88) ?_ ?_ ?_ hr HI.out HZ.out HO ?_); rfl; rfl; rfl; rfl; intro w5 hb5 hg5 hz5))
          try simp only [Exit.inBlock, Exit.then]
          refine bodyPost_blk hb5 Tryd.underlying82 HI.out rfl rfl rfl rfl ⟨by rw [HP.out], ?_⟩
          exact hB.grown hg5 hB.size (fun k e => by cases e; omega)
end Go.Proofs.YtoclahcibilbhaaDoor
