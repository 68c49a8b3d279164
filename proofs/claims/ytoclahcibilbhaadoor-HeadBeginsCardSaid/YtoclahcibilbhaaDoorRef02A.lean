/-
  The walks of the reference of layer 2: turned, Padded, begin.
-/
import Derived.Test.YtoclahcibilbhaaDoorShaF
namespace Go.Proofs.YtoclahcibilbhaaDoor
open Go.RowKit

theorem rot_val2 (x n : Nat) (hx : x < 4294967296) :
    bits .or .u32 ((x : Int) / 2 ^ n) (IntKind.u32.wrap ((x : Int) * 2 ^ (32 - n))) = ((rotr x n : Nat) : Int) := by
  have e1 : IntKind.u32.wrap ((x : Int) * 2 ^ (32 - n)) = ((x * 2 ^ (32 - n) % 4294967296 : Nat) : Int) := by
    rw [IntKind.wrap_u32']; simp
  have e2 : (x : Int) / 2 ^ n = ((x / 2 ^ n : Nat) : Int) := by simp
  rw [e1, e2, u32_or_nat _ _ (Nat.lt_of_le_of_lt (Nat.div_le_self _ _) hx) (Nat.mod_lt _ (by decide))]
  rfl

theorem Rd.byteAt {w : World} {b off n c : Nat} {l : List UInt8} (h : Rd w (some ⟨b, off, none⟩) n c l) {k : Nat} (hk : k < l.length) : w.cell? ⟨b, off + k, none⟩ = some (.int .u8 (l[k].toNat : Int)) := by
  rw [← Addr.add_lit]
  exact h.cell _ rfl k _ (by simp [bs, hk])

/-- what turned hands back -/
def TurnPost (x n : Nat) (w : World) (e : Ending) (w' : World) : Prop := e = .returned (.int .u32 (rotr x n)) ∧ ∃ m, w' = w.drewN m

set_option maxRecDepth 100000 in
set_option maxHeartbeats 400000 in
theorem turned_any (w : World) (x n : Nat) (hx : x < 4294967296) (h1 : 1 ≤ n) (h2 : n ≤ 31) :
    Calls Tryd.prog 60 #[.int .u32 x, .int .i64 n] w (TurnPost x n w) := by
  have HR := Lib.hid (rot_val2 x n hx)
  have e0 : IntKind.i64.wrap (32 - (n : Int)) = ((32 - n : Nat) : Int) := by rw [IntWalk.i64_in _ (by omega)]; omega
  have e1 : min n 32 = n := by omega
  have e2 : min (32 - n) 32 = 32 - n := by omega
  have b1 : 32 - n < 32 := by omega
  go_enter Tryd.func60, Tryd.ntmps60
  go_wp2_with fail
  go_quiet (fail)
  go_wp2_with fail
  go_ret
  exact ⟨ret_int HR.out, nq, rfl⟩

theorem turned_q (w : World) (k x n : Nat) (m : Int) (hm : m = n) (hx : x < 4294967296) (h1 : 1 ≤ n) (h2 : n ≤ 31) :
    Calls Tryd.prog 60 #[.int .u32 x, .int .i64 m] (w.drewN k) fun e w'' => e = .returned (.int .u32 (rotr x n)) ∧ ∃ j, w'' = w.drewN j := by
  subst hm
  exact Calls.quiet_of (turned_any _ x n hx h1 h2)

set_option maxRecDepth 100000 in
set_option maxHeartbeats 400000 in
theorem begin_any (w : World) :
    Calls Tryd.prog 56 #[] w fun e w' => e = .returned (.agg (ns .u32 H8.init.list).toArray) ∧ Below w.heap.size w w' := by
  have hbt : Tryd.prog.built 53 [(0, .int .u32 1779033703), (1, .int .u32 3144134277), (2, .int .u32 1013904242), (3, .int .u32 2773480762), (4, .int .u32 1359893119), (5, .int .u32 2600822924), (6, .int .u32 528734635), (7, .int .u32 1541459225)] = some (ns .u32 H8.init.list).toArray := by kernel_rfl
  have HBT := Lib.hid hbt
  have H1 := Lib.hid (show (Tryd.prog.info? 53).map (·.size) = some (ns .u32 H8.init.list).length by rw [info8, ns_length, H8.list_length])
  have H2 := Lib.hid (show (ns .u32 zero8).length = (ns .u32 H8.init.list).length by rw [ns_length, ns_length, H8.list_length]; decide)
  have H3 := ns_one .u32 H8.init.list
  clear hbt
  generalize ns .u32 H8.init.list = hi at *
  go_enter Tryd.func56, Tryd.ntmps56
  go_wp2_with (first | ((with_reducible refine wpList_allocB (o := ⟨some 0, _, _, _, _, _⟩) ?_ 53 ?_ zero8_info ?_); rfl; rfl; intro w1 hr hg1 hz1) | ((with_reducible refine wpList_buildI (dst := some 1) HBT.out ?_ ?_); rfl) | ((with_reducible refine wpList_storeB (o := ⟨none, .store 53 (.tmp 0) (.tmp 1), _, _, _, _⟩) ?_ 53 (.tmp 0) (.tmp 1) ?_ ?_ ?_ hr H1.out H2.out H3 ?_); rfl; rfl; rfl; rfl; intro w5 hb5 hg5 hz5))
  try simp only [Exit.inBlock, Exit.then]
  refine bodyPost_blk hb5 Tryd.underlying53 H1.out rfl rfl rfl rfl ⟨rfl, ?_⟩
  exact ((Below.refl _ w).grown hg1 (Nat.le_refl _) (fun k e => by cases e)).grown hg5 (by omega) (fun k e => by cases e; omega)

/-- what the loops of Padded carry: the message so far is q -/
structure PadAt (w wr : World) (a : Option Addr) (n c : Nat) (q : List UInt8) : Prop where
  own : Own wr w.heap.size (.slice a n c) q
  len : q.length = n
  bel : Below w.heap.size w wr

theorem PadAt.snoc {w wr w1 : World} {a a1 : Option Addr} {n n1 c c1 : Nat} {y : Obj} {q : List UInt8} {x : UInt8} (h : PadAt w wr a n c q) (hO : Own w1 w.heap.size (.slice a1 n1 c1) (q ++ [x])) (hg : (wr.alloc y).grownBy w1 (Value.slice a n c).ownBlock) : PadAt w w1 a1 n1 c1 (q ++ [x]) := by
  refine ⟨hO, hO.rd.len, ?_⟩
  exact (h.bel.alloc h.bel.size y).grown hg (by have := h.bel.size; simp; omega) (fun j e => (World.ownsRow.lt h.own j e).1)

theorem eight_step (n s : Nat) (h : s < 8) : (eight n).take (7 - s) ++ [UInt8.ofNat (n / 2 ^ (8 * s))] = (eight n).take (8 - s) := by
  have : s = 0 ∨ s = 1 ∨ s = 2 ∨ s = 3 ∨ s = 4 ∨ s = 5 ∨ s = 6 ∨ s = 7 := by omega
  rcases this with rfl | rfl | rfl | rfl | rfl | rfl | rfl | rfl <;> simp [eight]
theorem padAt_end {w wr : World} {a : Option Addr} {n c : Nat} {q q' : List UInt8} (h : PadAt w wr a n c q) (e : q = q') : PadAt w wr a n c q' := e ▸ h

set_option maxRecDepth 100000 in
set_option maxHeartbeats 2000000 in
theorem padded_any (w : World) (a : Option Addr) (n c : Nat) (l : List UInt8) (hr : Rd w a n c l) (hn : n ≤ 1099511627776) :
    Calls Tryd.prog 55 #[.slice a n c] w fun e w' => ∃ a' n' c', e = .returned (.slice a' n' c') ∧ PadAt w w' a' n' c' (l ++ padOf l.length) := by
  have hl := Lib.hid hr.len
  go_enter Tryd.func55, Tryd.ntmps55
  go_wp2_with (first | (at_builtin; refine wpList_app rfl (.tmp 6) (.tmp 7) rfl (base := w.heap.size) (v := .slice none 0 0) (q := []) rfl (Own.nil0 _ _) rfl hr (by simp; omega) (Nat.le_refl _) ?_; intro a1 c1 w1 hO1 hg1; have hP1 : PadAt w w1 a1 n c1 l := ⟨by simpa using hO1, hl.out, (Below.refl _ _).grown hg1 (Nat.le_refl _) (fun k e => (by cases e))⟩; clear hO1 hg1) | (at_builtin; refine wpList_app rfl (.tmp 9) (.tmp 10) rfl (v := .slice a1 n c1) rfl (World.ownsRow.alloc hP1.own _) rfl (Rd.lit w1 [128] 1 rfl (by decide)) (by have := hP1.len; omega) (by have := hP1.bel.size; simp; omega) ?_; intro a2 c2 w2 hO2 hg2; have hP2 := hP1.snoc hO2 hg2))
  clear hO2 hg2 hP1
  obtain ⟨z, hz⟩ : ∃ z, z = (119 - l.length % 64) % 64 := ⟨_, rfl⟩
  have HZ := Lib.hid hz
  have zb : z < 64 := by omega
  clear hz
  go_loopw [3] (fun v wr => ∃ (k : Nat) (a' : Option Addr) (m c' : Nat) (q : List UInt8), k ≤ z ∧ v = .slice a' m c' ∧ PadAt w wr a' m c' q ∧ Hid (q = l ++ 128 :: List.replicate k 0) ∧ Hid (m = l.length + 1 + k)) (fun v _ => 1099511627776 + 100 - sliceLen v)
  case atStart => exact ⟨0, a2, l.length + 1, c2, _, by omega, rfl, hP2, rfl, rfl⟩
  case round =>
    obtain ⟨k, a', m, c', q, hk, rfl, hP, hq, hm⟩ := hrel
    have hm2 : m ≤ 1099511627776 + 65 := by have := hm.out; have := hl.out; omega
    obtain ⟨u, hu⟩ : ∃ u, u = m % 64 := ⟨_, rfl⟩
    have e1 : ((m : Int)) % 64 = (u : Int) := by omega
    have e2 : ((m : Int)).tmod 64 = (u : Int) := (Int.tmod_eq_emod_of_nonneg (by omega)).trans e1
    by_cases hlt : k < z
    · have e3 : ((u : Int) != 56) = true := by have := hm.out; have := HZ.out; simp; omega
      have HU := Lib.hid hu
      clear hu
      go_wp2_with (at_builtin; refine wpList_app rfl (.tmp 16) (.tmp 17) rfl (v := .slice a' m c') rfl (World.ownsRow.alloc hP.own _) rfl (Rd.lit wr [0] 1 rfl (by decide)) (by have := hP.len; omega) (by have := hP.bel.size; simp; omega) ?_; intro a3 c3 w3 hO3 hg3; have hP3 := hP.snoc hO3 hg3; rw [hP.len] at hP3)
      have HL := Lib.hid hP.len
      rw [HL.out]
      refine ⟨⟨k + 1, _, _, _, _, by omega, rfl, hP3, ?_, ?_⟩, ?_⟩
      · show _ = _
        rw [hq.out, List.append_assoc, List.cons_append, ← List.replicate_succ']
      · show _ = _
        rw [hm.out]; omega
      · simp; omega
    · obtain rfl : k = z := by omega
      have e3 : ((u : Int) != 56) = false := by have := hm.out; have := HZ.out; simp; omega
      have HU := Lib.hid hu
      clear hu hlt hk
      obtain ⟨wo, rfl⟩ : ∃ wo : World, wo = wr := ⟨_, rfl⟩
      have hll := hl.out
      have hnb : (n : Int) * 8 < 18446744073709551616 := by omega
      go_wp2_with fail
      rw [show (n : Int) * 8 = ((n * 8 : Nat) : Int) by omega]
      have hN : n * 8 < 18446744073709551616 := by omega
      generalize hNe : n * 8 = N at *
      have HN := Lib.hid hNe
      have HLL := Lib.hid hll
      clear hNe hnb hll e1 e2 e3 hP2
      go_loopw [3, 5] (fun v i wr => ∃ (r : Nat) (a' : Option Addr) (m c' : Nat) (p : List UInt8), r ≤ 8 ∧ v = .slice a' m c' ∧ i = .int .i64 ((r : Int) - 1) ∧ PadAt w wr a' m c' p ∧ Hid (p = q ++ (eight N).take (8 - r)) ∧ m ≤ 1099511627776 + 65 + 8 - r) (fun _ i _ => (intOf i + 1).toNat)
      case atStart => exact ⟨8, a', m, c', q, by omega, rfl, rfl, hP, by simp [Hid], by omega⟩
      case round =>
        obtain ⟨r, a4, m4, c4, p, hr8, rfl, rfl, hP4, hp4, hm4⟩ := hrel
        cases r with
        | zero =>
          have hfin : l ++ padOf l.length = p := by
            rw [hp4.out, hq.out, padOf, be8_eq, ← HZ.out, List.append_assoc]
            have e : 8 * l.length % 18446744073709551616 = N := by have := HN.out; have := HLL.out; omega
            rw [e]
            simp [List.take_of_length_le, eight]
          have HF := Lib.hid hfin
          clear hfin
          go_wp2_with fail
          go_ret
          exact ⟨a4, m4, c4, rfl, by rw [HF.out]; exact hP4⟩
        | succ s =>
          have e0 : ((s + 1 : Nat) : Int) - 1 = (s : Int) := by omega
          rw [e0]
          have q2 : (8 * (s : Int)).toNat = 8 * s := by omega
          have q3 : min (8 * s) 64 = 8 * s := by omega
          have q5 : 0 ≤ 8 * (s : Int) := by omega
          have v0 : (N : Int) / 2 ^ (8 * s) % 256 = ((UInt8.ofNat (N / 2 ^ (8 * s))).toNat : Int) := by simp
          have hlit : Rd (wr.alloc (.cells #[.int .u8 ((UInt8.ofNat (N / 2 ^ (8 * s))).toNat : Int)] 5)) (some ⟨wr.heap.size, 0, none⟩) 1 1 [UInt8.ofNat (N / 2 ^ (8 * s))] := Rd.lit wr [UInt8.ofNat (N / 2 ^ (8 * s))] 1 rfl (by decide)
          have HS := Lib.hid (eight_step N s (by omega))
          generalize UInt8.ofNat (N / 2 ^ (8 * s)) = x at *
          clear e0
          go_wp2_with (at_builtin; refine wpList_app rfl (.tmp 27) (.tmp 33) rfl (v := .slice a4 m4 c4) rfl (World.ownsRow.alloc hP4.own _) rfl hlit (by have := hP4.len; omega) (by have := hP4.bel.size; simp; omega) ?_; intro a5 c5 w5 hO5 hg5; have hP5 := hP4.snoc hO5 hg5)
          refine ⟨⟨s, _, _, _, _, by omega, rfl, rfl, hP5, ?_, by have := hP4.len; omega⟩, by simp [intOf]⟩
          show _ = _
          rw [← HS.out, hp4.out, show 8 - (s + 1) = 7 - s by omega, List.append_assoc]
end Go.Proofs.YtoclahcibilbhaaDoor
