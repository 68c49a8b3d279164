/-
  The walks of the reference of layer 1, reading: ReadCount, ReadBytes, ReadDigest.
-/
import Derived.Test.YtoclahcibilbhaaGreatOctD
namespace Go.Proofs.YtoclahcibilbhaaGreat
open Go.RowKit
set_option maxRecDepth 100000

set_option maxRecDepth 100000 in
set_option maxHeartbeats 4000000 in
theorem readCount_at (w : World) (b off : Nat) (n c : Nat) (l : List UInt8) (hr : Rd w (some ⟨b, off, none⟩) n c l) :
    Calls Tryz.prog 96 #[.slice (some ⟨b, off, none⟩) n c] w (CntPost l w) := by
  have hcap := hr.cap
  go_enter Tryz.func96, Tryz.ntmps96
  go_wp2_with fail
  go_loop [5, 6, 7] (fun s q i => ∃ k m p : Nat, k ≤ 5 ∧ i = .int .i64 k ∧ s = .int .i64 m ∧ q = .int .i64 p ∧ CntAt l k m ∧ Hid (p = 128 ^ k) ∧ k ≤ n) (fun _ _ i => 5 - (intOf i).toNat)
  case atStart => exact ⟨0, 0, 1, Nat.zero_le _, rfl, rfl, rfl, CntAt.zero l, rfl, Nat.zero_le _⟩
  case round =>
    obtain ⟨k, m, p, hk, rfl, rfl, rfl, hC, hp, hkn⟩ := hrel
    by_cases h5 : k < 5
    · have hp2 : p ≤ 268435456 := by
        rw [hp.out]
        exact Nat.le_trans (Nat.pow_le_pow_right (by omega) (show k ≤ 4 by omega)) (by decide)
      have hm : m < p := by rw [hp.out]; exact hC.lt
      by_cases hlt : k < n
      · have hkl : k < l.length := by rw [hr.len]; omega
        have hcell := hr.byteC hkl
        have hx : l[k].toNat < 256 := l[k].toNat_lt
        have HStep := Lib.hid (hC.step h5 hkl)
        have HBad := Lib.hid (hC.bad h5 hkl)
        have HGood := Lib.hid (hC.good h5 hkl)
        have hq1 : l[k].toNat % 128 * 128 ^ k ≤ 127 * p := by rw [hp.out]; exact Nat.mul_le_mul_right _ (by omega)
        have hq2 : ((l[k].toNat : Nat) : Int) % 128 * (p : Int) = ((l[k].toNat % 128 * 128 ^ k : Nat) : Int) := by rw [hp.out]; simp
        have hp3 : Hid (p * 128 = 128 ^ (k + 1)) := Lib.hid (by rw [hp.out, Nat.pow_succ])
        have hq0 : Hid (l[k].toNat = 0 → l[k].toNat % 128 * 128 ^ k = 0) := Lib.hid (by intro h; rw [h]; simp)
        generalize l[k].toNat % 128 * 128 ^ k = q at *
        generalize l[k].toNat = x at *
        by_cases h128 : 128 ≤ x
        · have hstep := HStep.out h128
          clear HStep HBad HGood
          go_wp2
          go_round
          case rel => exact ⟨k + 1, m + q, p * 128, by omega, by go_num, by go_num, by go_num, hstep, hp3.out, by omega⟩
          case measure => simp [intOf]; omega
        · have hbad := Lib.hid (HBad.out (by omega))
          have hgood := Lib.hid (HGood.out (by omega))
          clear HStep HBad HGood
          have hk0 : (decide (0 < (k : Int))) = decide (0 < k) := by simp
          by_cases hk1 : 0 < k
          · by_cases hx0 : x = 0
            · have hb1 : ((x : Int) == 0) = true := by simp; omega
              have HX := Lib.hid hx0
              clear hx0
              go_wp2
              go_ret3
              exact CntPost.mk (hbad.out (.inl ⟨hk1, HX.out⟩)) rfl rfl rfl
            · have hb1 : ((x : Int) == 0) = false := by simp; omega
              by_cases hbig : 2147483647 < m + q
              · go_wp2
                go_ret3
                exact CntPost.mk (hbad.out (.inr hbig)) rfl rfl rfl
              · go_wp2
                go_ret3
                exact CntPost.mk (hgood.out (by omega)) (by omega) (by omega) rfl
          · by_cases hbig : 2147483647 < m + q
            · go_wp2
              go_ret3
              exact CntPost.mk (hbad.out (.inr hbig)) rfl rfl rfl
            · go_wp2
              go_ret3
              exact CntPost.mk (hgood.out (by omega)) (by omega) (by omega) rfl
      · have hfin := Lib.hid (hC.fin h5 (by rw [hr.len]; omega))
        go_wp2
        go_ret3
        exact CntPost.mk hfin.out rfl rfl rfl
    · obtain rfl : k = 5 := by omega
      have hfin := Lib.hid hC.five
      go_wp2
      go_ret3
      exact CntPost.mk hfin.out rfl rfl rfl

set_option maxRecDepth 100000 in
set_option maxHeartbeats 1000000 in
theorem readCount_zero (w : World) (a : Option Addr) (c : Nat) :
    Calls Tryz.prog 96 #[.slice a 0 c] w (CntPost [] w) := by
  have hfin : CntPost [] w (.returned (.tuple #[.int .i64 0, .int .i64 0, .int .i64 10])) w := CntPost.mk (a := 0) (b := 0) (c := 10) rfl rfl rfl rfl
  have HF := Lib.hid hfin
  clear hfin
  go_enter Tryz.func96, Tryz.ntmps96
  go_wp2_with fail
  go_loop [5, 6, 7] (fun s q i => i = .int .i64 0) (fun _ _ i => 0)
  case atStart => rfl
  case round =>
    subst hrel
    go_wp2
    go_ret3
    exact HF.out

theorem readCount_any (w : World) (a : Option Addr) (n c : Nat) (l : List UInt8) (hr : Rd w a n c l) :
    Calls Tryz.prog 96 #[.slice a n c] w (CntPost l w) := by
  by_cases hn : n = 0
  · subst hn
    obtain rfl : l = [] := List.eq_nil_of_length_eq_zero hr.len
    exact readCount_zero w a c
  · obtain ⟨b, off, rfl, _⟩ := hr.at (by omega)
    exact readCount_at w b off n c l hr

/-- what ReadBytes hands back -/
def RBPost (l : List UInt8) (w : World) (e : Ending) (w' : World) : Prop :=
  e = .returned (.tuple #[.string (str (rdB l).1), .int .i64 ((rdB l).2.1 : Int), .int .i64 ((rdB l).2.2 : Int)]) ∧ w = w'

set_option maxRecDepth 100000 in
set_option maxHeartbeats 1000000 in
theorem readBytes_any (w : World) (a : Option Addr) (n c : Nat) (l : List UInt8) (h2 : Rd w a n c l) :
    Calls Tryz.prog 98 #[.slice a n c] w (RBPost l w) := by
  have hl := Lib.hid h2.len
  have hcap := h2.cap
  obtain ⟨b1, b2, b3, b4, b5⟩ := cnt_le l 0 0 (by omega)
  have hmax : n ≤ 9223372036854775807 := by have := h2.max; have := h2.cap; unfold maxLen at *; omega
  obtain ⟨x, y, z, hcnt⟩ : ∃ x y z, cnt 0 0 l = (x, y, z) := ⟨_, _, _, rfl⟩
  have hB : rdB l = if z ≠ 0 then ([], 0, z) else if 65536 < x then ([], 0, 11) else if l.length < y + x then ([], 0, 10) else ((l.drop y).take x, y + x, 0) := by
    unfold rdB; rw [hcnt]
  rw [hcnt] at b1 b2 b3 b4 b5
  simp only at b1 b2 b3 b4 b5
  have HC := Lib.hid hcnt
  clear hcnt
  have fin : ∀ p q s, rdB l = (p, q, s) → RBPost l w (.returned (.tuple #[.string (str p), .int .i64 q, .int .i64 s])) w := fun p q s e => by
    unfold RBPost; rw [e]; exact ⟨rfl, rfl⟩
  have HF := Lib.hid fin
  have H4 := Lib.hid b4
  have HRB := Lib.hid hB
  clear fin b4 hB
  have hyl : y ≤ n := by have := hl.out; omega
  by_cases hz : z = 0
  · subst hz
    by_cases hbig : 65536 < x
    · go_enter Tryz.func98, Tryz.ntmps98
      go_wp2_with fail
      refine (readCount_any w a n c l h2).mono ?_
      rintro e w' ⟨rfl, rfl⟩
      rw [HC.out]
      go_wp2_with fail
      go_ret3
      exact HF.out [] 0 11 (by rw [HRB.out, if_neg (by simp), if_pos hbig])
    · by_cases hlong : n - y < x
      · go_enter Tryz.func98, Tryz.ntmps98
        go_wp2_with fail
        refine (readCount_any w a n c l h2).mono ?_
        rintro e w' ⟨rfl, rfl⟩
        rw [HC.out]
        go_wp2_with fail
        go_ret3
        exact HF.out [] 0 10 (by rw [HRB.out, if_neg (by simp), if_neg hbig, if_pos (by have := hl.out; omega)])
      · by_cases hcy : c = y
        · subst hcy
          obtain rfl : x = 0 := by omega
          have hconv := conv_zero w a 0
          have hx0 := HRB.out
          rw [if_neg (by simp), if_neg (by simp), if_neg (by have := hl.out; omega)] at hx0
          have HX := Lib.hid hx0
          clear hx0
          go_enter Tryz.func98, Tryz.ntmps98
          go_wp2_with fail
          refine (readCount_any w a n c l h2).mono ?_
          rintro e w' ⟨rfl, rfl⟩
          rw [HC.out]
          go_wp2_with fail
          go_ret3
          exact HF.out [] c 0 (by rw [HX.out]; simp)
        · have hconv := (h2.cut y (y + x) (by omega) (by omega) hcy).conv
          rw [Nat.add_sub_cancel_left] at hconv
          have hx0 := HRB.out
          rw [if_neg (by simp), if_neg hbig, if_neg (by have := hl.out; omega)] at hx0
          have HX := Lib.hid hx0
          clear hx0
          go_enter Tryz.func98, Tryz.ntmps98
          go_wp2_with fail
          refine (readCount_any w a n c l h2).mono ?_
          rintro e w' ⟨rfl, rfl⟩
          rw [HC.out]
          go_wp2_with fail
          go_ret3
          exact HF.out _ _ 0 HX.out
  · have hzz : ((z : Int) != 0) = true := by simp; omega
    have h0 := H4.out hz
    obtain ⟨rfl, rfl⟩ := h0
    go_enter Tryz.func98, Tryz.ntmps98
    go_wp2_with fail
    refine (readCount_any w a n c l h2).mono ?_
    rintro e w' ⟨rfl, rfl⟩
    rw [HC.out]
    go_wp2_with fail
    go_ret3
    exact HF.out [] 0 z (by rw [HRB.out, if_pos hz])

/-- what ReadDigest hands back -/
def RDPost (l : List UInt8) (w : World) (e : Ending) (w' : World) : Prop :=
  e = .returned (.tuple #[.agg (bs (rdD l).1).toArray, .int .i64 ((rdD l).2.1 : Int), .int .i64 ((rdD l).2.2 : Int)]) ∧ Below w.heap.size w w'

theorem results_digest3 {fn : Func} {p t u : Tmp} (h : fn.results = #[.cell p 25, .tmp t, .tmp u]) (tmps : Array Value) (w : World) (g : Nat) (x : TypeId) (ds : List UInt8) (hd : ds.length = 32)
    (hp : tmps.getD p undef = .pointer (some ⟨g, 0, none⟩)) (hg : w.heap[g]? = some (.cells (bs ds).toArray x (0, 0))) :
    (results fn tmps).run Tryz.prog w = .ok (.tuple #[.agg (bs ds).toArray, tmps.getD t undef, tmps.getD u undef]) w := by
  have hp' : tmps[p]?.getD undef = .pointer (some ⟨g, 0, none⟩) := by simpa using hp
  simp [results, h, hp', asAddr, run_loadVar_row w g x 25 _ (0, 0) _ hg Tryz.underlying25 rfl (by rw [info_digest]; simp [bs_length, hd])]

set_option maxRecDepth 100000 in
set_option maxHeartbeats 1000000 in
theorem readDigest_short (w : World) (a : Option Addr) (n c : Nat) (hn : n < 32) :
    Calls Tryz.prog 99 #[.slice a n c] w fun e w' => e = .returned (.tuple #[.agg (bs zero32).toArray, .int .i64 0, .int .i64 10]) ∧ Below w.heap.size w w' := by
  go_enter Tryz.func99, Tryz.ntmps99
  go_wp2_with (first
    | (refine wpList_allocD (o := ⟨some 2, _, _, _, _, _⟩) rfl rfl ?_; intro w1 hd1 hg1 hs1)
    | (refine wpList_allocD (o := ⟨some 5, _, _, _, _, _⟩) rfl rfl ?_; intro w2 hd2 hg2 hs2; have hd12 := (hg2.block _ (lt_of_block hd1) (by simp)).trans hd1; rw [hs1] at hd2)
    | (refine wpList_digest rfl (.tmp 5) rfl rfl zero32_length hd2 ?_)
    | (refine wpList_storeD rfl (.tmp 2) (.tmp 10) rfl rfl rfl hd12 zero32_length zero32_length ?_; intro w3 hd3 hg3 hs3))
  refine bodyPost_ret (results_digest3 rfl _ _ _ _ _ zero32_length rfl hd3) rfl ⟨rfl, ?_⟩
  exact (((Below.refl _ _).grown hg1 (Nat.le_refl _) (by simp)).grown hg2 (by omega) (by simp)).grown hg3 (by omega) (fun k e => by cases e; exact Nat.le_refl _)

/-- the digest variable after k rounds -/
structure DigAt (l : List UInt8) (D : Nat) (w wr : World) (k : Nat) : Prop where
  blk : wr.heap[D]? = some (.cells (bs (l.take k ++ zero32.drop k)).toArray 25 (0, 0))
  below : Below D w wr
  size : wr.heap.size = w.heap.size

theorem DigAt.len {l : List UInt8} {k : Nat} (hl : 32 ≤ l.length) (hk : k ≤ 32) : (l.take k ++ zero32.drop k).length = 32 := by
  simp [zero32_length]; omega

theorem DigAt.cell {l : List UInt8} {D : Nat} {w wr : World} {k : Nat} (h : DigAt l D w wr k) (hl : 32 ≤ l.length) (hk : k < 32) : (∃ v, wr.cell? ⟨D, k, none⟩ = some v) ∧ wr.frozen? ⟨D, k, none⟩ = false := by
  have hlen := DigAt.len (l := l) hl (show k ≤ 32 by omega)
  refine ⟨?_, frozen_of_row wr D k _ _ h.blk⟩
  rw [cell_of_row wr D k _ _ (0, 0) h.blk]
  exact ⟨_, by rw [List.getElem?_toArray, List.getElem?_eq_getElem (by rw [bs_length, hlen]; omega)]⟩

theorem DigAt.step {l : List UInt8} {D : Nat} {w wr : World} {k : Nat} (h : DigAt l D w wr k) (hl : 32 ≤ l.length) (hk : k < 32) : DigAt l D w (wr.setCell ⟨D, k, none⟩ (.int .u8 (l[k].toNat : Int))) (k + 1) := by
  refine ⟨?_, h.below.setCell (p := ⟨D, k, none⟩) (Nat.le_refl _) _, by rw [← h.size]; simp [World.setCell]⟩
  rw [heap_setCell_same wr D k _ _ _ h.blk]
  congr 2
  apply Array.ext'
  have hz : zero32.drop k = 0 :: zero32.drop (k + 1) := by
    rw [List.drop_eq_getElem_cons (by rw [zero32_length]; exact hk)]
    congr 1
    exact List.getElem_replicate ..
  have ht : l.take (k + 1) = l.take k ++ [l[k]] := by rw [List.take_succ_eq_append_getElem (by omega)]
  rw [hz, ht]
  have hlk : (bs (l.take k)).length = k := by rw [bs_length, List.length_take]; omega
  rw [Array.toList_setIfInBounds, bs_append, bs_append, bs_append]
  rw [List.set_append_right _ _ (by omega), hlk, Nat.sub_self, List.append_assoc]
  rfl

set_option maxRecDepth 100000 in
set_option maxHeartbeats 2000000 in
theorem readDigest_long (w : World) (b off n c : Nat) (l : List UInt8) (hr : Rd w (some ⟨b, off, none⟩) n c l) (hl : 32 ≤ l.length) :
    Calls Tryz.prog 99 #[.slice (some ⟨b, off, none⟩) n c] w fun e w' => e = .returned (.tuple #[.agg (bs (l.take 32)).toArray, .int .i64 32, .int .i64 0]) ∧ Below w.heap.size w w' := by
  have hn : 32 ≤ n := by have := hr.len; omega
  go_enter Tryz.func99, Tryz.ntmps99
  go_wp2_with (first
    | (refine wpList_allocD (o := ⟨some 2, _, _, _, _, _⟩) rfl rfl ?_; intro w1 hd1 hg1 hs1)
    | (refine wpList_allocD (o := ⟨some 5, _, _, _, _, _⟩) rfl rfl ?_; intro w2 hd2 hg2 hs2; have hd12 := (hg2.block _ (lt_of_block hd1) (by simp)).trans hd1; rw [hs1] at hd2))
  have hB2 : Below w.heap.size w w2 := ((Below.refl _ _).grown hg1 (Nat.le_refl _) (by simp)).grown hg2 (by omega) (by simp)
  have h0 : DigAt l (w.heap.size + 1) w2 w2 0 := ⟨by simpa using hd2, Below.refl _ _, rfl⟩
  go_loopw [6] (fun i wr => ∃ k : Nat, k ≤ 32 ∧ i = .int .i64 k ∧ DigAt l (w.heap.size + 1) w2 wr k) (fun i _ => 32 - (intOf i).toNat)
  case atStart => exact ⟨0, by omega, rfl, h0⟩
  case round =>
    obtain ⟨k, hk, rfl, hD⟩ := hrel
    by_cases hlt : k < 32
    · have hkl : k < l.length := by omega
      have hcell := (hr.below (hB2.trans (hD.below.mono (by omega)))).byteC hkl
      obtain ⟨⟨v, hc2⟩, hf2⟩ := hD.cell hl hlt
      have hstep := Lib.hid (hD.step hl hlt)
      generalize l[k].toNat = x at *
      go_wp2
      go_roundw
      case rel => exact ⟨k + 1, by omega, by go_num, hstep.out⟩
      case measure => simp [intOf]; omega
    · obtain rfl : k = 32 := by omega
      have htl : (l.take 32).length = 32 := by simp; omega
      have hd4 : wr.heap[w.heap.size + 1]? = some (.cells (bs (l.take 32)).toArray 25 (0, 0)) := by
        have := hD.blk
        rw [List.drop_eq_nil_of_le (by rw [zero32_length]; omega), List.append_nil] at this
        exact this
      have hd14 := (hD.below.block _ (by omega)).trans hd12
      have hsz := hD.size
      go_wp2_with (first
        | (refine wpList_digest rfl (.tmp 5) rfl rfl htl hd4 ?_)
        | (refine wpList_storeD rfl (.tmp 2) (.tmp 21) rfl rfl rfl hd14 htl zero32_length ?_; intro w5 hd5 hg5 hs5))
      refine bodyPost_ret (results_digest3 rfl _ _ _ _ _ htl rfl hd5) rfl ⟨rfl, ?_⟩
      exact (hB2.trans (hD.below.mono (by omega))).grown hg5 (by omega) (fun k e => by cases e; exact Nat.le_refl _)

theorem readDigest_any (w : World) (a : Option Addr) (n c : Nat) (l : List UInt8) (hr : Rd w a n c l) :
    Calls Tryz.prog 99 #[.slice a n c] w (RDPost l w) := by
  have hl := hr.len
  by_cases h : l.length < 32
  · refine (readDigest_short w a n c (by omega)).mono ?_
    rintro e w' ⟨rfl, hb⟩
    unfold RDPost rdD
    rw [if_pos h]
    exact ⟨rfl, hb⟩
  · obtain ⟨b, off, rfl, _, _⟩ := hr.at (by omega)
    refine (readDigest_long w b off n c l hr (by omega)).mono ?_
    rintro e w' ⟨rfl, hb⟩
    unfold RDPost rdD
    rw [if_neg h]
    exact ⟨rfl, hb⟩
/-! b[k:] -/
section
theorem underU : Tryz.prog.underlying 22 = some (.slice (Tryz.prog.elem 22)) := by kernel_rfl
theorem elemU : Tryz.prog.elem 22 = 5 := by kernel_rfl
/-- where b[k:] begins -/
def tailU (a : Option Addr) (c k : Nat) : Option Addr := if c = k then a else a.map fun x => x.add k
theorem cutU (W : World) (a : Option Addr) (n c k : Nat) (x : Int) (hx : x = (k : Int)) (hk : k ≤ n) :
    (Instr.slice 22 (.slice a n c) (some (.int .i64 x)) none none).run Tryz.prog W = .ok (.slice (tailU a c k) (n - k) (c - k)) W ∧
    (Instr.sliceAt 22 (.slice a n c) (some (.int .i64 x)) none none).run Tryz.prog W = .ok (.slice (tailU a c k) (n - k) (c - k)) W := by
  subst hx
  have h : (Instr.slice 22 (.slice a n c) (some (.int .i64 (k : Int))) none none).run Tryz.prog W = .ok (.slice (tailU a c k) (n - k) (c - k)) W := by
    rw [run_slice_l W 22 a n c underU .i64 (k : Int) (by omega) (by omega), elemU, sizeU8]
    simp [sliced, Result.andThen, tailU]
  exact ⟨h, by rw [run_sliceAt_slice W 22 _ _ _ _ underU]; exact h⟩
theorem Rd.tailU {w : World} {a : Option Addr} {n c : Nat} {l : List UInt8} (h : Rd w a n c l) (k : Nat) (hk : k ≤ n) : Rd w (tailU a c k) (n - k) (c - k) (l.drop k) := by
  have hc := h.cap
  have hl := h.len
  by_cases e : c = k
  · have hn : n = k := by omega
    have hd : l.drop k = [] := List.drop_eq_nil_of_le (by omega)
    unfold Go.Proofs.YtoclahcibilbhaaGreat.tailU
    rw [if_pos e, hd]
    exact ⟨by simp; omega, by omega, by have := h.max; omega, fun _ => ⟨by omega, by omega⟩, fun ad e2 j u hu => by simp [bs] at hu⟩
  · unfold Go.Proofs.YtoclahcibilbhaaGreat.tailU
    rw [if_neg e]
    exact h.tail k hk e
end
end Go.Proofs.YtoclahcibilbhaaGreat
