/-
  The walks of the reference of layer 1, reading: ReadCount, ReadBytes, ReadDigest.
-/
import Derived.Test.YtbbckjpgmpfkgaaOctD
namespace Go.Proofs.Ytbbckjpgmpfkgaa
open Go.RowKit

set_option maxRecDepth 100000 in
set_option maxHeartbeats 4000000 in
theorem readCount_at (w : World) (b off : Nat) (n c : Nat) (l : List UInt8) (hr : Rd w (some ⟨b, off, none⟩) n c l) :
    Calls Try.prog 42 #[.slice (some ⟨b, off, none⟩) n c] w (CntPost l w) := by
  have hcap := hr.cap
  go_enter Try.func42, Try.ntmps42
  go_wp2_with fail
  go_loop [5, 6, 7] (fun s q i => ∃ k m p : Nat, k ≤ 5 ∧ i = .int .i64 k ∧ s = .int .i64 m ∧ q = .int .i64 p ∧ CntAt l k m ∧ Hid (p = 128 ^ k) ∧ k ≤ n) (fun _ _ i => 5 - (intOf i).toNat)
  case atStart => exact ⟨0, 0, 1, Nat.zero_le _, rfl, rfl, rfl, CntAt.zero l, rfl, Nat.zero_le _⟩
  case round =>
    obtain ⟨k, m, p, hk, rfl, rfl, rfl, hC, hp, hkn⟩ := hrel
    by_cases h5 : k < 5
    · have hp2 : p ≤ 268435456 := by
        rw [hp.out]
        exact Nat.le_trans (Nat.pow_le_pow_right (by omega) (show k ≤ 4 by omega)) (by decide)
      have hm : m < p := by rw [hp.out]; exact hC.lt
      by_cases hlt : k < n
      · have hkl : k < l.length := by rw [hr.len]; omega
        have hcell := hr.byteC hkl
        have hx : l[k].toNat < 256 := l[k].toNat_lt
        have HStep := Lib.hid (hC.step h5 hkl)
        have HBad := Lib.hid (hC.bad h5 hkl)
        have HGood := Lib.hid (hC.good h5 hkl)
        have hq1 : l[k].toNat % 128 * 128 ^ k ≤ 127 * p := by rw [hp.out]; exact Nat.mul_le_mul_right _ (by omega)
        have hq2 : ((l[k].toNat : Nat) : Int) % 128 * (p : Int) = ((l[k].toNat % 128 * 128 ^ k : Nat) : Int) := by rw [hp.out]; simp
        have hp3 : Hid (p * 128 = 128 ^ (k + 1)) := Lib.hid (by rw [hp.out, Nat.pow_succ])
        have hq0 : Hid (l[k].toNat = 0 → l[k].toNat % 128 * 128 ^ k = 0) := Lib.hid (by intro h; rw [h]; simp)
        generalize l[k].toNat % 128 * 128 ^ k = q at *
        generalize l[k].toNat = x at *
        by_cases h128 : 128 ≤ x
        · have hstep := HStep.out h128
          clear HStep HBad HGood
          go_wp2
          go_round
          case rel => exact ⟨k + 1, m + q, p * 128, by omega, by go_num, by go_num, by go_num, hstep, hp3.out, by omega⟩
          case measure => simp [intOf]; omega
        · have hbad := Lib.hid (HBad.out (by omega))
          have hgood := Lib.hid (HGood.out (by omega))
          clear HStep HBad HGood
          have hk0 : (decide (0 < (k : Int))) = decide (0 < k) := by simp
          by_cases hk1 : 0 < k
          · by_cases hx0 : x = 0
            · have hb1 : ((x : Int) == 0) = true := by simp; omega
              have HX := Lib.hid hx0
              clear hx0
              go_wp2
              go_ret3
              exact CntPost.mk (hbad.out (.inl ⟨hk1, HX.out⟩)) rfl rfl rfl
            · have hb1 : ((x : Int) == 0) = false := by simp; omega
              by_cases hbig : 2147483647 < m + q
              · go_wp2
                go_ret3
                exact CntPost.mk (hbad.out (.inr hbig)) rfl rfl rfl
              · go_wp2
                go_ret3
                exact CntPost.mk (hgood.out (by omega)) (by omega) (by omega) rfl
          · by_cases hbig : 2147483647 < m + q
            · go_wp2
              go_ret3
              exact CntPost.mk (hbad.out (.inr hbig)) rfl rfl rfl
            · go_wp2
              go_ret3
              exact CntPost.mk (hgood.out (by omega)) (by omega) (by omega) rfl
      · have hfin := Lib.hid (hC.fin h5 (by rw [hr.len]; omega))
        go_wp2
        go_ret3
        exact CntPost.mk hfin.out rfl rfl rfl
    · obtain rfl : k = 5 := by omega
      have hfin := Lib.hid hC.five
      go_wp2
      go_ret3
      exact CntPost.mk hfin.out rfl rfl rfl

set_option maxRecDepth 100000 in
set_option maxHeartbeats 1000000 in
theorem readCount_zero (w : World) (a : Option Addr) (c : Nat) :
    Calls Try.prog 42 #[.slice a 0 c] w (CntPost [] w) := by
  have hfin : CntPost [] w (.returned (.tuple #[.int .i64 0, .int .i64 0, .int .i64 10])) w := CntPost.mk (a := 0) (b := 0) (c := 10) rfl rfl rfl rfl
  have HF := Lib.hid hfin
  clear hfin
  go_enter Try.func42, Try.ntmps42
  go_wp2_with fail
  go_loop [5, 6, 7] (fun s q i => i = .int .i64 0) (fun _ _ i => 0)
  case atStart => rfl
  case round =>
    subst hrel
    go_wp2
    go_ret3
    exact HF.out

theorem readCount_any (w : World) (a : Option Addr) (n c : Nat) (l : List UInt8) (hr : Rd w a n c l) :
    Calls Try.prog 42 #[.slice a n c] w (CntPost l w) := by
  by_cases hn : n = 0
  · subst hn
    obtain rfl : l = [] := List.eq_nil_of_length_eq_zero hr.len
    exact readCount_zero w a c
  · obtain ⟨b, off, rfl, _⟩ := hr.at (by omega)
    exact readCount_at w b off n c l hr

/-- what ReadBytes hands back -/
def RBPost (l : List UInt8) (w : World) (e : Ending) (w' : World) : Prop :=
  e = .returned (.tuple #[.string (str (rdB l).1), .int .i64 ((rdB l).2.1 : Int), .int .i64 ((rdB l).2.2 : Int)]) ∧ w = w'

set_option maxRecDepth 100000 in
set_option maxHeartbeats 1000000 in
theorem readBytes_any (w : World) (a : Option Addr) (n c : Nat) (l : List UInt8) (h2 : Rd w a n c l) :
    Calls Try.prog 43 #[.slice a n c] w (RBPost l w) := by
  have hl := Lib.hid h2.len
  have hcap := h2.cap
  obtain ⟨b1, b2, b3, b4, b5⟩ := cnt_le l 0 0 (by omega)
  have hmax : n ≤ 9223372036854775807 := by have := h2.max; have := h2.cap; unfold maxLen at *; omega
  obtain ⟨x, y, z, hcnt⟩ : ∃ x y z, cnt 0 0 l = (x, y, z) := ⟨_, _, _, rfl⟩
  have hB : rdB l = if z ≠ 0 then ([], 0, z) else if 65536 < x then ([], 0, 11) else if l.length < y + x then ([], 0, 10) else ((l.drop y).take x, y + x, 0) := by
    unfold rdB; rw [hcnt]
  rw [hcnt] at b1 b2 b3 b4 b5
  simp only at b1 b2 b3 b4 b5
  have HC := Lib.hid hcnt
  clear hcnt
  have fin : ∀ p q s, rdB l = (p, q, s) → RBPost l w (.returned (.tuple #[.string (str p), .int .i64 q, .int .i64 s])) w := fun p q s e => by
    unfold RBPost; rw [e]; exact ⟨rfl, rfl⟩
  have HF := Lib.hid fin
  have H4 := Lib.hid b4
  have HRB := Lib.hid hB
  clear fin b4 hB
  have hyl : y ≤ n := by have := hl.out; omega
  by_cases hz : z = 0
  · subst hz
    by_cases hbig : 65536 < x
    · go_enter Try.func43, Try.ntmps43
      go_wp2_with fail
      refine (readCount_any w a n c l h2).mono ?_
      rintro e w' ⟨rfl, rfl⟩
      rw [HC.out]
      go_wp2_with fail
      go_ret3
      exact HF.out [] 0 11 (by rw [HRB.out, if_neg (by simp), if_pos hbig])
    · by_cases hlong : n - y < x
      · go_enter Try.func43, Try.ntmps43
        go_wp2_with fail
        refine (readCount_any w a n c l h2).mono ?_
        rintro e w' ⟨rfl, rfl⟩
        rw [HC.out]
        go_wp2_with fail
        go_ret3
        exact HF.out [] 0 10 (by rw [HRB.out, if_neg (by simp), if_neg hbig, if_pos (by have := hl.out; omega)])
      · by_cases hcy : c = y
        · subst hcy
          obtain rfl : x = 0 := by omega
          have hconv := conv_zero w a 0
          have hx0 := HRB.out
          rw [if_neg (by simp), if_neg (by simp), if_neg (by have := hl.out; omega)] at hx0
          have HX := Lib.hid hx0
          clear hx0
          go_enter Try.func43, Try.ntmps43
          go_wp2_with fail
          refine (readCount_any w a n c l h2).mono ?_
          rintro e w' ⟨rfl, rfl⟩
          rw [HC.out]
          go_wp2_with fail
          go_ret3
          exact HF.out [] c 0 (by rw [HX.out]; simp)
        · have hconv := (h2.cut y (y + x) (by omega) (by omega) hcy).conv
          rw [Nat.add_sub_cancel_left] at hconv
          have hx0 := HRB.out
          rw [if_neg (by simp), if_neg hbig, if_neg (by have := hl.out; omega)] at hx0
          have HX := Lib.hid hx0
          clear hx0
          go_enter Try.func43, Try.ntmps43
          go_wp2_with fail
          refine (readCount_any w a n c l h2).mono ?_
          rintro e w' ⟨rfl, rfl⟩
          rw [HC.out]
          go_wp2_with fail
          go_ret3
          exact HF.out _ _ 0 HX.out
  · have hzz : ((z : Int) != 0) = true := by simp; omega
    have h0 := H4.out hz
    obtain ⟨rfl, rfl⟩ := h0
    go_enter Try.func43, Try.ntmps43
    go_wp2_with fail
    refine (readCount_any w a n c l h2).mono ?_
    rintro e w' ⟨rfl, rfl⟩
    rw [HC.out]
    go_wp2_with fail
    go_ret3
    exact HF.out [] 0 z (by rw [HRB.out, if_pos hz])

/-- what ReadDigest hands back -/
def RDPost (l : List UInt8) (w : World) (e : Ending) (w' : World) : Prop :=
  e = .returned (.tuple #[.agg (bs (rdD l).1).toArray, .int .i64 ((rdD l).2.1 : Int), .int .i64 ((rdD l).2.2 : Int)]) ∧ Below w.heap.size w w'

/-! b[k:] -/
section
theorem underU : Try.prog.underlying 40 = some (.slice (Try.prog.elem 40)) := by kernel_rfl
theorem elemU : Try.prog.elem 40 = 5 := by kernel_rfl
/-- where b[k:] begins -/
def tailU (a : Option Addr) (c k : Nat) : Option Addr := if c = k then a else a.map fun x => x.add k
theorem cutU (W : World) (a : Option Addr) (n c k : Nat) (x : Int) (hx : x = (k : Int)) (hk : k ≤ n) :
    (Instr.slice 40 (.slice a n c) (some (.int .i64 x)) none none).run Try.prog W = .ok (.slice (tailU a c k) (n - k) (c - k)) W ∧
    (Instr.sliceAt 40 (.slice a n c) (some (.int .i64 x)) none none).run Try.prog W = .ok (.slice (tailU a c k) (n - k) (c - k)) W := by
  subst hx
  have h : (Instr.slice 40 (.slice a n c) (some (.int .i64 (k : Int))) none none).run Try.prog W = .ok (.slice (tailU a c k) (n - k) (c - k)) W := by
    rw [run_slice_l W 40 a n c underU .i64 (k : Int) (by omega) (by omega), elemU, sizeU8]
    simp [sliced, Result.andThen, tailU]
  exact ⟨h, by rw [run_sliceAt_slice W 40 _ _ _ _ underU]; exact h⟩
theorem Rd.tailU {w : World} {a : Option Addr} {n c : Nat} {l : List UInt8} (h : Rd w a n c l) (k : Nat) (hk : k ≤ n) : Rd w (tailU a c k) (n - k) (c - k) (l.drop k) := by
  have hc := h.cap
  have hl := h.len
  by_cases e : c = k
  · have hn : n = k := by omega
    have hd : l.drop k = [] := List.drop_eq_nil_of_le (by omega)
    unfold Go.Proofs.Ytbbckjpgmpfkgaa.tailU
    rw [if_pos e, hd]
    exact ⟨by simp; omega, by omega, by have := h.max; omega, fun _ => ⟨by omega, by omega⟩, fun ad e2 j u hu => by simp [bs] at hu⟩
  · unfold Go.Proofs.Ytbbckjpgmpfkgaa.tailU
    rw [if_neg e]
    exact h.tail k hk e
end
end Go.Proofs.Ytbbckjpgmpfkgaa
