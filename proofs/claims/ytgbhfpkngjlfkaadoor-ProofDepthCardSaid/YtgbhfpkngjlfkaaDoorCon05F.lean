/-
  Con05J Con05Q Con05F, in one text.
-/
import Derived.Test.YtgbhfpkngjlfkaaDoorCon05S
import Derived.Sort.WalkB2
import Derived.Sort.WalkB3
import Derived.Sort.WalkB12
import Derived.Sort.Walk11
import Derived.Shelf.SlSortFunc.Xorshift
import Derived.Sort.Walk7
import Derived.Sort.WalkC
import Derived.Sort.WalkC4
import Derived.Sort.WalkA6
import Derived.Sort.Walk13
import Derived.Sort.AssemblyPlain
namespace Go.Proofs.YtgbhfpkngjlfkaaDoor
/-! Con05J Con05K Con05P Con05Y, in one text. -/
section
/-! siftDown_func, heapSort_func, reverseRange_func. -/
section
open Go.RowKit Go.Sort

/-- the functions' value -/
abbrev lsV (sf : Nat) (lb sb : Array Value) : Value := .agg #[.func (.func 76) #[] lb, .func (.func sf) #[] sb]
section
variable {sf : Nat} {lb sb : Array Value} {g n : Nat} {I : Array Lf → World → Prop}

set_option maxRecDepth 100000 in
set_option maxHeartbeats 4000000 in
theorem sift_any (H : Hd sf lb sb g n I) (lo hi first : Nat) (d : Array Lf) (w : World) (h : I d w) (hlo : lo ≤ hi) (hb : first + hi ≤ n) (hn : n < 1000000000) :
    Calls Tryd.prog 116 #[lsV sf lb sb, .int .i64 (lo : Int), .int .i64 (hi : Int), .int .i64 (first : Int)] w fun e w' =>
      e = .returned (.tuple #[]) ∧ I (siftDown lessLf hi first lo d) w' ∧ w.grownBy w' (some g) := by
  have HJ := (H.since w).box w.heap.size
  have h0 := H.boxed h
  go_enter Tryd.func116, Tryd.ntmps116
  go_wp2_with fail
  generalize w.alloc _ = w1 at *
  go_loopw [8] (fun v wr => ∃ (root : Nat) (dk : Array Lf), v = .int .i64 root ∧ root ≤ hi ∧ Bx sf lb sb g (fun d W => I d W ∧ w.grownBy W (some g)) w.heap.size dk wr ∧
      siftDown lessLf hi first root dk = siftDown lessLf hi first lo d) (fun v _ => hi - (intOf v).toNat)
  case atStart => exact ⟨lo, d, rfl, hlo, h0, rfl⟩
  case round =>
    obtain ⟨root, dk, rfl, hr, hK, hE⟩ := hrel
    have HE := Lib.hid hE
    clear hE h0
    have c0 := hK.c0
    have c1 := hK.c1
    by_cases hc0 : hi ≤ 2 * root + 1
    · have h0z : (hi : Int) ≤ 2 * (root : Int) + 1 := by omega
      go_wp2_with fail
      go_end0
      rw [← HE.out, sd_end lessLf dk hc0]
      exact ⟨rfl, hK.st⟩
    · have h0z : ¬ ((hi : Int) ≤ 2 * (root : Int) + 1) := by omega
      have e1 : ((first + (2 * root + 1) : Nat) : Int) = (first : Int) + (2 * (root : Int) + 1) := by omega
      have e2 : ((first + (2 * root + 2) : Nat) : Int) = (first : Int) + (2 * (root : Int) + 1) + 1 := by omega
      have e2' : ((first + (2 * root + 2) : Nat) : Int) = (first : Int) + (2 * (root : Int) + 1 + 1) := by omega
      have e3 : ((first + root : Nat) : Int) = (first : Int) + (root : Int) := by omega
      have E1 := Lib.hid e1
      have E2 := Lib.hid e2
      have E2' := Lib.hid e2'
      have E3 := Lib.hid e3
      clear e1 e2 e2' e3
      by_cases h1 : 2 * root + 2 < hi
      · have h1z : 2 * (root : Int) + 1 + 1 < (hi : Int) := by omega
        have hl1 := HJ.less (first + (2 * root + 1)) (first + (2 * root + 2)) hK (by omega) (by omega)
        rw [E1.out, E2.out] at hl1
        cases hL : lessLf dk[first + (2 * root + 1)]! dk[first + (2 * root + 2)]! with
        | true =>
          rw [hL] at hl1
          go_wp2_with fail
          refine hl1.mono ?_
          rintro e w2 ⟨rfl, hb2⟩
          have hK2 := HJ.below hK hb2
          have c0 := hK2.c0
          have hl2 := HJ.less (first + root) (first + (2 * root + 2)) hK2 (by omega) (by omega)
          rw [E3.out, E2'.out] at hl2
          go_wp2_with fail
          refine hl2.mono ?_
          rintro e w3 ⟨rfl, hb3⟩
          have hK3 := HJ.below hK2 hb3
          have c1 := hK3.c1
          cases hG : lessLf dk[first + root]! dk[first + (2 * root + 2)]! with
          | false =>
            go_wp2_with fail
            (try simp only [Exit.inBlock, Exit.then]); refine bodyPost_ret (results_none rfl _ _ _) rfl ?_
            rw [← HE.out, sd_right_stop lessLf dk h1 hL hG]
            exact ⟨rfl, hK3.st⟩
          | true =>
            go_wp2_with fail
            obtain ⟨w4, hs1, hs2, hs3⟩ := HJ.swap (first + root) (first + (2 * root + 2)) hK3 (by omega) (by omega) (by omega)
            rw [E3.out, E2'.out] at hs1
            rw [hs1, Oper.upon_value]
            clear hs1
            go_wp2_with fail
            exact ⟨⟨2 * root + 2, _, by go_num, by omega, hs2, by rw [← HE.out, sd_right_go lessLf dk h1 hL hG]⟩, by simp [intOf]; omega⟩
        | false =>
          rw [hL] at hl1
          go_wp2_with fail
          refine hl1.mono ?_
          rintro e w2 ⟨rfl, hb2⟩
          have hK2 := HJ.below hK hb2
          have c0 := hK2.c0
          have hl2 := HJ.less (first + root) (first + (2 * root + 1)) hK2 (by omega) (by omega)
          rw [E3.out, E1.out] at hl2
          go_wp2_with fail
          refine hl2.mono ?_
          rintro e w3 ⟨rfl, hb3⟩
          have hK3 := HJ.below hK2 hb3
          have c1 := hK3.c1
          cases hG : lessLf dk[first + root]! dk[first + (2 * root + 1)]! with
          | false =>
            go_wp2_with fail
            (try simp only [Exit.inBlock, Exit.then]); refine bodyPost_ret (results_none rfl _ _ _) rfl ?_
            rw [← HE.out, sd_left_stop lessLf dk (by omega) (fun _ => hL) hG]
            exact ⟨rfl, hK3.st⟩
          | true =>
            go_wp2_with fail
            obtain ⟨w4, hs1, hs2, hs3⟩ := HJ.swap (first + root) (first + (2 * root + 1)) hK3 (by omega) (by omega) (by omega)
            rw [E3.out, E1.out] at hs1
            rw [hs1, Oper.upon_value]
            clear hs1
            go_wp2_with fail
            exact ⟨⟨2 * root + 1, _, by go_num, by omega, hs2, by rw [← HE.out, sd_left_go lessLf dk (by omega) (fun _ => hL) hG]⟩, by simp [intOf]; omega⟩
      · have h1z : ¬ (2 * (root : Int) + 1 + 1 < (hi : Int)) := by omega
        have hl2 := HJ.less (first + root) (first + (2 * root + 1)) hK (by omega) (by omega)
        rw [E3.out, E1.out] at hl2
        go_wp2_with fail
        refine hl2.mono ?_
        rintro e w3 ⟨rfl, hb3⟩
        have hK3 := HJ.below hK hb3
        have c1 := hK3.c1
        cases hG : lessLf dk[first + root]! dk[first + (2 * root + 1)]! with
        | false =>
          go_wp2_with fail
          (try simp only [Exit.inBlock, Exit.then]); refine bodyPost_ret (results_none rfl _ _ _) rfl ?_
          rw [← HE.out, sd_left_stop lessLf dk (by omega) (fun h => absurd h h1) hG]
          exact ⟨rfl, hK3.st⟩
        | true =>
          go_wp2_with fail
          obtain ⟨w4, hs1, hs2, hs3⟩ := HJ.swap (first + root) (first + (2 * root + 1)) hK3 (by omega) (by omega) (by omega)
          rw [E3.out, E1.out] at hs1
          rw [hs1, Oper.upon_value]
          clear hs1
          go_wp2_with fail
          exact ⟨⟨2 * root + 1, _, by go_num, by omega, hs2, by rw [← HE.out, sd_left_go lessLf dk (by omega) (fun h => absurd h h1) hG]⟩, by simp [intOf]; omega⟩

set_option maxRecDepth 100000 in
set_option maxHeartbeats 4000000 in
theorem heap_any (H : Hd sf lb sb g n I) (a b : Nat) (d : Array Lf) (w : World) (h : I d w) (hab : a ≤ b) (hb : b ≤ n) (h2 : 2 ≤ n) (hn : n < 1000000000) :
    Calls Tryd.prog 109 #[lsV sf lb sb, .int .i64 (a : Int), .int .i64 (b : Int)] w fun e w' =>
      e = .returned (.tuple #[]) ∧ I (heapSort lessLf d a b) w' ∧ w.grownBy w' (some g) := by
  have HJ := (H.since w).box w.heap.size
  have h0 := H.boxed h
  have ecast : ((b - a : Nat) : Int) = (b : Int) - (a : Int) := by omega
  have SI := Lib.hid (fun (lo hi : Nat) (dk : Array Lf) (W : World) hK h1 h2 => sift_any HJ lo hi a dk W hK h1 h2 hn)
  go_enter Tryd.func109, Tryd.ntmps109
  go_wp2_with fail
  generalize w.alloc _ = w1 at *
  go_loopw [9] (fun v wr => ∃ (kx : Nat) (dk : Array Lf), v = .int .i64 ((kx : Int) - 1) ∧ kx ≤ (b - a - 1) / 2 + 1 ∧ Bx sf lb sb g (fun d W => I d W ∧ w.grownBy W (some g)) w.heap.size dk wr ∧
      heapBuild lessLf (b - a) a kx dk = heapBuild lessLf (b - a) a ((b - a - 1) / 2 + 1) d) (fun v _ => (intOf v + 1).toNat)
  case atStart => exact ⟨_, d, by rw [half_start hab], Nat.le_refl _, h0, rfl⟩
  case round =>
    obtain ⟨kx, dk, rfl, hk, hK, hE⟩ := hrel
    have HE := Lib.hid hE
    clear hE h0
    have c0 := hK.c0
    have c1 := hK.c1
    cases kx with
    | zero =>
      have HB := Lib.hid (show dk = heapBuild lessLf (b - a) a ((b - a - 1) / 2 + 1) d from HE.out)
      clear HE hk
      rw [show ((0 : Nat) : Int) - 1 = -1 from rfl]
      go_wp2_with fail
      go_loopw [10] (fun v wr2 => ∃ (ky : Nat) (dj : Array Lf), v = .int .i64 ((ky : Int) - 1) ∧ ky ≤ b - a ∧ Bx sf lb sb g (fun d W => I d W ∧ w.grownBy W (some g)) w.heap.size dj wr2 ∧
        heapPop lessLf a ky dj = heapPop lessLf a (b - a) dk) (fun v _ => (intOf v + 1).toNat)
      case atStart => exact ⟨b - a, dk, by rw [ecast], Nat.le_refl _, hK, rfl⟩
      case round =>
        obtain ⟨ky, dj, rfl, hky, hKj, hE2⟩ := hrel
        have HE2 := Lib.hid hE2
        clear hE2 hK c0 c1
        have c0 := hKj.c0
        have c1 := hKj.c1
        cases ky with
        | zero =>
          go_wp2_with fail
          go_end0
          have e : dj = heapSort lessLf d a b := by rw [heapSort, ← HB.out, ← HE2.out]; rfl
          rw [← e]
          exact ⟨rfl, hKj.st⟩
        | succ ky =>
          go_wp2_with fail
          obtain ⟨w2, hs1, hs2, hs3⟩ := HJ.swap a (a + ky) hKj (by omega) (by omega) h2
          rw [show ((a + ky : Nat) : Int) = (a : Int) + (ky : Int) by omega] at hs1
          rw [hs1, Oper.upon_value]
          clear hs1
          have c0 := hs2.c0
          have c1 := hs2.c1
          go_wp2_with fail
          refine (SI.out 0 ky _ w2 hs2 (Nat.zero_le _) (by omega)).mono ?_
          rintro e w3 ⟨rfl, hK3, -⟩
          go_wp2_with fail
          exact ⟨⟨ky, _, by congr 1 <;> omega, by omega, hK3, HE2.out⟩, by simp [intOf]⟩
    | succ kx =>
      go_wp2_with fail
      have hs := SI.out kx (b - a) dk wr hK (by omega) (by omega)
      rw [ecast] at hs
      refine hs.mono ?_
      rintro e w3 ⟨rfl, hK3, -⟩
      go_wp2_with fail
      exact ⟨⟨kx, _, by congr 1 <;> omega, by omega, hK3, HE.out⟩, by simp [intOf]⟩
end
end
/-! reverseRange_func; order2_func, median_func, medianAdjacent_func, choosePivot_func. -/
section
open Go.RowKit Go.Sort
section
variable {sf : Nat} {lb sb : Array Value} {g n : Nat} {I : Array Lf → World → Prop}

set_option maxRecDepth 100000 in
set_option maxHeartbeats 4000000 in
theorem reverse_any (H : Hd sf lb sb g n I) (a b : Nat) (d : Array Lf) (w : World) (h : I d w) (hab : a < b) (hb : b ≤ n) (hn : n < 1000000000) :
    Calls Tryd.prog 112 #[lsV sf lb sb, .int .i64 (a : Int), .int .i64 (b : Int)] w fun e w' =>
      e = .returned (.tuple #[]) ∧ I (reverseRange d a b) w' ∧ w.grownBy w' (some g) := by
  have HJ := (H.since w).box w.heap.size
  have h0 := H.boxed h
  go_enter Tryd.func112, Tryd.ntmps112
  go_wp2_with fail
  generalize w.alloc _ = w1 at *
  go_loopw [6, 7] (fun s t wr => ∃ (i j : Nat) (dk : Array Lf), s = .int .i64 i ∧ t = .int .i64 j ∧ j < n ∧ Bx sf lb sb g (fun d W => I d W ∧ w.grownBy W (some g)) w.heap.size dk wr ∧
      reverseLoop i j dk = reverseRange d a b) (fun s t _ => (intOf t - intOf s).toNat)
  case atStart => exact ⟨a, b - 1, d, rfl, by congr 1; omega, by omega, h0, rfl⟩
  case round =>
    obtain ⟨i, j, dk, rfl, rfl, hj, hK, hE⟩ := hrel
    have HE := Lib.hid hE
    clear hE h0
    have c1 := hK.c1
    by_cases hlt : i < j
    · have hlt' : (i : Int) < (j : Int) := by omega
      go_wp2_with fail
      obtain ⟨w2, hs1, hs2, hs3⟩ := HJ.swap i j hK (by omega) (by omega) (by omega)
      rw [hs1, Oper.upon_value]
      clear hs1
      go_wp2_with fail
      exact ⟨⟨i + 1, j - 1, _, by go_num, by congr 1; omega, by omega, hs2, by rw [← HE.out, reverseLoop.eq_def i j, if_pos hlt]⟩, by simp [intOf]; omega⟩
    · have hlt' : ¬ (i : Int) < (j : Int) := by omega
      go_wp2_with fail
      go_end0
      have hr : reverseRange d a b = dk := by rw [← HE.out, reverseLoop, if_neg hlt]
      rw [hr]
      exact ⟨rfl, hK.st⟩

/-- the count of swaps lies in a variable; nothing else that was there has turned -/
structure Ct (w0 : World) (C s : Nat) (W : World) : Prop where
  bel : Below w0.heap.size w0 W
  low : w0.heap.size ≤ C
  blk : Blk W C 3 [.int .i64 (s : Int)]
theorem Ct.below {w0 W W' : World} {C s : Nat} (h : Ct w0 C s W) (hb : Below W.heap.size W W') : Ct w0 C s W' := ⟨Bt h.bel hb, h.low, h.blk.below hb⟩
theorem order2_in (d : Array Lf) {a b s m : Nat} (ha : a < m) (hb : b < m) : (order2 lessLf d a b s).1 < m ∧ (order2 lessLf d a b s).2.1 < m ∧ (order2 lessLf d a b s).2.2 ≤ s + 1 := by
  unfold order2
  split <;> simp <;> omega

set_option maxRecDepth 100000 in
set_option maxHeartbeats 4000000 in
theorem order2_any (H : Hd sf lb sb g n I) (a b C s : Nat) (d : Array Lf) (w0 w : World) (h : I d w0) (hc : Ct w0 C s w) (ha : a < n) (hb : b < n) (hs : s < 1000000) :
    Calls Tryd.prog 121 #[lsV sf lb sb, .int .i64 (a : Int), .int .i64 (b : Int), .pointer (some ⟨C, 0, none⟩)] w fun e w' =>
      e = .returned (.tuple #[.int .i64 ((order2 lessLf d a b s).1 : Int), .int .i64 ((order2 lessLf d a b s).2.1 : Int)]) ∧ Ct w0 C (order2 lessLf d a b s).2.2 w' ∧ w.grownBy w' (some C) := by
  have hB1 : Below w.heap.size w (w.alloc (.cells #[.func (.func 76) #[] lb, .func (.func sf) #[] sb] 157)) := (Below.refl _ w).alloc (Nat.le_refl _) _
  have hl := H.less b a (H.below h (Bt hc.bel hB1)) hb ha
  have hc1 := hc.below hB1
  have HO := Lib.hid (show order2 lessLf d a b s = if lessLf d[b]! d[a]! = true then (b, a, s + 1) else (a, b, s) from rfl)
  go_enter Tryd.func121, Tryd.ntmps121
  go_wp2_with fail
  refine hl.mono ?_
  rintro e w2 ⟨rfl, hb2⟩
  have hc2 := hc1.below hb2
  have hB2 := Bt hB1 hb2
  have k0 := hc2.blk.cell (j := 0) rfl
  have k1 := hc2.blk.free 0
  cases hL : lessLf d[b]! d[a]! with
  | true =>
    go_wp2_with fail
    go_ret2
    have kb := hc2.blk.set 0 (.int .i64 ((s : Int) + 1))
    have hg := set_grown w2 C 0 (.int .i64 ((s : Int) + 1))
    rw [HO.out, if_pos hL]
    refine ⟨rfl, ⟨hc2.bel.grown hg hc2.bel.size (fun k e => by cases e; exact hc2.low), hc2.low, ?_⟩, grown2 (grown_of hB2 _) hg (fun k e => .inr e)⟩
    exact kb
  | false =>
    go_wp2_with fail
    go_ret2
    rw [HO.out, if_neg (by rw [hL]; decide)]
    exact ⟨rfl, hc2, grown_of hB2 _⟩
theorem median_lt (d : Array Lf) {a b c s m : Nat} (ha : a < m) (hb : b < m) (hc : c < m) : (median lessLf d a b c s).1 < m ∧ (median lessLf d a b c s).2 ≤ s + 3 := by
  unfold median
  obtain ⟨p1, p2, p3⟩ := order2_in d (a := a) (b := b) (s := s) ha hb
  obtain ⟨q1, q2, q3⟩ := order2_in d (a := (order2 lessLf d a b s).2.1) (b := c) (s := (order2 lessLf d a b s).2.2) p2 hc
  obtain ⟨r1, r2, r3⟩ := order2_in d (a := (order2 lessLf d a b s).1) (b := (order2 lessLf d (order2 lessLf d a b s).2.1 c (order2 lessLf d a b s).2.2).1) (s := (order2 lessLf d (order2 lessLf d a b s).2.1 c (order2 lessLf d a b s).2.2).2.2) p1 q1
  refine ⟨r2, ?_⟩
  dsimp only
  omega

set_option maxRecDepth 100000 in
set_option maxHeartbeats 4000000 in
theorem median_any (H : Hd sf lb sb g n I) (a b c C s : Nat) (d : Array Lf) (w0 w : World) (h : I d w0) (hc : Ct w0 C s w) (ha : a < n) (hb : b < n) (hcn : c < n) (hs : s < 900000) :
    Calls Tryd.prog 120 #[lsV sf lb sb, .int .i64 (a : Int), .int .i64 (b : Int), .int .i64 (c : Int), .pointer (some ⟨C, 0, none⟩)] w fun e w' =>
      e = .returned (.int .i64 ((median lessLf d a b c s).1 : Int)) ∧ Ct w0 C (median lessLf d a b c s).2 w' ∧ w.grownBy w' (some C) := by
  have hB1 : Below w.heap.size w (w.alloc (.cells #[.func (.func 76) #[] lb, .func (.func sf) #[] sb] 157)) := (Below.refl _ w).alloc (Nat.le_refl _) _
  have kb1 := Blk.new w 157 [.func (.func 76) #[] lb, .func (.func sf) #[] sb]
  have hc1 := hc.below hB1
  have hCw : C ≠ w.heap.size := by have := hc.blk.lt; omega
  obtain ⟨a1, b1, s1, hO1⟩ : ∃ a1 b1 s1, order2 lessLf d a b s = (a1, b1, s1) := ⟨_, _, _, rfl⟩
  obtain ⟨p1, p2, p3⟩ := order2_in d (a := a) (b := b) (s := s) ha hb
  rw [hO1] at p1 p2 p3
  obtain ⟨b2, c2, s2, hO2⟩ : ∃ b2 c2 s2, order2 lessLf d b1 c s1 = (b2, c2, s2) := ⟨_, _, _, rfl⟩
  obtain ⟨q1, q2, q3⟩ := order2_in d (a := b1) (b := c) (s := s1) p2 hcn
  rw [hO2] at q1 q2 q3
  obtain ⟨a3, b3, s3, hO3⟩ : ∃ a3 b3 s3, order2 lessLf d a1 b2 s2 = (a3, b3, s3) := ⟨_, _, _, rfl⟩
  have HM := Lib.hid (show median lessLf d a b c s = (b3, s3) from by simp only [median, hO1, hO2, hO3])
  have O1 := Lib.hid (fun W hc => order2_any H a b C s d w0 W h hc ha hb (by omega))
  have O2 := Lib.hid (fun W hc => order2_any H b1 c C s1 d w0 W h hc p2 hcn (by simp at p3; omega))
  have O3 := Lib.hid (fun W hc => order2_any H a1 b2 C s2 d w0 W h hc p1 q1 (by simp at p3 q3; omega))
  rw [hO1] at O1
  rw [hO2] at O2
  rw [hO3] at O3
  clear hO1 hO2 hO3 p1 p2 p3 q1 q2 q3
  have c0 := kb1.cell (j := 0) rfl
  have c1 := kb1.cell (j := 1) rfl
  go_enter Tryd.func120, Tryd.ntmps120
  go_wp2_with fail
  refine (O1.out _ hc1).mono ?_
  rintro e w2 ⟨rfl, hc2, hg2⟩
  have kb2 := kb1.grown hg2 (by simpa using hCw)
  have d0 := kb2.cell (j := 0) rfl
  have d1 := kb2.cell (j := 1) rfl
  go_wp2_with fail
  refine (O2.out _ hc2).mono ?_
  rintro e w3 ⟨rfl, hc3, hg3⟩
  have kb3 := kb2.grown hg3 (by simpa using hCw)
  have f0 := kb3.cell (j := 0) rfl
  have f1 := kb3.cell (j := 1) rfl
  go_wp2_with fail
  refine (O3.out _ hc3).mono ?_
  rintro e w4 ⟨rfl, hc4, hg4⟩
  go_wp2_with fail
  go_ret
  rw [HM.out]
  exact ⟨rfl, hc4, grown2 (grown2 (grown2 (grown_of hB1 _) hg2 (fun k e => .inr e)) hg3 (fun k e => .inr e)) hg4 (fun k e => .inr e)⟩

set_option maxRecDepth 100000 in
theorem medAdj_any (H : Hd sf lb sb g n I) (a C s : Nat) (d : Array Lf) (w0 w : World) (h : I d w0) (hc : Ct w0 C s w) (ha : 1 ≤ a) (hb : a + 1 < n) (hs : s < 900000) (hn : n < 1000000000) :
    Calls Tryd.prog 119 #[lsV sf lb sb, .int .i64 (a : Int), .pointer (some ⟨C, 0, none⟩)] w fun e w' =>
      e = .returned (.int .i64 ((medianAdjacent lessLf d a s).1 : Int)) ∧ Ct w0 C (medianAdjacent lessLf d a s).2 w' ∧ w.grownBy w' (some C) := by
  have hB1 : Below w.heap.size w (w.alloc (.cells #[.func (.func 76) #[] lb, .func (.func sf) #[] sb] 157)) := (Below.refl _ w).alloc (Nat.le_refl _) _
  have M := median_any H (a - 1) a (a + 1) C s d w0 _ h (hc.below hB1) (by omega) (by omega) hb hs
  rw [show ((a - 1 : Nat) : Int) = (a : Int) - 1 by omega, show ((a + 1 : Nat) : Int) = (a : Int) + 1 by omega] at M
  unfold medianAdjacent
  generalize median lessLf d (a - 1) a (a + 1) s = r at *
  go_enter Tryd.func119, Tryd.ntmps119
  go_wp2_with fail
  refine M.mono ?_
  rintro e w4 ⟨rfl, hc4, hg4⟩
  go_wp2_with fail
  go_ret
  exact ⟨rfl, hc4, grown2 (grown_of hB1 _) hg4 (fun k e => .inr e)⟩
end
end
/-! choosePivot_func. -/
section
open Go.RowKit Go.Sort
section
variable {sf : Nat} {lb sb : Array Value} {g n : Nat} {I : Array Lf → World → Prop}
theorem medAdj_lt (d : Array Lf) {a s m : Nat} (ha : a + 1 < m) : (medianAdjacent lessLf d a s).1 < m ∧ (medianAdjacent lessLf d a s).2 ≤ s + 3 := by
  unfold medianAdjacent
  exact median_lt d (by omega) (by omega) ha

set_option maxRecDepth 100000 in
set_option maxHeartbeats 4000000 in
theorem choose_any (H : Hd sf lb sb g n I) (a b : Nat) (d : Array Lf) (w : World) (h : I d w) (hab : a < b) (hb : b ≤ n) (hn : n < 1000000000) :
    Calls Tryd.prog 111 #[lsV sf lb sb, .int .i64 (a : Int), .int .i64 (b : Int)] w fun e w' =>
      e = .returned (.tuple #[.int .i64 ((choosePivot lessLf d a b).1 : Int), .int .i64 (hintCode (choosePivot lessLf d a b).2)]) ∧ Below w.heap.size w w' := by
  have hB1 : Below w.heap.size w (w.alloc (.cells #[.func (.func 76) #[] lb, .func (.func sf) #[] sb] 157)) := (Below.refl _ w).alloc (Nat.le_refl _) _
  have kb1 := Blk.new w 157 [.func (.func 76) #[] lb, .func (.func sf) #[] sb]
  have hz1 : (w.alloc (.cells #[.func (.func 76) #[] lb, .func (.func sf) #[] sb] 157)).heap.size = w.heap.size + 1 := by simp
  have kb2 := kb1.alloc (.cells #[.int .i64 0] 3)
  have hB2 := hB1.alloc hB1.size (.cells #[.int .i64 0] 3)
  have hC : Ct w (w.heap.size + 1) 0 ((w.alloc (.cells #[.func (.func 76) #[] lb, .func (.func sf) #[] sb] 157)).alloc (.cells #[.int .i64 0] 3)) :=
    ⟨hB2, by omega, by have := Blk.new (w.alloc (.cells #[.func (.func 76) #[] lb, .func (.func sf) #[] sb] 157)) 3 [.int .i64 0]; rw [hz1] at this; exact this⟩
  have MA := Lib.hid (fun (x s : Nat) (W : World) hc h1 h2 h3 => medAdj_any H x (w.heap.size + 1) s d w W h hc h1 h2 h3 hn)
  have MD := Lib.hid (fun (x y z s : Nat) (W : World) hc h1 h2 h3 h4 => median_any H x y z (w.heap.size + 1) s d w W h hc h1 h2 h3 h4)
  have hne : ∀ q : Nat, some (w.heap.size + 1) ≠ some q ↔ w.heap.size + 1 ≠ q := fun q => by simp
  have hne1 : some (w.heap.size + 1) ≠ some w.heap.size := by simp
  have c0 := kb2.cell (j := 0) rfl
  have c1 := kb2.cell (j := 1) rfl
  have k0 := hC.blk.cell (j := 0) rfl
  rw [choosePivot_eq]
  obtain ⟨I', hI⟩ : ∃ I' : Nat, I' = a + (b - a) / 4 * 1 := ⟨_, rfl⟩
  obtain ⟨J, hJ⟩ : ∃ J : Nat, J = a + (b - a) / 4 * 2 := ⟨_, rfl⟩
  obtain ⟨K, hK⟩ : ∃ K : Nat, K = a + (b - a) / 4 * 3 := ⟨_, rfl⟩
  have eI : ((a : Int) + ((b : Int) - (a : Int)) / 4) = (I' : Int) := by omega
  have eJ : ((a : Int) + ((b : Int) - (a : Int)) / 4 * 2) = (J : Int) := by omega
  have eK : ((a : Int) + ((b : Int) - (a : Int)) / 4 * 3) = (K : Int) := by omega
  have fin : ∀ s : Nat, s = 0 ∨ s = 12 ∨ (s ≠ 0 ∧ s ≠ 12) := fun s => by omega
  have hab' : (a : Int) < (b : Int) := by omega
  by_cases h8 : b - a ≥ 8
  · have h8' : (8 : Int) ≤ (b : Int) - (a : Int) := by omega
    by_cases h50 : b - a ≥ 50
    · have h50' : (50 : Int) ≤ (b : Int) - (a : Int) := by omega
      obtain ⟨i1, s1, q1⟩ : ∃ i1 s1, medianAdjacent lessLf d I' 0 = (i1, s1) := ⟨_, _, rfl⟩
      obtain ⟨j1, s2, q2⟩ : ∃ j1 s2, medianAdjacent lessLf d J s1 = (j1, s2) := ⟨_, _, rfl⟩
      obtain ⟨k1, s3, q3⟩ : ∃ k1 s3, medianAdjacent lessLf d K s2 = (k1, s3) := ⟨_, _, rfl⟩
      obtain ⟨p, s, q4⟩ : ∃ p s, median lessLf d i1 j1 k1 s3 = (p, s) := ⟨_, _, rfl⟩
      have hraw : rawPivot lessLf d a b = (p, s) := by simp only [rawPivot, if_pos h8, if_pos h50, ← hI, ← hJ, ← hK, q1, q2, q3, q4]
      have m1 := medAdj_lt d (a := I') (s := 0) (m := n) (by omega); rw [q1] at m1
      have m2 := medAdj_lt d (a := J) (s := s1) (m := n) (by omega); rw [q2] at m2
      have m3 := medAdj_lt d (a := K) (s := s2) (m := n) (by omega); rw [q3] at m3
      simp only [] at m1 m2 m3
      have C1 := Lib.hid (fun W hc => MA.out I' 0 W hc (by omega) (by omega) (by omega))
      have C2 := Lib.hid (fun W hc => MA.out J s1 W hc (by omega) (by omega) (by omega))
      have C3 := Lib.hid (fun W hc => MA.out K s2 W hc (by omega) (by omega) (by omega))
      have C4 := Lib.hid (fun W hc => MD.out i1 j1 k1 s3 W hc m1.1 m2.1 m3.1 (by omega))
      rw [q1] at C1
      rw [q2] at C2
      rw [q3] at C3
      rw [q4] at C4
      rw [hraw]
      clear q1 q2 q3 q4 hraw MA MD hI hJ hK m1 m2 m3
      go_enter Tryd.func111, Tryd.ntmps111
      go_wp2_with fail
      refine (C1.out _ hC).mono ?_
      rintro e w3 ⟨rfl, hc3, hg3⟩
      have kb3 := kb2.grown hg3 hne1
      have c0 := kb3.cell (j := 0) rfl
      have c1 := kb3.cell (j := 1) rfl
      clear k0
      go_wp2_with fail
      refine (C2.out _ hc3).mono ?_
      rintro e w4 ⟨rfl, hc4, hg4⟩
      have kb4 := kb3.grown hg4 hne1
      have c0 := kb4.cell (j := 0) rfl
      have c1 := kb4.cell (j := 1) rfl
      go_wp2_with fail
      refine (C3.out _ hc4).mono ?_
      rintro e w5 ⟨rfl, hc5, hg5⟩
      have kb5 := kb4.grown hg5 hne1
      have c0 := kb5.cell (j := 0) rfl
      have c1 := kb5.cell (j := 1) rfl
      go_wp2_with fail
      refine (C4.out _ hc5).mono ?_
      rintro e w6 ⟨rfl, hc6, hg6⟩
      have k0 := hc6.blk.cell (j := 0) rfl
      have hbel := hc6.bel
      rcases fin s with rfl | rfl | ⟨e1, e2⟩
      · go_wp2_with fail
        go_ret2
        exact ⟨rfl, hbel⟩
      · go_wp2_with fail
        go_ret2
        exact ⟨rfl, hbel⟩
      · have b1 : ((s : Int) == 0) = false := by simpa using e1
        have b2 : ((s : Int) == 12) = false := by simp; omega
        go_wp2_with fail
        go_ret2
        refine ⟨?_, hbel⟩
        unfold hintOf
        rw [if_neg e1, if_neg e2]
        rfl
    · have h50' : ¬ (50 : Int) ≤ (b : Int) - (a : Int) := by omega
      obtain ⟨p, s, q4⟩ : ∃ p s, median lessLf d I' J K 0 = (p, s) := ⟨_, _, rfl⟩
      have hraw : rawPivot lessLf d a b = (p, s) := by simp only [rawPivot, if_pos h8, if_neg h50, ← hI, ← hJ, ← hK, q4]
      have C4 := Lib.hid (fun W hc => MD.out I' J K 0 W hc (by omega) (by omega) (by omega) (by omega))
      rw [q4] at C4
      rw [hraw]
      clear q4 hraw MA MD hI hJ hK
      go_enter Tryd.func111, Tryd.ntmps111
      go_wp2_with fail
      refine (C4.out _ hC).mono ?_
      rintro e w6 ⟨rfl, hc6, hg6⟩
      have k0 := hc6.blk.cell (j := 0) rfl
      have hbel := hc6.bel
      rcases fin s with rfl | rfl | ⟨e1, e2⟩
      · go_wp2_with fail
        go_ret2
        exact ⟨rfl, hbel⟩
      · go_wp2_with fail
        go_ret2
        exact ⟨rfl, hbel⟩
      · have b1 : ((s : Int) == 0) = false := by simpa using e1
        have b2 : ((s : Int) == 12) = false := by simp; omega
        go_wp2_with fail
        go_ret2
        refine ⟨?_, hbel⟩
        unfold hintOf
        rw [if_neg e1, if_neg e2]
        rfl
  · have h8' : ¬ (8 : Int) ≤ (b : Int) - (a : Int) := by omega
    have hraw : rawPivot lessLf d a b = (J, 0) := by simp only [rawPivot, if_neg h8, ← hJ]
    rw [hraw]
    clear hraw MA MD hI hJ hK
    have hbel := hC.bel
    go_enter Tryd.func111, Tryd.ntmps111
    go_wp2_with fail
    go_ret2
    exact ⟨rfl, hbel⟩
end
end
/-! breakPatterns_func. -/
section
open Go.RowKit Go.Sort
section
variable {sf : Nat} {lb sb : Array Value} {g n : Nat} {I : Array Lf → World → Prop}

/-- what is known hangs on no block from B0 on -/
structure Asd (B0 : Nat) (I : Array Lf → World → Prop) : Prop where
  keep : ∀ {d W W' C}, I d W → B0 ≤ C → W.grownBy W' (some C) → I d W'
  low : ∀ {d W}, I d W → B0 ≤ W.heap.size
theorem Asd.box {B0 : Nat} (hA : Asd B0 I) {d : Array Lf} {w : World} (h : I d w) : Asd (w.heap.size + 1) (Bx sf lb sb g (fun d W => I d W ∧ w.grownBy W (some g)) w.heap.size) where
  keep {d W W' C} k hC hg := by
    have h0 := hA.low h
    have hne : w.heap.size ≠ C := by omega
    have hne2 : ∀ q : Nat, (some (⟨w.heap.size, q, none⟩ : Addr).block) ≠ some C := fun q => by simpa using hne
    exact ⟨⟨hA.keep k.st.1 (by omega) hg, grown2 k.st.2 hg (fun q e => .inl (by cases e; omega))⟩, hg.cell k.c0 (hne2 0), hg.cell k.c1 (hne2 1), k.ne⟩
  low {d W} k := by
    have := World.block_lt_of_cell? _ _ k.c0
    exact this

set_option maxRecDepth 100000 in
set_option maxHeartbeats 6000000 in
theorem breakL_any (H : Hd sf lb sb g n I) {B0 : Nat} (hA : Asd B0 I) (a L : Nat) (d : Array Lf) (w : World) (h : I d w) (hb : a + L ≤ n) (h8 : 8 ≤ L) (hn : n < 1000000000) :
    Calls Tryd.prog 110 #[lsV sf lb sb, .int .i64 (a : Int), .int .i64 ((a + L : Nat) : Int)] w fun e w' =>
      e = .returned (.tuple #[]) ∧ I (breakPatterns d a (a + L)) w' ∧ w.grownBy w' (some g) := by
  have HJ := (H.since w).box w.heap.size
  have h0 := H.boxed h
  have AJ : Asd (w.heap.size + 1) (Bx sf lb sb g (fun d W => I d W ∧ w.grownBy W (some g)) w.heap.size) := hA.box h
  have hgl := H.lt h
  rw [breakPatterns_eq d a L h8]
  obtain ⟨M, hM⟩ : ∃ M : Nat, M = 1 <<< bitsLen L := ⟨_, rfl⟩
  have hM1 : 1 ≤ M := by rw [hM, Nat.one_shiftLeft]; exact Nat.two_pow_pos _
  have hM2 : M ≤ 2 * L := by rw [hM, Nat.one_shiftLeft]; exact two_pow_bitsLen_le (by omega)
  have hNP : ∀ w, Calls Tryd.prog 117 #[.int .i64 (L : Int)] w fun e w' => e = .returned (.int .u64 (M : Int)) ∧ w' = w := by rw [hM]; exact fun w => Any.nextPowerOfTwo { sortLays with } L (by omega) w
  rw [← hM]
  clear hM
  have hLz : ((a : Int) + (L : Int) - (a : Int)) = (L : Int) := by omega
  have h8z : (8 : Int) ≤ (L : Int) := by omega
  have hz1 : (w.alloc (.cells #[.func (.func 76) #[] lb, .func (.func sf) #[] sb] 157)).heap.size = w.heap.size + 1 := by simp
  go_enter Tryd.func110, Tryd.ntmps110
  go_wp2_with fail
  refine (hNP _).mono ?_
  rintro e w2 ⟨rfl, rfl⟩
  have kR := Blk.new (w.alloc (.cells #[.func (.func 76) #[] lb, .func (.func sf) #[] sb] 157)) 171 [.int .u64 (L : Int)]
  have h1 := HJ.below h0 ((Below.refl _ (w.alloc (.cells #[.func (.func 76) #[] lb, .func (.func sf) #[] sb] 157))).alloc (Nat.le_refl _) (.cells #[.int .u64 (L : Int)] 171))
  rw [hz1] at kR
  clear h0
  replace kR : Blk ((w.alloc (.cells #[.func (.func 76) #[] lb, .func (.func sf) #[] sb] 157)).alloc (.cells #[.int .u64 (L : Int)] 171)) (w.heap.size + 1) 171 [.int .u64 (L : Int)] := kR
  generalize (w.alloc _).alloc _ = w1 at *
  go_wp2_with fail
  go_loopw [9] (fun vi wr => ∃ (t : Nat) (r : UInt64) (dk : Array Lf), vi = .int .i64 ((a : Int) + (L : Int) / 4 * 2 - 1 + (t : Int)) ∧ t ≤ 3 ∧ Bx sf lb sb g (fun d W => I d W ∧ w.grownBy W (some g)) w.heap.size dk wr ∧
      Blk wr (w.heap.size + 1) 171 [.int .u64 (r.toNat : Int)] ∧
      bpRest a L M (a + L / 4 * 2 - 1) (3 - t) t (r, dk) = bpRest a L M (a + L / 4 * 2 - 1) 3 0 (UInt64.ofNat L, d)) (fun vi _ => ((a : Int) + (L : Int) / 4 * 2 + 3 - intOf vi).toNat)
  case atStart =>
    refine ⟨0, UInt64.ofNat L, d, by simp, by omega, h1, ?_, rfl⟩
    rw [show (UInt64.ofNat L).toNat = L from by simp; omega]
    exact kR
  case round =>
    clear kR h1
    obtain ⟨t, r, dk, rfl, ht, hK, kR, hR⟩ := hrel
    have HR := Lib.hid hR
    clear hR
    by_cases ht3 : t < 3
    · have hle : (a : Int) + (L : Int) / 4 * 2 - 1 + (t : Int) ≤ (a : Int) + (L : Int) / 4 * 2 + 1 := by omega
      obtain ⟨R, hRr⟩ : ∃ R : Nat, R = r.toNat := ⟨_, rfl⟩
      have lR : R < 18446744073709551616 := by rw [hRr]; exact r.toNat_lt
      obtain ⟨R', hR'⟩ : ∃ R' : Nat, R' = xorNextN R := ⟨_, rfl⟩
      have lR' : R' < 18446744073709551616 := by rw [hR']; exact xorNextN_lt R lR
      obtain ⟨O, hO⟩ : ∃ O : Nat, O = R' &&& (M - 1) := ⟨_, rfl⟩
      have lO : O ≤ M - 1 := by rw [hO]; exact Nat.and_le_right
      have eAnd : bits .and .u64 (R' : Int) ((M : Int) - 1) = (O : Int) := by
        rw [show ((M : Int) - 1) = ((M - 1 : Nat) : Int) by omega, bits_and_u64_nat _ _ lR' (by omega), hO]
      rw [← hRr] at kR
      have hNext : Calls Tryd.prog 118 #[.pointer (some ⟨w.heap.size + 1, 0, none⟩)] wr fun e w' => e = .returned (.int .u64 (R' : Int)) ∧ w' = (wr.setCell ⟨w.heap.size + 1, 0, none⟩ (.int .u64 (R' : Int))).drewN 3 := by
        rw [hR']; exact Any.xorshift_Next { sortLays with } _ _ R lR wr (kR.cell (j := 0) rfl) (kR.free 0)
      have HN := Lib.hid (show R' = (xorNext r).toNat ∧ O = (xorNext r).toNat &&& (M - 1) from by
        have e : R' = (xorNext r).toNat := by rw [hR', hRr, xorNext_toNat]
        exact ⟨e, by rw [hO, e]⟩)
      clear hRr hR' hO
      have kR2 := (kR.set 0 (.int .u64 (R' : Int))).drewN 3
      have hK2 : Bx sf lb sb g (fun d W => I d W ∧ w.grownBy W (some g)) w.heap.size dk ((wr.setCell ⟨w.heap.size + 1, 0, none⟩ (.int .u64 (R' : Int))).drewN 3) :=
        HJ.below (AJ.keep hK (Nat.le_refl _) (set_grown wr (w.heap.size + 1) 0 (.int .u64 (R' : Int)))) ⟨rfl, rfl, rfl, Nat.le_refl _, fun _ _ => rfl⟩
      go_wp2_with fail
      refine hNext.mono ?_
      rintro e w3 ⟨rfl, rfl⟩
      generalize (wr.setCell _ _).drewN 3 = w3 at *
      have c1 := hK2.c1
      clear hNext kR hK
      by_cases hLO : L ≤ O
      · have hLOz : (L : Int) ≤ (O : Int) := by omega
        go_wp2_with fail
        obtain ⟨w4, hs1, h4, hg4⟩ := HJ.swap (a + L / 4 * 2 - 1 + t) (a + (O - L)) hK2 (by omega) (by omega) (by omega)
        rw [show ((a + L / 4 * 2 - 1 + t : Nat) : Int) = (a : Int) + (L : Int) / 4 * 2 - 1 + (t : Int) by omega, show ((a + (O - L) : Nat) : Int) = (a : Int) + ((O : Int) - (L : Int)) by omega] at hs1
        rw [hs1, Oper.upon_value]
        clear hs1
        have kR4 := kR2.grown hg4 (by simp; omega)
        go_wp2_with fail
        exact ⟨⟨t + 1, xorNext r, _, by congr 1; push_cast; omega, by omega, h4, by rw [← HN.out.1]; exact kR4, by rw [← HR.out, bp_step a L M _ t r dk (O - L) ht3 (by rw [← HN.out.2, if_pos (by omega)])]⟩, by simp [intOf]; omega⟩
      · have hLOz : ¬ (L : Int) ≤ (O : Int) := by omega
        go_wp2_with fail
        obtain ⟨w4, hs1, h4, hg4⟩ := HJ.swap (a + L / 4 * 2 - 1 + t) (a + O) hK2 (by omega) (by omega) (by omega)
        rw [show ((a + L / 4 * 2 - 1 + t : Nat) : Int) = (a : Int) + (L : Int) / 4 * 2 - 1 + (t : Int) by omega, show ((a + O : Nat) : Int) = (a : Int) + (O : Int) by omega] at hs1
        rw [hs1, Oper.upon_value]
        clear hs1
        have kR4 := kR2.grown hg4 (by simp; omega)
        go_wp2_with fail
        exact ⟨⟨t + 1, xorNext r, _, by congr 1; push_cast; omega, by omega, h4, by rw [← HN.out.1]; exact kR4, by rw [← HR.out, bp_step a L M _ t r dk O ht3 (by rw [← HN.out.2, if_neg (by omega)])]⟩, by simp [intOf]; omega⟩
    · obtain rfl : t = 3 := by omega
      have hle : ¬ ((a : Int) + (L : Int) / 4 * 2 - 1 + ((3 : Nat) : Int) ≤ (a : Int) + (L : Int) / 4 * 2 + 1) := by omega
      go_wp2_with fail
      go_end0
      rw [← HR.out]
      exact ⟨rfl, hK.st⟩
theorem break_any (H : Hd sf lb sb g n I) {B0 : Nat} (hA : Asd B0 I) (a b : Nat) (d : Array Lf) (w : World) (h : I d w) (hab : a + 8 ≤ b) (hb : b ≤ n) (hn : n < 1000000000) :
    Calls Tryd.prog 110 #[lsV sf lb sb, .int .i64 (a : Int), .int .i64 (b : Int)] w fun e w' =>
      e = .returned (.tuple #[]) ∧ I (breakPatterns d a b) w' ∧ w.grownBy w' (some g) := by
  obtain ⟨L, rfl⟩ : ∃ L, b = a + L := ⟨b - a, by omega⟩
  exact breakL_any H hA a L d w h hb (by omega) hn
end
end
end
/-! Con05Q Con05U, in one text. -/
section
/-! partitionEqual_func, partition_func. -/
section
open Go.RowKit Go.Sort
section
variable {sf : Nat} {lb sb : Array Value} {g n : Nat} {I : Array Lf → World → Prop}

set_option maxRecDepth 100000 in
set_option maxHeartbeats 6000000 in
theorem partEq_any (H : Hd sf lb sb g n I) (a b pivot : Nat) (d : Array Lf) (w : World) (h : I d w) (hpb : pivot < b) (hab : a + 1 < b) (hb : b ≤ n) (hn : n < 1000000000) :
    Calls Tryd.prog 114 #[lsV sf lb sb, .int .i64 (a : Int), .int .i64 (b : Int), .int .i64 (pivot : Int)] w fun e w' =>
      e = .returned (.int .i64 ((partitionEqual lessLf d a b pivot).1 : Int)) ∧ I (partitionEqual lessLf d a b pivot).2 w' ∧ w.grownBy w' (some g) := by
  have HJ := (H.since w).box w.heap.size
  have h0 := H.boxed h
  have HP := Lib.hid (show partitionEqual lessLf d a b pivot = partEqLoop lessLf a (a + 1) (b - 1) (swp d a pivot) from rfl)
  generalize partitionEqual lessLf d a b pivot = R at *
  go_enter Tryd.func114, Tryd.ntmps114
  go_wp2_with fail
  generalize w.alloc _ = w1 at *
  obtain ⟨w2, hs1, h2, -⟩ := HJ.swap a pivot h0 (by omega) (by omega) (by omega)
  rw [hs1, Oper.upon_value]
  clear hs1 h0
  go_wp2_with fail
  go_loopw [9, 10] (fun s t wr => ∃ (i j : Nat) (dk : Array Lf), s = .int .i64 i ∧ t = .int .i64 j ∧ a < i ∧ i ≤ j + 1 ∧ j < b ∧ Bx sf lb sb g (fun d W => I d W ∧ w.grownBy W (some g)) w.heap.size dk wr ∧
      R = partEqLoop lessLf a i j dk) (fun s t _ => (intOf t).toNat + 1 - (intOf s).toNat)
  case atStart => exact ⟨a + 1, b - 1, _, by go_num, by congr 1; omega, by omega, by omega, by omega, h2, HP.out⟩
  case round =>
    obtain ⟨i, j, dk, rfl, rfl, hai, hij, hjb, hK, hE⟩ := hrel
    have HE := Lib.hid hE
    clear hE h2 HP
    go_wp2_with fail
    go_loopw [9] (fun v wr => ∃ i' : Nat, v = .int .i64 i' ∧ i ≤ i' ∧ i' ≤ j + 1 ∧ Bx sf lb sb g (fun d W => I d W ∧ w.grownBy W (some g)) w.heap.size dk wr ∧
        scanUp (fun x => !lessLf dk[a]! x) dk j i' = scanUp (fun x => !lessLf dk[a]! x) dk j i) (fun v _ => j + 1 - (intOf v).toNat)
    case atStart => exact ⟨i, rfl, Nat.le_refl _, hij, hK, rfl⟩
    case round =>
      clear hK
      obtain ⟨i', rfl, hii, hij', hK, hU⟩ := hrel
      have HU := Lib.hid hU
      clear hU
      have c0 := hK.c0
      by_cases hle : i' ≤ j
      · have hle' : (i' : Int) ≤ (j : Int) := by omega
        have hl := HJ.less a i' hK (by omega) (by omega)
        go_wp2_with fail
        refine hl.mono ?_
        rintro e w3 ⟨rfl, hb3⟩
        have hK3 := HJ.below hK hb3
        cases hL : lessLf dk[a]! dk[i']! with
        | false =>
          go_wp2_with fail
          exact ⟨⟨i' + 1, by go_num, by omega, by omega, hK3, by rw [← HU.out]; exact (scanUp_go (fun x => !lessLf dk[a]! x) dk j i' hle (by simp [hL])).symm⟩, by simp [intOf]; omega⟩
        | true =>
          have HI := Lib.hid (show i' = scanUp (fun x => !lessLf dk[a]! x) dk j i from by rw [← HU.out]; exact (scanUp_end (fun x => !lessLf dk[a]! x) dk j i' (.inr (by simp [hL]))).symm)
          clear HU c0 hl
          go_wp2_with fail
          go_loopw [10] (fun v wr => ∃ j' : Nat, v = .int .i64 j' ∧ j' ≤ j ∧ i' ≤ j' + 1 ∧ Bx sf lb sb g (fun d W => I d W ∧ w.grownBy W (some g)) w.heap.size dk wr ∧
              scanDown (fun x => lessLf dk[a]! x) dk i' j' = scanDown (fun x => lessLf dk[a]! x) dk i' j) (fun v _ => (intOf v).toNat)
          case atStart => exact ⟨j, rfl, Nat.le_refl _, by omega, hK3, rfl⟩
          case round =>
            clear hK hK3
            obtain ⟨j', rfl, hjj, hij2, hK, hD⟩ := hrel
            have HD := Lib.hid hD
            clear hD
            have c0 := hK.c0
            by_cases hle2 : i' ≤ j'
            · have hle2' : (i' : Int) ≤ (j' : Int) := by omega
              have hl := HJ.less a j' hK (by omega) (by omega)
              go_wp2_with fail
              refine hl.mono ?_
              rintro e w4 ⟨rfl, hb4⟩
              have hK4 := HJ.below hK hb4
              cases hL2 : lessLf dk[a]! dk[j']! with
              | true =>
                go_wp2_with fail
                exact ⟨⟨j' - 1, by congr 1; omega, by omega, by omega, hK4, by rw [← HD.out]; exact (scanDown_go (fun x => lessLf dk[a]! x) dk i' j' hle2 (by omega) hL2).symm⟩, by simp [intOf]; omega⟩
              | false =>
                have HJ2 := Lib.hid (show j' = scanDown (fun x => lessLf dk[a]! x) dk i' j from by rw [← HD.out]; exact (scanDown_end (fun x => lessLf dk[a]! x) dk i' j' (.inr hL2)).symm)
                have hlt := scans_lt lessLf a i j dk (by omega) HI.out HJ2.out hle2
                have hlt' : ¬ (i' : Int) > (j' : Int) := by omega
                have c1 := hK4.c1
                go_wp2_with fail
                obtain ⟨w5, hs1, h5, -⟩ := HJ.swap i' j' hK4 (by omega) (by omega) (by omega)
                rw [hs1, Oper.upon_value]
                clear hs1
                go_wp2_with fail
                exact ⟨⟨i' + 1, j' - 1, _, by go_num, by congr 1; omega, by omega, by omega, by omega, h5, by rw [HE.out]; exact partEq_go lessLf a i j dk HI.out HJ2.out (by omega)⟩, by simp [intOf]; omega⟩
            · have hle2' : ¬ (i' : Int) ≤ (j' : Int) := by omega
              have hgt : (i' : Int) > (j' : Int) := by omega
              have HJ2 := Lib.hid (show j' = scanDown (fun x => lessLf dk[a]! x) dk i' j from by rw [← HD.out]; exact (scanDown_end (fun x => lessLf dk[a]! x) dk i' j' (.inl hle2)).symm)
              go_wp2_with fail
              go_ret
              have hR : R = (i', dk) := by rw [HE.out]; exact partEq_break lessLf a i j dk HI.out HJ2.out (by omega)
              rw [hR]
              exact ⟨rfl, hK.st⟩
      · have hle' : ¬ (i' : Int) ≤ (j : Int) := by omega
        have hgt : (i' : Int) > (j : Int) := by omega
        have HI := Lib.hid (show i' = scanUp (fun x => !lessLf dk[a]! x) dk j i from by rw [← HU.out]; exact (scanUp_end (fun x => !lessLf dk[a]! x) dk j i' (.inl hle)).symm)
        have HJ2 := Lib.hid (show j = scanDown (fun x => lessLf dk[a]! x) dk i' j from (scanDown_end (fun x => lessLf dk[a]! x) dk i' j (.inl hle)).symm)
        go_wp2_with fail
        refine wp_loop_rounds 1 ?_
        rw [rounds_succ]
        go_wp2_with fail
        go_ret
        have hR : R = (i', dk) := by rw [HE.out]; exact partEq_break lessLf a i j dk HI.out HJ2.out (by omega)
        rw [hR]
        exact ⟨rfl, hK.st⟩

set_option maxRecDepth 100000 in
set_option maxHeartbeats 12000000 in
theorem part_any (H : Hd sf lb sb g n I) (a b pivot : Nat) (d : Array Lf) (w : World) (h : I d w) (hpb : pivot < b) (hab : a + 1 < b) (hb : b ≤ n) (hn : n < 1000000000) :
    Calls Tryd.prog 115 #[lsV sf lb sb, .int .i64 (a : Int), .int .i64 (b : Int), .int .i64 (pivot : Int)] w fun e w' =>
      e = .returned (.tuple #[.int .i64 ((partition lessLf d a b pivot).1 : Int), .bool (partition lessLf d a b pivot).2.1]) ∧ I (partition lessLf d a b pivot).2.2 w' ∧ w.grownBy w' (some g) := by
  have HJ := (H.since w).box w.heap.size
  have h0 := H.boxed h
  have HB := Lib.hid (fun (i2 j2 : Nat) hi2 hj2 h => part_first_break lessLf d a b pivot (i := a + 1) (j := b - 1) (dk := swp d a pivot) (i2 := i2) (j2 := j2) rfl rfl rfl hi2 hj2 h)
  have HG := Lib.hid (fun (i2 j2 : Nat) hi2 hj2 h => part_first_go lessLf d a b pivot (i := a + 1) (j := b - 1) (dk := swp d a pivot) (i2 := i2) (j2 := j2) rfl rfl rfl hi2 hj2 h)
  generalize partition lessLf d a b pivot = R at *
  go_enter Tryd.func115, Tryd.ntmps115
  go_wp2_with fail
  generalize w.alloc _ = w1 at *
  obtain ⟨w2, hs1, hK, -⟩ := HJ.swap a pivot h0 (by omega) (by omega) (by omega)
  rw [hs1, Oper.upon_value]
  clear hs1 h0
  generalize swp d a pivot = dk at *
  go_wp2_with fail
  -- PARTITION
  go_loopw [10] (fun v wr => ∃ i' : Nat, v = .int .i64 i' ∧ (a + 1) ≤ i' ∧ i' ≤ (b - 1) + 1 ∧ Bx sf lb sb g (fun d W => I d W ∧ w.grownBy W (some g)) w.heap.size dk wr ∧
      scanUp (fun x => lessLf x dk[a]!) dk (b - 1) i' = scanUp (fun x => lessLf x dk[a]!) dk (b - 1) (a + 1)) (fun v _ => (b - 1) + 1 - (intOf v).toNat)
  case atStart => exact ⟨(a + 1), by first | rfl | (congr 1; omega), Nat.le_refl _, by omega, hK, rfl⟩
  case round =>
    clear hK
    obtain ⟨i', rfl, hii, hij', hK, hU⟩ := hrel
    have HU := Lib.hid hU
    clear hU
    have c0 := hK.c0
    by_cases hle : i' ≤ (b - 1)
    · have hle' : (i' : Int) ≤ ((b : Int) - 1) := by omega
      have hl := HJ.less i' a hK (by omega) (by omega)
      go_wp2_with fail
      refine hl.mono ?_
      rintro e w3 ⟨rfl, hb3⟩
      have hK3 := HJ.below hK hb3
      cases hL : lessLf dk[i']! dk[a]! with
      | true =>
        go_wp2_with fail
        exact ⟨⟨i' + 1, by go_num, by omega, by omega, hK3, by rw [← HU.out]; exact (scanUp_go (fun x => lessLf x dk[a]!) dk (b - 1) i' hle hL).symm⟩, by simp [intOf]; omega⟩
      | false =>
        have HI := Lib.hid (show i' = scanUp (fun x => lessLf x dk[a]!) dk (b - 1) (a + 1) from by rw [← HU.out]; exact (scanUp_end (fun x => lessLf x dk[a]!) dk (b - 1) i' (.inr hL)).symm)
        clear HU c0 hl
        go_wp2_with fail
        go_loopw [11] (fun v wr => ∃ j' : Nat, v = .int .i64 j' ∧ j' ≤ (b - 1) ∧ i' ≤ j' + 1 ∧ Bx sf lb sb g (fun d W => I d W ∧ w.grownBy W (some g)) w.heap.size dk wr ∧
            scanDown (fun x => !lessLf x dk[a]!) dk i' j' = scanDown (fun x => !lessLf x dk[a]!) dk i' (b - 1)) (fun v _ => (intOf v).toNat)
        case atStart => exact ⟨(b - 1), by first | rfl | (congr 1; omega), Nat.le_refl _, by omega, hK3, rfl⟩
        case round =>
          clear hK hK3
          obtain ⟨j', rfl, hjj, hij2, hK, hD⟩ := hrel
          have HD := Lib.hid hD
          clear hD
          have c0 := hK.c0
          by_cases hle2 : i' ≤ j'
          · have hle2' : (i' : Int) ≤ (j' : Int) := by omega
            have hl := HJ.less j' a hK (by omega) (by omega)
            go_wp2_with fail
            refine hl.mono ?_
            rintro e w4 ⟨rfl, hb4⟩
            have hK4 := HJ.below hK hb4
            cases hL2 : lessLf dk[j']! dk[a]! with
            | false =>
              go_wp2_with fail
              exact ⟨⟨j' - 1, by congr 1; omega, by omega, by omega, hK4, by rw [← HD.out]; exact (scanDown_go (fun x => !lessLf x dk[a]!) dk i' j' hle2 (by omega) (by simp [hL2])).symm⟩, by simp [intOf]; omega⟩
            | true =>
              have HJ2 := Lib.hid (show j' = scanDown (fun x => !lessLf x dk[a]!) dk i' (b - 1) from by rw [← HD.out]; exact (scanDown_end (fun x => !lessLf x dk[a]!) dk i' j' (.inr (by simp [hL2]))).symm)
              have hlt := part_scans_lt lessLf a (a + 1) (b - 1) dk (by omega) HI.out HJ2.out hle2
              have hlt' : ¬ (i' : Int) > (j' : Int) := by omega
              have c1 := hK4.c1
              clear hK hl c0
              go_wp2_with fail
              obtain ⟨w5, hs1, h5, -⟩ := HJ.swap i' j' hK4 (by omega) (by omega) (by omega)
              rw [hs1, Oper.upon_value]
              clear hs1
              go_wp2_with fail
              have HRR := HG.out i' j' HI.out HJ2.out (by omega)
              obtain ⟨P, hP⟩ : ∃ P, P = partLoop lessLf a (i' + 1) (j' - 1) (swp dk i' j') := ⟨_, rfl⟩
              rw [← hP] at HRR
              have HR := Lib.hid HRR
              have HP := Lib.hid hP
              clear HRR hP HB HG hK4
              go_loopw [10, 11] (fun s t wr => ∃ (i j : Nat) (dk : Array Lf), s = .int .i64 i ∧ t = .int .i64 j ∧ a < i ∧ i ≤ j + 1 ∧ j < b ∧ Bx sf lb sb g (fun d W => I d W ∧ w.grownBy W (some g)) w.heap.size dk wr ∧ P = partLoop lessLf a i j dk) (fun s t _ => (intOf t).toNat + 1 - (intOf s).toNat)
              case atStart => exact ⟨i' + 1, j' - 1, _, by go_num, by congr 1; omega, by omega, by omega, by omega, h5, HP.out⟩
              case round =>
                clear HP HI HJ2 h5 HD hL hL2 hlt hlt' hle' hle2'
                obtain ⟨i, j, dk, rfl, rfl, hai, hij, hjb, hK, hE⟩ := hrel
                have HE := Lib.hid hE
                clear hE
                go_wp2_with fail
                go_loopw [10] (fun v wr => ∃ i' : Nat, v = .int .i64 i' ∧ i ≤ i' ∧ i' ≤ j + 1 ∧ Bx sf lb sb g (fun d W => I d W ∧ w.grownBy W (some g)) w.heap.size dk wr ∧
                    scanUp (fun x => lessLf x dk[a]!) dk j i' = scanUp (fun x => lessLf x dk[a]!) dk j i) (fun v _ => j + 1 - (intOf v).toNat)
                case atStart => exact ⟨i, by first | rfl | (congr 1; omega), Nat.le_refl _, by omega, hK, rfl⟩
                case round =>
                  clear hK
                  obtain ⟨i', rfl, hii, hij', hK, hU⟩ := hrel
                  have HU := Lib.hid hU
                  clear hU
                  have c0 := hK.c0
                  by_cases hle : i' ≤ j
                  · have hle' : (i' : Int) ≤ (j : Int) := by omega
                    have hl := HJ.less i' a hK (by omega) (by omega)
                    go_wp2_with fail
                    refine hl.mono ?_
                    rintro e w3 ⟨rfl, hb3⟩
                    have hK3 := HJ.below hK hb3
                    cases hL : lessLf dk[i']! dk[a]! with
                    | true =>
                      go_wp2_with fail
                      exact ⟨⟨i' + 1, by go_num, by omega, by omega, hK3, by rw [← HU.out]; exact (scanUp_go (fun x => lessLf x dk[a]!) dk j i' hle hL).symm⟩, by simp [intOf]; omega⟩
                    | false =>
                      have HI := Lib.hid (show i' = scanUp (fun x => lessLf x dk[a]!) dk j i from by rw [← HU.out]; exact (scanUp_end (fun x => lessLf x dk[a]!) dk j i' (.inr hL)).symm)
                      clear HU c0 hl
                      go_wp2_with fail
                      go_loopw [11] (fun v wr => ∃ j' : Nat, v = .int .i64 j' ∧ j' ≤ j ∧ i' ≤ j' + 1 ∧ Bx sf lb sb g (fun d W => I d W ∧ w.grownBy W (some g)) w.heap.size dk wr ∧
                          scanDown (fun x => !lessLf x dk[a]!) dk i' j' = scanDown (fun x => !lessLf x dk[a]!) dk i' j) (fun v _ => (intOf v).toNat)
                      case atStart => exact ⟨j, by first | rfl | (congr 1; omega), Nat.le_refl _, by omega, hK3, rfl⟩
                      case round =>
                        clear hK hK3
                        obtain ⟨j', rfl, hjj, hij2, hK, hD⟩ := hrel
                        have HD := Lib.hid hD
                        clear hD
                        have c0 := hK.c0
                        by_cases hle2 : i' ≤ j'
                        · have hle2' : (i' : Int) ≤ (j' : Int) := by omega
                          have hl := HJ.less j' a hK (by omega) (by omega)
                          go_wp2_with fail
                          refine hl.mono ?_
                          rintro e w4 ⟨rfl, hb4⟩
                          have hK4 := HJ.below hK hb4
                          cases hL2 : lessLf dk[j']! dk[a]! with
                          | false =>
                            go_wp2_with fail
                            exact ⟨⟨j' - 1, by congr 1; omega, by omega, by omega, hK4, by rw [← HD.out]; exact (scanDown_go (fun x => !lessLf x dk[a]!) dk i' j' hle2 (by omega) (by simp [hL2])).symm⟩, by simp [intOf]; omega⟩
                          | true =>
                            have HJ2 := Lib.hid (show j' = scanDown (fun x => !lessLf x dk[a]!) dk i' j from by rw [← HD.out]; exact (scanDown_end (fun x => !lessLf x dk[a]!) dk i' j' (.inr (by simp [hL2]))).symm)
                            have hlt := part_scans_lt lessLf a i j dk (by omega) HI.out HJ2.out hle2
                            have hlt' : ¬ (i' : Int) > (j' : Int) := by omega
                            have c1 := hK4.c1
                            clear hK hl c0
                            go_wp2_with fail
                            obtain ⟨w5, hs1, h5, -⟩ := HJ.swap i' j' hK4 (by omega) (by omega) (by omega)
                            rw [hs1, Oper.upon_value]
                            clear hs1
                            go_wp2_with fail
                            exact ⟨⟨i' + 1, j' - 1, _, by go_num, by congr 1; omega, by omega, by omega, by omega, h5, by rw [HE.out]; exact part_go lessLf a i j dk HI.out HJ2.out (by omega)⟩, by simp [intOf]; omega⟩
                        · have hle2' : ¬ (i' : Int) ≤ (j' : Int) := by omega
                          have hgt : (i' : Int) > (j' : Int) := by omega
                          have HJ2 := Lib.hid (show j' = scanDown (fun x => !lessLf x dk[a]!) dk i' j from by rw [← HD.out]; exact (scanDown_end (fun x => !lessLf x dk[a]!) dk i' j' (.inl hle2)).symm)
                          have c1 := hK.c1
                          go_wp2_with fail
                          obtain ⟨w6, hs1, h6, -⟩ := HJ.swap j' a hK (by omega) (by omega) (by omega)
                          rw [hs1, Oper.upon_value]
                          clear hs1
                          go_wp2_with fail
                          go_ret2
                          have hP : P = (j', dk) := by rw [HE.out]; exact part_break lessLf a i j dk HI.out HJ2.out (by omega)
                          rw [HR.out, hP]
                          exact ⟨rfl, h6.st⟩
                  · have hle' : ¬ (i' : Int) ≤ (j : Int) := by omega
                    have hgt : (i' : Int) > (j : Int) := by omega
                    have HI := Lib.hid (show i' = scanUp (fun x => lessLf x dk[a]!) dk j i from by rw [← HU.out]; exact (scanUp_end (fun x => lessLf x dk[a]!) dk j i' (.inl hle)).symm)
                    have HJ2 := Lib.hid (show j = scanDown (fun x => !lessLf x dk[a]!) dk i' j from (scanDown_end (fun x => !lessLf x dk[a]!) dk i' j (.inl hle)).symm)
                    have c1 := hK.c1
                    go_wp2_with fail
                    refine wp_loop_rounds 1 ?_
                    rw [rounds_succ]
                    go_wp2_with fail
                    obtain ⟨w6, hs1, h6, -⟩ := HJ.swap j a hK (by omega) (by omega) (by omega)
                    rw [hs1, Oper.upon_value]
                    clear hs1
                    go_wp2_with fail
                    go_ret2
                    have hP : P = (j, dk) := by rw [HE.out]; exact part_break lessLf a i j dk HI.out HJ2.out (by omega)
                    rw [HR.out, hP]
                    exact ⟨rfl, h6.st⟩
          · have hle2' : ¬ (i' : Int) ≤ (j' : Int) := by omega
            have hgt : (i' : Int) > (j' : Int) := by omega
            have HJ2 := Lib.hid (show j' = scanDown (fun x => !lessLf x dk[a]!) dk i' (b - 1) from by rw [← HD.out]; exact (scanDown_end (fun x => !lessLf x dk[a]!) dk i' j' (.inl hle2)).symm)
            have c1 := hK.c1
            go_wp2_with fail
            obtain ⟨w5, hs1, h5, -⟩ := HJ.swap j' a hK (by omega) (by omega) (by omega)
            rw [hs1, Oper.upon_value]
            clear hs1
            go_wp2_with fail
            go_ret2
            have hR := HB.out i' j' HI.out HJ2.out (by omega)
            rw [hR]
            refine ⟨?_, h5.st⟩
            show _ = Ending.returned (.tuple #[.int .i64 ((j' : Nat) : Int), .bool true])
            rfl
    · have hle' : ¬ (i' : Int) ≤ ((b : Int) - 1) := by omega
      have hgt : (i' : Int) > ((b : Int) - 1) := by omega
      have HI := Lib.hid (show i' = scanUp (fun x => lessLf x dk[a]!) dk (b - 1) (a + 1) from by rw [← HU.out]; exact (scanUp_end (fun x => lessLf x dk[a]!) dk (b - 1) i' (.inl hle)).symm)
      have HJ2 := Lib.hid (show (b - 1) = scanDown (fun x => !lessLf x dk[a]!) dk i' (b - 1) from (scanDown_end (fun x => !lessLf x dk[a]!) dk i' (b - 1) (.inl hle)).symm)
      have c1 := hK.c1
      go_wp2_with fail
      refine wp_loop_rounds 1 ?_
      rw [rounds_succ]
      go_wp2_with fail
      obtain ⟨w5, hs1, h5, -⟩ := HJ.swap (b - 1) a hK (by omega) (by omega) (by omega)
      rw [show (((b - 1) : Nat) : Int) = ((b : Int) - 1) by omega] at hs1
      rw [hs1, Oper.upon_value]
      clear hs1
      go_wp2_with fail
      go_ret2
      have hR := HB.out i' _ HI.out HJ2.out (by omega)
      rw [hR]
      refine ⟨?_, h5.st⟩
      show _ = Ending.returned (.tuple #[.int .i64 (((b - 1) : Nat) : Int), .bool true])
      rw [show (((b - 1) : Nat) : Int) = ((b : Int) - 1) by omega]
      rfl
end
end
/-! partialInsertionSort_func (written by gen05U.py). -/
section
open Go.RowKit Go.Sort
section
variable {sf : Nat} {lb sb : Array Value} {g n : Nat} {I : Array Lf → World → Prop}
set_option maxRecDepth 100000 in
set_option maxHeartbeats 12000000 in
theorem pins_any (H : Hd sf lb sb g n I) (a b : Nat) (d : Array Lf) (w : World) (h : I d w) (hab : a < b) (hb : b ≤ n) (hn : n < 1000000000) :
    Calls Tryd.prog 113 #[lsV sf lb sb, .int .i64 (a : Int), .int .i64 (b : Int)] w fun e w' =>
      e = .returned (.bool (partialInsertionSort lessLf d a b).2) ∧ I (partialInsertionSort lessLf d a b).1 w' ∧ w.grownBy w' (some g) := by
  have HJ := (H.since w).box w.heap.size
  have h0 := H.boxed h
  have HR := Lib.hid (show partialInsertionSort lessLf d a b = partialIns lessLf a b 5 (a + 1) d from rfl)
  generalize partialInsertionSort lessLf d a b = R at *
  go_enter Tryd.func113, Tryd.ntmps113
  go_wp2_with fail
  generalize w.alloc _ = w1 at *
  go_loopw [7, 8] (fun s7 s8 wr => ∃ (s i : Nat) (dk : Array Lf), s7 = .int .i64 i ∧ s8 = .int .i64 s ∧ s ≤ 5 ∧ a < i ∧ i ≤ b ∧ Bx sf lb sb g (fun d W => I d W ∧ w.grownBy W (some g)) w.heap.size dk wr ∧ R = partialIns lessLf a b (5 - s) i dk) (fun _ s8 _ => 5 - (intOf s8).toNat)
  case atStart => exact ⟨0, a + 1, d, by go_num, rfl, by omega, by omega, by omega, h0, HR.out⟩
  case round =>
    obtain ⟨s, i, dk, rfl, rfl, hs5, hai, hib, hK, hE⟩ := hrel
    have HE := Lib.hid hE
    clear hE h0 HR
    by_cases hs : s < 5
    · have hs' : (s : Int) < 5 := by omega
      go_wp2_with fail
      go_loopw [7] (fun v wr => ∃ i' : Nat, v = .int .i64 i' ∧ i ≤ i' ∧ i' ≤ b ∧ Bx sf lb sb g (fun d W => I d W ∧ w.grownBy W (some g)) w.heap.size dk wr ∧ scanSorted lessLf dk b i' = scanSorted lessLf dk b i) (fun v _ => b - (intOf v).toNat)
      case atStart => exact ⟨i, rfl, Nat.le_refl _, hib, hK, rfl⟩
      case round =>
        clear hK
        obtain ⟨i', rfl, hii, hib', hK, hU⟩ := hrel
        have HU := Lib.hid hU
        clear hU
        have c0 := hK.c0
        by_cases hlt : i' < b
        · have hlt' : (i' : Int) < (b : Int) := by omega
          have hl := HJ.less i' (i' - 1) hK (by omega) (by omega)
          rw [show ((i' - 1 : Nat) : Int) = (i' : Int) - 1 by omega] at hl
          go_wp2_with fail
          refine hl.mono ?_
          rintro e w3 ⟨rfl, hb3⟩
          have hK3 := HJ.below hK hb3
          cases hL : lessLf dk[i']! dk[i' - 1]! with
          | false =>
            go_wp2_with fail
            exact ⟨⟨i' + 1, by go_num, by omega, by omega, hK3, by rw [← HU.out]; exact (scanSorted_go lessLf dk b i' hlt hL).symm⟩, by simp [intOf]; omega⟩
          | true =>
            have HI := Lib.hid (show scanSorted lessLf dk b i = i' from by rw [← HU.out]; exact scanSorted_stop lessLf dk b i' (.inr hL))
            have hne : ¬ (i' : Int) = (b : Int) := by omega
            have hne' : ((i' : Int) == (b : Int)) = false := by simpa using hne
            by_cases h50 : b - a < 50
            · have h50' : (b : Int) - (a : Int) < 50 := by omega
              go_wp2_with fail
              go_ret
              have hR : R = (dk, false) := by rw [HE.out]; exact pi_short lessLf a b s i dk hs (by rw [HI.out]; omega) h50
              rw [hR]
              exact ⟨rfl, hK3.st⟩
            · have h50' : ¬ (b : Int) - (a : Int) < 50 := by omega
              have HG := Lib.hid (show R = partialIns lessLf a b (5 - (s + 1)) i' (fixUp lessLf b i' (fixDown lessLf a i' (swp dk i' (i' - 1)))) from by rw [HE.out]; exact pi_go lessLf a b s i i' dk hs HI.out (by omega) h50)
              have c1 := hK3.c1
              clear HU HE HI c0 hl hK
              go_wp2_with fail
              obtain ⟨w5, hs1, h5, -⟩ := HJ.swap i' (i' - 1) hK3 (by omega) (by omega) (by omega)
              rw [show ((i' - 1 : Nat) : Int) = (i' : Int) - 1 by omega] at hs1
              rw [hs1, Oper.upon_value]
              clear hs1
              by_cases hka : i' - a ≥ 2
              · have hka' : (i' : Int) - (a : Int) ≥ 2 := by omega
                go_wp2_with fail
                go_loopw [9] (fun v wr => ∃ (j : Nat) (dj : Array Lf), v = .int .i64 j ∧ j < i' ∧ Bx sf lb sb g (fun d W => I d W ∧ w.grownBy W (some g)) w.heap.size dj wr ∧ shiftDown lessLf j dj = shiftDown lessLf (i' - 1) (swp dk i' (i' - 1))) (fun v _ => (intOf v).toNat)
                case atStart => exact ⟨i' - 1, _, by congr 1; omega, by omega, h5, rfl⟩
                case round =>
                  obtain ⟨j, dj, rfl, hji, hKj, hE1⟩ := hrel
                  have HE1 := Lib.hid hE1
                  clear hE1 h5
                  have d0 := hKj.c0
                  by_cases hj1 : 1 ≤ j
                  · have hj1' : (1 : Int) ≤ (j : Int) := by omega
                    have hl := HJ.less j (j - 1) hKj (by omega) (by omega)
                    rw [show ((j - 1 : Nat) : Int) = (j : Int) - 1 by omega] at hl
                    go_wp2_with fail
                    refine hl.mono ?_
                    rintro e w6 ⟨rfl, hb6⟩
                    have hK6 := HJ.below hKj hb6
                    have d1 := hK6.c1
                    cases hL2 : lessLf dj[j]! dj[j - 1]! with
                    | true =>
                      go_wp2_with fail
                      obtain ⟨w7, hs1, h7, -⟩ := HJ.swap j (j - 1) hK6 (by omega) (by omega) (by omega)
                      rw [show ((j - 1 : Nat) : Int) = (j : Int) - 1 by omega] at hs1
                      rw [hs1, Oper.upon_value]
                      clear hs1
                      go_wp2_with fail
                      exact ⟨⟨j - 1, _, by congr 1; omega, by omega, h7, by rw [← HE1.out]; exact (shiftDown_go lessLf j dj hj1 hL2).symm⟩, by simp [intOf]; omega⟩
                    | false =>
                      have HD := Lib.hid (show fixDown lessLf a i' (swp dk i' (i' - 1)) = dj from by unfold fixDown; rw [if_pos hka, ← HE1.out]; exact shiftDown_stop lessLf j dj (.inr hL2))
                      clear HE1 hl d0 hKj
                      by_cases hkb : b - i' ≥ 2
                      · have hkb' : (b : Int) - (i' : Int) ≥ 2 := by omega
                        go_wp2_with fail
                        go_loopw [10] (fun v wr => ∃ (j2 : Nat) (de : Array Lf), v = .int .i64 j2 ∧ i' + 1 ≤ j2 ∧ j2 ≤ b ∧ Bx sf lb sb g (fun d W => I d W ∧ w.grownBy W (some g)) w.heap.size de wr ∧ shiftUp lessLf b j2 de = shiftUp lessLf b (i' + 1) dj) (fun v _ => b - (intOf v).toNat)
                        case atStart => exact ⟨i' + 1, dj, by go_num, Nat.le_refl _, by omega, hK6, rfl⟩
                        case round =>
                          obtain ⟨j2, de, rfl, hj1, hj2, hKe, hE2⟩ := hrel
                          have HE2 := Lib.hid hE2
                          clear hE2
                          have e0 := hKe.c0
                          by_cases hjb : j2 < b
                          · have hjb' : (j2 : Int) < (b : Int) := by omega
                            have hl := HJ.less j2 (j2 - 1) hKe (by omega) (by omega)
                            rw [show ((j2 - 1 : Nat) : Int) = (j2 : Int) - 1 by omega] at hl
                            go_wp2_with fail
                            refine hl.mono ?_
                            rintro e w8 ⟨rfl, hb8⟩
                            have hK8 := HJ.below hKe hb8
                            have e1 := hK8.c1
                            cases hL3 : lessLf de[j2]! de[j2 - 1]! with
                            | true =>
                              go_wp2_with fail
                              obtain ⟨w9, hs1, h9, -⟩ := HJ.swap j2 (j2 - 1) hK8 (by omega) (by omega) (by omega)
                              rw [show ((j2 - 1 : Nat) : Int) = (j2 : Int) - 1 by omega] at hs1
                              rw [hs1, Oper.upon_value]
                              clear hs1
                              go_wp2_with fail
                              exact ⟨⟨j2 + 1, _, by go_num, by omega, by omega, h9, by rw [← HE2.out]; exact (shiftUp_go lessLf b j2 de hjb hL3).symm⟩, by simp [intOf]; omega⟩
                            | false =>
                              go_wp2_with fail
                              have HF := Lib.hid (show fixUp lessLf b i' dj = de from by unfold fixUp; rw [if_pos hkb, ← HE2.out]; exact shiftUp_stop lessLf b j2 de (.inr hL3))
                              exact ⟨⟨s + 1, i', de, rfl, by go_num, by omega, by omega, by omega, hK8, by rw [HG.out, HD.out, HF.out]⟩, by simp [intOf]; omega⟩
                          · have hjb' : ¬ (j2 : Int) < (b : Int) := by omega
                            go_wp2_with fail
                            have HF := Lib.hid (show fixUp lessLf b i' dj = de from by unfold fixUp; rw [if_pos hkb, ← HE2.out]; exact shiftUp_stop lessLf b j2 de (.inl hjb))
                            exact ⟨⟨s + 1, i', de, rfl, by go_num, by omega, by omega, by omega, hKe, by rw [HG.out, HD.out, HF.out]⟩, by simp [intOf]; omega⟩
                      · have hkb' : ¬ (b : Int) - (i' : Int) ≥ 2 := by omega
                        go_wp2_with fail
                        have HF := Lib.hid (show fixUp lessLf b i' dj = dj from by unfold fixUp; rw [if_neg hkb])
                        exact ⟨⟨s + 1, i', dj, rfl, by go_num, by omega, by omega, by omega, hK6, by rw [HG.out, HD.out, HF.out]⟩, by simp [intOf]; omega⟩
                  · have hj1' : ¬ (1 : Int) ≤ (j : Int) := by omega
                    have HD := Lib.hid (show fixDown lessLf a i' (swp dk i' (i' - 1)) = dj from by unfold fixDown; rw [if_pos hka, ← HE1.out]; exact shiftDown_stop lessLf j dj (.inl (by omega)))
                    clear HE1
                    by_cases hkb : b - i' ≥ 2
                    · have hkb' : (b : Int) - (i' : Int) ≥ 2 := by omega
                      go_wp2_with fail
                      go_loopw [10] (fun v wr => ∃ (j2 : Nat) (de : Array Lf), v = .int .i64 j2 ∧ i' + 1 ≤ j2 ∧ j2 ≤ b ∧ Bx sf lb sb g (fun d W => I d W ∧ w.grownBy W (some g)) w.heap.size de wr ∧ shiftUp lessLf b j2 de = shiftUp lessLf b (i' + 1) dj) (fun v _ => b - (intOf v).toNat)
                      case atStart => exact ⟨i' + 1, dj, by go_num, Nat.le_refl _, by omega, hKj, rfl⟩
                      case round =>
                        obtain ⟨j2, de, rfl, hj1, hj2, hKe, hE2⟩ := hrel
                        have HE2 := Lib.hid hE2
                        clear hE2
                        have e0 := hKe.c0
                        by_cases hjb : j2 < b
                        · have hjb' : (j2 : Int) < (b : Int) := by omega
                          have hl := HJ.less j2 (j2 - 1) hKe (by omega) (by omega)
                          rw [show ((j2 - 1 : Nat) : Int) = (j2 : Int) - 1 by omega] at hl
                          go_wp2_with fail
                          refine hl.mono ?_
                          rintro e w8 ⟨rfl, hb8⟩
                          have hK8 := HJ.below hKe hb8
                          have e1 := hK8.c1
                          cases hL3 : lessLf de[j2]! de[j2 - 1]! with
                          | true =>
                            go_wp2_with fail
                            obtain ⟨w9, hs1, h9, -⟩ := HJ.swap j2 (j2 - 1) hK8 (by omega) (by omega) (by omega)
                            rw [show ((j2 - 1 : Nat) : Int) = (j2 : Int) - 1 by omega] at hs1
                            rw [hs1, Oper.upon_value]
                            clear hs1
                            go_wp2_with fail
                            exact ⟨⟨j2 + 1, _, by go_num, by omega, by omega, h9, by rw [← HE2.out]; exact (shiftUp_go lessLf b j2 de hjb hL3).symm⟩, by simp [intOf]; omega⟩
                          | false =>
                            go_wp2_with fail
                            have HF := Lib.hid (show fixUp lessLf b i' dj = de from by unfold fixUp; rw [if_pos hkb, ← HE2.out]; exact shiftUp_stop lessLf b j2 de (.inr hL3))
                            exact ⟨⟨s + 1, i', de, rfl, by go_num, by omega, by omega, by omega, hK8, by rw [HG.out, HD.out, HF.out]⟩, by simp [intOf]; omega⟩
                        · have hjb' : ¬ (j2 : Int) < (b : Int) := by omega
                          go_wp2_with fail
                          have HF := Lib.hid (show fixUp lessLf b i' dj = de from by unfold fixUp; rw [if_pos hkb, ← HE2.out]; exact shiftUp_stop lessLf b j2 de (.inl hjb))
                          exact ⟨⟨s + 1, i', de, rfl, by go_num, by omega, by omega, by omega, hKe, by rw [HG.out, HD.out, HF.out]⟩, by simp [intOf]; omega⟩
                    · have hkb' : ¬ (b : Int) - (i' : Int) ≥ 2 := by omega
                      go_wp2_with fail
                      have HF := Lib.hid (show fixUp lessLf b i' dj = dj from by unfold fixUp; rw [if_neg hkb])
                      exact ⟨⟨s + 1, i', dj, rfl, by go_num, by omega, by omega, by omega, hKj, by rw [HG.out, HD.out, HF.out]⟩, by simp [intOf]; omega⟩
              · have hka' : ¬ (i' : Int) - (a : Int) ≥ 2 := by omega
                have HD := Lib.hid (show fixDown lessLf a i' (swp dk i' (i' - 1)) = swp dk i' (i' - 1) from by unfold fixDown; rw [if_neg hka])
                by_cases hkb : b - i' ≥ 2
                · have hkb' : (b : Int) - (i' : Int) ≥ 2 := by omega
                  go_wp2_with fail
                  go_loopw [10] (fun v wr => ∃ (j2 : Nat) (de : Array Lf), v = .int .i64 j2 ∧ i' + 1 ≤ j2 ∧ j2 ≤ b ∧ Bx sf lb sb g (fun d W => I d W ∧ w.grownBy W (some g)) w.heap.size de wr ∧ shiftUp lessLf b j2 de = shiftUp lessLf b (i' + 1) (swp dk i' (i' - 1))) (fun v _ => b - (intOf v).toNat)
                  case atStart => exact ⟨i' + 1, (swp dk i' (i' - 1)), by go_num, Nat.le_refl _, by omega, h5, rfl⟩
                  case round =>
                    obtain ⟨j2, de, rfl, hj1, hj2, hKe, hE2⟩ := hrel
                    have HE2 := Lib.hid hE2
                    clear hE2
                    have e0 := hKe.c0
                    by_cases hjb : j2 < b
                    · have hjb' : (j2 : Int) < (b : Int) := by omega
                      have hl := HJ.less j2 (j2 - 1) hKe (by omega) (by omega)
                      rw [show ((j2 - 1 : Nat) : Int) = (j2 : Int) - 1 by omega] at hl
                      go_wp2_with fail
                      refine hl.mono ?_
                      rintro e w8 ⟨rfl, hb8⟩
                      have hK8 := HJ.below hKe hb8
                      have e1 := hK8.c1
                      cases hL3 : lessLf de[j2]! de[j2 - 1]! with
                      | true =>
                        go_wp2_with fail
                        obtain ⟨w9, hs1, h9, -⟩ := HJ.swap j2 (j2 - 1) hK8 (by omega) (by omega) (by omega)
                        rw [show ((j2 - 1 : Nat) : Int) = (j2 : Int) - 1 by omega] at hs1
                        rw [hs1, Oper.upon_value]
                        clear hs1
                        go_wp2_with fail
                        exact ⟨⟨j2 + 1, _, by go_num, by omega, by omega, h9, by rw [← HE2.out]; exact (shiftUp_go lessLf b j2 de hjb hL3).symm⟩, by simp [intOf]; omega⟩
                      | false =>
                        go_wp2_with fail
                        have HF := Lib.hid (show fixUp lessLf b i' (swp dk i' (i' - 1)) = de from by unfold fixUp; rw [if_pos hkb, ← HE2.out]; exact shiftUp_stop lessLf b j2 de (.inr hL3))
                        exact ⟨⟨s + 1, i', de, rfl, by go_num, by omega, by omega, by omega, hK8, by rw [HG.out, HD.out, HF.out]⟩, by simp [intOf]; omega⟩
                    · have hjb' : ¬ (j2 : Int) < (b : Int) := by omega
                      go_wp2_with fail
                      have HF := Lib.hid (show fixUp lessLf b i' (swp dk i' (i' - 1)) = de from by unfold fixUp; rw [if_pos hkb, ← HE2.out]; exact shiftUp_stop lessLf b j2 de (.inl hjb))
                      exact ⟨⟨s + 1, i', de, rfl, by go_num, by omega, by omega, by omega, hKe, by rw [HG.out, HD.out, HF.out]⟩, by simp [intOf]; omega⟩
                · have hkb' : ¬ (b : Int) - (i' : Int) ≥ 2 := by omega
                  go_wp2_with fail
                  have HF := Lib.hid (show fixUp lessLf b i' (swp dk i' (i' - 1)) = (swp dk i' (i' - 1)) from by unfold fixUp; rw [if_neg hkb])
                  exact ⟨⟨s + 1, i', (swp dk i' (i' - 1)), rfl, by go_num, by omega, by omega, by omega, h5, by rw [HG.out, HD.out, HF.out]⟩, by simp [intOf]; omega⟩
        · have hlt' : ¬ (i' : Int) < (b : Int) := by omega
          obtain rfl : i' = b := by omega
          have HI := Lib.hid (show scanSorted lessLf dk i' i = i' from by rw [← HU.out]; exact scanSorted_stop lessLf dk i' i' (.inl hlt))
          go_wp2_with fail
          go_ret
          have hR : R = (dk, true) := by rw [HE.out]; exact pi_true lessLf a i' s i dk hs HI.out
          rw [hR]
          exact ⟨rfl, hK.st⟩
    · have hs' : ¬ (s : Int) < 5 := by omega
      obtain rfl : s = 5 := by omega
      go_wp2_with fail
      go_ret
      have hR : R = (dk, false) := by rw [HE.out]; exact pi_end lessLf a b i dk
      rw [hR]
      exact ⟨rfl, hK.st⟩
end
end
end
/-! pdqsort_func, at every length. -/
section
open Go.RowKit Go.Sort
section
variable {sf : Nat} {lb sb : Array Value} {g n : Nat}
theorem Hd.own {I : Array Lf → World → Prop} (H : Hd sf lb sb g n I) {B0 : Nat} (hA : Asd B0 I) {d : Array Lf} {w : World} (h : I d w) :
    ∃ J : Array Lf → World → Prop, Hd sf lb sb g n J ∧ Asd (w.heap.size + 1) J ∧ (∀ d W, J d W → W.cell? ⟨w.heap.size, 0, none⟩ = some (.func (.func 76) #[] lb) ∧ W.cell? ⟨w.heap.size, 1, none⟩ = some (.func (.func sf) #[] sb)) ∧
      (∀ d W, J d W → I d W ∧ w.grownBy W (some g)) ∧ J d (w.alloc (.cells #[.func (.func 76) #[] lb, .func (.func sf) #[] sb] 157)) :=
  ⟨_, (H.since w).box w.heap.size, hA.box h, fun _ _ k => ⟨k.c0, k.c1⟩, fun _ _ k => k.st, H.boxed h⟩

set_option maxRecDepth 1000000 in
set_option maxHeartbeats 12800000 in
theorem pdq_any : ∀ (N : Nat) {I : Array Lf → World → Prop} (_ : Hd sf lb sb g n I) {B0 : Nat} (_ : Asd B0 I) (a b limit : Nat) (d : Array Lf) (w : World), I d w → b - a < N → a ≤ b → b ≤ n → n < 1000000000 → limit < 1000000000 → Sort.Below lessLf a b d →
    Calls Tryd.prog 95 #[lsV sf lb sb, .int .i64 (a : Int), .int .i64 (b : Int), .int .i64 (limit : Int)] w fun e w' =>
      e = .returned (.tuple #[]) ∧ I (pdq lessLf d a b limit true true) w' ∧ w.grownBy w' (some g) := by
  intro N
  induction N with
  | zero => intro _ _ _ _ _ _ _ _ _ _ h; exact absurd h (Nat.not_lt_zero _)
  | succ N ih =>
    intro I H B0 hA a b limit d w h hN hab hb hn hlimit hBel0
    obtain ⟨J, HJ, AJ, jc, jI, h0⟩ := H.own hA h
    have hds0 : ∀ {D W}, J D W → D.size = n := fun k => HJ.size k
    go_enter Tryd.func95, Tryd.ntmps95
    go_wp2_with fail
    generalize w.alloc _ = w1 at *
    go_loopg [1, 2, 3, 8, 9] (b - a) (fun kx s1 s2 s3 s8 s9 wr => ∃ (a' b' lim : Nat) (wb wp : Bool) (dk : Array Lf), s1 = .int .i64 a' ∧ s2 = .int .i64 b' ∧ s3 = .int .i64 lim ∧ s8 = .bool wb ∧ s9 = .bool wp ∧
      a' ≤ b' ∧ b' ≤ n ∧ b' - a' ≤ kx ∧ kx ≤ b - a ∧ lim ≤ limit ∧ Sort.Below lessLf a' b' dk ∧ J dk wr ∧ pdq lessLf dk a' b' lim wb wp = pdq lessLf d a b limit true true)
    case atStart => exact ⟨a, b, limit, true, true, d, rfl, rfl, rfl, rfl, rfl, hab, hb, Nat.le_refl _, Nat.le_refl _, Nat.le_refl _, hBel0, h0, rfl⟩
    case round =>
      clear h0
      obtain ⟨a', b', lim, wb, wp, dk, rfl, rfl, rfl, rfl, rfl, hab', hb', hkx, hkN, hlim, hBel, hK, heq⟩ := hrel
      have x0 := (jc _ _ hK).1
      have x1 := (jc _ _ hK).2
      have A := Lib.hid heq
      clear heq
      have hds := hds0 hK
      by_cases h12 : b' - a' ≤ 12
      · have h12z : (b' : Int) - (a' : Int) ≤ 12 := by omega
        have hc := insertion_any HJ a' b' dk wr hK hab' hb' (by omega)
        go_wp2_with fail
        refine hc.mono ?_
        rintro e w2 ⟨rfl, h2, -⟩
        go_wp2_with fail
        (try simp only [Exit.inBlock, Exit.then]); refine bodyPost_ret (results_none rfl _ _ _) rfl ?_
        rw [← A.out, pdq_small h12]
        exact ⟨rfl, jI _ _ h2⟩
      · have h12z : ¬ ((b' : Int) - (a' : Int) ≤ 12) := by omega
        by_cases hl0 : lim = 0
        · subst hl0
          have hc := heap_any HJ a' b' dk wr hK hab' hb' (by omega) hn
          go_wp2_with fail
          refine hc.mono ?_
          rintro e w2 ⟨rfl, h2, -⟩
          go_wp2_with fail
          (try simp only [Exit.inBlock, Exit.then]); refine bodyPost_ret (results_none rfl _ _ _) rfl ?_
          rw [← A.out, pdq_heap h12 rfl]
          exact ⟨rfl, jI _ _ h2⟩
        · have hl0z : ¬ ((lim : Int) = 0) := by omega
          obtain ⟨s1, B1, hc1, s2, B2, hpv, s3, B3⟩ := rd_facts (lt := lessLf) (limit := lim) (wb := wb) (wp := wp) swoLf partialInsertionSort_holds reverseRange_holds (show a' < b' by omega) (show b' ≤ dk.size by omega) hBel
          go_upto_if 35 with fail
          go_cut [3] from 19 (fun s3 wc => s3 = .int .i64 (rd lessLf dk a' b' lim wb wp).lim ∧ J (rd lessLf dk a' b' lim wb wp).d1 wc)
          case first =>
            cases wb
            · have hc := break_any HJ AJ a' b' dk wr hK (by omega) hb' hn
              go_wp2_with fail
              refine hc.mono ?_
              rintro e w2 ⟨rfl, h2, -⟩
              go_wp2_with fail
              go_meet
              case rel =>
                refine ⟨?_, h2⟩
                show Value.int .i64 ((lim : Int) - 1) = Value.int .i64 ((lim - 1 : Nat) : Int)
                congr 1
                omega
            · go_wp2_with fail
              go_meet
              case rel => exact ⟨rfl, hK⟩
          case rest =>
            obtain ⟨rfl, hK1⟩ := hcut
            clear x0 x1
            have y0 := (jc _ _ hK1).1
            have y1 := (jc _ _ hK1).2
            have hc17 : Calls Tryd.prog 111 #[lsV sf lb sb, .int .i64 a', .int .i64 b'] wc fun e w' => e = .returned (.tuple #[.int .i64 (rd lessLf dk a' b' lim wb wp).c.1, .int .i64 (hintCode (rd lessLf dk a' b' lim wb wp).c.2)]) ∧ Go.RowKit.Below wc.heap.size wc w' :=
              choose_any HJ a' b' (rd lessLf dk a' b' lim wb wp).d1 wc hK1 (by omega) hb' hn
            go_upto_if 50 with fail
            refine hc17.mono ?_
            rintro e w2 ⟨rfl, hw2⟩
            go_upto_if 50 with fail
            have hK2 := HJ.below hK1 hw2
            clear y0 y1
            have z0 := (jc _ _ hK2).1
            have z1 := (jc _ _ hK2).2
            go_cut [11, 12] from 19 (fun s11 s12 wc => s11 = .int .i64 (rd lessLf dk a' b' lim wb wp).pivot ∧ s12 = .int .i64 (hintCode (rd lessLf dk a' b' lim wb wp).hint) ∧ J (rd lessLf dk a' b' lim wb wp).d2 wc)
            case first =>
              by_cases hh : (rd lessLf dk a' b' lim wb wp).c.2 = .decreasing
              · have hcode : hintCode (rd lessLf dk a' b' lim wb wp).c.2 = 2 := by rw [hh]; rfl
                obtain ⟨e2, epv, eht⟩ := rd_dec hh
                have hc18 := reverse_any HJ a' b' (rd lessLf dk a' b' lim wb wp).d1 w2 hK2 (by omega) hb' hn
                go_wp2_with fail
                refine hc18.mono ?_
                rintro e w3 ⟨rfl, h3, -⟩
                go_wp2_with fail
                go_meet
                case rel =>
                  refine ⟨?_, by rw [eht]; rfl, by rw [e2]; exact h3⟩
                  rw [epv]
                  congr 1
                  omega
              · have hcode : ¬ (hintCode (rd lessLf dk a' b' lim wb wp).c.2 = 2) := fun h => hh (hintCode_two h)
                obtain ⟨e2, epv, eht⟩ := rd_not hh
                go_wp2_with fail
                go_meet
                case rel => exact ⟨by rw [epv], by rw [eht], by rw [e2]; exact hK2⟩
            case rest =>
              obtain ⟨rfl, rfl, hK3⟩ := hcut
              clear z0 z1
              have v0 := (jc _ _ hK3).1
              have v1 := (jc _ _ hK3).2
              go_upto_region 16 with fail
              go_cut [12, 68] from 19 (fun s12 s68 wx => s12 = .int .i64 (hintCode (rd lessLf dk a' b' lim wb wp).hint) ∧ s68 = .bool (wb && wp && decide ((rd lessLf dk a' b' lim wb wp).hint = .increasing)) ∧ wx = wc)
              case first =>
                cases wb <;> cases wp <;> cases hh3 : (rd lessLf dk a' b' lim _ _).hint <;>
                  (have hcode3 := congrArg hintCode hh3
                   simp only [hintCode] at hcode3
                   go_wp2_with fail
                   go_meet
                   exact ⟨by simp [hh3, hintCode], by simp [hh3, hintCode], rfl⟩)
              case rest =>
                obtain ⟨rfl, rfl, rfl⟩ := hcut
                go_upto_if 68 with fail
                go_cut [] from 19 (fun wx => (rd lessLf dk a' b' lim wb wp).pi.2 = false ∧ J (rd lessLf dk a' b' lim wb wp).pi.1 wx)
                case first =>
                  cases h68 : (wb && wp && decide ((rd lessLf dk a' b' lim wb wp).hint = .increasing))
                  · have epi := rd_pi_no h68
                    go_wp2_with fail
                    go_meet
                    case rel => exact ⟨by rw [epi], by rw [epi]; exact hK3⟩
                  · have epi := rd_pi_yes h68
                    have hc19 := pins_any HJ a' b' (rd lessLf dk a' b' lim wb wp).d2 wc hK3 (by omega) hb' hn
                    rw [← epi] at hc19
                    go_wp2_with fail
                    refine hc19.mono ?_
                    rintro e w4 ⟨rfl, h4, -⟩
                    cases hp2 : (rd lessLf dk a' b' lim wb wp).pi.2
                    · go_wp2_with fail
                      go_meet
                      exact ⟨by first | exact hp2 | rfl, h4⟩
                    · go_wp2_with fail
                      (try simp only [Exit.inBlock, Exit.then]); refine bodyPost_ret (results_none rfl _ _ _) rfl ?_
                      rw [← A.out, pdq_done h12 hl0 hp2]
                      exact ⟨rfl, jI _ _ h4⟩
                case rest =>
                  obtain ⟨hp2, hK5⟩ := hcut
                  clear v0 v1
                  have t0 := (jc _ _ hK5).1
                  have t1 := (jc _ _ hK5).2
                  go_upto_region 18 with fail
                  go_cut [83] from 19 (fun s83 wx => s83 = .bool (decide (a' > 0) && !lessLf (rd lessLf dk a' b' lim wb wp).pi.1[a' - 1]! (rd lessLf dk a' b' lim wb wp).pi.1[(rd lessLf dk a' b' lim wb wp).pivot]!) ∧ J (rd lessLf dk a' b' lim wb wp).pi.1 wx)
                  case first =>
                    rcases Nat.eq_zero_or_pos a' with ha0 | ha0
                    · have ha0z : decide ((a' : Int) > 0) = false := decide_eq_false (by omega)
                      go_wp2_with fail
                      go_meet
                      case rel => exact ⟨by simp [ha0], hK5⟩
                    · have ha0z : (a' : Int) > 0 := by omega
                      have hl := HJ.less (a' - 1) (rd lessLf dk a' b' lim wb wp).pivot hK5 (by omega) (by omega)
                      rw [show ((a' - 1 : Nat) : Int) = (a' : Int) - 1 by omega] at hl
                      cases hlv : lessLf (rd lessLf dk a' b' lim wb wp).pi.1[a' - 1]! (rd lessLf dk a' b' lim wb wp).pi.1[(rd lessLf dk a' b' lim wb wp).pivot]! <;>
                        (rw [hlv] at hl
                         go_wp2_with fail
                         refine hl.mono ?_
                         rintro e w5 ⟨rfl, hb5⟩
                         have h5 := HJ.below hK5 hb5
                         go_wp2_with fail
                         go_meet
                         exact ⟨by simp [ha0, hlv], h5⟩)
                  case rest =>
                    obtain ⟨rfl, hK6⟩ := hcut
                    clear t0 t1
                    have q0 := (jc _ _ hK6).1
                    have q1 := (jc _ _ hK6).2
                    cases h87 : (decide (a' > 0) && !lessLf (rd lessLf dk a' b' lim wb wp).pi.1[a' - 1]! (rd lessLf dk a' b' lim wb wp).pi.1[(rd lessLf dk a' b' lim wb wp).pivot]!)
                    · obtain ⟨mid, ap, d4, hx⟩ : ∃ mid ap d4, partition lessLf (rd lessLf dk a' b' lim wb wp).pi.1 a' b' (rd lessLf dk a' b' lim wb wp).pivot = (mid, ap, d4) := ⟨_, _, _, rfl⟩
                      obtain ⟨r1, r2, r3, r4, r5, r6, r7⟩ := round_part swoLf (partition_holds lessLf) hpv.1 hpv.2 (show b' ≤ (rd lessLf dk a' b' lim wb wp).pi.1.size by omega) B3 hx
                      have hc22 := part_any HJ a' b' (rd lessLf dk a' b' lim wb wp).pivot (rd lessLf dk a' b' lim wb wp).pi.1 wc hK6 hpv.2 (by omega) hb' hn
                      rw [hx] at hc22
                      have X := Lib.hid hx
                      clear hx
                      go_upto_if 109 with fail
                      refine hc22.mono ?_
                      rintro e w7 ⟨rfl, hK7, -⟩
                      go_upto_if 109 with fail
                      have hx := X.out
                      clear q0 q1
                      have p0 := (jc _ _ hK7).1
                      have p1 := (jc _ _ hK7).2
                      have hs4 := hds0 hK7
                      by_cases h4 : mid - a' < b' - mid
                      · have h4z : (mid : Int) - (a' : Int) < (b' : Int) - (mid : Int) := by omega
                        have hih := ih HJ AJ a' mid (rd lessLf dk a' b' lim wb wp).lim d4 w7 hK7 (by omega) (by omega) (by omega) hn (Nat.lt_of_le_of_lt (Nat.le_trans rd_lim_le hlim) hlimit) r4
                        obtain ⟨pL, sL⟩ := pdq_sorts lessLf swoLf d4 a' mid (rd lessLf dk a' b' lim wb wp).lim true true (by omega) (by omega) r4
                        go_wp2_with fail
                        refine hih.mono ?_
                        rintro e w8 ⟨rfl, hK8, -⟩
                        go_wp2_with fail
                        go_roundg (b' - (mid + 1))
                        case measure => omega
                        case rel =>
                          refine ⟨mid + 1, b', (rd lessLf dk a' b' lim wb wp).lim, decide (mid - a' ≥ (b' - a') / 8), ap, pdq lessLf d4 a' mid (rd lessLf dk a' b' lim wb wp).lim true true, by simp, rfl, rfl, ?_, rfl, by omega, by omega, Nat.le_refl _, by omega, Nat.le_trans rd_lim_le hlim, (r6 _ pL sL).1, hK8, ?_⟩
                          · exact congrArg Value.bool (eighth (by omega) (by omega))
                          · rw [← A.out, pdq_left h12 hl0 hp2 h87 (by rw [hx]; exact ⟨r1, r2⟩) (by rw [hx]; exact h4), hx]
                      · have h4z : ¬ ((mid : Int) - (a' : Int) < (b' : Int) - (mid : Int)) := by omega
                        have hih := ih HJ AJ (mid + 1) b' (rd lessLf dk a' b' lim wb wp).lim d4 w7 hK7 (by omega) (by omega) (by omega) hn (Nat.lt_of_le_of_lt (Nat.le_trans rd_lim_le hlim) hlimit) r5
                        rw [show ((mid + 1 : Nat) : Int) = (mid : Int) + 1 by omega] at hih
                        obtain ⟨pL, sL⟩ := pdq_sorts lessLf swoLf d4 (mid + 1) b' (rd lessLf dk a' b' lim wb wp).lim true true (by omega) (by omega) r5
                        go_wp2_with fail
                        refine hih.mono ?_
                        rintro e w8 ⟨rfl, hK8, -⟩
                        go_wp2_with fail
                        go_roundg (mid - a')
                        case measure => omega
                        case rel =>
                          refine ⟨a', mid, (rd lessLf dk a' b' lim wb wp).lim, decide (b' - mid ≥ (b' - a') / 8), ap, pdq lessLf d4 (mid + 1) b' (rd lessLf dk a' b' lim wb wp).lim true true, rfl, rfl, rfl, ?_, rfl, by omega, by omega, Nat.le_refl _, by omega, Nat.le_trans rd_lim_le hlim, (r7 _ pL sL).1, hK8, ?_⟩
                          · exact congrArg Value.bool (eighth (by omega) (by omega))
                          · rw [← A.out, pdq_right h12 hl0 hp2 h87 (by rw [hx]; exact ⟨r1, r2⟩) (by rw [hx]; exact h4), hx]
                    · have h87' := h87
                      simp only [Bool.and_eq_true, decide_eq_true_eq, Bool.not_eq_true'] at h87'
                      obtain ⟨mid, d4, hx⟩ : ∃ mid d4, partitionEqual lessLf (rd lessLf dk a' b' lim wb wp).pi.1 a' b' (rd lessLf dk a' b' lim wb wp).pivot = (mid, d4) := ⟨_, _, rfl⟩
                      obtain ⟨r1, r2, r3, r4, _⟩ := round_eq swoLf (partitionEqual_holds lessLf) h87'.1 hpv.1 hpv.2 (show b' ≤ (rd lessLf dk a' b' lim wb wp).pi.1.size by omega) B3 h87'.2 hx
                      have hc21 := partEq_any HJ a' b' (rd lessLf dk a' b' lim wb wp).pivot (rd lessLf dk a' b' lim wb wp).pi.1 wc hK6 hpv.2 (by omega) hb' hn
                      rw [hx] at hc21
                      have X := Lib.hid hx
                      clear hx
                      go_wp2_with fail
                      refine hc21.mono ?_
                      rintro e w7 ⟨rfl, hK7, -⟩
                      go_wp2_with fail
                      go_roundg (b' - mid)
                      case measure => omega
                      case rel =>
                        have hx := X.out
                        exact ⟨mid, b', (rd lessLf dk a' b' lim wb wp).lim, wb, wp, d4, rfl, rfl, rfl, rfl, rfl, r2, hb', Nat.le_refl _, by omega, Nat.le_trans rd_lim_le hlim, r4, hK7, by rw [← A.out, pdq_eq h12 hl0 hp2 h87 (by rw [hx]; exact ⟨r1, r2⟩), hx]⟩
end

theorem St.asd {w : World} {b1 g n c : Nat} {rest : List Value} {d : Array Lf} (h : St w b1 g n c rest d w) : Asd w.heap.size (St w b1 g n c rest) where
  keep {d' W W' C} k hC hg := by
    have h1 := h.row.lt
    have h2 := World.block_lt_of_cell? _ _ h.box
    have h2' : b1 < w.heap.size := h2
    have hne : b1 ≠ C := by omega
    exact ⟨k.row.grown hg (by simp; omega), k.size, k.ok, hg.cell k.box (by simpa using hne), grown2 k.bel hg (fun q e => .inl (by cases e; exact hC)), k.apart⟩
  low k := k.bel.size

theorem St.slice_all {w0 w : World} {b1 g n c : Nat} {rest : List Value} {d : Array Lf} (h0 : St w0 b1 g n c rest d w) (h2 : 2 ≤ n) (hn : n < 1000000000) :
    Calls Tryd.prog 75 #[.iface 41 (.slice (some ⟨g, 0, none⟩) n c), .func (.func 76) #[] #[.pointer (some ⟨b1, 0, none⟩)]] w fun e w' =>
      e = .returned (.tuple #[]) ∧ ∃ d', St w0 b1 g n c rest d' w' ∧ d'.toList.Perm d.toList ∧ inOrder d'.toList := by
  have h : St w b1 g n c rest d w := ⟨h0.row, h0.size, h0.ok, h0.box, World.grownBy.refl _ _, h0.apart⟩
  have hlim : Lib.bitLen n < 1000000000 := Nat.lt_of_le_of_lt (Lib.bitLen_le n 62 (by omega) (by omega)) (by omega)
  have hA := h.asd
  have h1 : St w b1 g n c rest d (sliceWorld Tryd.prog sortRen 41 (some ⟨g, 0, none⟩) n c w) := by
    unfold sliceWorld
    exact h.below (((Below.refl _ w).alloc (Nat.le_refl _) _).alloc (by simp) _)
  have hp := pdq_any (n + 1) (St.hands (w0 := w) (b1 := b1) (g := g) (n := n) (c := c) (rest := rest) 106 #[.slice (some ⟨g, 0, none⟩) n c, typeHandle Tryd.prog 46] (fun _ => ⟨rfl, rfl⟩)) hA 0 n (Lib.bitLen n) d _ h1 (by omega) (Nat.zero_le _) (Nat.le_refl _) hn hlim (Or.inl rfl)
  have hs := pdq_sorts lessLf swoLf d 0 n (Lib.bitLen n) true true (Nat.zero_le _) (Nat.le_of_eq h.size.symm) (Or.inl rfl)
  have hk := svK n h2
  refine Any.sort_Slice_of_pdq sortLays 41 46 svT svE (by kernel_rfl) (by kernel_rfl) (by kernel_rfl) (by kernel_rfl) 25 (fun _ => by kernel_rfl) (some ⟨g, 0, none⟩) n c (by omega) 106 (by rw [hk]; kernel_rfl) (.func 76) #[] #[.pointer (some ⟨b1, 0, none⟩)] w _ ?_
  have hB : sliceBound Tryd.prog 46 svE 25 (some ⟨g, 0, none⟩) n c = #[.slice (some ⟨g, 0, none⟩) n c, typeHandle Tryd.prog 46] := by unfold sliceBound; rw [hk, if_neg (by decide)]
  rw [hB]
  refine hp.mono ?_
  rintro e w' ⟨rfl, k, -⟩
  exact ⟨rfl, _, ⟨k.row, k.size, k.ok, k.box, grown2 h0.bel k.bel (fun q e => .inr e), k.apart⟩, sorted_row h.size hs.1 hs.2⟩
theorem sorts_all (n : Nat) (hn : n < 1000000000) : SortsAt n := by
  by_cases h : 2 ≤ n
  · exact fun _ _ _ _ _ _ _ hS => hS.slice_all h hn
  · exact sorts_small n (by omega)
end
end Go.Proofs.YtgbhfpkngjlfkaaDoor
