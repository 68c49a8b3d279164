/-
  Con05J Con05K Con05P Con05Y, in one text.
-/
import Derived.Test.YtielmijahccgkaaGreatDoorCon05S
import Derived.Sort.WalkB2
import Derived.Sort.WalkB3
import Derived.Sort.WalkB12
import Derived.Sort.Walk11
import Derived.Shelf.SlSortFunc.Xorshift
import Derived.Sort.Walk7
namespace Go.Proofs.YtielmijahccgkaaGreatDoor
/-! siftDown_func, heapSort_func, reverseRange_func. -/
section
open Go.RowKit Go.Sort

/-- the functions' value -/
abbrev lsV (sf : Nat) (lb sb : Array Value) : Value := .agg #[.func (.func 69) #[] lb, .func (.func sf) #[] sb]
section
variable {sf : Nat} {lb sb : Array Value} {g n : Nat} {I : Array Lf → World → Prop}

set_option maxRecDepth 100000 in
set_option maxHeartbeats 4000000 in
theorem sift_any (H : Hd sf lb sb g n I) (lo hi first : Nat) (d : Array Lf) (w : World) (h : I d w) (hlo : lo ≤ hi) (hb : first + hi ≤ n) (hn : n < 1000000000) :
    Calls Tryz.prog 121 #[lsV sf lb sb, .int .i64 (lo : Int), .int .i64 (hi : Int), .int .i64 (first : Int)] w fun e w' =>
      e = .returned (.tuple #[]) ∧ I (siftDown lessLf hi first lo d) w' ∧ w.grownBy w' (some g) := by
  have HJ := (H.since w).box w.heap.size
  have h0 := H.boxed h
  go_enter Tryz.func121, Tryz.ntmps121
  go_wp2_with fail
  generalize w.alloc _ = w1 at *
  go_loopw [8] (fun v wr => ∃ (root : Nat) (dk : Array Lf), v = .int .i64 root ∧ root ≤ hi ∧ Bx sf lb sb g (fun d W => I d W ∧ w.grownBy W (some g)) w.heap.size dk wr ∧
      siftDown lessLf hi first root dk = siftDown lessLf hi first lo d) (fun v _ => hi - (intOf v).toNat)
  case atStart => exact ⟨lo, d, rfl, hlo, h0, rfl⟩
  case round =>
    obtain ⟨root, dk, rfl, hr, hK, hE⟩ := hrel
    have HE := Lib.hid hE
    clear hE h0
    have c0 := hK.c0
    have c1 := hK.c1
    by_cases hc0 : hi ≤ 2 * root + 1
    · have h0z : (hi : Int) ≤ 2 * (root : Int) + 1 := by omega
      go_wp2_with fail
      go_end0
      rw [← HE.out, sd_end lessLf dk hc0]
      exact ⟨rfl, hK.st⟩
    · have h0z : ¬ ((hi : Int) ≤ 2 * (root : Int) + 1) := by omega
      have e1 : ((first + (2 * root + 1) : Nat) : Int) = (first : Int) + (2 * (root : Int) + 1) := by omega
      have e2 : ((first + (2 * root + 2) : Nat) : Int) = (first : Int) + (2 * (root : Int) + 1) + 1 := by omega
      have e2' : ((first + (2 * root + 2) : Nat) : Int) = (first : Int) + (2 * (root : Int) + 1 + 1) := by omega
      have e3 : ((first + root : Nat) : Int) = (first : Int) + (root : Int) := by omega
      have E1 := Lib.hid e1
      have E2 := Lib.hid e2
      have E2' := Lib.hid e2'
      have E3 := Lib.hid e3
      clear e1 e2 e2' e3
      by_cases h1 : 2 * root + 2 < hi
      · have h1z : 2 * (root : Int) + 1 + 1 < (hi : Int) := by omega
        have hl1 := HJ.less (first + (2 * root + 1)) (first + (2 * root + 2)) hK (by omega) (by omega)
        rw [E1.out, E2.out] at hl1
        cases hL : lessLf dk[first + (2 * root + 1)]! dk[first + (2 * root + 2)]! with
        | true =>
          rw [hL] at hl1
          go_wp2_with fail
          refine hl1.mono ?_
          rintro e w2 ⟨rfl, hb2⟩
          have hK2 := HJ.below hK hb2
          have c0 := hK2.c0
          have hl2 := HJ.less (first + root) (first + (2 * root + 2)) hK2 (by omega) (by omega)
          rw [E3.out, E2'.out] at hl2
          go_wp2_with fail
          refine hl2.mono ?_
          rintro e w3 ⟨rfl, hb3⟩
          have hK3 := HJ.below hK2 hb3
          have c1 := hK3.c1
          cases hG : lessLf dk[first + root]! dk[first + (2 * root + 2)]! with
          | false =>
            go_wp2_with fail
            (try simp only [Exit.inBlock, Exit.then]); refine bodyPost_ret (results_none rfl _ _ _) rfl ?_
            rw [← HE.out, sd_right_stop lessLf dk h1 hL hG]
            exact ⟨rfl, hK3.st⟩
          | true =>
            go_wp2_with fail
            obtain ⟨w4, hs1, hs2, hs3⟩ := HJ.swap (first + root) (first + (2 * root + 2)) hK3 (by omega) (by omega) (by omega)
            rw [E3.out, E2'.out] at hs1
            rw [hs1, Oper.upon_value]
            clear hs1
            go_wp2_with fail
            exact ⟨⟨2 * root + 2, _, by go_num, by omega, hs2, by rw [← HE.out, sd_right_go lessLf dk h1 hL hG]⟩, by simp [intOf]; omega⟩
        | false =>
          rw [hL] at hl1
          go_wp2_with fail
          refine hl1.mono ?_
          rintro e w2 ⟨rfl, hb2⟩
          have hK2 := HJ.below hK hb2
          have c0 := hK2.c0
          have hl2 := HJ.less (first + root) (first + (2 * root + 1)) hK2 (by omega) (by omega)
          rw [E3.out, E1.out] at hl2
          go_wp2_with fail
          refine hl2.mono ?_
          rintro e w3 ⟨rfl, hb3⟩
          have hK3 := HJ.below hK2 hb3
          have c1 := hK3.c1
          cases hG : lessLf dk[first + root]! dk[first + (2 * root + 1)]! with
          | false =>
            go_wp2_with fail
            (try simp only [Exit.inBlock, Exit.then]); refine bodyPost_ret (results_none rfl _ _ _) rfl ?_
            rw [← HE.out, sd_left_stop lessLf dk (by omega) (fun _ => hL) hG]
            exact ⟨rfl, hK3.st⟩
          | true =>
            go_wp2_with fail
            obtain ⟨w4, hs1, hs2, hs3⟩ := HJ.swap (first + root) (first + (2 * root + 1)) hK3 (by omega) (by omega) (by omega)
            rw [E3.out, E1.out] at hs1
            rw [hs1, Oper.upon_value]
            clear hs1
            go_wp2_with fail
            exact ⟨⟨2 * root + 1, _, by go_num, by omega, hs2, by rw [← HE.out, sd_left_go lessLf dk (by omega) (fun _ => hL) hG]⟩, by simp [intOf]; omega⟩
      · have h1z : ¬ (2 * (root : Int) + 1 + 1 < (hi : Int)) := by omega
        have hl2 := HJ.less (first + root) (first + (2 * root + 1)) hK (by omega) (by omega)
        rw [E3.out, E1.out] at hl2
        go_wp2_with fail
        refine hl2.mono ?_
        rintro e w3 ⟨rfl, hb3⟩
        have hK3 := HJ.below hK hb3
        have c1 := hK3.c1
        cases hG : lessLf dk[first + root]! dk[first + (2 * root + 1)]! with
        | false =>
          go_wp2_with fail
          (try simp only [Exit.inBlock, Exit.then]); refine bodyPost_ret (results_none rfl _ _ _) rfl ?_
          rw [← HE.out, sd_left_stop lessLf dk (by omega) (fun h => absurd h h1) hG]
          exact ⟨rfl, hK3.st⟩
        | true =>
          go_wp2_with fail
          obtain ⟨w4, hs1, hs2, hs3⟩ := HJ.swap (first + root) (first + (2 * root + 1)) hK3 (by omega) (by omega) (by omega)
          rw [E3.out, E1.out] at hs1
          rw [hs1, Oper.upon_value]
          clear hs1
          go_wp2_with fail
          exact ⟨⟨2 * root + 1, _, by go_num, by omega, hs2, by rw [← HE.out, sd_left_go lessLf dk (by omega) (fun h => absurd h h1) hG]⟩, by simp [intOf]; omega⟩

set_option maxRecDepth 100000 in
set_option maxHeartbeats 4000000 in
theorem heap_any (H : Hd sf lb sb g n I) (a b : Nat) (d : Array Lf) (w : World) (h : I d w) (hab : a ≤ b) (hb : b ≤ n) (h2 : 2 ≤ n) (hn : n < 1000000000) :
    Calls Tryz.prog 109 #[lsV sf lb sb, .int .i64 (a : Int), .int .i64 (b : Int)] w fun e w' =>
      e = .returned (.tuple #[]) ∧ I (heapSort lessLf d a b) w' ∧ w.grownBy w' (some g) := by
  have HJ := (H.since w).box w.heap.size
  have h0 := H.boxed h
  have ecast : ((b - a : Nat) : Int) = (b : Int) - (a : Int) := by omega
  have SI := Lib.hid (fun (lo hi : Nat) (dk : Array Lf) (W : World) hK h1 h2 => sift_any HJ lo hi a dk W hK h1 h2 hn)
  go_enter Tryz.func109, Tryz.ntmps109
  go_wp2_with fail
  generalize w.alloc _ = w1 at *
  go_loopw [9] (fun v wr => ∃ (kx : Nat) (dk : Array Lf), v = .int .i64 ((kx : Int) - 1) ∧ kx ≤ (b - a - 1) / 2 + 1 ∧ Bx sf lb sb g (fun d W => I d W ∧ w.grownBy W (some g)) w.heap.size dk wr ∧
      heapBuild lessLf (b - a) a kx dk = heapBuild lessLf (b - a) a ((b - a - 1) / 2 + 1) d) (fun v _ => (intOf v + 1).toNat)
  case atStart => exact ⟨_, d, by rw [half_start hab], Nat.le_refl _, h0, rfl⟩
  case round =>
    obtain ⟨kx, dk, rfl, hk, hK, hE⟩ := hrel
    have HE := Lib.hid hE
    clear hE h0
    have c0 := hK.c0
    have c1 := hK.c1
    cases kx with
    | zero =>
      have HB := Lib.hid (show dk = heapBuild lessLf (b - a) a ((b - a - 1) / 2 + 1) d from HE.out)
      clear HE hk
      rw [show ((0 : Nat) : Int) - 1 = -1 from rfl]
      go_wp2_with fail
      go_loopw [10] (fun v wr2 => ∃ (ky : Nat) (dj : Array Lf), v = .int .i64 ((ky : Int) - 1) ∧ ky ≤ b - a ∧ Bx sf lb sb g (fun d W => I d W ∧ w.grownBy W (some g)) w.heap.size dj wr2 ∧
        heapPop lessLf a ky dj = heapPop lessLf a (b - a) dk) (fun v _ => (intOf v + 1).toNat)
      case atStart => exact ⟨b - a, dk, by rw [ecast], Nat.le_refl _, hK, rfl⟩
      case round =>
        obtain ⟨ky, dj, rfl, hky, hKj, hE2⟩ := hrel
        have HE2 := Lib.hid hE2
        clear hE2 hK c0 c1
        have c0 := hKj.c0
        have c1 := hKj.c1
        cases ky with
        | zero =>
          go_wp2_with fail
          go_end0
          have e : dj = heapSort lessLf d a b := by rw [heapSort, ← HB.out, ← HE2.out]; rfl
          rw [← e]
          exact ⟨rfl, hKj.st⟩
        | succ ky =>
          go_wp2_with fail
          obtain ⟨w2, hs1, hs2, hs3⟩ := HJ.swap a (a + ky) hKj (by omega) (by omega) h2
          rw [show ((a + ky : Nat) : Int) = (a : Int) + (ky : Int) by omega] at hs1
          rw [hs1, Oper.upon_value]
          clear hs1
          have c0 := hs2.c0
          have c1 := hs2.c1
          go_wp2_with fail
          refine (SI.out 0 ky _ w2 hs2 (Nat.zero_le _) (by omega)).mono ?_
          rintro e w3 ⟨rfl, hK3, -⟩
          go_wp2_with fail
          exact ⟨⟨ky, _, by congr 1 <;> omega, by omega, hK3, HE2.out⟩, by simp [intOf]⟩
    | succ kx =>
      go_wp2_with fail
      have hs := SI.out kx (b - a) dk wr hK (by omega) (by omega)
      rw [ecast] at hs
      refine hs.mono ?_
      rintro e w3 ⟨rfl, hK3, -⟩
      go_wp2_with fail
      exact ⟨⟨kx, _, by congr 1 <;> omega, by omega, hK3, HE.out⟩, by simp [intOf]⟩
end
end
/-! reverseRange_func; order2_func, median_func, medianAdjacent_func, choosePivot_func. -/
section
open Go.RowKit Go.Sort
section
variable {sf : Nat} {lb sb : Array Value} {g n : Nat} {I : Array Lf → World → Prop}

set_option maxRecDepth 100000 in
set_option maxHeartbeats 4000000 in
theorem reverse_any (H : Hd sf lb sb g n I) (a b : Nat) (d : Array Lf) (w : World) (h : I d w) (hab : a < b) (hb : b ≤ n) (hn : n < 1000000000) :
    Calls Tryz.prog 112 #[lsV sf lb sb, .int .i64 (a : Int), .int .i64 (b : Int)] w fun e w' =>
      e = .returned (.tuple #[]) ∧ I (reverseRange d a b) w' ∧ w.grownBy w' (some g) := by
  have HJ := (H.since w).box w.heap.size
  have h0 := H.boxed h
  go_enter Tryz.func112, Tryz.ntmps112
  go_wp2_with fail
  generalize w.alloc _ = w1 at *
  go_loopw [6, 7] (fun s t wr => ∃ (i j : Nat) (dk : Array Lf), s = .int .i64 i ∧ t = .int .i64 j ∧ j < n ∧ Bx sf lb sb g (fun d W => I d W ∧ w.grownBy W (some g)) w.heap.size dk wr ∧
      reverseLoop i j dk = reverseRange d a b) (fun s t _ => (intOf t - intOf s).toNat)
  case atStart => exact ⟨a, b - 1, d, rfl, by congr 1; omega, by omega, h0, rfl⟩
  case round =>
    obtain ⟨i, j, dk, rfl, rfl, hj, hK, hE⟩ := hrel
    have HE := Lib.hid hE
    clear hE h0
    have c1 := hK.c1
    by_cases hlt : i < j
    · have hlt' : (i : Int) < (j : Int) := by omega
      go_wp2_with fail
      obtain ⟨w2, hs1, hs2, hs3⟩ := HJ.swap i j hK (by omega) (by omega) (by omega)
      rw [hs1, Oper.upon_value]
      clear hs1
      go_wp2_with fail
      exact ⟨⟨i + 1, j - 1, _, by go_num, by congr 1; omega, by omega, hs2, by rw [← HE.out, reverseLoop.eq_def i j, if_pos hlt]⟩, by simp [intOf]; omega⟩
    · have hlt' : ¬ (i : Int) < (j : Int) := by omega
      go_wp2_with fail
      go_end0
      have hr : reverseRange d a b = dk := by rw [← HE.out, reverseLoop, if_neg hlt]
      rw [hr]
      exact ⟨rfl, hK.st⟩

/-- the count of swaps lies in a variable; nothing else that was there has turned -/
structure Ct (w0 : World) (C s : Nat) (W : World) : Prop where
  bel : Below w0.heap.size w0 W
  low : w0.heap.size ≤ C
  blk : Blk W C 3 [.int .i64 (s : Int)]
theorem Ct.below {w0 W W' : World} {C s : Nat} (h : Ct w0 C s W) (hb : Below W.heap.size W W') : Ct w0 C s W' := ⟨Bt h.bel hb, h.low, h.blk.below hb⟩
theorem order2_in (d : Array Lf) {a b s m : Nat} (ha : a < m) (hb : b < m) : (order2 lessLf d a b s).1 < m ∧ (order2 lessLf d a b s).2.1 < m ∧ (order2 lessLf d a b s).2.2 ≤ s + 1 := by
  unfold order2
  split <;> simp <;> omega

set_option maxRecDepth 100000 in
set_option maxHeartbeats 4000000 in
theorem order2_any (H : Hd sf lb sb g n I) (a b C s : Nat) (d : Array Lf) (w0 w : World) (h : I d w0) (hc : Ct w0 C s w) (ha : a < n) (hb : b < n) (hs : s < 1000000) :
    Calls Tryz.prog 130 #[lsV sf lb sb, .int .i64 (a : Int), .int .i64 (b : Int), .pointer (some ⟨C, 0, none⟩)] w fun e w' =>
      e = .returned (.tuple #[.int .i64 ((order2 lessLf d a b s).1 : Int), .int .i64 ((order2 lessLf d a b s).2.1 : Int)]) ∧ Ct w0 C (order2 lessLf d a b s).2.2 w' ∧ w.grownBy w' (some C) := by
  have hB1 : Below w.heap.size w (w.alloc (.cells #[.func (.func 69) #[] lb, .func (.func sf) #[] sb] 143)) := (Below.refl _ w).alloc (Nat.le_refl _) _
  have hl := H.less b a (H.below h (Bt hc.bel hB1)) hb ha
  have hc1 := hc.below hB1
  have HO := Lib.hid (show order2 lessLf d a b s = if lessLf d[b]! d[a]! = true then (b, a, s + 1) else (a, b, s) from rfl)
  go_enter Tryz.func130, Tryz.ntmps130
  go_wp2_with fail
  refine hl.mono ?_
  rintro e w2 ⟨rfl, hb2⟩
  have hc2 := hc1.below hb2
  have hB2 := Bt hB1 hb2
  have k0 := hc2.blk.cell (j := 0) rfl
  have k1 := hc2.blk.free 0
  cases hL : lessLf d[b]! d[a]! with
  | true =>
    go_wp2_with fail
    go_ret2
    have kb := hc2.blk.set 0 (.int .i64 ((s : Int) + 1))
    have hg := set_grown w2 C 0 (.int .i64 ((s : Int) + 1))
    rw [HO.out, if_pos hL]
    refine ⟨rfl, ⟨hc2.bel.grown hg hc2.bel.size (fun k e => by cases e; exact hc2.low), hc2.low, ?_⟩, grown2 (grown_of hB2 _) hg (fun k e => .inr e)⟩
    exact kb
  | false =>
    go_wp2_with fail
    go_ret2
    rw [HO.out, if_neg (by rw [hL]; decide)]
    exact ⟨rfl, hc2, grown_of hB2 _⟩
theorem median_lt (d : Array Lf) {a b c s m : Nat} (ha : a < m) (hb : b < m) (hc : c < m) : (median lessLf d a b c s).1 < m ∧ (median lessLf d a b c s).2 ≤ s + 3 := by
  unfold median
  obtain ⟨p1, p2, p3⟩ := order2_in d (a := a) (b := b) (s := s) ha hb
  obtain ⟨q1, q2, q3⟩ := order2_in d (a := (order2 lessLf d a b s).2.1) (b := c) (s := (order2 lessLf d a b s).2.2) p2 hc
  obtain ⟨r1, r2, r3⟩ := order2_in d (a := (order2 lessLf d a b s).1) (b := (order2 lessLf d (order2 lessLf d a b s).2.1 c (order2 lessLf d a b s).2.2).1) (s := (order2 lessLf d (order2 lessLf d a b s).2.1 c (order2 lessLf d a b s).2.2).2.2) p1 q1
  refine ⟨r2, ?_⟩
  dsimp only
  omega

set_option maxRecDepth 100000 in
set_option maxHeartbeats 4000000 in
theorem median_any (H : Hd sf lb sb g n I) (a b c C s : Nat) (d : Array Lf) (w0 w : World) (h : I d w0) (hc : Ct w0 C s w) (ha : a < n) (hb : b < n) (hcn : c < n) (hs : s < 900000) :
    Calls Tryz.prog 125 #[lsV sf lb sb, .int .i64 (a : Int), .int .i64 (b : Int), .int .i64 (c : Int), .pointer (some ⟨C, 0, none⟩)] w fun e w' =>
      e = .returned (.int .i64 ((median lessLf d a b c s).1 : Int)) ∧ Ct w0 C (median lessLf d a b c s).2 w' ∧ w.grownBy w' (some C) := by
  have hB1 : Below w.heap.size w (w.alloc (.cells #[.func (.func 69) #[] lb, .func (.func sf) #[] sb] 143)) := (Below.refl _ w).alloc (Nat.le_refl _) _
  have kb1 := Blk.new w 143 [.func (.func 69) #[] lb, .func (.func sf) #[] sb]
  have hc1 := hc.below hB1
  have hCw : C ≠ w.heap.size := by have := hc.blk.lt; omega
  obtain ⟨a1, b1, s1, hO1⟩ : ∃ a1 b1 s1, order2 lessLf d a b s = (a1, b1, s1) := ⟨_, _, _, rfl⟩
  obtain ⟨p1, p2, p3⟩ := order2_in d (a := a) (b := b) (s := s) ha hb
  rw [hO1] at p1 p2 p3
  obtain ⟨b2, c2, s2, hO2⟩ : ∃ b2 c2 s2, order2 lessLf d b1 c s1 = (b2, c2, s2) := ⟨_, _, _, rfl⟩
  obtain ⟨q1, q2, q3⟩ := order2_in d (a := b1) (b := c) (s := s1) p2 hcn
  rw [hO2] at q1 q2 q3
  obtain ⟨a3, b3, s3, hO3⟩ : ∃ a3 b3 s3, order2 lessLf d a1 b2 s2 = (a3, b3, s3) := ⟨_, _, _, rfl⟩
  have HM := Lib.hid (show median lessLf d a b c s = (b3, s3) from by simp only [median, hO1, hO2, hO3])
  have O1 := Lib.hid (fun W hc => order2_any H a b C s d w0 W h hc ha hb (by omega))
  have O2 := Lib.hid (fun W hc => order2_any H b1 c C s1 d w0 W h hc p2 hcn (by simp at p3; omega))
  have O3 := Lib.hid (fun W hc => order2_any H a1 b2 C s2 d w0 W h hc p1 q1 (by simp at p3 q3; omega))
  rw [hO1] at O1
  rw [hO2] at O2
  rw [hO3] at O3
  clear hO1 hO2 hO3 p1 p2 p3 q1 q2 q3
  have c0 := kb1.cell (j := 0) rfl
  have c1 := kb1.cell (j := 1) rfl
  go_enter Tryz.func125, Tryz.ntmps125
  go_wp2_with fail
  refine (O1.out _ hc1).mono ?_
  rintro e w2 ⟨rfl, hc2, hg2⟩
  have kb2 := kb1.grown hg2 (by simpa using hCw)
  have d0 := kb2.cell (j := 0) rfl
  have d1 := kb2.cell (j := 1) rfl
  go_wp2_with fail
  refine (O2.out _ hc2).mono ?_
  rintro e w3 ⟨rfl, hc3, hg3⟩
  have kb3 := kb2.grown hg3 (by simpa using hCw)
  have f0 := kb3.cell (j := 0) rfl
  have f1 := kb3.cell (j := 1) rfl
  go_wp2_with fail
  refine (O3.out _ hc3).mono ?_
  rintro e w4 ⟨rfl, hc4, hg4⟩
  go_wp2_with fail
  go_ret
  rw [HM.out]
  exact ⟨rfl, hc4, grown2 (grown2 (grown2 (grown_of hB1 _) hg2 (fun k e => .inr e)) hg3 (fun k e => .inr e)) hg4 (fun k e => .inr e)⟩

set_option maxRecDepth 100000 in
theorem medAdj_any (H : Hd sf lb sb g n I) (a C s : Nat) (d : Array Lf) (w0 w : World) (h : I d w0) (hc : Ct w0 C s w) (ha : 1 ≤ a) (hb : a + 1 < n) (hs : s < 900000) (hn : n < 1000000000) :
    Calls Tryz.prog 124 #[lsV sf lb sb, .int .i64 (a : Int), .pointer (some ⟨C, 0, none⟩)] w fun e w' =>
      e = .returned (.int .i64 ((medianAdjacent lessLf d a s).1 : Int)) ∧ Ct w0 C (medianAdjacent lessLf d a s).2 w' ∧ w.grownBy w' (some C) := by
  have hB1 : Below w.heap.size w (w.alloc (.cells #[.func (.func 69) #[] lb, .func (.func sf) #[] sb] 143)) := (Below.refl _ w).alloc (Nat.le_refl _) _
  have M := median_any H (a - 1) a (a + 1) C s d w0 _ h (hc.below hB1) (by omega) (by omega) hb hs
  rw [show ((a - 1 : Nat) : Int) = (a : Int) - 1 by omega, show ((a + 1 : Nat) : Int) = (a : Int) + 1 by omega] at M
  unfold medianAdjacent
  generalize median lessLf d (a - 1) a (a + 1) s = r at *
  go_enter Tryz.func124, Tryz.ntmps124
  go_wp2_with fail
  refine M.mono ?_
  rintro e w4 ⟨rfl, hc4, hg4⟩
  go_wp2_with fail
  go_ret
  exact ⟨rfl, hc4, grown2 (grown_of hB1 _) hg4 (fun k e => .inr e)⟩
end
end
/-! choosePivot_func. -/
section
open Go.RowKit Go.Sort
section
variable {sf : Nat} {lb sb : Array Value} {g n : Nat} {I : Array Lf → World → Prop}
theorem medAdj_lt (d : Array Lf) {a s m : Nat} (ha : a + 1 < m) : (medianAdjacent lessLf d a s).1 < m ∧ (medianAdjacent lessLf d a s).2 ≤ s + 3 := by
  unfold medianAdjacent
  exact median_lt d (by omega) (by omega) ha

set_option maxRecDepth 100000 in
set_option maxHeartbeats 4000000 in
theorem choose_any (H : Hd sf lb sb g n I) (a b : Nat) (d : Array Lf) (w : World) (h : I d w) (hab : a < b) (hb : b ≤ n) (hn : n < 1000000000) :
    Calls Tryz.prog 111 #[lsV sf lb sb, .int .i64 (a : Int), .int .i64 (b : Int)] w fun e w' =>
      e = .returned (.tuple #[.int .i64 ((choosePivot lessLf d a b).1 : Int), .int .i64 (hintCode (choosePivot lessLf d a b).2)]) ∧ Below w.heap.size w w' := by
  have hB1 : Below w.heap.size w (w.alloc (.cells #[.func (.func 69) #[] lb, .func (.func sf) #[] sb] 143)) := (Below.refl _ w).alloc (Nat.le_refl _) _
  have kb1 := Blk.new w 143 [.func (.func 69) #[] lb, .func (.func sf) #[] sb]
  have hz1 : (w.alloc (.cells #[.func (.func 69) #[] lb, .func (.func sf) #[] sb] 143)).heap.size = w.heap.size + 1 := by simp
  have kb2 := kb1.alloc (.cells #[.int .i64 0] 3)
  have hB2 := hB1.alloc hB1.size (.cells #[.int .i64 0] 3)
  have hC : Ct w (w.heap.size + 1) 0 ((w.alloc (.cells #[.func (.func 69) #[] lb, .func (.func sf) #[] sb] 143)).alloc (.cells #[.int .i64 0] 3)) :=
    ⟨hB2, by omega, by have := Blk.new (w.alloc (.cells #[.func (.func 69) #[] lb, .func (.func sf) #[] sb] 143)) 3 [.int .i64 0]; rw [hz1] at this; exact this⟩
  have MA := Lib.hid (fun (x s : Nat) (W : World) hc h1 h2 h3 => medAdj_any H x (w.heap.size + 1) s d w W h hc h1 h2 h3 hn)
  have MD := Lib.hid (fun (x y z s : Nat) (W : World) hc h1 h2 h3 h4 => median_any H x y z (w.heap.size + 1) s d w W h hc h1 h2 h3 h4)
  have hne : ∀ q : Nat, some (w.heap.size + 1) ≠ some q ↔ w.heap.size + 1 ≠ q := fun q => by simp
  have hne1 : some (w.heap.size + 1) ≠ some w.heap.size := by simp
  have c0 := kb2.cell (j := 0) rfl
  have c1 := kb2.cell (j := 1) rfl
  have k0 := hC.blk.cell (j := 0) rfl
  rw [choosePivot_eq]
  obtain ⟨I', hI⟩ : ∃ I' : Nat, I' = a + (b - a) / 4 * 1 := ⟨_, rfl⟩
  obtain ⟨J, hJ⟩ : ∃ J : Nat, J = a + (b - a) / 4 * 2 := ⟨_, rfl⟩
  obtain ⟨K, hK⟩ : ∃ K : Nat, K = a + (b - a) / 4 * 3 := ⟨_, rfl⟩
  have eI : ((a : Int) + ((b : Int) - (a : Int)) / 4) = (I' : Int) := by omega
  have eJ : ((a : Int) + ((b : Int) - (a : Int)) / 4 * 2) = (J : Int) := by omega
  have eK : ((a : Int) + ((b : Int) - (a : Int)) / 4 * 3) = (K : Int) := by omega
  have fin : ∀ s : Nat, s = 0 ∨ s = 12 ∨ (s ≠ 0 ∧ s ≠ 12) := fun s => by omega
  have hab' : (a : Int) < (b : Int) := by omega
  by_cases h8 : b - a ≥ 8
  · have h8' : (8 : Int) ≤ (b : Int) - (a : Int) := by omega
    by_cases h50 : b - a ≥ 50
    · have h50' : (50 : Int) ≤ (b : Int) - (a : Int) := by omega
      obtain ⟨i1, s1, q1⟩ : ∃ i1 s1, medianAdjacent lessLf d I' 0 = (i1, s1) := ⟨_, _, rfl⟩
      obtain ⟨j1, s2, q2⟩ : ∃ j1 s2, medianAdjacent lessLf d J s1 = (j1, s2) := ⟨_, _, rfl⟩
      obtain ⟨k1, s3, q3⟩ : ∃ k1 s3, medianAdjacent lessLf d K s2 = (k1, s3) := ⟨_, _, rfl⟩
      obtain ⟨p, s, q4⟩ : ∃ p s, median lessLf d i1 j1 k1 s3 = (p, s) := ⟨_, _, rfl⟩
      have hraw : rawPivot lessLf d a b = (p, s) := by simp only [rawPivot, if_pos h8, if_pos h50, ← hI, ← hJ, ← hK, q1, q2, q3, q4]
      have m1 := medAdj_lt d (a := I') (s := 0) (m := n) (by omega); rw [q1] at m1
      have m2 := medAdj_lt d (a := J) (s := s1) (m := n) (by omega); rw [q2] at m2
      have m3 := medAdj_lt d (a := K) (s := s2) (m := n) (by omega); rw [q3] at m3
      simp only [] at m1 m2 m3
      have C1 := Lib.hid (fun W hc => MA.out I' 0 W hc (by omega) (by omega) (by omega))
      have C2 := Lib.hid (fun W hc => MA.out J s1 W hc (by omega) (by omega) (by omega))
      have C3 := Lib.hid (fun W hc => MA.out K s2 W hc (by omega) (by omega) (by omega))
      have C4 := Lib.hid (fun W hc => MD.out i1 j1 k1 s3 W hc m1.1 m2.1 m3.1 (by omega))
      rw [q1] at C1
      rw [q2] at C2
      rw [q3] at C3
      rw [q4] at C4
      rw [hraw]
      clear q1 q2 q3 q4 hraw MA MD hI hJ hK m1 m2 m3
      go_enter Tryz.func111, Tryz.ntmps111
      go_wp2_with fail
      refine (C1.out _ hC).mono ?_
      rintro e w3 ⟨rfl, hc3, hg3⟩
      have kb3 := kb2.grown hg3 hne1
      have c0 := kb3.cell (j := 0) rfl
      have c1 := kb3.cell (j := 1) rfl
      clear k0
      go_wp2_with fail
      refine (C2.out _ hc3).mono ?_
      rintro e w4 ⟨rfl, hc4, hg4⟩
      have kb4 := kb3.grown hg4 hne1
      have c0 := kb4.cell (j := 0) rfl
      have c1 := kb4.cell (j := 1) rfl
      go_wp2_with fail
      refine (C3.out _ hc4).mono ?_
      rintro e w5 ⟨rfl, hc5, hg5⟩
      have kb5 := kb4.grown hg5 hne1
      have c0 := kb5.cell (j := 0) rfl
      have c1 := kb5.cell (j := 1) rfl
      go_wp2_with fail
      refine (C4.out _ hc5).mono ?_
      rintro e w6 ⟨rfl, hc6, hg6⟩
      have k0 := hc6.blk.cell (j := 0) rfl
      have hbel := hc6.bel
      rcases fin s with rfl | rfl | ⟨e1, e2⟩
      · go_wp2_with fail
        go_ret2
        exact ⟨rfl, hbel⟩
      · go_wp2_with fail
        go_ret2
        exact ⟨rfl, hbel⟩
      · have b1 : ((s : Int) == 0) = false := by simpa using e1
        have b2 : ((s : Int) == 12) = false := by simp; omega
        go_wp2_with fail
        go_ret2
        refine ⟨?_, hbel⟩
        unfold hintOf
        rw [if_neg e1, if_neg e2]
        rfl
    · have h50' : ¬ (50 : Int) ≤ (b : Int) - (a : Int) := by omega
      obtain ⟨p, s, q4⟩ : ∃ p s, median lessLf d I' J K 0 = (p, s) := ⟨_, _, rfl⟩
      have hraw : rawPivot lessLf d a b = (p, s) := by simp only [rawPivot, if_pos h8, if_neg h50, ← hI, ← hJ, ← hK, q4]
      have C4 := Lib.hid (fun W hc => MD.out I' J K 0 W hc (by omega) (by omega) (by omega) (by omega))
      rw [q4] at C4
      rw [hraw]
      clear q4 hraw MA MD hI hJ hK
      go_enter Tryz.func111, Tryz.ntmps111
      go_wp2_with fail
      refine (C4.out _ hC).mono ?_
      rintro e w6 ⟨rfl, hc6, hg6⟩
      have k0 := hc6.blk.cell (j := 0) rfl
      have hbel := hc6.bel
      rcases fin s with rfl | rfl | ⟨e1, e2⟩
      · go_wp2_with fail
        go_ret2
        exact ⟨rfl, hbel⟩
      · go_wp2_with fail
        go_ret2
        exact ⟨rfl, hbel⟩
      · have b1 : ((s : Int) == 0) = false := by simpa using e1
        have b2 : ((s : Int) == 12) = false := by simp; omega
        go_wp2_with fail
        go_ret2
        refine ⟨?_, hbel⟩
        unfold hintOf
        rw [if_neg e1, if_neg e2]
        rfl
  · have h8' : ¬ (8 : Int) ≤ (b : Int) - (a : Int) := by omega
    have hraw : rawPivot lessLf d a b = (J, 0) := by simp only [rawPivot, if_neg h8, ← hJ]
    rw [hraw]
    clear hraw MA MD hI hJ hK
    have hbel := hC.bel
    go_enter Tryz.func111, Tryz.ntmps111
    go_wp2_with fail
    go_ret2
    exact ⟨rfl, hbel⟩
end
end
/-! breakPatterns_func. -/
section
open Go.RowKit Go.Sort
section
variable {sf : Nat} {lb sb : Array Value} {g n : Nat} {I : Array Lf → World → Prop}

/-- what is known hangs on no block from B0 on -/
structure Asd (B0 : Nat) (I : Array Lf → World → Prop) : Prop where
  keep : ∀ {d W W' C}, I d W → B0 ≤ C → W.grownBy W' (some C) → I d W'
  low : ∀ {d W}, I d W → B0 ≤ W.heap.size
theorem Asd.box {B0 : Nat} (hA : Asd B0 I) {d : Array Lf} {w : World} (h : I d w) : Asd (w.heap.size + 1) (Bx sf lb sb g (fun d W => I d W ∧ w.grownBy W (some g)) w.heap.size) where
  keep {d W W' C} k hC hg := by
    have h0 := hA.low h
    have hne : w.heap.size ≠ C := by omega
    have hne2 : ∀ q : Nat, (some (⟨w.heap.size, q, none⟩ : Addr).block) ≠ some C := fun q => by simpa using hne
    exact ⟨⟨hA.keep k.st.1 (by omega) hg, grown2 k.st.2 hg (fun q e => .inl (by cases e; omega))⟩, hg.cell k.c0 (hne2 0), hg.cell k.c1 (hne2 1), k.ne⟩
  low {d W} k := by
    have := World.block_lt_of_cell? _ _ k.c0
    exact this

set_option maxRecDepth 100000 in
set_option maxHeartbeats 6000000 in
theorem breakL_any (H : Hd sf lb sb g n I) {B0 : Nat} (hA : Asd B0 I) (a L : Nat) (d : Array Lf) (w : World) (h : I d w) (hb : a + L ≤ n) (h8 : 8 ≤ L) (hn : n < 1000000000) :
    Calls Tryz.prog 110 #[lsV sf lb sb, .int .i64 (a : Int), .int .i64 ((a + L : Nat) : Int)] w fun e w' =>
      e = .returned (.tuple #[]) ∧ I (breakPatterns d a (a + L)) w' ∧ w.grownBy w' (some g) := by
  have HJ := (H.since w).box w.heap.size
  have h0 := H.boxed h
  have AJ : Asd (w.heap.size + 1) (Bx sf lb sb g (fun d W => I d W ∧ w.grownBy W (some g)) w.heap.size) := hA.box h
  have hgl := H.lt h
  rw [breakPatterns_eq d a L h8]
  obtain ⟨M, hM⟩ : ∃ M : Nat, M = 1 <<< bitsLen L := ⟨_, rfl⟩
  have hM1 : 1 ≤ M := by rw [hM, Nat.one_shiftLeft]; exact Nat.two_pow_pos _
  have hM2 : M ≤ 2 * L := by rw [hM, Nat.one_shiftLeft]; exact two_pow_bitsLen_le (by omega)
  have hNP : ∀ w, Calls Tryz.prog 122 #[.int .i64 (L : Int)] w fun e w' => e = .returned (.int .u64 (M : Int)) ∧ w' = w := by rw [hM]; exact fun w => Any.nextPowerOfTwo { sortLays with } L (by omega) w
  rw [← hM]
  clear hM
  have hLz : ((a : Int) + (L : Int) - (a : Int)) = (L : Int) := by omega
  have h8z : (8 : Int) ≤ (L : Int) := by omega
  have hz1 : (w.alloc (.cells #[.func (.func 69) #[] lb, .func (.func sf) #[] sb] 143)).heap.size = w.heap.size + 1 := by simp
  go_enter Tryz.func110, Tryz.ntmps110
  go_wp2_with fail
  refine (hNP _).mono ?_
  rintro e w2 ⟨rfl, rfl⟩
  have kR := Blk.new (w.alloc (.cells #[.func (.func 69) #[] lb, .func (.func sf) #[] sb] 143)) 164 [.int .u64 (L : Int)]
  have h1 := HJ.below h0 ((Below.refl _ (w.alloc (.cells #[.func (.func 69) #[] lb, .func (.func sf) #[] sb] 143))).alloc (Nat.le_refl _) (.cells #[.int .u64 (L : Int)] 164))
  rw [hz1] at kR
  clear h0
  replace kR : Blk ((w.alloc (.cells #[.func (.func 69) #[] lb, .func (.func sf) #[] sb] 143)).alloc (.cells #[.int .u64 (L : Int)] 164)) (w.heap.size + 1) 164 [.int .u64 (L : Int)] := kR
  generalize (w.alloc _).alloc _ = w1 at *
  go_wp2_with fail
  go_loopw [9] (fun vi wr => ∃ (t : Nat) (r : UInt64) (dk : Array Lf), vi = .int .i64 ((a : Int) + (L : Int) / 4 * 2 - 1 + (t : Int)) ∧ t ≤ 3 ∧ Bx sf lb sb g (fun d W => I d W ∧ w.grownBy W (some g)) w.heap.size dk wr ∧
      Blk wr (w.heap.size + 1) 164 [.int .u64 (r.toNat : Int)] ∧
      bpRest a L M (a + L / 4 * 2 - 1) (3 - t) t (r, dk) = bpRest a L M (a + L / 4 * 2 - 1) 3 0 (UInt64.ofNat L, d)) (fun vi _ => ((a : Int) + (L : Int) / 4 * 2 + 3 - intOf vi).toNat)
  case atStart =>
    refine ⟨0, UInt64.ofNat L, d, by simp, by omega, h1, ?_, rfl⟩
    rw [show (UInt64.ofNat L).toNat = L from by simp; omega]
    exact kR
  case round =>
    clear kR h1
    obtain ⟨t, r, dk, rfl, ht, hK, kR, hR⟩ := hrel
    have HR := Lib.hid hR
    clear hR
    by_cases ht3 : t < 3
    · have hle : (a : Int) + (L : Int) / 4 * 2 - 1 + (t : Int) ≤ (a : Int) + (L : Int) / 4 * 2 + 1 := by omega
      obtain ⟨R, hRr⟩ : ∃ R : Nat, R = r.toNat := ⟨_, rfl⟩
      have lR : R < 18446744073709551616 := by rw [hRr]; exact r.toNat_lt
      obtain ⟨R', hR'⟩ : ∃ R' : Nat, R' = xorNextN R := ⟨_, rfl⟩
      have lR' : R' < 18446744073709551616 := by rw [hR']; exact xorNextN_lt R lR
      obtain ⟨O, hO⟩ : ∃ O : Nat, O = R' &&& (M - 1) := ⟨_, rfl⟩
      have lO : O ≤ M - 1 := by rw [hO]; exact Nat.and_le_right
      have eAnd : bits .and .u64 (R' : Int) ((M : Int) - 1) = (O : Int) := by
        rw [show ((M : Int) - 1) = ((M - 1 : Nat) : Int) by omega, bits_and_u64_nat _ _ lR' (by omega), hO]
      rw [← hRr] at kR
      have hNext : Calls Tryz.prog 123 #[.pointer (some ⟨w.heap.size + 1, 0, none⟩)] wr fun e w' => e = .returned (.int .u64 (R' : Int)) ∧ w' = (wr.setCell ⟨w.heap.size + 1, 0, none⟩ (.int .u64 (R' : Int))).drewN 3 := by
        rw [hR']; exact Any.xorshift_Next { sortLays with } _ _ R lR wr (kR.cell (j := 0) rfl) (kR.free 0)
      have HN := Lib.hid (show R' = (xorNext r).toNat ∧ O = (xorNext r).toNat &&& (M - 1) from by
        have e : R' = (xorNext r).toNat := by rw [hR', hRr, xorNext_toNat]
        exact ⟨e, by rw [hO, e]⟩)
      clear hRr hR' hO
      have kR2 := (kR.set 0 (.int .u64 (R' : Int))).drewN 3
      have hK2 : Bx sf lb sb g (fun d W => I d W ∧ w.grownBy W (some g)) w.heap.size dk ((wr.setCell ⟨w.heap.size + 1, 0, none⟩ (.int .u64 (R' : Int))).drewN 3) :=
        HJ.below (AJ.keep hK (Nat.le_refl _) (set_grown wr (w.heap.size + 1) 0 (.int .u64 (R' : Int)))) ⟨rfl, rfl, rfl, Nat.le_refl _, fun _ _ => rfl⟩
      go_wp2_with fail
      refine hNext.mono ?_
      rintro e w3 ⟨rfl, rfl⟩
      generalize (wr.setCell _ _).drewN 3 = w3 at *
      have c1 := hK2.c1
      clear hNext kR hK
      by_cases hLO : L ≤ O
      · have hLOz : (L : Int) ≤ (O : Int) := by omega
        go_wp2_with fail
        obtain ⟨w4, hs1, h4, hg4⟩ := HJ.swap (a + L / 4 * 2 - 1 + t) (a + (O - L)) hK2 (by omega) (by omega) (by omega)
        rw [show ((a + L / 4 * 2 - 1 + t : Nat) : Int) = (a : Int) + (L : Int) / 4 * 2 - 1 + (t : Int) by omega, show ((a + (O - L) : Nat) : Int) = (a : Int) + ((O : Int) - (L : Int)) by omega] at hs1
        rw [hs1, Oper.upon_value]
        clear hs1
        have kR4 := kR2.grown hg4 (by simp; omega)
        go_wp2_with fail
        exact ⟨⟨t + 1, xorNext r, _, by congr 1; push_cast; omega, by omega, h4, by rw [← HN.out.1]; exact kR4, by rw [← HR.out, bp_step a L M _ t r dk (O - L) ht3 (by rw [← HN.out.2, if_pos (by omega)])]⟩, by simp [intOf]; omega⟩
      · have hLOz : ¬ (L : Int) ≤ (O : Int) := by omega
        go_wp2_with fail
        obtain ⟨w4, hs1, h4, hg4⟩ := HJ.swap (a + L / 4 * 2 - 1 + t) (a + O) hK2 (by omega) (by omega) (by omega)
        rw [show ((a + L / 4 * 2 - 1 + t : Nat) : Int) = (a : Int) + (L : Int) / 4 * 2 - 1 + (t : Int) by omega, show ((a + O : Nat) : Int) = (a : Int) + (O : Int) by omega] at hs1
        rw [hs1, Oper.upon_value]
        clear hs1
        have kR4 := kR2.grown hg4 (by simp; omega)
        go_wp2_with fail
        exact ⟨⟨t + 1, xorNext r, _, by congr 1; push_cast; omega, by omega, h4, by rw [← HN.out.1]; exact kR4, by rw [← HR.out, bp_step a L M _ t r dk O ht3 (by rw [← HN.out.2, if_neg (by omega)])]⟩, by simp [intOf]; omega⟩
    · obtain rfl : t = 3 := by omega
      have hle : ¬ ((a : Int) + (L : Int) / 4 * 2 - 1 + ((3 : Nat) : Int) ≤ (a : Int) + (L : Int) / 4 * 2 + 1) := by omega
      go_wp2_with fail
      go_end0
      rw [← HR.out]
      exact ⟨rfl, hK.st⟩
theorem break_any (H : Hd sf lb sb g n I) {B0 : Nat} (hA : Asd B0 I) (a b : Nat) (d : Array Lf) (w : World) (h : I d w) (hab : a + 8 ≤ b) (hb : b ≤ n) (hn : n < 1000000000) :
    Calls Tryz.prog 110 #[lsV sf lb sb, .int .i64 (a : Int), .int .i64 (b : Int)] w fun e w' =>
      e = .returned (.tuple #[]) ∧ I (breakPatterns d a b) w' ∧ w.grownBy w' (some g) := by
  obtain ⟨L, rfl⟩ : ∃ L, b = a + L := ⟨b - a, by omega⟩
  exact breakL_any H hA a L d w h hb (by omega) hn
end
end
end Go.Proofs.YtielmijahccgkaaGreatDoor
