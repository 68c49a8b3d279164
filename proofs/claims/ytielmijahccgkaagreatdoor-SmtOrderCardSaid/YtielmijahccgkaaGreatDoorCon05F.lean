/-
  pdqsort_func, at every length.
-/
import Derived.Test.YtielmijahccgkaaGreatDoorCon05J
import Derived.Test.YtielmijahccgkaaGreatDoorCon05Q
import Derived.Sort.Walk13
import Derived.Sort.AssemblyPlain
namespace Go.Proofs.YtielmijahccgkaaGreatDoor
open Go.RowKit Go.Sort
section
variable {sf : Nat} {lb sb : Array Value} {g n : Nat}
theorem Hd.own {I : Array Lf → World → Prop} (H : Hd sf lb sb g n I) {B0 : Nat} (hA : Asd B0 I) {d : Array Lf} {w : World} (h : I d w) :
    ∃ J : Array Lf → World → Prop, Hd sf lb sb g n J ∧ Asd (w.heap.size + 1) J ∧ (∀ d W, J d W → W.cell? ⟨w.heap.size, 0, none⟩ = some (.func (.func 69) #[] lb) ∧ W.cell? ⟨w.heap.size, 1, none⟩ = some (.func (.func sf) #[] sb)) ∧
      (∀ d W, J d W → I d W ∧ w.grownBy W (some g)) ∧ J d (w.alloc (.cells #[.func (.func 69) #[] lb, .func (.func sf) #[] sb] 143)) :=
  ⟨_, (H.since w).box w.heap.size, hA.box h, fun _ _ k => ⟨k.c0, k.c1⟩, fun _ _ k => k.st, H.boxed h⟩

set_option maxRecDepth 1000000 in
set_option maxHeartbeats 12800000 in
theorem pdq_any : ∀ (N : Nat) {I : Array Lf → World → Prop} (_ : Hd sf lb sb g n I) {B0 : Nat} (_ : Asd B0 I) (a b limit : Nat) (d : Array Lf) (w : World), I d w → b - a < N → a ≤ b → b ≤ n → n < 1000000000 → limit < 1000000000 → Sort.Below lessLf a b d →
    Calls Tryz.prog 89 #[lsV sf lb sb, .int .i64 (a : Int), .int .i64 (b : Int), .int .i64 (limit : Int)] w fun e w' =>
      e = .returned (.tuple #[]) ∧ I (pdq lessLf d a b limit true true) w' ∧ w.grownBy w' (some g) := by
  intro N
  induction N with
  | zero => intro _ _ _ _ _ _ _ _ _ _ h; exact absurd h (Nat.not_lt_zero _)
  | succ N ih =>
    intro I H B0 hA a b limit d w h hN hab hb hn hlimit hBel0
    obtain ⟨J, HJ, AJ, jc, jI, h0⟩ := H.own hA h
    have hds0 : ∀ {D W}, J D W → D.size = n := fun k => HJ.size k
    go_enter Tryz.func89, Tryz.ntmps89
    go_wp2_with fail
    generalize w.alloc _ = w1 at *
    go_loopg [1, 2, 3, 8, 9] (b - a) (fun kx s1 s2 s3 s8 s9 wr => ∃ (a' b' lim : Nat) (wb wp : Bool) (dk : Array Lf), s1 = .int .i64 a' ∧ s2 = .int .i64 b' ∧ s3 = .int .i64 lim ∧ s8 = .bool wb ∧ s9 = .bool wp ∧
      a' ≤ b' ∧ b' ≤ n ∧ b' - a' ≤ kx ∧ kx ≤ b - a ∧ lim ≤ limit ∧ Sort.Below lessLf a' b' dk ∧ J dk wr ∧ pdq lessLf dk a' b' lim wb wp = pdq lessLf d a b limit true true)
    case atStart => exact ⟨a, b, limit, true, true, d, rfl, rfl, rfl, rfl, rfl, hab, hb, Nat.le_refl _, Nat.le_refl _, Nat.le_refl _, hBel0, h0, rfl⟩
    case round =>
      clear h0
      obtain ⟨a', b', lim, wb, wp, dk, rfl, rfl, rfl, rfl, rfl, hab', hb', hkx, hkN, hlim, hBel, hK, heq⟩ := hrel
      have x0 := (jc _ _ hK).1
      have x1 := (jc _ _ hK).2
      have A := Lib.hid heq
      clear heq
      have hds := hds0 hK
      by_cases h12 : b' - a' ≤ 12
      · have h12z : (b' : Int) - (a' : Int) ≤ 12 := by omega
        have hc := insertion_any HJ a' b' dk wr hK hab' hb' (by omega)
        go_wp2_with fail
        refine hc.mono ?_
        rintro e w2 ⟨rfl, h2, -⟩
        go_wp2_with fail
        (try simp only [Exit.inBlock, Exit.then]); refine bodyPost_ret (results_none rfl _ _ _) rfl ?_
        rw [← A.out, pdq_small h12]
        exact ⟨rfl, jI _ _ h2⟩
      · have h12z : ¬ ((b' : Int) - (a' : Int) ≤ 12) := by omega
        by_cases hl0 : lim = 0
        · subst hl0
          have hc := heap_any HJ a' b' dk wr hK hab' hb' (by omega) hn
          go_wp2_with fail
          refine hc.mono ?_
          rintro e w2 ⟨rfl, h2, -⟩
          go_wp2_with fail
          (try simp only [Exit.inBlock, Exit.then]); refine bodyPost_ret (results_none rfl _ _ _) rfl ?_
          rw [← A.out, pdq_heap h12 rfl]
          exact ⟨rfl, jI _ _ h2⟩
        · have hl0z : ¬ ((lim : Int) = 0) := by omega
          obtain ⟨s1, B1, hc1, s2, B2, hpv, s3, B3⟩ := rd_facts (lt := lessLf) (limit := lim) (wb := wb) (wp := wp) swoLf partialInsertionSort_holds reverseRange_holds (show a' < b' by omega) (show b' ≤ dk.size by omega) hBel
          go_upto_if 35 with fail
          go_cut [3] from 19 (fun s3 wc => s3 = .int .i64 (rd lessLf dk a' b' lim wb wp).lim ∧ J (rd lessLf dk a' b' lim wb wp).d1 wc)
          case first =>
            cases wb
            · have hc := break_any HJ AJ a' b' dk wr hK (by omega) hb' hn
              go_wp2_with fail
              refine hc.mono ?_
              rintro e w2 ⟨rfl, h2, -⟩
              go_wp2_with fail
              go_meet
              case rel =>
                refine ⟨?_, h2⟩
                show Value.int .i64 ((lim : Int) - 1) = Value.int .i64 ((lim - 1 : Nat) : Int)
                congr 1
                omega
            · go_wp2_with fail
              go_meet
              case rel => exact ⟨rfl, hK⟩
          case rest =>
            obtain ⟨rfl, hK1⟩ := hcut
            clear x0 x1
            have y0 := (jc _ _ hK1).1
            have y1 := (jc _ _ hK1).2
            have hc17 : Calls Tryz.prog 111 #[lsV sf lb sb, .int .i64 a', .int .i64 b'] wc fun e w' => e = .returned (.tuple #[.int .i64 (rd lessLf dk a' b' lim wb wp).c.1, .int .i64 (hintCode (rd lessLf dk a' b' lim wb wp).c.2)]) ∧ Go.RowKit.Below wc.heap.size wc w' :=
              choose_any HJ a' b' (rd lessLf dk a' b' lim wb wp).d1 wc hK1 (by omega) hb' hn
            go_upto_if 50 with fail
            refine hc17.mono ?_
            rintro e w2 ⟨rfl, hw2⟩
            go_upto_if 50 with fail
            have hK2 := HJ.below hK1 hw2
            clear y0 y1
            have z0 := (jc _ _ hK2).1
            have z1 := (jc _ _ hK2).2
            go_cut [11, 12] from 19 (fun s11 s12 wc => s11 = .int .i64 (rd lessLf dk a' b' lim wb wp).pivot ∧ s12 = .int .i64 (hintCode (rd lessLf dk a' b' lim wb wp).hint) ∧ J (rd lessLf dk a' b' lim wb wp).d2 wc)
            case first =>
              by_cases hh : (rd lessLf dk a' b' lim wb wp).c.2 = .decreasing
              · have hcode : hintCode (rd lessLf dk a' b' lim wb wp).c.2 = 2 := by rw [hh]; rfl
                obtain ⟨e2, epv, eht⟩ := rd_dec hh
                have hc18 := reverse_any HJ a' b' (rd lessLf dk a' b' lim wb wp).d1 w2 hK2 (by omega) hb' hn
                go_wp2_with fail
                refine hc18.mono ?_
                rintro e w3 ⟨rfl, h3, -⟩
                go_wp2_with fail
                go_meet
                case rel =>
                  refine ⟨?_, by rw [eht]; rfl, by rw [e2]; exact h3⟩
                  rw [epv]
                  congr 1
                  omega
              · have hcode : ¬ (hintCode (rd lessLf dk a' b' lim wb wp).c.2 = 2) := fun h => hh (hintCode_two h)
                obtain ⟨e2, epv, eht⟩ := rd_not hh
                go_wp2_with fail
                go_meet
                case rel => exact ⟨by rw [epv], by rw [eht], by rw [e2]; exact hK2⟩
            case rest =>
              obtain ⟨rfl, rfl, hK3⟩ := hcut
              clear z0 z1
              have v0 := (jc _ _ hK3).1
              have v1 := (jc _ _ hK3).2
              go_upto_region 16 with fail
              go_cut [12, 68] from 19 (fun s12 s68 wx => s12 = .int .i64 (hintCode (rd lessLf dk a' b' lim wb wp).hint) ∧ s68 = .bool (wb && wp && decide ((rd lessLf dk a' b' lim wb wp).hint = .increasing)) ∧ wx = wc)
              case first =>
                cases wb <;> cases wp <;> cases hh3 : (rd lessLf dk a' b' lim _ _).hint <;>
                  (have hcode3 := congrArg hintCode hh3
                   simp only [hintCode] at hcode3
                   go_wp2_with fail
                   go_meet
                   exact ⟨by simp [hh3, hintCode], by simp [hh3, hintCode], rfl⟩)
              case rest =>
                obtain ⟨rfl, rfl, rfl⟩ := hcut
                go_upto_if 68 with fail
                go_cut [] from 19 (fun wx => (rd lessLf dk a' b' lim wb wp).pi.2 = false ∧ J (rd lessLf dk a' b' lim wb wp).pi.1 wx)
                case first =>
                  cases h68 : (wb && wp && decide ((rd lessLf dk a' b' lim wb wp).hint = .increasing))
                  · have epi := rd_pi_no h68
                    go_wp2_with fail
                    go_meet
                    case rel => exact ⟨by rw [epi], by rw [epi]; exact hK3⟩
                  · have epi := rd_pi_yes h68
                    have hc19 := pins_any HJ a' b' (rd lessLf dk a' b' lim wb wp).d2 wc hK3 (by omega) hb' hn
                    rw [← epi] at hc19
                    go_wp2_with fail
                    refine hc19.mono ?_
                    rintro e w4 ⟨rfl, h4, -⟩
                    cases hp2 : (rd lessLf dk a' b' lim wb wp).pi.2
                    · go_wp2_with fail
                      go_meet
                      exact ⟨by first | exact hp2 | rfl, h4⟩
                    · go_wp2_with fail
                      (try simp only [Exit.inBlock, Exit.then]); refine bodyPost_ret (results_none rfl _ _ _) rfl ?_
                      rw [← A.out, pdq_done h12 hl0 hp2]
                      exact ⟨rfl, jI _ _ h4⟩
                case rest =>
                  obtain ⟨hp2, hK5⟩ := hcut
                  clear v0 v1
                  have t0 := (jc _ _ hK5).1
                  have t1 := (jc _ _ hK5).2
                  go_upto_region 18 with fail
                  go_cut [83] from 19 (fun s83 wx => s83 = .bool (decide (a' > 0) && !lessLf (rd lessLf dk a' b' lim wb wp).pi.1[a' - 1]! (rd lessLf dk a' b' lim wb wp).pi.1[(rd lessLf dk a' b' lim wb wp).pivot]!) ∧ J (rd lessLf dk a' b' lim wb wp).pi.1 wx)
                  case first =>
                    rcases Nat.eq_zero_or_pos a' with ha0 | ha0
                    · have ha0z : decide ((a' : Int) > 0) = false := decide_eq_false (by omega)
                      go_wp2_with fail
                      go_meet
                      case rel => exact ⟨by simp [ha0], hK5⟩
                    · have ha0z : (a' : Int) > 0 := by omega
                      have hl := HJ.less (a' - 1) (rd lessLf dk a' b' lim wb wp).pivot hK5 (by omega) (by omega)
                      rw [show ((a' - 1 : Nat) : Int) = (a' : Int) - 1 by omega] at hl
                      cases hlv : lessLf (rd lessLf dk a' b' lim wb wp).pi.1[a' - 1]! (rd lessLf dk a' b' lim wb wp).pi.1[(rd lessLf dk a' b' lim wb wp).pivot]! <;>
                        (rw [hlv] at hl
                         go_wp2_with fail
                         refine hl.mono ?_
                         rintro e w5 ⟨rfl, hb5⟩
                         have h5 := HJ.below hK5 hb5
                         go_wp2_with fail
                         go_meet
                         exact ⟨by simp [ha0, hlv], h5⟩)
                  case rest =>
                    obtain ⟨rfl, hK6⟩ := hcut
                    clear t0 t1
                    have q0 := (jc _ _ hK6).1
                    have q1 := (jc _ _ hK6).2
                    cases h87 : (decide (a' > 0) && !lessLf (rd lessLf dk a' b' lim wb wp).pi.1[a' - 1]! (rd lessLf dk a' b' lim wb wp).pi.1[(rd lessLf dk a' b' lim wb wp).pivot]!)
                    · obtain ⟨mid, ap, d4, hx⟩ : ∃ mid ap d4, partition lessLf (rd lessLf dk a' b' lim wb wp).pi.1 a' b' (rd lessLf dk a' b' lim wb wp).pivot = (mid, ap, d4) := ⟨_, _, _, rfl⟩
                      obtain ⟨r1, r2, r3, r4, r5, r6, r7⟩ := round_part swoLf (partition_holds lessLf) hpv.1 hpv.2 (show b' ≤ (rd lessLf dk a' b' lim wb wp).pi.1.size by omega) B3 hx
                      have hc22 := part_any HJ a' b' (rd lessLf dk a' b' lim wb wp).pivot (rd lessLf dk a' b' lim wb wp).pi.1 wc hK6 hpv.2 (by omega) hb' hn
                      rw [hx] at hc22
                      have X := Lib.hid hx
                      clear hx
                      go_upto_if 109 with fail
                      refine hc22.mono ?_
                      rintro e w7 ⟨rfl, hK7, -⟩
                      go_upto_if 109 with fail
                      have hx := X.out
                      clear q0 q1
                      have p0 := (jc _ _ hK7).1
                      have p1 := (jc _ _ hK7).2
                      have hs4 := hds0 hK7
                      by_cases h4 : mid - a' < b' - mid
                      · have h4z : (mid : Int) - (a' : Int) < (b' : Int) - (mid : Int) := by omega
                        have hih := ih HJ AJ a' mid (rd lessLf dk a' b' lim wb wp).lim d4 w7 hK7 (by omega) (by omega) (by omega) hn (Nat.lt_of_le_of_lt (Nat.le_trans rd_lim_le hlim) hlimit) r4
                        obtain ⟨pL, sL⟩ := pdq_sorts lessLf swoLf d4 a' mid (rd lessLf dk a' b' lim wb wp).lim true true (by omega) (by omega) r4
                        go_wp2_with fail
                        refine hih.mono ?_
                        rintro e w8 ⟨rfl, hK8, -⟩
                        go_wp2_with fail
                        go_roundg (b' - (mid + 1))
                        case measure => omega
                        case rel =>
                          refine ⟨mid + 1, b', (rd lessLf dk a' b' lim wb wp).lim, decide (mid - a' ≥ (b' - a') / 8), ap, pdq lessLf d4 a' mid (rd lessLf dk a' b' lim wb wp).lim true true, by simp, rfl, rfl, ?_, rfl, by omega, by omega, Nat.le_refl _, by omega, Nat.le_trans rd_lim_le hlim, (r6 _ pL sL).1, hK8, ?_⟩
                          · exact congrArg Value.bool (eighth (by omega) (by omega))
                          · rw [← A.out, pdq_left h12 hl0 hp2 h87 (by rw [hx]; exact ⟨r1, r2⟩) (by rw [hx]; exact h4), hx]
                      · have h4z : ¬ ((mid : Int) - (a' : Int) < (b' : Int) - (mid : Int)) := by omega
                        have hih := ih HJ AJ (mid + 1) b' (rd lessLf dk a' b' lim wb wp).lim d4 w7 hK7 (by omega) (by omega) (by omega) hn (Nat.lt_of_le_of_lt (Nat.le_trans rd_lim_le hlim) hlimit) r5
                        rw [show ((mid + 1 : Nat) : Int) = (mid : Int) + 1 by omega] at hih
                        obtain ⟨pL, sL⟩ := pdq_sorts lessLf swoLf d4 (mid + 1) b' (rd lessLf dk a' b' lim wb wp).lim true true (by omega) (by omega) r5
                        go_wp2_with fail
                        refine hih.mono ?_
                        rintro e w8 ⟨rfl, hK8, -⟩
                        go_wp2_with fail
                        go_roundg (mid - a')
                        case measure => omega
                        case rel =>
                          refine ⟨a', mid, (rd lessLf dk a' b' lim wb wp).lim, decide (b' - mid ≥ (b' - a') / 8), ap, pdq lessLf d4 (mid + 1) b' (rd lessLf dk a' b' lim wb wp).lim true true, rfl, rfl, rfl, ?_, rfl, by omega, by omega, Nat.le_refl _, by omega, Nat.le_trans rd_lim_le hlim, (r7 _ pL sL).1, hK8, ?_⟩
                          · exact congrArg Value.bool (eighth (by omega) (by omega))
                          · rw [← A.out, pdq_right h12 hl0 hp2 h87 (by rw [hx]; exact ⟨r1, r2⟩) (by rw [hx]; exact h4), hx]
                    · have h87' := h87
                      simp only [Bool.and_eq_true, decide_eq_true_eq, Bool.not_eq_true'] at h87'
                      obtain ⟨mid, d4, hx⟩ : ∃ mid d4, partitionEqual lessLf (rd lessLf dk a' b' lim wb wp).pi.1 a' b' (rd lessLf dk a' b' lim wb wp).pivot = (mid, d4) := ⟨_, _, rfl⟩
                      obtain ⟨r1, r2, r3, r4, _⟩ := round_eq swoLf (partitionEqual_holds lessLf) h87'.1 hpv.1 hpv.2 (show b' ≤ (rd lessLf dk a' b' lim wb wp).pi.1.size by omega) B3 h87'.2 hx
                      have hc21 := partEq_any HJ a' b' (rd lessLf dk a' b' lim wb wp).pivot (rd lessLf dk a' b' lim wb wp).pi.1 wc hK6 hpv.2 (by omega) hb' hn
                      rw [hx] at hc21
                      have X := Lib.hid hx
                      clear hx
                      go_wp2_with fail
                      refine hc21.mono ?_
                      rintro e w7 ⟨rfl, hK7, -⟩
                      go_wp2_with fail
                      go_roundg (b' - mid)
                      case measure => omega
                      case rel =>
                        have hx := X.out
                        exact ⟨mid, b', (rd lessLf dk a' b' lim wb wp).lim, wb, wp, d4, rfl, rfl, rfl, rfl, rfl, r2, hb', Nat.le_refl _, by omega, Nat.le_trans rd_lim_le hlim, r4, hK7, by rw [← A.out, pdq_eq h12 hl0 hp2 h87 (by rw [hx]; exact ⟨r1, r2⟩), hx]⟩
end

theorem St.asd {w : World} {b1 g n c : Nat} {rest : List Value} {d : Array Lf} (h : St w b1 g n c rest d w) : Asd w.heap.size (St w b1 g n c rest) where
  keep {d' W W' C} k hC hg := by
    have h1 := h.row.lt
    have h2 := World.block_lt_of_cell? _ _ h.box
    have h2' : b1 < w.heap.size := h2
    have hne : b1 ≠ C := by omega
    exact ⟨k.row.grown hg (by simp; omega), k.size, k.ok, hg.cell k.box (by simpa using hne), grown2 k.bel hg (fun q e => .inl (by cases e; exact hC)), k.apart⟩
  low k := k.bel.size

theorem St.slice_all {w0 w : World} {b1 g n c : Nat} {rest : List Value} {d : Array Lf} (h0 : St w0 b1 g n c rest d w) (h2 : 2 ≤ n) (hn : n < 1000000000) :
    Calls Tryz.prog 68 #[.iface 35 (.slice (some ⟨g, 0, none⟩) n c), .func (.func 69) #[] #[.pointer (some ⟨b1, 0, none⟩)]] w fun e w' =>
      e = .returned (.tuple #[]) ∧ ∃ d', St w0 b1 g n c rest d' w' ∧ d'.toList.Perm d.toList ∧ inOrder d'.toList := by
  have h : St w b1 g n c rest d w := ⟨h0.row, h0.size, h0.ok, h0.box, World.grownBy.refl _ _, h0.apart⟩
  have hlim : Lib.bitLen n < 1000000000 := Nat.lt_of_le_of_lt (Lib.bitLen_le n 62 (by omega) (by omega)) (by omega)
  have hA := h.asd
  have h1 : St w b1 g n c rest d (sliceWorld Tryz.prog sortRen 35 (some ⟨g, 0, none⟩) n c w) := by
    unfold sliceWorld
    exact h.below (((Below.refl _ w).alloc (Nat.le_refl _) _).alloc (by simp) _)
  have hp := pdq_any (n + 1) (St.hands (w0 := w) (b1 := b1) (g := g) (n := n) (c := c) (rest := rest) 105 #[.slice (some ⟨g, 0, none⟩) n c, typeHandle Tryz.prog 26] (fun _ => ⟨rfl, rfl⟩)) hA 0 n (Lib.bitLen n) d _ h1 (by omega) (Nat.zero_le _) (Nat.le_refl _) hn hlim (Or.inl rfl)
  have hs := pdq_sorts lessLf swoLf d 0 n (Lib.bitLen n) true true (Nat.zero_le _) (Nat.le_of_eq h.size.symm) (Or.inl rfl)
  have hk := svK n h2
  refine Any.sort_Slice_of_pdq sortLays 35 26 svT svE (by kernel_rfl) (by kernel_rfl) (by kernel_rfl) (by kernel_rfl) 25 (fun _ => by kernel_rfl) (some ⟨g, 0, none⟩) n c (by omega) 105 (by rw [hk]; kernel_rfl) (.func 69) #[] #[.pointer (some ⟨b1, 0, none⟩)] w _ ?_
  have hB : sliceBound Tryz.prog 26 svE 25 (some ⟨g, 0, none⟩) n c = #[.slice (some ⟨g, 0, none⟩) n c, typeHandle Tryz.prog 26] := by unfold sliceBound; rw [hk, if_neg (by decide)]
  rw [hB]
  refine hp.mono ?_
  rintro e w' ⟨rfl, k, -⟩
  exact ⟨rfl, _, ⟨k.row, k.size, k.ok, k.box, grown2 h0.bel k.bel (fun q e => .inr e), k.apart⟩, sorted_row h.size hs.1 hs.2⟩
theorem sorts_all (n : Nat) (hn : n < 1000000000) : SortsAt n := by
  by_cases h : 2 ≤ n
  · exact fun _ _ _ _ _ _ _ hS => hS.slice_all h hn
  · exact sorts_small n (by omega)
end Go.Proofs.YtielmijahccgkaaGreatDoor
