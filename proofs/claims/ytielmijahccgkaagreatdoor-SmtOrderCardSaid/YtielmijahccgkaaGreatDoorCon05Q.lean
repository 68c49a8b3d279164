/-
  Con05Q Con05U, in one text.
-/
import Derived.Test.YtielmijahccgkaaGreatDoorCon05J
import Derived.Sort.WalkC
import Derived.Sort.WalkC4
import Derived.Sort.WalkA6
namespace Go.Proofs.YtielmijahccgkaaGreatDoor
/-! partitionEqual_func, partition_func. -/
section
open Go.RowKit Go.Sort
section
variable {sf : Nat} {lb sb : Array Value} {g n : Nat} {I : Array Lf → World → Prop}

set_option maxRecDepth 100000 in
set_option maxHeartbeats 6000000 in
theorem partEq_any (H : Hd sf lb sb g n I) (a b pivot : Nat) (d : Array Lf) (w : World) (h : I d w) (hpb : pivot < b) (hab : a + 1 < b) (hb : b ≤ n) (hn : n < 1000000000) :
    Calls Tryz.prog 114 #[lsV sf lb sb, .int .i64 (a : Int), .int .i64 (b : Int), .int .i64 (pivot : Int)] w fun e w' =>
      e = .returned (.int .i64 ((partitionEqual lessLf d a b pivot).1 : Int)) ∧ I (partitionEqual lessLf d a b pivot).2 w' ∧ w.grownBy w' (some g) := by
  have HJ := (H.since w).box w.heap.size
  have h0 := H.boxed h
  have HP := Lib.hid (show partitionEqual lessLf d a b pivot = partEqLoop lessLf a (a + 1) (b - 1) (swp d a pivot) from rfl)
  generalize partitionEqual lessLf d a b pivot = R at *
  go_enter Tryz.func114, Tryz.ntmps114
  go_wp2_with fail
  generalize w.alloc _ = w1 at *
  obtain ⟨w2, hs1, h2, -⟩ := HJ.swap a pivot h0 (by omega) (by omega) (by omega)
  rw [hs1, Oper.upon_value]
  clear hs1 h0
  go_wp2_with fail
  go_loopw [9, 10] (fun s t wr => ∃ (i j : Nat) (dk : Array Lf), s = .int .i64 i ∧ t = .int .i64 j ∧ a < i ∧ i ≤ j + 1 ∧ j < b ∧ Bx sf lb sb g (fun d W => I d W ∧ w.grownBy W (some g)) w.heap.size dk wr ∧
      R = partEqLoop lessLf a i j dk) (fun s t _ => (intOf t).toNat + 1 - (intOf s).toNat)
  case atStart => exact ⟨a + 1, b - 1, _, by go_num, by congr 1; omega, by omega, by omega, by omega, h2, HP.out⟩
  case round =>
    obtain ⟨i, j, dk, rfl, rfl, hai, hij, hjb, hK, hE⟩ := hrel
    have HE := Lib.hid hE
    clear hE h2 HP
    go_wp2_with fail
    go_loopw [9] (fun v wr => ∃ i' : Nat, v = .int .i64 i' ∧ i ≤ i' ∧ i' ≤ j + 1 ∧ Bx sf lb sb g (fun d W => I d W ∧ w.grownBy W (some g)) w.heap.size dk wr ∧
        scanUp (fun x => !lessLf dk[a]! x) dk j i' = scanUp (fun x => !lessLf dk[a]! x) dk j i) (fun v _ => j + 1 - (intOf v).toNat)
    case atStart => exact ⟨i, rfl, Nat.le_refl _, hij, hK, rfl⟩
    case round =>
      clear hK
      obtain ⟨i', rfl, hii, hij', hK, hU⟩ := hrel
      have HU := Lib.hid hU
      clear hU
      have c0 := hK.c0
      by_cases hle : i' ≤ j
      · have hle' : (i' : Int) ≤ (j : Int) := by omega
        have hl := HJ.less a i' hK (by omega) (by omega)
        go_wp2_with fail
        refine hl.mono ?_
        rintro e w3 ⟨rfl, hb3⟩
        have hK3 := HJ.below hK hb3
        cases hL : lessLf dk[a]! dk[i']! with
        | false =>
          go_wp2_with fail
          exact ⟨⟨i' + 1, by go_num, by omega, by omega, hK3, by rw [← HU.out]; exact (scanUp_go (fun x => !lessLf dk[a]! x) dk j i' hle (by simp [hL])).symm⟩, by simp [intOf]; omega⟩
        | true =>
          have HI := Lib.hid (show i' = scanUp (fun x => !lessLf dk[a]! x) dk j i from by rw [← HU.out]; exact (scanUp_end (fun x => !lessLf dk[a]! x) dk j i' (.inr (by simp [hL]))).symm)
          clear HU c0 hl
          go_wp2_with fail
          go_loopw [10] (fun v wr => ∃ j' : Nat, v = .int .i64 j' ∧ j' ≤ j ∧ i' ≤ j' + 1 ∧ Bx sf lb sb g (fun d W => I d W ∧ w.grownBy W (some g)) w.heap.size dk wr ∧
              scanDown (fun x => lessLf dk[a]! x) dk i' j' = scanDown (fun x => lessLf dk[a]! x) dk i' j) (fun v _ => (intOf v).toNat)
          case atStart => exact ⟨j, rfl, Nat.le_refl _, by omega, hK3, rfl⟩
          case round =>
            clear hK hK3
            obtain ⟨j', rfl, hjj, hij2, hK, hD⟩ := hrel
            have HD := Lib.hid hD
            clear hD
            have c0 := hK.c0
            by_cases hle2 : i' ≤ j'
            · have hle2' : (i' : Int) ≤ (j' : Int) := by omega
              have hl := HJ.less a j' hK (by omega) (by omega)
              go_wp2_with fail
              refine hl.mono ?_
              rintro e w4 ⟨rfl, hb4⟩
              have hK4 := HJ.below hK hb4
              cases hL2 : lessLf dk[a]! dk[j']! with
              | true =>
                go_wp2_with fail
                exact ⟨⟨j' - 1, by congr 1; omega, by omega, by omega, hK4, by rw [← HD.out]; exact (scanDown_go (fun x => lessLf dk[a]! x) dk i' j' hle2 (by omega) hL2).symm⟩, by simp [intOf]; omega⟩
              | false =>
                have HJ2 := Lib.hid (show j' = scanDown (fun x => lessLf dk[a]! x) dk i' j from by rw [← HD.out]; exact (scanDown_end (fun x => lessLf dk[a]! x) dk i' j' (.inr hL2)).symm)
                have hlt := scans_lt lessLf a i j dk (by omega) HI.out HJ2.out hle2
                have hlt' : ¬ (i' : Int) > (j' : Int) := by omega
                have c1 := hK4.c1
                go_wp2_with fail
                obtain ⟨w5, hs1, h5, -⟩ := HJ.swap i' j' hK4 (by omega) (by omega) (by omega)
                rw [hs1, Oper.upon_value]
                clear hs1
                go_wp2_with fail
                exact ⟨⟨i' + 1, j' - 1, _, by go_num, by congr 1; omega, by omega, by omega, by omega, h5, by rw [HE.out]; exact partEq_go lessLf a i j dk HI.out HJ2.out (by omega)⟩, by simp [intOf]; omega⟩
            · have hle2' : ¬ (i' : Int) ≤ (j' : Int) := by omega
              have hgt : (i' : Int) > (j' : Int) := by omega
              have HJ2 := Lib.hid (show j' = scanDown (fun x => lessLf dk[a]! x) dk i' j from by rw [← HD.out]; exact (scanDown_end (fun x => lessLf dk[a]! x) dk i' j' (.inl hle2)).symm)
              go_wp2_with fail
              go_ret
              have hR : R = (i', dk) := by rw [HE.out]; exact partEq_break lessLf a i j dk HI.out HJ2.out (by omega)
              rw [hR]
              exact ⟨rfl, hK.st⟩
      · have hle' : ¬ (i' : Int) ≤ (j : Int) := by omega
        have hgt : (i' : Int) > (j : Int) := by omega
        have HI := Lib.hid (show i' = scanUp (fun x => !lessLf dk[a]! x) dk j i from by rw [← HU.out]; exact (scanUp_end (fun x => !lessLf dk[a]! x) dk j i' (.inl hle)).symm)
        have HJ2 := Lib.hid (show j = scanDown (fun x => lessLf dk[a]! x) dk i' j from (scanDown_end (fun x => lessLf dk[a]! x) dk i' j (.inl hle)).symm)
        go_wp2_with fail
        refine wp_loop_rounds 1 ?_
        rw [rounds_succ]
        go_wp2_with fail
        go_ret
        have hR : R = (i', dk) := by rw [HE.out]; exact partEq_break lessLf a i j dk HI.out HJ2.out (by omega)
        rw [hR]
        exact ⟨rfl, hK.st⟩

set_option maxRecDepth 100000 in
set_option maxHeartbeats 12000000 in
theorem part_any (H : Hd sf lb sb g n I) (a b pivot : Nat) (d : Array Lf) (w : World) (h : I d w) (hpb : pivot < b) (hab : a + 1 < b) (hb : b ≤ n) (hn : n < 1000000000) :
    Calls Tryz.prog 115 #[lsV sf lb sb, .int .i64 (a : Int), .int .i64 (b : Int), .int .i64 (pivot : Int)] w fun e w' =>
      e = .returned (.tuple #[.int .i64 ((partition lessLf d a b pivot).1 : Int), .bool (partition lessLf d a b pivot).2.1]) ∧ I (partition lessLf d a b pivot).2.2 w' ∧ w.grownBy w' (some g) := by
  have HJ := (H.since w).box w.heap.size
  have h0 := H.boxed h
  have HB := Lib.hid (fun (i2 j2 : Nat) hi2 hj2 h => part_first_break lessLf d a b pivot (i := a + 1) (j := b - 1) (dk := swp d a pivot) (i2 := i2) (j2 := j2) rfl rfl rfl hi2 hj2 h)
  have HG := Lib.hid (fun (i2 j2 : Nat) hi2 hj2 h => part_first_go lessLf d a b pivot (i := a + 1) (j := b - 1) (dk := swp d a pivot) (i2 := i2) (j2 := j2) rfl rfl rfl hi2 hj2 h)
  generalize partition lessLf d a b pivot = R at *
  go_enter Tryz.func115, Tryz.ntmps115
  go_wp2_with fail
  generalize w.alloc _ = w1 at *
  obtain ⟨w2, hs1, hK, -⟩ := HJ.swap a pivot h0 (by omega) (by omega) (by omega)
  rw [hs1, Oper.upon_value]
  clear hs1 h0
  generalize swp d a pivot = dk at *
  go_wp2_with fail
  -- PARTITION
  go_loopw [10] (fun v wr => ∃ i' : Nat, v = .int .i64 i' ∧ (a + 1) ≤ i' ∧ i' ≤ (b - 1) + 1 ∧ Bx sf lb sb g (fun d W => I d W ∧ w.grownBy W (some g)) w.heap.size dk wr ∧
      scanUp (fun x => lessLf x dk[a]!) dk (b - 1) i' = scanUp (fun x => lessLf x dk[a]!) dk (b - 1) (a + 1)) (fun v _ => (b - 1) + 1 - (intOf v).toNat)
  case atStart => exact ⟨(a + 1), by first | rfl | (congr 1; omega), Nat.le_refl _, by omega, hK, rfl⟩
  case round =>
    clear hK
    obtain ⟨i', rfl, hii, hij', hK, hU⟩ := hrel
    have HU := Lib.hid hU
    clear hU
    have c0 := hK.c0
    by_cases hle : i' ≤ (b - 1)
    · have hle' : (i' : Int) ≤ ((b : Int) - 1) := by omega
      have hl := HJ.less i' a hK (by omega) (by omega)
      go_wp2_with fail
      refine hl.mono ?_
      rintro e w3 ⟨rfl, hb3⟩
      have hK3 := HJ.below hK hb3
      cases hL : lessLf dk[i']! dk[a]! with
      | true =>
        go_wp2_with fail
        exact ⟨⟨i' + 1, by go_num, by omega, by omega, hK3, by rw [← HU.out]; exact (scanUp_go (fun x => lessLf x dk[a]!) dk (b - 1) i' hle hL).symm⟩, by simp [intOf]; omega⟩
      | false =>
        have HI := Lib.hid (show i' = scanUp (fun x => lessLf x dk[a]!) dk (b - 1) (a + 1) from by rw [← HU.out]; exact (scanUp_end (fun x => lessLf x dk[a]!) dk (b - 1) i' (.inr hL)).symm)
        clear HU c0 hl
        go_wp2_with fail
        go_loopw [11] (fun v wr => ∃ j' : Nat, v = .int .i64 j' ∧ j' ≤ (b - 1) ∧ i' ≤ j' + 1 ∧ Bx sf lb sb g (fun d W => I d W ∧ w.grownBy W (some g)) w.heap.size dk wr ∧
            scanDown (fun x => !lessLf x dk[a]!) dk i' j' = scanDown (fun x => !lessLf x dk[a]!) dk i' (b - 1)) (fun v _ => (intOf v).toNat)
        case atStart => exact ⟨(b - 1), by first | rfl | (congr 1; omega), Nat.le_refl _, by omega, hK3, rfl⟩
        case round =>
          clear hK hK3
          obtain ⟨j', rfl, hjj, hij2, hK, hD⟩ := hrel
          have HD := Lib.hid hD
          clear hD
          have c0 := hK.c0
          by_cases hle2 : i' ≤ j'
          · have hle2' : (i' : Int) ≤ (j' : Int) := by omega
            have hl := HJ.less j' a hK (by omega) (by omega)
            go_wp2_with fail
            refine hl.mono ?_
            rintro e w4 ⟨rfl, hb4⟩
            have hK4 := HJ.below hK hb4
            cases hL2 : lessLf dk[j']! dk[a]! with
            | false =>
              go_wp2_with fail
              exact ⟨⟨j' - 1, by congr 1; omega, by omega, by omega, hK4, by rw [← HD.out]; exact (scanDown_go (fun x => !lessLf x dk[a]!) dk i' j' hle2 (by omega) (by simp [hL2])).symm⟩, by simp [intOf]; omega⟩
            | true =>
              have HJ2 := Lib.hid (show j' = scanDown (fun x => !lessLf x dk[a]!) dk i' (b - 1) from by rw [← HD.out]; exact (scanDown_end (fun x => !lessLf x dk[a]!) dk i' j' (.inr (by simp [hL2]))).symm)
              have hlt := part_scans_lt lessLf a (a + 1) (b - 1) dk (by omega) HI.out HJ2.out hle2
              have hlt' : ¬ (i' : Int) > (j' : Int) := by omega
              have c1 := hK4.c1
              clear hK hl c0
              go_wp2_with fail
              obtain ⟨w5, hs1, h5, -⟩ := HJ.swap i' j' hK4 (by omega) (by omega) (by omega)
              rw [hs1, Oper.upon_value]
              clear hs1
              go_wp2_with fail
              have HRR := HG.out i' j' HI.out HJ2.out (by omega)
              obtain ⟨P, hP⟩ : ∃ P, P = partLoop lessLf a (i' + 1) (j' - 1) (swp dk i' j') := ⟨_, rfl⟩
              rw [← hP] at HRR
              have HR := Lib.hid HRR
              have HP := Lib.hid hP
              clear HRR hP HB HG hK4
              go_loopw [10, 11] (fun s t wr => ∃ (i j : Nat) (dk : Array Lf), s = .int .i64 i ∧ t = .int .i64 j ∧ a < i ∧ i ≤ j + 1 ∧ j < b ∧ Bx sf lb sb g (fun d W => I d W ∧ w.grownBy W (some g)) w.heap.size dk wr ∧ P = partLoop lessLf a i j dk) (fun s t _ => (intOf t).toNat + 1 - (intOf s).toNat)
              case atStart => exact ⟨i' + 1, j' - 1, _, by go_num, by congr 1; omega, by omega, by omega, by omega, h5, HP.out⟩
              case round =>
                clear HP HI HJ2 h5 HD hL hL2 hlt hlt' hle' hle2'
                obtain ⟨i, j, dk, rfl, rfl, hai, hij, hjb, hK, hE⟩ := hrel
                have HE := Lib.hid hE
                clear hE
                go_wp2_with fail
                go_loopw [10] (fun v wr => ∃ i' : Nat, v = .int .i64 i' ∧ i ≤ i' ∧ i' ≤ j + 1 ∧ Bx sf lb sb g (fun d W => I d W ∧ w.grownBy W (some g)) w.heap.size dk wr ∧
                    scanUp (fun x => lessLf x dk[a]!) dk j i' = scanUp (fun x => lessLf x dk[a]!) dk j i) (fun v _ => j + 1 - (intOf v).toNat)
                case atStart => exact ⟨i, by first | rfl | (congr 1; omega), Nat.le_refl _, by omega, hK, rfl⟩
                case round =>
                  clear hK
                  obtain ⟨i', rfl, hii, hij', hK, hU⟩ := hrel
                  have HU := Lib.hid hU
                  clear hU
                  have c0 := hK.c0
                  by_cases hle : i' ≤ j
                  · have hle' : (i' : Int) ≤ (j : Int) := by omega
                    have hl := HJ.less i' a hK (by omega) (by omega)
                    go_wp2_with fail
                    refine hl.mono ?_
                    rintro e w3 ⟨rfl, hb3⟩
                    have hK3 := HJ.below hK hb3
                    cases hL : lessLf dk[i']! dk[a]! with
                    | true =>
                      go_wp2_with fail
                      exact ⟨⟨i' + 1, by go_num, by omega, by omega, hK3, by rw [← HU.out]; exact (scanUp_go (fun x => lessLf x dk[a]!) dk j i' hle hL).symm⟩, by simp [intOf]; omega⟩
                    | false =>
                      have HI := Lib.hid (show i' = scanUp (fun x => lessLf x dk[a]!) dk j i from by rw [← HU.out]; exact (scanUp_end (fun x => lessLf x dk[a]!) dk j i' (.inr hL)).symm)
                      clear HU c0 hl
                      go_wp2_with fail
                      go_loopw [11] (fun v wr => ∃ j' : Nat, v = .int .i64 j' ∧ j' ≤ j ∧ i' ≤ j' + 1 ∧ Bx sf lb sb g (fun d W => I d W ∧ w.grownBy W (some g)) w.heap.size dk wr ∧
                          scanDown (fun x => !lessLf x dk[a]!) dk i' j' = scanDown (fun x => !lessLf x dk[a]!) dk i' j) (fun v _ => (intOf v).toNat)
                      case atStart => exact ⟨j, by first | rfl | (congr 1; omega), Nat.le_refl _, by omega, hK3, rfl⟩
                      case round =>
                        clear hK hK3
                        obtain ⟨j', rfl, hjj, hij2, hK, hD⟩ := hrel
                        have HD := Lib.hid hD
                        clear hD
                        have c0 := hK.c0
                        by_cases hle2 : i' ≤ j'
                        · have hle2' : (i' : Int) ≤ (j' : Int) := by omega
                          have hl := HJ.less j' a hK (by omega) (by omega)
                          go_wp2_with fail
                          refine hl.mono ?_
                          rintro e w4 ⟨rfl, hb4⟩
                          have hK4 := HJ.below hK hb4
                          cases hL2 : lessLf dk[j']! dk[a]! with
                          | false =>
                            go_wp2_with fail
                            exact ⟨⟨j' - 1, by congr 1; omega, by omega, by omega, hK4, by rw [← HD.out]; exact (scanDown_go (fun x => !lessLf x dk[a]!) dk i' j' hle2 (by omega) (by simp [hL2])).symm⟩, by simp [intOf]; omega⟩
                          | true =>
                            have HJ2 := Lib.hid (show j' = scanDown (fun x => !lessLf x dk[a]!) dk i' j from by rw [← HD.out]; exact (scanDown_end (fun x => !lessLf x dk[a]!) dk i' j' (.inr (by simp [hL2]))).symm)
                            have hlt := part_scans_lt lessLf a i j dk (by omega) HI.out HJ2.out hle2
                            have hlt' : ¬ (i' : Int) > (j' : Int) := by omega
                            have c1 := hK4.c1
                            clear hK hl c0
                            go_wp2_with fail
                            obtain ⟨w5, hs1, h5, -⟩ := HJ.swap i' j' hK4 (by omega) (by omega) (by omega)
                            rw [hs1, Oper.upon_value]
                            clear hs1
                            go_wp2_with fail
                            exact ⟨⟨i' + 1, j' - 1, _, by go_num, by congr 1; omega, by omega, by omega, by omega, h5, by rw [HE.out]; exact part_go lessLf a i j dk HI.out HJ2.out (by omega)⟩, by simp [intOf]; omega⟩
                        · have hle2' : ¬ (i' : Int) ≤ (j' : Int) := by omega
                          have hgt : (i' : Int) > (j' : Int) := by omega
                          have HJ2 := Lib.hid (show j' = scanDown (fun x => !lessLf x dk[a]!) dk i' j from by rw [← HD.out]; exact (scanDown_end (fun x => !lessLf x dk[a]!) dk i' j' (.inl hle2)).symm)
                          have c1 := hK.c1
                          go_wp2_with fail
                          obtain ⟨w6, hs1, h6, -⟩ := HJ.swap j' a hK (by omega) (by omega) (by omega)
                          rw [hs1, Oper.upon_value]
                          clear hs1
                          go_wp2_with fail
                          go_ret2
                          have hP : P = (j', dk) := by rw [HE.out]; exact part_break lessLf a i j dk HI.out HJ2.out (by omega)
                          rw [HR.out, hP]
                          exact ⟨rfl, h6.st⟩
                  · have hle' : ¬ (i' : Int) ≤ (j : Int) := by omega
                    have hgt : (i' : Int) > (j : Int) := by omega
                    have HI := Lib.hid (show i' = scanUp (fun x => lessLf x dk[a]!) dk j i from by rw [← HU.out]; exact (scanUp_end (fun x => lessLf x dk[a]!) dk j i' (.inl hle)).symm)
                    have HJ2 := Lib.hid (show j = scanDown (fun x => !lessLf x dk[a]!) dk i' j from (scanDown_end (fun x => !lessLf x dk[a]!) dk i' j (.inl hle)).symm)
                    have c1 := hK.c1
                    go_wp2_with fail
                    refine wp_loop_rounds 1 ?_
                    rw [rounds_succ]
                    go_wp2_with fail
                    obtain ⟨w6, hs1, h6, -⟩ := HJ.swap j a hK (by omega) (by omega) (by omega)
                    rw [hs1, Oper.upon_value]
                    clear hs1
                    go_wp2_with fail
                    go_ret2
                    have hP : P = (j, dk) := by rw [HE.out]; exact part_break lessLf a i j dk HI.out HJ2.out (by omega)
                    rw [HR.out, hP]
                    exact ⟨rfl, h6.st⟩
          · have hle2' : ¬ (i' : Int) ≤ (j' : Int) := by omega
            have hgt : (i' : Int) > (j' : Int) := by omega
            have HJ2 := Lib.hid (show j' = scanDown (fun x => !lessLf x dk[a]!) dk i' (b - 1) from by rw [← HD.out]; exact (scanDown_end (fun x => !lessLf x dk[a]!) dk i' j' (.inl hle2)).symm)
            have c1 := hK.c1
            go_wp2_with fail
            obtain ⟨w5, hs1, h5, -⟩ := HJ.swap j' a hK (by omega) (by omega) (by omega)
            rw [hs1, Oper.upon_value]
            clear hs1
            go_wp2_with fail
            go_ret2
            have hR := HB.out i' j' HI.out HJ2.out (by omega)
            rw [hR]
            refine ⟨?_, h5.st⟩
            show _ = Ending.returned (.tuple #[.int .i64 ((j' : Nat) : Int), .bool true])
            rfl
    · have hle' : ¬ (i' : Int) ≤ ((b : Int) - 1) := by omega
      have hgt : (i' : Int) > ((b : Int) - 1) := by omega
      have HI := Lib.hid (show i' = scanUp (fun x => lessLf x dk[a]!) dk (b - 1) (a + 1) from by rw [← HU.out]; exact (scanUp_end (fun x => lessLf x dk[a]!) dk (b - 1) i' (.inl hle)).symm)
      have HJ2 := Lib.hid (show (b - 1) = scanDown (fun x => !lessLf x dk[a]!) dk i' (b - 1) from (scanDown_end (fun x => !lessLf x dk[a]!) dk i' (b - 1) (.inl hle)).symm)
      have c1 := hK.c1
      go_wp2_with fail
      refine wp_loop_rounds 1 ?_
      rw [rounds_succ]
      go_wp2_with fail
      obtain ⟨w5, hs1, h5, -⟩ := HJ.swap (b - 1) a hK (by omega) (by omega) (by omega)
      rw [show (((b - 1) : Nat) : Int) = ((b : Int) - 1) by omega] at hs1
      rw [hs1, Oper.upon_value]
      clear hs1
      go_wp2_with fail
      go_ret2
      have hR := HB.out i' _ HI.out HJ2.out (by omega)
      rw [hR]
      refine ⟨?_, h5.st⟩
      show _ = Ending.returned (.tuple #[.int .i64 (((b - 1) : Nat) : Int), .bool true])
      rw [show (((b - 1) : Nat) : Int) = ((b : Int) - 1) by omega]
      rfl
end
end
/-! partialInsertionSort_func (written by gen05U.py). -/
section
open Go.RowKit Go.Sort
section
variable {sf : Nat} {lb sb : Array Value} {g n : Nat} {I : Array Lf → World → Prop}
set_option maxRecDepth 100000 in
set_option maxHeartbeats 12000000 in
theorem pins_any (H : Hd sf lb sb g n I) (a b : Nat) (d : Array Lf) (w : World) (h : I d w) (hab : a < b) (hb : b ≤ n) (hn : n < 1000000000) :
    Calls Tryz.prog 113 #[lsV sf lb sb, .int .i64 (a : Int), .int .i64 (b : Int)] w fun e w' =>
      e = .returned (.bool (partialInsertionSort lessLf d a b).2) ∧ I (partialInsertionSort lessLf d a b).1 w' ∧ w.grownBy w' (some g) := by
  have HJ := (H.since w).box w.heap.size
  have h0 := H.boxed h
  have HR := Lib.hid (show partialInsertionSort lessLf d a b = partialIns lessLf a b 5 (a + 1) d from rfl)
  generalize partialInsertionSort lessLf d a b = R at *
  go_enter Tryz.func113, Tryz.ntmps113
  go_wp2_with fail
  generalize w.alloc _ = w1 at *
  go_loopw [7, 8] (fun s7 s8 wr => ∃ (s i : Nat) (dk : Array Lf), s7 = .int .i64 i ∧ s8 = .int .i64 s ∧ s ≤ 5 ∧ a < i ∧ i ≤ b ∧ Bx sf lb sb g (fun d W => I d W ∧ w.grownBy W (some g)) w.heap.size dk wr ∧ R = partialIns lessLf a b (5 - s) i dk) (fun _ s8 _ => 5 - (intOf s8).toNat)
  case atStart => exact ⟨0, a + 1, d, by go_num, rfl, by omega, by omega, by omega, h0, HR.out⟩
  case round =>
    obtain ⟨s, i, dk, rfl, rfl, hs5, hai, hib, hK, hE⟩ := hrel
    have HE := Lib.hid hE
    clear hE h0 HR
    by_cases hs : s < 5
    · have hs' : (s : Int) < 5 := by omega
      go_wp2_with fail
      go_loopw [7] (fun v wr => ∃ i' : Nat, v = .int .i64 i' ∧ i ≤ i' ∧ i' ≤ b ∧ Bx sf lb sb g (fun d W => I d W ∧ w.grownBy W (some g)) w.heap.size dk wr ∧ scanSorted lessLf dk b i' = scanSorted lessLf dk b i) (fun v _ => b - (intOf v).toNat)
      case atStart => exact ⟨i, rfl, Nat.le_refl _, hib, hK, rfl⟩
      case round =>
        clear hK
        obtain ⟨i', rfl, hii, hib', hK, hU⟩ := hrel
        have HU := Lib.hid hU
        clear hU
        have c0 := hK.c0
        by_cases hlt : i' < b
        · have hlt' : (i' : Int) < (b : Int) := by omega
          have hl := HJ.less i' (i' - 1) hK (by omega) (by omega)
          rw [show ((i' - 1 : Nat) : Int) = (i' : Int) - 1 by omega] at hl
          go_wp2_with fail
          refine hl.mono ?_
          rintro e w3 ⟨rfl, hb3⟩
          have hK3 := HJ.below hK hb3
          cases hL : lessLf dk[i']! dk[i' - 1]! with
          | false =>
            go_wp2_with fail
            exact ⟨⟨i' + 1, by go_num, by omega, by omega, hK3, by rw [← HU.out]; exact (scanSorted_go lessLf dk b i' hlt hL).symm⟩, by simp [intOf]; omega⟩
          | true =>
            have HI := Lib.hid (show scanSorted lessLf dk b i = i' from by rw [← HU.out]; exact scanSorted_stop lessLf dk b i' (.inr hL))
            have hne : ¬ (i' : Int) = (b : Int) := by omega
            have hne' : ((i' : Int) == (b : Int)) = false := by simpa using hne
            by_cases h50 : b - a < 50
            · have h50' : (b : Int) - (a : Int) < 50 := by omega
              go_wp2_with fail
              go_ret
              have hR : R = (dk, false) := by rw [HE.out]; exact pi_short lessLf a b s i dk hs (by rw [HI.out]; omega) h50
              rw [hR]
              exact ⟨rfl, hK3.st⟩
            · have h50' : ¬ (b : Int) - (a : Int) < 50 := by omega
              have HG := Lib.hid (show R = partialIns lessLf a b (5 - (s + 1)) i' (fixUp lessLf b i' (fixDown lessLf a i' (swp dk i' (i' - 1)))) from by rw [HE.out]; exact pi_go lessLf a b s i i' dk hs HI.out (by omega) h50)
              have c1 := hK3.c1
              clear HU HE HI c0 hl hK
              go_wp2_with fail
              obtain ⟨w5, hs1, h5, -⟩ := HJ.swap i' (i' - 1) hK3 (by omega) (by omega) (by omega)
              rw [show ((i' - 1 : Nat) : Int) = (i' : Int) - 1 by omega] at hs1
              rw [hs1, Oper.upon_value]
              clear hs1
              by_cases hka : i' - a ≥ 2
              · have hka' : (i' : Int) - (a : Int) ≥ 2 := by omega
                go_wp2_with fail
                go_loopw [9] (fun v wr => ∃ (j : Nat) (dj : Array Lf), v = .int .i64 j ∧ j < i' ∧ Bx sf lb sb g (fun d W => I d W ∧ w.grownBy W (some g)) w.heap.size dj wr ∧ shiftDown lessLf j dj = shiftDown lessLf (i' - 1) (swp dk i' (i' - 1))) (fun v _ => (intOf v).toNat)
                case atStart => exact ⟨i' - 1, _, by congr 1; omega, by omega, h5, rfl⟩
                case round =>
                  obtain ⟨j, dj, rfl, hji, hKj, hE1⟩ := hrel
                  have HE1 := Lib.hid hE1
                  clear hE1 h5
                  have d0 := hKj.c0
                  by_cases hj1 : 1 ≤ j
                  · have hj1' : (1 : Int) ≤ (j : Int) := by omega
                    have hl := HJ.less j (j - 1) hKj (by omega) (by omega)
                    rw [show ((j - 1 : Nat) : Int) = (j : Int) - 1 by omega] at hl
                    go_wp2_with fail
                    refine hl.mono ?_
                    rintro e w6 ⟨rfl, hb6⟩
                    have hK6 := HJ.below hKj hb6
                    have d1 := hK6.c1
                    cases hL2 : lessLf dj[j]! dj[j - 1]! with
                    | true =>
                      go_wp2_with fail
                      obtain ⟨w7, hs1, h7, -⟩ := HJ.swap j (j - 1) hK6 (by omega) (by omega) (by omega)
                      rw [show ((j - 1 : Nat) : Int) = (j : Int) - 1 by omega] at hs1
                      rw [hs1, Oper.upon_value]
                      clear hs1
                      go_wp2_with fail
                      exact ⟨⟨j - 1, _, by congr 1; omega, by omega, h7, by rw [← HE1.out]; exact (shiftDown_go lessLf j dj hj1 hL2).symm⟩, by simp [intOf]; omega⟩
                    | false =>
                      have HD := Lib.hid (show fixDown lessLf a i' (swp dk i' (i' - 1)) = dj from by unfold fixDown; rw [if_pos hka, ← HE1.out]; exact shiftDown_stop lessLf j dj (.inr hL2))
                      clear HE1 hl d0 hKj
                      by_cases hkb : b - i' ≥ 2
                      · have hkb' : (b : Int) - (i' : Int) ≥ 2 := by omega
                        go_wp2_with fail
                        go_loopw [10] (fun v wr => ∃ (j2 : Nat) (de : Array Lf), v = .int .i64 j2 ∧ i' + 1 ≤ j2 ∧ j2 ≤ b ∧ Bx sf lb sb g (fun d W => I d W ∧ w.grownBy W (some g)) w.heap.size de wr ∧ shiftUp lessLf b j2 de = shiftUp lessLf b (i' + 1) dj) (fun v _ => b - (intOf v).toNat)
                        case atStart => exact ⟨i' + 1, dj, by go_num, Nat.le_refl _, by omega, hK6, rfl⟩
                        case round =>
                          obtain ⟨j2, de, rfl, hj1, hj2, hKe, hE2⟩ := hrel
                          have HE2 := Lib.hid hE2
                          clear hE2
                          have e0 := hKe.c0
                          by_cases hjb : j2 < b
                          · have hjb' : (j2 : Int) < (b : Int) := by omega
                            have hl := HJ.less j2 (j2 - 1) hKe (by omega) (by omega)
                            rw [show ((j2 - 1 : Nat) : Int) = (j2 : Int) - 1 by omega] at hl
                            go_wp2_with fail
                            refine hl.mono ?_
                            rintro e w8 ⟨rfl, hb8⟩
                            have hK8 := HJ.below hKe hb8
                            have e1 := hK8.c1
                            cases hL3 : lessLf de[j2]! de[j2 - 1]! with
                            | true =>
                              go_wp2_with fail
                              obtain ⟨w9, hs1, h9, -⟩ := HJ.swap j2 (j2 - 1) hK8 (by omega) (by omega) (by omega)
                              rw [show ((j2 - 1 : Nat) : Int) = (j2 : Int) - 1 by omega] at hs1
                              rw [hs1, Oper.upon_value]
                              clear hs1
                              go_wp2_with fail
                              exact ⟨⟨j2 + 1, _, by go_num, by omega, by omega, h9, by rw [← HE2.out]; exact (shiftUp_go lessLf b j2 de hjb hL3).symm⟩, by simp [intOf]; omega⟩
                            | false =>
                              go_wp2_with fail
                              have HF := Lib.hid (show fixUp lessLf b i' dj = de from by unfold fixUp; rw [if_pos hkb, ← HE2.out]; exact shiftUp_stop lessLf b j2 de (.inr hL3))
                              exact ⟨⟨s + 1, i', de, rfl, by go_num, by omega, by omega, by omega, hK8, by rw [HG.out, HD.out, HF.out]⟩, by simp [intOf]; omega⟩
                          · have hjb' : ¬ (j2 : Int) < (b : Int) := by omega
                            go_wp2_with fail
                            have HF := Lib.hid (show fixUp lessLf b i' dj = de from by unfold fixUp; rw [if_pos hkb, ← HE2.out]; exact shiftUp_stop lessLf b j2 de (.inl hjb))
                            exact ⟨⟨s + 1, i', de, rfl, by go_num, by omega, by omega, by omega, hKe, by rw [HG.out, HD.out, HF.out]⟩, by simp [intOf]; omega⟩
                      · have hkb' : ¬ (b : Int) - (i' : Int) ≥ 2 := by omega
                        go_wp2_with fail
                        have HF := Lib.hid (show fixUp lessLf b i' dj = dj from by unfold fixUp; rw [if_neg hkb])
                        exact ⟨⟨s + 1, i', dj, rfl, by go_num, by omega, by omega, by omega, hK6, by rw [HG.out, HD.out, HF.out]⟩, by simp [intOf]; omega⟩
                  · have hj1' : ¬ (1 : Int) ≤ (j : Int) := by omega
                    have HD := Lib.hid (show fixDown lessLf a i' (swp dk i' (i' - 1)) = dj from by unfold fixDown; rw [if_pos hka, ← HE1.out]; exact shiftDown_stop lessLf j dj (.inl (by omega)))
                    clear HE1
                    by_cases hkb : b - i' ≥ 2
                    · have hkb' : (b : Int) - (i' : Int) ≥ 2 := by omega
                      go_wp2_with fail
                      go_loopw [10] (fun v wr => ∃ (j2 : Nat) (de : Array Lf), v = .int .i64 j2 ∧ i' + 1 ≤ j2 ∧ j2 ≤ b ∧ Bx sf lb sb g (fun d W => I d W ∧ w.grownBy W (some g)) w.heap.size de wr ∧ shiftUp lessLf b j2 de = shiftUp lessLf b (i' + 1) dj) (fun v _ => b - (intOf v).toNat)
                      case atStart => exact ⟨i' + 1, dj, by go_num, Nat.le_refl _, by omega, hKj, rfl⟩
                      case round =>
                        obtain ⟨j2, de, rfl, hj1, hj2, hKe, hE2⟩ := hrel
                        have HE2 := Lib.hid hE2
                        clear hE2
                        have e0 := hKe.c0
                        by_cases hjb : j2 < b
                        · have hjb' : (j2 : Int) < (b : Int) := by omega
                          have hl := HJ.less j2 (j2 - 1) hKe (by omega) (by omega)
                          rw [show ((j2 - 1 : Nat) : Int) = (j2 : Int) - 1 by omega] at hl
                          go_wp2_with fail
                          refine hl.mono ?_
                          rintro e w8 ⟨rfl, hb8⟩
                          have hK8 := HJ.below hKe hb8
                          have e1 := hK8.c1
                          cases hL3 : lessLf de[j2]! de[j2 - 1]! with
                          | true =>
                            go_wp2_with fail
                            obtain ⟨w9, hs1, h9, -⟩ := HJ.swap j2 (j2 - 1) hK8 (by omega) (by omega) (by omega)
                            rw [show ((j2 - 1 : Nat) : Int) = (j2 : Int) - 1 by omega] at hs1
                            rw [hs1, Oper.upon_value]
                            clear hs1
                            go_wp2_with fail
                            exact ⟨⟨j2 + 1, _, by go_num, by omega, by omega, h9, by rw [← HE2.out]; exact (shiftUp_go lessLf b j2 de hjb hL3).symm⟩, by simp [intOf]; omega⟩
                          | false =>
                            go_wp2_with fail
                            have HF := Lib.hid (show fixUp lessLf b i' dj = de from by unfold fixUp; rw [if_pos hkb, ← HE2.out]; exact shiftUp_stop lessLf b j2 de (.inr hL3))
                            exact ⟨⟨s + 1, i', de, rfl, by go_num, by omega, by omega, by omega, hK8, by rw [HG.out, HD.out, HF.out]⟩, by simp [intOf]; omega⟩
                        · have hjb' : ¬ (j2 : Int) < (b : Int) := by omega
                          go_wp2_with fail
                          have HF := Lib.hid (show fixUp lessLf b i' dj = de from by unfold fixUp; rw [if_pos hkb, ← HE2.out]; exact shiftUp_stop lessLf b j2 de (.inl hjb))
                          exact ⟨⟨s + 1, i', de, rfl, by go_num, by omega, by omega, by omega, hKe, by rw [HG.out, HD.out, HF.out]⟩, by simp [intOf]; omega⟩
                    · have hkb' : ¬ (b : Int) - (i' : Int) ≥ 2 := by omega
                      go_wp2_with fail
                      have HF := Lib.hid (show fixUp lessLf b i' dj = dj from by unfold fixUp; rw [if_neg hkb])
                      exact ⟨⟨s + 1, i', dj, rfl, by go_num, by omega, by omega, by omega, hKj, by rw [HG.out, HD.out, HF.out]⟩, by simp [intOf]; omega⟩
              · have hka' : ¬ (i' : Int) - (a : Int) ≥ 2 := by omega
                have HD := Lib.hid (show fixDown lessLf a i' (swp dk i' (i' - 1)) = swp dk i' (i' - 1) from by unfold fixDown; rw [if_neg hka])
                by_cases hkb : b - i' ≥ 2
                · have hkb' : (b : Int) - (i' : Int) ≥ 2 := by omega
                  go_wp2_with fail
                  go_loopw [10] (fun v wr => ∃ (j2 : Nat) (de : Array Lf), v = .int .i64 j2 ∧ i' + 1 ≤ j2 ∧ j2 ≤ b ∧ Bx sf lb sb g (fun d W => I d W ∧ w.grownBy W (some g)) w.heap.size de wr ∧ shiftUp lessLf b j2 de = shiftUp lessLf b (i' + 1) (swp dk i' (i' - 1))) (fun v _ => b - (intOf v).toNat)
                  case atStart => exact ⟨i' + 1, (swp dk i' (i' - 1)), by go_num, Nat.le_refl _, by omega, h5, rfl⟩
                  case round =>
                    obtain ⟨j2, de, rfl, hj1, hj2, hKe, hE2⟩ := hrel
                    have HE2 := Lib.hid hE2
                    clear hE2
                    have e0 := hKe.c0
                    by_cases hjb : j2 < b
                    · have hjb' : (j2 : Int) < (b : Int) := by omega
                      have hl := HJ.less j2 (j2 - 1) hKe (by omega) (by omega)
                      rw [show ((j2 - 1 : Nat) : Int) = (j2 : Int) - 1 by omega] at hl
                      go_wp2_with fail
                      refine hl.mono ?_
                      rintro e w8 ⟨rfl, hb8⟩
                      have hK8 := HJ.below hKe hb8
                      have e1 := hK8.c1
                      cases hL3 : lessLf de[j2]! de[j2 - 1]! with
                      | true =>
                        go_wp2_with fail
                        obtain ⟨w9, hs1, h9, -⟩ := HJ.swap j2 (j2 - 1) hK8 (by omega) (by omega) (by omega)
                        rw [show ((j2 - 1 : Nat) : Int) = (j2 : Int) - 1 by omega] at hs1
                        rw [hs1, Oper.upon_value]
                        clear hs1
                        go_wp2_with fail
                        exact ⟨⟨j2 + 1, _, by go_num, by omega, by omega, h9, by rw [← HE2.out]; exact (shiftUp_go lessLf b j2 de hjb hL3).symm⟩, by simp [intOf]; omega⟩
                      | false =>
                        go_wp2_with fail
                        have HF := Lib.hid (show fixUp lessLf b i' (swp dk i' (i' - 1)) = de from by unfold fixUp; rw [if_pos hkb, ← HE2.out]; exact shiftUp_stop lessLf b j2 de (.inr hL3))
                        exact ⟨⟨s + 1, i', de, rfl, by go_num, by omega, by omega, by omega, hK8, by rw [HG.out, HD.out, HF.out]⟩, by simp [intOf]; omega⟩
                    · have hjb' : ¬ (j2 : Int) < (b : Int) := by omega
                      go_wp2_with fail
                      have HF := Lib.hid (show fixUp lessLf b i' (swp dk i' (i' - 1)) = de from by unfold fixUp; rw [if_pos hkb, ← HE2.out]; exact shiftUp_stop lessLf b j2 de (.inl hjb))
                      exact ⟨⟨s + 1, i', de, rfl, by go_num, by omega, by omega, by omega, hKe, by rw [HG.out, HD.out, HF.out]⟩, by simp [intOf]; omega⟩
                · have hkb' : ¬ (b : Int) - (i' : Int) ≥ 2 := by omega
                  go_wp2_with fail
                  have HF := Lib.hid (show fixUp lessLf b i' (swp dk i' (i' - 1)) = (swp dk i' (i' - 1)) from by unfold fixUp; rw [if_neg hkb])
                  exact ⟨⟨s + 1, i', (swp dk i' (i' - 1)), rfl, by go_num, by omega, by omega, by omega, h5, by rw [HG.out, HD.out, HF.out]⟩, by simp [intOf]; omega⟩
        · have hlt' : ¬ (i' : Int) < (b : Int) := by omega
          obtain rfl : i' = b := by omega
          have HI := Lib.hid (show scanSorted lessLf dk i' i = i' from by rw [← HU.out]; exact scanSorted_stop lessLf dk i' i' (.inl hlt))
          go_wp2_with fail
          go_ret
          have hR : R = (dk, true) := by rw [HE.out]; exact pi_true lessLf a i' s i dk hs HI.out
          rw [hR]
          exact ⟨rfl, hK.st⟩
    · have hs' : ¬ (s : Int) < 5 := by omega
      obtain rfl : s = 5 := by omega
      go_wp2_with fail
      go_ret
      have hR : R = (dk, false) := by rw [HE.out]; exact pi_end lessLf a b i dk
      rw [hR]
      exact ⟨rfl, hK.st⟩
end
end
end Go.Proofs.YtielmijahccgkaaGreatDoor
