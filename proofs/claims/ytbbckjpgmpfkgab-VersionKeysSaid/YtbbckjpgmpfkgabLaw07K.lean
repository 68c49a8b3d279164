/-
  The statement VersionKeys of layer 7.
-/
import Derived.Test.YtbbckjpgmpfkgabLaw07C
import Derived.Test.YtbbckjpgmpfkgabPure07
namespace Go.Proofs.Ytbbckjpgmpfkgab
open Go.RowKit

set_option maxRecDepth 100000 in
set_option maxHeartbeats 2000000 in
theorem walkVersionKeys (w : World) (a : Option Addr) (n c : Nat) (l : List Vn) (hr : RdV w a n c l) (a1 : Option Addr) (n1 c1 : Nat) (more : List Vn) (hm : RdV w a1 n1 c1 more) :
    Calls Try.prog 3 #[.slice a n c, .slice a1 n1 c1] w (Yes7 w) := by
  have hB0 := Below.refl w.heap.size w
  by_cases hn : n ≤ 1000
  · have hn' : ¬ (1000 : Int) < (n : Int) := by omega
    by_cases hn1 : n1 ≤ 40
    · have hn1' : ¬ (40 : Int) < (n1 : Int) := by omega
      have HI := Lib.hid (fun W : World => histories_any W)
      have NS := Lib.hid (fun W : World => nexts_any W)
      have HEL : Hid (∀ i : Nat, i < n1 → ∃ b off, a1 = some ⟨b, off, none⟩ ∧ w.rangeAt b (off + i * 3) (vc (more.getD i vn0))) := Lib.hid (fun i h => by
        obtain ⟨b, off, h1, h2, h3⟩ := RdV.elems hm (by omega)
        exact ⟨b, off, h1, h3 i h⟩)
      clear hm
      go_enter Try.func3, Try.ntmps3
      go_wp2_with fail
      go_loopw [0, 5] (fun v i wr => ∃ (k : Nat) (a' : Option Addr) (m' c' : Nat) (q : List Vn), k ≤ n1 ∧ i = .int .i64 (k : Int) ∧ v = .slice a' m' c' ∧ RdV wr a' m' c' q ∧ Below w.heap.size w wr) (fun _ i _ => n1 - (intOf i).toNat)
      case atStart => exact ⟨0, a, n, c, l, by omega, rfl, rfl, hr, hB0⟩
      case round =>
        obtain ⟨k, a', m', c', q, hk, rfl, rfl, hq, hB⟩ := hrel
        by_cases hlt : k < n1
        · obtain ⟨b, off, rfl, hx0⟩ := HEL.out k hlt
          have hkl : (k : Int) < (n1 : Int) := by omega
          have AC := Lib.hid (fun (W : World) (h : RdV W a' m' c' q) => active_any W a' m' c' q h)
          clear HEL
          generalize more.getD k vn0 = x at *
          have hx := range_below hB hx0
          have HX := Lib.hid hx0
          clear hx0
          by_cases hi : nextI q x = 0
          · obtain ⟨h1, h2⟩ := act_next hi
            have NY := Lib.hid (fun (W : World) (h : RdV W a' m' c' q) => next_yes h hi)
            have A2 := Lib.hid (fun (W : World) (a2 : Option Addr) (c2 : Nat) (h : RdV W a2 (m' + 1) c2 (q ++ [x])) => active_any W a2 (m' + 1) c2 (q ++ [x]) h)
            rw [h1] at A2
            rw [h2] at AC
            have e1 : (!decide (x.kd = 1)) = (x.kd != 1) := by by_cases h : x.kd = 1 <;> simp [h]
            have e3 : (!decide (x.kd = 3)) = (x.kd != 3) := by by_cases h : x.kd = 3 <;> simp [h]
            simp only [e1, e3] at AC A2
            generalize (actK q).1 = key at *
            clear hi h1 h2 e1 e3
            go_wp2_with fail
            refine (AC.out _ hq).mono ?_
            rintro e w1 ⟨rfl, hB1⟩
            have hB01 := Bt hB hB1
            have hq1 := hq.below hB1
            have hx1 := range_below hB1 hx
            clear AC
            go_wp2_with ((with_reducible refine wpList_loadV (o := ⟨some 38, _, _, _, _, _⟩) ?_ b (off + k * 3) (.tmp 37) ?_ ?_ hx1 ?_); rfl; rfl; rfl)
            refine (NY.out _ hq1).mono ?_
            rintro e w2 ⟨a2, c2, rfl, hO2, hB2⟩
            have hB02 := Bt hB01 hB2
            have hq2 := hO2.rd
            have hx2 := range_below hB2 hx1
            clear hO2 NY hx hx1
            go_wp2_with fail
            refine (A2.out _ _ _ hq2).mono ?_
            rintro e w3 ⟨rfl, hB3⟩
            have hB03 := Bt hB02 hB3
            have hq3 := hq2.below hB3
            have hx3 := range_below hB3 hx2
            have k1 := vr_kd hx3
            have k2 := vr_key hx3
            clear A2 hx2 hx3
            go_wp2_with fail
            go_roundw
            case rel => exact ⟨k + 1, a2, m' + 1, c2, q ++ [x], by omega, by go_num, rfl, hq3, hB03⟩
            case measure => simp [intOf]; omega
          · obtain ⟨i, hii⟩ : ∃ i, nextI q x = i := ⟨_, rfl⟩
            have hi0 : i ≠ 0 := by rw [← hii]; exact hi
            have hi1 : (i != 0) = true := by simpa using hi0
            have NY := Lib.hid (fun (W : World) (h : RdV W a' m' c' q) => next_no h hii hi0)
            generalize (actK q).1 = key at *
            generalize (actK q).2 = had at *
            clear hi hii
            go_wp2_with fail
            refine (AC.out _ hq).mono ?_
            rintro e w1 ⟨rfl, hB1⟩
            have hB01 := Bt hB hB1
            have hq1 := hq.below hB1
            have hx1 := range_below hB1 hx
            go_wp2_with ((with_reducible refine wpList_loadV (o := ⟨some 38, _, _, _, _, _⟩) ?_ b (off + k * 3) (.tmp 37) ?_ ?_ hx1 ?_); rfl; rfl; rfl)
            refine (NY.out _ hq1).mono ?_
            rintro e w2 ⟨rfl, hB2⟩
            have hB02 := Bt hB01 hB2
            have hq2 := hq1.below hB2
            clear NY hx hx1
            go_wp2_with fail
            refine (AC.out _ hq2).mono ?_
            rintro e w3 ⟨rfl, hB3⟩
            have hB03 := Bt hB02 hB3
            have hq3 := hq2.below hB3
            clear AC
            go_wp2_with fail
            go_roundw
            case rel => exact ⟨k + 1, a', m', c', q, by omega, by go_num, rfl, hq3, hB03⟩
            case measure => simp [intOf]; omega
        · obtain rfl : k = n1 := by omega
          have hkl : ¬ (k : Int) < (k : Int) := by omega
          go_wp2_with fail
          refine (HI.out _).mono ?_
          rintro e w7 ⟨rfl, hB7⟩
          go_wp2_with fail
          refine (NS.out _).mono ?_
          rintro e w8 ⟨rfl, hB8⟩
          go_wp2_with fail
          go_ret
          exact Yes7.mk (Bt (Bt hB hB7) hB8)
    · have hn1' : (40 : Int) < (n1 : Int) := by omega
      go_enter Try.func3, Try.ntmps3
      go_wp2_with fail
      go_ret
      exact Yes7.mk hB0
  · have hn' : (1000 : Int) < (n : Int) := by omega
    go_enter Try.func3, Try.ntmps3
    go_wp2_with fail
    go_ret
    exact Yes7.mk hB0
end Go.Proofs.Ytbbckjpgmpfkgab
