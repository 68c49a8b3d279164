/-
  The walks of the document's answers for package version: At.
-/
import Derived.Test.YtbbckjpgmpfkgaaVrf2
namespace Go.Proofs.Ytbbckjpgmpfkgaa
open Go.RowKit

set_option maxRecDepth 100000 in
set_option maxHeartbeats 1000000 in
theorem atR_any (w : World) (a : Option Addr) (n c : Nat) (l : List Vn) (hr : RdV w a n c l) (hn : n ≤ 1000) (ep : Int) : Calls Try.prog 19 #[.slice a n c, .int .i64 ep] w (VsPost w (atL l ep)) := by
  have IS := Lib.hid (fun W : World => fun h => isR_any W a n c l h hn)
  have hlen := Lib.hid hr.len
  cases hi : isB l with
  | false =>
    rw [hi] at IS
    have HN : Hid (atL l ep = []) := Lib.hid (by rw [atL, hi]; rfl)
    go_enter Try.func19, Try.ntmps19
    go_wp2_with fail
    refine (IS.out _ hr).mono ?_
    rintro e w1 ⟨rfl, hB1⟩
    go_wp2_with fail
    go_ret
    exact ⟨none, 0, 0, Lib.hid (by rw [HN.out]; rfl), rfl, by rw [HN.out]; exact OwnG.nil0 _ _, hB1⟩
  | true =>
    rw [hi] at IS
    have HN : Hid (atL l ep = upto l ep) := Lib.hid (by rw [atL, hi]; rfl)
    have HS : Hid (∀ i : Nat, i < n → ∃ b off, a = some ⟨b, off, none⟩ ∧ ∀ W, Below w.heap.size w W → W.rangeAt b (off + i * 3) (vc (l.getD i vn0))) := Lib.hid (fun i h => by
      obtain ⟨b, off, h1, h2, h3⟩ := RdV.elems hr (by omega)
      exact ⟨b, off, h1, fun W hB => range_below hB (h3 i h)⟩)
    have hcap := hr.cap
    go_enter Try.func19, Try.ntmps19
    go_wp2_with fail
    refine (IS.out _ hr).mono ?_
    rintro e w1 ⟨rfl, hB1⟩
    clear IS hr
    go_wp2_with fail
    go_loopw [5, 6] (fun v i wr => ∃ (k m' : Nat) (a' : Option Addr) (c' : Nat) (q : List Vn), k ≤ n ∧ i = .int .i64 (k : Int) ∧ v = .slice a' m' c' ∧ Hid (q = l.take k ∧ q.length = k ∧ m' = k ∧ early l ep k) ∧ OwnV wr w.heap.size (.slice a' m' c') q ∧ Below w.heap.size w wr) (fun _ i _ => n - (intOf i).toNat)
    case atStart => exact ⟨0, 0, none, 0, [], by omega, rfl, rfl, Lib.hid ⟨rfl, rfl, rfl, fun x hx => by simp at hx⟩, OwnG.nil0 _ _, hB1⟩
    case round =>
      obtain ⟨k, m', a', c', q, hk, rfl, rfl, HM, hO, hB⟩ := hrel
      by_cases hlt : k < n
      · obtain ⟨b, off, rfl, h3⟩ := HS.out k hlt
        have hx := h3 _ hB
        have hc := vr_ep hx
        have hkl : (k : Int) < (n : Int) := by omega
        have HTK : Hid (l.take (k + 1) = l.take k ++ [l.getD k vn0]) := Lib.hid (by
          have hl : k < l.length := by rw [hlen.out]; exact hlt
          have e : l.getD k vn0 = l[k] := by simp [List.getD, hl]
          rw [e, List.take_succ_eq_append_getElem hl])
        by_cases he : (l.getD k vn0).ep ≤ ep
        · have HX := Lib.hid (early_step (by rw [hlen.out]; exact hlt) HM.out.2.2.2 he)
          have hq1 : q.length + 1 ≤ 1000000 := by have := HM.out.2.1; omega
          have hs := hB.size
          clear h3
          generalize l.getD k vn0 = x at *
          go_wp2_with (first | ((with_reducible refine wpList_loadV (o := ⟨some 30, _, _, _, _, _⟩) ?_ b (off + k * 3) (.tmp 29) ?_ ?_ hx ?_); rfl; rfl; rfl) | ((with_reducible refine wpList_oneV (o := ⟨some 31, _, _, _, _, _⟩) ?_ (.tmp 30) ?_ x ?_ ?_); rfl; rfl; rfl; intro w8 hR8 hB8 hz8; have hO8 := hO.below hB8; have hb8 : w.heap.size ≤ w8.heap.size := Nat.le_trans hs hB8.size) | ((with_reducible refine wpList_appV (o := ⟨some 32, _, _, _, _, _⟩) ?_ (.tmp 26) (.tmp 31) ?_ ?_ hO8 ?_ hR8 hq1 hb8 ?_); rfl; rfl; rfl; rfl; intro a9 c9 w9 hO9 hg9 hx9))
          go_roundw
          case rel => exact ⟨k + 1, q.length + 1, a9, c9, q ++ [x], by omega, by go_num, rfl, Lib.hid ⟨by rw [HTK.out, HM.out.1], by rw [List.length_append, HM.out.2.1]; rfl, by rw [HM.out.2.1], HX⟩, hO9, (Bt hB hB8).grown hg9 hb8 (fun y e => (hO8.lt e).1)⟩
          case measure => simp [intOf]; omega
        · have HX := Lib.hid (upto_stop (by rw [hlen.out]; exact hlt) HM.out.2.2.2 he)
          clear h3 hx
          generalize (l.getD k vn0).ep = y at *
          go_wp2_with fail
          go_ret
          obtain ⟨h1, h2, h4, h5⟩ := HM.out
          exact ⟨a', m', c', Lib.hid (by rw [HN.out, HX.out, ← h1, h2, h4]), rfl, by rw [HN.out, HX.out, ← h1]; exact hO, hB⟩
      · obtain rfl : k = n := by omega
        have hkl : ¬ (k : Int) < (k : Int) := by omega
        have HX : Hid (upto l ep = l) := Lib.hid (upto_all (by rw [hlen.out]; exact HM.out.2.2.2))
        go_wp2_with fail
        go_ret
        obtain ⟨h1, h2, h4, h5⟩ := HM.out
        have hql : q = l := by rw [h1, List.take_of_length_le (by rw [hlen.out]; omega)]
        exact ⟨a', m', c', Lib.hid (by rw [HN.out, HX.out, ← hql, h2, h4]), rfl, by rw [HN.out, HX.out, ← hql]; exact hO, hB⟩
end Go.Proofs.Ytbbckjpgmpfkgaa
