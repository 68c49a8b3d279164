/-
  The walks of the document's answers for package version: Read, Get.
-/
import Derived.Test.YtbbckjpgmpfkgaaVrf1
import Derived.Test.YtbbckjpgmpfkgaaVer3
import Derived.Test.YtbbckjpgmpfkgaaRefR01
namespace Go.Proofs.Ytbbckjpgmpfkgaa
open Go.RowKit

theorem rdB_le (l : List UInt8) : (rdB l).2.1 ≤ l.length := by
  unfold rdB
  have h1 := (cnt_le l 0 0 (by omega)).1
  split
  · simp
  · split
    · simp
    · split
      · simp
      · simp only
        omega
/-- what Read hands back -/
def RdRPost (w : World) (l : List UInt8) (e : Ending) (w' : World) : Prop :=
  (∃ q l' a m c p, listV l = some (q, l') ∧ e = .returned (.tuple #[.slice a m c, .int .i64 (p : Nat), .bool (isB q)]) ∧ q.length = m ∧ l' = l.drop p ∧ p ≤ l.length ∧ RdV w' a m c q ∧ Below w.heap.size w w') ∨
  (listV l = none ∧ e = .returned (.tuple #[.slice none 0 0, .int .i64 0, .bool false]) ∧ Below w.heap.size w w')

set_option maxRecDepth 100000 in
set_option maxHeartbeats 2000000 in
theorem readR_any (w : World) (a : Option Addr) (n c : Nat) (l : List UInt8) (hr : Rd w a n c l) (hmax : n ≤ 1099511627776) :
    Calls Try.prog 35 #[.slice a n c] w (RdRPost w l) := by
  have hlen := Lib.hid hr.len
  have FY : Hid (∀ (W : World) (e : Ending) q l' a m c p, listV l = some (q, l') → e = .returned (.tuple #[.slice a m c, .int .i64 (p : Nat), .bool (isB q)]) → q.length = m → l' = l.drop p → p ≤ n → RdV W a m c q → Below w.heap.size w W → RdRPost w l e W) := Lib.hid (fun W e q l' a m c p h1 h2 h3 h4 h5 h6 h7 => .inl ⟨q, l', a, m, c, p, h1, h2, h3, h4, by rw [hlen.out]; exact h5, h6, h7⟩)
  have FN : Hid (∀ (W : World) (e : Ending), listV l = none → e = .returned (.tuple #[.slice none 0 0, .int .i64 0, .bool false]) → Below w.heap.size w W → RdRPost w l e W) := Lib.hid (fun W e h1 h2 h3 => .inr ⟨h1, h2, h3⟩)
  have HR : Hid (listV l = if (cnt 0 0 l).2.2 ≠ 0 ∨ 16 < (cnt 0 0 l).1 then none else manyV (cnt 0 0 l).1 (l.drop (cnt 0 0 l).2.1)) := Lib.hid rfl
  have RC0 := Lib.hid (readCount_any w a n c l hr)
  have RC := Lib.hid (fun (W : World) (k : Nat) (hB : Below w.heap.size w W) (hk : k ≤ n) => readCount_any W (tailU a c k) (n - k) (c - k) (l.drop k) ((hr.below hB).tailU k hk))
  have RB := Lib.hid (fun (W : World) (k : Nat) (hB : Below w.heap.size w W) (hk : k ≤ n) => readBytes_any W (tailU a c k) (n - k) (c - k) (l.drop k) ((hr.below hB).tailU k hk))
  have hS := (cnt_le l 0 0 (by omega)).1
  generalize RdRPost w l = RP at *
  generalize listV l = RES at *
  obtain ⟨A, S, E, hc⟩ : ∃ x y z, cnt 0 0 l = (x, y, z) := ⟨_, _, _, rfl⟩
  unfold CntPost at RC0
  rw [hc] at RC0 HR hS
  simp only at RC0 HR hS
  rw [hlen.out] at hS
  clear hc hr
  have hB0 := Below.refl w.heap.size w
  go_enter Try.func35, Try.ntmps35
  go_wp2_with fail
  refine RC0.out.mono ?_
  rintro e w1 ⟨rfl, rfl⟩
  by_cases hE : E = 0
  · subst hE
    by_cases h16 : A ≤ 16
    · have h16' : ¬ (16 : Int) < (A : Int) := by omega
      have HRES : Hid (RES = manyV A (l.drop S)) := Lib.hid (by rw [HR.out, if_neg (by simp; omega)])
      go_wp2_with fail
      go_loopw [6, 8, 9] (fun at' v i wr => ∃ (k m' : Nat) (a' : Option Addr) (c' : Nat) (q : List Vn) (p : Nat), k ≤ A ∧ i = .int .i64 (k : Int) ∧ at' = .int .i64 (p : Int) ∧ p ≤ n ∧ v = .slice a' m' c' ∧ Hid (manyV k (l.drop S) = some (q, l.drop p) ∧ q.length = k ∧ m' = k) ∧ OwnV wr w.heap.size (.slice a' m' c') q ∧ Below w.heap.size w wr) (fun _ _ i _ => A - (intOf i).toNat)
      case atStart => exact ⟨0, 0, none, 0, [], S, by omega, rfl, rfl, by omega, rfl, Lib.hid ⟨rfl, rfl, rfl⟩, OwnG.nil0 _ _, hB0⟩
      case round =>
        obtain ⟨k, m', a', c', q, p, hk, rfl, rfl, hp, rfl, HM, hO, hB⟩ := hrel
        by_cases hlt : k < A
        · have hkl : (k : Int) < (A : Int) := by omega
          have HV : Hid (rdV (l.drop p) = if (cnt 0 0 (l.drop p)).2.2 ≠ 0 then none
            else if (cnt 0 0 ((l.drop p).drop (cnt 0 0 (l.drop p)).2.1)).2.2 ≠ 0 then none
            else if (rdB (((l.drop p).drop (cnt 0 0 (l.drop p)).2.1).drop (cnt 0 0 ((l.drop p).drop (cnt 0 0 (l.drop p)).2.1)).2.1)).2.2 ≠ 0 then none
            else some (⟨(cnt 0 0 (l.drop p)).1, (cnt 0 0 ((l.drop p).drop (cnt 0 0 (l.drop p)).2.1)).1, str (rdB (((l.drop p).drop (cnt 0 0 (l.drop p)).2.1).drop (cnt 0 0 ((l.drop p).drop (cnt 0 0 (l.drop p)).2.1)).2.1)).1⟩,
              (((l.drop p).drop (cnt 0 0 (l.drop p)).2.1).drop (cnt 0 0 ((l.drop p).drop (cnt 0 0 (l.drop p)).2.1)).2.1).drop (rdB (((l.drop p).drop (cnt 0 0 (l.drop p)).2.1).drop (cnt 0 0 ((l.drop p).drop (cnt 0 0 (l.drop p)).2.1)).2.1)).2.1)) := Lib.hid rfl
          have R0 := Lib.hid (RC.out wr p hB hp)
          have hS0 := (cnt_le (l.drop p) 0 0 (by omega)).1
          rw [List.length_drop, hlen.out] at hS0
          unfold CntPost at R0
          obtain ⟨A0, S0, E0, hc0⟩ : ∃ x y z, cnt 0 0 (l.drop p) = (x, y, z) := ⟨_, _, _, rfl⟩
          rw [hc0] at R0 HV hS0
          simp only [List.drop_drop] at R0 HV hS0
          have hp0 : p + S0 ≤ n := by omega
          have R1 := Lib.hid (RC.out wr (p + S0) hB hp0)
          have hS1 := (cnt_le (l.drop (p + S0)) 0 0 (by omega)).1
          rw [List.length_drop, hlen.out] at hS1
          unfold CntPost at R1
          obtain ⟨A1, S1, E1, hc1⟩ : ∃ x y z, cnt 0 0 (l.drop (p + S0)) = (x, y, z) := ⟨_, _, _, rfl⟩
          rw [hc1] at R1 HV hS1
          simp only at R1 HV hS1
          have hp1 : p + S0 + S1 ≤ n := by omega
          have R2 := Lib.hid (RB.out wr (p + S0 + S1) hB hp1)
          have hS2 := rdB_le (l.drop (p + S0 + S1))
          rw [List.length_drop, hlen.out] at hS2
          unfold RBPost at R2
          obtain ⟨A2, S2, E2, hc2⟩ : ∃ x y z, rdB (l.drop (p + S0 + S1)) = (x, y, z) := ⟨_, _, _, rfl⟩
          rw [hc2] at R2 HV hS2
          simp only at R2 HV hS2
          have hp2 : p + S0 + S1 + S2 ≤ n := by omega
          have C0 := (cutU wr a n c p (p : Int) rfl hp).1
          have C0' := (cutU wr a n c p (p : Int) rfl hp).2
          have C1 := (cutU wr a n c (p + S0) ((p : Int) + (S0 : Int)) (by omega) hp0).1
          have C1' := (cutU wr a n c (p + S0) ((p : Int) + (S0 : Int)) (by omega) hp0).2
          have C2 := (cutU wr a n c (p + S0 + S1) ((p : Int) + (S0 : Int) + (S1 : Int)) (by omega) hp1).1
          have C2' := (cutU wr a n c (p + S0 + S1) ((p : Int) + (S0 : Int) + (S1 : Int)) (by omega) hp1).2
          clear hc0 hc1 hc2 hS0 hS1 hS2
          generalize str A2 = key at *
          go_wp2_with fail
          refine R0.out.mono ?_
          rintro e w2 ⟨rfl, rfl⟩
          go_wp2_with fail
          refine R1.out.mono ?_
          rintro e w2 ⟨rfl, rfl⟩
          go_wp2_with fail
          refine R2.out.mono ?_
          rintro e w2 ⟨rfl, rfl⟩
          by_cases hz0 : E0 = 0
          · subst hz0
            by_cases hz1 : E1 = 0
            · subst hz1
              by_cases hz2 : E2 = 0
              · subst hz2
                have HX := Lib.hid (manyV_yes HM.out.1 (show rdV (l.drop p) = some (⟨A0, A1, key⟩, l.drop (p + S0 + S1 + S2)) by rw [HV.out, if_neg (by simp), if_neg (by simp), if_neg (by simp)]))
                have HB := Lib.hid (built_ver A0 A1 key)
                have hq1n : q.length + 1 ≤ 1000000 := by have := HM.out.2.1; omega
                have hgs2 := hB.size
                clear C0 C0' C1 C1' C2 C2' R0 R1 R2 HV
                go_wp2_with (first | ((with_reducible refine wpList_buildI (dst := some 83) HB.out ?_ ?_); rfl) | ((with_reducible refine wpList_oneV (o := ⟨some 84, _, _, _, _, _⟩) ?_ (.tmp 83) ?_ ⟨A0, A1, key⟩ ?_ ?_); rfl; rfl; rfl; intro w8 hR8 hB8 hz8; have hO8 := hO.below hB8; have hb8 : w.heap.size ≤ w8.heap.size := Nat.le_trans hgs2 hB8.size) | ((with_reducible refine wpList_appV (o := ⟨some 85, _, _, _, _, _⟩) ?_ (.tmp 79) (.tmp 84) ?_ ?_ hO8 ?_ hR8 hq1n hb8 ?_); rfl; rfl; rfl; rfl; intro a9 c9 w9 hO9 hg9 hx9))
                go_roundw
                case rel =>
                  obtain ⟨h1, h2, h3⟩ := HM.out
                  exact ⟨k + 1, q.length + 1, a9, c9, q ++ [⟨A0, A1, key⟩], p + S0 + S1 + S2, by omega, by go_num, by go_num, by omega, rfl, Lib.hid ⟨HX.out, by rw [List.length_append, h2]; rfl, by rw [h2]⟩, hO9, (Bt hB hB8).grown hg9 hb8 (fun y e => (hO8.lt e).1)⟩
                case measure => simp [intOf]; omega
              · have HX : Hid (RES = none) := Lib.hid (by
                  have := manyV_no HM.out.1 (by rw [HV.out]; rw [if_neg (by simp), if_neg (by simp), if_pos hz2]) (A - (k + 1))
                  rw [show k + 1 + (A - (k + 1)) = A by omega] at this
                  rw [HRES.out, this])
                have hE' : ((E2 : Int) != 0) = true := by simp; omega
                go_wp2_with fail
                go_ret3
                exact FN.out _ _ HX.out rfl hB
            · have HX : Hid (RES = none) := Lib.hid (by
                have := manyV_no HM.out.1 (by rw [HV.out]; rw [if_neg (by simp), if_pos hz1]) (A - (k + 1))
                rw [show k + 1 + (A - (k + 1)) = A by omega] at this
                rw [HRES.out, this])
              have hE' : ((E1 : Int) != 0) = true := by simp; omega
              go_wp2_with fail
              go_ret3
              exact FN.out _ _ HX.out rfl hB
          · have HX : Hid (RES = none) := Lib.hid (by
              have := manyV_no HM.out.1 (by rw [HV.out]; rw [if_pos hz0]) (A - (k + 1))
              rw [show k + 1 + (A - (k + 1)) = A by omega] at this
              rw [HRES.out, this])
            have hE' : ((E0 : Int) != 0) = true := by simp; omega
            go_wp2_with fail
            go_ret3
            exact FN.out _ _ HX.out rfl hB
        · obtain rfl : k = A := by omega
          have hkl : ¬ (k : Int) < (k : Int) := by omega
          obtain ⟨h1, h2, h3⟩ := HM.out
          have HX : Hid (RES = some (q, l.drop p)) := Lib.hid (by rw [HRES.out, h1])
          have HL : Hid (q.length = m') := Lib.hid (by rw [h2, h3])
          have hm' : m' ≤ 1000 := by omega
          have hR := hO.rd
          have IS := Lib.hid (isR_any wr a' m' c' q hR hm')
          clear h1 h2 h3
          go_wp2_with fail
          refine IS.out.mono ?_
          rintro e w2 ⟨rfl, hB2⟩
          go_wp2_with fail
          go_ret3
          exact FY.out _ _ q (l.drop p) a' m' c' p HX.out rfl HL.out rfl hp (hR.below hB2) (Bt hB hB2)
    · have h16' : (16 : Int) < (A : Int) := by omega
      have HRES : Hid (RES = none) := Lib.hid (by rw [HR.out, if_pos (.inr (by omega))])
      go_wp2_with fail
      go_ret3
      exact FN.out _ _ HRES.out rfl hB0
  · have hE' : ((E : Int) != 0) = true := by simp; omega
    have HRES : Hid (RES = none) := Lib.hid (by rw [HR.out, if_pos (.inl hE)])
    go_wp2_with fail
    go_ret3
    exact FN.out _ _ HRES.out rfl hB0

set_option maxRecDepth 100000 in
set_option maxHeartbeats 1000000 in
theorem getR_any (w : World) (a : Option Addr) (n c : Nat) (l : List UInt8) (hr : Rd w a n c l) (hmax : n ≤ 1099511627776) :
    Calls Try.prog 23 #[.slice a n c] w (GetVPost w l) := by
  have HG : Hid (getV l = match listV l with | some (q, []) => if isB q then some q else none | _ => none) := Lib.hid rfl
  have FY : Hid (∀ (W : World) (e : Ending) q a m c, getV l = some q → e = .returned (.tuple #[.slice a m c, .int .i64 0]) → q.length = m → RdV W a m c q → Below w.heap.size w W → GetVPost w l e W) := Lib.hid (fun W e q a m c h1 h2 h3 h4 h5 => .inl ⟨q, a, m, c, h1, h2, h3, h4, h5⟩)
  have FN : Hid (∀ (W : World) (e : Ending), getV l = none → e = .returned (.tuple #[.slice none 0 0, .int .i64 50]) → Below w.heap.size w W → GetVPost w l e W) := Lib.hid (fun W e h1 h2 h3 => .inr ⟨h1, h2, h3⟩)
  have hlen := Lib.hid hr.len
  have RD := Lib.hid (readR_any w a n c l hr hmax)
  generalize GetVPost w l = RP at *
  generalize getV l = RES at *
  clear hr
  go_enter Try.func23, Try.ntmps23
  go_wp2_with fail
  refine RD.out.mono ?_
  rintro e w1 (⟨q, l', a1, m1, c1, p, h1, rfl, h2, h3, h4, hR, hB⟩ | ⟨h1, rfl, hB⟩)
  · rw [h1] at HG
    rw [hlen.out] at h4
    cases hi : isB q with
    | false =>
      have HN : Hid (RES = none) := Lib.hid (by
        rw [HG.out]
        cases l' with
        | nil => simp [hi]
        | cons _ _ => rfl)
      clear h2 h3
      go_wp2_with fail
      exact FN.out _ _ HN.out rfl hB
    | true =>
      by_cases hp : p = n
      · have HN : Hid (RES = some q) := Lib.hid (by
          have : l' = [] := by rw [h3]; exact List.drop_eq_nil_of_le (by rw [hlen.out]; omega)
          subst this
          rw [HG.out]; simp [hi])
        have hpn : ((p : Int) != (n : Int)) = false := by simp; omega
        have HL := Lib.hid h2
        clear h2 h3 hp
        go_wp2_with fail
        exact FY.out _ _ q a1 m1 c1 HN.out rfl HL.out hR hB
      · have HN : Hid (RES = none) := Lib.hid (by
          rw [HG.out]
          cases l' with
          | nil =>
            have := congrArg List.length h3
            rw [List.length_drop, hlen.out] at this
            simp at this
            omega
          | cons _ _ => rfl)
        have hpn : ((p : Int) != (n : Int)) = true := by simp; omega
        clear h2 h3 hp
        go_wp2_with fail
        exact FN.out _ _ HN.out rfl hB
  · rw [h1] at HG
    have HN : Hid (RES = none) := Lib.hid HG.out
    go_wp2_with fail
    exact FN.out _ _ HN.out rfl hB
end Go.Proofs.Ytbbckjpgmpfkgaa
