/-
  The walks of package version: readVersion, readList, Get.
-/
import Derived.Test.YtbbckjpgmpfkgaaDoorVer2
import Derived.Test.YtbbckjpgmpfkgaaDoorOctF
namespace Go.Proofs.YtbbckjpgmpfkgaaDoor
open Go.RowKit
set_option maxRecDepth 100000

/-- a version at the front of bytes -/
def rdV (l : List UInt8) : Option (Vn × List UInt8) :=
  if (cnt 0 0 l).2.2 ≠ 0 then none
  else if (cnt 0 0 (l.drop (cnt 0 0 l).2.1)).2.2 ≠ 0 then none
  else if (rdB ((l.drop (cnt 0 0 l).2.1).drop (cnt 0 0 (l.drop (cnt 0 0 l).2.1)).2.1)).2.2 ≠ 0 then none
  else some (⟨(cnt 0 0 l).1, (cnt 0 0 (l.drop (cnt 0 0 l).2.1)).1, str (rdB ((l.drop (cnt 0 0 l).2.1).drop (cnt 0 0 (l.drop (cnt 0 0 l).2.1)).2.1)).1⟩,
    ((l.drop (cnt 0 0 l).2.1).drop (cnt 0 0 (l.drop (cnt 0 0 l).2.1)).2.1).drop (rdB ((l.drop (cnt 0 0 l).2.1).drop (cnt 0 0 (l.drop (cnt 0 0 l).2.1)).2.1)).2.1)

/-- what readVersion hands back -/
def RdVPost (w0 w : World) (r : Nat) (l : List UInt8) (e : Ending) (w' : World) : Prop :=
  (∃ x l', rdV l = some (x, l') ∧ e = .returned (.tuple #[.agg (vc x).toArray, .bool true]) ∧ Rdq w0 w' r l' ∧ w.grownBy w' (some r)) ∨
  (rdV l = none ∧ e = .returned (.tuple #[.agg (vc vn0).toArray, .bool false]) ∧ w.grownBy w' (some r))
theorem built_ver (e k : Int) (s : ByteArray) : Tryd.prog.built 87 [(0, .int .i64 e), (1, .int .i64 k), (2, .string s)] = some (vc ⟨e, k, s⟩).toArray := by kernel_rfl

set_option maxRecDepth 100000 in
set_option maxHeartbeats 2000000 in
theorem readVersion_any (w0 w : World) (r : Nat) (l : List UInt8) (hr : Rdq w0 w r l) (h0 : w0.heap.size ≤ w.heap.size) :
    Calls Tryd.prog 89 #[.pointer (some ⟨r, 0, none⟩)] w (RdVPost w0 w r l) := by
  have hrl := hr.lt
  have FY : Hid (∀ (W : World) (e : Ending) x l', rdV l = some (x, l') → e = .returned (.tuple #[.agg (vc x).toArray, .bool true]) → Rdq w0 W r l' → w.grownBy W (some r) → RdVPost w0 w r l e W) := Lib.hid (fun W e x l' h1 h2 h3 h4 => .inl ⟨x, l', h1, h2, h3, h4⟩)
  have FN : Hid (∀ (W : World) (e : Ending), rdV l = none → e = .returned (.tuple #[.agg (vc vn0).toArray, .bool false]) → w.grownBy W (some r) → RdVPost w0 w r l e W) := Lib.hid (fun W e h1 h2 h3 => .inr ⟨h1, h2, h3⟩)
  have HR : Hid (rdV l = if (cnt 0 0 l).2.2 ≠ 0 then none
    else if (cnt 0 0 (l.drop (cnt 0 0 l).2.1)).2.2 ≠ 0 then none
    else if (rdB ((l.drop (cnt 0 0 l).2.1).drop (cnt 0 0 (l.drop (cnt 0 0 l).2.1)).2.1)).2.2 ≠ 0 then none
    else some (⟨(cnt 0 0 l).1, (cnt 0 0 (l.drop (cnt 0 0 l).2.1)).1, str (rdB ((l.drop (cnt 0 0 l).2.1).drop (cnt 0 0 (l.drop (cnt 0 0 l).2.1)).2.1)).1⟩,
      ((l.drop (cnt 0 0 l).2.1).drop (cnt 0 0 (l.drop (cnt 0 0 l).2.1)).2.1).drop (rdB ((l.drop (cnt 0 0 l).2.1).drop (cnt 0 0 (l.drop (cnt 0 0 l).2.1)).2.1)).2.1)) := Lib.hid rfl
  have HB0 := Lib.hid vc_built
  have CT := Lib.hid (fun (W : World) (l : List UInt8) (h : Rdq w0 W r l) => rdq_count h)
  have BY := Lib.hid (fun (W : World) (l : List UInt8) (h : Rdq w0 W r l) => rdq_bytes h)
  generalize RdVPost w0 w r l = RP at *
  generalize rdV l = RES at *
  obtain ⟨A, S, E, hc⟩ : ∃ x y z, cnt 0 0 l = (x, y, z) := ⟨_, _, _, rfl⟩
  have CT0 := Lib.hid (fun (W : World) (h : Rdq w0 W r l) => CT.out W l h)
  rw [hc] at CT0 HR
  simp only at CT0 HR
  clear hc
  generalize l.drop S = l1 at *
  obtain ⟨A1, S1, E1, hc1⟩ : ∃ x y z, cnt 0 0 l1 = (x, y, z) := ⟨_, _, _, rfl⟩
  have CT1 := Lib.hid (fun (W : World) (h : Rdq w0 W r l1) => CT.out W l1 h)
  rw [hc1] at CT1 HR
  simp only at CT1 HR
  clear hc1 CT
  generalize l1.drop S1 = l2 at *
  obtain ⟨A2, S2, E2, hc2⟩ : ∃ x y z, rdB l2 = (x, y, z) := ⟨_, _, _, rfl⟩
  have BY2 := Lib.hid (fun (W : World) (h : Rdq w0 W r l2) => BY.out W l2 h)
  rw [hc2] at BY2 HR
  simp only at BY2 HR
  clear hc2 BY
  generalize l2.drop S2 = l3 at *
  have HB := Lib.hid (built_ver A A1 (str A2))
  generalize str A2 = key at *
  go_enter Tryd.func89, Tryd.ntmps89
  go_wp2_with ((with_reducible refine wpList_allocV (o := ⟨some 2, _, _, _, _, _⟩) ?_ ?_ ?_); rfl; rfl; intro w1 hr1 hg1 hz1)
  have hB1 : Below w.heap.size w w1 := (Below.refl _ w).grown hg1 (Nat.le_refl _) (fun k e => by cases e)
  have hq1 := hr.below hB1
  have hgr1 : w.grownBy w1 (some r) := ⟨hg1.os, hg1.tape, hg1.output, hg1.size, fun k hk _ => hg1.block k hk (by simp)⟩
  clear hr hg1 hz1 hB1
  refine (CT0.out _ hq1).mono ?_
  rintro e w2 ⟨rfl, hq2, hg2⟩
  have hr2 := hr1.grown hg2 (by simp; omega)
  have hgr2 := grown_trans hgr1 hg2
  by_cases hE : E = 0
  · subst hE
    go_wp2_with fail
    refine (CT1.out _ hq2).mono ?_
    rintro e w3 ⟨rfl, hq3, hg3⟩
    have hr3 := hr2.grown hg3 (by simp; omega)
    have hgr3 := grown_trans hgr2 hg3
    by_cases hE1 : E1 = 0
    · subst hE1
      go_wp2_with fail
      refine (BY2.out _ hq3).mono ?_
      rintro e w4 ⟨rfl, hq4, hg4⟩
      have hr4 := hr3.grown hg4 (by simp; omega)
      have hgr4 := grown_trans hgr3 hg4
      by_cases hE2 : E2 = 0
      · subst hE2
        have HRES : Hid (RES = some (⟨A, A1, key⟩, l3)) := Lib.hid (by rw [HR.out, if_neg (by simp), if_neg (by simp), if_neg (by simp)])
        go_wp2_with (first | ((with_reducible refine wpList_buildI (dst := some 35) HB.out ?_ ?_); rfl) | ((with_reducible refine wpList_storeV (o := ⟨none, _, _, _, _, _⟩) ?_ (.tmp 2) (.tmp 35) ?_ ⟨A, A1, key⟩ ?_ ?_ hr4 ?_); rfl; rfl; rfl; rfl; intro w5 hr5 hg5 hz5))
        refine bodyPost_ret (results_blk2 rfl _ _ _ _ _ _ rfl hr5 underV rfl (by kernel_rfl)) rfl (FY.out _ _ _ _ HRES.out rfl ?_ ?_)
        · exact hq4.other hg5 (fun k e => by cases e; exact h0)
        · exact grown_end hgr4 hg5 (Nat.le_refl _)
      · have hE' : ((E2 : Int) != 0) = true := by simp; omega
        have HRES : Hid (RES = none) := Lib.hid (by rw [HR.out, if_neg (by simp), if_neg (by simp), if_pos hE2])
        go_wp2_with (first | ((with_reducible refine wpList_buildI (dst := some 31) HB0.out ?_ ?_); rfl) | ((with_reducible refine wpList_storeV (o := ⟨none, _, _, _, _, _⟩) ?_ (.tmp 2) (.tmp 31) ?_ vn0 ?_ ?_ hr4 ?_); rfl; rfl; rfl; rfl; intro w5 hr5 hg5 hz5))
        refine bodyPost_ret (results_blk2 rfl _ _ _ _ _ _ rfl hr5 underV rfl (by kernel_rfl)) rfl (FN.out _ _ HRES.out rfl (grown_end hgr4 hg5 (Nat.le_refl _)))
    · have hE' : ((E1 : Int) != 0) = true := by simp; omega
      have HRES : Hid (RES = none) := Lib.hid (by rw [HR.out, if_neg (by simp), if_pos hE1])
      go_wp2_with (first | ((with_reducible refine wpList_buildI (dst := some 23) HB0.out ?_ ?_); rfl) | ((with_reducible refine wpList_storeV (o := ⟨none, _, _, _, _, _⟩) ?_ (.tmp 2) (.tmp 23) ?_ vn0 ?_ ?_ hr3 ?_); rfl; rfl; rfl; rfl; intro w5 hr5 hg5 hz5))
      refine bodyPost_ret (results_blk2 rfl _ _ _ _ _ _ rfl hr5 underV rfl (by kernel_rfl)) rfl (FN.out _ _ HRES.out rfl (grown_end hgr3 hg5 (Nat.le_refl _)))
  · have hE' : ((E : Int) != 0) = true := by simp; omega
    have HRES : Hid (RES = none) := Lib.hid (by rw [HR.out, if_pos hE])
    go_wp2_with (first | ((with_reducible refine wpList_buildI (dst := some 15) HB0.out ?_ ?_); rfl) | ((with_reducible refine wpList_storeV (o := ⟨none, _, _, _, _, _⟩) ?_ (.tmp 2) (.tmp 15) ?_ vn0 ?_ ?_ hr2 ?_); rfl; rfl; rfl; rfl; intro w5 hr5 hg5 hz5))
    refine bodyPost_ret (results_blk2 rfl _ _ _ _ _ _ rfl hr5 underV rfl (by kernel_rfl)) rfl (FN.out _ _ HRES.out rfl (grown_end hgr2 hg5 (Nat.le_refl _)))

/-- so many versions at the front of bytes -/
def manyV : Nat → List UInt8 → Option (List Vn × List UInt8)
  | 0, l => some ([], l)
  | k + 1, l => (manyV k l).bind fun p => (rdV p.2).map fun y => (p.1 ++ [y.1], y.2)
def listV (l : List UInt8) : Option (List Vn × List UInt8) := if (cnt 0 0 l).2.2 ≠ 0 ∨ 16 < (cnt 0 0 l).1 then none else manyV (cnt 0 0 l).1 (l.drop (cnt 0 0 l).2.1)
theorem manyV_yes {k : Nat} {l l' l'' : List UInt8} {q : List Vn} {x : Vn} (h : manyV k l = some (q, l')) (h2 : rdV l' = some (x, l'')) : manyV (k + 1) l = some (q ++ [x], l'') := by simp [manyV, h, h2]
theorem manyV_no {k : Nat} {l l' : List UInt8} {q : List Vn} (h : manyV k l = some (q, l')) (h2 : rdV l' = none) : ∀ j, manyV (k + 1 + j) l = none
  | 0 => by simp [manyV, h, h2]
  | j + 1 => by
    have := manyV_no h h2 j
    rw [show k + 1 + (j + 1) = (k + 1 + j) + 1 by omega, manyV, this]
    rfl
/-- what readList hands back -/
def RdLPost (w0 w : World) (r : Nat) (l : List UInt8) (e : Ending) (w' : World) : Prop :=
  (∃ q l' a m c, listV l = some (q, l') ∧ e = .returned (.tuple #[.slice a m c, .bool true]) ∧ q.length = m ∧ OwnV w' w.heap.size (.slice a m c) q ∧ Rdq w0 w' r l' ∧ w.grownBy w' (some r)) ∨
  (listV l = none ∧ e = .returned (.tuple #[.slice none 0 0, .bool false]) ∧ w.grownBy w' (some r))

set_option maxRecDepth 100000 in
set_option maxHeartbeats 2000000 in
theorem readList_any (w0 w : World) (r : Nat) (l : List UInt8) (hr : Rdq w0 w r l) (h0 : w0.heap.size ≤ w.heap.size) :
    Calls Tryd.prog 54 #[.pointer (some ⟨r, 0, none⟩)] w (RdLPost w0 w r l) := by
  have hrl := hr.lt
  have FY : Hid (∀ (W : World) (e : Ending) q l' a m c, listV l = some (q, l') → e = .returned (.tuple #[.slice a m c, .bool true]) → q.length = m → OwnV W w.heap.size (.slice a m c) q → Rdq w0 W r l' → w.grownBy W (some r) → RdLPost w0 w r l e W) := Lib.hid (fun W e q l' a m c h1 h2 h3 h4 h5 h6 => .inl ⟨q, l', a, m, c, h1, h2, h3, h4, h5, h6⟩)
  have FN : Hid (∀ (W : World) (e : Ending), listV l = none → e = .returned (.tuple #[.slice none 0 0, .bool false]) → w.grownBy W (some r) → RdLPost w0 w r l e W) := Lib.hid (fun W e h1 h2 h3 => .inr ⟨h1, h2, h3⟩)
  have HR : Hid (listV l = if (cnt 0 0 l).2.2 ≠ 0 ∨ 16 < (cnt 0 0 l).1 then none else manyV (cnt 0 0 l).1 (l.drop (cnt 0 0 l).2.1)) := Lib.hid rfl
  have CT := Lib.hid (fun (W : World) (h : Rdq w0 W r l) => rdq_count h)
  generalize RdLPost w0 w r l = RP at *
  generalize listV l = RES at *
  obtain ⟨A, S, E, hc⟩ : ∃ x y z, cnt 0 0 l = (x, y, z) := ⟨_, _, _, rfl⟩
  rw [hc] at CT HR
  simp only at CT HR
  clear hc
  generalize l.drop S = l1 at *
  go_enter Tryd.func54, Tryd.ntmps54
  go_wp2_with fail
  refine (CT.out _ hr).mono ?_
  rintro e w1 ⟨rfl, hq1, hg1⟩
  have hs1 := hg1.size
  by_cases hE : E = 0
  · subst hE
    by_cases h16 : A ≤ 16
    · have h16' : ¬ (16 : Int) < (A : Int) := by omega
      have HRES : Hid (RES = manyV A l1) := Lib.hid (by rw [HR.out, if_neg (by simp; omega)])
      go_wp2_with fail
      go_loopw [6, 21] (fun v i wr => ∃ (k m' : Nat) (a' : Option Addr) (c' : Nat) (q : List Vn) (l' : List UInt8), k ≤ A ∧ i = .int .i64 (k : Int) ∧ v = .slice a' m' c' ∧ Hid (manyV k l1 = some (q, l') ∧ q.length = k ∧ m' = k) ∧ OwnV wr w.heap.size (.slice a' m' c') q ∧ Rdq w0 wr r l' ∧ w.grownBy wr (some r)) (fun _ i _ => A - (intOf i).toNat)
      case atStart => exact ⟨0, 0, none, 0, [], l1, by omega, rfl, rfl, Lib.hid ⟨rfl, rfl, rfl⟩, OwnG.nil0 _ _, hq1, hg1⟩
      case round =>
        obtain ⟨k, m', a', c', q, l', hk, rfl, rfl, HM, hO, hq, hg⟩ := hrel
        by_cases hlt : k < A
        · have hkl : (k : Int) < (A : Int) := by omega
          have RV := Lib.hid (readVersion_any w0 wr r l' hq (Nat.le_trans h0 hg.size))
          have hgs := hg.size
          go_wp2_with fail
          refine RV.out.mono ?_
          rintro e w2 (⟨x, l'', hx, rfl, hq2, hg2⟩ | ⟨hx, rfl, hg2⟩)
          · have hO2 := hO.kept hg2 (fun y e e2 => by have := (hO.lt e).1; cases e2; omega)
            have hgg2 := grown_trans hg hg2
            have hgs2 := hgg2.size
            have hq1n : q.length + 1 ≤ 1000000 := by have := HM.out.2.1; omega
            have HX := Lib.hid (manyV_yes HM.out.1 hx)
            clear hx hq hO hg RV
            go_wp2_with (first | ((with_reducible refine wpList_allocV (o := ⟨some 7, _, _, _, _, _⟩) ?_ ?_ ?_); rfl; rfl; intro w3 hr3 hg3 hz3) | ((with_reducible refine wpList_storeV (o := ⟨none, _, _, _, _, _⟩) ?_ (.tmp 7) (.tmp 26) ?_ x ?_ ?_ hr3 ?_); rfl; rfl; rfl; rfl; intro w4 hr4 hg4 hz4; have hB4 : Below w2.heap.size w2 w4 := ((Below.refl _ w2).grown hg3 (Nat.le_refl _) (fun k e => by cases e)).grown hg4 (by omega) (fun k e => by cases e; omega); have hv4 := hr4.vr) | ((with_reducible refine wpList_loadV (o := ⟨some 31, _, _, _, _, _⟩) ?_ w2.heap.size 0 (.tmp 7) ?_ ?_ hv4 ?_); rfl; rfl; rfl) | ((with_reducible refine wpList_oneV (o := ⟨some 32, _, _, _, _, _⟩) ?_ (.tmp 31) ?_ x ?_ ?_); rfl; rfl; rfl; intro w8 hR8 hB8 hz8; have hB28 := Bt hB4 hB8; have hO8 := hO2.below hB28; have hb8 : w.heap.size ≤ w8.heap.size := Nat.le_trans hgs2 hB28.size) | ((with_reducible refine wpList_appV (o := ⟨some 33, _, _, _, _, _⟩) ?_ (.tmp 30) (.tmp 32) ?_ ?_ hO8 ?_ hR8 hq1n hb8 ?_); rfl; rfl; rfl; rfl; intro a9 c9 w9 hO9 hg9 hx9))
            go_roundw
            case rel =>
              obtain ⟨h1, h2, h3⟩ := HM.out
              refine ⟨k + 1, q.length + 1, a9, c9, q ++ [x], l'', by omega, by go_num, rfl, Lib.hid ⟨HX.out, by rw [List.length_append, h2]; rfl, by rw [h2]⟩, hO9, ?_, ?_⟩
              · exact (hq2.below hB28).other hg9 (fun y e => Nat.le_trans h0 (hO8.lt e).1)
              · exact grown_below (grown_below hgg2 (grown_none hB28) (fun k e => by cases e)) hg9 (fun y e => .inl (hO8.lt e).1)
            case measure => simp [intOf]; omega
          · have hgg2 := grown_trans hg hg2
            have hgs2 := hgg2.size
            have HX : Hid (RES = none) := Lib.hid (by
              have := manyV_no HM.out.1 hx (A - (k + 1))
              rw [show k + 1 + (A - (k + 1)) = A by omega] at this
              rw [HRES.out, this])
            clear hx hq hO hg RV
            go_wp2_with (first | ((with_reducible refine wpList_allocV (o := ⟨some 7, _, _, _, _, _⟩) ?_ ?_ ?_); rfl; rfl; intro w3 hr3 hg3 hz3) | ((with_reducible refine wpList_storeV (o := ⟨none, _, _, _, _, _⟩) ?_ (.tmp 7) (.tmp 26) ?_ vn0 ?_ ?_ hr3 ?_); rfl; rfl; rfl; rfl; intro w4 hr4 hg4 hz4; have hB4 : Below w2.heap.size w2 w4 := ((Below.refl _ w2).grown hg3 (Nat.le_refl _) (fun k e => by cases e)).grown hg4 (by omega) (fun k e => by cases e; omega)))
            exact FN.out _ _ HX.out rfl (grown_below hgg2 (grown_none hB4) (fun k e => by cases e))
        · obtain rfl : k = A := by omega
          have hkl : ¬ (k : Int) < (k : Int) := by omega
          obtain ⟨h1, h2, h3⟩ := HM.out
          have HX : Hid (RES = some (q, l')) := Lib.hid (by rw [HRES.out, h1])
          have HL : Hid (q.length = m') := Lib.hid (by rw [h2, h3])
          clear h1 h2 h3
          go_wp2_with fail
          exact FY.out _ _ q l' a' m' c' HX.out rfl HL.out hO hq hg
    · have h16' : (16 : Int) < (A : Int) := by omega
      have HRES : Hid (RES = none) := Lib.hid (by rw [HR.out, if_pos (.inr (by omega))])
      go_wp2_with fail
      exact FN.out _ _ HRES.out rfl hg1
  · have hE' : ((E : Int) != 0) = true := by simp; omega
    have HRES : Hid (RES = none) := Lib.hid (by rw [HR.out, if_pos (.inl hE)])
    go_wp2_with fail
    exact FN.out _ _ HRES.out rfl hg1

/-- bytes that are a history, and nothing more -/
def getV (l : List UInt8) : Option (List Vn) := match listV l with | some (q, []) => if isB q then some q else none | _ => none
def GetVPost (w : World) (l : List UInt8) (e : Ending) (w' : World) : Prop :=
  (∃ q a m c, getV l = some q ∧ e = .returned (.tuple #[.slice a m c, .int .i64 0]) ∧ q.length = m ∧ RdV w' a m c q ∧ Below w.heap.size w w') ∨
  (getV l = none ∧ e = .returned (.tuple #[.slice none 0 0, .int .i64 50]) ∧ Below w.heap.size w w')

set_option maxRecDepth 100000 in
set_option maxHeartbeats 2000000 in
theorem vget_any (w : World) (a : Option Addr) (n c : Nat) (l : List UInt8) (hr : Rd w a n c l) (hn : n ≤ 1099511627776) :
    Calls Tryd.prog 24 #[.slice a n c] w (GetVPost w l) := by
  have HG : Hid (getV l = match listV l with | some (q, []) => if isB q then some q else none | _ => none) := Lib.hid rfl
  have FY : Hid (∀ (W : World) (e : Ending) q a m c, getV l = some q → e = .returned (.tuple #[.slice a m c, .int .i64 0]) → q.length = m → RdV W a m c q → Below w.heap.size w W → GetVPost w l e W) := Lib.hid (fun W e q a m c h1 h2 h3 h4 h5 => .inl ⟨q, a, m, c, h1, h2, h3, h4, h5⟩)
  have FN : Hid (∀ (W : World) (e : Ending), getV l = none → e = .returned (.tuple #[.slice none 0 0, .int .i64 50]) → Below w.heap.size w W → GetVPost w l e W) := Lib.hid (fun W e h1 h2 h3 => .inr ⟨h1, h2, h3⟩)
  generalize GetVPost w l = RP at *
  generalize getV l = RES at *
  go_enter Tryd.func24, Tryd.ntmps24
  go_wp2_with fail
  refine (new_any w a n c l hr hn).mono ?_
  rintro e w2 ⟨r, rfl, hrr, hR2, hB2⟩
  have hq2 := Rdq.start hR2
  go_wp2_with fail
  refine (readList_any w2 w2 r l hq2 (Nat.le_refl _)).mono ?_
  rintro e w3 (⟨q, l', a3, m3, c3, hl, rfl, hm3, hO3, hq3, hg3⟩ | ⟨hl, rfl, hg3⟩)
  · have hB3 := grown_to_below hB2 hg3 (by omega)
    rw [hl] at HG
    go_wp2_with fail
    refine (left_any w3 r l' hq3.rdr).mono ?_
    rintro e w4 ⟨rfl, rfl⟩
    cases l' with
    | cons y ys =>
      have HN : Hid (RES = none) := Lib.hid HG.out
      have hgt : (0 : Int) < ((y :: ys).length : Int) := by simp
      generalize (y :: ys).length = ln at *
      go_wp2_with fail
      exact FN.out _ _ HN.out rfl hB3
    | nil =>
      have hR3 := hO3.rd
      cases hi : isB q with
      | false =>
        have CK := Lib.hid (check_any w3 a3 m3 c3 q hR3)
        rw [show chkI q = 50 by rw [chkI, hi]; rfl] at CK
        have HN : Hid (RES = none) := Lib.hid (by rw [HG.out]; simp [hi])
        go_wp2_with fail
        refine CK.out.mono ?_
        rintro e w5 ⟨rfl, hB5⟩
        go_wp2_with fail
        exact FN.out _ _ HN.out rfl (Bt hB3 hB5)
      | true =>
        have CK := Lib.hid (check_any w3 a3 m3 c3 q hR3)
        rw [show chkI q = 0 by rw [chkI, hi]; rfl] at CK
        have HN : Hid (RES = some q) := Lib.hid (by rw [HG.out]; simp [hi])
        have HM := Lib.hid hm3
        clear hm3
        go_wp2_with fail
        refine CK.out.mono ?_
        rintro e w5 ⟨rfl, hB5⟩
        go_wp2_with fail
        exact FY.out _ _ q a3 m3 c3 HN.out rfl HM.out (hR3.below hB5) (Bt hB3 hB5)
  · have hB3 := grown_to_below hB2 hg3 (by omega)
    rw [hl] at HG
    have HN : Hid (RES = none) := Lib.hid HG.out
    go_wp2_with fail
    exact FN.out _ _ HN.out rfl hB3
end Go.Proofs.YtbbckjpgmpfkgaaDoor
