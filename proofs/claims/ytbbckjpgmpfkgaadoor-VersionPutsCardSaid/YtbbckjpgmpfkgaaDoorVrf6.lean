/-
  The walks of the document's answers for package version: Bytes, Put.
-/
import Derived.Test.YtbbckjpgmpfkgaaDoorVrf1
import Derived.Test.YtbbckjpgmpfkgaaDoorVer4
import Derived.Test.YtbbckjpgmpfkgaaDoorRef01
namespace Go.Proofs.YtbbckjpgmpfkgaaDoor
open Go.RowKit
set_option maxRecDepth 100000

theorem Own.len2 {w : World} {base m c : Nat} {a : Option Addr} {q : List UInt8} (h : Own w base (.slice a m c) q) : m = q.length := by
  obtain ⟨_, _, e⟩ := h.shape
  cases e
  rfl

set_option maxRecDepth 100000 in
set_option maxHeartbeats 2000000 in
theorem bytesR_any (w : World) (a : Option Addr) (n c : Nat) (l : List Vn) (hr : RdV w a n c l) (hn : n ≤ 16) (hp : ∀ v ∈ l, putB v) :
    Calls Tryd.prog 51 #[.slice a n c] w fun e w' => ∃ a' m c', e = .returned (.slice a' m c') ∧ Hid (m = (encV l).length) ∧ Own w' w.heap.size (.slice a' m c') (encV l) ∧ Below w.heap.size w w' := by
  have hlen := Lib.hid hr.len
  have HEL : Hid (∀ i : Nat, i < n → ∃ b off, a = some ⟨b, off, none⟩ ∧ w.rangeAt b (off + i * 3) (vc (l.getD i vn0)) ∧ putB (l.getD i vn0)) := Lib.hid (fun i h => by
    obtain ⟨b, off, h1, h2, h3⟩ := RdV.elems hr (by omega)
    refine ⟨b, off, h1, h3 i h, ?_⟩
    have hl : i < l.length := by rw [hr.len]; exact h
    have e : l.getD i vn0 = l[i] := by simp [List.getD, hl]
    rw [e]
    exact hp _ (List.getElem_mem hl))
  have G0 := Lib.hid (groups_ref 4 n w (by omega) (by decide))
  have HLE := Lib.hid (encVs_le hp)
  have HE : Hid (encV l = encC n ++ encVs (l.take n)) := Lib.hid (by rw [encV, hlen.out, List.take_of_length_le (by rw [hlen.out]; omega)])
  have h5 := encC_len n (by omega)
  clear hr hp
  generalize encV l = EV at *
  generalize encC n = E0 at *
  go_enter Tryd.func51, Tryd.ntmps51
  go_wp2_with fail
  refine G0.out.mono ?_
  rintro e w1 ⟨a1, m1, c1, rfl, hO1, hB1⟩
  have hm1 := hO1.len2
  have HM1 := Lib.hid hm1
  clear hm1
  go_wp2_with fail
  go_loopw [3, 4] (fun v i wr => ∃ (k : Nat) (a' : Option Addr) (m' c' : Nat) (q : List UInt8), k ≤ n ∧ i = .int .i64 (k : Int) ∧ v = .slice a' m' c' ∧ Hid (q = E0 ++ encVs (l.take k) ∧ m' = q.length) ∧ Own wr w.heap.size (.slice a' m' c') q ∧ Below w.heap.size w wr) (fun _ i _ => n - (intOf i).toNat)
  case atStart => exact ⟨0, a1, m1, c1, E0, by omega, rfl, rfl, Lib.hid ⟨by simp [encVs], HM1.out⟩, hO1, hB1⟩
  case round =>
    obtain ⟨k, a', m', c', q, hk, rfl, rfl, HM, hO, hB⟩ := hrel
    by_cases hlt : k < n
    · obtain ⟨b, off, rfl, hx0, hpb⟩ := HEL.out k hlt
      have hkl : (k : Int) < (n : Int) := by omega
      have HTK := Lib.hid (encVs_take (l := l) (k := k) (by rw [hlen.out]; exact hlt))
      have hql : q.length ≤ 2000000 := by
        have := HLE.out k (by rw [hlen.out]; exact hk)
        rw [HM.out.1, List.length_append]
        omega
      have hx1 : (encV1 (l.getD k vn0)).length ≤ 65560 := encV1_le hpb
      have HX1 : Hid (encV1 (l.getD k vn0) = encC (l.getD k vn0).ep.toNat ++ (encC (l.getD k vn0).kd.toNat ++ (encC (keyB (l.getD k vn0).key).length ++ keyB (l.getD k vn0).key))) := Lib.hid rfl
      obtain ⟨p1, p2, p3, p4, p5⟩ := hpb
      have hy0 := vr_ep (range_below hB hx0)
      have HX0 := Lib.hid hx0
      clear HEL hx0
      generalize l.getD k vn0 = x at *
      generalize encV1 x = X at *
      have hks : (keyB x.key).length = x.key.size := Array.length_toList
      have PB := Lib.hid (fun W : World => bytes_ref_ok x.key W (by omega))
      have HPB : Hid (encC x.key.size ++ x.key.data.toList = encC (keyB x.key).length ++ keyB x.key) := Lib.hid (by rw [hks]; rfl)
      rw [HPB.out] at PB
      have hl1 := congrArg List.length HX1.out
      simp only [List.length_append] at hl1
      have HL1 : Hid (X.length = (encC x.ep.toNat).length + ((encC x.kd.toNat).length + (encC (keyB x.key).length ++ keyB x.key).length)) := Lib.hid (by rw [hl1, List.length_append])
      clear hks hl1 HPB p5
      generalize encC (keyB x.key).length ++ keyB x.key = X3 at *
      have G1 := Lib.hid (fun W : World => groups_ref 4 x.ep.toNat W (by omega) (by decide))
      have G2 := Lib.hid (fun W : World => groups_ref 4 x.kd.toNat W (by omega) (by decide))
      have e1 : ((x.ep.toNat : Nat) : Int) = x.ep := by omega
      have e2 : ((x.kd.toNat : Nat) : Int) = x.kd := by omega
      rw [e1] at G1
      rw [e2] at G2
      have HL : Hid ((encC x.ep.toNat).length ≤ 65560 ∧ (encC x.kd.toNat).length ≤ 65560 ∧ X3.length ≤ 65560) := Lib.hid (by have := HL1.out; omega)
      clear e1 e2 p1 p2 p3 p4 HL1
      generalize encC x.ep.toNat = X1 at *
      generalize encC x.kd.toNat = X2 at *
      have hmq := HM.out.2
      have HMQ := Lib.hid hmq
      have HQ := Lib.hid HM.out.1
      clear hmq HM
      go_wp2_with fail
      refine (G1.out _).mono ?_
      rintro e w2 ⟨a2, m2, c2, rfl, hO2, hB2⟩
      have hm2 := hO2.len2
      have HM2 := Lib.hid hm2
      have hR2 := hO2.rd
      have hO' := hO.below hB2
      have hB02 := Bt hB hB2
      have hs2 := hB02.size
      have hz2 : q.length + m2 ≤ 140737488355328 := by have := HL.out; omega
      clear hO2 hm2 hO hy0
      go_wp2_with ((with_reducible refine wpList_app2 (o := ⟨some 26, _, _, _, _, _⟩) ?_ (.tmp 24) (.tmp 25) ?_ ?_ hO' ?_ hR2 hz2 hs2 ?_); rfl; rfl; rfl; rfl; intro a3 c3 w3 hO3 hg3 hx3; have hB03 : Below w.heap.size w w3 := hB02.grown hg3 hs2 (fun y e => (hO'.lt e).1); have hy3 := vr_kd (range_below hB03 HX0.out); obtain ⟨M3, hM3⟩ : ∃ M, M = q.length + m2 := ⟨_, rfl⟩; rw [← hM3] at hO3 ⊢; have HM3 := Lib.hid hM3; clear hM3 hx3)
      refine (G2.out _).mono ?_
      rintro e w4 ⟨a4, m4, c4, rfl, hO4, hB4⟩
      have hm4 := hO4.len2
      have HM4 := Lib.hid hm4
      have hR4 := hO4.rd
      have hO4' := hO3.below hB4
      have hB04 := Bt hB03 hB4
      have hs4 := hB04.size
      have hz4 : (q ++ X1).length + m4 ≤ 140737488355328 := by have := HL.out; rw [List.length_append]; omega
      clear hO4 hm4 hO3 hy3 hO' hR2 hg3 hz2 hs2
      obtain ⟨q3, hq3⟩ : ∃ q3, q3 = q ++ X1 := ⟨_, rfl⟩
      rw [← hq3] at hO4' hz4
      have HQ3 := Lib.hid hq3
      clear hq3
      go_wp2_with ((with_reducible refine wpList_app2 (o := ⟨some 35, _, _, _, _, _⟩) ?_ (.tmp 33) (.tmp 34) ?_ ?_ hO4' ?_ hR4 hz4 hs4 ?_); rfl; rfl; rfl; rfl; intro a5 c5 w5 hO5 hg5 hx5; have hB05 : Below w.heap.size w w5 := hB04.grown hg5 hs4 (fun y e => (hO4'.lt e).1); have hy5 := vr_key (range_below hB05 HX0.out); obtain ⟨M5, hM5⟩ : ∃ M, M = q3.length + m4 := ⟨_, rfl⟩; rw [← hM5] at hO5 ⊢; have HM5 := Lib.hid hM5; clear hM5 hx5)
      refine (PB.out _).mono ?_
      rintro e w6 ⟨a6, m6, c6, rfl, hO6, hB6⟩
      have hm6 := hO6.len2
      have HM6 := Lib.hid hm6
      have hR6 := hO6.rd
      have hO6' := hO5.below hB6
      have hB06 := Bt hB05 hB6
      have hs6 := hB06.size
      have hz6 : (q3 ++ X2).length + m6 ≤ 140737488355328 := by have := HL.out; rw [List.length_append, HQ3.out, List.length_append]; omega
      clear hO6 hm6 hO5 hy5 hO4' hR4 hg5 hz4 hs4
      obtain ⟨q5, hq5⟩ : ∃ q5, q5 = q3 ++ X2 := ⟨_, rfl⟩
      rw [← hq5] at hO6' hz6
      have HQ5 := Lib.hid hq5
      clear hq5
      go_wp2_with ((with_reducible refine wpList_app2 (o := ⟨some 47, _, _, _, _, _⟩) ?_ (.tmp 45) (.tmp 46) ?_ ?_ hO6' ?_ hR6 hz6 hs6 ?_); rfl; rfl; rfl; rfl; intro a7 c7 w7 hO7 hg7 hx7; have hB07 : Below w.heap.size w w7 := hB06.grown hg7 hs6 (fun y e => (hO6'.lt e).1); obtain ⟨M7, hM7⟩ : ∃ M, M = q5.length + m6 := ⟨_, rfl⟩; rw [← hM7] at hO7 ⊢; have HM7 := Lib.hid hM7; clear hM7 hx7)
      go_roundw
      case rel =>
        refine ⟨k + 1, a7, M7, c7, q5 ++ X3, by omega, by go_num, rfl, Lib.hid ⟨?_, ?_⟩, hO7, hB07⟩
        · rw [HQ5.out, HQ3.out, HQ.out, HTK.out, HX1.out]
          simp [List.append_assoc]
        · rw [HM7.out, HM6.out, List.length_append]
      case measure => simp [intOf]; omega
    · obtain rfl : k = n := by omega
      have hkl : ¬ (k : Int) < (k : Int) := by omega
      have HX : Hid (q = EV) := Lib.hid (by rw [HM.out.1, HE.out])
      have HMQ := Lib.hid HM.out.2
      clear HM
      go_wp2_with fail
      go_ret
      exact ⟨a', m', c', rfl, Lib.hid (by rw [HMQ.out, HX.out]), by rw [← HX.out]; exact hO, hB⟩

set_option maxRecDepth 100000 in
theorem putR_any (w : World) (a : Option Addr) (n c : Nat) (l : List Vn) (hr : RdV w a n c l) (hn : n ≤ 1000) : Calls Tryd.prog 21 #[.slice a n c] w (PutVPost w l) := by
  have IS := Lib.hid (isR_any w a n c l hr hn)
  cases hi : isB l with
  | false =>
    rw [hi] at IS
    go_enter Tryd.func21, Tryd.ntmps21
    go_wp2_with fail
    refine IS.out.mono ?_
    rintro e w1 ⟨rfl, hB1⟩
    go_wp2_with fail
    go_ret2
    exact .inr ⟨hi, rfl, hB1⟩
  | true =>
    rw [hi] at IS
    have h16 := isB_len hi
    rw [hr.len] at h16
    have BY := Lib.hid (fun (W : World) (h : RdV W a n c l) => bytesR_any W a n c l h h16 (isB_puts hi))
    go_enter Tryd.func21, Tryd.ntmps21
    go_wp2_with fail
    refine IS.out.mono ?_
    rintro e w1 ⟨rfl, hB1⟩
    go_wp2_with fail
    refine (BY.out _ (hr.below hB1)).mono ?_
    rintro e w2 ⟨a2, m2, c2, rfl, hm2, hO2, hB2⟩
    go_wp2_with fail
    go_ret2
    exact .inl ⟨hi, a2, m2, c2, rfl, hm2, hO2.lower hB1.size, Bt hB1 hB2⟩
theorem putR_yes {w : World} {a : Option Addr} {n c : Nat} {l : List Vn} (hr : RdV w a n c l) (hn : n ≤ 1000) (h : isB l = true) : Calls Tryd.prog 21 #[.slice a n c] w
    fun e w' => ∃ a m c, e = .returned (.tuple #[.slice a m c, .int .i64 0]) ∧ Hid (m = (encV l).length) ∧ Own w' w.heap.size (.slice a m c) (encV l) ∧ Below w.heap.size w w' := by
  refine (putR_any w a n c l hr hn).mono ?_
  rintro e w' (⟨_, h1⟩ | ⟨h1, _⟩)
  · exact h1
  · rw [h] at h1; cases h1
theorem putR_no {w : World} {a : Option Addr} {n c : Nat} {l : List Vn} (hr : RdV w a n c l) (hn : n ≤ 1000) (h : isB l = false) : Calls Tryd.prog 21 #[.slice a n c] w
    fun e w' => e = .returned (.tuple #[.slice none 0 0, .int .i64 50]) ∧ Below w.heap.size w w' := by
  refine (putR_any w a n c l hr hn).mono ?_
  rintro e w' (⟨h1, _⟩ | ⟨_, h1⟩)
  · rw [h] at h1; cases h1
  · exact h1
end Go.Proofs.YtbbckjpgmpfkgaaDoor
