/-
  The walk of layer 1's statement OctetRows.
-/
import Derived.Test.YtpfggokhcekhbaaLaw01C
import Derived.Test.YtpfggokhcekhbaaPure01
namespace Go.Proofs.Ytpfggokhcekhbaa
open Go.RowKit

def encS (s : ByteArray) : List UInt8 := encC s.size ++ s.data.toList
def encAll (ss : List ByteArray) : List UInt8 := ss.flatMap encS

/-- the first k texts are put -/
structure PutAt (w wr : World) (ss : List ByteArray) (k m : Nat) (v : Value) (q : List UInt8) : Prop where
  own : Own wr w.heap.size v q
  eq : q = encC ss.length ++ encAll (ss.take k)
  len : q.length ≤ 5 + m + 5 * k
  below : Below w.heap.size w wr
  small : ∀ i (h : i < ss.length), i < k → ss[i].size ≤ 65536

theorem PutAt.step {w wr w2 : World} {ss : List ByteArray} {k m : Nat} {v v2 : Value} {q : List UInt8} (h : PutAt w wr ss k m v q) (hk : k < ss.length) (hs : ss[k].size ≤ 65536) (hO : Own w2 wr.heap.size v2 (q ++ encC ss[k].size ++ ss[k].data.toList)) (hB : Below wr.heap.size wr w2) :
    PutAt w w2 ss (k + 1) (m + ss[k].size) v2 (q ++ encC ss[k].size ++ ss[k].data.toList) := by
  have h1 := h.below.size
  refine ⟨hO.lower h1, ?_, ?_, Bt h.below hB, fun i hi hik => ?_⟩
  · unfold encAll
    rw [h.eq, List.take_succ_eq_append_getElem hk, List.flatMap_append, List.flatMap_cons, List.flatMap_nil, List.append_nil]
    unfold encAll encS
    simp only [List.append_assoc]
  · have := h.len
    have := encC_len ss[k].size (by omega)
    have : ss[k].data.toList.length = ss[k].size := rfl
    simp only [List.length_append]
    omega
  · by_cases e : i = k
    · subst e; exact hs
    · exact h.small i hi (by omega)

/-- the reader stands behind the first k texts -/
structure GetAt (w wr : World) (r : Nat) (ss : List ByteArray) (k : Nat) : Prop where
  rdr : Rdr wr r (encAll (ss.drop k))
  below : Below w.heap.size w wr
  lr : w.heap.size ≤ r

theorem GetAt.here {w wr : World} {r : Nat} {ss : List ByteArray} {k : Nat} (h : GetAt w wr r ss k) (hk : k < ss.length) : Rdr wr r (encC ss[k].size ++ ss[k].data.toList ++ encAll (ss.drop (k + 1))) := by
  have := h.rdr
  unfold encAll at this
  rw [List.drop_eq_getElem_cons hk, List.flatMap_cons] at this
  exact this
theorem GetAt.step {w wr w2 : World} {r : Nat} {ss : List ByteArray} {k : Nat} (h : GetAt w wr r ss k) (hR : Rdr w2 r (encAll (ss.drop (k + 1)))) (hg : wr.grownBy w2 (some r)) : GetAt w w2 r ss (k + 1) :=
  ⟨hR, Btouch h.below hg h.lr, h.lr⟩

set_option maxRecDepth 100000 in
set_option maxHeartbeats 4000000 in
theorem walkOctetRows (w : World) (a : Option Addr) (n c : Nat) (ss : List ByteArray) (hr : RdS w a n c ss) :
    Calls Try.prog 9 #[.slice a n c] w (Yes w) := by
  by_cases h1 : 1000 < n
  · go_enter Try.func9, Try.ntmps9
    go_wp2_with fail
    go_ret
    exact Yes.mk (Below.refl _ _)
  have hln := Lib.hid hr.len
  go_enter Try.func9, Try.ntmps9
  go_wp2_with fail
  refine (putCount_ok w none 0 0 n [] (Rd.nil0 _) (by omega) (by omega) (by omega)).mono ?_
  rintro e w1 ⟨v1, rfl, hO1, hB1⟩
  rw [Int.toNat_natCast, List.nil_append] at hO1
  have hP0 : PutAt w w1 ss 0 0 v1 (encC n) := ⟨hO1, by rw [hln.out]; simp [encAll], by have := encC_len n (by omega); omega, hB1, fun i _ h => by omega⟩
  obtain ⟨a1, c1, rfl⟩ := hO1.shape
  clear hO1 hB1
  generalize encC n = q1 at *
  go_wp2_with fail
  go_loopw [3, 4, 5, 6] (fun s v e i wr => ∃ (k m : Nat) (a' : Option Addr) (nn c' : Nat) (q : List UInt8), k ≤ n ∧ m ≤ 262144 ∧ i = .int .i64 k ∧ s = .int .i64 m ∧ e = .int .i64 0 ∧ v = .slice a' nn c' ∧ PutAt w wr ss k m (.slice a' nn c') q) (fun _ _ _ i _ => n - (intOf i).toNat)
  case atStart => exact ⟨0, 0, a1, q1.length, c1, q1, by omega, by omega, rfl, rfl, rfl, rfl, hP0⟩
  case round =>
    obtain ⟨k, m, a', nn, c', q, hk, hm, rfl, rfl, rfl, rfl, hP⟩ := hrel
    by_cases hlt : k < n
    · have hkl : k < ss.length := by rw [hln.out]; exact hlt
      obtain ⟨b2, o2, rfl, hcs⟩ := hr.at (by omega)
      have hask := cell_later hP.below (hcs k hkl)
      clear hcs
      have hqr := hP.own.rd
      have hql := hP.len
      have hqn : Hid (q.length = nn) := Lib.hid hqr.len
      have hst := Lib.hid (fun hs w2 v2 hO hB => PutAt.step (w2 := w2) (v2 := v2) hP hkl hs hO hB)
      generalize ss[k] = t at *
      by_cases hbig : 65536 < t.size ∨ 262144 - m < t.size
      · have hB2 := hP.below
        by_cases hb1 : 65536 < t.size
        · go_wp2_with fail
          refine (puts_any wr).mono ?_
          rintro e w4 ⟨rfl, hB4⟩
          go_wp2_with fail
          refine (reads_any w4).mono ?_
          rintro e w5 ⟨rfl, hB5⟩
          go_wp2_with fail
          go_ret
          exact Yes.mk (Bt hB2 (Bt hB4 hB5))
        · have hb2 : 262144 - m < t.size := by omega
          go_wp2_with fail
          refine (puts_any wr).mono ?_
          rintro e w4 ⟨rfl, hB4⟩
          go_wp2_with fail
          refine (reads_any w4).mono ?_
          rintro e w5 ⟨rfl, hB5⟩
          go_wp2_with fail
          go_ret
          exact Yes.mk (Bt hB2 (Bt hB4 hB5))
      · have hb1 : ¬ 65536 < t.size := by omega
        have hb2 : t.size ≤ 262144 - m := by omega
        clear hbig
        go_wp2_with fail
        refine (putBytes_ok wr a' nn c' t q hqr (by have := hqn.out; omega) (by omega)).mono ?_
        rintro e w2 ⟨v2, rfl, hO2, hB2⟩
        have hP2 := hst.out (by omega) w2 v2 hO2 hB2
        obtain ⟨a2, c2, rfl⟩ := hO2.shape
        have HP2 := Lib.hid hP2
        clear hP2 hO2 hB2
        generalize q ++ encC t.size ++ t.data.toList = q2 at *
        go_wp2_with fail
        go_roundw
        case rel => exact ⟨k + 1, m + t.size, a2, _, c2, q2, by omega, by omega, by go_num, by go_num, rfl, rfl, HP2.out⟩
        case measure => simp [intOf]; omega
    · obtain rfl : k = n := by omega
      have hB2 := hP.below
      have hqr := hP.own.rd
      have hql := hP.len
      have hqn : Hid (q.length = nn) := Lib.hid hqr.len
      have hsm := Lib.hid hP.small
      have heq : Hid (q = encC k ++ encAll ss) := Lib.hid (by have := hP.eq; rw [List.take_of_length_le (by rw [hln.out]; omega), hln.out] at this; exact this)
      go_wp2_with fail
      refine (new_any wr a' nn c' q hqr (by have := hqn.out; omega)).mono ?_
      rintro e w3 ⟨r, rfl, hlr, hR3, hB3⟩
      have hB03 := Bt hB2 hB3
      have hlr0 := Nat.le_trans hB2.size hlr
      rw [heq.out] at hR3
      have hc1 := Lib.hid (cnt_enc0 k (encAll ss) (by omega))
      go_wp2_with fail
      refine (count_any w3 r _ hR3).mono ?_
      rintro e w4 ⟨rfl, hR4, hg4⟩
      rw [hc1.out] at hR4 ⊢
      simp only at hR4 ⊢
      rw [show ((0 : Nat) : Int) = 0 from rfl]
      rw [List.drop_left] at hR4
      have hG0 : GetAt w w4 r ss 0 := ⟨by simpa using hR4, Btouch hB03 hg4 hlr0, hlr0⟩
      clear hR4 hg4 hR3 hB3 hB2 hqr hP
      go_wp2_with fail
      go_loopw [10, 11] (fun i _ wq => ∃ j : Nat, j ≤ k ∧ i = .int .i64 j ∧ GetAt w wq r ss j) (fun i _ _ => k - (intOf i).toNat)
      case atStart => exact ⟨0, by omega, rfl, hG0⟩
      case round =>
        obtain ⟨j, hj, rfl, hG⟩ := hrel
        by_cases hlt2 : j < k
        · have hjl : j < ss.length := by rw [hln.out]; exact hlt2
          obtain ⟨b2, o2, rfl, hcs⟩ := hr.at (by omega)
          have hask0 := cell_later hG.below (hcs j hjl)
          have hR := hG.here hjl
          have hstep := Lib.hid (fun w2 hR hg => GetAt.step (w2 := w2) hG hR hg)
          have hts := hsm.out j hjl hlt2
          have hblk := World.block_lt_of_cell? _ _ (hcs j hjl)
          clear hcs
          generalize ss[j] = t at *
          generalize encAll (ss.drop (j + 1)) = rest at *
          have htd : t.data.toList.length = t.size := rfl
          have hB := rdB_enc t.data.toList rest (by rw [htd]; exact hts)
          rw [htd] at hB
          have HB := Lib.hid hB
          have hdr : (encC t.size ++ t.data.toList ++ rest).drop ((encC t.size).length + t.size) = rest := by
            rw [← htd, ← List.length_append, List.drop_left]
          have HD := Lib.hid hdr
          clear hB htd hdr
          go_wp2_with fail
          refine (bytes_any _ r _ hR).mono ?_
          rintro e w6 ⟨rfl, hR6, hg6⟩
          rw [HB.out] at hR6 ⊢
          simp only at hR6 ⊢
          rw [HD.out] at hR6
          have hG6 := Lib.hid (hstep.out w6 hR6 hg6)
          have hask := hg6.cell hask0 (by have := hG.lr; simp; omega)
          have hst : t.data.toList = t.toList := (ByteArray.toList_eq t).symm
          clear hstep hR6 hG hask0 hR
          go_wp2_with fail
          go_roundw
          case rel => exact ⟨j + 1, by omega, by go_num, hG6.out⟩
          case measure => simp [intOf]; omega
        · obtain rfl : j = k := by omega
          have hR0 := hG.rdr
          rw [List.drop_eq_nil_of_le (by rw [hln.out]; omega)] at hR0
          have hBq := hG.below
          go_wp2_with fail
          refine (puts_any _).mono ?_
          rintro e w7 ⟨rfl, hB7⟩
          go_wp2_with fail
          refine (reads_any w7).mono ?_
          rintro e w8 ⟨rfl, hB8⟩
          have hR8 := (hR0.below hB7).below hB8
          go_wp2_with fail
          refine (left_any w8 r _ hR8).mono ?_
          rintro e w' ⟨rfl, rfl⟩
          go_wp2_with fail
          go_ret
          exact Yes.mk (Bt hBq (Bt hB7 hB8))
end Go.Proofs.Ytpfggokhcekhbaa
