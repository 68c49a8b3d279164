/-
  The walks of octet.PutCount, PutBytes, PutDigest.
-/
import Derived.Test.YtbbckjpgmpfkgaaDoorOctA
import Derived.Lib.AppendStr
import Derived.Deep.AppendLies
import Derived.Deep.RegionLaw
namespace Go.Proofs.YtbbckjpgmpfkgaaDoor
open Go.RowKit Go.Shelf
set_option maxRecDepth 100000

theorem addCount_any (w : World) (a : Option Addr) (n c : Nat) (m : Int) (base : Nat) (l : List UInt8) (hown : Own w base (.slice a n c) l) (hbase : base ≤ w.heap.size) (h0 : 0 ≤ m) (hm : m ≤ 2147483647) (hn : n ≤ 70368744177664) :
    Calls Tryd.prog 115 #[.slice a n c, .int .i64 m] w fun e w' => ∃ v, e = .returned v ∧ Own w' base v (l ++ encC m.toNat) ∧ Below base w w' := by
  obtain ⟨k, rfl⟩ := Int.eq_ofNat_of_zero_le h0
  exact callsIn_wide.1 ((addCount_in w a n c k base l hown hbase (by omega) hn).more (Nat.le_refl _))

theorem roomy_own (w : World) (a : Option Addr) (n c : Nat) (l : List UInt8) (k : Int) (hr : Rd w a n c l) (hlen : n ≤ 140737488351232) (h0 : 0 ≤ k) (hk : k ≤ 140737488351232) :
    Calls Tryd.prog 87 #[.slice a n c, .int .i64 k] w fun e w' => ∃ a' c', e = .returned (.slice a' n c') ∧ Own w' w.heap.size (.slice a' n c') l ∧ Below w.heap.size w w' := by
  obtain ⟨k, rfl⟩ := Int.eq_ofNat_of_zero_le h0
  refine (roomy_any w a n c l k hr hlen (by omega)).mono ?_
  rintro e w' ⟨c', rfl, _, h, hg⟩
  exact ⟨_, _, rfl, by unfold Own; rw [hr.len]; exact h, (Below.refl _ _).grown hg (Nat.le_refl _) (by simp)⟩

theorem encC_len (n : Nat) (h : n ≤ 2147483647) : (encC n).length ≤ 5 := by
  unfold encC; rw [List.length_map]; exact grp_len n h

/-- what PutCount, PutBytes, PutDigest hand back -/
def PutPost (w : World) (l : List UInt8) (e : Ending) (w' : World) : Prop :=
  ∃ v, e = .returned (.tuple #[v, .int .i64 0]) ∧ Own w' w.heap.size v l ∧ Below w.heap.size w w'

set_option maxHeartbeats 400000 in
theorem putCount_ok (w : World) (a : Option Addr) (n c : Nat) (m : Int) (l : List UInt8) (hr : Rd w a n c l) (hn : n ≤ 1099511627776) (h0 : 0 ≤ m) (hm : m ≤ 2147483647) :
    Calls Tryd.prog 114 #[.slice a n c, .int .i64 m] w (PutPost w (l ++ encC m.toNat)) := by
  go_enter Tryd.func114, Tryd.ntmps114
  go_wp2_with fail
  refine (roomy_own w a n c l 5 hr (by omega) (by omega) (by omega)).mono ?_
  rintro e w1 ⟨a1, c1, rfl, hO1, hB1⟩
  go_wp2_with fail
  refine (addCount_any w1 a1 n c1 m w.heap.size l hO1 hB1.size h0 hm (by omega)).mono ?_
  rintro e w2 ⟨v, rfl, hO2, hB2⟩
  go_wp2
  go_ret2
  exact ⟨v, rfl, hO2, hB1.trans hB2⟩

set_option maxHeartbeats 400000 in
theorem putCount_no (w : World) (a : Option Addr) (n c : Nat) (m : Int) (hm : m < 0 ∨ 2147483647 < m) :
    Calls Tryd.prog 114 #[.slice a n c, .int .i64 m] w fun e w' => e = .returned (.tuple #[.slice none 0 0, .int .i64 1]) ∧ w = w' := by
  rcases hm with hm | hm
  · go_enter Tryd.func114, Tryd.ntmps114
    go_wp2
    go_ret2
    exact ⟨rfl, rfl⟩
  · have h0 : ¬ m < 0 := by omega
    go_enter Tryd.func114, Tryd.ntmps114
    go_wp2
    go_ret2
    exact ⟨rfl, rfl⟩

set_option maxHeartbeats 400000 in
theorem putBytes_no (w : World) (a : Option Addr) (n c : Nat) (s : ByteArray) (hs : 65536 < s.size) :
    Calls Tryd.prog 82 #[.slice a n c, .string s] w fun e w' => e = .returned (.tuple #[.slice none 0 0, .int .i64 2]) ∧ w = w' := by
  go_enter Tryd.func82, Tryd.ntmps82
  go_wp2
  go_ret2
  exact ⟨rfl, rfl⟩

set_option maxHeartbeats 400000 in
theorem putBytes_ok (w : World) (a : Option Addr) (n c : Nat) (s : ByteArray) (l : List UInt8) (hr : Rd w a n c l) (hn : n ≤ 1099511627776) (hs : s.size ≤ 65536) :
    Calls Tryd.prog 82 #[.slice a n c, .string s] w (PutPost w (l ++ encC s.size ++ s.data.toList)) := by
  obtain ⟨i, hi, hz0, hz1, hz2⟩ := info_parts info5
  go_enter Tryd.func82, Tryd.ntmps82
  go_wp2_with fail
  refine (roomy_own w a n c l (5 + s.size) hr (by omega) (by omega) (by omega)).mono ?_
  rintro e w1 ⟨a1, c1, rfl, hO1, hB1⟩
  go_wp2_with fail
  refine (addCount_any w1 a1 n c1 s.size w.heap.size l hO1 hB1.size (by omega) (by omega) (by omega)).mono ?_
  rintro e w2 ⟨v, rfl, hO2, hB2⟩
  obtain ⟨a2, c2, rfl⟩ := hO2.shape
  have hlen := encC_len s.size (by omega)
  have hl := hr.len
  have HL := Lib.hid hl
  clear hl
  have hl2 : (l ++ encC s.size).length ≤ 1099511627776 + 5 := by rw [List.length_append, HL.out]; omega
  rw [Int.toNat_natCast] at hO2 ⊢
  generalize hq : l ++ encC s.size = q at *
  go_wp2_with (at_builtin; refine Lib.wpList_append_own_string _ rfl (.tmp 16) (.tmp 17) 35 9 rfl w.heap.size 5 i Tryd.underlying35 Tryd.underlying9 hi hz0 hz1 hz2 _ q.length (bs q) rfl hO2 s rfl (by unfold maxLen; omega) (by omega) (by have := hB1.size; have := hB2.size; omega) ?_)
  intro v' w3 hown3 hg3 _
  go_wp2
  go_ret2
  refine ⟨v', rfl, ?_, ?_⟩
  · unfold Own
    rw [List.length_append, bs_append]
    exact hown3
  · refine (hB1.trans hB2).grown hg3 (by have := hB1.size; have := hB2.size; omega) (fun k e => (World.ownsRow.lt hO2 k e).1)

end Go.Proofs.YtbbckjpgmpfkgaaDoor
