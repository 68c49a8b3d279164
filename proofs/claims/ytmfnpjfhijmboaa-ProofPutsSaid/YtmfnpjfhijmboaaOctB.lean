/-
  The walks of octet.PutCount, PutBytes, PutDigest.
-/
import Derived.Test.YtmfnpjfhijmboaaOctA
import Derived.Lib.AppendStr
import Derived.Deep.AppendLies
import Derived.Deep.RegionLaw
namespace Go.Proofs.Ytmfnpjfhijmboaa
open Go.RowKit Go.Shelf

theorem addCount_any (w : World) (a : Option Addr) (n c : Nat) (m : Int) (base : Nat) (l : List UInt8) (hown : Own w base (.slice a n c) l) (hbase : base ≤ w.heap.size) (h0 : 0 ≤ m) (hm : m ≤ 2147483647) (hn : n ≤ 70368744177664) :
    Calls Try.prog 23 #[.slice a n c, .int .i64 m] w fun e w' => ∃ v, e = .returned v ∧ Own w' base v (l ++ encC m.toNat) ∧ Below base w w' := by
  obtain ⟨k, rfl⟩ := Int.eq_ofNat_of_zero_le h0
  exact callsIn_wide.1 ((addCount_in w a n c k base l hown hbase (by omega) hn).more (Nat.le_refl _))

theorem roomy_own (w : World) (a : Option Addr) (n c : Nat) (l : List UInt8) (k : Int) (hr : Rd w a n c l) (hlen : n ≤ 140737488351232) (h0 : 0 ≤ k) (hk : k ≤ 140737488351232) :
    Calls Try.prog 24 #[.slice a n c, .int .i64 k] w fun e w' => ∃ a' c', e = .returned (.slice a' n c') ∧ Own w' w.heap.size (.slice a' n c') l ∧ Below w.heap.size w w' := by
  obtain ⟨k, rfl⟩ := Int.eq_ofNat_of_zero_le h0
  refine (roomy_any w a n c l k hr hlen (by omega)).mono ?_
  rintro e w' ⟨c', rfl, _, h, hg⟩
  exact ⟨_, _, rfl, by unfold Own; rw [hr.len]; exact h, (Below.refl _ _).grown hg (Nat.le_refl _) (by simp)⟩

theorem encC_len (n : Nat) (h : n ≤ 2147483647) : (encC n).length ≤ 5 := by
  unfold encC; rw [List.length_map]; exact grp_len n h

/-- what PutCount, PutBytes, PutDigest hand back -/
def PutPost (w : World) (l : List UInt8) (e : Ending) (w' : World) : Prop :=
  ∃ v, e = .returned (.tuple #[v, .int .i64 0]) ∧ Own w' w.heap.size v l ∧ Below w.heap.size w w'

set_option maxHeartbeats 400000 in
theorem putCount_ok (w : World) (a : Option Addr) (n c : Nat) (m : Int) (l : List UInt8) (hr : Rd w a n c l) (hn : n ≤ 1099511627776) (h0 : 0 ≤ m) (hm : m ≤ 2147483647) :
    Calls Try.prog 14 #[.slice a n c, .int .i64 m] w (PutPost w (l ++ encC m.toNat)) := by
  go_enter Try.func14, Try.ntmps14
  go_wp2_with fail
  refine (roomy_own w a n c l 5 hr (by omega) (by omega) (by omega)).mono ?_
  rintro e w1 ⟨a1, c1, rfl, hO1, hB1⟩
  go_wp2_with fail
  refine (addCount_any w1 a1 n c1 m w.heap.size l hO1 hB1.size h0 hm (by omega)).mono ?_
  rintro e w2 ⟨v, rfl, hO2, hB2⟩
  go_wp2
  go_ret2
  exact ⟨v, rfl, hO2, hB1.trans hB2⟩

set_option maxHeartbeats 400000 in
theorem putCount_no (w : World) (a : Option Addr) (n c : Nat) (m : Int) (hm : m < 0 ∨ 2147483647 < m) :
    Calls Try.prog 14 #[.slice a n c, .int .i64 m] w fun e w' => e = .returned (.tuple #[.slice none 0 0, .int .i64 1]) ∧ w = w' := by
  rcases hm with hm | hm
  · go_enter Try.func14, Try.ntmps14
    go_wp2
    go_ret2
    exact ⟨rfl, rfl⟩
  · have h0 : ¬ m < 0 := by omega
    go_enter Try.func14, Try.ntmps14
    go_wp2
    go_ret2
    exact ⟨rfl, rfl⟩

end Go.Proofs.Ytmfnpjfhijmboaa
