/-
  The walks of layer 1's statements: puts, put.
-/
import Derived.Test.YtpfggokhcekhbaaRef01
import Derived.Test.YtpfggokhcekhbaaKeepA
namespace Go.Proofs.Ytpfggokhcekhbaa
open Go.RowKit

set_option maxRecDepth 100000 in
set_option maxHeartbeats 1000000 in
theorem put_ok (w : World) (ga : Option Addr) (gn gc base g n c : Nat) (ba : Option Addr) (bc : Nat) (ma : Option Addr) (mn mc : Nat) (l m : List UInt8)
    (hG : Rd w ga gn gc (l ++ m)) (hL : LentAt w base g n c l) (hb : Rd w ba n bc l) (hm : Rd w ma mn mc m) (hn : n ≤ 70368744177664) :
    Calls Try.prog 14 #[.slice ga gn gc, .int .i64 0, .slice (some ⟨g, 0, none⟩) n c, .slice ba n bc, .slice ma mn mc, .int .i64 0] w fun e w' => e = .returned (.bool true) ∧ w = w' := by
  have c1 := hb.conv
  have c2 := hm.conv
  have c3 := hG.conv
  have hcat : str l ++ str m = str (l ++ m) := by ext1; simp [str]
  have hlen : l.length + m.length ≤ 9223372036854775807 := by
    have h1 := hG.len; have h2 := hG.cap; have h3 := hG.max
    rw [List.length_append] at h1
    unfold maxLen at h3
    omega
  go_enter Try.func14, Try.ntmps14
  go_wp2_with (go_at_call 27; refine (kept_any _ base g n c ba bc l hL hb hn).mono ?_; rintro e w1 ⟨rfl, rfl⟩)
  go_ret
  exact ⟨rfl, rfl⟩

set_option maxRecDepth 100000 in
set_option maxHeartbeats 1000000 in
theorem put_no (w : World) (k : Int) (hk : (k == 0) = false) (base g n c : Nat) (ba : Option Addr) (bc : Nat) (ma : Option Addr) (mn mc : Nat) (l : List UInt8)
    (hL : LentAt w base g n c l) (hb : Rd w ba n bc l) (hn : n ≤ 70368744177664) :
    Calls Try.prog 14 #[.slice none 0 0, .int .i64 k, .slice (some ⟨g, 0, none⟩) n c, .slice ba n bc, .slice ma mn mc, .int .i64 k] w fun e w' => e = .returned (.bool true) ∧ w = w' := by
  have c3 := (Rd.nil0 w).conv
  go_enter Try.func14, Try.ntmps14
  go_wp2_with (go_at_call 27; refine (kept_any _ base g n c ba bc l hL hb hn).mono ?_; rintro e w1 ⟨rfl, rfl⟩)
  go_ret
  exact ⟨rfl, rfl⟩

set_option maxRecDepth 100000 in
set_option maxHeartbeats 1000000 in
theorem puts_any (w : World) :
    Calls Try.prog 13 #[] w fun e w' => e = .returned (.bool true) ∧ Below w.heap.size w w' := by
  have e300 : encC 300 = [172, 2] := by rw [encC_ge (by decide), encC_lt (by decide)]; rfl
  have e2 : encC 2 = [2] := by rw [encC_lt (by decide)]; rfl
  have E300 := Lib.hid e300
  have E2 := Lib.hid e2
  clear e300 e2
  go_enter Try.func13, Try.ntmps13
  go_wp2_with fail
  refine (putCount_ok w none 0 0 300 [] (Rd.nil0 w) (by omega) (by omega) (by omega)).mono ?_
  rintro e w1 ⟨v1, rfl, hO1, hB1⟩
  rw [show (300 : Int).toNat = 300 from rfl, E300.out] at hO1
  obtain ⟨a1, c1, rfl⟩ := hO1.shape
  go_wp2_with fail
  refine (putBytes_ok w1 none 0 0 ⟨#[97, 98]⟩ [] (Rd.nil0 w1) (by omega) (by decide)).mono ?_
  rintro e w2 ⟨v2, rfl, hO2, hB2⟩
  rw [show ([] ++ encC (ByteArray.mk #[97, 98]).size ++ (ByteArray.mk #[97, 98]).data.toList) = [2, 97, 98] from by rw [show (ByteArray.mk #[97, 98]).size = 2 from rfl, E2.out]; rfl] at hO2
  obtain ⟨a2, c2, rfl⟩ := hO2.shape
  go_wp2_with fail
  refine (putDigest_ok w2 none 0 0 (1 :: List.replicate 31 0) (by decide) [] (Rd.nil0 w2) (by omega)).mono ?_
  rintro e w3 ⟨v3, rfl, hO3, hB3⟩
  obtain ⟨a3, c3, rfl⟩ := hO3.shape
  have k1 : (convert 22 9 (.slice a1 2 c1)).run Try.prog w3 = .ok (.string ⟨#[172, 2]⟩) w3 := ((hO1.below hB2).below hB3).rd.conv
  have k2 : (convert 22 9 (.slice a2 3 c2)).run Try.prog w3 = .ok (.string ⟨#[2, 97, 98]⟩) w3 := (hO2.below hB3).rd.conv
  obtain ⟨b3, o3, ha3, _, hc3⟩ := hO3.rd.at (by decide)
  subst ha3
  have k3 : w3.cell? ⟨b3, o3, none⟩ = some (.int .u8 1) := hc3 0 (by decide)
  have hB := (hB1.trans (hB2.mono hB1.size)).trans (hB3.mono (Nat.le_trans hB1.size hB2.size))
  clear hc3
  go_wp2_with fail
  refine (putCount_no w3 none 0 0 (-1) (by omega)).mono ?_
  rintro e w4 ⟨rfl, rfl⟩
  go_wp2
  go_ret
  exact ⟨rfl, hB⟩
end Go.Proofs.Ytpfggokhcekhbaa
