/-
  The walk of layer 1's statement OctetOne.
-/
import Derived.Test.YtpfggokhcekhbaaLaw01C
import Derived.Test.YtpfggokhcekhbaaPure01
import Derived.Deep.QuietTactic
import Derived.BigQuiet
namespace Go.Proofs.Ytpfggokhcekhbaa
open Go.RowKit

theorem quiet_of_eq {P : Program} {f : FuncId} {args : Array Value} {w : World} {n : Nat} {v : Value}
    (h : Calls P f args (w.drewN n) fun e w' => e = .returned v ∧ w.drewN n = w') : Calls P f args (w.drewN n) fun e w'' => e = .returned v ∧ ∃ m, w'' = w.drewN m :=
  h.mono fun _ _ ⟨he, hm⟩ => ⟨he, n, hm.symm⟩

theorem Rd.drewN {w : World} {a n c l} (h : Rd w a n c l) (k : Nat) : Rd (w.drewN k) a n c l := ⟨h.len, h.cap, h.max, h.nil, h.cell⟩
theorem Rdr.drewN {w : World} {r l} (h : Rdr w r l) (k : Nat) : Rdr (w.drewN k) r l := by
  obtain ⟨a, n, c, h1, h2⟩ := h
  exact ⟨a, n, c, h1, h2.drewN k⟩
theorem left_quiet {w : World} {r : Nat} {l : List UInt8} {n y : Nat} (h : Rdr w r (l.drop y)) (hn : l.length = n) (hy : y ≤ n) (k : Nat) :
    Calls Try.prog 25 #[.pointer (some ⟨r, 0, none⟩)] (w.drewN k) fun e w'' => e = .returned (.int .i64 ((n : Int) - y)) ∧ ∃ m, w'' = w.drewN m := by
  refine quiet_of_eq ((left_any _ r _ (h.drewN k)).mono ?_)
  rintro e w' ⟨rfl, rfl⟩
  refine ⟨?_, rfl⟩
  rw [List.length_drop, hn]
  congr 2
  omega

theorem below_drewN' {w w' : World} {B : Nat} (h : Below B w w') (k : Nat) : Below B w (w'.drewN k) := ⟨h.os, h.tape, h.output, h.size, h.block⟩

set_option maxRecDepth 100000 in
set_option maxHeartbeats 4000000 in
theorem walkOctetOne (w : World) (a : Option Addr) (n c : Nat) (l : List UInt8) (hr : Rd w a n c l) :
    Calls Try.prog 7 #[.slice a n c] w (Yes w) := by
  by_cases h1 : 262144 < n
  · go_enter Try.func7, Try.ntmps7
    go_wp2_with fail
    go_ret
    exact Yes.mk (Below.refl _ _)
  have hcap := hr.cap
  have hln := Lib.hid hr.len
  obtain ⟨x, y, z, hxyz⟩ : ∃ x y z, cnt 0 0 l = (x, y, z) := ⟨_, _, _, rfl⟩
  obtain ⟨t, y2, z2, hB⟩ : ∃ t y2 z2, rdB l = (t, y2, z2) := ⟨_, _, _, rfl⟩
  obtain ⟨b1, b2, b3, _, _⟩ := cnt_le l 0 0 (by omega)
  have b4 := rdB_upto l
  rw [hxyz] at b1 b2 b3
  rw [hB] at b4
  simp only at b1 b2 b3 b4
  have hyn : y ≤ n := by have := hr.len; omega
  have hy2n : y2 ≤ n := by have := hr.len; omega
  clear b1 b4
  have HX := Lib.hid hxyz
  have HB := Lib.hid hB
  by_cases hz : z = 0
  · subst hz
    have hback := cnt_back0 l x y hxyz
    have HK := Lib.hid hback
    clear hback hxyz hB
    go_enter Try.func7, Try.ntmps7
    go_wp2_with fail
    refine (new_any w a n c l hr (by omega)).mono ?_
    rintro e w1 ⟨r, rfl, hlr, hR1, hB1⟩
    go_wp2_with fail
    refine (new_any w1 a n c l (hr.below hB1) (by omega)).mono ?_
    rintro e w2 ⟨s, rfl, hls, hS2, hB2⟩
    have hR2 := hR1.below hB2
    have hrs : r < s := by obtain ⟨_, _, _, h, _⟩ := hR1; have := lt_of_block h; omega
    have hB02 := Bt hB1 hB2
    go_wp2_with fail
    refine (count_any w2 r l hR2).mono ?_
    rintro e w3 ⟨rfl, hR3, hg3⟩
    have hS3 := hS2.kept hg3 hR2 (by omega)
    have hB03 := Btouch hB02 hg3 hlr
    rw [HX.out] at hR3 ⊢
    simp only at hR3 ⊢
    go_wp2_with fail
    refine (putCount_ok w3 none 0 0 x [] (Rd.nil0 _) (by omega) (by omega) (by omega)).mono ?_
    rintro e w4 ⟨v4, rfl, hO4, hB4⟩
    rw [Int.toNat_natCast, List.nil_append] at hO4
    obtain ⟨a4, c4, rfl⟩ := hO4.shape
    have hB04 := Bt hB03 hB4
    have hR4 := hR3.below hB4
    have hS4 := hS3.below hB4
    have hk1 := fun k => (hO4.rd.drewN k).conv
    have hk2 := fun k => (((hr.below hB04).take y hyn).drewN k).conv
    rw [HK.out.1] at hk2
    have HQ := Lib.hid (left_quiet hR4 hln.out hyn)
    have hw : IntKind.i64.wrap ((n : Int) - ((n : Int) - (y : Int))) = (y : Int) := by rw [IntWalk.i64_in _ (by omega)]; omega
    have hyc : (y : Int) ≤ c := by omega
    go_wp2_with fail
    go_quiet ((go_at_call 25; exact HQ.out _))
    clear hk1 hk2 hw hyc
    go_wp2_with fail
    refine (bytes_any _ s l (hS4.drewN nq)).mono ?_
    rintro e w5 ⟨rfl, hS5, hg5⟩
    have hB05 := Btouch (below_drewN' hB04 nq) hg5 (Nat.le_trans hB1.size hls)
    rw [HB.out] at hS5 ⊢
    simp only at hS5 ⊢
    by_cases hz2 : z2 = 0
    · subst hz2
      have HK2 := Lib.hid (rdB_back l t y2 HB.out)
      have ht : t.length ≤ 65536 := HK2.out.2.2
      have htl : (str t).size = t.length := by simp [ByteArray.size]
      have hts : (str t).size ≤ 65536 := by omega
      have HT := Lib.hid htl
      clear htl
      go_wp2_with fail
      refine (putBytes_ok w5 none 0 0 (str t) [] (Rd.nil0 _) (by omega) hts).mono ?_
      rintro e w6 ⟨v6, rfl, hO6, hB6⟩
      rw [HT.out, List.nil_append] at hO6
      rw [show encC t.length ++ (str t).data.toList = encC t.length ++ t from by simp, HK2.out.1] at hO6
      obtain ⟨a6, c6, rfl⟩ := hO6.shape
      have hB06 := Bt hB05 hB6
      have hS6 := hS5.below hB6
      have hk1 := fun k => (hO6.rd.drewN k).conv
      have hk2 := fun k => (((hr.below hB06).take y2 hy2n).drewN k).conv
      have HQ2 := Lib.hid (left_quiet hS6 hln.out hy2n)
      have hw2 : IntKind.i64.wrap ((n : Int) - ((n : Int) - (y2 : Int))) = (y2 : Int) := by rw [IntWalk.i64_in _ (by omega)]; omega
      have hyc2 : (y2 : Int) ≤ c := by omega
      have hlt : (l.take y2).length = y2 := by rw [List.length_take, hln.out]; omega
      rw [hlt] at hk1 ⊢
      go_wp2_with fail
      go_quiet ((go_at_call 25; exact HQ2.out _))
      clear hk1 hk2 hlt
      go_wp2_with fail
      refine (puts_any _).mono ?_
      rintro e w7 ⟨rfl, hB7⟩
      go_wp2_with fail
      refine (reads_any w7).mono ?_
      rintro e w8 ⟨rfl, hB8⟩
      go_wp2_with fail
      go_ret
      exact Yes.mk (Bt (below_drewN' hB06 _) (Bt hB7 hB8))
    · have hzz : ((z2 : Int) == 0) = false := by simp; omega
      go_wp2_with fail
      refine (puts_any w5).mono ?_
      rintro e w7 ⟨rfl, hB7⟩
      go_wp2_with fail
      refine (reads_any w7).mono ?_
      rintro e w8 ⟨rfl, hB8⟩
      go_wp2_with fail
      go_ret
      exact Yes.mk (Bt hB05 (Bt hB7 hB8))
  · have hzz : ((z : Int) == 0) = false := by simp; omega
    clear hxyz hB
    go_enter Try.func7, Try.ntmps7
    go_wp2_with fail
    refine (new_any w a n c l hr (by omega)).mono ?_
    rintro e w1 ⟨r, rfl, hlr, hR1, hB1⟩
    go_wp2_with fail
    refine (new_any w1 a n c l (hr.below hB1) (by omega)).mono ?_
    rintro e w2 ⟨s, rfl, hls, hS2, hB2⟩
    have hR2 := hR1.below hB2
    have hrs : r < s := by obtain ⟨_, _, _, h, _⟩ := hR1; have := lt_of_block h; omega
    have hB02 := Bt hB1 hB2
    go_wp2_with fail
    refine (count_any w2 r l hR2).mono ?_
    rintro e w3 ⟨rfl, hR3, hg3⟩
    have hS3 := hS2.kept hg3 hR2 (by omega)
    have hB03 := Btouch hB02 hg3 hlr
    rw [HX.out] at hR3 ⊢
    simp only at hR3 ⊢
    go_wp2_with fail
    refine (bytes_any _ s l hS3).mono ?_
    rintro e w5 ⟨rfl, hS5, hg5⟩
    have hB05 := Btouch hB03 hg5 (Nat.le_trans hB1.size hls)
    rw [HB.out] at hS5 ⊢
    simp only at hS5 ⊢
    by_cases hz2 : z2 = 0
    · subst hz2
      have HK2 := Lib.hid (rdB_back l t y2 HB.out)
      have ht : t.length ≤ 65536 := HK2.out.2.2
      have htl : (str t).size = t.length := by simp [ByteArray.size]
      have hts : (str t).size ≤ 65536 := by omega
      have HT := Lib.hid htl
      clear htl
      go_wp2_with fail
      refine (putBytes_ok w5 none 0 0 (str t) [] (Rd.nil0 _) (by omega) hts).mono ?_
      rintro e w6 ⟨v6, rfl, hO6, hB6⟩
      rw [HT.out, List.nil_append] at hO6
      rw [show encC t.length ++ (str t).data.toList = encC t.length ++ t from by simp, HK2.out.1] at hO6
      obtain ⟨a6, c6, rfl⟩ := hO6.shape
      have hB06 := Bt hB05 hB6
      have hS6 := hS5.below hB6
      have hk1 := fun k => (hO6.rd.drewN k).conv
      have hk2 := fun k => (((hr.below hB06).take y2 hy2n).drewN k).conv
      have HQ2 := Lib.hid (left_quiet hS6 hln.out hy2n)
      have hw2 : IntKind.i64.wrap ((n : Int) - ((n : Int) - (y2 : Int))) = (y2 : Int) := by rw [IntWalk.i64_in _ (by omega)]; omega
      have hyc2 : (y2 : Int) ≤ c := by omega
      have hlt : (l.take y2).length = y2 := by rw [List.length_take, hln.out]; omega
      rw [hlt] at hk1 ⊢
      go_wp2_with fail
      go_quiet ((go_at_call 25; exact HQ2.out _))
      clear hk1 hk2 hlt
      go_wp2_with fail
      refine (puts_any _).mono ?_
      rintro e w7 ⟨rfl, hB7⟩
      go_wp2_with fail
      refine (reads_any w7).mono ?_
      rintro e w8 ⟨rfl, hB8⟩
      go_wp2_with fail
      go_ret
      exact Yes.mk (Bt (below_drewN' hB06 _) (Bt hB7 hB8))
    · have hzz : ((z2 : Int) == 0) = false := by simp; omega
      go_wp2_with fail
      refine (puts_any w5).mono ?_
      rintro e w7 ⟨rfl, hB7⟩
      go_wp2_with fail
      refine (reads_any w7).mono ?_
      rintro e w8 ⟨rfl, hB8⟩
      go_wp2_with fail
      go_ret
      exact Yes.mk (Bt hB05 (Bt hB7 hB8))
end Go.Proofs.Ytpfggokhcekhbaa
