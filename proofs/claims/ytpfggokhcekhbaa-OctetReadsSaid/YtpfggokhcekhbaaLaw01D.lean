/-
  The walk of layer 1's statement OctetReads.
-/
import Derived.Test.YtpfggokhcekhbaaLaw01C
import Derived.OpenShut
namespace Go.Proofs.Ytpfggokhcekhbaa
open Go.RowKit

theorem RdI.at {w : World} {a : Option Addr} {n c : Nat} {zs : List Int} (h : RdI w a n c zs) (hn : 0 < n) : ∃ b off, a = some ⟨b, off, none⟩ ∧ ∀ i (hi : i < zs.length), w.cell? ⟨b, off + i, none⟩ = some (.int .i64 zs[i]) := by
  cases a with
  | none => have := h.nil rfl; omega
  | some ad =>
    have hl := h.len
    obtain ⟨b, off, sp⟩ := ad
    have h0 := h.cell _ rfl 0 (by omega)
    obtain rfl : sp = none := by simpa [Addr.add] using World.cell?_spot h0
    exact ⟨b, off, rfl, fun i hi => by rw [← Addr.add_lit]; exact h.cell _ rfl i hi⟩

/-- between two rounds: the reader stands behind m bytes -/
structure RS (w : World) (r base g n c1 : Nat) (l : List UInt8) (wr : World) (m : Nat) : Prop where
  rdr : Rdr wr r (l.drop m)
  lent : LentAt wr base g n c1 l
  below : Below w.heap.size w wr
  le : m ≤ n
  lr : w.heap.size ≤ r

theorem LentAt.kept {w w' : World} {r base g n c : Nat} {l l' : List UInt8} (h : LentAt w base g n c l) (hg : w.grownBy w' (some r)) (hr : Rdr w r l') : LentAt w' base g n c l := ⟨h.1, Rdr.own h.2 hg hr⟩

theorem RS.step {w wr w2 : World} {r base g n c1 : Nat} {l : List UInt8} {m y : Nat} (h : RS w r base g n c1 l wr m) (hg : wr.grownBy w2 (some r)) (hr : Rdr w2 r ((l.drop m).drop y)) (hy : m + y ≤ n) : RS w r base g n c1 l w2 (m + y) :=
  ⟨by rw [List.drop_drop] at hr; exact hr, h.lent.kept hg h.rdr, Btouch h.below hg h.lr, hy, h.lr⟩
theorem RS.on {w wr w2 : World} {r base g n c1 : Nat} {l : List UInt8} {m : Nat} (h : RS w r base g n c1 l wr m) (hb : Below wr.heap.size wr w2) : RS w r base g n c1 l w2 m :=
  ⟨h.rdr.below hb, h.lent.below hb, Bt h.below hb, h.le, h.lr⟩
theorem RS.left {w wr : World} {r base g n c1 : Nat} {l : List UInt8} {m : Nat} (h : RS w r base g n c1 l wr m) : (((l.drop m).length : Nat) : Int) = (n : Int) - m := by
  have := h.lent.1
  have := h.le
  rw [List.length_drop]; omega

theorem rdB_le (l : List UInt8) : (rdB l).2.1 ≤ l.length := by
  unfold rdB
  split
  · simp
  · split
    · simp
    · split
      · simp
      · simp only; omega
theorem rdD_le (l : List UInt8) : (rdD l).2.1 ≤ l.length := by
  unfold rdD; split
  · simp
  · simp only; omega
theorem rdD_len (l : List UInt8) : (rdD l).1.length = 32 := by
  unfold rdD; split
  · exact zero32_length
  · simp; omega

set_option maxRecDepth 100000 in
set_option maxHeartbeats 8000000 in
theorem walkOctetReads (w : World) (a : Option Addr) (n c : Nat) (l : List UInt8) (hr : Rd w a n c l) (a2 : Option Addr) (n2 c2 : Nat) (zs : List Int) (hz : RdI w a2 n2 c2 zs) :
    Calls Try.prog 5 #[.slice a n c, .slice a2 n2 c2] w (Yes w) := by
  by_cases h1 : 262144 < n
  · go_enter Try.func5, Try.ntmps5
    go_wp2_with fail
    go_ret
    exact Yes.mk (Below.refl _ _)
  by_cases h2 : 100 < n2
  · go_enter Try.func5, Try.ntmps5
    go_wp2_with fail
    go_ret
    exact Yes.mk (Below.refl _ _)
  go_enter Try.func5, Try.ntmps5
  go_wp2_with fail
  refine (lent_any w a n c l hr (by omega)).mono ?_
  rintro e w1 ⟨g, c1, rfl, hL1, hB1⟩
  go_wp2_with fail
  refine (new_any w1 _ n c1 l hL1.rd (by omega)).mono ?_
  rintro e w2 ⟨r, rfl, hlr, hR2, hB2⟩
  have hS0 : RS w r w.heap.size g n c1 l w2 0 := ⟨by simpa using hR2, hL1.below hB2, Bt hB1 hB2, Nat.zero_le _, Nat.le_trans hB1.size hlr⟩
  clear hL1 hB1 hlr hR2 hB2
  go_wp2_with fail
  go_loopw [7, 8] (fun at_ i wr => ∃ m k : Nat, k ≤ n2 ∧ i = .int .i64 k ∧ at_ = .int .i64 m ∧ RS w r w.heap.size g n c1 l wr m) (fun _ i _ => n2 - (intOf i).toNat)
  case atStart => exact ⟨0, 0, Nat.zero_le _, rfl, rfl, hS0⟩
  case round =>
    obtain ⟨m, k, hk, rfl, rfl, hS⟩ := hrel
    have hmn := hS.le
    have hcap := hr.cap
    have hlr := hS.lr
    have hln := hS.lent.1
    have hL := Lib.hid hln
    have hdl : (l.drop m).length = n - m := by rw [List.length_drop, hln]
    clear hln
    by_cases hlt : k < n2
    · have hzl := hz.len
      obtain ⟨b2, o2, rfl, hzc⟩ := hz.at (by omega)
      have hzw : -9223372036854775808 ≤ zs[k] ∧ zs[k] ≤ 9223372036854775807 := by
        have := bounds_i64 (hz.wf zs[k] (List.getElem_mem (by omega)))
        omega
      have hask := cell_later hS.below (hzc k (by omega))
      clear hzc
      generalize zs[k] = q at *
      clear hzl
      by_cases hcm : c = m
      · subst hcm
        obtain rfl : n = c := by omega
        have hR : Rd w a 0 0 (l.drop n) := by
          rw [show l.drop n = [] from List.eq_nil_of_length_eq_zero (by omega)]; exact Rd.empty w hr
        by_cases hq0 : q = 0
        · subst hq0
          go_wp2_with fail
          refine (count_any wr r _ hS.rdr).mono ?_
          rintro e w3 ⟨rfl, hR3, hg3⟩
          obtain ⟨x, y, z, hxyz⟩ : ∃ x y z, cnt 0 0 (l.drop n) = (x, y, z) := ⟨_, _, _, rfl⟩
          rw [hxyz] at hR3 ⊢
          have hyl : y ≤ n - n := by have := (cnt_le (l.drop n) 0 0 (by omega)).1; rw [hxyz] at this; simp only at this; omega
          have HX := Lib.hid hxyz
          clear hxyz
          have hS3 := hS.step hg3 hR3 (show n + y ≤ n by omega)
          have hR3' := hR.below hS3.below
          clear hR3 hg3
          go_wp2_with fail
          refine (readCount_any w3 _ _ _ _ hR3').mono ?_
          rintro e w' ⟨rfl, rfl⟩
          rw [HX.out]
          go_wp2_with fail
          refine (left_any w3 r _ hS3.rdr).mono ?_
          rintro e w' ⟨rfl, rfl⟩
          rw [hS3.left]
          have HS3 := Lib.hid hS3
          clear hS3 hR3'
          go_wp2_with fail
          go_roundw
          case rel => exact ⟨n + y, k + 1, by omega, by go_num, by go_num, HS3.out⟩
          case measure => simp [intOf]; omega
        · by_cases hq1 : q = 1
          · subst hq1
            go_wp2_with fail
            refine (bytes_any wr r _ hS.rdr).mono ?_
            rintro e w3 ⟨rfl, hR3, hg3⟩
            obtain ⟨x, y, z, hxyz⟩ : ∃ x y z, rdB (l.drop n) = (x, y, z) := ⟨_, _, _, rfl⟩
            rw [hxyz] at hR3 ⊢
            have hyl : y ≤ n - n := by have := rdB_le (l.drop n); rw [hxyz] at this; simp only at this; omega
            have HX := Lib.hid hxyz
            clear hxyz
            have hS3 := hS.step hg3 hR3 (show n + y ≤ n by omega)
            have hR3' := hR.below hS3.below
            clear hR3 hg3
            go_wp2_with fail
            refine (readBytes_any w3 _ _ _ _ hR3').mono ?_
            rintro e w' ⟨rfl, rfl⟩
            rw [HX.out]
            go_wp2_with fail
            refine (left_any w3 r _ hS3.rdr).mono ?_
            rintro e w' ⟨rfl, rfl⟩
            rw [hS3.left]
            have HS3 := Lib.hid hS3
            clear hS3 hR3'
            go_wp2_with fail
            go_roundw
            case rel => exact ⟨n + y, k + 1, by omega, by go_num, by go_num, HS3.out⟩
            case measure => simp [intOf]; omega
          · by_cases hq2 : q = 2
            · subst hq2
              go_wp2_with fail
              refine (digest_any wr r _ hS.rdr).mono ?_
              rintro e w3 ⟨rfl, hR3, hg3⟩
              obtain ⟨x, y, z, hxyz⟩ : ∃ x y z, rdD (l.drop n) = (x, y, z) := ⟨_, _, _, rfl⟩
              have hx32 := rdD_len (l.drop n)
              rw [hxyz] at hR3 hx32 ⊢
              have hyl : y ≤ n - n := by have := rdD_le (l.drop n); rw [hxyz] at this; simp only at this; omega
              have HX := Lib.hid hxyz
              clear hxyz
              have HX32 := Lib.hid hx32
              clear hx32
              have hS3 := hS.step hg3 hR3 (show n + y ≤ n by omega)
              clear hR3 hg3
              go_wp2_with (first
                | (refine wpList_allocD (o := ⟨some 20, _, _, _, _, _⟩) rfl rfl ?_; intro w4 hd4 hg4 hs4)
                | (refine wpList_storeD rfl (.tmp 20) (.tmp 102) rfl rfl rfl hd4 HX32.out zero32_length ?_; intro w5 hd5 hg5 hs5))
              have hb35 : Below w3.heap.size w3 w5 := ((Below.refl _ _).grown hg4 (Nat.le_refl _) (by simp)).grown hg5 (by omega) (fun k e => by cases e; exact Nat.le_refl _)
              have hS5 := hS3.on hb35
              refine (readDigest_any w5 _ _ _ _ (hR.below hS5.below)).mono ?_
              rintro e w6 ⟨rfl, hb6⟩
              rw [HX.out]
              have hd6 := (hb6.block _ (lt_of_block hd5)).trans hd5
              go_wp2_with (first
                | (refine wpList_allocD (o := ⟨some 22, _, _, _, _, _⟩) rfl rfl ?_; intro w7 hd7 hg7 hs7; have hd67 := (hg7.block _ (lt_of_block hd6) (by simp)).trans hd6)
                | (refine wpList_storeD rfl (.tmp 22) (.tmp 109) rfl rfl rfl hd7 HX32.out zero32_length ?_; intro w8 hd8 hg8 hs8; have hd68 := (hg8.block _ (lt_of_block hd67) (by have := lt_of_block hd6; simp; omega)).trans hd67; have hneq := eqInD w8 x x HX32.out HX32.out)
                | (refine wpList_digest rfl (.tmp 20) rfl rfl HX32.out hd68 ?_)
                | (refine wpList_digest rfl (.tmp 22) rfl rfl HX32.out hd8 ?_))
              have hb68 : Below w6.heap.size w6 w8 := ((Below.refl _ _).grown hg7 (Nat.le_refl _) (by simp)).grown hg8 (by omega) (fun k e => by cases e; exact Nat.le_refl _)
              have hS8 := (hS5.on hb6).on hb68
              refine (left_any w8 r _ hS8.rdr).mono ?_
              rintro e w' ⟨rfl, rfl⟩
              rw [hS8.left]
              have HS8 := Lib.hid hS8
              clear hneq hS3 hS5 hS8
              go_wp2_with fail
              go_roundw
              case rel => exact ⟨n + y, k + 1, by omega, by go_num, by go_num, HS8.out⟩
              case measure => simp [intOf]; omega
            · have hb0 : (q == 0) = false := by simpa using hq0
              have hb1 : (q == 1) = false := by simpa using hq1
              have hb2 : (q == 2) = false := by simpa using hq2
              go_wp2_with fail
              refine (left_any wr r _ hS.rdr).mono ?_
              rintro e w' ⟨rfl, rfl⟩
              rw [hS.left]
              have HS := Lib.hid hS
              clear hS
              go_wp2_with fail
              go_roundw
              case rel => exact ⟨n, k + 1, by omega, by go_num, by go_num, HS.out⟩
              case measure => simp [intOf]; omega
      · have hR := hr.tail m hmn hcm
        by_cases hq0 : q = 0
        · subst hq0
          go_wp2_with fail
          refine (count_any wr r _ hS.rdr).mono ?_
          rintro e w3 ⟨rfl, hR3, hg3⟩
          obtain ⟨x, y, z, hxyz⟩ : ∃ x y z, cnt 0 0 (l.drop m) = (x, y, z) := ⟨_, _, _, rfl⟩
          rw [hxyz] at hR3 ⊢
          have hyl : y ≤ n - m := by have := (cnt_le (l.drop m) 0 0 (by omega)).1; rw [hxyz] at this; simp only at this; omega
          have HX := Lib.hid hxyz
          clear hxyz
          have hS3 := hS.step hg3 hR3 (show m + y ≤ n by omega)
          have hR3' := hR.below hS3.below
          clear hR3 hg3
          go_wp2_with fail
          refine (readCount_any w3 _ _ _ _ hR3').mono ?_
          rintro e w' ⟨rfl, rfl⟩
          rw [HX.out]
          go_wp2_with fail
          refine (left_any w3 r _ hS3.rdr).mono ?_
          rintro e w' ⟨rfl, rfl⟩
          rw [hS3.left]
          have HS3 := Lib.hid hS3
          clear hS3 hR3'
          go_wp2_with fail
          go_roundw
          case rel => exact ⟨m + y, k + 1, by omega, by go_num, by go_num, HS3.out⟩
          case measure => simp [intOf]; omega
        · by_cases hq1 : q = 1
          · subst hq1
            go_wp2_with fail
            refine (bytes_any wr r _ hS.rdr).mono ?_
            rintro e w3 ⟨rfl, hR3, hg3⟩
            obtain ⟨x, y, z, hxyz⟩ : ∃ x y z, rdB (l.drop m) = (x, y, z) := ⟨_, _, _, rfl⟩
            rw [hxyz] at hR3 ⊢
            have hyl : y ≤ n - m := by have := rdB_le (l.drop m); rw [hxyz] at this; simp only at this; omega
            have HX := Lib.hid hxyz
            clear hxyz
            have hS3 := hS.step hg3 hR3 (show m + y ≤ n by omega)
            have hR3' := hR.below hS3.below
            clear hR3 hg3
            go_wp2_with fail
            refine (readBytes_any w3 _ _ _ _ hR3').mono ?_
            rintro e w' ⟨rfl, rfl⟩
            rw [HX.out]
            go_wp2_with fail
            refine (left_any w3 r _ hS3.rdr).mono ?_
            rintro e w' ⟨rfl, rfl⟩
            rw [hS3.left]
            have HS3 := Lib.hid hS3
            clear hS3 hR3'
            go_wp2_with fail
            go_roundw
            case rel => exact ⟨m + y, k + 1, by omega, by go_num, by go_num, HS3.out⟩
            case measure => simp [intOf]; omega
          · by_cases hq2 : q = 2
            · subst hq2
              go_wp2_with fail
              refine (digest_any wr r _ hS.rdr).mono ?_
              rintro e w3 ⟨rfl, hR3, hg3⟩
              obtain ⟨x, y, z, hxyz⟩ : ∃ x y z, rdD (l.drop m) = (x, y, z) := ⟨_, _, _, rfl⟩
              have hx32 := rdD_len (l.drop m)
              rw [hxyz] at hR3 hx32 ⊢
              have hyl : y ≤ n - m := by have := rdD_le (l.drop m); rw [hxyz] at this; simp only at this; omega
              have HX := Lib.hid hxyz
              clear hxyz
              have HX32 := Lib.hid hx32
              clear hx32
              have hS3 := hS.step hg3 hR3 (show m + y ≤ n by omega)
              clear hR3 hg3
              go_wp2_with (first
                | (refine wpList_allocD (o := ⟨some 20, _, _, _, _, _⟩) rfl rfl ?_; intro w4 hd4 hg4 hs4)
                | (refine wpList_storeD rfl (.tmp 20) (.tmp 102) rfl rfl rfl hd4 HX32.out zero32_length ?_; intro w5 hd5 hg5 hs5))
              have hb35 : Below w3.heap.size w3 w5 := ((Below.refl _ _).grown hg4 (Nat.le_refl _) (by simp)).grown hg5 (by omega) (fun k e => by cases e; exact Nat.le_refl _)
              have hS5 := hS3.on hb35
              refine (readDigest_any w5 _ _ _ _ (hR.below hS5.below)).mono ?_
              rintro e w6 ⟨rfl, hb6⟩
              rw [HX.out]
              have hd6 := (hb6.block _ (lt_of_block hd5)).trans hd5
              go_wp2_with (first
                | (refine wpList_allocD (o := ⟨some 22, _, _, _, _, _⟩) rfl rfl ?_; intro w7 hd7 hg7 hs7; have hd67 := (hg7.block _ (lt_of_block hd6) (by simp)).trans hd6)
                | (refine wpList_storeD rfl (.tmp 22) (.tmp 109) rfl rfl rfl hd7 HX32.out zero32_length ?_; intro w8 hd8 hg8 hs8; have hd68 := (hg8.block _ (lt_of_block hd67) (by have := lt_of_block hd6; simp; omega)).trans hd67; have hneq := eqInD w8 x x HX32.out HX32.out)
                | (refine wpList_digest rfl (.tmp 20) rfl rfl HX32.out hd68 ?_)
                | (refine wpList_digest rfl (.tmp 22) rfl rfl HX32.out hd8 ?_))
              have hb68 : Below w6.heap.size w6 w8 := ((Below.refl _ _).grown hg7 (Nat.le_refl _) (by simp)).grown hg8 (by omega) (fun k e => by cases e; exact Nat.le_refl _)
              have hS8 := (hS5.on hb6).on hb68
              refine (left_any w8 r _ hS8.rdr).mono ?_
              rintro e w' ⟨rfl, rfl⟩
              rw [hS8.left]
              have HS8 := Lib.hid hS8
              clear hneq hS3 hS5 hS8
              go_wp2_with fail
              go_roundw
              case rel => exact ⟨m + y, k + 1, by omega, by go_num, by go_num, HS8.out⟩
              case measure => simp [intOf]; omega
            · have hb0 : (q == 0) = false := by simpa using hq0
              have hb1 : (q == 1) = false := by simpa using hq1
              have hb2 : (q == 2) = false := by simpa using hq2
              go_wp2_with fail
              refine (left_any wr r _ hS.rdr).mono ?_
              rintro e w' ⟨rfl, rfl⟩
              rw [hS.left]
              have HS := Lib.hid hS
              clear hS
              go_wp2_with fail
              go_roundw
              case rel => exact ⟨m, k + 1, by omega, by go_num, by go_num, HS.out⟩
              case measure => simp [intOf]; omega
    · have hrl := hr.below hS.below
      go_wp2_with fail
      refine (reads_any wr).mono ?_
      rintro e w4 ⟨rfl, hB4⟩
      go_wp2_with fail
      refine (kept_any w4 w.heap.size g n c1 a c l (hS.lent.below hB4) (hrl.below hB4) (by omega)).mono ?_
      rintro e w' ⟨rfl, rfl⟩
      go_wp2_with fail
      go_ret
      exact Yes.mk (Bt hS.below hB4)
end Go.Proofs.Ytpfggokhcekhbaa
