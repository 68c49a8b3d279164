/-
  The walks of octet's reader, on: Bytes, Digest.
-/
import Derived.Test.YtoclahcibilbhaaGreatOctC
import Derived.Test.YtoclahcibilbhaaGreatLibD
import Derived.Laws.CopyOwn
namespace Go.Proofs.YtoclahcibilbhaaGreat
open Go.RowKit
set_option maxRecDepth 100000

/-- the byte string at the front of bytes, how many bytes both are, the error -/
def rdB (l : List UInt8) : List UInt8 × Nat × Nat :=
  if (cnt 0 0 l).2.2 ≠ 0 then ([], 0, (cnt 0 0 l).2.2)
  else if 65536 < (cnt 0 0 l).1 then ([], 0, 11)
  else if l.length < (cnt 0 0 l).2.1 + (cnt 0 0 l).1 then ([], 0, 10)
  else ((l.drop (cnt 0 0 l).2.1).take (cnt 0 0 l).1, (cnt 0 0 l).2.1 + (cnt 0 0 l).1, 0)

def BytesPost (w : World) (r : Nat) (l : List UInt8) (e : Ending) (w' : World) : Prop :=
  e = .returned (.tuple #[.string (str (rdB l).1), .int .i64 ((rdB l).2.2 : Int)]) ∧ Rdr w' r (l.drop (rdB l).2.1) ∧ w.grownBy w' (some r)

set_option maxRecDepth 100000 in
set_option maxHeartbeats 1000000 in
theorem bytes_any (w : World) (r : Nat) (l : List UInt8) (hr : Rdr w r l) :
    Calls Tryz.prog 93 #[.pointer (some ⟨r, 0, none⟩)] w (BytesPost w r l) := by
  have hr' := hr
  obtain ⟨a, n, c, h1, h2⟩ := hr
  have hc := cell_of_one h1
  have hf := free_of_one h1
  have hl := Lib.hid h2.len
  obtain ⟨b1, b2, b3, b4, b5⟩ := cnt_le l 0 0 (by omega)
  have HB := Lib.hid (rfl : rdB l = rdB l)
  have hmax : n ≤ 9223372036854775807 := by have := h2.max; have := h2.cap; unfold maxLen at *; omega
  obtain ⟨x, y, z, hcnt⟩ : ∃ x y z, cnt 0 0 l = (x, y, z) := ⟨_, _, _, rfl⟩
  have hB : rdB l = if z ≠ 0 then ([], 0, z) else if 65536 < x then ([], 0, 11) else if l.length < y + x then ([], 0, 10) else ((l.drop y).take x, y + x, 0) := by
    unfold rdB; rw [hcnt]
  rw [hcnt] at b1 b2 b3 b4 b5
  simp only at b1 b2 b3 b4 b5
  have HC := Lib.hid hcnt
  clear hcnt
  have fin : ∀ w' p q s, rdB l = (p, q, s) → Rdr w' r (l.drop q) → w.grownBy w' (some r) → BytesPost w r l (.returned (.tuple #[.string (str p), .int .i64 s])) w' := fun w' p q s e q1 q2 => by
    unfold BytesPost; rw [e]; exact ⟨rfl, q1, q2⟩
  have HF := Lib.hid fin
  have H4 := Lib.hid b4
  have HRB := Lib.hid hB
  clear fin b4 hB
  have hyl : y ≤ n := by have := hl.out; omega
  by_cases hz : z = 0
  · subst hz
    by_cases hbig : 65536 < x
    · go_enter Tryz.func93, Tryz.ntmps93
      go_wp2_with fail
      refine (frontCount_any w a n c l h2).mono ?_
      rintro e w' ⟨rfl, rfl⟩
      rw [HC.out]
      go_wp2_with fail
      go_ret2
      exact HF.out w [] 0 11 (by rw [HRB.out, if_neg (by simp), if_pos hbig]) hr' (World.grownBy.refl _ _)
    · by_cases hlong : n - y < x
      · go_enter Tryz.func93, Tryz.ntmps93
        go_wp2_with fail
        refine (frontCount_any w a n c l h2).mono ?_
        rintro e w' ⟨rfl, rfl⟩
        rw [HC.out]
        go_wp2_with fail
        refine (after_any w a n c y l h2 (by omega) (by omega)).mono ?_
        rintro e w' ⟨a', rfl, hd0, rfl⟩
        clear hd0
        go_wp2_with fail
        go_ret2
        exact HF.out w [] 0 10 (by rw [HRB.out, if_neg (by simp), if_neg hbig, if_pos (by have := hl.out; omega)]) hr' (World.grownBy.refl _ _)
      · go_enter Tryz.func93, Tryz.ntmps93
        go_wp2_with fail
        refine (frontCount_any w a n c l h2).mono ?_
        rintro e w' ⟨rfl, rfl⟩
        rw [HC.out]
        go_wp2_with fail
        refine (after_any w a n c y l h2 (by omega) (by omega)).mono ?_
        rintro e w' ⟨a', rfl, hd0, rfl⟩
        have hd := hd0 _ h2
        clear hd0
        go_wp2_with fail
        refine (after_any w a' (n - y) (n - y) x _ hd (by omega) (by omega)).mono ?_
        rintro e w' ⟨a2, rfl, hd20, rfl⟩
        have hd2 := hd20 _ hd
        clear hd20
        simp only [Int.toNat_natCast] at hd hd2 ⊢
        have hs := Rdr.set hr' hd2
        have hconv := ((Rdr.rd hd hs.2 hr').take x (by omega)).conv
        have hfin := HF.out _ ((l.drop y).take x) (y + x) 0 (by rw [HRB.out, if_neg (by simp), if_neg hbig, if_neg (by have := hl.out; omega)]) (by simpa [List.drop_drop] using hs.1) hs.2
        have HFIN := Lib.hid hfin
        clear hs hfin hd hd2
        go_wp2_with fail
        go_ret2
        exact HFIN.out
  · have hzz : ((z : Int) != 0) = true := by simp; omega
    have h0 := H4.out hz
    obtain ⟨rfl, rfl⟩ := h0
    go_enter Tryz.func93, Tryz.ntmps93
    go_wp2_with fail
    refine (frontCount_any w a n c l h2).mono ?_
    rintro e w' ⟨rfl, rfl⟩
    rw [HC.out]
    go_wp2_with fail
    go_ret2
    exact HF.out w [] 0 z (by rw [HRB.out, if_pos hz]) hr' (World.grownBy.refl _ _)

/-- a digest at the front of bytes -/
def rdD (l : List UInt8) : List UInt8 × Nat × Nat := if l.length < 32 then (zero32, 0, 10) else (l.take 32, 32, 0)

def DigestPost (w : World) (r : Nat) (l : List UInt8) (e : Ending) (w' : World) : Prop :=
  e = .returned (.tuple #[.agg (bs (rdD l).1).toArray, .int .i64 ((rdD l).2.2 : Int)]) ∧ Rdr w' r (l.drop (rdD l).2.1) ∧ w.grownBy w' (some r)

set_option maxRecDepth 100000 in
set_option maxHeartbeats 1000000 in
theorem digest_nil (w : World) :
    Calls Tryz.prog 95 #[.pointer none] w fun e w' => e = .returned (.tuple #[.agg (bs zero32).toArray, .int .i64 3]) ∧ Below w.heap.size w w' := by
  go_enter Tryz.func95, Tryz.ntmps95
  go_wp2_with (first | (refine wpList_allocD rfl rfl ?_; intro w1 hd1 hg1 hs1) | (refine wpList_buildD rfl rfl ?_) | (refine wpList_storeD rfl (.tmp 2) (.tmp 7) rfl rfl rfl hd1 zero32_length zero32_length ?_; intro w2 hd2 hg2 hs2))
  refine bodyPost_ret (results_digest2 rfl _ _ _ _ _ zero32_length rfl hd2) rfl ⟨rfl, ?_⟩
  exact ((Below.refl _ _).grown hg1 (Nat.le_refl _) (by simp)).grown hg2 (by omega) (fun k e => by cases e; exact Nat.le_refl _)

set_option maxRecDepth 100000 in
set_option maxHeartbeats 1000000 in
theorem digest_short (w : World) (r : Nat) (l : List UInt8) (hr : Rdr w r l) (hl : l.length < 32) :
    Calls Tryz.prog 95 #[.pointer (some ⟨r, 0, none⟩)] w fun e w' => e = .returned (.tuple #[.agg (bs zero32).toArray, .int .i64 10]) ∧ Below w.heap.size w w' := by
  obtain ⟨a, n, c, h1, h2⟩ := hr
  have hc := cell_of_one h1
  have hn : n < 32 := by have := h2.len; omega
  have hrs := lt_of_block h1
  clear hl
  go_enter Tryz.func95, Tryz.ntmps95
  go_wp2_with (first
    | (refine wpList_allocD (o := ⟨some 2, _, _, _, _, _⟩) rfl rfl ?_; intro w1 hd1 hg1 hs1; have hc1 := hg1.cell hc (by simp))
    | (refine wpList_allocD (o := ⟨some 4, _, _, _, _, _⟩) rfl rfl ?_; intro w2 hd2 hg2 hs2; have hc2 := hg2.cell hc1 (by simp); have hd12 := (hg2.block _ (lt_of_block hd1) (by simp)).trans hd1; rw [hs1] at hd2)
    | (refine wpList_digest rfl (.tmp 4) rfl rfl zero32_length hd2 ?_)
    | (refine wpList_storeD rfl (.tmp 2) (.tmp 14) rfl rfl rfl hd12 zero32_length zero32_length ?_; intro w3 hd3 hg3 hs3))
  refine bodyPost_ret (results_digest2 rfl _ _ _ _ _ zero32_length rfl hd3) rfl ⟨rfl, ?_⟩
  exact (((Below.refl _ _).grown hg1 (Nat.le_refl _) (by simp)).grown hg2 (by omega) (by simp)).grown hg3 (by omega) (fun k e => by cases e; exact Nat.le_refl _)

theorem splice_all (ds es : List UInt8) (h : es.length = ds.length) : splice (bs ds) 0 (bs es) = bs es := by
  simp [splice, bs_length, h, List.drop_eq_nil_of_le]

set_option maxRecDepth 100000 in
set_option maxHeartbeats 2000000 in
theorem digest_long (w : World) (r : Nat) (l : List UInt8) (hr : Rdr w r l) (hl : 32 ≤ l.length) :
    Calls Tryz.prog 95 #[.pointer (some ⟨r, 0, none⟩)] w fun e w' => e = .returned (.tuple #[.agg (bs (l.take 32)).toArray, .int .i64 0]) ∧ Rdr w' r (l.drop 32) ∧ w.grownBy w' (some r) := by
  have hr0 := hr
  obtain ⟨a, n, c, h1, h2⟩ := hr
  have hc := cell_of_one h1
  have hf := free_of_one h1
  have hn : 32 ≤ n := by have := h2.len; omega
  have hrs := lt_of_block h1
  clear hl
  go_enter Tryz.func95, Tryz.ntmps95
  go_wp2_with (first
    | (refine wpList_allocD (o := ⟨some 2, _, _, _, _, _⟩) rfl rfl ?_; intro w1 hd1 hg1 hs1; have hc1 := hg1.cell hc (by simp))
    | (refine wpList_allocD (o := ⟨some 4, _, _, _, _, _⟩) rfl rfl ?_; intro w2 hd2 hg2 hs2; have hc2 := hg2.cell hc1 (by simp); have hd12 := (hg2.block _ (lt_of_block hd1) (by simp)).trans hd1; rw [hs1] at hd2))
  have hb02 : w.grownBy w2 none := ⟨hg2.os.trans hg1.os, hg2.tape.trans hg1.tape, hg2.output.trans hg1.output, by omega, fun k hk _ => by rw [hg2.block k (by omega) (by simp), hg1.block k hk (by simp)]⟩
  have hbw2 : Below w.heap.size w w2 := (Below.refl _ _).grown hb02 (Nat.le_refl _) (by simp)
  have hR2 := h2.below hbw2
  have h12 : w2.heap[r]? = some (.cells #[.slice a n c] 150 (0, 0)) := (hbw2.block r hrs).trans h1
  obtain ⟨b, off, hab, _⟩ := hR2.at (by omega)
  subst hab
  have HT : ∀ j v, (bs (l.take 32))[j]? = some v → w2.cell? ((⟨b, off, none⟩ : Addr).add j) = some v := (hR2.take 32 hn).cell _ rfl
  go_region_law (refine step_copy_splice rfl (.tmp 15) (.tmp 19) 22 22 rfl 5 Tryz.underlying22 info_u8 (some ⟨w.heap.size + 1, 0, none⟩) (some ⟨b, off, none⟩) 32 32 n c rfl rfl (w.heap.size + 1) 0 (bs zero32) 25 hd2 (bs (l.take 32)) (by rw [bs_length, List.length_take, hR2.len]; exact Nat.min_comm _ _) (fun _ => ⟨rfl, _, rfl, HT⟩) (by simp [bs_length, zero32_length]; omega) (bs_one _) (w.heap.size + 1) w2 (Below.refl _ _).drew (Nat.le_refl _) ?_; intro w3 hd3 hb3)
  have htl : (l.take 32).length = 32 := by have := hR2.len; simp; omega
  have hd3' := hd3.out
  rw [splice_all _ _ (by rw [htl]; exact zero32_length.symm)] at hd3'
  have hb23 : Below w2.heap.size w2 w3 → True := fun _ => trivial
  have h13 : w3.heap[r]? = some (.cells #[.slice (some ⟨b, off, none⟩) n c] 150 (0, 0)) := (hb3.block r (by omega)).trans h12
  have hc3 := cell_of_one h13
  have hf3 := free_of_one h13
  have hbw3 : Below w.heap.size w w3 := hbw2.trans (hb3.mono (by omega))
  have hR3 := h2.below hbw3
  have hr3 : Rdr w3 r l := ⟨_, _, _, h13, hR3⟩
  have hd13 := (hb3.block _ (by omega)).trans hd12
  have hs3 := hb3.size
  clear hc1 hc2 hc hd3 HT hb23
  go_wp2_with fail
  refine (after_any w3 _ n c 32 l hR3 (by omega) (by omega)).mono ?_
  rintro e w' ⟨a', rfl, hdr, rfl⟩
  simp only [show (32 : Int).toNat = 32 from rfl] at hdr ⊢
  have h14 := one_setCell (u := Value.slice a' (n - 32) (n - 32)) h13
  have hset := Rdr.set hr3 (hdr _ hR3)
  have hd4 := (hset.2.block _ (lt_of_block hd3') (by simp; omega)).trans hd3'
  have hd14 := (hset.2.block _ (lt_of_block hd13) (by simp; omega)).trans hd13
  have HSET := Lib.hid hset
  have HDR := Lib.hid (hdr _ h2)
  have H14 := Lib.hid h14
  clear hset hdr h14
  go_wp2_with (first
    | (refine wpList_digest rfl (.tmp 4) rfl rfl htl hd4 ?_)
    | (refine wpList_storeD rfl (.tmp 2) (.tmp 29) rfl rfl rfl hd14 htl zero32_length ?_; intro w5 hd5 hg5 hs5))
  refine bodyPost_ret (results_digest2 rfl _ _ _ _ _ htl rfl hd5) rfl ?_
  have hg : w.grownBy w5 (some r) := by
    refine ⟨hg5.os.trans (HSET.out.2.os.trans hbw3.os), hg5.tape.trans (HSET.out.2.tape.trans hbw3.tape), hg5.output.trans (HSET.out.2.output.trans hbw3.output), ?_, fun k hk hne => ?_⟩
    · have := hbw3.size; have := HSET.out.2.size; omega
    · have h3 := hbw3.size
      have h4 := HSET.out.2.size
      rw [hg5.block k (by omega) (by simp; omega), HSET.out.2.block k (by omega) hne, hbw3.block k hk]
  refine ⟨rfl, ⟨_, _, _, ?_, HDR.out.kept hg h1 (by simp)⟩, hg⟩
  have h3 := lt_of_block H14.out
  exact (hg5.block r h3 (by simp; omega)).trans H14.out

theorem digest_any (w : World) (r : Nat) (l : List UInt8) (hr : Rdr w r l) :
    Calls Tryz.prog 95 #[.pointer (some ⟨r, 0, none⟩)] w (DigestPost w r l) := by
  by_cases hl : l.length < 32
  · refine (digest_short w r l hr hl).mono ?_
    rintro e w' ⟨rfl, hb⟩
    unfold DigestPost rdD
    rw [if_pos hl]
    exact ⟨rfl, hr.below hb, ⟨hb.os, hb.tape, hb.output, hb.size, fun k hk _ => hb.block k hk⟩⟩
  · refine (digest_long w r l hr (by omega)).mono ?_
    rintro e w' ⟨rfl, h1, h2⟩
    unfold DigestPost rdD
    rw [if_neg hl]
    exact ⟨rfl, h1, h2⟩
end Go.Proofs.YtoclahcibilbhaaGreat
