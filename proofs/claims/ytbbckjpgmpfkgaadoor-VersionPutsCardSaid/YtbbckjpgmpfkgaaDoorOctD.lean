/-
  The walks of octet's reader, on: Bytes, Digest.
-/
import Derived.Test.YtbbckjpgmpfkgaaDoorOctC
import Derived.Test.YtbbckjpgmpfkgaaDoorLibD
import Derived.Laws.CopyOwn
namespace Go.Proofs.YtbbckjpgmpfkgaaDoor
open Go.RowKit
set_option maxRecDepth 100000

/-- the byte string at the front of bytes, how many bytes both are, the error -/
def rdB (l : List UInt8) : List UInt8 × Nat × Nat :=
  if (cnt 0 0 l).2.2 ≠ 0 then ([], 0, (cnt 0 0 l).2.2)
  else if 65536 < (cnt 0 0 l).1 then ([], 0, 11)
  else if l.length < (cnt 0 0 l).2.1 + (cnt 0 0 l).1 then ([], 0, 10)
  else ((l.drop (cnt 0 0 l).2.1).take (cnt 0 0 l).1, (cnt 0 0 l).2.1 + (cnt 0 0 l).1, 0)

def BytesPost (w : World) (r : Nat) (l : List UInt8) (e : Ending) (w' : World) : Prop :=
  e = .returned (.tuple #[.string (str (rdB l).1), .int .i64 ((rdB l).2.2 : Int)]) ∧ Rdr w' r (l.drop (rdB l).2.1) ∧ w.grownBy w' (some r)

set_option maxRecDepth 100000 in
set_option maxHeartbeats 1000000 in
theorem bytes_any (w : World) (r : Nat) (l : List UInt8) (hr : Rdr w r l) :
    Calls Tryd.prog 118 #[.pointer (some ⟨r, 0, none⟩)] w (BytesPost w r l) := by
  have hr' := hr
  obtain ⟨a, n, c, h1, h2⟩ := hr
  have hc := cell_of_one h1
  have hf := free_of_one h1
  have hl := Lib.hid h2.len
  obtain ⟨b1, b2, b3, b4, b5⟩ := cnt_le l 0 0 (by omega)
  have HB := Lib.hid (rfl : rdB l = rdB l)
  have hmax : n ≤ 9223372036854775807 := by have := h2.max; have := h2.cap; unfold maxLen at *; omega
  obtain ⟨x, y, z, hcnt⟩ : ∃ x y z, cnt 0 0 l = (x, y, z) := ⟨_, _, _, rfl⟩
  have hB : rdB l = if z ≠ 0 then ([], 0, z) else if 65536 < x then ([], 0, 11) else if l.length < y + x then ([], 0, 10) else ((l.drop y).take x, y + x, 0) := by
    unfold rdB; rw [hcnt]
  rw [hcnt] at b1 b2 b3 b4 b5
  simp only at b1 b2 b3 b4 b5
  have HC := Lib.hid hcnt
  clear hcnt
  have fin : ∀ w' p q s, rdB l = (p, q, s) → Rdr w' r (l.drop q) → w.grownBy w' (some r) → BytesPost w r l (.returned (.tuple #[.string (str p), .int .i64 s])) w' := fun w' p q s e q1 q2 => by
    unfold BytesPost; rw [e]; exact ⟨rfl, q1, q2⟩
  have HF := Lib.hid fin
  have H4 := Lib.hid b4
  have HRB := Lib.hid hB
  clear fin b4 hB
  have hyl : y ≤ n := by have := hl.out; omega
  by_cases hz : z = 0
  · subst hz
    by_cases hbig : 65536 < x
    · go_enter Tryd.func118, Tryd.ntmps118
      go_wp2_with fail
      refine (frontCount_any w a n c l h2).mono ?_
      rintro e w' ⟨rfl, rfl⟩
      rw [HC.out]
      go_wp2_with fail
      go_ret2
      exact HF.out w [] 0 11 (by rw [HRB.out, if_neg (by simp), if_pos hbig]) hr' (World.grownBy.refl _ _)
    · by_cases hlong : n - y < x
      · go_enter Tryd.func118, Tryd.ntmps118
        go_wp2_with fail
        refine (frontCount_any w a n c l h2).mono ?_
        rintro e w' ⟨rfl, rfl⟩
        rw [HC.out]
        go_wp2_with fail
        refine (after_any w a n c y l h2 (by omega) (by omega)).mono ?_
        rintro e w' ⟨a', rfl, hd0, rfl⟩
        clear hd0
        go_wp2_with fail
        go_ret2
        exact HF.out w [] 0 10 (by rw [HRB.out, if_neg (by simp), if_neg hbig, if_pos (by have := hl.out; omega)]) hr' (World.grownBy.refl _ _)
      · go_enter Tryd.func118, Tryd.ntmps118
        go_wp2_with fail
        refine (frontCount_any w a n c l h2).mono ?_
        rintro e w' ⟨rfl, rfl⟩
        rw [HC.out]
        go_wp2_with fail
        refine (after_any w a n c y l h2 (by omega) (by omega)).mono ?_
        rintro e w' ⟨a', rfl, hd0, rfl⟩
        have hd := hd0 _ h2
        clear hd0
        go_wp2_with fail
        refine (after_any w a' (n - y) (n - y) x _ hd (by omega) (by omega)).mono ?_
        rintro e w' ⟨a2, rfl, hd20, rfl⟩
        have hd2 := hd20 _ hd
        clear hd20
        simp only [Int.toNat_natCast] at hd hd2 ⊢
        have hs := Rdr.set hr' hd2
        have hconv := ((Rdr.rd hd hs.2 hr').take x (by omega)).conv
        have hfin := HF.out _ ((l.drop y).take x) (y + x) 0 (by rw [HRB.out, if_neg (by simp), if_neg hbig, if_neg (by have := hl.out; omega)]) (by simpa [List.drop_drop] using hs.1) hs.2
        have HFIN := Lib.hid hfin
        clear hs hfin hd hd2
        go_wp2_with fail
        go_ret2
        exact HFIN.out
  · have hzz : ((z : Int) != 0) = true := by simp; omega
    have h0 := H4.out hz
    obtain ⟨rfl, rfl⟩ := h0
    go_enter Tryd.func118, Tryd.ntmps118
    go_wp2_with fail
    refine (frontCount_any w a n c l h2).mono ?_
    rintro e w' ⟨rfl, rfl⟩
    rw [HC.out]
    go_wp2_with fail
    go_ret2
    exact HF.out w [] 0 z (by rw [HRB.out, if_pos hz]) hr' (World.grownBy.refl _ _)

/-- a digest at the front of bytes -/
def rdD (l : List UInt8) : List UInt8 × Nat × Nat := if l.length < 32 then (zero32, 0, 10) else (l.take 32, 32, 0)

def DigestPost (w : World) (r : Nat) (l : List UInt8) (e : Ending) (w' : World) : Prop :=
  e = .returned (.tuple #[.agg (bs (rdD l).1).toArray, .int .i64 ((rdD l).2.2 : Int)]) ∧ Rdr w' r (l.drop (rdD l).2.1) ∧ w.grownBy w' (some r)

theorem splice_all (ds es : List UInt8) (h : es.length = ds.length) : splice (bs ds) 0 (bs es) = bs es := by
  simp [splice, bs_length, h, List.drop_eq_nil_of_le]

end Go.Proofs.YtbbckjpgmpfkgaaDoor
