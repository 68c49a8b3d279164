/-
  Reader's calls once more: Bytes, and where the rest lies then.
-/
import Derived.Test.YtoclahcibilbhaaGreatOctE
namespace Go.Proofs.YtoclahcibilbhaaGreat
open Go.RowKit
set_option maxRecDepth 100000

def BytesAt (w : World) (r : Nat) (l : List UInt8) (a : Option Addr) (n c : Nat) (e : Ending) (w' : World) : Prop :=
  e = .returned (.tuple #[.string (str (rdB l).1), .int .i64 ((rdB l).2.2 : Int)]) ∧ (∃ a' n' c', w'.heap[r]? = some (.cells #[.slice a' n' c'] 150 (0, 0)) ∧ ∀ W, Rd W a n c l → Rd W a' n' c' (l.drop (rdB l).2.1)) ∧ w.grownBy w' (some r)

set_option maxRecDepth 100000 in
set_option maxHeartbeats 1000000 in
theorem bytes_at (w : World) (r : Nat) (l : List UInt8) (a : Option Addr) (n c : Nat) (h1 : w.heap[r]? = some (.cells #[.slice a n c] 150 (0, 0))) (h2 : Rd w a n c l) :
    Calls Tryz.prog 93 #[.pointer (some ⟨r, 0, none⟩)] w (BytesAt w r l a n c) := by
  have hr' : Rdr w r l := ⟨a, n, c, h1, h2⟩
  have hc := cell_of_one h1
  have hf := free_of_one h1
  have hl := Lib.hid h2.len
  obtain ⟨b1, b2, b3, b4, b5⟩ := cnt_le l 0 0 (by omega)
  have HB := Lib.hid (rfl : rdB l = rdB l)
  have hmax : n ≤ 9223372036854775807 := by have := h2.max; have := h2.cap; unfold maxLen at *; omega
  obtain ⟨x, y, z, hcnt⟩ : ∃ x y z, cnt 0 0 l = (x, y, z) := ⟨_, _, _, rfl⟩
  have hB : rdB l = if z ≠ 0 then ([], 0, z) else if 65536 < x then ([], 0, 11) else if l.length < y + x then ([], 0, 10) else ((l.drop y).take x, y + x, 0) := by
    unfold rdB; rw [hcnt]
  rw [hcnt] at b1 b2 b3 b4 b5
  simp only at b1 b2 b3 b4 b5
  have HC := Lib.hid hcnt
  clear hcnt
  have fin : ∀ w' p q s, rdB l = (p, q, s) → (∃ a' n' c', w'.heap[r]? = some (.cells #[.slice a' n' c'] 150 (0, 0)) ∧ ∀ W, Rd W a n c l → Rd W a' n' c' (l.drop q)) → w.grownBy w' (some r) → BytesAt w r l a n c (.returned (.tuple #[.string (str p), .int .i64 s])) w' := fun w' p q s e q1 q2 => by
    unfold BytesAt; rw [e]; exact ⟨rfl, q1, q2⟩
  have HF := Lib.hid fin
  have H4 := Lib.hid b4
  have HRB := Lib.hid hB
  clear fin b4 hB
  have hyl : y ≤ n := by have := hl.out; omega
  by_cases hz : z = 0
  · subst hz
    by_cases hbig : 65536 < x
    · go_enter Tryz.func93, Tryz.ntmps93
      go_wp2_with fail
      refine (frontCount_any w a n c l h2).mono ?_
      rintro e w' ⟨rfl, rfl⟩
      rw [HC.out]
      go_wp2_with fail
      go_ret2
      exact HF.out w [] 0 11 (by rw [HRB.out, if_neg (by simp), if_pos hbig]) ⟨a, n, c, h1, fun W h => h⟩ (World.grownBy.refl _ _)
    · by_cases hlong : n - y < x
      · go_enter Tryz.func93, Tryz.ntmps93
        go_wp2_with fail
        refine (frontCount_any w a n c l h2).mono ?_
        rintro e w' ⟨rfl, rfl⟩
        rw [HC.out]
        go_wp2_with fail
        refine (after_any w a n c y l h2 (by omega) (by omega)).mono ?_
        rintro e w' ⟨a', rfl, hd0, rfl⟩
        clear hd0
        go_wp2_with fail
        go_ret2
        exact HF.out w [] 0 10 (by rw [HRB.out, if_neg (by simp), if_neg hbig, if_pos (by have := hl.out; omega)]) ⟨a, n, c, h1, fun W h => h⟩ (World.grownBy.refl _ _)
      · go_enter Tryz.func93, Tryz.ntmps93
        go_wp2_with fail
        refine (frontCount_any w a n c l h2).mono ?_
        rintro e w' ⟨rfl, rfl⟩
        rw [HC.out]
        go_wp2_with fail
        refine (after_any w a n c y l h2 (by omega) (by omega)).mono ?_
        rintro e w' ⟨a', rfl, hd0, rfl⟩
        have hd := hd0 _ h2
        have HD0 := Lib.hid hd0
        clear hd0
        go_wp2_with fail
        refine (after_any w a' (n - y) (n - y) x _ hd (by omega) (by omega)).mono ?_
        rintro e w' ⟨a2, rfl, hd20, rfl⟩
        have hd2 := hd20 _ hd
        have HD2 := Lib.hid (fun (W : World) (h : Rd W a n c l) => hd20 W (HD0.out W h))
        clear hd20
        simp only [Int.toNat_natCast] at hd hd2 ⊢
        have hs := Rdr.set hr' hd2
        have hconv := ((Rdr.rd hd hs.2 hr').take x (by omega)).conv
        have hfin := HF.out _ ((l.drop y).take x) (y + x) 0 (by rw [HRB.out, if_neg (by simp), if_neg hbig, if_neg (by have := hl.out; omega)]) ⟨_, _, _, one_setCell h1, fun W h => by have := HD2.out W h; simpa [List.drop_drop] using this⟩ hs.2
        have HFIN := Lib.hid hfin
        clear hs hfin hd hd2
        go_wp2_with fail
        go_ret2
        exact HFIN.out
  · have hzz : ((z : Int) != 0) = true := by simp; omega
    have h0 := H4.out hz
    obtain ⟨rfl, rfl⟩ := h0
    go_enter Tryz.func93, Tryz.ntmps93
    go_wp2_with fail
    refine (frontCount_any w a n c l h2).mono ?_
    rintro e w' ⟨rfl, rfl⟩
    rw [HC.out]
    go_wp2_with fail
    go_ret2
    exact HF.out w [] 0 z (by rw [HRB.out, if_pos hz]) ⟨a, n, c, h1, fun W h => h⟩ (World.grownBy.refl _ _)

section
variable {w W W' : World} {r : Nat} {l : List UInt8}
theorem rdq_bytes (h : Rdq w W r l) :
    Calls Tryz.prog 93 #[.pointer (some ⟨r, 0, none⟩)] W fun e w' => e = .returned (.tuple #[.string (str (rdB l).1), .int .i64 ((rdB l).2.2 : Int)]) ∧ Rdq w w' r (l.drop (rdB l).2.1) ∧ W.grownBy w' (some r) := by
  obtain ⟨a, n, c, h1, h2⟩ := h.ex
  obtain ⟨a0, n0, c0, h3⟩ := h.was
  refine (bytes_at W r l a n c h1 (h2.kept h.grown h3 (by simp))).mono ?_
  rintro e w' ⟨rfl, ⟨a', n', c', q1, q2⟩, hg⟩
  exact ⟨rfl, ⟨⟨a', n', c', q1, q2 _ h2⟩, h.was, grown_trans h.grown hg⟩, hg⟩
end
end Go.Proofs.YtoclahcibilbhaaGreat
