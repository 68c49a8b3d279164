/-
  Reader's calls once more: where the rest lies then.
-/
import Derived.Test.YtoclahcibilbhaaGreatOctD
namespace Go.Proofs.YtoclahcibilbhaaGreat
open Go.RowKit
set_option maxRecDepth 100000

set_option maxRecDepth 100000 in
set_option maxHeartbeats 2000000 in
theorem digest_at (w : World) (r : Nat) (l : List UInt8) (a : Option Addr) (n c : Nat) (h1 : w.heap[r]? = some (.cells #[.slice a n c] 150 (0, 0))) (h2 : Rd w a n c l) (hl : 32 ≤ l.length) :
    Calls Tryz.prog 95 #[.pointer (some ⟨r, 0, none⟩)] w fun e w' => e = .returned (.tuple #[.agg (bs (l.take 32)).toArray, .int .i64 0]) ∧ (∃ a' n' c', w'.heap[r]? = some (.cells #[.slice a' n' c'] 150 (0, 0)) ∧ ∀ W, Rd W a n c l → Rd W a' n' c' (l.drop 32)) ∧ w.grownBy w' (some r) := by
  have hc := cell_of_one h1
  have hf := free_of_one h1
  have hn : 32 ≤ n := by have := h2.len; omega
  have hrs := lt_of_block h1
  clear hl
  go_enter Tryz.func95, Tryz.ntmps95
  go_wp2_with (first
    | (refine wpList_allocD (o := ⟨some 2, _, _, _, _, _⟩) rfl rfl ?_; intro w1 hd1 hg1 hs1; have hc1 := hg1.cell hc (by simp))
    | (refine wpList_allocD (o := ⟨some 4, _, _, _, _, _⟩) rfl rfl ?_; intro w2 hd2 hg2 hs2; have hc2 := hg2.cell hc1 (by simp); have hd12 := (hg2.block _ (lt_of_block hd1) (by simp)).trans hd1; rw [hs1] at hd2))
  have hb02 : w.grownBy w2 none := ⟨hg2.os.trans hg1.os, hg2.tape.trans hg1.tape, hg2.output.trans hg1.output, by omega, fun k hk _ => by rw [hg2.block k (by omega) (by simp), hg1.block k hk (by simp)]⟩
  have hbw2 : Below w.heap.size w w2 := (Below.refl _ _).grown hb02 (Nat.le_refl _) (by simp)
  have hR2 := h2.below hbw2
  have h12 : w2.heap[r]? = some (.cells #[.slice a n c] 150 (0, 0)) := (hbw2.block r hrs).trans h1
  obtain ⟨b, off, hab, _⟩ := hR2.at (by omega)
  have hab' := hab
  subst hab
  have HT : ∀ j v, (bs (l.take 32))[j]? = some v → w2.cell? ((⟨b, off, none⟩ : Addr).add j) = some v := (hR2.take 32 hn).cell _ rfl
  go_region_law (refine step_copy_splice rfl (.tmp 15) (.tmp 19) 22 22 rfl 5 Tryz.underlying22 info_u8 (some ⟨w.heap.size + 1, 0, none⟩) (some ⟨b, off, none⟩) 32 32 n c rfl rfl (w.heap.size + 1) 0 (bs zero32) 25 hd2 (bs (l.take 32)) (by rw [bs_length, List.length_take, hR2.len]; exact Nat.min_comm _ _) (fun _ => ⟨rfl, _, rfl, HT⟩) (by simp [bs_length, zero32_length]; omega) (bs_one _) (w.heap.size + 1) w2 (Below.refl _ _).drew (Nat.le_refl _) ?_; intro w3 hd3 hb3)
  have htl : (l.take 32).length = 32 := by have := hR2.len; simp; omega
  have hd3' := hd3.out
  rw [splice_all _ _ (by rw [htl]; exact zero32_length.symm)] at hd3'
  have hb23 : Below w2.heap.size w2 w3 → True := fun _ => trivial
  have h13 : w3.heap[r]? = some (.cells #[.slice (some ⟨b, off, none⟩) n c] 150 (0, 0)) := (hb3.block r (by omega)).trans h12
  have hc3 := cell_of_one h13
  have hf3 := free_of_one h13
  have hbw3 : Below w.heap.size w w3 := hbw2.trans (hb3.mono (by omega))
  have hR3 := h2.below hbw3
  have hr3 : Rdr w3 r l := ⟨_, _, _, h13, hR3⟩
  have hd13 := (hb3.block _ (by omega)).trans hd12
  have hs3 := hb3.size
  clear hc1 hc2 hc hd3 HT hb23
  go_wp2_with fail
  refine (after_any w3 _ n c 32 l hR3 (by omega) (by omega)).mono ?_
  rintro e w' ⟨a', rfl, hdr, rfl⟩
  simp only [show (32 : Int).toNat = 32 from rfl] at hdr ⊢
  have h14 := one_setCell (u := Value.slice a' (n - 32) (n - 32)) h13
  have hset := Rdr.set hr3 (hdr _ hR3)
  have hd4 := (hset.2.block _ (lt_of_block hd3') (by simp; omega)).trans hd3'
  have hd14 := (hset.2.block _ (lt_of_block hd13) (by simp; omega)).trans hd13
  have HSET := Lib.hid hset
  have HDR := Lib.hid hdr
  have H14 := Lib.hid h14
  clear hset hdr h14
  go_wp2_with (first
    | (refine wpList_digest rfl (.tmp 4) rfl rfl htl hd4 ?_)
    | (refine wpList_storeD rfl (.tmp 2) (.tmp 29) rfl rfl rfl hd14 htl zero32_length ?_; intro w5 hd5 hg5 hs5))
  refine bodyPost_ret (results_digest2 rfl _ _ _ _ _ htl rfl hd5) rfl ?_
  have hg : w.grownBy w5 (some r) := by
    refine ⟨hg5.os.trans (HSET.out.2.os.trans hbw3.os), hg5.tape.trans (HSET.out.2.tape.trans hbw3.tape), hg5.output.trans (HSET.out.2.output.trans hbw3.output), ?_, fun k hk hne => ?_⟩
    · have := hbw3.size; have := HSET.out.2.size; omega
    · have h3 := hbw3.size
      have h4 := HSET.out.2.size
      rw [hg5.block k (by omega) (by simp; omega), HSET.out.2.block k (by omega) hne, hbw3.block k hk]
  refine ⟨rfl, ⟨_, _, _, ?_, HDR.out⟩, hg⟩
  have h3 := lt_of_block H14.out
  exact (hg5.block r h3 (by simp; omega)).trans H14.out

def CountAt (w : World) (r : Nat) (l : List UInt8) (a : Option Addr) (n c : Nat) (e : Ending) (w' : World) : Prop :=
  e = .returned (.tuple #[.int .i64 ((cnt 0 0 l).1 : Int), .int .i64 ((cnt 0 0 l).2.2 : Int)]) ∧ (∃ a' n' c', w'.heap[r]? = some (.cells #[.slice a' n' c'] 150 (0, 0)) ∧ ∀ W, Rd W a n c l → Rd W a' n' c' (l.drop (cnt 0 0 l).2.1)) ∧ w.grownBy w' (some r)
set_option maxRecDepth 100000 in
set_option maxHeartbeats 1000000 in
theorem count_at (w : World) (r : Nat) (l : List UInt8) (a : Option Addr) (n c : Nat) (h1 : w.heap[r]? = some (.cells #[.slice a n c] 150 (0, 0))) (h2 : Rd w a n c l) :
    Calls Tryz.prog 90 #[.pointer (some ⟨r, 0, none⟩)] w (CountAt w r l a n c) := by
  have hr' : Rdr w r l := ⟨a, n, c, h1, h2⟩
  have hc := cell_of_one h1
  have hf := free_of_one h1
  have hl := Lib.hid h2.len
  obtain ⟨b1, b2, b3, b4, b5⟩ := cnt_le l 0 0 (by omega)
  obtain ⟨x, y, z, hcnt⟩ : ∃ x y z, cnt 0 0 l = (x, y, z) := ⟨_, _, _, rfl⟩
  rw [hcnt] at b1 b2 b3 b4 b5
  have HC := Lib.hid hcnt
  clear hcnt
  have fin : ∀ w', (∃ a' n' c', w'.heap[r]? = some (.cells #[.slice a' n' c'] 150 (0, 0)) ∧ ∀ W, Rd W a n c l → Rd W a' n' c' (l.drop y)) → w.grownBy w' (some r) → CountAt w r l a n c (.returned (.tuple #[.int .i64 x, .int .i64 z])) w' := fun w' q1 q2 => by
    unfold CountAt; rw [HC.out]; exact ⟨rfl, q1, q2⟩
  have HF := Lib.hid fin
  have H4 := Lib.hid b4
  clear fin b4
  by_cases hz : z = 0
  · subst hz
    go_enter Tryz.func90, Tryz.ntmps90
    go_wp2_with fail
    refine (frontCount_any w a n c l h2).mono ?_
    rintro e w' ⟨rfl, rfl⟩
    rw [HC.out]
    go_wp2_with fail
    refine (after_any w a n c y l h2 (by omega) (by have := hl.out; omega)).mono ?_
    rintro e w' ⟨a', rfl, hd0, rfl⟩
    have hd := hd0 _ h2
    have HD0 := Lib.hid hd0
    have H1 := Lib.hid h1
    clear hd0
    go_wp2_with fail
    go_ret2
    have hs := Rdr.set hr' hd
    exact HF.out _ ⟨_, _, _, one_setCell H1.out, HD0.out⟩ hs.2
  · have hzz : ((z : Int) != 0) = true := by simp; omega
    have h0 := H4.out hz
    simp only at h0
    obtain ⟨rfl, rfl⟩ := h0
    go_enter Tryz.func90, Tryz.ntmps90
    go_wp2_with fail
    refine (frontCount_any w a n c l h2).mono ?_
    rintro e w' ⟨rfl, rfl⟩
    rw [HC.out]
    go_wp2_with fail
    go_ret2
    exact HF.out _ ⟨a, n, c, h1, fun W h => h⟩ (World.grownBy.refl _ _)

/-- a reader that was handed in at w, as it stands in W -/
structure Rdq (w W : World) (r : Nat) (l : List UInt8) : Prop where
  ex : ∃ a n c, W.heap[r]? = some (.cells #[.slice a n c] 150 (0, 0)) ∧ Rd w a n c l
  was : ∃ a n c, w.heap[r]? = some (.cells #[.slice a n c] 150 (0, 0))
  grown : w.grownBy W (some r)
section
variable {w W W' : World} {r : Nat} {l : List UInt8}
theorem Rdq.start (h : Rdr w r l) : Rdq w w r l := by
  obtain ⟨a, n, c, h1, h2⟩ := h
  exact ⟨⟨a, n, c, h1, h2⟩, ⟨a, n, c, h1⟩, World.grownBy.refl _ _⟩
theorem Rdq.lt (h : Rdq w W r l) : r < w.heap.size := by
  obtain ⟨a, n, c, h1⟩ := h.was
  exact lt_of_block h1
theorem Rdq.rdr (h : Rdq w W r l) : Rdr W r l := by
  obtain ⟨a, n, c, h1, h2⟩ := h.ex
  obtain ⟨a', n', c', h3⟩ := h.was
  exact ⟨a, n, c, h1, h2.kept h.grown h3 (by simp)⟩
/-- something else turns, behind w -/
theorem Rdq.other (h : Rdq w W r l) {row : Option Nat} (hg : W.grownBy W' row) (hr : ∀ k, row = some k → w.heap.size ≤ k) : Rdq w W' r l := by
  have hlt := h.lt
  have hs := h.grown.size
  obtain ⟨a, n, c, h1, h2⟩ := h.ex
  refine ⟨⟨a, n, c, (hg.block r (by omega) (fun e => by have := hr r e.symm; omega)).trans h1, h2⟩, h.was, hg.os.trans h.grown.os, hg.tape.trans h.grown.tape, hg.output.trans h.grown.output, by have := hg.size; omega, fun k hk hne => ?_⟩
  exact (hg.block k (by omega) (fun e => by have := hr k e.symm; omega)).trans (h.grown.block k hk hne)
theorem Rdq.below (h : Rdq w W r l) (hb : Below W.heap.size W W') : Rdq w W' r l := h.other (row := none) ⟨hb.os, hb.tape, hb.output, hb.size, fun k hk _ => hb.block k hk⟩ (fun k e => by cases e)
theorem grown_trans {a b c : World} {r : Nat} (h : a.grownBy b (some r)) (k : b.grownBy c (some r)) : a.grownBy c (some r) :=
  ⟨k.os.trans h.os, k.tape.trans h.tape, k.output.trans h.output, by have := h.size; have := k.size; omega, fun i hi hne => (k.block i (by have := h.size; omega) hne).trans (h.block i hi hne)⟩
theorem rdq_digest (h : Rdq w W r l) (hl : 32 ≤ l.length) :
    Calls Tryz.prog 95 #[.pointer (some ⟨r, 0, none⟩)] W fun e w' => e = .returned (.tuple #[.agg (bs (l.take 32)).toArray, .int .i64 0]) ∧ Rdq w w' r (l.drop 32) ∧ W.grownBy w' (some r) := by
  obtain ⟨a, n, c, h1, h2⟩ := h.ex
  obtain ⟨a0, n0, c0, h3⟩ := h.was
  refine (digest_at W r l a n c h1 (h2.kept h.grown h3 (by simp)) hl).mono ?_
  rintro e w' ⟨rfl, ⟨a', n', c', q1, q2⟩, hg⟩
  exact ⟨rfl, ⟨⟨a', n', c', q1, q2 _ h2⟩, h.was, grown_trans h.grown hg⟩, hg⟩
theorem rdq_count (h : Rdq w W r l) :
    Calls Tryz.prog 90 #[.pointer (some ⟨r, 0, none⟩)] W fun e w' => e = .returned (.tuple #[.int .i64 ((cnt 0 0 l).1 : Int), .int .i64 ((cnt 0 0 l).2.2 : Int)]) ∧ Rdq w w' r (l.drop (cnt 0 0 l).2.1) ∧ W.grownBy w' (some r) := by
  obtain ⟨a, n, c, h1, h2⟩ := h.ex
  obtain ⟨a0, n0, c0, h3⟩ := h.was
  refine (count_at W r l a n c h1 (h2.kept h.grown h3 (by simp))).mono ?_
  rintro e w' ⟨rfl, ⟨a', n', c', q1, q2⟩, hg⟩
  exact ⟨rfl, ⟨⟨a', n', c', q1, q2 _ h2⟩, h.was, grown_trans h.grown hg⟩, hg⟩
end
theorem grown_below {a b c : World} {r : Nat} {row : Option Nat} (h : a.grownBy b (some r)) (hg : b.grownBy c row) (hr : ∀ k, row = some k → a.heap.size ≤ k ∨ k = r) : a.grownBy c (some r) :=
  ⟨hg.os.trans h.os, hg.tape.trans h.tape, hg.output.trans h.output, by have := h.size; have := hg.size; omega, fun i hi hne => (hg.block i (by have := h.size; omega) (fun e => by
    rcases hr i e.symm with h1 | h1
    · omega
    · subst h1; exact hne rfl)).trans (h.block i hi hne)⟩
theorem grown_none {a b : World} (hb : Below a.heap.size a b) : a.grownBy b none := ⟨hb.os, hb.tape, hb.output, hb.size, fun k hk _ => hb.block k hk⟩
theorem grown_end {w W W' : World} {r g : Nat} (h : w.grownBy W (some r)) (hg : W.grownBy W' (some g)) (hb : w.heap.size ≤ g) : w.grownBy W' (some r) := grown_below h hg (fun k e => by cases e; exact .inl hb)
theorem grown_to_below {w w1 w2 : World} {r : Nat} (h : Below w.heap.size w w1) (hg : w1.grownBy w2 (some r)) (hr : w.heap.size ≤ r) : Below w.heap.size w w2 := h.grown hg h.size (fun k e => by cases e; exact hr)

end Go.Proofs.YtoclahcibilbhaaGreat
