/-
  The reference of layer 6: Get.
-/
import Derived.Test.YtmfnpjfhijmboaaRef06B
import Derived.Test.YtmfnpjfhijmboaaPrf5
import Derived.Test.YtmfnpjfhijmboaaRefR01
namespace Go.Proofs.Ytmfnpjfhijmboaa
open Go.RowKit

/-! what bytes are a proof -/
section
theorem cnt_tail : ∀ (l : List UInt8) (k m : Nat), 1 ≤ k → (cnt k m l).2.2 = 0 → 128 ≤ (cnt k m l).1
  | [], k, m, _, h => by
    unfold cnt at h
    split at h <;> simp at h
  | c :: r, k, m, hk, h => by
    unfold cnt at h ⊢
    split at h
    · simp at h
    · rename_i h5
      rw [if_neg h5]
      split at h
      · rename_i h1
        rw [if_pos h1]
        exact cnt_tail r (k + 1) _ (by omega) h
      · rename_i h1
        rw [if_neg h1]
        split at h
        · simp at h
        · rename_i h2
          rw [if_neg h2]
          have hc : c.toNat ≠ 0 := by omega
          have hp : 128 ≤ 128 ^ k := by
            obtain ⟨j, rfl⟩ : ∃ j, k = j + 1 := ⟨k - 1, by omega⟩
            rw [Nat.pow_succ]
            have : 0 < 128 ^ j := Nat.pow_pos (by decide)
            omega
          have hx : c.toNat % 128 = c.toNat := Nat.mod_eq_of_lt (by omega)
          have : 128 ^ k ≤ c.toNat % 128 * 128 ^ k := Nat.le_mul_of_pos_left _ (by omega)
          show 128 ≤ m + c.toNat % 128 * 128 ^ k
          omega
theorem cnt_small (c : UInt8) (r : List UInt8) (h : c.toNat < 128) : cnt 0 0 (c :: r) = (c.toNat, 1, 0) := by
  unfold cnt
  rw [if_neg (by omega), if_neg (by omega), if_neg (by simp; omega)]
  simp
  omega
theorem cnt_big (c : UInt8) (r : List UInt8) (h : 1 < c.toNat) : (cnt 0 0 (c :: r)).2.2 ≠ 0 ∨ 1 < (cnt 0 0 (c :: r)).1 := by
  by_cases h1 : c.toNat < 128
  · rw [cnt_small c r h1]
    exact .inr h
  · by_cases h2 : (cnt 0 0 (c :: r)).2.2 = 0
    · right
      unfold cnt at h2 ⊢
      rw [if_neg (by omega), if_pos (by omega)] at h2 ⊢
      have := cnt_tail r (0 + 1) _ (by omega) h2
      omega
    · exact .inl h2
/-- a proof with other siblings -/
def Pf.put (x : Pf) (l : List (List UInt8)) : Pf := ⟨l, x.other, x.op, x.ov⟩
/-- the rest, and nothing behind it -/
def finP (x : Pf) (l : List UInt8) : Option Pf := match tailP x l with | some (y, []) => some y | _ => none
theorem finP_eq (x : Pf) (l : List UInt8) : finP x l = if (cnt 0 0 l).2.2 ≠ 0 ∨ 256 < (cnt 0 0 l).1 ∨ (l.drop (cnt 0 0 l).2.1).length ≠ 32 * (cnt 0 0 l).1 then none else some (x.put (chunks (cnt 0 0 l).1 (l.drop (cnt 0 0 l).2.1))) := by
  unfold finP tailP
  generalize l.drop (cnt 0 0 l).2.1 = m
  by_cases h1 : (cnt 0 0 l).2.2 ≠ 0 ∨ 256 < (cnt 0 0 l).1
  · rw [if_pos h1, if_pos (by omega)]
  · rw [if_neg h1]
    by_cases h2 : m.length < (cnt 0 0 l).1 * 32
    · rw [if_pos h2, if_pos (by omega)]
    · rw [if_neg h2]
      by_cases h3 : m.length = 32 * (cnt 0 0 l).1
      · rw [if_neg (by omega), List.drop_eq_nil_of_le (by omega)]
        rfl
      · rw [if_pos (by omega)]
        cases hd : m.drop ((cnt 0 0 l).1 * 32) with
        | nil => rw [List.drop_eq_nil_iff] at hd; omega
        | cons _ _ => rfl
theorem getP_nil : getP [] = none := by
  unfold getP rdPf
  rw [if_pos (by decide)]
theorem getP_big (c : UInt8) (r : List UInt8) (h : 1 < c.toNat) : getP (c :: r) = none := by
  unfold getP rdPf
  rw [if_pos (cnt_big c r h)]
theorem getP_zero (c : UInt8) (r : List UInt8) (h : c.toNat = 0) : getP (c :: r) = finP pf0 r := by
  unfold getP rdPf finP
  rw [cnt_small c r (by omega), if_neg (by simp; omega), if_neg (by simp; omega)]
  rfl
theorem getP_one (c : UInt8) (r : List UInt8) (h : c.toNat = 1) : getP (c :: r) = if r.length < 64 then none else finP ⟨[], true, r.take 32, (r.drop 32).take 32⟩ (r.drop 64) := by
  unfold getP rdPf finP
  rw [cnt_small c r (by omega), if_neg (by simp; omega), if_pos (by simpa using h)]
  simp only [List.drop_succ_cons, List.drop_zero]
  by_cases h2 : r.length < 64
  · rw [if_pos h2, if_pos h2]
  · rw [if_neg h2, if_neg h2]
    rfl
end

/-! b[k:] -/
section
theorem underU : Try.prog.underlying 28 = some (.slice (Try.prog.elem 28)) := by kernel_rfl
theorem elemU : Try.prog.elem 28 = 5 := by kernel_rfl
/-- where b[k:] begins -/
def tailU (a : Option Addr) (c k : Nat) : Option Addr := if c = k then a else a.map fun x => x.add k
theorem cutU (W : World) (a : Option Addr) (n c k : Nat) (x : Int) (hx : x = (k : Int)) (hk : k ≤ n) :
    (Instr.slice 28 (.slice a n c) (some (.int .i64 x)) none none).run Try.prog W = .ok (.slice (tailU a c k) (n - k) (c - k)) W ∧
    (Instr.sliceAt 28 (.slice a n c) (some (.int .i64 x)) none none).run Try.prog W = .ok (.slice (tailU a c k) (n - k) (c - k)) W := by
  subst hx
  have h : (Instr.slice 28 (.slice a n c) (some (.int .i64 (k : Int))) none none).run Try.prog W = .ok (.slice (tailU a c k) (n - k) (c - k)) W := by
    rw [run_slice_l W 28 a n c underU .i64 (k : Int) (by omega) (by omega), elemU, sizeU8]
    simp [sliced, Result.andThen, tailU]
  exact ⟨h, by rw [run_sliceAt_slice W 28 _ _ _ _ underU]; exact h⟩
theorem Rd.tailU {w : World} {a : Option Addr} {n c : Nat} {l : List UInt8} (h : Rd w a n c l) (k : Nat) (hk : k ≤ n) : Rd w (tailU a c k) (n - k) (c - k) (l.drop k) := by
  have hc := h.cap
  have hl := h.len
  by_cases e : c = k
  · have hn : n = k := by omega
    have hd : l.drop k = [] := List.drop_eq_nil_of_le (by omega)
    unfold Go.Proofs.Ytmfnpjfhijmboaa.tailU
    rw [if_pos e, hd]
    exact ⟨by simp; omega, by omega, by have := h.max; omega, fun _ => ⟨by omega, by omega⟩, fun ad e2 j u hu => by simp [bs] at hu⟩
  · unfold Go.Proofs.Ytmfnpjfhijmboaa.tailU
    rw [if_neg e]
    exact h.tail k hk e
end

/-- what the reference's Get knows of a world: its variables -/
structure Gr (w W : World) (a' : Option Addr) (k c' : Nat) (x : Pf) : Prop where
  b2 : Blk W w.heap.size 26 (pc none 0 0 pf0)
  b4 : Blk W (w.heap.size + 1) 26 (pc a' k c' x)
  b5 : Blk W (w.heap.size + 1 + 1) 26 (pc none 0 0 pf0)
  own : OwnD W (w.heap.size + 3) (.slice a' k c') x.sibs
  bel : Below w.heap.size w W
  ok : x.ok
theorem Gr.step {w W W4 W5 : World} {a' a5 : Option Addr} {k c' c5 : Nat} {x : Pf} {d : List UInt8} (h : Gr w W a' k c' x) (hd : d.length = 32) (hB : Below W.heap.size W W4) (hO : OwnD W5 (w.heap.size + 3) (.slice a5 (k + 1) c5) (x.sibs ++ [d])) (hg : W4.grownBy W5 (Value.slice a' k c').ownBlock) :
    Gr w (W5.setCell ⟨w.heap.size + 1, 0, none⟩ (.slice a5 (k + 1) c5)) a5 (k + 1) c5 (x.put (x.sibs ++ [d])) := by
  have hlo : ∀ y, (Value.slice a' k c').ownBlock = some y → w.heap.size + 3 ≤ y := fun y e => (h.own.lt e).1
  have hgs := set_grown W5 (w.heap.size + 1) 0 (.slice a5 (k + 1) c5)
  have hs := h.bel.size
  have hs4 := hB.size
  have hs5 := hg.size
  have q4 := ((h.b4.below hB).grown hg (fun e => by have := hlo _ e; omega)).set 0 (.slice a5 (k + 1) c5)
  refine ⟨?_, q4, ?_, ?_, ?_, ⟨h.ok.d.append (okd.single hd), h.ok.p, h.ok.v⟩⟩
  · exact ((h.b2.below hB).grown hg (fun e => by have := hlo _ e; omega)).setOther _ _ (by simp)
  · exact ((h.b5.below hB).grown hg (fun e => by have := hlo _ e; omega)).setOther _ _ (by simp)
  · exact hO.kept hgs (fun y e e2 => by have := (hO.lt e).1; cases e2; omega)
  · exact (((h.bel.trans (hB.mono hs)).grown hg (by omega) (fun y e => by have := hlo _ e; omega))).grown hgs (by omega) (fun y e => by cases e; omega)
theorem Gr.below {w W W' : World} {a' : Option Addr} {k c' : Nat} {x : Pf} (h : Gr w W a' k c' x) (hb : Below W.heap.size W W') : Gr w W' a' k c' x := ⟨h.b2.below hb, h.b4.below hb, h.b5.below hb, h.own.below hb, Bt h.bel hb, h.ok⟩

theorem readDigest_no {w W : World} {a : Option Addr} {n c : Nat} {l : List UInt8} (hr : Rd w a n c l) (hB : Below w.heap.size w W) {k : Nat} (hk0 : k ≤ n) (hk : l.length < k + 32) :
    Calls Try.prog 20 #[.slice (tailU a c k) (n - k) (c - k)] W fun e w' => e = .returned (.tuple #[.agg (bs zero32).toArray, .int .i64 0, .int .i64 10]) ∧ Below W.heap.size W w' := by
  refine (readDigest_any W _ _ _ _ ((hr.below hB).tailU k hk0)).mono ?_
  intro e w' h
  unfold RDPost rdD at h
  rw [if_pos (by rw [List.length_drop]; omega)] at h
  exact h
theorem Gr.set1 {w W : World} (h : Gr w W none 0 0 pf0) : Gr w (W.setCell ⟨w.heap.size + 1, 1, none⟩ (.bool true)) none 0 0 ⟨[], true, zero32, zero32⟩ := by
  have hgs := set_grown W (w.heap.size + 1) 1 (.bool true)
  have hs := h.bel.size
  exact ⟨h.b2.setOther _ _ (by simp), h.b4.set 1 (.bool true), h.b5.setOther _ _ (by simp), h.own.kept hgs (fun y e e2 => by have := (h.own.lt e).1; cases e2; omega), h.bel.grown hgs hs (fun y e => by cases e; omega), ⟨okd.nil, zero32_length, zero32_length⟩⟩
/-- both digests are laid -/
theorem Gr.set2 {w W W1 W2 : World} {p v : List UInt8} (h : Gr w W none 0 0 ⟨[], true, zero32, zero32⟩) (hp : p.length = 32) (hv : v.length = 32) (r2 : Blk W2 (w.heap.size + 1) 26 (splice (splice (pc none 0 0 ⟨[], true, zero32, zero32⟩) 2 (bs p)) 34 (bs v)))
    (hg1 : W.grownBy W1 (some (w.heap.size + 1))) (hg2 : W1.grownBy W2 (some (w.heap.size + 1))) : Gr w W2 none 0 0 ⟨[], true, p, v⟩ := by
  have hs := h.bel.size
  have hs1 := hg1.size
  have e : pc none 0 0 ⟨[], true, zero32, zero32⟩ = (pc none 0 0 pf0).set 1 (.bool true) := rfl
  rw [e, pc_setP p v hp hv] at r2
  refine ⟨(h.b2.grown hg1 (by simp)).grown hg2 (by simp), r2, (h.b5.grown hg1 (by simp)).grown hg2 (by simp), OwnD.nil0 _ _, ?_, ⟨okd.nil, hp, hv⟩⟩
  exact (h.bel.grown hg1 hs (fun y e => by cases e; omega)).grown hg2 (by omega) (fun y e => by cases e; omega)
theorem pf_sibs0 {x : Pf} {l : List UInt8} (h : x.sibs = []) : x.put (chunks 0 l) = x := by cases x; cases h; rfl
theorem readDigest_at {w W : World} {a : Option Addr} {n c : Nat} {l : List UInt8} (hr : Rd w a n c l) (hB : Below w.heap.size w W) {k : Nat} (hk : k + 32 ≤ l.length) :
    Calls Try.prog 20 #[.slice (tailU a c k) (n - k) (c - k)] W fun e w' => e = .returned (.tuple #[.agg (bs ((l.drop k).take 32)).toArray, .int .i64 32, .int .i64 0]) ∧ Below W.heap.size W w' := by
  refine (readDigest_any W _ _ _ _ ((hr.below hB).tailU k (by have := hr.len; omega))).mono ?_
  intro e w' h
  unfold RDPost rdD at h
  rw [if_neg (by rw [List.length_drop]; omega)] at h
  exact h
theorem gr_start {w w1 w2 w3 w4 w5 : World} (hr1 : Blk w1 w.heap.size 26 (pc none 0 0 pf0)) (hg1 : w.grownBy w1 none) (hz1 : w1.heap.size = w.heap.size + 1) (hg2 : w1.grownBy w2 none) (hz2 : w2.heap.size = w1.heap.size + 1)
    (hr3 : Blk w3 w1.heap.size 26 (pc none 0 0 pf0)) (hg3 : w2.grownBy w3 (some w1.heap.size)) (hz3 : w3.heap.size = w2.heap.size) (hg4 : w3.grownBy w4 none) (hz4 : w4.heap.size = w3.heap.size + 1) (hr5 : Blk w5 w3.heap.size 26 (pc none 0 0 pf0)) (hg5 : w4.grownBy w5 (some w3.heap.size)) :
    Gr w w5 none 0 0 pf0 := by
  have e3 : w3.heap.size = w.heap.size + 1 + 1 := by omega
  rw [e3] at hr5 hg5
  rw [hz1] at hr3 hg3
  refine ⟨?_, ?_, hr5, OwnD.nil0 _ _, ?_, pf0_ok⟩
  · exact (((hr1.grown hg2 (by simp)).grown hg3 (by simp)).grown hg4 (by simp)).grown hg5 (by simp; omega)
  · exact (hr3.grown hg4 (by simp)).grown hg5 (by simp)
  · exact (((((Below.refl _ w).grown hg1 (by omega) (fun k e => by cases e)).grown hg2 (by omega) (fun k e => by cases e)).grown hg3 (by omega) (fun k e => by cases e; omega)).grown hg4 (by omega) (fun k e => by cases e)).grown hg5 (by omega) (fun k e => by cases e; omega)

set_option maxRecDepth 100000 in
set_option maxHeartbeats 4000000 in
theorem get_ref (w : World) (a : Option Addr) (n c : Nat) (l : List UInt8) (hr : Rd w a n c l) (hn : n ≤ 65536) :
    Calls Try.prog 11 #[.slice a n c] w (GetPost w l) := by
  have I0 := Lib.hid (size_of (a := none) (n := 0) (c := 0) pf0_ok)
  have O0 := pc_one none 0 0 pf0
  have HP0 := Lib.hid pf0_ok
  have HB := Lib.hid built_pf0
  have hlen := Lib.hid hr.len
  have FS := Lib.hid (fun (W : World) (e : Ending) x a n c (h1 : getP l = some x) (h2 : e = .returned (.tuple #[.agg (pc a n c x).toArray, .int .i64 0])) (h3 : RdP6 W a n c x) (h4 : Below w.heap.size w W) => (show GetPost w l e W from .inl ⟨x, a, n, c, h1, h2, h3, h4⟩))
  have FN := Lib.hid (fun (W : World) (e : Ending) (h1 : getP l = none) (h2 : e = .returned (.tuple #[.agg (pc none 0 0 pf0).toArray, .int .i64 40])) (h4 : Below w.heap.size w W) => (show GetPost w l e W from .inr ⟨h1, h2, h4⟩))
  have G0 := Lib.hid getP_nil
  have G1 := Lib.hid (fun c r h => getP_big c r h)
  have G2 := Lib.hid (fun c r h => getP_zero c r h)
  have G3 := Lib.hid (fun c r h => getP_one c r h)
  generalize GetPost w l = RP at *
  go_enter Try.func11, Try.ntmps11
  by_cases h0 : n = 0
  · subst h0
    have hl : l = [] := List.eq_nil_of_length_eq_zero hlen.out
    subst hl
    go_wp2_with (first | ((with_reducible refine wpList_allocB (o := ⟨some 2, _, _, _, _, _⟩) ?_ 26 ?_ zeroP_info ?_); rfl; rfl; intro w1 hr1 hg1 hz1) | ((with_reducible refine wpList_buildI (dst := some 20) HB.out ?_ ?_); rfl) | ((with_reducible refine wpList_allocB (o := ⟨some 4, _, _, _, _, _⟩) ?_ 26 ?_ zeroP_info ?_); rfl; rfl; intro w2 hr2 hg2 hz2) | ((with_reducible refine wpList_storeB (o := ⟨none, .store 26 (.tmp 4) (.tmp 20), _, _, _, _⟩) ?_ 26 (.tmp 4) (.tmp 20) ?_ ?_ ?_ hr2 I0.out rfl O0 ?_); rfl; rfl; rfl; rfl; intro w3 hr3 hg3 hz3) | ((with_reducible refine wpList_buildI (dst := some 21) HB.out ?_ ?_); rfl) | ((with_reducible refine wpList_allocB (o := ⟨some 5, _, _, _, _, _⟩) ?_ 26 ?_ zeroP_info ?_); rfl; rfl; intro w4 hr4 hg4 hz4) | ((with_reducible refine wpList_storeB (o := ⟨none, .store 26 (.tmp 5) (.tmp 21), _, _, _, _⟩) ?_ 26 (.tmp 5) (.tmp 21) ?_ ?_ ?_ hr4 I0.out rfl O0 ?_); rfl; rfl; rfl; rfl; intro w5 hr5 hg5 hz5; have hS : Gr w w5 none 0 0 pf0 := gr_start hr1 hg1 hz1 hg2 hz2 hr3 hg3 hz3 hg4 hz4 hr5 hg5; have hb5 := hS.b5; have hb2 := hS.b2; have HBE := Lib.hid hS.bel) | ((with_reducible refine wpList_loadB (o := ⟨some 31, _, _, _, _, _⟩) ?_ 26 (.tmp 5) ?_ ?_ hb5 Try.underlying26 ?_ I0.out ?_); rfl; rfl; rfl; rfl) | ((with_reducible refine wpList_storeB (o := ⟨none, .store 26 (.tmp 2) (.tmp 31), _, _, _, _⟩) ?_ 26 (.tmp 2) (.tmp 31) ?_ ?_ ?_ hb2 I0.out rfl O0 ?_); rfl; rfl; rfl; rfl; intro w9 hr9 hg9 hz9))
    try simp only [Exit.inBlock, Exit.then]
    exact bodyPost_ret (results_blk2 rfl _ _ _ _ _ _ rfl hr9 Try.underlying26 rfl I0.out) rfl (FN.out _ _ G0.out rfl (grown_to_below HBE.out hg9 (Nat.le_refl _)))
  · obtain ⟨b, off, hae, -⟩ := hr.at (by omega)
    subst hae
    obtain ⟨ch, rs, hlr⟩ : ∃ ch rs, l = ch :: rs := by
      cases l with
      | nil => exact absurd (by simpa using hlen.out.symm) h0
      | cons ch rs => exact ⟨ch, rs, rfl⟩
    have hcell : w.cell? ⟨b, off, none⟩ = some (.int .u8 (ch.toNat : Int)) := by
      have := hr.byteC (k := 0) (by rw [hlr]; simp)
      simpa [hlr] using this
    have HC := Lib.hid hcell
    clear hcell
    have hch : ch.toNat < 256 := ch.toNat_lt
    have h0' : ((n : Int) == 0) = false := by simpa using h0
    by_cases hx1 : 1 < ch.toNat
    · have HRES := Lib.hid (show getP l = none by rw [hlr]; exact G1.out ch rs hx1)
      clear hlr
      generalize ch.toNat = x at *
      go_wp2_with (first | ((with_reducible refine wpList_allocB (o := ⟨some 2, _, _, _, _, _⟩) ?_ 26 ?_ zeroP_info ?_); rfl; rfl; intro w1 hr1 hg1 hz1) | ((with_reducible refine wpList_buildI (dst := some 20) HB.out ?_ ?_); rfl) | ((with_reducible refine wpList_allocB (o := ⟨some 4, _, _, _, _, _⟩) ?_ 26 ?_ zeroP_info ?_); rfl; rfl; intro w2 hr2 hg2 hz2) | ((with_reducible refine wpList_storeB (o := ⟨none, .store 26 (.tmp 4) (.tmp 20), _, _, _, _⟩) ?_ 26 (.tmp 4) (.tmp 20) ?_ ?_ ?_ hr2 I0.out rfl O0 ?_); rfl; rfl; rfl; rfl; intro w3 hr3 hg3 hz3) | ((with_reducible refine wpList_buildI (dst := some 21) HB.out ?_ ?_); rfl) | ((with_reducible refine wpList_allocB (o := ⟨some 5, _, _, _, _, _⟩) ?_ 26 ?_ zeroP_info ?_); rfl; rfl; intro w4 hr4 hg4 hz4) | ((with_reducible refine wpList_storeB (o := ⟨none, .store 26 (.tmp 5) (.tmp 21), _, _, _, _⟩) ?_ 26 (.tmp 5) (.tmp 21) ?_ ?_ ?_ hr4 I0.out rfl O0 ?_); rfl; rfl; rfl; rfl; intro w5 hr5 hg5 hz5; have hS : Gr w w5 none 0 0 pf0 := gr_start hr1 hg1 hz1 hg2 hz2 hr3 hg3 hz3 hg4 hz4 hr5 hg5; have hb5 := hS.b5; have hb2 := hS.b2; have HBE := Lib.hid hS.bel; have hcell := cell_later hS.bel HC.out) | ((with_reducible refine wpList_loadB (o := ⟨some 31, _, _, _, _, _⟩) ?_ 26 (.tmp 5) ?_ ?_ hb5 Try.underlying26 ?_ I0.out ?_); rfl; rfl; rfl; rfl) | ((with_reducible refine wpList_storeB (o := ⟨none, .store 26 (.tmp 2) (.tmp 31), _, _, _, _⟩) ?_ 26 (.tmp 2) (.tmp 31) ?_ ?_ ?_ hb2 I0.out rfl O0 ?_); rfl; rfl; rfl; rfl; intro w9 hr9 hg9 hz9))
      try simp only [Exit.inBlock, Exit.then]
      exact bodyPost_ret (results_blk2 rfl _ _ _ _ _ _ rfl hr9 Try.underlying26 rfl I0.out) rfl (FN.out _ _ HRES.out rfl (grown_to_below HBE.out hg9 (Nat.le_refl _)))
    · by_cases hx : ch.toNat = 1
      · have HO := Lib.hid (show getP l = if n < 65 then none else finP ⟨[], true, (l.drop 1).take 32, (l.drop 33).take 32⟩ (l.drop 65) by
          rw [hlr, G3.out ch rs hx, ← hlen.out, hlr]
          simp only [List.length_cons, List.drop_succ_cons, List.drop_zero]
          by_cases h : rs.length < 64
          · rw [if_pos h, if_pos (by omega)]
          · rw [if_neg h, if_neg (by omega)])
        clear hlr
        rw [hx] at HC
        clear hx hch hx1
        have hn1 : 1 ≤ n := by omega
        have CU1 := fun (W : World) => (cutU W (some ⟨b, off, none⟩) n c 1 1 rfl hn1).1
        have CU1' := fun (W : World) => (cutU W (some ⟨b, off, none⟩) n c 1 1 rfl hn1).2
        have HZ : Hid ((Try.prog.info? 24).map (·.size) = some (bs zero32).length ∧ ∀ u ∈ bs zero32, u.oneCell' = true) := Lib.hid ⟨digP zero32_length, bs_one zero32⟩
        by_cases h33 : n < 33
        · have RD := Lib.hid (fun (W : World) (hB : Below w.heap.size w W) => readDigest_no hr hB hn1 (by rw [hlen.out]; omega))
          have HRES := Lib.hid (show getP l = none by rw [HO.out, if_pos (by omega)])
          go_wp2_with (first | ((with_reducible refine wpList_allocB (o := ⟨some 2, _, _, _, _, _⟩) ?_ 26 ?_ zeroP_info ?_); rfl; rfl; intro w1 hr1 hg1 hz1) | ((with_reducible refine wpList_buildI (dst := some 20) HB.out ?_ ?_); rfl) | ((with_reducible refine wpList_allocB (o := ⟨some 4, _, _, _, _, _⟩) ?_ 26 ?_ zeroP_info ?_); rfl; rfl; intro w2 hr2 hg2 hz2) | ((with_reducible refine wpList_storeB (o := ⟨none, .store 26 (.tmp 4) (.tmp 20), _, _, _, _⟩) ?_ 26 (.tmp 4) (.tmp 20) ?_ ?_ ?_ hr2 I0.out rfl O0 ?_); rfl; rfl; rfl; rfl; intro w3 hr3 hg3 hz3) | ((with_reducible refine wpList_buildI (dst := some 21) HB.out ?_ ?_); rfl) | ((with_reducible refine wpList_allocB (o := ⟨some 5, _, _, _, _, _⟩) ?_ 26 ?_ zeroP_info ?_); rfl; rfl; intro w4 hr4 hg4 hz4) | ((with_reducible refine wpList_storeB (o := ⟨none, .store 26 (.tmp 5) (.tmp 21), _, _, _, _⟩) ?_ 26 (.tmp 5) (.tmp 21) ?_ ?_ ?_ hr4 I0.out rfl O0 ?_); rfl; rfl; rfl; rfl; intro w5 hr5 hg5 hz5; have hS : Gr w w5 none 0 0 pf0 := gr_start hr1 hg1 hz1 hg2 hz2 hr3 hg3 hz3 hg4 hz4 hr5 hg5; have hb5 := hS.b5; have hb2 := hS.b2; have HBE := Lib.hid hS.bel; have hcell := cell_later hS.bel HC.out; have hc41 := hS.b4.cell (j := 1) rfl; have hf41 := hS.b4.free 1))
          have hS6 := hS.set1
          generalize w5.setCell ⟨w.heap.size + 1, 1, none⟩ (.bool true) = w6 at *
          refine (RD.out _ hS6.bel).mono ?_
          rintro e w7 ⟨rfl, hB7⟩
          go_wp2_with (first | ((with_reducible refine wpList_allocB (o := ⟨some 7, _, _, _, _, _⟩) ?_ 24 ?_ zeroD_info ?_); rfl; rfl; intro w8 hrw8 hgw8 hzw8) | ((with_reducible refine wpList_storeB (o := ⟨none, .store 24 (.tmp 7) (.tmp 42), _, _, _, _⟩) ?_ 24 (.tmp 7) (.tmp 42) ?_ ?_ ?_ hrw8 HZ.out.1 rfl HZ.out.2 ?_); rfl; rfl; rfl; rfl; intro w9 hrw9 hgw9 hzw9; have hBw9 : Below w7.heap.size w7 w9 := ((Below.refl _ w7).grown hgw8 (Nat.le_refl _) (fun k e => by cases e)).grown hgw9 (by omega) (fun k e => by cases e; omega)))
          have hS9 := (hS6.below hB7).below hBw9
          refine (RD.out _ hS9.bel).mono ?_
          rintro e w10 ⟨rfl, hB10⟩
          have hS10 := hS9.below hB10
          have hb2 := hS10.b2
          have hb5 := hS10.b5
          have HBE := Lib.hid hS10.bel
          clear hzw8 hzw9 hrw8 hrw9 hgw8 hgw9
          go_wp2_with (first | ((with_reducible refine wpList_allocB (o := ⟨some 10, _, _, _, _, _⟩) ?_ 24 ?_ zeroD_info ?_); rfl; rfl; intro w11 hr11 hg11 hz11) | ((with_reducible refine wpList_storeB (o := ⟨none, .store 24 (.tmp 10) (.tmp 52), _, _, _, _⟩) ?_ 24 (.tmp 10) (.tmp 52) ?_ ?_ ?_ hr11 HZ.out.1 rfl HZ.out.2 ?_); rfl; rfl; rfl; rfl; intro w12 hr12 hg12 hz12; have hB12 : Below w10.heap.size w10 w12 := ((Below.refl _ w10).grown hg11 (Nat.le_refl _) (fun k e => by cases e)).grown hg12 (by omega) (fun k e => by cases e; omega); have hb2 := hb2.below hB12; have hb5 := hb5.below hB12) | ((with_reducible refine wpList_loadB (o := ⟨some 61, _, _, _, _, _⟩) ?_ 26 (.tmp 5) ?_ ?_ hb5 Try.underlying26 ?_ I0.out ?_); rfl; rfl; rfl; rfl) | ((with_reducible refine wpList_storeB (o := ⟨none, .store 26 (.tmp 2) (.tmp 61), _, _, _, _⟩) ?_ 26 (.tmp 2) (.tmp 61) ?_ ?_ ?_ hb2 I0.out rfl O0 ?_); rfl; rfl; rfl; rfl; intro w13 hr13 hg13 hz13))
          try simp only [Exit.inBlock, Exit.then]
          exact bodyPost_ret (results_blk2 rfl _ _ _ _ _ _ rfl hr13 Try.underlying26 rfl I0.out) rfl (FN.out _ _ HRES.out rfl (grown_to_below (Bt HBE.out hB12) hg13 (Nat.le_refl _)))
        · have hn33 : 33 ≤ n := by omega
          have CU3 := fun (W : World) => (cutU W (some ⟨b, off, none⟩) n c 33 33 rfl hn33).1
          have CU3' := fun (W : World) => (cutU W (some ⟨b, off, none⟩) n c 33 33 rfl hn33).2
          have RD1 := Lib.hid (fun (W : World) (hB : Below w.heap.size w W) => readDigest_at hr hB (k := 1) (by rw [hlen.out]; omega))
          have hpl : ((l.drop 1).take 32).length = 32 := by rw [List.length_take, List.length_drop, hlen.out]; omega
          have HPL := Lib.hid hpl
          have HP : Hid ((Try.prog.info? 24).map (·.size) = some (bs ((l.drop 1).take 32)).length ∧ (bs zero32).length = (bs ((l.drop 1).take 32)).length ∧ ∀ u ∈ bs ((l.drop 1).take 32), u.oneCell' = true) := Lib.hid ⟨digP hpl, by rw [bs_length, bs_length, zero32_length, hpl], bs_one _⟩
          clear hpl
          by_cases h65 : n < 65
          · have RD2 := Lib.hid (fun (W : World) (hB : Below w.heap.size w W) => readDigest_no hr hB hn33 (by rw [hlen.out]; omega))
            have HRES := Lib.hid (show getP l = none by rw [HO.out, if_pos h65])
            clear HO
            generalize (l.drop 1).take 32 = p at *
            go_wp2_with (first | ((with_reducible refine wpList_allocB (o := ⟨some 2, _, _, _, _, _⟩) ?_ 26 ?_ zeroP_info ?_); rfl; rfl; intro w1 hr1 hg1 hz1) | ((with_reducible refine wpList_buildI (dst := some 20) HB.out ?_ ?_); rfl) | ((with_reducible refine wpList_allocB (o := ⟨some 4, _, _, _, _, _⟩) ?_ 26 ?_ zeroP_info ?_); rfl; rfl; intro w2 hr2 hg2 hz2) | ((with_reducible refine wpList_storeB (o := ⟨none, .store 26 (.tmp 4) (.tmp 20), _, _, _, _⟩) ?_ 26 (.tmp 4) (.tmp 20) ?_ ?_ ?_ hr2 I0.out rfl O0 ?_); rfl; rfl; rfl; rfl; intro w3 hr3 hg3 hz3) | ((with_reducible refine wpList_buildI (dst := some 21) HB.out ?_ ?_); rfl) | ((with_reducible refine wpList_allocB (o := ⟨some 5, _, _, _, _, _⟩) ?_ 26 ?_ zeroP_info ?_); rfl; rfl; intro w4 hr4 hg4 hz4) | ((with_reducible refine wpList_storeB (o := ⟨none, .store 26 (.tmp 5) (.tmp 21), _, _, _, _⟩) ?_ 26 (.tmp 5) (.tmp 21) ?_ ?_ ?_ hr4 I0.out rfl O0 ?_); rfl; rfl; rfl; rfl; intro w5 hr5 hg5 hz5; have hS : Gr w w5 none 0 0 pf0 := gr_start hr1 hg1 hz1 hg2 hz2 hr3 hg3 hz3 hg4 hz4 hr5 hg5; have hb5 := hS.b5; have hb2 := hS.b2; have HBE := Lib.hid hS.bel; have hcell := cell_later hS.bel HC.out; have hc41 := hS.b4.cell (j := 1) rfl; have hf41 := hS.b4.free 1))
            have hS6 := hS.set1
            generalize w5.setCell ⟨w.heap.size + 1, 1, none⟩ (.bool true) = w6 at *
            refine (RD1.out _ hS6.bel).mono ?_
            rintro e w7 ⟨rfl, hB7⟩
            go_wp2_with (first | ((with_reducible refine wpList_allocB (o := ⟨some 7, _, _, _, _, _⟩) ?_ 24 ?_ zeroD_info ?_); rfl; rfl; intro w8 hrw8 hgw8 hzw8) | ((with_reducible refine wpList_storeB (o := ⟨none, .store 24 (.tmp 7) (.tmp 42), _, _, _, _⟩) ?_ 24 (.tmp 7) (.tmp 42) ?_ ?_ ?_ hrw8 HP.out.1 HP.out.2.1 HP.out.2.2 ?_); rfl; rfl; rfl; rfl; intro w9 hrw9 hgw9 hzw9; have hBw9 : Below w7.heap.size w7 w9 := ((Below.refl _ w7).grown hgw8 (Nat.le_refl _) (fun k e => by cases e)).grown hgw9 (by omega) (fun k e => by cases e; omega)))
            have hS9 := (hS6.below hB7).below hBw9
            refine (RD2.out _ hS9.bel).mono ?_
            rintro e w10 ⟨rfl, hB10⟩
            have hS10 := hS9.below hB10
            have hb2 := hS10.b2
            have hb5 := hS10.b5
            have HBE := Lib.hid hS10.bel
            clear hzw8 hzw9 hrw8 hrw9 hgw8 hgw9
            go_wp2_with (first | ((with_reducible refine wpList_allocB (o := ⟨some 10, _, _, _, _, _⟩) ?_ 24 ?_ zeroD_info ?_); rfl; rfl; intro w11 hr11 hg11 hz11) | ((with_reducible refine wpList_storeB (o := ⟨none, .store 24 (.tmp 10) (.tmp 52), _, _, _, _⟩) ?_ 24 (.tmp 10) (.tmp 52) ?_ ?_ ?_ hr11 HZ.out.1 rfl HZ.out.2 ?_); rfl; rfl; rfl; rfl; intro w12 hr12 hg12 hz12; have hB12 : Below w10.heap.size w10 w12 := ((Below.refl _ w10).grown hg11 (Nat.le_refl _) (fun k e => by cases e)).grown hg12 (by omega) (fun k e => by cases e; omega); have hb2 := hb2.below hB12; have hb5 := hb5.below hB12) | ((with_reducible refine wpList_loadB (o := ⟨some 61, _, _, _, _, _⟩) ?_ 26 (.tmp 5) ?_ ?_ hb5 Try.underlying26 ?_ I0.out ?_); rfl; rfl; rfl; rfl) | ((with_reducible refine wpList_storeB (o := ⟨none, .store 26 (.tmp 2) (.tmp 61), _, _, _, _⟩) ?_ 26 (.tmp 2) (.tmp 61) ?_ ?_ ?_ hb2 I0.out rfl O0 ?_); rfl; rfl; rfl; rfl; intro w13 hr13 hg13 hz13))
            try simp only [Exit.inBlock, Exit.then]
            exact bodyPost_ret (results_blk2 rfl _ _ _ _ _ _ rfl hr13 Try.underlying26 rfl I0.out) rfl (FN.out _ _ HRES.out rfl (grown_to_below (Bt HBE.out hB12) hg13 (Nat.le_refl _)))
          · have hat0 : 65 ≤ n := by omega
            have RD2 := Lib.hid (fun (W : World) (hB : Below w.heap.size w W) => readDigest_at hr hB (k := 33) (by rw [hlen.out]; omega))
            have hvl : ((l.drop 33).take 32).length = 32 := by rw [List.length_take, List.length_drop, hlen.out]; omega
            have HVL := Lib.hid hvl
            have HV : Hid ((Try.prog.info? 24).map (·.size) = some (bs ((l.drop 33).take 32)).length ∧ (bs zero32).length = (bs ((l.drop 33).take 32)).length ∧ ∀ u ∈ bs ((l.drop 33).take 32), u.oneCell' = true) := Lib.hid ⟨digP hvl, by rw [bs_length, bs_length, zero32_length, hvl], bs_one _⟩
            have HT := Lib.hid (show getP l = finP ⟨[], true, (l.drop 1).take 32, (l.drop 33).take 32⟩ (l.drop 65) by rw [HO.out, if_neg h65])
            clear hvl HO
            generalize (l.drop 1).take 32 = p at *
            generalize (l.drop 33).take 32 = v at *
            have HFI1 : Hid (2 + (bs p).length ≤ (pc none 0 0 ⟨[], true, zero32, zero32⟩).length) := Lib.hid (by rw [pc_length _ _ _ _ zero32_length zero32_length, bs_length, HPL.out]; decide)
            have HFI2 : Hid (34 + (bs v).length ≤ (splice (pc none 0 0 ⟨[], true, zero32, zero32⟩) 2 (bs p)).length) := Lib.hid (by rw [splice_len _ _ _ HFI1.out, pc_length _ _ _ _ zero32_length zero32_length, bs_length, HVL.out]; decide)
            have HI1 := Lib.hid HP.out.1
            have HI2 := Lib.hid HV.out.1
            have ho1 := HP.out.2.2
            have ho2 := HV.out.2.2
            have hRt := Lib.hid (fun (W : World) (hB : Below w.heap.size w W) => (hr.below hB).tailU 65 hat0)
            obtain ⟨m1, m2, m3, -, -⟩ := cnt_le (l.drop 65) 0 0 (by omega)
            have hF := finP_eq ⟨[], true, p, v⟩ (l.drop 65)
            have RC := Lib.hid (fun (W : World) (hB : Below w.heap.size w W) => readCount_any W _ _ _ _ (hRt.out W hB))
            unfold CntPost at RC
            obtain ⟨N, S1, E1, hcnt1⟩ : ∃ x y z, cnt 0 0 (l.drop 65) = (x, y, z) := ⟨_, _, _, rfl⟩
            rw [hcnt1] at RC hF m1 m2 m3
            simp only at RC hF m1 m2 m3
            have hat1 : 65 + S1 ≤ n := by rw [List.length_drop, hlen.out] at m1; omega
            rw [List.drop_drop, List.length_drop, hlen.out] at hF
            have HF := Lib.hid hF
            clear hF hcnt1 m1 hRt
            have CU0 := fun (W : World) => (cutU W (some ⟨b, off, none⟩) n c 65 65 rfl hat0).1
            have CU0' := fun (W : World) => (cutU W (some ⟨b, off, none⟩) n c 65 65 rfl hat0).2
            go_wp2_with (first | ((with_reducible refine wpList_allocB (o := ⟨some 2, _, _, _, _, _⟩) ?_ 26 ?_ zeroP_info ?_); rfl; rfl; intro w1 hr1 hg1 hz1) | ((with_reducible refine wpList_buildI (dst := some 20) HB.out ?_ ?_); rfl) | ((with_reducible refine wpList_allocB (o := ⟨some 4, _, _, _, _, _⟩) ?_ 26 ?_ zeroP_info ?_); rfl; rfl; intro w2 hr2 hg2 hz2) | ((with_reducible refine wpList_storeB (o := ⟨none, .store 26 (.tmp 4) (.tmp 20), _, _, _, _⟩) ?_ 26 (.tmp 4) (.tmp 20) ?_ ?_ ?_ hr2 I0.out rfl O0 ?_); rfl; rfl; rfl; rfl; intro w3 hr3 hg3 hz3) | ((with_reducible refine wpList_buildI (dst := some 21) HB.out ?_ ?_); rfl) | ((with_reducible refine wpList_allocB (o := ⟨some 5, _, _, _, _, _⟩) ?_ 26 ?_ zeroP_info ?_); rfl; rfl; intro w4 hr4 hg4 hz4) | ((with_reducible refine wpList_storeB (o := ⟨none, .store 26 (.tmp 5) (.tmp 21), _, _, _, _⟩) ?_ 26 (.tmp 5) (.tmp 21) ?_ ?_ ?_ hr4 I0.out rfl O0 ?_); rfl; rfl; rfl; rfl; intro w5 hr5 hg5 hz5; have hS : Gr w w5 none 0 0 pf0 := gr_start hr1 hg1 hz1 hg2 hz2 hr3 hg3 hz3 hg4 hz4 hr5 hg5; have hb5 := hS.b5; have hb2 := hS.b2; have HBE := Lib.hid hS.bel; have hcell := cell_later hS.bel HC.out; have hc41 := hS.b4.cell (j := 1) rfl; have hf41 := hS.b4.free 1))
            have hS6 := hS.set1
            generalize w5.setCell ⟨w.heap.size + 1, 1, none⟩ (.bool true) = w6 at *
            refine (RD1.out _ hS6.bel).mono ?_
            rintro e w7 ⟨rfl, hB7⟩
            have hl7 := (hS6.below hB7).b4.lt
            go_wp2_with (first | ((with_reducible refine wpList_allocB (o := ⟨some 7, _, _, _, _, _⟩) ?_ 24 ?_ zeroD_info ?_); rfl; rfl; intro w8 hrw8 hgw8 hzw8) | ((with_reducible refine wpList_storeB (o := ⟨none, .store 24 (.tmp 7) (.tmp 42), _, _, _, _⟩) ?_ 24 (.tmp 7) (.tmp 42) ?_ ?_ ?_ hrw8 HP.out.1 HP.out.2.1 HP.out.2.2 ?_); rfl; rfl; rfl; rfl; intro w9 hrw9 hgw9 hzw9; have hBw9 : Below w7.heap.size w7 w9 := ((Below.refl _ w7).grown hgw8 (Nat.le_refl _) (fun k e => by cases e)).grown hgw9 (by omega) (fun k e => by cases e; omega)))
            have hS9 := (hS6.below hB7).below hBw9
            refine (RD2.out _ hS9.bel).mono ?_
            rintro e w10 ⟨rfl, hB10⟩
            have hS10 := hS9.below hB10
            have hp10 := hrw9.below hB10
            have hl10 := hS10.b4.lt
            clear hzw8 hzw9 hrw8 hrw9 hgw8 hgw9
            go_wp2_with (first | ((with_reducible refine wpList_allocB (o := ⟨some 10, _, _, _, _, _⟩) ?_ 24 ?_ zeroD_info ?_); rfl; rfl; intro w11 hr11 hg11 hz11) | ((with_reducible refine wpList_storeB (o := ⟨none, .store 24 (.tmp 10) (.tmp 52), _, _, _, _⟩) ?_ 24 (.tmp 10) (.tmp 52) ?_ ?_ ?_ hr11 HV.out.1 HV.out.2.1 HV.out.2.2 ?_); rfl; rfl; rfl; rfl; intro w12 hr12 hg12 hz12; have hB12 : Below w10.heap.size w10 w12 := ((Below.refl _ w10).grown hg11 (Nat.le_refl _) (fun k e => by cases e)).grown hg12 (by omega) (fun k e => by cases e; omega); have hp12 := hp10.below hB12; have hS12 := hS10.below hB12; have hb412 := hS12.b4) | ((with_reducible refine wpList_loadB (o := ⟨some 62, _, _, _, _, _⟩) ?_ 24 (.tmp 7) ?_ ?_ hp12 Try.underlying24 ?_ HI1.out ?_); rfl; rfl; rfl; rfl) | (((with_reducible refine wpList_storeM (o := ⟨none, .store 24 (.tmp 63) (.tmp 62), _, _, _, _⟩) ?_ (w.heap.size + 1) 2 24 (.tmp 63) (.tmp 62) ?_ ?_ ?_ hb412 HFI1.out HI1.out ho1 ?_); rfl; rfl; rfl; rfl; intro w13 hr13 hg13 hz13); have hv13 := hr12.grown hg13 (by simp; omega)) | ((with_reducible refine wpList_loadB (o := ⟨some 64, _, _, _, _, _⟩) ?_ 24 (.tmp 10) ?_ ?_ hv13 Try.underlying24 ?_ HI2.out ?_); rfl; rfl; rfl; rfl) | ((with_reducible refine wpList_storeM (o := ⟨none, .store 24 (.tmp 65) (.tmp 64), _, _, _, _⟩) ?_ (w.heap.size + 1) 34 24 (.tmp 65) (.tmp 64) ?_ ?_ ?_ hr13 HFI2.out HI2.out ho2 ?_); rfl; rfl; rfl; rfl; intro w14 hr14 hg14 hz14))
            have hS := hS12.set2 HPL.out HVL.out hr14 hg13 hg14
            have HS0 : Hid ((⟨[], true, p, v⟩ : Pf).sibs = []) := Lib.hid rfl
            generalize (⟨[], true, p, v⟩ : Pf) = x4 at *
            refine (RC.out _ hS.bel).mono ?_
            rintro e w6 ⟨rfl, rfl⟩
            by_cases hE1 : E1 = 0
            · subst hE1
              by_cases hN : N ≤ 256
              · have hN' : ¬ (256 : Int) < (N : Int) := by omega
                by_cases hq : n - (65 + S1) = 32 * N
                · have hq1 : ((n : Int) - (65 + (S1 : Int)) != 32 * (N : Int)) = false := by simp; omega
                  have hq2 : (n : Int) - (65 + (S1 : Int)) = 32 * (N : Int) := by omega
                  have HRES : Hid (getP l = some ((x4).put (chunks N (l.drop (65 + S1))))) := Lib.hid (by rw [HT.out, HF.out, if_neg (by omega)])
                  have hS0 : Gr w w14 none 0 0 ((x4).put (chunks 0 (l.drop (65 + S1)))) := by
                    have e : (((x4).put (chunks 0 (l.drop (65 + S1)))) : Pf) = x4 := pf_sibs0 HS0.out
                    rw [e]; exact hS
                  have HLE : Hid (65 + S1 + N * 32 = n) := Lib.hid (by omega)
                  have hNN := hN
                  have HDR := Lib.hid (fun k => (List.drop_drop (l := l) (i := k * 32) (j := 65 + S1)))
                  clear RC HF hN hS
                  generalize hl5 : l.drop (65 + S1) = l5 at *
                  go_wp2_with fail
                  go_loopw [6, 16] (fun t6 t16 wr => ∃ (k : Nat) (a' : Option Addr) (c' : Nat), k ≤ N ∧ t16 = .int .i64 (k : Int) ∧ t6 = .int .i64 ((65 + S1 + k * 32 : Nat) : Int) ∧ Gr w wr a' k c' ((x4).put (chunks k l5))) (fun _ t16 _ => N - (intOf t16).toNat)
                  case atStart => exact ⟨0, none, 0, by omega, rfl, by go_num, hS0⟩
                  case round =>
                    obtain ⟨k, a', c', hk, rfl, rfl, hG⟩ := hrel
                    by_cases hlt : k < N
                    · have hkl : (k : Int) < (N : Int) := by omega
                      have hle := HLE.out
                      have hat : 65 + S1 + k * 32 + 32 ≤ n := by omega
                      have RD := Lib.hid (readDigest_at hr hG.bel (by rw [hlen.out]; exact hat))
                      rw [← HDR.out] at RD
                      have hdl : (((l5).drop (k * 32)).take 32).length = 32 := by rw [List.length_take, List.length_drop, ← hl5, List.length_drop, hlen.out]; omega
                      have HST := Lib.hid (fun (W4 W5 : World) (a5 : Option Addr) (c5 : Nat) => hG.step (W4 := W4) (W5 := W5) (a5 := a5) (c5 := c5) hdl)
                      have HCH : Hid (chunks (k + 1) l5 = chunks k l5 ++ [(l5.drop (k * 32)).take 32]) := Lib.hid (chunks_succ k l5)
                      have CUk := fun (W : World) => (cutU W (some ⟨b, off, none⟩) n c (65 + S1 + k * 32) ((65 + S1 + k * 32 : Nat) : Int) rfl (by omega)).1
                      have CUk' := fun (W : World) => (cutU W (some ⟨b, off, none⟩) n c (65 + S1 + k * 32) ((65 + S1 + k * 32 : Nat) : Int) rfl (by omega)).2
                      have c4 := hG.b4.cell (j := 0) rfl
                      have hO := hG.own
                      have hbl := hG.b4.lt
                      have HB4 := Lib.hid hG
                      have hws : w.heap.size + 3 ≤ wr.heap.size := by have := hG.b5.lt; omega
                      have hkk : k ≤ 256 := by omega
                      clear hle hat hG
                      generalize (l5.drop (k * 32)).take 32 = d at *
                      have H5 := Lib.hid (digP hdl)
                      have H6 := Lib.hid (show (bs zero32).length = (bs d).length by rw [bs_length, bs_length, zero32_length, hdl])
                      have H7 := bs_one d
                      have hatb : 65 + S1 + k * 32 + 32 ≤ 65536 := by have := HLE.out; omega
                      generalize hat2 : 65 + S1 + k * 32 = at2 at *
                      have HAT := Lib.hid hat2
                      clear hat2
                      have HQ : Hid (((x4).put (chunks k l5)).sibs = chunks k l5 ∧ ((x4).put (chunks k l5)).sibs.length = k) := Lib.hid ⟨rfl, chunks_length k l5⟩
                      have hlow : ∀ y, (Value.slice a' k c').ownBlock = some y → w.heap.size + 3 ≤ y := fun y e => (hO.lt e).1
                      have HLOW := Lib.hid hlow
                      have hql : ((x4).put (chunks k l5)).sibs.length + 1 ≤ 1000000 := by rw [HQ.out.2]; omega
                      generalize ((x4).put (chunks k l5)).sibs = q at *
                      clear hlow
                      go_wp2_with fail
                      refine RD.out.mono ?_
                      rintro e w7 ⟨rfl, hB7⟩
                      have c47 := cell_later hB7 c4
                      have hO7 := hO.below hB7
                      have hws7 : w.heap.size + 3 ≤ w7.heap.size := Nat.le_trans hws hB7.size
                      clear hO c4
                      go_wp2_with (first | ((with_reducible refine wpList_allocB (o := ⟨some 17, _, _, _, _, _⟩) ?_ 24 ?_ zeroD_info ?_); rfl; rfl; intro w8 hr8 hg8 hz8) | ((with_reducible refine wpList_storeB (o := ⟨none, .store 24 (.tmp 17) (.tmp 108), _, _, _, _⟩) ?_ 24 (.tmp 17) (.tmp 108) ?_ ?_ ?_ hr8 H5.out H6.out H7 ?_); rfl; rfl; rfl; rfl; intro w9 hr9 hg9 hz9; have hB9 : Below w7.heap.size w7 w9 := ((Below.refl _ w7).grown hg8 (Nat.le_refl _) (fun k e => by cases e)).grown hg9 (by omega) (fun k e => by cases e; omega); have c49 := cell_later hB9 c47; have hz97 : w7.heap.size ≤ w9.heap.size := (by omega)) | ((with_reducible refine wpList_loadB (o := ⟨some 113, _, _, _, _, _⟩) ?_ 24 (.tmp 17) ?_ ?_ hr9 Try.underlying24 ?_ H5.out ?_); rfl; rfl; rfl; rfl) | ((with_reducible refine wpList_oneD (o := ⟨some 114, _, _, _, _, _⟩) ?_ (.tmp 113) ?_ hdl ?_ ?_); rfl; rfl; rfl; have hR10 := RdD.many w9 (ys := [d]) (n := 1) (okd.single hdl) rfl (by decide); have hB10 : Below w7.heap.size w7 (w9.alloc (.cells (dcs [d]).toArray 24)) := hB9.alloc hz97 _; have hO10 := hO7.below hB10; have hz10 : w.heap.size + 3 ≤ (w9.alloc (.cells (dcs [d]).toArray 24)).heap.size := Nat.le_trans hws7 hB10.size) | ((with_reducible refine wpList_appD (o := ⟨some 115, _, _, _, _, _⟩) ?_ (.tmp 112) (.tmp 114) ?_ ?_ hO10 ?_ hR10 hql hz10 ?_); rfl; rfl; rfl; rfl; intro a11 c11 w11 hO11 hg11 hx11; rw [HQ.out.2] at hO11 ⊢; have hb411 := ((HB4.out.b4.below hB7).below hB10).grown hg11 (fun e => by have := HLOW.out _ e; omega); have c411 := hb411.cell (j := 0) rfl; have f411 := hb411.free 0))
                      go_roundw
                      case rel =>
                        have hst := HST.out _ w11 a11 c11 (Bt hB7 hB10) hO11 hg11
                        have e : ((x4).put (chunks k l5)).put (q ++ [d]) = (x4).put (chunks (k + 1) l5) := by rw [HCH.out, HQ.out.1]; rfl
                        rw [e] at hst
                        exact ⟨k + 1, a11, c11, by omega, by go_num, by rw [← HAT.out]; go_num, hst⟩
                      case measure => simp [intOf]; omega
                    · obtain rfl : k = N := by omega
                      have hkl : ¬ (k : Int) < (k : Int) := by omega
                      have hb4 := hG.b4
                      have hb2 := hG.b2
                      have I7 := Lib.hid (size_of (a := a') (n := k) (c := c') hG.ok)
                      have L7 := Lib.hid (cells_len (a := none) (n := 0) (c := 0) (a' := a') (n' := k) (c' := c') HP0.out hG.ok)
                      have O7 := pc_one a' k c' ((x4).put (chunks k l5))
                      have HG := Lib.hid hG
                      clear hG
                      generalize (x4).put (chunks k l5) = X at *
                      go_wp2_with (first | ((with_reducible refine wpList_loadB (o := ⟨some 120, _, _, _, _, _⟩) ?_ 26 (.tmp 4) ?_ ?_ hb4 Try.underlying26 ?_ I7.out ?_); rfl; rfl; rfl; rfl) | ((with_reducible refine wpList_storeB (o := ⟨none, .store 26 (.tmp 2) (.tmp 120), _, _, _, _⟩) ?_ 26 (.tmp 2) (.tmp 120) ?_ ?_ ?_ hb2 I7.out L7.out O7 ?_); rfl; rfl; rfl; rfl; intro w9 hr9 hg9 hz9))
                      try simp only [Exit.inBlock, Exit.then]
                      refine bodyPost_ret (results_blk2 rfl _ _ _ _ _ _ rfl hr9 Try.underlying26 rfl I7.out) rfl (FS.out _ _ X a' k c' HRES.out rfl ?_ ?_)
                      · have e6 := HG.out.own.kept hg9 (fun x ex e => by have := (HG.out.own.lt ex).1; cases e; omega)
                        exact ⟨e6.rd, HG.out.ok.p, HG.out.ok.v⟩
                      · exact grown_to_below HG.out.bel hg9 (Nat.le_refl _)
                · have hq1 : ((n : Int) - (65 + (S1 : Int)) != 32 * (N : Int)) = true := by simp; omega
                  have hb5 := hS.b5
                  have hb2 := hS.b2
                  have HBE := Lib.hid hS.bel
                  have HRES := Lib.hid (show getP l = none by rw [HT.out, HF.out, if_pos (.inr (.inr hq))])
                  go_wp2_with (first | ((with_reducible refine wpList_loadB (o := ⟨some 97, _, _, _, _, _⟩) ?_ 26 (.tmp 5) ?_ ?_ hb5 Try.underlying26 ?_ I0.out ?_); rfl; rfl; rfl; rfl) | ((with_reducible refine wpList_storeB (o := ⟨none, .store 26 (.tmp 2) (.tmp 97), _, _, _, _⟩) ?_ 26 (.tmp 2) (.tmp 97) ?_ ?_ ?_ hb2 I0.out rfl O0 ?_); rfl; rfl; rfl; rfl; intro w9 hr9 hg9 hz9))
                  try simp only [Exit.inBlock, Exit.then]
                  exact bodyPost_ret (results_blk2 rfl _ _ _ _ _ _ rfl hr9 Try.underlying26 rfl I0.out) rfl (FN.out _ _ HRES.out rfl (grown_to_below HBE.out hg9 (Nat.le_refl _)))
              · have hN' : (256 : Int) < (N : Int) := by omega
                have hb5 := hS.b5
                have hb2 := hS.b2
                have HBE := Lib.hid hS.bel
                have HRES := Lib.hid (show getP l = none by rw [HT.out, HF.out, if_pos (.inr (.inl (by omega)))])
                go_wp2_with (first | ((with_reducible refine wpList_loadB (o := ⟨some 97, _, _, _, _, _⟩) ?_ 26 (.tmp 5) ?_ ?_ hb5 Try.underlying26 ?_ I0.out ?_); rfl; rfl; rfl; rfl) | ((with_reducible refine wpList_storeB (o := ⟨none, .store 26 (.tmp 2) (.tmp 97), _, _, _, _⟩) ?_ 26 (.tmp 2) (.tmp 97) ?_ ?_ ?_ hb2 I0.out rfl O0 ?_); rfl; rfl; rfl; rfl; intro w9 hr9 hg9 hz9))
                try simp only [Exit.inBlock, Exit.then]
                exact bodyPost_ret (results_blk2 rfl _ _ _ _ _ _ rfl hr9 Try.underlying26 rfl I0.out) rfl (FN.out _ _ HRES.out rfl (grown_to_below HBE.out hg9 (Nat.le_refl _)))
            · have hE' : ((E1 : Int) != 0) = true := by simp; omega
              have hb5 := hS.b5
              have hb2 := hS.b2
              have HBE := Lib.hid hS.bel
              have HRES := Lib.hid (show getP l = none by rw [HT.out, HF.out, if_pos (.inl hE1)])
              go_wp2_with (first | ((with_reducible refine wpList_loadB (o := ⟨some 97, _, _, _, _, _⟩) ?_ 26 (.tmp 5) ?_ ?_ hb5 Try.underlying26 ?_ I0.out ?_); rfl; rfl; rfl; rfl) | ((with_reducible refine wpList_storeB (o := ⟨none, .store 26 (.tmp 2) (.tmp 97), _, _, _, _⟩) ?_ 26 (.tmp 2) (.tmp 97) ?_ ?_ ?_ hb2 I0.out rfl O0 ?_); rfl; rfl; rfl; rfl; intro w9 hr9 hg9 hz9))
              try simp only [Exit.inBlock, Exit.then]
              exact bodyPost_ret (results_blk2 rfl _ _ _ _ _ _ rfl hr9 Try.underlying26 rfl I0.out) rfl (FN.out _ _ HRES.out rfl (grown_to_below HBE.out hg9 (Nat.le_refl _)))
      · have hxz : ch.toNat = 0 := by omega
        have HT := Lib.hid (show getP l = finP pf0 (l.drop 1) by rw [hlr]; exact G2.out ch rs hxz)
        clear hlr
        rw [hxz] at HC
        clear hxz hch hx hx1
        have hat0 : 1 ≤ n := by omega
        have hRt := Lib.hid (fun (W : World) (hB : Below w.heap.size w W) => (hr.below hB).tailU 1 hat0)
        obtain ⟨m1, m2, m3, -, -⟩ := cnt_le (l.drop 1) 0 0 (by omega)
        have hF := finP_eq pf0 (l.drop 1)
        have RC := Lib.hid (fun (W : World) (hB : Below w.heap.size w W) => readCount_any W _ _ _ _ (hRt.out W hB))
        unfold CntPost at RC
        obtain ⟨N, S1, E1, hcnt1⟩ : ∃ x y z, cnt 0 0 (l.drop 1) = (x, y, z) := ⟨_, _, _, rfl⟩
        rw [hcnt1] at RC hF m1 m2 m3
        simp only at RC hF m1 m2 m3
        have hat1 : 1 + S1 ≤ n := by rw [List.length_drop, hlen.out] at m1; omega
        rw [List.drop_drop, List.length_drop, hlen.out] at hF
        have HF := Lib.hid hF
        clear hF hcnt1 m1 hRt
        have CU0 := fun (W : World) => (cutU W (some ⟨b, off, none⟩) n c 1 1 rfl hat0).1
        have CU0' := fun (W : World) => (cutU W (some ⟨b, off, none⟩) n c 1 1 rfl hat0).2
        go_wp2_with (first | ((with_reducible refine wpList_allocB (o := ⟨some 2, _, _, _, _, _⟩) ?_ 26 ?_ zeroP_info ?_); rfl; rfl; intro w1 hr1 hg1 hz1) | ((with_reducible refine wpList_buildI (dst := some 20) HB.out ?_ ?_); rfl) | ((with_reducible refine wpList_allocB (o := ⟨some 4, _, _, _, _, _⟩) ?_ 26 ?_ zeroP_info ?_); rfl; rfl; intro w2 hr2 hg2 hz2) | ((with_reducible refine wpList_storeB (o := ⟨none, .store 26 (.tmp 4) (.tmp 20), _, _, _, _⟩) ?_ 26 (.tmp 4) (.tmp 20) ?_ ?_ ?_ hr2 I0.out rfl O0 ?_); rfl; rfl; rfl; rfl; intro w3 hr3 hg3 hz3) | ((with_reducible refine wpList_buildI (dst := some 21) HB.out ?_ ?_); rfl) | ((with_reducible refine wpList_allocB (o := ⟨some 5, _, _, _, _, _⟩) ?_ 26 ?_ zeroP_info ?_); rfl; rfl; intro w4 hr4 hg4 hz4) | ((with_reducible refine wpList_storeB (o := ⟨none, .store 26 (.tmp 5) (.tmp 21), _, _, _, _⟩) ?_ 26 (.tmp 5) (.tmp 21) ?_ ?_ ?_ hr4 I0.out rfl O0 ?_); rfl; rfl; rfl; rfl; intro w5 hr5 hg5 hz5; have hS : Gr w w5 none 0 0 pf0 := gr_start hr1 hg1 hz1 hg2 hz2 hr3 hg3 hz3 hg4 hz4 hr5 hg5; have hb5 := hS.b5; have hb2 := hS.b2; have HBE := Lib.hid hS.bel; have hcell := cell_later hS.bel HC.out))
        have HS0 : Hid (pf0.sibs = []) := Lib.hid rfl
        refine (RC.out _ hS.bel).mono ?_
        rintro e w6 ⟨rfl, rfl⟩
        by_cases hE1 : E1 = 0
        · subst hE1
          by_cases hN : N ≤ 256
          · have hN' : ¬ (256 : Int) < (N : Int) := by omega
            by_cases hq : n - (1 + S1) = 32 * N
            · have hq1 : ((n : Int) - (1 + (S1 : Int)) != 32 * (N : Int)) = false := by simp; omega
              have hq2 : (n : Int) - (1 + (S1 : Int)) = 32 * (N : Int) := by omega
              have HRES : Hid (getP l = some ((pf0).put (chunks N (l.drop (1 + S1))))) := Lib.hid (by rw [HT.out, HF.out, if_neg (by omega)])
              have hS0 : Gr w w5 none 0 0 ((pf0).put (chunks 0 (l.drop (1 + S1)))) := by
                have e : (((pf0).put (chunks 0 (l.drop (1 + S1)))) : Pf) = pf0 := pf_sibs0 HS0.out
                rw [e]; exact hS
              have HLE : Hid (1 + S1 + N * 32 = n) := Lib.hid (by omega)
              have hNN := hN
              have HDR := Lib.hid (fun k => (List.drop_drop (l := l) (i := k * 32) (j := 1 + S1)))
              clear RC HF hN hS
              generalize hl5 : l.drop (1 + S1) = l5 at *
              go_wp2_with fail
              go_loopw [6, 16] (fun t6 t16 wr => ∃ (k : Nat) (a' : Option Addr) (c' : Nat), k ≤ N ∧ t16 = .int .i64 (k : Int) ∧ t6 = .int .i64 ((1 + S1 + k * 32 : Nat) : Int) ∧ Gr w wr a' k c' ((pf0).put (chunks k l5))) (fun _ t16 _ => N - (intOf t16).toNat)
              case atStart => exact ⟨0, none, 0, by omega, rfl, by go_num, hS0⟩
              case round =>
                obtain ⟨k, a', c', hk, rfl, rfl, hG⟩ := hrel
                by_cases hlt : k < N
                · have hkl : (k : Int) < (N : Int) := by omega
                  have hle := HLE.out
                  have hat : 1 + S1 + k * 32 + 32 ≤ n := by omega
                  have RD := Lib.hid (readDigest_at hr hG.bel (by rw [hlen.out]; exact hat))
                  rw [← HDR.out] at RD
                  have hdl : (((l5).drop (k * 32)).take 32).length = 32 := by rw [List.length_take, List.length_drop, ← hl5, List.length_drop, hlen.out]; omega
                  have HST := Lib.hid (fun (W4 W5 : World) (a5 : Option Addr) (c5 : Nat) => hG.step (W4 := W4) (W5 := W5) (a5 := a5) (c5 := c5) hdl)
                  have HCH : Hid (chunks (k + 1) l5 = chunks k l5 ++ [(l5.drop (k * 32)).take 32]) := Lib.hid (chunks_succ k l5)
                  have CUk := fun (W : World) => (cutU W (some ⟨b, off, none⟩) n c (1 + S1 + k * 32) ((1 + S1 + k * 32 : Nat) : Int) rfl (by omega)).1
                  have CUk' := fun (W : World) => (cutU W (some ⟨b, off, none⟩) n c (1 + S1 + k * 32) ((1 + S1 + k * 32 : Nat) : Int) rfl (by omega)).2
                  have c4 := hG.b4.cell (j := 0) rfl
                  have hO := hG.own
                  have hbl := hG.b4.lt
                  have HB4 := Lib.hid hG
                  have hws : w.heap.size + 3 ≤ wr.heap.size := by have := hG.b5.lt; omega
                  have hkk : k ≤ 256 := by omega
                  clear hle hat hG
                  generalize (l5.drop (k * 32)).take 32 = d at *
                  have H5 := Lib.hid (digP hdl)
                  have H6 := Lib.hid (show (bs zero32).length = (bs d).length by rw [bs_length, bs_length, zero32_length, hdl])
                  have H7 := bs_one d
                  have hatb : 1 + S1 + k * 32 + 32 ≤ 65536 := by have := HLE.out; omega
                  generalize hat2 : 1 + S1 + k * 32 = at2 at *
                  have HAT := Lib.hid hat2
                  clear hat2
                  have HQ : Hid (((pf0).put (chunks k l5)).sibs = chunks k l5 ∧ ((pf0).put (chunks k l5)).sibs.length = k) := Lib.hid ⟨rfl, chunks_length k l5⟩
                  have hlow : ∀ y, (Value.slice a' k c').ownBlock = some y → w.heap.size + 3 ≤ y := fun y e => (hO.lt e).1
                  have HLOW := Lib.hid hlow
                  have hql : ((pf0).put (chunks k l5)).sibs.length + 1 ≤ 1000000 := by rw [HQ.out.2]; omega
                  generalize ((pf0).put (chunks k l5)).sibs = q at *
                  clear hlow
                  go_wp2_with fail
                  refine RD.out.mono ?_
                  rintro e w7 ⟨rfl, hB7⟩
                  have c47 := cell_later hB7 c4
                  have hO7 := hO.below hB7
                  have hws7 : w.heap.size + 3 ≤ w7.heap.size := Nat.le_trans hws hB7.size
                  clear hO c4
                  go_wp2_with (first | ((with_reducible refine wpList_allocB (o := ⟨some 17, _, _, _, _, _⟩) ?_ 24 ?_ zeroD_info ?_); rfl; rfl; intro w8 hr8 hg8 hz8) | ((with_reducible refine wpList_storeB (o := ⟨none, .store 24 (.tmp 17) (.tmp 108), _, _, _, _⟩) ?_ 24 (.tmp 17) (.tmp 108) ?_ ?_ ?_ hr8 H5.out H6.out H7 ?_); rfl; rfl; rfl; rfl; intro w9 hr9 hg9 hz9; have hB9 : Below w7.heap.size w7 w9 := ((Below.refl _ w7).grown hg8 (Nat.le_refl _) (fun k e => by cases e)).grown hg9 (by omega) (fun k e => by cases e; omega); have c49 := cell_later hB9 c47; have hz97 : w7.heap.size ≤ w9.heap.size := (by omega)) | ((with_reducible refine wpList_loadB (o := ⟨some 113, _, _, _, _, _⟩) ?_ 24 (.tmp 17) ?_ ?_ hr9 Try.underlying24 ?_ H5.out ?_); rfl; rfl; rfl; rfl) | ((with_reducible refine wpList_oneD (o := ⟨some 114, _, _, _, _, _⟩) ?_ (.tmp 113) ?_ hdl ?_ ?_); rfl; rfl; rfl; have hR10 := RdD.many w9 (ys := [d]) (n := 1) (okd.single hdl) rfl (by decide); have hB10 : Below w7.heap.size w7 (w9.alloc (.cells (dcs [d]).toArray 24)) := hB9.alloc hz97 _; have hO10 := hO7.below hB10; have hz10 : w.heap.size + 3 ≤ (w9.alloc (.cells (dcs [d]).toArray 24)).heap.size := Nat.le_trans hws7 hB10.size) | ((with_reducible refine wpList_appD (o := ⟨some 115, _, _, _, _, _⟩) ?_ (.tmp 112) (.tmp 114) ?_ ?_ hO10 ?_ hR10 hql hz10 ?_); rfl; rfl; rfl; rfl; intro a11 c11 w11 hO11 hg11 hx11; rw [HQ.out.2] at hO11 ⊢; have hb411 := ((HB4.out.b4.below hB7).below hB10).grown hg11 (fun e => by have := HLOW.out _ e; omega); have c411 := hb411.cell (j := 0) rfl; have f411 := hb411.free 0))
                  go_roundw
                  case rel =>
                    have hst := HST.out _ w11 a11 c11 (Bt hB7 hB10) hO11 hg11
                    have e : ((pf0).put (chunks k l5)).put (q ++ [d]) = (pf0).put (chunks (k + 1) l5) := by rw [HCH.out, HQ.out.1]; rfl
                    rw [e] at hst
                    exact ⟨k + 1, a11, c11, by omega, by go_num, by rw [← HAT.out]; go_num, hst⟩
                  case measure => simp [intOf]; omega
                · obtain rfl : k = N := by omega
                  have hkl : ¬ (k : Int) < (k : Int) := by omega
                  have hb4 := hG.b4
                  have hb2 := hG.b2
                  have I7 := Lib.hid (size_of (a := a') (n := k) (c := c') hG.ok)
                  have L7 := Lib.hid (cells_len (a := none) (n := 0) (c := 0) (a' := a') (n' := k) (c' := c') HP0.out hG.ok)
                  have O7 := pc_one a' k c' ((pf0).put (chunks k l5))
                  have HG := Lib.hid hG
                  clear hG
                  generalize (pf0).put (chunks k l5) = X at *
                  go_wp2_with (first | ((with_reducible refine wpList_loadB (o := ⟨some 120, _, _, _, _, _⟩) ?_ 26 (.tmp 4) ?_ ?_ hb4 Try.underlying26 ?_ I7.out ?_); rfl; rfl; rfl; rfl) | ((with_reducible refine wpList_storeB (o := ⟨none, .store 26 (.tmp 2) (.tmp 120), _, _, _, _⟩) ?_ 26 (.tmp 2) (.tmp 120) ?_ ?_ ?_ hb2 I7.out L7.out O7 ?_); rfl; rfl; rfl; rfl; intro w9 hr9 hg9 hz9))
                  try simp only [Exit.inBlock, Exit.then]
                  refine bodyPost_ret (results_blk2 rfl _ _ _ _ _ _ rfl hr9 Try.underlying26 rfl I7.out) rfl (FS.out _ _ X a' k c' HRES.out rfl ?_ ?_)
                  · have e6 := HG.out.own.kept hg9 (fun x ex e => by have := (HG.out.own.lt ex).1; cases e; omega)
                    exact ⟨e6.rd, HG.out.ok.p, HG.out.ok.v⟩
                  · exact grown_to_below HG.out.bel hg9 (Nat.le_refl _)
            · have hq1 : ((n : Int) - (1 + (S1 : Int)) != 32 * (N : Int)) = true := by simp; omega
              have hb5 := hS.b5
              have hb2 := hS.b2
              have HBE := Lib.hid hS.bel
              have HRES := Lib.hid (show getP l = none by rw [HT.out, HF.out, if_pos (.inr (.inr hq))])
              go_wp2_with (first | ((with_reducible refine wpList_loadB (o := ⟨some 97, _, _, _, _, _⟩) ?_ 26 (.tmp 5) ?_ ?_ hb5 Try.underlying26 ?_ I0.out ?_); rfl; rfl; rfl; rfl) | ((with_reducible refine wpList_storeB (o := ⟨none, .store 26 (.tmp 2) (.tmp 97), _, _, _, _⟩) ?_ 26 (.tmp 2) (.tmp 97) ?_ ?_ ?_ hb2 I0.out rfl O0 ?_); rfl; rfl; rfl; rfl; intro w9 hr9 hg9 hz9))
              try simp only [Exit.inBlock, Exit.then]
              exact bodyPost_ret (results_blk2 rfl _ _ _ _ _ _ rfl hr9 Try.underlying26 rfl I0.out) rfl (FN.out _ _ HRES.out rfl (grown_to_below HBE.out hg9 (Nat.le_refl _)))
          · have hN' : (256 : Int) < (N : Int) := by omega
            have hb5 := hS.b5
            have hb2 := hS.b2
            have HBE := Lib.hid hS.bel
            have HRES := Lib.hid (show getP l = none by rw [HT.out, HF.out, if_pos (.inr (.inl (by omega)))])
            go_wp2_with (first | ((with_reducible refine wpList_loadB (o := ⟨some 97, _, _, _, _, _⟩) ?_ 26 (.tmp 5) ?_ ?_ hb5 Try.underlying26 ?_ I0.out ?_); rfl; rfl; rfl; rfl) | ((with_reducible refine wpList_storeB (o := ⟨none, .store 26 (.tmp 2) (.tmp 97), _, _, _, _⟩) ?_ 26 (.tmp 2) (.tmp 97) ?_ ?_ ?_ hb2 I0.out rfl O0 ?_); rfl; rfl; rfl; rfl; intro w9 hr9 hg9 hz9))
            try simp only [Exit.inBlock, Exit.then]
            exact bodyPost_ret (results_blk2 rfl _ _ _ _ _ _ rfl hr9 Try.underlying26 rfl I0.out) rfl (FN.out _ _ HRES.out rfl (grown_to_below HBE.out hg9 (Nat.le_refl _)))
        · have hE' : ((E1 : Int) != 0) = true := by simp; omega
          have hb5 := hS.b5
          have hb2 := hS.b2
          have HBE := Lib.hid hS.bel
          have HRES := Lib.hid (show getP l = none by rw [HT.out, HF.out, if_pos (.inl hE1)])
          go_wp2_with (first | ((with_reducible refine wpList_loadB (o := ⟨some 97, _, _, _, _, _⟩) ?_ 26 (.tmp 5) ?_ ?_ hb5 Try.underlying26 ?_ I0.out ?_); rfl; rfl; rfl; rfl) | ((with_reducible refine wpList_storeB (o := ⟨none, .store 26 (.tmp 2) (.tmp 97), _, _, _, _⟩) ?_ 26 (.tmp 2) (.tmp 97) ?_ ?_ ?_ hb2 I0.out rfl O0 ?_); rfl; rfl; rfl; rfl; intro w9 hr9 hg9 hz9))
          try simp only [Exit.inBlock, Exit.then]
          exact bodyPost_ret (results_blk2 rfl _ _ _ _ _ _ rfl hr9 Try.underlying26 rfl I0.out) rfl (FN.out _ _ HRES.out rfl (grown_to_below HBE.out hg9 (Nat.le_refl _)))

end Go.Proofs.Ytmfnpjfhijmboaa
