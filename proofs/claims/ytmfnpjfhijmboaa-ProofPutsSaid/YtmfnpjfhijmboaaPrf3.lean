/-
  The walks of package proof: readDigests.
-/
import Derived.Test.YtmfnpjfhijmboaaPrf2
import Derived.Test.YtmfnpjfhijmboaaOctE
namespace Go.Proofs.Ytmfnpjfhijmboaa
open Go.RowKit

/-- the first n digests of bytes -/
def chunks (n : Nat) (l : List UInt8) : List (List UInt8) := (List.range n).map fun i => (l.drop (i * 32)).take 32
theorem chunks_zero (l : List UInt8) : chunks 0 l = [] := rfl
theorem chunks_succ (n : Nat) (l : List UInt8) : chunks (n + 1) l = chunks n l ++ [(l.drop (n * 32)).take 32] := by simp [chunks, List.range_succ]
theorem chunks_length (n : Nat) (l : List UInt8) : (chunks n l).length = n := by simp [chunks]
theorem chunks_ok {n : Nat} {l : List UInt8} (h : n * 32 ≤ l.length) : okd (chunks n l) := fun x hx => by
  obtain ⟨i, hi, rfl⟩ := List.mem_map.1 hx
  have := List.mem_range.1 hi
  simp
  omega
theorem chunks_flat : ∀ (n : Nat) (l : List UInt8), n * 32 ≤ l.length → (chunks n l).flatten = l.take (n * 32)
  | 0, _, _ => by simp [chunks]
  | n + 1, l, h => by
    rw [chunks_succ, List.flatten_append, chunks_flat n l (by omega), show (n + 1) * 32 = n * 32 + 32 by omega, List.take_add]
    simp

/-- what readDigests knows in its rounds -/
structure RdsAt (w0 w W : World) (r : Nat) (l : List UInt8) (k : Nat) (v : Value) (q : List (List UInt8)) : Prop where
  own : OwnD W w.heap.size v q
  eq : q = chunks k l
  rd : Rdq w0 W r (l.drop (k * 32))
  gr : w.grownBy W (some r)
  le : w0.heap.size ≤ w.heap.size
theorem grown_below {a b c : World} {r : Nat} {row : Option Nat} (h : a.grownBy b (some r)) (hg : b.grownBy c row) (hr : ∀ k, row = some k → a.heap.size ≤ k ∨ k = r) : a.grownBy c (some r) :=
  ⟨hg.os.trans h.os, hg.tape.trans h.tape, hg.output.trans h.output, by have := h.size; have := hg.size; omega, fun i hi hne => (hg.block i (by have := h.size; omega) (fun e => by
    rcases hr i e.symm with h1 | h1
    · omega
    · subst h1; exact hne rfl)).trans (h.block i hi hne)⟩
theorem grown_none {a b : World} (hb : Below a.heap.size a b) : a.grownBy b none := ⟨hb.os, hb.tape, hb.output, hb.size, fun k hk _ => hb.block k hk⟩
theorem RdsAt.step {w0 w W w1 w2 w3 : World} {r : Nat} {l : List UInt8} {k : Nat} {v v3 : Value} {q : List (List UInt8)} (h : RdsAt w0 w W r l k v q) (h1 : Rdq w0 w1 r ((l.drop (k * 32)).drop 32)) (hg1 : W.grownBy w1 (some r)) (hB : Below w1.heap.size w1 w2)
    (hO : OwnD w3 w.heap.size v3 (q ++ [(l.drop (k * 32)).take 32])) (hg : w2.grownBy w3 v.ownBlock) : RdsAt w0 w w3 r l (k + 1) v3 (q ++ [(l.drop (k * 32)).take 32]) := by
  refine ⟨hO, by rw [chunks_succ, h.eq], ?_, ?_, h.le⟩
  · have e : (l.drop (k * 32)).drop 32 = l.drop ((k + 1) * 32) := by rw [List.drop_drop]; congr 1; omega
    rw [← e]
    exact (h1.below hB).other hg (fun x e => Nat.le_trans h.le (h.own.lt e).1)
  · exact grown_below (grown_below (grown_trans h.gr hg1) (grown_none hB) (fun k e => by cases e)) hg (fun k e => .inl (h.own.lt e).1)
theorem OwnD.reader {w W W' : World} {r : Nat} {v : Value} {q : List (List UInt8)} (h : OwnD W w.heap.size v q) (hg : W.grownBy W' (some r)) (hr : r < w.heap.size) : OwnD W' w.heap.size v q :=
  h.kept hg (fun x e e2 => by have := (h.lt e).1; cases e2; omega)

/-- what readDigests hands back -/
def RdsPost (w0 w : World) (r : Nat) (l : List UInt8) (n : Nat) (e : Ending) (w' : World) : Prop :=
  (n * 32 ≤ l.length ∧ ∃ a c, e = .returned (.tuple #[.slice a n c, .bool true]) ∧ OwnD w' w.heap.size (.slice a n c) (chunks n l) ∧ Rdq w0 w' r (l.drop (n * 32)) ∧ w.grownBy w' (some r)) ∨
  (l.length < n * 32 ∧ e = .returned (.tuple #[.slice none 0 0, .bool false]) ∧ w.grownBy w' (some r))

set_option maxRecDepth 100000 in
set_option maxHeartbeats 1000000 in
theorem readDigests_any (w0 w : World) (r : Nat) (l : List UInt8) (hr : Rdq w0 w r l) (h0 : w0.heap.size ≤ w.heap.size) (n : Nat) (hn : n ≤ 256) :
    Calls Try.prog 26 #[.pointer (some ⟨r, 0, none⟩), .int .i64 (n : Int)] w (RdsPost w0 w r l n) := by
  have hS : RdsAt w0 w w r l 0 (.slice none 0 0) [] := ⟨OwnD.nil0 _ _, rfl, by simpa using hr, World.grownBy.refl _ _, h0⟩
  have hrl := Nat.lt_of_lt_of_le hr.lt h0
  clear hr
  go_enter Try.func26, Try.ntmps26
  go_wp2_with fail
  go_loopw [6, 10] (fun v i wr => ∃ (k m' : Nat) (a' : Option Addr) (c' : Nat) (q : List (List UInt8)), k ≤ n ∧ i = .int .i64 (k : Int) ∧ v = .slice a' m' c' ∧ Hid (k * 32 ≤ l.length ∧ q.length = k ∧ m' = k) ∧ RdsAt w0 w wr r l k (.slice a' m' c') q) (fun _ i _ => n - (intOf i).toNat)
  case atStart => exact ⟨0, 0, none, 0, [], by omega, rfl, rfl, Lib.hid ⟨by omega, rfl, rfl⟩, hS⟩
  case round =>
    obtain ⟨k, m', a', c', q, hk, rfl, rfl, HM, hF⟩ := hrel
    by_cases hlt : k < n
    · have hkl : (k : Int) < (n : Int) := by omega
      by_cases h32 : 32 ≤ (l.drop (k * 32)).length
      · have hD := Lib.hid (rdq_digest hF.rd h32)
        have hdl : ((l.drop (k * 32)).take 32).length = 32 := by rw [List.length_take]; omega
        have H5 := Lib.hid (digP hdl)
        have H6 := Lib.hid (show (bs zero32).length = (bs ((l.drop (k * 32)).take 32)).length by rw [bs_length, bs_length, zero32_length, hdl])
        have H7 := bs_one ((l.drop (k * 32)).take 32)
        have hstep := Lib.hid (fun (w1 w2 w3 : World) (v3 : Value) => hF.step (w1 := w1) (w2 := w2) (w3 := w3) (v3 := v3))
        have hO := hF.own
        have HK : Hid ((k + 1) * 32 ≤ l.length) := Lib.hid (by rw [List.length_drop] at h32; omega)
        have hws := hF.gr.size
        have hql : q.length ≤ 256 := by have := HM.out.2.1; omega
        have HQ : Hid (q.length = k ∧ m' = k) := Lib.hid HM.out.2
        clear h32
        generalize (l.drop (k * 32)).take 32 = d at *
        go_wp2_with fail
        refine hD.out.mono ?_
        rintro e w1 ⟨rfl, hq1, hg1⟩
        have hO1 := hO.reader hg1 hrl
        have hws1 : w.heap.size ≤ w1.heap.size := Nat.le_trans hws hg1.size
        clear hO
        go_wp2_with (first | ((with_reducible refine wpList_allocB (o := ⟨some 7, _, _, _, _, _⟩) ?_ 24 ?_ zeroD_info ?_); rfl; rfl; intro w2 hr2 hg2 hz2) | ((with_reducible refine wpList_storeB (o := ⟨none, .store 24 (.tmp 7) (.tmp 15), _, _, _, _⟩) ?_ 24 (.tmp 7) (.tmp 15) ?_ ?_ ?_ hr2 H5.out H6.out H7 ?_); rfl; rfl; rfl; rfl; intro w3 hr3 hg3 hz3; have hB3 : Below w1.heap.size w1 w3 := ((Below.refl _ w1).grown hg2 (Nat.le_refl _) (fun k e => by cases e)).grown hg3 (by omega) (fun k e => by cases e; omega); have hz31 : w1.heap.size ≤ w3.heap.size := (by omega); clear hz2 hz3) | ((with_reducible refine wpList_loadB (o := ⟨some 20, _, _, _, _, _⟩) ?_ 24 (.tmp 7) ?_ ?_ hr3 Try.underlying24 ?_ H5.out ?_); rfl; rfl; rfl; rfl) | ((with_reducible refine wpList_oneD (o := ⟨some 21, _, _, _, _, _⟩) ?_ (.tmp 20) ?_ hdl ?_ ?_); rfl; rfl; rfl; have hR4 := RdD.many w3 (ys := [d]) (n := 1) (okd.single hdl) rfl (by decide); have hB4 : Below w1.heap.size w1 (w3.alloc (.cells (dcs [d]).toArray 24)) := hB3.alloc (by omega) _; have hO4 := hO1.below hB4; have hz4 : w.heap.size ≤ (w3.alloc (.cells (dcs [d]).toArray 24)).heap.size := Nat.le_trans hws1 hB4.size) | ((with_reducible refine wpList_appD (o := ⟨some 22, _, _, _, _, _⟩) ?_ (.tmp 19) (.tmp 21) ?_ ?_ hO4 ?_ hR4 ?_ hz4 ?_); rfl; rfl; rfl; rfl; omega; intro a5 c5 w5 hO5 hg5 hx5))
        go_roundw
        case rel =>
          have hst := hstep.out w1 _ w5 _ hq1 hg1 hB4 hO5 hg5
          exact ⟨k + 1, q.length + 1, a5, c5, q ++ [d], by omega, by go_num, rfl, Lib.hid ⟨HK.out, by rw [List.length_append, HQ.out.1]; rfl, by rw [HQ.out.1]⟩, hst⟩
        case measure => simp [intOf]; omega
      · have hsh := Lib.hid (digest_short wr r _ hF.rd.rdr (by omega))
        have HL : Hid (l.length < n * 32) := Lib.hid (by rw [List.length_drop] at h32; omega)
        have hgr := hF.gr
        have H5 := Lib.hid (digP zero32_length)
        have H7 := bs_one zero32
        clear h32 hF
        go_wp2_with fail
        refine hsh.out.mono ?_
        rintro e w1 ⟨rfl, hB1⟩
        have hg1 : wr.grownBy w1 (some r) := ⟨hB1.os, hB1.tape, hB1.output, hB1.size, fun k hk _ => hB1.block k hk⟩
        have hg01 := grown_trans hgr hg1
        go_wp2_with (first | ((with_reducible refine wpList_allocB (o := ⟨some 7, _, _, _, _, _⟩) ?_ 24 ?_ zeroD_info ?_); rfl; rfl; intro w2 hr2 hg2 hz2) | ((with_reducible refine wpList_storeB (o := ⟨none, .store 24 (.tmp 7) (.tmp 15), _, _, _, _⟩) ?_ 24 (.tmp 7) (.tmp 15) ?_ ?_ ?_ hr2 H5.out rfl H7 ?_); rfl; rfl; rfl; rfl; intro w3 hr3 hg3 hz3))
        go_ret2
        refine .inr ⟨HL.out, rfl, ?_⟩
        have hs := hg01.size
        refine ⟨hg3.os.trans (hg2.os.trans hg01.os), hg3.tape.trans (hg2.tape.trans hg01.tape), hg3.output.trans (hg2.output.trans hg01.output), by omega, fun k hk hne => ?_⟩
        rw [hg3.block k (by omega) (by simp; omega), hg2.block k (by omega) (by simp), hg01.block k hk hne]
    · obtain rfl : k = n := by omega
      have hkl : ¬ (k : Int) < (k : Int) := by omega
      obtain ⟨h1, h2, h3⟩ := HM.out
      subst h3
      have he := hF.eq
      subst he
      have hO := hF.own
      have hR := hF.rd
      have hG := hF.gr
      clear h2
      have H1 := Lib.hid h1
      clear h1
      go_wp2_with fail
      go_ret2
      exact .inl ⟨H1.out, _, _, rfl, hO, hR, hG⟩
end Go.Proofs.Ytmfnpjfhijmboaa
