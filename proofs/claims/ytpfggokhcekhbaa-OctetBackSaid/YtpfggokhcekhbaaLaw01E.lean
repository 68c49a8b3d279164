/-
  The walk of layer 1's statement OctetBack.
-/
import Derived.Test.YtpfggokhcekhbaaLaw01C
import Derived.Test.YtpfggokhcekhbaaPure01
namespace Go.Proofs.Ytpfggokhcekhbaa
open Go.RowKit

theorem retB {b : Bool} (h : b = true) : Ending.returned (.bool b) = .returned (.bool true) := by rw [h]

/-- a digest variable, read whole, behind a guard that says yes -/
theorem wpList_digestG {w : World} {ops : Array Oper} {rest : List Oper} {o : Oper} {a : Act} {Q : Exit → Act → World → Prop} (hw : Region.wanted o (yielded ops a.tmps) = true) (x : Operand) (ho : o.op = .load 32 x)
    {g : Nat} (hx : a.eval x = .pointer (some ⟨g, 0, none⟩)) {t : TypeId} {ds : List UInt8} (hd : ds.length = 32) (hg : w.heap[g]? = some (.cells (bs ds).toArray t (0, 0)))
    (h : wpList Try.prog ops Q rest (a.put o.dst (.agg (bs ds).toArray)) w) : wpList Try.prog ops Q (o :: rest) a w :=
  wpList_step fun K hK => by
    rw [if_pos hw]
    exact wp_load_row 32 x ho g hx t _ (0, 0) _ hg Try.underlying32 rfl (by rw [info_digest]; simp [bs_length, hd]) (hK _ _ h)

set_option maxRecDepth 100000 in
set_option maxHeartbeats 4000000 in
theorem walkOctetBack (w : World) (m : Int) (_hm : (Lit.int .i64 m).wf = true) (s : ByteArray) (_hs : s.size ≤ maxLen) (ds : List UInt8) (hd : ds.length = 32) (a : Option Addr) (n c : Nat) (l : List UInt8) (hr : Rd w a n c l) :
    Calls Try.prog 6 #[.int .i64 m, .string s, .agg (bs ds).toArray, .slice a n c] w (Yes w) := by
  have hw0 : Below w.heap.size w (w.alloc (.cells (bs ds).toArray 32)) := (Below.refl _ w).alloc (Nat.le_refl _) _
  have hbd : (w.alloc (.cells (bs ds).toArray 32)).heap[w.heap.size]? = some (.cells (bs ds).toArray 32 (0, 0)) := World.alloc_heap_new w _
  by_cases h1 : 262144 < s.size
  · go_enter Try.func6, Try.ntmps6
    go_wp2_with fail
    go_ret
    exact Yes.mk hw0
  by_cases h2 : 262144 < n
  · go_enter Try.func6, Try.ntmps6
    go_wp2_with fail
    go_ret
    exact Yes.mk hw0
  by_cases hm : 0 ≤ m ∧ m ≤ 2147483647
  · by_cases h3 : s.size ≤ 65536
    · obtain ⟨M, rfl⟩ := Int.eq_ofNat_of_zero_le hm.1
      have hM : M ≤ 2147483647 := by omega
      go_enter Try.func6, Try.ntmps6
      go_wp2_with fail
      generalize w.alloc (.cells (bs ds).toArray 32) = w0 at *
      refine (putCount_ok w0 none 0 0 M [] (Rd.nil0 _) (by omega) (by omega) (by omega)).mono ?_
      rintro e w1 ⟨v1, rfl, hO1, hB1⟩
      rw [Int.toNat_natCast, List.nil_append] at hO1
      have hq1 := encC_len M hM
      generalize hq : encC M = q1 at *
      have HQ1 := Lib.hid hq
      clear hq
      obtain ⟨a1, c1, rfl⟩ := hO1.shape
      go_wp2_with fail
      refine (putBytes_ok w1 a1 q1.length c1 s q1 hO1.rd (by omega) h3).mono ?_
      rintro e w2 ⟨v2, rfl, hO2, hB2⟩
      have hq2 : (q1 ++ encC s.size ++ s.data.toList).length ≤ 70000 := by
        have := encC_len s.size (by omega)
        have : s.data.toList.length = s.size := rfl
        simp; omega
      generalize hq : q1 ++ encC s.size ++ s.data.toList = q2 at *
      have HQ2 := Lib.hid hq
      clear hq
      obtain ⟨a2, c2, rfl⟩ := hO2.shape
      have hb2 : w2.heap[w.heap.size]? = some (.cells (bs ds).toArray 32 (0, 0)) := ((Bt hB1 hB2).block _ (lt_of_block hbd)).trans hbd
      go_wp2_with (refine wpList_digest rfl (.tmp 6) rfl rfl hd hb2 ?_)
      refine (putDigest_ok w2 a2 q2.length c2 ds hd q2 hO2.rd (by omega)).mono ?_
      rintro e w3 ⟨v3, rfl, hO3, hB3⟩
      have hq3 : (q2 ++ ds).length ≤ 70032 := by simp; omega
      generalize hq : q2 ++ ds = q3 at *
      have HQ3 := Lib.hid hq
      clear hq
      obtain ⟨a3, c3, rfl⟩ := hO3.shape
      have hB03 := Bt hB1 (Bt hB2 hB3)
      go_wp2_with (at_builtin; refine wpList_app rfl (.tmp 64) (.tmp 65) rfl rfl hO3 rfl (hr.below (Bt hw0 hB03)) (by omega) hB3.size ?_; intro a4 c4 w4 hO4 hg4)
      have hB4 : Below w0.heap.size w0 w4 := by
        have h23 := Bt hB1 hB2
        exact hB03.grown hg4 hB03.size (fun k e => Nat.le_trans h23.size (World.ownsRow.lt hO3 k e).1)
      refine (new_any w4 a4 (q3.length + n) c4 (q3 ++ l) hO4.rd (by omega)).mono ?_
      rintro e w5 ⟨r, rfl, hlr, hR5, hB5⟩
      have hB05 := Bt hB4 hB5
      have hl0 : q3 ++ l = encC M ++ (encC s.size ++ s.data.toList ++ (ds ++ l)) := by
        rw [← HQ3.out, ← HQ2.out, ← HQ1.out]; simp [List.append_assoc]
      have hL1 : (q3 ++ l).drop (encC M).length = encC s.size ++ s.data.toList ++ (ds ++ l) := by rw [hl0]; simp
      have hc1 : cnt 0 0 (q3 ++ l) = (M, (encC M).length, 0) := by rw [hl0]; exact cnt_enc0 M _ hM
      have hsz : s.data.toList.length = s.size := rfl
      have hc2 : rdB (encC s.size ++ s.data.toList ++ (ds ++ l)) = (s.data.toList, (encC s.size).length + s.size, 0) := by
        have := rdB_enc s.data.toList (ds ++ l) (by rw [hsz]; exact h3)
        rw [hsz] at this; exact this
      have hL2 : (encC s.size ++ s.data.toList ++ (ds ++ l)).drop ((encC s.size).length + s.size) = ds ++ l := by
        rw [← hsz, ← List.length_append, List.drop_left]
      have hc3 : rdD (ds ++ l) = (ds, 32, 0) := by
        unfold rdD; rw [if_neg (by simp; omega), ← hd, List.take_left]
      have hL3 : (ds ++ l).drop 32 = l := by rw [← hd, List.drop_left]
      have C1 := Lib.hid hc1
      have C2 := Lib.hid hc2
      have C3 := Lib.hid hc3
      have L1 := Lib.hid hL1
      have L2 := Lib.hid hL2
      have L3 := Lib.hid hL3
      have HSZ := Lib.hid hsz
      clear hl0 hc1 hc2 hc3 hL1 hL2 hL3 hsz
      have hll := Lib.hid hr.len
      go_wp2_with fail
      refine (count_any w5 r _ hR5).mono ?_
      rintro e w6 ⟨rfl, hR6, hg6⟩
      have hB06 := Btouch hB05 hg6 (Nat.le_trans hB4.size hlr)
      rw [C1.out] at hR6 ⊢
      simp only at hR6 ⊢
      rw [L1.out] at hR6
      go_wp2_with fail
      refine (bytes_any w6 r _ hR6).mono ?_
      rintro e w7 ⟨rfl, hR7, hg7⟩
      have hB07 := Btouch hB06 hg7 (Nat.le_trans hB4.size hlr)
      rw [C2.out] at hR7 ⊢
      simp only at hR7 ⊢
      rw [L2.out] at hR7
      go_wp2_with fail
      refine (digest_any w7 r _ hR7).mono ?_
      rintro e w8 ⟨rfl, hR8, hg8⟩
      have hB08 := Btouch hB07 hg8 (Nat.le_trans hB4.size hlr)
      rw [C3.out] at hR8 ⊢
      simp only at hR8 ⊢
      rw [L3.out] at hR8
      go_wp2_with (first
        | (refine wpList_allocD (o := ⟨some 17, _, _, _, _, _⟩) rfl rfl ?_; intro w9 hd9 hg9 hs9)
        | (refine wpList_storeD rfl (.tmp 17) (.tmp 84) rfl rfl rfl hd9 hd zero32_length ?_; intro w10 hd10 hg10 hs10))
      have hb810 : Below w8.heap.size w8 w10 := ((Below.refl _ _).grown hg9 (Nat.le_refl _) (by simp)).grown hg10 (by omega) (fun k e => by cases e; exact Nat.le_refl _)
      refine (puts_any w10).mono ?_
      rintro e w11 ⟨rfl, hB11⟩
      have hB011 := Bt hB08 (Bt hb810 hB11)
      have hdA : w11.heap[w8.heap.size]? = some (.cells (bs ds).toArray 32 (0, 0)) := (hB11.block _ (lt_of_block hd10)).trans hd10
      have hdB : w11.heap[w.heap.size]? = some (.cells (bs ds).toArray 32 (0, 0)) := (hB011.block _ (lt_of_block hbd)).trans hbd
      have heq := eqInD w11 ds ds hd hd
      have hR11 := (hR8.below hb810).below hB11
      have hst : s.data.toList = s.toList := (ByteArray.toList_eq s).symm
      go_wp2_with (first
        | (refine wpList_digestG rfl (.tmp 17) rfl rfl hd hdA ?_)
        | (refine wpList_digestG rfl (.tmp 6) rfl rfl hd hdB ?_))
      refine (left_any w11 r _ hR11).mono ?_
      rintro e w' ⟨rfl, rfl⟩
      rw [hll.out]
      go_wp2_with fail
      go_ret
      exact Yes.mk (Bt hw0 hB011)
    · go_enter Try.func6, Try.ntmps6
      go_wp2_with fail
      generalize w.alloc (.cells (bs ds).toArray 32) = w0 at *
      refine (putCount_ok w0 none 0 0 m [] (Rd.nil0 _) (by omega) hm.1 hm.2).mono ?_
      rintro e w1 ⟨v1, rfl, hO1, hB1⟩
      obtain ⟨a1, c1, rfl⟩ := hO1.shape
      go_wp2_with fail
      refine (putBytes_no w1 a1 _ c1 s (by omega)).mono ?_
      rintro e w' ⟨rfl, rfl⟩
      go_wp2_with fail
      refine (puts_any w1).mono ?_
      rintro e w2 ⟨rfl, hB2⟩
      go_wp2_with fail
      refine (reads_any w2).mono ?_
      rintro e w3 ⟨rfl, hB3⟩
      go_wp2_with fail
      go_ret
      exact ⟨retB (by simp; omega), Bt hw0 (Bt hB1 (Bt hB2 hB3))⟩
  · by_cases h3 : s.size ≤ 65536
    · skip
      go_enter Try.func6, Try.ntmps6
      go_wp2_with fail
      generalize w.alloc (.cells (bs ds).toArray 32) = w0 at *
      refine (putCount_no w0 none 0 0 m (by omega)).mono ?_
      rintro e w' ⟨rfl, rfl⟩
      go_wp2_with fail
      refine (putBytes_ok w0 none 0 0 s [] (Rd.nil0 _) (by omega) h3).mono ?_
      rintro e w1 ⟨v1, rfl, hO1, hB1⟩
      go_wp2_with fail
      refine (puts_any w1).mono ?_
      rintro e w2 ⟨rfl, hB2⟩
      go_wp2_with fail
      refine (reads_any w2).mono ?_
      rintro e w3 ⟨rfl, hB3⟩
      go_wp2_with fail
      all_goals
        go_ret
        exact ⟨retB (by first | (simp; done) | (simp; omega)), Bt hw0 (Bt hB1 (Bt hB2 hB3))⟩
    · skip
      go_enter Try.func6, Try.ntmps6
      go_wp2_with fail
      generalize w.alloc (.cells (bs ds).toArray 32) = w0 at *
      refine (putCount_no w0 none 0 0 m (by omega)).mono ?_
      rintro e w' ⟨rfl, rfl⟩
      go_wp2_with fail
      refine (putBytes_no w0 none 0 0 s (by omega)).mono ?_
      rintro e w' ⟨rfl, rfl⟩
      go_wp2_with fail
      refine (puts_any w0).mono ?_
      rintro e w2 ⟨rfl, hB2⟩
      go_wp2_with fail
      refine (reads_any w2).mono ?_
      rintro e w3 ⟨rfl, hB3⟩
      go_wp2_with fail
      all_goals
        go_ret
        exact ⟨retB (by first | (simp; done) | (simp; omega)), Bt hw0 (Bt hB2 hB3)⟩
end Go.Proofs.Ytpfggokhcekhbaa
