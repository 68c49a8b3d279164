/-
  The document's answer, laid out: texts and commands.
-/

import Derived.Test.YteeefehbfamfiaaWirR
namespace Go.Proofs.Yteeefehbfamfiaa
open Go.RowKit
set_option maxRecDepth 100000

theorem loA_t {s : ByteArray} {o : Lo} (h : s.size ≤ 65536) : loA (encC s.size ++ s.data.toList) 0 o = loT s o := by
  unfold loA loT; simp [h]
theorem loA_to {s : ByteArray} {o : Lo} (h : 65536 < s.size) : loA [] 2 o = loT s o := by
  have : ¬ s.size ≤ 65536 := by omega
  unfold loA loT; simp only [if_neg this, show (2 : Int) ≠ 0 by decide, if_true, ne_eq, not_false_eq_true]
theorem loT_len2 (s : ByteArray) (o : Lo) : (loT s o).2.length ≤ o.2.length + 65541 := by
  unfold loT
  split
  · omega
  · split
    · rename_i h; have := encC_len s.size (by omega); have hs : s.data.toList.length = s.size := rfl; simp only [List.length_append, hs]; omega
    · simp

set_option maxHeartbeats 400000 in
theorem s_ref (w : World) (g base : Nat) (o : Lo) (hR : Rf w g base o) (s : ByteArray) (ho : o.2.length ≤ 70368744177664) :
    Calls Try.prog 59 #[.pointer (some ⟨g, 0, none⟩), .string s] w fun f w' => f = .returned (.tuple #[]) ∧ Rf w' g base (loT s o) ∧ Bk g base w w' := by
  have hle : base ≤ w.heap.size := by obtain ⟨_, _, _, _, _, _, h, _⟩ := hR; exact h
  by_cases hm : s.size ≤ 65536
  · have h5 := encC_len s.size (by omega)
    go_enter Try.func59, Try.ntmps59
    go_wp2_with fail
    refine (bytes_ref_ok s w hm).mono ?_
    rintro e w1 ⟨a1, n1, c1, rfl, hO1, hB1⟩
    have hr1 := hO1.rd
    have hn1 := hr1.len
    have hR1 := hR.below hB1
    have HB : Hid (Bk g base _ _) := Lib.hid (Bk.of hB1 hle)
    have HN : Hid (n1 ≤ 1000000) := Lib.hid (by rw [List.length_append] at hn1; have : s.data.toList.length = s.size := rfl; omega)
    have HT : Hid (∀ W, Rf W g base (loA (encC s.size ++ s.data.toList) 0 o) → Rf W g base (loT s o)) := Lib.hid (fun W h => by rw [loA_t hm] at h; exact h)
    clear hB1 hO1 hn1
    generalize encC s.size ++ s.data.toList = q at *
    go_wp2_with fail
    refine (add_ref w1 g base o hR1 a1 n1 c1 _ hr1 0 HN.out ho).mono ?_
    rintro e w2 ⟨rfl, hR2, hB2⟩
    go_wp2
    go_end0
    exact ⟨rfl, HT.out _ hR2, HB.out.trans hB2⟩
  · have hm' : 65536 < s.size := by omega
    go_enter Try.func59, Try.ntmps59
    go_wp2_with fail
    refine (bytes_ref_no s w hm').mono ?_
    rintro e w1 ⟨rfl, rfl⟩
    go_wp2_with fail
    refine (add_ref w g base o hR none 0 0 [] (Rd.nil0 w) 2 (by omega) ho).mono ?_
    rintro e w2 ⟨rfl, hR2, hB2⟩
    go_wp2
    go_end0
    rw [loA_to hm'] at hR2
    exact ⟨rfl, hR2, hB2⟩

set_option maxHeartbeats 1000000 in
theorem command_ref (w : World) (g base : Nat) (o0 : Lo) (hR : Rf w g base o0) (x : Cm) (hx : x.ok) (ho : o0.2.length ≤ 69500000000000) :
    Calls Try.prog 49 #[.pointer (some ⟨g, 0, none⟩), .agg (cmc x).toArray] w fun f w' => f = .returned (.tuple #[]) ∧ Rf w' g base (loC x o0) ∧ Bk g base w w' := by
  have hle : base ≤ w.heap.size := by obtain ⟨_, _, _, _, _, _, h, _⟩ := hR; exact h
  have HNG : Hid (w.heap.size ≠ g) := Lib.hid (by obtain ⟨_, _, _, h, _⟩ := hR; have := h.lt; omega)
  have hb0 := Blk.new w 27 (cmc x)
  have hB1 : Below w.heap.size w (w.alloc (.cells (cmc x).toArray 27)) := (Below.refl _ w).alloc (Nat.le_refl _) _
  have hR0 := hR.below hB1
  have B0 : Hid (Bk g base _ _) := Lib.hid (Bk.of hB1 hle)
  have hp : Part (cmc x) 0 (cmc x) := fun j _ => by simp
  have HP6 : Hid (Part (cmc x) 6 (bs x.root)) := Lib.hid (by have := hp.cm6 hx; simpa using this)
  have I1 : Hid ((Try.prog.info? 25).map (·.size) = some (bs x.root).length) := Lib.hid (by rw [info_digest]; simp [bs_length, show x.root.length = 32 from hx])
  have HX := Lib.hid (show x.root.length = 32 from hx)
  have L0 := Lib.hid ho
  have C0 : Hid ((cmc x)[0]? = some (.int .i64 x.kd)) := Lib.hid (by have := hp.cm0; simpa using this)
  have C1 : Hid ((cmc x)[1]? = some (.int .i64 x.cl)) := Lib.hid (by have := hp.cm1; simpa using this)
  have C2 : Hid ((cmc x)[2]? = some (.int .i64 x.sq)) := Lib.hid (by have := hp.cm2; simpa using this)
  have C3 : Hid ((cmc x)[3]? = some (.string x.us)) := Lib.hid (by have := hp.cm3; simpa using this)
  have C4 : Hid ((cmc x)[4]? = some (.string x.ky)) := Lib.hid (by have := hp.cm4; simpa using this)
  have C5 : Hid ((cmc x)[5]? = some (.int .i64 x.ep)) := Lib.hid (by have := hp.cm5; simpa using this)
  have hc0 := hb0.cell C0.out
  clear hB1 hp hx ho hR
  go_enter Try.func49, Try.ntmps49
  go_wp2_with fail
  generalize w.alloc (.cells (cmc x).toArray 27) = w0 at *
  refine (n_ref w0 g base o0 hR0 x.kd (by have := L0.out; omega)).mono ?_
  rintro e w1 ⟨rfl, hR1, hB⟩
  have hb1 := hb0.bk hB HNG.out (by decide)
  have L1 : Hid ((loN x.kd o0).2.length ≤ 69500000000005) := Lib.hid (by have := L0.out; have := loN_len2 x.kd o0; omega)
  have B1 := Lib.hid (B0.out.trans hB)
  clear hR0 hb0 hc0 hB
  have hc1 := hb1.cell C1.out
  go_wp2_with fail
  refine (n_ref w1 g base (loN x.kd o0) hR1 x.cl (by have := L1.out; omega)).mono ?_
  rintro e w2 ⟨rfl, hR2, hB⟩
  have hb2 := hb1.bk hB HNG.out (by decide)
  have L2 : Hid ((loN x.cl (loN x.kd o0)).2.length ≤ 69500000000010) := Lib.hid (by have := L1.out; have := loN_len2 x.cl (loN x.kd o0); omega)
  have B2 := Lib.hid (B1.out.trans hB)
  clear hR1 hb1 hc1 hB
  have hc2 := hb2.cell C2.out
  go_wp2_with fail
  refine (n_ref w2 g base (loN x.cl (loN x.kd o0)) hR2 x.sq (by have := L2.out; omega)).mono ?_
  rintro e w3 ⟨rfl, hR3, hB⟩
  have hb3 := hb2.bk hB HNG.out (by decide)
  have L3 : Hid ((loN x.sq (loN x.cl (loN x.kd o0))).2.length ≤ 69500000000015) := Lib.hid (by have := L2.out; have := loN_len2 x.sq (loN x.cl (loN x.kd o0)); omega)
  have B3 := Lib.hid (B2.out.trans hB)
  clear hR2 hb2 hc2 hB
  have hc3 := hb3.cell C3.out
  go_wp2_with fail
  refine (s_ref w3 g base (loN x.sq (loN x.cl (loN x.kd o0))) hR3 x.us (by have := L3.out; omega)).mono ?_
  rintro e w4 ⟨rfl, hR4, hB⟩
  have hb4 := hb3.bk hB HNG.out (by decide)
  have L4 : Hid ((loT x.us (loN x.sq (loN x.cl (loN x.kd o0)))).2.length ≤ 69500000065556) := Lib.hid (by have := L3.out; have := loT_len2 x.us (loN x.sq (loN x.cl (loN x.kd o0))); omega)
  have B4 := Lib.hid (B3.out.trans hB)
  clear hR3 hb3 hc3 hB
  have hc4 := hb4.cell C4.out
  go_wp2_with fail
  refine (s_ref w4 g base (loT x.us (loN x.sq (loN x.cl (loN x.kd o0)))) hR4 x.ky (by have := L4.out; omega)).mono ?_
  rintro e w5 ⟨rfl, hR5, hB⟩
  have hb5 := hb4.bk hB HNG.out (by decide)
  have L5 : Hid ((loT x.ky (loT x.us (loN x.sq (loN x.cl (loN x.kd o0))))).2.length ≤ 69500000131097) := Lib.hid (by have := L4.out; have := loT_len2 x.ky (loT x.us (loN x.sq (loN x.cl (loN x.kd o0)))); omega)
  have B5 := Lib.hid (B4.out.trans hB)
  clear hR4 hb4 hc4 hB
  have hc5 := hb5.cell C5.out
  go_wp2_with fail
  refine (n_ref w5 g base (loT x.ky (loT x.us (loN x.sq (loN x.cl (loN x.kd o0))))) hR5 x.ep (by have := L5.out; omega)).mono ?_
  rintro e w6 ⟨rfl, hR6, hB⟩
  have hb6 := hb5.bk hB HNG.out (by decide)
  have L6 : Hid ((loN x.ep (loT x.ky (loT x.us (loN x.sq (loN x.cl (loN x.kd o0)))))).2.length ≤ 69500000131102) := Lib.hid (by have := L5.out; have := loN_len2 x.ep (loT x.ky (loT x.us (loN x.sq (loN x.cl (loN x.kd o0))))); omega)
  have B6 := Lib.hid (B5.out.trans hB)
  clear hR5 hb5 hc5 hB
  have hr6 := hb6.range 6 (HP6.out)
  go_wp2_with ((with_reducible refine wpList_loadM (o := ⟨some 30, _, _, _, _, _⟩) ?_ w.heap.size 6 25 (.tmp 29) ?_ ?_ hr6 Try.underlying25 ?_ I1.out ?_); rfl; rfl; rfl; rfl)
  refine (d_ref w6 g base _ hR6 x.root HX.out (by have := L6.out; omega)).mono ?_
  rintro e w7 ⟨rfl, hR7, hB⟩
  go_wp2
  go_end0
  exact ⟨rfl, hR7, B6.out.trans hB⟩

end Go.Proofs.Yteeefehbfamfiaa
