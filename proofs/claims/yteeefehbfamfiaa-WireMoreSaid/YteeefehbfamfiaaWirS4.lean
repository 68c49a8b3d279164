/-
  The document's answer, laid out: records.
-/
import Derived.Test.YteeefehbfamfiaaWirS2
import Derived.Test.YteeefehbfamfiaaWirPR
namespace Go.Proofs.Yteeefehbfamfiaa
open Go.RowKit
set_option maxRecDepth 100000

set_option maxHeartbeats 2000000 in
theorem record_ref (w : World) (g base : Nat) (o0 : Lo) (hR : Rf w g base o0) (x : Re) (hx : x.ok) (hr : Ev base w (fun W => Re.rdx W base base x)) (ho : o0.2.length ≤ 67000000000000) :
    Calls Try.prog 34 #[.pointer (some ⟨g, 0, none⟩), .agg (rec x).toArray] w fun f w' => f = .returned (.tuple #[]) ∧ Rf w' g base (loR x o0) ∧ Bk g base w w' := by
  have hle : base ≤ w.heap.size := by obtain ⟨_, _, _, _, _, _, h, _⟩ := hR; exact h
  have HNG : Hid (w.heap.size ≠ g) := Lib.hid (by obtain ⟨_, _, _, h, _⟩ := hR; have := h.lt; omega)
  have hb0 := Blk.new w 52 (rec x)
  have hB1 : Below w.heap.size w (w.alloc (.cells (rec x).toArray 52)) := (Below.refl _ w).alloc (Nat.le_refl _) _
  have hR0 := hR.below hB1
  have B0 : Hid (Bk g base w _) := Lib.hid (Bk.of hB1 hle)
  have HR := Lib.hid hr
  have HPS : Hid (∀ W, Blk W w.heap.size 52 (rec x) → W.rangeAt w.heap.size 0 ([.int .i64 x.kd] ++ [.int .i64 x.te] ++ [.int .i64 x.vo] ++ enc x.en ++ [.int .i64 x.ix] ++ [.int .i64 x.sn.ix] ++ [.int .i64 x.sn.te] ++ coc x.sn.co ++ [.string x.sn.da] ++ sgc x.sg)) := Lib.hid (fun W h => h.range 0 (fun j _ => by first | (rw [Nat.zero_add]; done) | (rw [Nat.zero_add]; rfl) | (rw [Nat.zero_add]; congr 1; simp [rec, snc])))
  have HP0 : Hid (∀ W, Blk W w.heap.size 52 (rec x) → W.rangeAt w.heap.size 0 ([.int .i64 x.kd])) := Lib.hid (fun W h => by
    have hp9 := HPS.out W h
    obtain ⟨hp8, f9⟩ := range_app (o := 52) hp9 (by simp [enc_length (x := x.en) hx.1, coc_length (x := x.sn.co) trivial])
    obtain ⟨hp7, f8⟩ := range_app (o := 51) hp8 (by simp [enc_length (x := x.en) hx.1, coc_length (x := x.sn.co) trivial])
    obtain ⟨hp6, f7⟩ := range_app (o := 49) hp7 (by simp [enc_length (x := x.en) hx.1])
    obtain ⟨hp5, f6⟩ := range_app (o := 48) hp6 (by simp [enc_length (x := x.en) hx.1])
    obtain ⟨hp4, f5⟩ := range_app (o := 47) hp5 (by simp [enc_length (x := x.en) hx.1])
    obtain ⟨hp3, f4⟩ := range_app (o := 46) hp4 (by simp [enc_length (x := x.en) hx.1])
    obtain ⟨hp2, f3⟩ := range_app (o := 3) hp3 (by simp)
    obtain ⟨hp1, f2⟩ := range_app (o := 2) hp2 (by simp)
    obtain ⟨hp0, f1⟩ := range_app (o := 1) hp1 (by simp)
    exact hp0)
  have HP1 : Hid (∀ W, Blk W w.heap.size 52 (rec x) → W.rangeAt w.heap.size 1 ([.int .i64 x.te])) := Lib.hid (fun W h => by
    have hp9 := HPS.out W h
    obtain ⟨hp8, f9⟩ := range_app (o := 52) hp9 (by simp [enc_length (x := x.en) hx.1, coc_length (x := x.sn.co) trivial])
    obtain ⟨hp7, f8⟩ := range_app (o := 51) hp8 (by simp [enc_length (x := x.en) hx.1, coc_length (x := x.sn.co) trivial])
    obtain ⟨hp6, f7⟩ := range_app (o := 49) hp7 (by simp [enc_length (x := x.en) hx.1])
    obtain ⟨hp5, f6⟩ := range_app (o := 48) hp6 (by simp [enc_length (x := x.en) hx.1])
    obtain ⟨hp4, f5⟩ := range_app (o := 47) hp5 (by simp [enc_length (x := x.en) hx.1])
    obtain ⟨hp3, f4⟩ := range_app (o := 46) hp4 (by simp [enc_length (x := x.en) hx.1])
    obtain ⟨hp2, f3⟩ := range_app (o := 3) hp3 (by simp)
    obtain ⟨hp1, f2⟩ := range_app (o := 2) hp2 (by simp)
    obtain ⟨hp0, f1⟩ := range_app (o := 1) hp1 (by simp)
    simpa using f1)
  have HP2 : Hid (∀ W, Blk W w.heap.size 52 (rec x) → W.rangeAt w.heap.size 2 ([.int .i64 x.vo])) := Lib.hid (fun W h => by
    have hp9 := HPS.out W h
    obtain ⟨hp8, f9⟩ := range_app (o := 52) hp9 (by simp [enc_length (x := x.en) hx.1, coc_length (x := x.sn.co) trivial])
    obtain ⟨hp7, f8⟩ := range_app (o := 51) hp8 (by simp [enc_length (x := x.en) hx.1, coc_length (x := x.sn.co) trivial])
    obtain ⟨hp6, f7⟩ := range_app (o := 49) hp7 (by simp [enc_length (x := x.en) hx.1])
    obtain ⟨hp5, f6⟩ := range_app (o := 48) hp6 (by simp [enc_length (x := x.en) hx.1])
    obtain ⟨hp4, f5⟩ := range_app (o := 47) hp5 (by simp [enc_length (x := x.en) hx.1])
    obtain ⟨hp3, f4⟩ := range_app (o := 46) hp4 (by simp [enc_length (x := x.en) hx.1])
    obtain ⟨hp2, f3⟩ := range_app (o := 3) hp3 (by simp)
    obtain ⟨hp1, f2⟩ := range_app (o := 2) hp2 (by simp)
    simpa using f2)
  have HP3 : Hid (∀ W, Blk W w.heap.size 52 (rec x) → W.rangeAt w.heap.size 3 (enc x.en)) := Lib.hid (fun W h => by
    have hp9 := HPS.out W h
    obtain ⟨hp8, f9⟩ := range_app (o := 52) hp9 (by simp [enc_length (x := x.en) hx.1, coc_length (x := x.sn.co) trivial])
    obtain ⟨hp7, f8⟩ := range_app (o := 51) hp8 (by simp [enc_length (x := x.en) hx.1, coc_length (x := x.sn.co) trivial])
    obtain ⟨hp6, f7⟩ := range_app (o := 49) hp7 (by simp [enc_length (x := x.en) hx.1])
    obtain ⟨hp5, f6⟩ := range_app (o := 48) hp6 (by simp [enc_length (x := x.en) hx.1])
    obtain ⟨hp4, f5⟩ := range_app (o := 47) hp5 (by simp [enc_length (x := x.en) hx.1])
    obtain ⟨hp3, f4⟩ := range_app (o := 46) hp4 (by simp [enc_length (x := x.en) hx.1])
    obtain ⟨hp2, f3⟩ := range_app (o := 3) hp3 (by simp)
    simpa using f3)
  have HP4 : Hid (∀ W, Blk W w.heap.size 52 (rec x) → W.rangeAt w.heap.size 46 ([.int .i64 x.ix])) := Lib.hid (fun W h => by
    have hp9 := HPS.out W h
    obtain ⟨hp8, f9⟩ := range_app (o := 52) hp9 (by simp [enc_length (x := x.en) hx.1, coc_length (x := x.sn.co) trivial])
    obtain ⟨hp7, f8⟩ := range_app (o := 51) hp8 (by simp [enc_length (x := x.en) hx.1, coc_length (x := x.sn.co) trivial])
    obtain ⟨hp6, f7⟩ := range_app (o := 49) hp7 (by simp [enc_length (x := x.en) hx.1])
    obtain ⟨hp5, f6⟩ := range_app (o := 48) hp6 (by simp [enc_length (x := x.en) hx.1])
    obtain ⟨hp4, f5⟩ := range_app (o := 47) hp5 (by simp [enc_length (x := x.en) hx.1])
    obtain ⟨hp3, f4⟩ := range_app (o := 46) hp4 (by simp [enc_length (x := x.en) hx.1])
    simpa using f4)
  have HP5 : Hid (∀ W, Blk W w.heap.size 52 (rec x) → W.rangeAt w.heap.size 47 ([.int .i64 x.sn.ix])) := Lib.hid (fun W h => by
    have hp9 := HPS.out W h
    obtain ⟨hp8, f9⟩ := range_app (o := 52) hp9 (by simp [enc_length (x := x.en) hx.1, coc_length (x := x.sn.co) trivial])
    obtain ⟨hp7, f8⟩ := range_app (o := 51) hp8 (by simp [enc_length (x := x.en) hx.1, coc_length (x := x.sn.co) trivial])
    obtain ⟨hp6, f7⟩ := range_app (o := 49) hp7 (by simp [enc_length (x := x.en) hx.1])
    obtain ⟨hp5, f6⟩ := range_app (o := 48) hp6 (by simp [enc_length (x := x.en) hx.1])
    obtain ⟨hp4, f5⟩ := range_app (o := 47) hp5 (by simp [enc_length (x := x.en) hx.1])
    simpa using f5)
  have HP6 : Hid (∀ W, Blk W w.heap.size 52 (rec x) → W.rangeAt w.heap.size 48 ([.int .i64 x.sn.te])) := Lib.hid (fun W h => by
    have hp9 := HPS.out W h
    obtain ⟨hp8, f9⟩ := range_app (o := 52) hp9 (by simp [enc_length (x := x.en) hx.1, coc_length (x := x.sn.co) trivial])
    obtain ⟨hp7, f8⟩ := range_app (o := 51) hp8 (by simp [enc_length (x := x.en) hx.1, coc_length (x := x.sn.co) trivial])
    obtain ⟨hp6, f7⟩ := range_app (o := 49) hp7 (by simp [enc_length (x := x.en) hx.1])
    obtain ⟨hp5, f6⟩ := range_app (o := 48) hp6 (by simp [enc_length (x := x.en) hx.1])
    simpa using f6)
  have HP7 : Hid (∀ W, Blk W w.heap.size 52 (rec x) → W.rangeAt w.heap.size 49 (coc x.sn.co)) := Lib.hid (fun W h => by
    have hp9 := HPS.out W h
    obtain ⟨hp8, f9⟩ := range_app (o := 52) hp9 (by simp [enc_length (x := x.en) hx.1, coc_length (x := x.sn.co) trivial])
    obtain ⟨hp7, f8⟩ := range_app (o := 51) hp8 (by simp [enc_length (x := x.en) hx.1, coc_length (x := x.sn.co) trivial])
    obtain ⟨hp6, f7⟩ := range_app (o := 49) hp7 (by simp [enc_length (x := x.en) hx.1])
    simpa using f7)
  have HP8 : Hid (∀ W, Blk W w.heap.size 52 (rec x) → W.rangeAt w.heap.size 51 ([.string x.sn.da])) := Lib.hid (fun W h => by
    have hp9 := HPS.out W h
    obtain ⟨hp8, f9⟩ := range_app (o := 52) hp9 (by simp [enc_length (x := x.en) hx.1, coc_length (x := x.sn.co) trivial])
    obtain ⟨hp7, f8⟩ := range_app (o := 51) hp8 (by simp [enc_length (x := x.en) hx.1, coc_length (x := x.sn.co) trivial])
    simpa using f8)
  have HP9 : Hid (∀ W, Blk W w.heap.size 52 (rec x) → W.rangeAt w.heap.size 52 (sgc x.sg)) := Lib.hid (fun W h => by
    have hp9 := HPS.out W h
    obtain ⟨hp8, f9⟩ := range_app (o := 52) hp9 (by simp [enc_length (x := x.en) hx.1, coc_length (x := x.sn.co) trivial])
    simpa using f9)
  have I3 : Hid ((Try.prog.info? 32).map (·.size) = some (enc x.en).length) := Lib.hid (by rw [enc_length hx.1]; kernel_rfl)
  have I7 : Hid ((Try.prog.info? 30).map (·.size) = some (coc x.sn.co).length) := Lib.hid (by rw [coc_length trivial]; kernel_rfl)
  have I9 : Hid ((Try.prog.info? 50).map (·.size) = some (sgc x.sg).length) := Lib.hid (by rw [sgc_length hx.2]; kernel_rfl)
  have HX := Lib.hid hx
  have L0 : Hid (o0.2.length ≤ 67000000000000) := Lib.hid ho
  have hr0 := range_cell (HP0.out _ hb0) 0 (v := .int .i64 x.kd) rfl
  clear hB1 hr ho hR hx
  go_enter Try.func34, Try.ntmps34
  go_wp2_with fail
  generalize w.alloc (.cells (rec x).toArray 52) = w0 at *
  refine (n_ref w0 g base o0 hR0 x.kd (by have := L0.out; omega)).mono ?_
  rintro e w1 ⟨rfl, hR1, hB⟩
  have hb1 := hb0.bk hB HNG.out (by decide)
  have L1 : Hid ((loN x.kd o0).2.length ≤ 67000000000005) := Lib.hid (by have h1 := L0.out; have h2 := loN_len3 x.kd o0; omega)
  have B1 := Lib.hid (B0.out.trans hB)
  clear hR0 hb0 hr0 hB
  have hr1 := range_cell (HP1.out _ hb1) 0 (v := .int .i64 x.te) rfl
  go_wp2_with fail
  refine (n_ref w1 g base (loN x.kd o0) hR1 x.te (by have := L1.out; omega)).mono ?_
  rintro e w2 ⟨rfl, hR2, hB⟩
  have hb2 := hb1.bk hB HNG.out (by decide)
  have L2 : Hid ((loN x.te (loN x.kd o0)).2.length ≤ 67000000000010) := Lib.hid (by have h1 := L1.out; have h2 := loN_len3 x.te (loN x.kd o0); omega)
  have B2 := Lib.hid (B1.out.trans hB)
  clear hR1 hb1 hr1 hB
  have hr2 := range_cell (HP2.out _ hb2) 0 (v := .int .i64 x.vo) rfl
  go_wp2_with fail
  refine (n_ref w2 g base (loN x.te (loN x.kd o0)) hR2 x.vo (by have := L2.out; omega)).mono ?_
  rintro e w3 ⟨rfl, hR3, hB⟩
  have hb3 := hb2.bk hB HNG.out (by decide)
  have L3 : Hid ((loN x.vo (loN x.te (loN x.kd o0))).2.length ≤ 67000000000015) := Lib.hid (by have h1 := L2.out; have h2 := loN_len3 x.vo (loN x.te (loN x.kd o0)); omega)
  have B3 := Lib.hid (B2.out.trans hB)
  clear hR2 hb2 hr2 hB
  have hr3 := HP3.out _ hb3
  go_wp2_with ((with_reducible refine wpList_loadM (o := ⟨some 18, _, _, _, _, _⟩) ?_ w.heap.size 3 32 (.tmp 17) ?_ ?_ hr3 Try.underlying32 ?_ I3.out ?_); rfl; rfl; rfl; rfl)
  refine (entry_ref w3 g base (loN x.vo (loN x.te (loN x.kd o0))) hR3 x.en HX.out.1 (fun W hW => by have h := HR.out W (B3.out.below.trans hW); exact h.1) (by have := L3.out; omega)).mono ?_
  rintro e w4 ⟨rfl, hR4, hB⟩
  have hb4 := hb3.bk hB HNG.out (by decide)
  have L4 : Hid ((loE x.en (loN x.vo (loN x.te (loN x.kd o0)))).2.length ≤ 67000000172134) := Lib.hid (by have h1 := L3.out; have h2 := loE_len3 (x := x.en) HX.out.1 (loN x.vo (loN x.te (loN x.kd o0))); omega)
  have B4 := Lib.hid (B3.out.trans hB)
  clear hR3 hb3 hr3 hB
  have hr4 := range_cell (HP4.out _ hb4) 0 (v := .int .i64 x.ix) rfl
  go_wp2_with fail
  refine (n_ref w4 g base (loE x.en (loN x.vo (loN x.te (loN x.kd o0)))) hR4 x.ix (by have := L4.out; omega)).mono ?_
  rintro e w5 ⟨rfl, hR5, hB⟩
  have hb5 := hb4.bk hB HNG.out (by decide)
  have L5 : Hid ((loN x.ix (loE x.en (loN x.vo (loN x.te (loN x.kd o0))))).2.length ≤ 67000000172139) := Lib.hid (by have h1 := L4.out; have h2 := loN_len3 x.ix (loE x.en (loN x.vo (loN x.te (loN x.kd o0)))); omega)
  have B5 := Lib.hid (B4.out.trans hB)
  clear hR4 hb4 hr4 hB
  have hr5 := range_cell (HP5.out _ hb5) 0 (v := .int .i64 x.sn.ix) rfl
  go_wp2_with fail
  refine (n_ref w5 g base (loN x.ix (loE x.en (loN x.vo (loN x.te (loN x.kd o0))))) hR5 x.sn.ix (by have := L5.out; omega)).mono ?_
  rintro e w6 ⟨rfl, hR6, hB⟩
  have hb6 := hb5.bk hB HNG.out (by decide)
  have L6 : Hid ((loN x.sn.ix (loN x.ix (loE x.en (loN x.vo (loN x.te (loN x.kd o0)))))).2.length ≤ 67000000172144) := Lib.hid (by have h1 := L5.out; have h2 := loN_len3 x.sn.ix (loN x.ix (loE x.en (loN x.vo (loN x.te (loN x.kd o0))))); omega)
  have B6 := Lib.hid (B5.out.trans hB)
  clear hR5 hb5 hr5 hB
  have hr6 := range_cell (HP6.out _ hb6) 0 (v := .int .i64 x.sn.te) rfl
  go_wp2_with fail
  refine (n_ref w6 g base (loN x.sn.ix (loN x.ix (loE x.en (loN x.vo (loN x.te (loN x.kd o0)))))) hR6 x.sn.te (by have := L6.out; omega)).mono ?_
  rintro e w7 ⟨rfl, hR7, hB⟩
  have hb7 := hb6.bk hB HNG.out (by decide)
  have L7 : Hid ((loN x.sn.te (loN x.sn.ix (loN x.ix (loE x.en (loN x.vo (loN x.te (loN x.kd o0))))))).2.length ≤ 67000000172149) := Lib.hid (by have h1 := L6.out; have h2 := loN_len3 x.sn.te (loN x.sn.ix (loN x.ix (loE x.en (loN x.vo (loN x.te (loN x.kd o0)))))); omega)
  have B7 := Lib.hid (B6.out.trans hB)
  clear hR6 hb6 hr6 hB
  have hr7 := HP7.out _ hb7
  go_wp2_with ((with_reducible refine wpList_loadM (o := ⟨some 37, _, _, _, _, _⟩) ?_ w.heap.size 49 30 (.tmp 36) ?_ ?_ hr7 Try.underlying30 ?_ I7.out ?_); rfl; rfl; rfl; rfl)
  refine (council_ref w7 g base (loN x.sn.te (loN x.sn.ix (loN x.ix (loE x.en (loN x.vo (loN x.te (loN x.kd o0))))))) hR7 x.sn.co trivial (fun W hW => by have h := HR.out W (B7.out.below.trans hW); exact h.2) (by have := L7.out; omega)).mono ?_
  rintro e w8 ⟨rfl, hR8, hB⟩
  have hb8 := hb7.bk hB HNG.out (by decide)
  have L8 : Hid ((loCo x.sn.co (loN x.sn.te (loN x.sn.ix (loN x.ix (loE x.en (loN x.vo (loN x.te (loN x.kd o0)))))))).2.length ≤ 67000000213119) := Lib.hid (by have h1 := L7.out; have h2 := loCo_len3 (x := x.sn.co) trivial (loN x.sn.te (loN x.sn.ix (loN x.ix (loE x.en (loN x.vo (loN x.te (loN x.kd o0))))))); omega)
  have B8 := Lib.hid (B7.out.trans hB)
  clear hR7 hb7 hr7 hB
  have hr8 := range_cell (HP8.out _ hb8) 0 (v := .string x.sn.da) rfl
  go_wp2_with fail
  refine (s_ref w8 g base (loCo x.sn.co (loN x.sn.te (loN x.sn.ix (loN x.ix (loE x.en (loN x.vo (loN x.te (loN x.kd o0)))))))) hR8 x.sn.da (by have := L8.out; omega)).mono ?_
  rintro e w9 ⟨rfl, hR9, hB⟩
  have hb9 := hb8.bk hB HNG.out (by decide)
  have L9 : Hid ((loT x.sn.da (loCo x.sn.co (loN x.sn.te (loN x.sn.ix (loN x.ix (loE x.en (loN x.vo (loN x.te (loN x.kd o0))))))))).2.length ≤ 67000000278660) := Lib.hid (by have h1 := L8.out; have h2 := loT_len3 x.sn.da (loCo x.sn.co (loN x.sn.te (loN x.sn.ix (loN x.ix (loE x.en (loN x.vo (loN x.te (loN x.kd o0)))))))); omega)
  have B9 := Lib.hid (B8.out.trans hB)
  clear hR8 hb8 hr8 hB
  have hr9 := HP9.out _ hb9
  go_wp2_with ((with_reducible refine wpList_loadM (o := ⟨some 46, _, _, _, _, _⟩) ?_ w.heap.size 52 50 (.tmp 45) ?_ ?_ hr9 Try.underlying50 ?_ I9.out ?_); rfl; rfl; rfl; rfl)
  refine (signed_ref w9 g base (loT x.sn.da (loCo x.sn.co (loN x.sn.te (loN x.sn.ix (loN x.ix (loE x.en (loN x.vo (loN x.te (loN x.kd o0))))))))) hR9 x.sg HX.out.2 (by have := L9.out; omega)).mono ?_
  rintro e w10 ⟨rfl, hR10, hB⟩
  go_wp2
  go_end0
  exact ⟨rfl, hR10, B9.out.trans hB⟩

set_option maxHeartbeats 400000 in
theorem putRecordR_any (w : World) (x : Re) (hx : x.ok) (hrd : Re.rd w x) :
    Calls Try.prog 15 #[.agg (rec x).toArray] w (PutP w (loR x (0, []))) := by
  have HBO := Lib.hid built_out
  have hX := Blk.new w 52 (rec x)
  have IS : Hid ((Try.prog.info? 52).map (·.size) = some (rec x).length) := Lib.hid (by rw [rec_length hx]; exact info_record)
  have hX1 := hX.alloc (.cells #[.slice none 0 0, .int .i64 0] 74)
  have hr := hX1.range 0 (cs := rec x) (fun j _ => by simp)
  have hg : Blk ((w.alloc (.cells (rec x).toArray 52)).alloc (.cells #[.slice none 0 0, .int .i64 0] 74)) (w.heap.size + 1) 74 [.slice none 0 0, .int .i64 0] := by
    have := Blk.new (w.alloc (.cells (rec x).toArray 52)) 74 [.slice none 0 0, .int .i64 0]
    simpa using this
  have hB : Below w.heap.size w ((w.alloc (.cells (rec x).toArray 52)).alloc (.cells #[.slice none 0 0, .int .i64 0] 74)) := ((Below.refl _ w).alloc (Nat.le_refl _) _).alloc (by simp) _
  have HB := Lib.hid hB
  have hR : Rf ((w.alloc (.cells (rec x).toArray 52)).alloc (.cells #[.slice none 0 0, .int .i64 0] 74)) (w.heap.size + 1) w.heap.size (0, []) :=
    ⟨none, 0, 0, hg, Own.nil0 _ _, by omega, by simp; omega, rfl⟩
  clear hX hX1 hg hB
  go_enter Try.func15, Try.ntmps15
  go_wp2_with (first
    | ((with_reducible refine wpList_buildI (dst := some 5) HBO.out ?_ ?_); rfl)
    | ((with_reducible refine wpList_loadM (o := ⟨some 8, _, _, _, _, _⟩) ?_ w.heap.size 0 52 (.tmp 1) ?_ ?_ hr Try.underlying52 ?_ IS.out ?_); rfl; rfl; rfl; rfl))
  refine (record_ref _ _ _ _ hR x hx (fun W hW => hrd W _ _ (HB.out.trans hW) (Nat.le_refl _) (Nat.le_refl _)) (by simp)).mono ?_
  rintro e w1 ⟨rfl, hR1, hB1⟩
  generalize loR x (0, []) = o at *
  have HB1 := Lib.hid (HB.out.trans hB1.below)
  clear hR hr hB1
  go_wp2_with fail
  refine (done_ref w1 _ _ o hR1).mono ?_
  rintro e w2 ⟨v, rfl, hO, hB2⟩
  have HP : Hid (∀ W, W = w2 → PutP w o (.returned (.tuple #[v, .int .i64 o.1])) W) :=
    Lib.hid (fun W e => by subst e; exact ⟨v, rfl, hO, HB1.out.trans (hB2.mono HB1.out.size)⟩)
  generalize o.1 = err at *
  clear hO hB2 hR1
  go_wp2
  go_ret2
  exact HP.out _ rfl

end Go.Proofs.Yteeefehbfamfiaa
