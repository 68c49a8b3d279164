/-
  The document's answer, laid out: lists, councils, entries.
-/
import Derived.Test.YteeefehbfamfiaaWirS
import Derived.Test.YteeefehbfamfiaaWirPE
namespace Go.Proofs.Yteeefehbfamfiaa
open Go.RowKit
set_option maxRecDepth 100000

/-- what holds in every later world -/
def Ev (base : Nat) (w : World) (P : World → Prop) : Prop := ∀ W, Below base w W → P W
theorem Ev.step {base : Nat} {w w' : World} {P : World → Prop} (h : Ev base w P) (hb : Below base w w') : Ev base w' P := fun W hW => h W (hb.trans hW)
theorem Ev.now {base : Nat} {w : World} {P : World → Prop} (h : Ev base w P) : P w := h w (Below.refl _ _)
theorem loL_longA {α : Type} {lo1 : α → Lo → Lo} {l : List α} {o : Lo} (h : 4096 < l.length) : loL lo1 l o = loA [] 2 o := by
  by_cases h0 : o.1 = 0 <;> simp [loL, loA, h0, h]
theorem loL_shortA {α : Type} {lo1 : α → Lo → Lo} {l : List α} {o : Lo} (h : l.length ≤ 4096) (hs : ∀ x o, o.1 ≠ 0 → lo1 x o = o) : loL lo1 l o = l.foldl (fun o x => lo1 x o) (loN l.length o) := by
  unfold loL
  split
  · rename_i h0
    rw [loN_stuck h0, fold_stuck (fun x => hs x o h0)]
  · rw [if_neg (by omega)]

set_option maxHeartbeats 400000 in
theorem many_ref (w : World) (g base : Nat) (o : Lo) (hR : Rf w g base o) (n : Nat) (ho : o.2.length ≤ 70368744177664) :
    Calls Try.prog 70 #[.pointer (some ⟨g, 0, none⟩), .int .i64 (n : Int)] w fun f w' => ((n ≤ 4096 ∧ f = .returned (.bool true) ∧ Rf w' g base (loN n o)) ∨ (4096 < n ∧ f = .returned (.bool false) ∧ Rf w' g base (loA [] 2 o))) ∧ Bk g base w w' := by
  by_cases h : 4096 < (n : Int)
  · go_enter Try.func70, Try.ntmps70
    go_wp2_with fail
    refine (add_ref w g base o hR none 0 0 [] (Rd.nil0 w) 2 (by omega) ho).mono ?_
    rintro e w2 ⟨rfl, hR2, hB2⟩
    go_wp2_with fail
    go_ret
    exact ⟨.inr ⟨by omega, rfl, hR2⟩, hB2⟩
  · go_enter Try.func70, Try.ntmps70
    go_wp2_with fail
    refine (n_ref w g base o hR n ho).mono ?_
    rintro e w2 ⟨rfl, hR2, hB2⟩
    go_wp2_with fail
    go_ret
    exact ⟨.inl ⟨by omega, rfl, hR2⟩, hB2⟩

set_option maxHeartbeats 1000000 in
theorem ints_ref (w : World) (g base : Nat) (o : Lo) (hR : Rf w g base o) (a : Option Addr) (n c : Nat) (l : List Int) (hr : Ev base w (fun W => RdG intR W a n c l)) (ho : o.2.length ≤ 70000000000000) :
    Calls Try.prog 85 #[.pointer (some ⟨g, 0, none⟩), .slice a n c] w fun f w' => f = .returned (.tuple #[]) ∧ Rf w' g base (loL loN l o) ∧ Bk g base w w' := by
  have HN := Lib.hid hr.now.len
  have HR := Lib.hid hr
  have HO := Lib.hid ho
  have HCP := Lib.hid hr.now.cap
  clear hr ho
  go_enter Try.func85, Try.ntmps85
  go_wp2_with fail
  refine (many_ref w g base o hR n (by have := HO.out; omega)).mono ?_
  rintro e w1 ⟨hm, hB1⟩
  rcases hm with ⟨h4, rfl, hR1⟩ | ⟨h4, rfl, hR1⟩
  rotate_left
  · go_wp2_with fail
    apply bodyPost_ret
    exact results_none rfl _ _ _
    rfl
    exact ⟨rfl, by rw [loL_longA (by rw [HN.out]; exact h4)]; exact hR1, hB1⟩
  have HSH : Hid (loL loN l o = l.foldl (fun o x => loN x o) (loN n o)) := Lib.hid (by rw [loL_shortA (by rw [HN.out]; exact h4) (fun x o h => loN_stuck h), HN.out])
  have HQ1 : Hid ((loN n o).2.length ≤ 70000000000005) := Lib.hid (by have h1 := loN_len3 n o; have h2 := HO.out; omega)
  generalize loN n o = o1 at *
  have HB1 := Lib.hid hB1
  clear hB1 hR
  go_wp2_with fail
  go_loopw [4] (fun i wr => ∃ (k : Nat) (ok : Lo), k ≤ n ∧ i = .int .i64 (k : Int) ∧ Hid ((l.take k).foldl (fun o x => loN x o) o1 = ok) ∧ Hid (ok.2.length ≤ o1.2.length + k * 5) ∧ Rf wr g base ok ∧ Hid (Bk g base w wr)) (fun i _ => n - (intOf i).toNat)
  case atStart => exact ⟨0, o1, by omega, rfl, Lib.hid rfl, Lib.hid (by omega), hR1, HB1⟩
  case round =>
    obtain ⟨k, ok, hk, rfl, HF, HQK, hRk, HB⟩ := hrel
    by_cases hkn : k < n
    · obtain ⟨yb, yo, rfl, hyb, hel⟩ := (HR.out _ HB.out.below).elems (by omega)
      have hc := range_cell (hel k hkn) 0 (v := .int .i64 (l.getD k 0)) rfl
      have hc' : wr.cell? ⟨yb, yo + k, none⟩ = some (.int .i64 (l.getD k 0)) := by simpa [intR] using hc
      have hki : (k : Int) < (n : Int) := by omega
      have HKL : Hid (k < l.length) := Lib.hid (by rw [HN.out]; exact hkn)
      have HST := Lib.hid (fold_step (f := fun o x => loN x o) (o := o1) (x0 := (0 : Int)) HKL.out)
      have hcap := HCP.out
      clear hel hc hyb
      generalize l.getD k 0 = v at *
      go_wp2_with fail
      refine (n_ref wr g base ok hRk v (by have h1 := HQK.out; have h2 := HQ1.out; omega)).mono ?_
      rintro e w2 ⟨rfl, hR2, hB2⟩
      have HF2 : Hid ((l.take (k + 1)).foldl (fun o x => loN x o) o1 = loN v ok) := Lib.hid (by rw [HST.out, HF.out])
      have HQ2 : Hid ((loN v ok).2.length ≤ o1.2.length + (k + 1) * 5) := Lib.hid (by have h1 := HQK.out; have h2 := loN_len3 v ok; omega)
      have HB2 := Lib.hid (HB.out.trans hB2)
      clear hB2 hRk hc'
      go_wp2_with fail
      go_roundw
      case rel => exact ⟨k + 1, loN v ok, by omega, by go_num, HF2, HQ2, hR2, HB2⟩
      case measure => simp [intOf]; omega
    · obtain rfl : k = n := by omega
      have hki : ¬ (k : Int) < (k : Int) := by omega
      go_wp2_with fail
      go_end0
      have e : l.take k = l := List.take_of_length_le (by rw [HN.out]; omega)
      have hF := HF.out
      rw [e] at hF
      exact ⟨rfl, by rw [HSH.out, hF]; exact hRk, HB.out⟩

set_option maxHeartbeats 2000000 in
theorem council_ref (w : World) (g base : Nat) (o0 : Lo) (hR : Rf w g base o0) (x : Co) (_hx : x.ok) (hr : Ev base w (fun W => Co.rdx W base base x)) (ho : o0.2.length ≤ 69000000000000) :
    Calls Try.prog 50 #[.pointer (some ⟨g, 0, none⟩), .agg (coc x).toArray] w fun f w' => f = .returned (.tuple #[]) ∧ Rf w' g base (loCo x o0) ∧ Bk g base w w' := by
  have hle : base ≤ w.heap.size := by obtain ⟨_, _, _, _, _, _, h, _⟩ := hR; exact h
  have HNG : Hid (w.heap.size ≠ g) := Lib.hid (by obtain ⟨_, _, _, h, _⟩ := hR; have := h.lt; omega)
  have hb0 := Blk.new w 30 (coc x)
  have hB1 : Below w.heap.size w (w.alloc (.cells (coc x).toArray 30)) := (Below.refl _ w).alloc (Nat.le_refl _) _
  have hR0 := hR.below hB1
  have B0 : Hid (Bk g base w _) := Lib.hid (Bk.of hB1 hle)
  have HR := Lib.hid hr
  have HPS : Hid (∀ W, Blk W w.heap.size 30 (coc x) → W.rangeAt w.heap.size 0 ([.slice x.va x.v.length x.vc] ++ [.slice x.la x.l.length x.lc])) := Lib.hid (fun W h => h.range 0 (fun j _ => by first | (rw [Nat.zero_add]; done) | (rw [Nat.zero_add]; rfl) | (rw [Nat.zero_add]; congr 1; simp [coc])))
  have HP0 : Hid (∀ W, Blk W w.heap.size 30 (coc x) → W.rangeAt w.heap.size 0 ([.slice x.va x.v.length x.vc])) := Lib.hid (fun W h => by
    have hp1 := HPS.out W h
    obtain ⟨hp0, f1⟩ := range_app (o := 1) hp1 (by simp)
    exact hp0)
  have HP1 : Hid (∀ W, Blk W w.heap.size 30 (coc x) → W.rangeAt w.heap.size 1 ([.slice x.la x.l.length x.lc])) := Lib.hid (fun W h => by
    have hp1 := HPS.out W h
    obtain ⟨hp0, f1⟩ := range_app (o := 1) hp1 (by simp)
    simpa using f1)
  have L0 : Hid (o0.2.length ≤ 69000000000000) := Lib.hid ho
  have hr0 := range_cell (HP0.out _ hb0) 0 (v := .slice x.va x.v.length x.vc) rfl
  clear hB1 hr ho hR
  go_enter Try.func50, Try.ntmps50
  go_wp2_with fail
  generalize w.alloc (.cells (coc x).toArray 30) = w0 at *
  refine (ints_ref w0 g base o0 hR0 x.va x.v.length x.vc x.v (fun W hW => by have h := HR.out W (B0.out.below.trans hW); exact (h.1).rd) (by have := L0.out; omega)).mono ?_
  rintro e w1 ⟨rfl, hR1, hB⟩
  have hb1 := hb0.bk hB HNG.out (by decide)
  have L1 : Hid ((loL loN x.v o0).2.length ≤ 69000000020485) := Lib.hid (by have h1 := L0.out; have h2 := loL_len2 (lo1 := loN) (l := x.v) (o := o0) (M := 5) (fun y _ o => loN_len3 y o); omega)
  have B1 := Lib.hid (B0.out.trans hB)
  clear hR0 hb0 hr0 hB
  have hr1 := range_cell (HP1.out _ hb1) 0 (v := .slice x.la x.l.length x.lc) rfl
  go_wp2_with fail
  refine (ints_ref w1 g base (loL loN x.v o0) hR1 x.la x.l.length x.lc x.l (fun W hW => by have h := HR.out W (B1.out.below.trans hW); exact (h.2).rd) (by have := L1.out; omega)).mono ?_
  rintro e w2 ⟨rfl, hR2, hB⟩
  go_wp2
  go_end0
  exact ⟨rfl, hR2, B1.out.trans hB⟩

set_option maxHeartbeats 2000000 in
theorem entry_ref (w : World) (g base : Nat) (o0 : Lo) (hR : Rf w g base o0) (x : En) (hx : x.ok) (hr : Ev base w (fun W => En.rdx W base base x)) (ho : o0.2.length ≤ 68000000000000) :
    Calls Try.prog 28 #[.pointer (some ⟨g, 0, none⟩), .agg (enc x).toArray] w fun f w' => f = .returned (.tuple #[]) ∧ Rf w' g base (loE x o0) ∧ Bk g base w w' := by
  have hle : base ≤ w.heap.size := by obtain ⟨_, _, _, _, _, _, h, _⟩ := hR; exact h
  have HNG : Hid (w.heap.size ≠ g) := Lib.hid (by obtain ⟨_, _, _, h, _⟩ := hR; have := h.lt; omega)
  have hb0 := Blk.new w 32 (enc x)
  have hB1 : Below w.heap.size w (w.alloc (.cells (enc x).toArray 32)) := (Below.refl _ w).alloc (Nat.le_refl _) _
  have hR0 := hR.below hB1
  have B0 : Hid (Bk g base w _) := Lib.hid (Bk.of hB1 hle)
  have HR := Lib.hid hr
  have HPS : Hid (∀ W, Blk W w.heap.size 32 (enc x) → W.rangeAt w.heap.size 0 ([.int .i64 x.ix] ++ [.int .i64 x.te] ++ [.int .i64 x.kd] ++ cmc x.cm ++ coc x.co)) := Lib.hid (fun W h => h.range 0 (fun j _ => by first | (rw [Nat.zero_add]; done) | (rw [Nat.zero_add]; rfl) | (rw [Nat.zero_add]; congr 1; simp [enc])))
  have HP0 : Hid (∀ W, Blk W w.heap.size 32 (enc x) → W.rangeAt w.heap.size 0 ([.int .i64 x.ix])) := Lib.hid (fun W h => by
    have hp4 := HPS.out W h
    obtain ⟨hp3, f4⟩ := range_app (o := 41) hp4 (by simp [cmc_length (x := x.cm) hx])
    obtain ⟨hp2, f3⟩ := range_app (o := 3) hp3 (by simp)
    obtain ⟨hp1, f2⟩ := range_app (o := 2) hp2 (by simp)
    obtain ⟨hp0, f1⟩ := range_app (o := 1) hp1 (by simp)
    exact hp0)
  have HP1 : Hid (∀ W, Blk W w.heap.size 32 (enc x) → W.rangeAt w.heap.size 1 ([.int .i64 x.te])) := Lib.hid (fun W h => by
    have hp4 := HPS.out W h
    obtain ⟨hp3, f4⟩ := range_app (o := 41) hp4 (by simp [cmc_length (x := x.cm) hx])
    obtain ⟨hp2, f3⟩ := range_app (o := 3) hp3 (by simp)
    obtain ⟨hp1, f2⟩ := range_app (o := 2) hp2 (by simp)
    obtain ⟨hp0, f1⟩ := range_app (o := 1) hp1 (by simp)
    simpa using f1)
  have HP2 : Hid (∀ W, Blk W w.heap.size 32 (enc x) → W.rangeAt w.heap.size 2 ([.int .i64 x.kd])) := Lib.hid (fun W h => by
    have hp4 := HPS.out W h
    obtain ⟨hp3, f4⟩ := range_app (o := 41) hp4 (by simp [cmc_length (x := x.cm) hx])
    obtain ⟨hp2, f3⟩ := range_app (o := 3) hp3 (by simp)
    obtain ⟨hp1, f2⟩ := range_app (o := 2) hp2 (by simp)
    simpa using f2)
  have HP3 : Hid (∀ W, Blk W w.heap.size 32 (enc x) → W.rangeAt w.heap.size 3 (cmc x.cm)) := Lib.hid (fun W h => by
    have hp4 := HPS.out W h
    obtain ⟨hp3, f4⟩ := range_app (o := 41) hp4 (by simp [cmc_length (x := x.cm) hx])
    obtain ⟨hp2, f3⟩ := range_app (o := 3) hp3 (by simp)
    simpa using f3)
  have HP4 : Hid (∀ W, Blk W w.heap.size 32 (enc x) → W.rangeAt w.heap.size 41 (coc x.co)) := Lib.hid (fun W h => by
    have hp4 := HPS.out W h
    obtain ⟨hp3, f4⟩ := range_app (o := 41) hp4 (by simp [cmc_length (x := x.cm) hx])
    simpa using f4)
  have I3 : Hid ((Try.prog.info? 27).map (·.size) = some (cmc x.cm).length) := Lib.hid (by rw [cmc_length hx]; kernel_rfl)
  have I4 : Hid ((Try.prog.info? 30).map (·.size) = some (coc x.co).length) := Lib.hid (by rw [coc_length trivial]; kernel_rfl)
  have HX := Lib.hid hx
  have L0 : Hid (o0.2.length ≤ 68000000000000) := Lib.hid ho
  have hr0 := range_cell (HP0.out _ hb0) 0 (v := .int .i64 x.ix) rfl
  clear hB1 hr ho hR hx
  go_enter Try.func28, Try.ntmps28
  go_wp2_with fail
  generalize w.alloc (.cells (enc x).toArray 32) = w0 at *
  refine (n_ref w0 g base o0 hR0 x.ix (by have := L0.out; omega)).mono ?_
  rintro e w1 ⟨rfl, hR1, hB⟩
  have hb1 := hb0.bk hB HNG.out (by decide)
  have L1 : Hid ((loN x.ix o0).2.length ≤ 68000000000005) := Lib.hid (by have h1 := L0.out; have h2 := loN_len3 x.ix o0; omega)
  have B1 := Lib.hid (B0.out.trans hB)
  clear hR0 hb0 hr0 hB
  have hr1 := range_cell (HP1.out _ hb1) 0 (v := .int .i64 x.te) rfl
  go_wp2_with fail
  refine (n_ref w1 g base (loN x.ix o0) hR1 x.te (by have := L1.out; omega)).mono ?_
  rintro e w2 ⟨rfl, hR2, hB⟩
  have hb2 := hb1.bk hB HNG.out (by decide)
  have L2 : Hid ((loN x.te (loN x.ix o0)).2.length ≤ 68000000000010) := Lib.hid (by have h1 := L1.out; have h2 := loN_len3 x.te (loN x.ix o0); omega)
  have B2 := Lib.hid (B1.out.trans hB)
  clear hR1 hb1 hr1 hB
  have hr2 := range_cell (HP2.out _ hb2) 0 (v := .int .i64 x.kd) rfl
  go_wp2_with fail
  refine (n_ref w2 g base (loN x.te (loN x.ix o0)) hR2 x.kd (by have := L2.out; omega)).mono ?_
  rintro e w3 ⟨rfl, hR3, hB⟩
  have hb3 := hb2.bk hB HNG.out (by decide)
  have L3 : Hid ((loN x.kd (loN x.te (loN x.ix o0))).2.length ≤ 68000000000015) := Lib.hid (by have h1 := L2.out; have h2 := loN_len3 x.kd (loN x.te (loN x.ix o0)); omega)
  have B3 := Lib.hid (B2.out.trans hB)
  clear hR2 hb2 hr2 hB
  have hr3 := HP3.out _ hb3
  go_wp2_with ((with_reducible refine wpList_loadM (o := ⟨some 18, _, _, _, _, _⟩) ?_ w.heap.size 3 27 (.tmp 17) ?_ ?_ hr3 Try.underlying27 ?_ I3.out ?_); rfl; rfl; rfl; rfl)
  refine (command_ref w3 g base (loN x.kd (loN x.te (loN x.ix o0))) hR3 x.cm HX.out (by have := L3.out; omega)).mono ?_
  rintro e w4 ⟨rfl, hR4, hB⟩
  have hb4 := hb3.bk hB HNG.out (by decide)
  have L4 : Hid ((loC x.cm (loN x.kd (loN x.te (loN x.ix o0)))).2.length ≤ 68000000131149) := Lib.hid (by have h1 := L3.out; have h2 := loC_len3 (x := x.cm) HX.out (loN x.kd (loN x.te (loN x.ix o0))); omega)
  have B4 := Lib.hid (B3.out.trans hB)
  clear hR3 hb3 hr3 hB
  have hr4 := HP4.out _ hb4
  go_wp2_with ((with_reducible refine wpList_loadM (o := ⟨some 22, _, _, _, _, _⟩) ?_ w.heap.size 41 30 (.tmp 21) ?_ ?_ hr4 Try.underlying30 ?_ I4.out ?_); rfl; rfl; rfl; rfl)
  refine (council_ref w4 g base (loC x.cm (loN x.kd (loN x.te (loN x.ix o0)))) hR4 x.co trivial (fun W hW => by have h := HR.out W (B4.out.below.trans hW); exact h) (by have := L4.out; omega)).mono ?_
  rintro e w5 ⟨rfl, hR5, hB⟩
  go_wp2
  go_end0
  exact ⟨rfl, hR5, B4.out.trans hB⟩

set_option maxHeartbeats 400000 in
theorem putEntryR_any (w : World) (x : En) (hx : x.ok) (hrd : En.rd w x) :
    Calls Try.prog 9 #[.agg (enc x).toArray] w (PutP w (loE x (0, []))) := by
  have HBO := Lib.hid built_out
  have hX := Blk.new w 32 (enc x)
  have IS : Hid ((Try.prog.info? 32).map (·.size) = some (enc x).length) := Lib.hid (by rw [enc_length hx]; exact info_entry)
  have hX1 := hX.alloc (.cells #[.slice none 0 0, .int .i64 0] 74)
  have hr := hX1.range 0 (cs := enc x) (fun j _ => by simp)
  have hg : Blk ((w.alloc (.cells (enc x).toArray 32)).alloc (.cells #[.slice none 0 0, .int .i64 0] 74)) (w.heap.size + 1) 74 [.slice none 0 0, .int .i64 0] := by
    have := Blk.new (w.alloc (.cells (enc x).toArray 32)) 74 [.slice none 0 0, .int .i64 0]
    simpa using this
  have hB : Below w.heap.size w ((w.alloc (.cells (enc x).toArray 32)).alloc (.cells #[.slice none 0 0, .int .i64 0] 74)) := ((Below.refl _ w).alloc (Nat.le_refl _) _).alloc (by simp) _
  have HB := Lib.hid hB
  have hR : Rf ((w.alloc (.cells (enc x).toArray 32)).alloc (.cells #[.slice none 0 0, .int .i64 0] 74)) (w.heap.size + 1) w.heap.size (0, []) :=
    ⟨none, 0, 0, hg, Own.nil0 _ _, by omega, by simp; omega, rfl⟩
  clear hX hX1 hg hB
  go_enter Try.func9, Try.ntmps9
  go_wp2_with (first
    | ((with_reducible refine wpList_buildI (dst := some 5) HBO.out ?_ ?_); rfl)
    | ((with_reducible refine wpList_loadM (o := ⟨some 8, _, _, _, _, _⟩) ?_ w.heap.size 0 32 (.tmp 1) ?_ ?_ hr Try.underlying32 ?_ IS.out ?_); rfl; rfl; rfl; rfl))
  refine (entry_ref _ _ _ _ hR x hx (fun W hW => hrd W _ _ (HB.out.trans hW) (Nat.le_refl _) (Nat.le_refl _)) (by simp)).mono ?_
  rintro e w1 ⟨rfl, hR1, hB1⟩
  generalize loE x (0, []) = o at *
  have HB1 := Lib.hid (HB.out.trans hB1.below)
  clear hR hr hB1
  go_wp2_with fail
  refine (done_ref w1 _ _ o hR1).mono ?_
  rintro e w2 ⟨v, rfl, hO, hB2⟩
  have HP : Hid (∀ W, W = w2 → PutP w o (.returned (.tuple #[v, .int .i64 o.1])) W) :=
    Lib.hid (fun W e => by subst e; exact ⟨v, rfl, hO, HB1.out.trans (hB2.mono HB1.out.size)⟩)
  generalize o.1 = err at *
  clear hO hB2 hR1
  go_wp2
  go_ret2
  exact HP.out _ rfl

end Go.Proofs.Yteeefehbfamfiaa
