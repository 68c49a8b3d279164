/-
  Package wire's fields, encoded and decoded: council, entry, snapshot, record, user.
-/
import Derived.Test.YtoclahcibilbhaaGreatWirY1
namespace Go.Proofs.YtoclahcibilbhaaGreat
open Go.RowKit
set_option maxRecDepth 100000

set_option maxHeartbeats 2000000 in
theorem council_enc (w0 : World) (b B : Nat) (q0 : List UInt8) (hC0 : CdX w0 b B q0) (X off : Nat) (hlt : X < B) (hne : X ≠ b) (x : Co) (hx : x.ok) (hp : w0.rangeAt X off (coc x)) (hr : Co.rdx w0 b B x) (ho : q0.length ≤ 70368744136684) :
    Calls Tryz.prog 65 #[.pointer (some ⟨b, 0, none⟩), .pointer (some ⟨X, off, none⟩)] w0 fun e w' => ∃ err, Abt err e ∧ LayO (loCo x (0, q0)) err (fun l => CdX w' b B l) ∧ Stp (· = b) B w0 w' := by
  have hp1 : w0.rangeAt X off ([.slice x.va x.v.length x.vc] ++ [.slice x.la x.l.length x.lc]) := hp
  obtain ⟨hp0, F1⟩ := range_app (o := 1) hp1 (by simp)
  have P0 := Lib.hid hp0
  have P1 := Lib.hid F1
  have HX := Lib.hid hx
  have HR := Lib.hid hr
  have L0 : Hid (q0.length ≤ 70368744136684) := Lib.hid ho
  have HLT := Lib.hid hlt
  have HNE := Lib.hid hne
  have S0 : Hid (Stp (· = b) B w0 w0) := Lib.hid (Stp.refl _ _ _)
  clear hp hx ho hlt hne hp0 hp1 F1 hr
  go_enter Tryz.func65, Tryz.ntmps65
  go_wp2_with fail
  refine (list_enc_int w0 b B q0 hC0 X off HLT.out HNE.out x.va x.v.length x.vc (by have := range_cell (S0.out.range P0.out HLT.out HNE.out) 0 (v := .slice x.va x.v.length x.vc) rfl; simpa using this) x.v (RdX.stp (HR.out.1) S0.out) (by have := L0.out; omega)).mono ?_
  rintro e w1 ⟨err, he, hL, hs⟩
  rcases he with ⟨rfl, rfl⟩ | ⟨h0, rfl⟩
  rotate_left
  · refine ⟨rfl, err, Abt.no h0, ?_, S0.out.trans hs⟩
    rw [loCo]
    exact LayO.stuck (f := fun o => loL loN x.l (o)) (fun o h => by simp only [loL_stuck h]) hL h0
  obtain ⟨q1, e1, hC1⟩ := hL.ok
  have L1 : Hid (q1.length ≤ 70368744157169) := Lib.hid (by have h1 := L0.out; have h2 := loL_len2 (lo1 := loN) (l := x.v) (o := (0, q0)) (M := 5) (fun y _ o => loN_len3 y o); rw [e1] at h2; simp only at h2; omega)
  have E1 := Lib.hid e1
  have S1 := Lib.hid (S0.out.trans hs)
  clear hL e1 hs hC0
  go_wp2_with fail
  refine (list_enc_int w1 b B q1 hC1 X (off + 1) HLT.out HNE.out x.la x.l.length x.lc (by have := range_cell (S1.out.range P1.out HLT.out HNE.out) 0 (v := .slice x.la x.l.length x.lc) rfl; simpa using this) x.l (RdX.stp (HR.out.2) S1.out) (by have := L1.out; omega)).mono ?_
  rintro e w2 ⟨err, he, hL, hs⟩
  rcases he with ⟨rfl, rfl⟩ | ⟨h0, rfl⟩
  rotate_left
  · refine ⟨rfl, err, Abt.no h0, ?_, S1.out.trans hs⟩
    rw [loCo, E1.out]
    exact ⟨hL.1, fun e => absurd e h0⟩
  go_wp2
  go_end0
  exact ⟨0, Abt.ok, by rw [loCo, E1.out]; exact hL, S1.out.trans hs⟩

set_option maxHeartbeats 2000000 in
theorem council_dec (A : Nat) (a0 : Option Addr) (n0 c0 : Nat) (l0 : List UInt8) (b r X B : Nat) (t : TypeId) (w0 : World) (q0 : List UInt8) (vs : List Value) (hD0 : Dc A a0 n0 c0 l0 b r X B t w0 q0 vs) (off : Nat) (hfit : off + 2 ≤ vs.length) (hz0 : vs[off]? = some (.slice none 0 0)) (hz1 : vs[off + 1]? = some (.slice none 0 0)) (k_int : t ≠ 3) :
    Calls Tryz.prog 65 #[.pointer (some ⟨b, 0, none⟩), .pointer (some ⟨X, off, none⟩)] w0 fun e w' => ∃ err, Abt err e ∧ (DecI (gCo q0) err fun x l' => ∃ y : Co, y.cl = x ∧ y.ok ∧ Dc A a0 n0 c0 l0 b r X B t w' l' (splice vs off (coc y)) ∧ Co.own w' B y) ∧ Stp (fun k => k = r ∨ k = X) B w0 w' := by
  have HF := Lib.hid hfit
  have S0 : Hid (Stp (fun k => k = r ∨ k = X) B w0 w0) := Lib.hid (Stp.refl _ _ _)
  have HLS := Lib.hid hD0.lt
  have HZ0 := Lib.hid hz0
  have HZ1 := Lib.hid hz1
  clear hfit hz0 hz1
  go_enter Tryz.func65, Tryz.ntmps65
  go_wp2_with fail
  refine (list_dec_int A a0 n0 c0 l0 b r X w0.heap.size t w0 q0 vs hD0.lift off HZ0.out k_int).mono ?_
  rintro e w1 ⟨err, he, hN, hs⟩
  rcases hN with ⟨rfl, v0, q1, hg, sa0, sc0, hD1, O0⟩ | ⟨h0, hg⟩
  rotate_left
  · obtain ⟨h1, _⟩ | ⟨_, rfl⟩ := he
    · exact absurd h1 h0
    exact ⟨rfl, err, Abt.no h0, .inr ⟨h0, by simp [gCo, hg]⟩, S0.out.trans (hs.lower hD0.le)⟩
  obtain ⟨_, rfl⟩ | ⟨h0, _⟩ := he
  rotate_left
  · exact absurd rfl h0
  rw [splice_one _ _ _ (by have := HF.out; omega)] at hD1
  have hD1' := hD1
  clear hD1
  have hD1 := hD1'.back' (Nat.le_trans hD0.le hs.size) HLS.out
  have O0 := Lib.hid (O0.lower hD0.le)
  have G1 := Lib.hid hg
  have S1 := Lib.hid (S0.out.trans (hs.lower hD0.le))
  clear hg hs hD0 hD1'
  go_wp2_with fail
  have HC1 : Hid (([.slice sa0 v0.length sc0] : List Value).length = 1) := Lib.hid (by simp)
  have HV1 : Hid ((splice vs off ([.slice sa0 v0.length sc0] : List Value)).length = vs.length) := Lib.hid (length_splice _ _ _ (by have h1 := HF.out; have h2 := HC1.out; omega))
  refine (list_dec_int A a0 n0 c0 l0 b r X w1.heap.size t w1 q1 (splice vs off ([.slice sa0 v0.length sc0] : List Value)) hD1.lift (off + 1) (by have h1 := HF.out; have h2 := HC1.out; have h3 := HZ1.out; rw [splice_after _ _ _ _ (by omega) (by omega)]; exact h3) k_int).mono ?_
  rintro e w2 ⟨err, he, hN, hs⟩
  rcases hN with ⟨rfl, v1, q2, hg, sa1, sc1, hD2, O1⟩ | ⟨h0, hg⟩
  rotate_left
  · obtain ⟨h1, _⟩ | ⟨_, rfl⟩ := he
    · exact absurd h1 h0
    exact ⟨rfl, err, Abt.no h0, .inr ⟨h0, by simp [gCo, G1.out, hg]⟩, S1.out.trans (hs.lower hD1.le)⟩
  obtain ⟨_, rfl⟩ | ⟨h0, _⟩ := he
  rotate_left
  · exact absurd rfl h0
  rw [splice_one _ _ _ (by have h1 := HF.out; have h2 := HV1.out; omega), show splice (splice vs off ([.slice sa0 v0.length sc0] : List Value)) (off + 1) [.slice sa1 v1.length sc1] = splice vs off ([.slice sa0 v0.length sc0] ++ [.slice sa1 v1.length sc1]) from by have h3 := splice_next vs ([.slice sa0 v0.length sc0] : List Value) [.slice sa1 v1.length sc1] off (by have h1 := HF.out; have h2 := HC1.out; omega); rw [HC1.out] at h3; exact h3] at hD2
  have O0 := Lib.hid (O0.out.kpT (hD1.kpT hs k_int (by decide)))
  have hD2' := hD2
  clear hD2
  have hD2 := hD2'.back' (Nat.le_trans hD1.le hs.size) HLS.out
  have O1 := Lib.hid (O1.lower hD1.le)
  have G2 := Lib.hid hg
  have S2 := Lib.hid (S1.out.trans (hs.lower hD1.le))
  clear hg hs hD1 hD2'
  go_wp2
  go_end0
  exact ⟨0, Abt.ok, .inl ⟨rfl, _, q2, by simp only [gCo, G1.out, G2.out, Option.bind_some]; rfl, ⟨v0, sa0, sc0, v1, sa1, sc1⟩, rfl, trivial, hD2, ⟨O0.out, O1.out⟩⟩, S2.out⟩

set_option maxHeartbeats 2000000 in
theorem entry_enc (w0 : World) (b B : Nat) (q0 : List UInt8) (hC0 : CdX w0 b B q0) (X off : Nat) (hlt : X < B) (hne : X ≠ b) (x : En) (hx : x.ok) (hp : w0.rangeAt X off (enc x)) (hr : En.rdx w0 b B x) (ho : q0.length ≤ 70368744005525) :
    Calls Tryz.prog 33 #[.pointer (some ⟨b, 0, none⟩), .pointer (some ⟨X, off, none⟩)] w0 fun e w' => ∃ err, Abt err e ∧ LayO (loE x (0, q0)) err (fun l => CdX w' b B l) ∧ Stp (· = b) B w0 w' := by
  have hp4 : w0.rangeAt X off ([.int .i64 x.ix] ++ [.int .i64 x.te] ++ [.int .i64 x.kd] ++ cmc x.cm ++ coc x.co) := hp
  obtain ⟨hp3, F4⟩ := range_app (o := 41) hp4 (by simp [cmc_length (x := x.cm) hx])
  obtain ⟨hp2, F3⟩ := range_app (o := 3) hp3 (by simp)
  obtain ⟨hp1, F2⟩ := range_app (o := 2) hp2 (by simp)
  obtain ⟨hp0, F1⟩ := range_app (o := 1) hp1 (by simp)
  have P0 := Lib.hid hp0
  have P1 := Lib.hid F1
  have P2 := Lib.hid F2
  have P3 := Lib.hid F3
  have P4 := Lib.hid F4
  have HX := Lib.hid hx
  have HR := Lib.hid hr
  have L0 : Hid (q0.length ≤ 70368744005525) := Lib.hid ho
  have HLT := Lib.hid hlt
  have HNE := Lib.hid hne
  have S0 : Hid (Stp (· = b) B w0 w0) := Lib.hid (Stp.refl _ _ _)
  clear hp hx ho hlt hne hp0 hp1 hp2 hp3 hp4 F1 F2 F3 F4 hr
  go_enter Tryz.func33, Tryz.ntmps33
  go_wp2_with fail
  refine (number_enc_int w0 b B q0 hC0 ⟨X, off, none⟩ x.ix (by have := range_cell (S0.out.range P0.out HLT.out HNE.out) 0 (v := .int .i64 x.ix) rfl; simpa using this) (by have := L0.out; omega)).mono ?_
  rintro e w1 ⟨err, he, hN, hs⟩
  have hL := hN.lay
  rcases he with ⟨rfl, rfl⟩ | ⟨h0, rfl⟩
  rotate_left
  · refine ⟨rfl, err, Abt.no h0, ?_, S0.out.trans hs⟩
    rw [loE]
    exact LayO.stuck (f := fun o => loCo x.co (loC x.cm (loN x.kd (loN x.te (o))))) (fun o h => by simp only [loN_stuck h, loC_stuck h, loCo_stuck h]) hL h0
  obtain ⟨q1, e1, hC1⟩ := hL.ok
  have L1 : Hid (q1.length ≤ 70368744005530) := Lib.hid (by have h1 := L0.out; have h2 := loN_len3 x.ix (0, q0); rw [e1] at h2; simp only at h2; omega)
  have E1 := Lib.hid e1
  have S1 := Lib.hid (S0.out.trans hs)
  clear hN hL e1 hs hC0
  go_wp2_with fail
  refine (number_enc_int w1 b B q1 hC1 ⟨X, off + 1, none⟩ x.te (by have := range_cell (S1.out.range P1.out HLT.out HNE.out) 0 (v := .int .i64 x.te) rfl; simpa using this) (by have := L1.out; omega)).mono ?_
  rintro e w2 ⟨err, he, hN, hs⟩
  have hL := hN.lay
  rcases he with ⟨rfl, rfl⟩ | ⟨h0, rfl⟩
  rotate_left
  · refine ⟨rfl, err, Abt.no h0, ?_, S1.out.trans hs⟩
    rw [loE, E1.out]
    exact LayO.stuck (f := fun o => loCo x.co (loC x.cm (loN x.kd (o)))) (fun o h => by simp only [loN_stuck h, loC_stuck h, loCo_stuck h]) hL h0
  obtain ⟨q2, e2, hC2⟩ := hL.ok
  have L2 : Hid (q2.length ≤ 70368744005535) := Lib.hid (by have h1 := L1.out; have h2 := loN_len3 x.te (0, q1); rw [e2] at h2; simp only at h2; omega)
  have E2 := Lib.hid e2
  have S2 := Lib.hid (S1.out.trans hs)
  clear hN hL e2 hs hC1
  go_wp2_with fail
  refine (number_enc_EntryKind w2 b B q2 hC2 ⟨X, off + 2, none⟩ x.kd (by have := range_cell (S2.out.range P2.out HLT.out HNE.out) 0 (v := .int .i64 x.kd) rfl; simpa using this) (by have := L2.out; omega)).mono ?_
  rintro e w3 ⟨err, he, hN, hs⟩
  have hL := hN.lay
  rcases he with ⟨rfl, rfl⟩ | ⟨h0, rfl⟩
  rotate_left
  · refine ⟨rfl, err, Abt.no h0, ?_, S2.out.trans hs⟩
    rw [loE, E1.out, E2.out]
    exact LayO.stuck (f := fun o => loCo x.co (loC x.cm (o))) (fun o h => by simp only [loC_stuck h, loCo_stuck h]) hL h0
  obtain ⟨q3, e3, hC3⟩ := hL.ok
  have L3 : Hid (q3.length ≤ 70368744005540) := Lib.hid (by have h1 := L2.out; have h2 := loN_len3 x.kd (0, q2); rw [e3] at h2; simp only at h2; omega)
  have E3 := Lib.hid e3
  have S3 := Lib.hid (S2.out.trans hs)
  clear hN hL e3 hs hC2
  go_wp2_with fail
  refine (command_enc w3 b B q3 hC3 X (off + 3) HLT.out HNE.out x.cm HX.out (S3.out.range P3.out HLT.out HNE.out) (by have := L3.out; omega)).mono ?_
  rintro e w4 ⟨err, he, hL, hs⟩
  rcases he with ⟨rfl, rfl⟩ | ⟨h0, rfl⟩
  rotate_left
  · refine ⟨rfl, err, Abt.no h0, ?_, S3.out.trans hs⟩
    rw [loE, E1.out, E2.out, E3.out]
    exact LayO.stuck (f := fun o => loCo x.co (o)) (fun o h => by simp only [loCo_stuck h]) hL h0
  obtain ⟨q4, e4, hC4⟩ := hL.ok
  have L4 : Hid (q4.length ≤ 70368744136674) := Lib.hid (by have h1 := L3.out; have h2 := loC_len3 (x := x.cm) HX.out (0, q3); rw [e4] at h2; simp only at h2; omega)
  have E4 := Lib.hid e4
  have S4 := Lib.hid (S3.out.trans hs)
  clear hL e4 hs hC3
  go_wp2_with fail
  refine (council_enc w4 b B q4 hC4 X (off + 41) HLT.out HNE.out x.co trivial (S4.out.range P4.out HLT.out HNE.out) (Co.rdx_stp (HR.out) S4.out) (by have := L4.out; omega)).mono ?_
  rintro e w5 ⟨err, he, hL, hs⟩
  rcases he with ⟨rfl, rfl⟩ | ⟨h0, rfl⟩
  rotate_left
  · refine ⟨rfl, err, Abt.no h0, ?_, S4.out.trans hs⟩
    rw [loE, E1.out, E2.out, E3.out, E4.out]
    exact ⟨hL.1, fun e => absurd e h0⟩
  go_wp2
  go_end0
  exact ⟨0, Abt.ok, by rw [loE, E1.out, E2.out, E3.out, E4.out]; exact hL, S4.out.trans hs⟩

set_option maxHeartbeats 2000000 in
theorem entry_dec (A : Nat) (a0 : Option Addr) (n0 c0 : Nat) (l0 : List UInt8) (b r X B : Nat) (t : TypeId) (w0 : World) (q0 : List UInt8) (vs : List Value) (hD0 : Dc A a0 n0 c0 l0 b r X B t w0 q0 vs) (off : Nat) (hfit : off + 43 ≤ vs.length) (hz0 : vs[off + 41]? = some (.slice none 0 0)) (hz1 : vs[off + 42]? = some (.slice none 0 0)) (k_int : t ≠ 3) :
    Calls Tryz.prog 33 #[.pointer (some ⟨b, 0, none⟩), .pointer (some ⟨X, off, none⟩)] w0 fun e w' => ∃ err, Abt err e ∧ (DecI (gE q0) err fun x l' => ∃ y : En, y.cl = x ∧ y.ok ∧ Dc A a0 n0 c0 l0 b r X B t w' l' (splice vs off (enc y)) ∧ En.own w' B y) ∧ Stp (fun k => k = r ∨ k = X) B w0 w' := by
  have HF := Lib.hid hfit
  have S0 : Hid (Stp (fun k => k = r ∨ k = X) B w0 w0) := Lib.hid (Stp.refl _ _ _)
  have HLS := Lib.hid hD0.lt
  have HZ0 := Lib.hid hz0
  have HZ1 := Lib.hid hz1
  clear hfit hz0 hz1
  go_enter Tryz.func33, Tryz.ntmps33
  go_wp2_with fail
  obtain ⟨y0, hy0⟩ : ∃ y, vs[off]? = some y := ⟨_, List.getElem?_eq_getElem (by have h1 := HF.out; omega)⟩
  refine (number_dec_int A a0 n0 c0 l0 b r X w0.heap.size t w0 q0 vs hD0.lift off y0 hy0).mono ?_
  rintro e w1 ⟨err, he, hN, hs⟩
  rcases hN.dec with ⟨rfl, v0, q1, hg, hD1⟩ | ⟨h0, hg⟩
  rotate_left
  · obtain ⟨h1, _⟩ | ⟨_, rfl⟩ := he
    · exact absurd h1 h0
    exact ⟨rfl, err, Abt.no h0, .inr ⟨h0, by simp [gE, hg]⟩, S0.out.trans (hs.lower hD0.le)⟩
  obtain ⟨_, rfl⟩ | ⟨h0, _⟩ := he
  rotate_left
  · exact absurd rfl h0
  rw [splice_one _ _ _ (by have := HF.out; omega)] at hD1
  have hD1' := hD1
  clear hD1
  have hD1 := hD1'.back' (Nat.le_trans hD0.le hs.size) HLS.out
  have G1 := Lib.hid hg
  have S1 := Lib.hid (S0.out.trans (hs.lower hD0.le))
  clear hg hs hD0 hN hy0 hD1'
  go_wp2_with fail
  have HC1 : Hid (([.int .i64 v0] : List Value).length = 1) := Lib.hid (by simp)
  have HV1 : Hid ((splice vs off ([.int .i64 v0] : List Value)).length = vs.length) := Lib.hid (length_splice _ _ _ (by have h1 := HF.out; have h2 := HC1.out; omega))
  obtain ⟨y1, hy1⟩ : ∃ y, (splice vs off ([.int .i64 v0] : List Value))[(off + 1)]? = some y := ⟨_, List.getElem?_eq_getElem (by have h1 := HF.out; have h2 := HV1.out; omega)⟩
  refine (number_dec_int A a0 n0 c0 l0 b r X w1.heap.size t w1 q1 (splice vs off ([.int .i64 v0] : List Value)) hD1.lift (off + 1) y1 hy1).mono ?_
  rintro e w2 ⟨err, he, hN, hs⟩
  rcases hN.dec with ⟨rfl, v1, q2, hg, hD2⟩ | ⟨h0, hg⟩
  rotate_left
  · obtain ⟨h1, _⟩ | ⟨_, rfl⟩ := he
    · exact absurd h1 h0
    exact ⟨rfl, err, Abt.no h0, .inr ⟨h0, by simp [gE, G1.out, hg]⟩, S1.out.trans (hs.lower hD1.le)⟩
  obtain ⟨_, rfl⟩ | ⟨h0, _⟩ := he
  rotate_left
  · exact absurd rfl h0
  rw [splice_one _ _ _ (by have h1 := HF.out; have h2 := HV1.out; omega), show splice (splice vs off ([.int .i64 v0] : List Value)) (off + 1) [.int .i64 v1] = splice vs off ([.int .i64 v0] ++ [.int .i64 v1]) from by have h3 := splice_next vs ([.int .i64 v0] : List Value) [.int .i64 v1] off (by have h1 := HF.out; have h2 := HC1.out; omega); rw [HC1.out] at h3; exact h3] at hD2
  have hD2' := hD2
  clear hD2
  have hD2 := hD2'.back' (Nat.le_trans hD1.le hs.size) HLS.out
  have G2 := Lib.hid hg
  have S2 := Lib.hid (S1.out.trans (hs.lower hD1.le))
  clear hg hs hD1 hN hy1 hD2'
  go_wp2_with fail
  have HC2 : Hid (([.int .i64 v0] ++ [.int .i64 v1] : List Value).length = 2) := Lib.hid (by simp)
  have HV2 : Hid ((splice vs off ([.int .i64 v0] ++ [.int .i64 v1] : List Value)).length = vs.length) := Lib.hid (length_splice _ _ _ (by have h1 := HF.out; have h2 := HC2.out; omega))
  obtain ⟨y2, hy2⟩ : ∃ y, (splice vs off ([.int .i64 v0] ++ [.int .i64 v1] : List Value))[(off + 2)]? = some y := ⟨_, List.getElem?_eq_getElem (by have h1 := HF.out; have h2 := HV2.out; omega)⟩
  refine (number_dec_EntryKind A a0 n0 c0 l0 b r X w2.heap.size t w2 q2 (splice vs off ([.int .i64 v0] ++ [.int .i64 v1] : List Value)) hD2.lift (off + 2) y2 hy2).mono ?_
  rintro e w3 ⟨err, he, hN, hs⟩
  rcases hN.dec with ⟨rfl, v2, q3, hg, hD3⟩ | ⟨h0, hg⟩
  rotate_left
  · obtain ⟨h1, _⟩ | ⟨_, rfl⟩ := he
    · exact absurd h1 h0
    exact ⟨rfl, err, Abt.no h0, .inr ⟨h0, by simp [gE, G1.out, G2.out, hg]⟩, S2.out.trans (hs.lower hD2.le)⟩
  obtain ⟨_, rfl⟩ | ⟨h0, _⟩ := he
  rotate_left
  · exact absurd rfl h0
  rw [splice_one _ _ _ (by have h1 := HF.out; have h2 := HV2.out; omega), show splice (splice vs off ([.int .i64 v0] ++ [.int .i64 v1] : List Value)) (off + 2) [.int .i64 v2] = splice vs off ([.int .i64 v0] ++ [.int .i64 v1] ++ [.int .i64 v2]) from by have h3 := splice_next vs ([.int .i64 v0] ++ [.int .i64 v1] : List Value) [.int .i64 v2] off (by have h1 := HF.out; have h2 := HC2.out; omega); rw [HC2.out] at h3; exact h3] at hD3
  have hD3' := hD3
  clear hD3
  have hD3 := hD3'.back' (Nat.le_trans hD2.le hs.size) HLS.out
  have G3 := Lib.hid hg
  have S3 := Lib.hid (S2.out.trans (hs.lower hD2.le))
  clear hg hs hD2 hN hy2 hD3'
  go_wp2_with fail
  have HC3 : Hid (([.int .i64 v0] ++ [.int .i64 v1] ++ [.int .i64 v2] : List Value).length = 3) := Lib.hid (by simp)
  have HV3 : Hid ((splice vs off ([.int .i64 v0] ++ [.int .i64 v1] ++ [.int .i64 v2] : List Value)).length = vs.length) := Lib.hid (length_splice _ _ _ (by have h1 := HF.out; have h2 := HC3.out; omega))
  refine (command_dec A a0 n0 c0 l0 b r X w3.heap.size t w3 q3 (splice vs off ([.int .i64 v0] ++ [.int .i64 v1] ++ [.int .i64 v2] : List Value)) hD3.lift (off + 3) (by have h1 := HF.out; have h2 := HV3.out; omega)).mono ?_
  rintro e w4 ⟨err, he, hN, hs⟩
  rcases hN with ⟨rfl, v3, q4, hg, hk3, hD4⟩ | ⟨h0, hg⟩
  rotate_left
  · obtain ⟨h1, _⟩ | ⟨_, rfl⟩ := he
    · exact absurd h1 h0
    exact ⟨rfl, err, Abt.no h0, .inr ⟨h0, by simp [gE, G1.out, G2.out, G3.out, hg]⟩, S3.out.trans (hs.lower hD3.le)⟩
  obtain ⟨_, rfl⟩ | ⟨h0, _⟩ := he
  rotate_left
  · exact absurd rfl h0
  rw [show splice (splice vs off ([.int .i64 v0] ++ [.int .i64 v1] ++ [.int .i64 v2] : List Value)) (off + 3) (cmc v3) = splice vs off ([.int .i64 v0] ++ [.int .i64 v1] ++ [.int .i64 v2] ++ cmc v3) from by have h3 := splice_next vs ([.int .i64 v0] ++ [.int .i64 v1] ++ [.int .i64 v2] : List Value) (cmc v3) off (by have h1 := HF.out; have h2 := HC3.out; omega); rw [HC3.out] at h3; exact h3] at hD4
  have hD4' := hD4
  clear hD4
  have hD4 := hD4'.back' (Nat.le_trans hD3.le hs.size) HLS.out
  have G4 := Lib.hid hg
  have S4 := Lib.hid (S3.out.trans (hs.lower hD3.le))
  clear hg hs hD3 hD4'
  go_wp2_with fail
  have HC4 : Hid (([.int .i64 v0] ++ [.int .i64 v1] ++ [.int .i64 v2] ++ cmc v3 : List Value).length = 41) := Lib.hid (by simp [cmc_length (x := v3) hk3])
  have HV4 : Hid ((splice vs off ([.int .i64 v0] ++ [.int .i64 v1] ++ [.int .i64 v2] ++ cmc v3 : List Value)).length = vs.length) := Lib.hid (length_splice _ _ _ (by have h1 := HF.out; have h2 := HC4.out; omega))
  refine (council_dec A a0 n0 c0 l0 b r X w4.heap.size t w4 q4 (splice vs off ([.int .i64 v0] ++ [.int .i64 v1] ++ [.int .i64 v2] ++ cmc v3 : List Value)) hD4.lift (off + 41) (by have h1 := HF.out; have h2 := HV4.out; omega) (by have h1 := HF.out; have h2 := HC4.out; have h3 := HZ0.out; rw [splice_after _ _ _ _ (by omega) (by omega)]; exact h3) (by have h1 := HF.out; have h2 := HC4.out; have h3 := HZ1.out; rw [splice_after _ _ _ _ (by omega) (by omega)]; rw [Nat.add_assoc]; exact h3) k_int).mono ?_
  rintro e w5 ⟨err, he, hN, hs⟩
  rcases hN with ⟨rfl, _, q5, hg, v4, rfl, hk4, hD5, O4⟩ | ⟨h0, hg⟩
  rotate_left
  · obtain ⟨h1, _⟩ | ⟨_, rfl⟩ := he
    · exact absurd h1 h0
    exact ⟨rfl, err, Abt.no h0, .inr ⟨h0, by simp [gE, G1.out, G2.out, G3.out, G4.out, hg]⟩, S4.out.trans (hs.lower hD4.le)⟩
  obtain ⟨_, rfl⟩ | ⟨h0, _⟩ := he
  rotate_left
  · exact absurd rfl h0
  rw [show splice (splice vs off ([.int .i64 v0] ++ [.int .i64 v1] ++ [.int .i64 v2] ++ cmc v3 : List Value)) (off + 41) (coc v4) = splice vs off ([.int .i64 v0] ++ [.int .i64 v1] ++ [.int .i64 v2] ++ cmc v3 ++ coc v4) from by have h3 := splice_next vs ([.int .i64 v0] ++ [.int .i64 v1] ++ [.int .i64 v2] ++ cmc v3 : List Value) (coc v4) off (by have h1 := HF.out; have h2 := HC4.out; omega); rw [HC4.out] at h3; exact h3] at hD5
  have hD5' := hD5
  clear hD5
  have hD5 := hD5'.back' (Nat.le_trans hD4.le hs.size) HLS.out
  have O4 := Lib.hid (Co.own_lower O4 hD4.le)
  have G5 := Lib.hid hg
  have S5 := Lib.hid (S4.out.trans (hs.lower hD4.le))
  clear hg hs hD4 hD5'
  go_wp2
  go_end0
  exact ⟨0, Abt.ok, .inl ⟨rfl, _, q5, by simp only [gE, G1.out, G2.out, G3.out, G4.out, G5.out, Option.bind_some]; rfl, ⟨v0, v1, v2, v3, v4⟩, rfl, hk3, hD5, O4.out⟩, S5.out⟩

set_option maxHeartbeats 2000000 in
theorem snapshot_enc (w0 : World) (b B : Nat) (q0 : List UInt8) (hC0 : CdX w0 b B q0) (X off : Nat) (hlt : X < B) (hne : X ≠ b) (x : Sn) (hx : x.ok) (hp : w0.rangeAt X off (snc x)) (hr : Sn.rdx w0 b B x) (ho : q0.length ≤ 70368744136664) :
    Calls Tryz.prog 71 #[.pointer (some ⟨b, 0, none⟩), .pointer (some ⟨X, off, none⟩)] w0 fun e w' => ∃ err, Abt err e ∧ LayO (loSn x (0, q0)) err (fun l => CdX w' b B l) ∧ Stp (· = b) B w0 w' := by
  have hp3 : w0.rangeAt X off ([.int .i64 x.ix] ++ [.int .i64 x.te] ++ coc x.co ++ [.string x.da]) := hp
  obtain ⟨hp2, F3⟩ := range_app (o := 4) hp3 (by simp [coc_length (x := x.co) trivial])
  obtain ⟨hp1, F2⟩ := range_app (o := 2) hp2 (by simp)
  obtain ⟨hp0, F1⟩ := range_app (o := 1) hp1 (by simp)
  have P0 := Lib.hid hp0
  have P1 := Lib.hid F1
  have P2 := Lib.hid F2
  have P3 := Lib.hid F3
  have HX := Lib.hid hx
  have HR := Lib.hid hr
  have L0 : Hid (q0.length ≤ 70368744136664) := Lib.hid ho
  have HLT := Lib.hid hlt
  have HNE := Lib.hid hne
  have S0 : Hid (Stp (· = b) B w0 w0) := Lib.hid (Stp.refl _ _ _)
  clear hp hx ho hlt hne hp0 hp1 hp2 hp3 F1 F2 F3 hr
  go_enter Tryz.func71, Tryz.ntmps71
  go_wp2_with fail
  refine (number_enc_int w0 b B q0 hC0 ⟨X, off, none⟩ x.ix (by have := range_cell (S0.out.range P0.out HLT.out HNE.out) 0 (v := .int .i64 x.ix) rfl; simpa using this) (by have := L0.out; omega)).mono ?_
  rintro e w1 ⟨err, he, hN, hs⟩
  have hL := hN.lay
  rcases he with ⟨rfl, rfl⟩ | ⟨h0, rfl⟩
  rotate_left
  · refine ⟨rfl, err, Abt.no h0, ?_, S0.out.trans hs⟩
    rw [loSn]
    exact LayO.stuck (f := fun o => loT x.da (loCo x.co (loN x.te (o)))) (fun o h => by simp only [loN_stuck h, loCo_stuck h, loT_stuck h]) hL h0
  obtain ⟨q1, e1, hC1⟩ := hL.ok
  have L1 : Hid (q1.length ≤ 70368744136669) := Lib.hid (by have h1 := L0.out; have h2 := loN_len3 x.ix (0, q0); rw [e1] at h2; simp only at h2; omega)
  have E1 := Lib.hid e1
  have S1 := Lib.hid (S0.out.trans hs)
  clear hN hL e1 hs hC0
  go_wp2_with fail
  refine (number_enc_int w1 b B q1 hC1 ⟨X, off + 1, none⟩ x.te (by have := range_cell (S1.out.range P1.out HLT.out HNE.out) 0 (v := .int .i64 x.te) rfl; simpa using this) (by have := L1.out; omega)).mono ?_
  rintro e w2 ⟨err, he, hN, hs⟩
  have hL := hN.lay
  rcases he with ⟨rfl, rfl⟩ | ⟨h0, rfl⟩
  rotate_left
  · refine ⟨rfl, err, Abt.no h0, ?_, S1.out.trans hs⟩
    rw [loSn, E1.out]
    exact LayO.stuck (f := fun o => loT x.da (loCo x.co (o))) (fun o h => by simp only [loCo_stuck h, loT_stuck h]) hL h0
  obtain ⟨q2, e2, hC2⟩ := hL.ok
  have L2 : Hid (q2.length ≤ 70368744136674) := Lib.hid (by have h1 := L1.out; have h2 := loN_len3 x.te (0, q1); rw [e2] at h2; simp only at h2; omega)
  have E2 := Lib.hid e2
  have S2 := Lib.hid (S1.out.trans hs)
  clear hN hL e2 hs hC1
  go_wp2_with fail
  refine (council_enc w2 b B q2 hC2 X (off + 2) HLT.out HNE.out x.co trivial (S2.out.range P2.out HLT.out HNE.out) (Co.rdx_stp (HR.out) S2.out) (by have := L2.out; omega)).mono ?_
  rintro e w3 ⟨err, he, hL, hs⟩
  rcases he with ⟨rfl, rfl⟩ | ⟨h0, rfl⟩
  rotate_left
  · refine ⟨rfl, err, Abt.no h0, ?_, S2.out.trans hs⟩
    rw [loSn, E1.out, E2.out]
    exact LayO.stuck (f := fun o => loT x.da (o)) (fun o h => by simp only [loT_stuck h]) hL h0
  obtain ⟨q3, e3, hC3⟩ := hL.ok
  have L3 : Hid (q3.length ≤ 70368744177644) := Lib.hid (by have h1 := L2.out; have h2 := loCo_len3 (x := x.co) trivial (0, q2); rw [e3] at h2; simp only at h2; omega)
  have E3 := Lib.hid e3
  have S3 := Lib.hid (S2.out.trans hs)
  clear hL e3 hs hC2
  go_wp2_with fail
  refine (text_enc w3 b B q3 hC3 ⟨X, off + 4, none⟩ x.da (by have := range_cell (S3.out.range P3.out HLT.out HNE.out) 0 (v := .string x.da) rfl; simpa using this) (by have := L3.out; omega)).mono ?_
  rintro e w4 ⟨err, he, hN, hs⟩
  have hL := hN.lay
  rcases he with ⟨rfl, rfl⟩ | ⟨h0, rfl⟩
  rotate_left
  · refine ⟨rfl, err, Abt.no h0, ?_, S3.out.trans hs⟩
    rw [loSn, E1.out, E2.out, E3.out]
    exact ⟨hL.1, fun e => absurd e h0⟩
  go_wp2
  go_end0
  exact ⟨0, Abt.ok, by rw [loSn, E1.out, E2.out, E3.out]; exact hL, S3.out.trans hs⟩

set_option maxHeartbeats 2000000 in
theorem snapshot_dec (A : Nat) (a0 : Option Addr) (n0 c0 : Nat) (l0 : List UInt8) (b r X B : Nat) (t : TypeId) (w0 : World) (q0 : List UInt8) (vs : List Value) (hD0 : Dc A a0 n0 c0 l0 b r X B t w0 q0 vs) (off : Nat) (hfit : off + 5 ≤ vs.length) (hz0 : vs[off + 2]? = some (.slice none 0 0)) (hz1 : vs[off + 3]? = some (.slice none 0 0)) (k_int : t ≠ 3) :
    Calls Tryz.prog 71 #[.pointer (some ⟨b, 0, none⟩), .pointer (some ⟨X, off, none⟩)] w0 fun e w' => ∃ err, Abt err e ∧ (DecI (gSn q0) err fun x l' => ∃ y : Sn, y.cl = x ∧ y.ok ∧ Dc A a0 n0 c0 l0 b r X B t w' l' (splice vs off (snc y)) ∧ Sn.own w' B y) ∧ Stp (fun k => k = r ∨ k = X) B w0 w' := by
  have HF := Lib.hid hfit
  have S0 : Hid (Stp (fun k => k = r ∨ k = X) B w0 w0) := Lib.hid (Stp.refl _ _ _)
  have HLS := Lib.hid hD0.lt
  have HZ0 := Lib.hid hz0
  have HZ1 := Lib.hid hz1
  clear hfit hz0 hz1
  go_enter Tryz.func71, Tryz.ntmps71
  go_wp2_with fail
  obtain ⟨y0, hy0⟩ : ∃ y, vs[off]? = some y := ⟨_, List.getElem?_eq_getElem (by have h1 := HF.out; omega)⟩
  refine (number_dec_int A a0 n0 c0 l0 b r X w0.heap.size t w0 q0 vs hD0.lift off y0 hy0).mono ?_
  rintro e w1 ⟨err, he, hN, hs⟩
  rcases hN.dec with ⟨rfl, v0, q1, hg, hD1⟩ | ⟨h0, hg⟩
  rotate_left
  · obtain ⟨h1, _⟩ | ⟨_, rfl⟩ := he
    · exact absurd h1 h0
    exact ⟨rfl, err, Abt.no h0, .inr ⟨h0, by simp [gSn, hg]⟩, S0.out.trans (hs.lower hD0.le)⟩
  obtain ⟨_, rfl⟩ | ⟨h0, _⟩ := he
  rotate_left
  · exact absurd rfl h0
  rw [splice_one _ _ _ (by have := HF.out; omega)] at hD1
  have hD1' := hD1
  clear hD1
  have hD1 := hD1'.back' (Nat.le_trans hD0.le hs.size) HLS.out
  have G1 := Lib.hid hg
  have S1 := Lib.hid (S0.out.trans (hs.lower hD0.le))
  clear hg hs hD0 hN hy0 hD1'
  go_wp2_with fail
  have HC1 : Hid (([.int .i64 v0] : List Value).length = 1) := Lib.hid (by simp)
  have HV1 : Hid ((splice vs off ([.int .i64 v0] : List Value)).length = vs.length) := Lib.hid (length_splice _ _ _ (by have h1 := HF.out; have h2 := HC1.out; omega))
  obtain ⟨y1, hy1⟩ : ∃ y, (splice vs off ([.int .i64 v0] : List Value))[(off + 1)]? = some y := ⟨_, List.getElem?_eq_getElem (by have h1 := HF.out; have h2 := HV1.out; omega)⟩
  refine (number_dec_int A a0 n0 c0 l0 b r X w1.heap.size t w1 q1 (splice vs off ([.int .i64 v0] : List Value)) hD1.lift (off + 1) y1 hy1).mono ?_
  rintro e w2 ⟨err, he, hN, hs⟩
  rcases hN.dec with ⟨rfl, v1, q2, hg, hD2⟩ | ⟨h0, hg⟩
  rotate_left
  · obtain ⟨h1, _⟩ | ⟨_, rfl⟩ := he
    · exact absurd h1 h0
    exact ⟨rfl, err, Abt.no h0, .inr ⟨h0, by simp [gSn, G1.out, hg]⟩, S1.out.trans (hs.lower hD1.le)⟩
  obtain ⟨_, rfl⟩ | ⟨h0, _⟩ := he
  rotate_left
  · exact absurd rfl h0
  rw [splice_one _ _ _ (by have h1 := HF.out; have h2 := HV1.out; omega), show splice (splice vs off ([.int .i64 v0] : List Value)) (off + 1) [.int .i64 v1] = splice vs off ([.int .i64 v0] ++ [.int .i64 v1]) from by have h3 := splice_next vs ([.int .i64 v0] : List Value) [.int .i64 v1] off (by have h1 := HF.out; have h2 := HC1.out; omega); rw [HC1.out] at h3; exact h3] at hD2
  have hD2' := hD2
  clear hD2
  have hD2 := hD2'.back' (Nat.le_trans hD1.le hs.size) HLS.out
  have G2 := Lib.hid hg
  have S2 := Lib.hid (S1.out.trans (hs.lower hD1.le))
  clear hg hs hD1 hN hy1 hD2'
  go_wp2_with fail
  have HC2 : Hid (([.int .i64 v0] ++ [.int .i64 v1] : List Value).length = 2) := Lib.hid (by simp)
  have HV2 : Hid ((splice vs off ([.int .i64 v0] ++ [.int .i64 v1] : List Value)).length = vs.length) := Lib.hid (length_splice _ _ _ (by have h1 := HF.out; have h2 := HC2.out; omega))
  refine (council_dec A a0 n0 c0 l0 b r X w2.heap.size t w2 q2 (splice vs off ([.int .i64 v0] ++ [.int .i64 v1] : List Value)) hD2.lift (off + 2) (by have h1 := HF.out; have h2 := HV2.out; omega) (by have h1 := HF.out; have h2 := HC2.out; have h3 := HZ0.out; rw [splice_after _ _ _ _ (by omega) (by omega)]; exact h3) (by have h1 := HF.out; have h2 := HC2.out; have h3 := HZ1.out; rw [splice_after _ _ _ _ (by omega) (by omega)]; rw [Nat.add_assoc]; exact h3) k_int).mono ?_
  rintro e w3 ⟨err, he, hN, hs⟩
  rcases hN with ⟨rfl, _, q3, hg, v2, rfl, hk2, hD3, O2⟩ | ⟨h0, hg⟩
  rotate_left
  · obtain ⟨h1, _⟩ | ⟨_, rfl⟩ := he
    · exact absurd h1 h0
    exact ⟨rfl, err, Abt.no h0, .inr ⟨h0, by simp [gSn, G1.out, G2.out, hg]⟩, S2.out.trans (hs.lower hD2.le)⟩
  obtain ⟨_, rfl⟩ | ⟨h0, _⟩ := he
  rotate_left
  · exact absurd rfl h0
  rw [show splice (splice vs off ([.int .i64 v0] ++ [.int .i64 v1] : List Value)) (off + 2) (coc v2) = splice vs off ([.int .i64 v0] ++ [.int .i64 v1] ++ coc v2) from by have h3 := splice_next vs ([.int .i64 v0] ++ [.int .i64 v1] : List Value) (coc v2) off (by have h1 := HF.out; have h2 := HC2.out; omega); rw [HC2.out] at h3; exact h3] at hD3
  have hD3' := hD3
  clear hD3
  have hD3 := hD3'.back' (Nat.le_trans hD2.le hs.size) HLS.out
  have O2 := Lib.hid (Co.own_lower O2 hD2.le)
  have G3 := Lib.hid hg
  have S3 := Lib.hid (S2.out.trans (hs.lower hD2.le))
  clear hg hs hD2 hD3'
  go_wp2_with fail
  have HC3 : Hid (([.int .i64 v0] ++ [.int .i64 v1] ++ coc v2 : List Value).length = 4) := Lib.hid (by simp [coc_length (x := v2) hk2])
  have HV3 : Hid ((splice vs off ([.int .i64 v0] ++ [.int .i64 v1] ++ coc v2 : List Value)).length = vs.length) := Lib.hid (length_splice _ _ _ (by have h1 := HF.out; have h2 := HC3.out; omega))
  obtain ⟨y3, hy3⟩ : ∃ y, (splice vs off ([.int .i64 v0] ++ [.int .i64 v1] ++ coc v2 : List Value))[(off + 4)]? = some y := ⟨_, List.getElem?_eq_getElem (by have h1 := HF.out; have h2 := HV3.out; omega)⟩
  refine (text_dec A a0 n0 c0 l0 b r X w3.heap.size t w3 q3 (splice vs off ([.int .i64 v0] ++ [.int .i64 v1] ++ coc v2 : List Value)) hD3.lift (off + 4) y3 hy3).mono ?_
  rintro e w4 ⟨err, he, hN, hs⟩
  rcases hN.dec with ⟨rfl, v3, q4, hg, hD4⟩ | ⟨h0, hg⟩
  rotate_left
  · obtain ⟨h1, _⟩ | ⟨_, rfl⟩ := he
    · exact absurd h1 h0
    exact ⟨rfl, err, Abt.no h0, .inr ⟨h0, by simp [gSn, G1.out, G2.out, G3.out, hg]⟩, S3.out.trans (hs.lower hD3.le)⟩
  obtain ⟨_, rfl⟩ | ⟨h0, _⟩ := he
  rotate_left
  · exact absurd rfl h0
  rw [splice_one _ _ _ (by have h1 := HF.out; have h2 := HV3.out; omega), show splice (splice vs off ([.int .i64 v0] ++ [.int .i64 v1] ++ coc v2 : List Value)) (off + 4) [.string v3] = splice vs off ([.int .i64 v0] ++ [.int .i64 v1] ++ coc v2 ++ [.string v3]) from by have h3 := splice_next vs ([.int .i64 v0] ++ [.int .i64 v1] ++ coc v2 : List Value) [.string v3] off (by have h1 := HF.out; have h2 := HC3.out; omega); rw [HC3.out] at h3; exact h3] at hD4
  have O2 := Lib.hid (Co.own_keep O2.out (hD3.kpT hs k_int (by decide)))
  have hD4' := hD4
  clear hD4
  have hD4 := hD4'.back' (Nat.le_trans hD3.le hs.size) HLS.out
  have G4 := Lib.hid hg
  have S4 := Lib.hid (S3.out.trans (hs.lower hD3.le))
  clear hg hs hD3 hN hy3 hD4'
  go_wp2
  go_end0
  exact ⟨0, Abt.ok, .inl ⟨rfl, _, q4, by simp only [gSn, G1.out, G2.out, G3.out, G4.out, Option.bind_some]; rfl, ⟨v0, v1, v2, v3⟩, rfl, trivial, hD4, O2.out⟩, S4.out⟩

set_option maxHeartbeats 2000000 in
theorem record_enc (w0 : World) (b B : Nat) (q0 : List UInt8) (hC0 : CdX w0 b B q0) (X off : Nat) (hlt : X < B) (hne : X ≠ b) (x : Re) (hx : x.ok) (hp : w0.rangeAt X off (rec x)) (hr : Re.rdx w0 b B x) (ho : q0.length ≤ 70368743898915) :
    Calls Tryz.prog 38 #[.pointer (some ⟨b, 0, none⟩), .pointer (some ⟨X, off, none⟩)] w0 fun e w' => ∃ err, Abt err e ∧ LayO (loR x (0, q0)) err (fun l => CdX w' b B l) ∧ Stp (· = b) B w0 w' := by
  have hp6 : w0.rangeAt X off ([.int .i64 x.kd] ++ [.int .i64 x.te] ++ [.int .i64 x.vo] ++ enc x.en ++ [.int .i64 x.ix] ++ snc x.sn ++ sgc x.sg) := hp
  obtain ⟨hp5, F6⟩ := range_app (o := 52) hp6 (by simp [enc_length (x := x.en) hx.1, snc_length (x := x.sn) trivial])
  obtain ⟨hp4, F5⟩ := range_app (o := 47) hp5 (by simp [enc_length (x := x.en) hx.1])
  obtain ⟨hp3, F4⟩ := range_app (o := 46) hp4 (by simp [enc_length (x := x.en) hx.1])
  obtain ⟨hp2, F3⟩ := range_app (o := 3) hp3 (by simp)
  obtain ⟨hp1, F2⟩ := range_app (o := 2) hp2 (by simp)
  obtain ⟨hp0, F1⟩ := range_app (o := 1) hp1 (by simp)
  have P0 := Lib.hid hp0
  have P1 := Lib.hid F1
  have P2 := Lib.hid F2
  have P3 := Lib.hid F3
  have P4 := Lib.hid F4
  have P5 := Lib.hid F5
  have P6 := Lib.hid F6
  have HX := Lib.hid hx
  have HR := Lib.hid hr
  have L0 : Hid (q0.length ≤ 70368743898915) := Lib.hid ho
  have HLT := Lib.hid hlt
  have HNE := Lib.hid hne
  have S0 : Hid (Stp (· = b) B w0 w0) := Lib.hid (Stp.refl _ _ _)
  clear hp hx ho hlt hne hp0 hp1 hp2 hp3 hp4 hp5 hp6 F1 F2 F3 F4 F5 F6 hr
  go_enter Tryz.func38, Tryz.ntmps38
  go_wp2_with fail
  refine (number_enc_RecordKind w0 b B q0 hC0 ⟨X, off, none⟩ x.kd (by have := range_cell (S0.out.range P0.out HLT.out HNE.out) 0 (v := .int .i64 x.kd) rfl; simpa using this) (by have := L0.out; omega)).mono ?_
  rintro e w1 ⟨err, he, hN, hs⟩
  have hL := hN.lay
  rcases he with ⟨rfl, rfl⟩ | ⟨h0, rfl⟩
  rotate_left
  · refine ⟨rfl, err, Abt.no h0, ?_, S0.out.trans hs⟩
    rw [loR]
    exact LayO.stuck (f := fun o => loS x.sg (loSn x.sn (loN x.ix (loE x.en (loN x.vo (loN x.te (o))))))) (fun o h => by simp only [loN_stuck h, loE_stuck h, loSn_stuck h, loS_stuck h]) hL h0
  obtain ⟨q1, e1, hC1⟩ := hL.ok
  have L1 : Hid (q1.length ≤ 70368743898920) := Lib.hid (by have h1 := L0.out; have h2 := loN_len3 x.kd (0, q0); rw [e1] at h2; simp only at h2; omega)
  have E1 := Lib.hid e1
  have S1 := Lib.hid (S0.out.trans hs)
  clear hN hL e1 hs hC0
  go_wp2_with fail
  refine (number_enc_int w1 b B q1 hC1 ⟨X, off + 1, none⟩ x.te (by have := range_cell (S1.out.range P1.out HLT.out HNE.out) 0 (v := .int .i64 x.te) rfl; simpa using this) (by have := L1.out; omega)).mono ?_
  rintro e w2 ⟨err, he, hN, hs⟩
  have hL := hN.lay
  rcases he with ⟨rfl, rfl⟩ | ⟨h0, rfl⟩
  rotate_left
  · refine ⟨rfl, err, Abt.no h0, ?_, S1.out.trans hs⟩
    rw [loR, E1.out]
    exact LayO.stuck (f := fun o => loS x.sg (loSn x.sn (loN x.ix (loE x.en (loN x.vo (o)))))) (fun o h => by simp only [loN_stuck h, loE_stuck h, loSn_stuck h, loS_stuck h]) hL h0
  obtain ⟨q2, e2, hC2⟩ := hL.ok
  have L2 : Hid (q2.length ≤ 70368743898925) := Lib.hid (by have h1 := L1.out; have h2 := loN_len3 x.te (0, q1); rw [e2] at h2; simp only at h2; omega)
  have E2 := Lib.hid e2
  have S2 := Lib.hid (S1.out.trans hs)
  clear hN hL e2 hs hC1
  go_wp2_with fail
  refine (number_enc_int w2 b B q2 hC2 ⟨X, off + 2, none⟩ x.vo (by have := range_cell (S2.out.range P2.out HLT.out HNE.out) 0 (v := .int .i64 x.vo) rfl; simpa using this) (by have := L2.out; omega)).mono ?_
  rintro e w3 ⟨err, he, hN, hs⟩
  have hL := hN.lay
  rcases he with ⟨rfl, rfl⟩ | ⟨h0, rfl⟩
  rotate_left
  · refine ⟨rfl, err, Abt.no h0, ?_, S2.out.trans hs⟩
    rw [loR, E1.out, E2.out]
    exact LayO.stuck (f := fun o => loS x.sg (loSn x.sn (loN x.ix (loE x.en (o))))) (fun o h => by simp only [loE_stuck h, loN_stuck h, loSn_stuck h, loS_stuck h]) hL h0
  obtain ⟨q3, e3, hC3⟩ := hL.ok
  have L3 : Hid (q3.length ≤ 70368743898930) := Lib.hid (by have h1 := L2.out; have h2 := loN_len3 x.vo (0, q2); rw [e3] at h2; simp only at h2; omega)
  have E3 := Lib.hid e3
  have S3 := Lib.hid (S2.out.trans hs)
  clear hN hL e3 hs hC2
  go_wp2_with fail
  refine (entry_enc w3 b B q3 hC3 X (off + 3) HLT.out HNE.out x.en HX.out.1 (S3.out.range P3.out HLT.out HNE.out) (En.rdx_stp (HR.out.1) S3.out) (by have := L3.out; omega)).mono ?_
  rintro e w4 ⟨err, he, hL, hs⟩
  rcases he with ⟨rfl, rfl⟩ | ⟨h0, rfl⟩
  rotate_left
  · refine ⟨rfl, err, Abt.no h0, ?_, S3.out.trans hs⟩
    rw [loR, E1.out, E2.out, E3.out]
    exact LayO.stuck (f := fun o => loS x.sg (loSn x.sn (loN x.ix (o)))) (fun o h => by simp only [loN_stuck h, loSn_stuck h, loS_stuck h]) hL h0
  obtain ⟨q4, e4, hC4⟩ := hL.ok
  have L4 : Hid (q4.length ≤ 70368744071049) := Lib.hid (by have h1 := L3.out; have h2 := loE_len3 (x := x.en) HX.out.1 (0, q3); rw [e4] at h2; simp only at h2; omega)
  have E4 := Lib.hid e4
  have S4 := Lib.hid (S3.out.trans hs)
  clear hL e4 hs hC3
  go_wp2_with fail
  refine (number_enc_int w4 b B q4 hC4 ⟨X, off + 46, none⟩ x.ix (by have := range_cell (S4.out.range P4.out HLT.out HNE.out) 0 (v := .int .i64 x.ix) rfl; simpa using this) (by have := L4.out; omega)).mono ?_
  rintro e w5 ⟨err, he, hN, hs⟩
  have hL := hN.lay
  rcases he with ⟨rfl, rfl⟩ | ⟨h0, rfl⟩
  rotate_left
  · refine ⟨rfl, err, Abt.no h0, ?_, S4.out.trans hs⟩
    rw [loR, E1.out, E2.out, E3.out, E4.out]
    exact LayO.stuck (f := fun o => loS x.sg (loSn x.sn (o))) (fun o h => by simp only [loSn_stuck h, loS_stuck h]) hL h0
  obtain ⟨q5, e5, hC5⟩ := hL.ok
  have L5 : Hid (q5.length ≤ 70368744071054) := Lib.hid (by have h1 := L4.out; have h2 := loN_len3 x.ix (0, q4); rw [e5] at h2; simp only at h2; omega)
  have E5 := Lib.hid e5
  have S5 := Lib.hid (S4.out.trans hs)
  clear hN hL e5 hs hC4
  go_wp2_with fail
  refine (snapshot_enc w5 b B q5 hC5 X (off + 47) HLT.out HNE.out x.sn trivial (S5.out.range P5.out HLT.out HNE.out) (Sn.rdx_stp (HR.out.2) S5.out) (by have := L5.out; omega)).mono ?_
  rintro e w6 ⟨err, he, hL, hs⟩
  rcases he with ⟨rfl, rfl⟩ | ⟨h0, rfl⟩
  rotate_left
  · refine ⟨rfl, err, Abt.no h0, ?_, S5.out.trans hs⟩
    rw [loR, E1.out, E2.out, E3.out, E4.out, E5.out]
    exact LayO.stuck (f := fun o => loS x.sg (o)) (fun o h => by simp only [loS_stuck h]) hL h0
  obtain ⟨q6, e6, hC6⟩ := hL.ok
  have L6 : Hid (q6.length ≤ 70368744177575) := Lib.hid (by have h1 := L5.out; have h2 := loSn_len3 (x := x.sn) trivial (0, q5); rw [e6] at h2; simp only at h2; omega)
  have E6 := Lib.hid e6
  have S6 := Lib.hid (S5.out.trans hs)
  clear hL e6 hs hC5
  go_wp2_with fail
  refine (signed_enc w6 b B q6 hC6 X (off + 52) HLT.out HNE.out x.sg HX.out.2 (S6.out.range P6.out HLT.out HNE.out) (by have := L6.out; omega)).mono ?_
  rintro e w7 ⟨err, he, hL, hs⟩
  rcases he with ⟨rfl, rfl⟩ | ⟨h0, rfl⟩
  rotate_left
  · refine ⟨rfl, err, Abt.no h0, ?_, S6.out.trans hs⟩
    rw [loR, E1.out, E2.out, E3.out, E4.out, E5.out, E6.out]
    exact ⟨hL.1, fun e => absurd e h0⟩
  go_wp2
  go_end0
  exact ⟨0, Abt.ok, by rw [loR, E1.out, E2.out, E3.out, E4.out, E5.out, E6.out]; exact hL, S6.out.trans hs⟩

set_option maxHeartbeats 2000000 in
theorem record_dec (A : Nat) (a0 : Option Addr) (n0 c0 : Nat) (l0 : List UInt8) (b r X B : Nat) (t : TypeId) (w0 : World) (q0 : List UInt8) (vs : List Value) (hD0 : Dc A a0 n0 c0 l0 b r X B t w0 q0 vs) (off : Nat) (hfit : off + 149 ≤ vs.length) (hz0 : vs[off + 44]? = some (.slice none 0 0)) (hz1 : vs[off + 45]? = some (.slice none 0 0)) (hz2 : vs[off + 49]? = some (.slice none 0 0)) (hz3 : vs[off + 50]? = some (.slice none 0 0)) (k_int : t ≠ 3) :
    Calls Tryz.prog 38 #[.pointer (some ⟨b, 0, none⟩), .pointer (some ⟨X, off, none⟩)] w0 fun e w' => ∃ err, Abt err e ∧ (DecI (gR q0) err fun x l' => ∃ y : Re, y.cl = x ∧ y.ok ∧ Dc A a0 n0 c0 l0 b r X B t w' l' (splice vs off (rec y)) ∧ Re.own w' B y) ∧ Stp (fun k => k = r ∨ k = X) B w0 w' := by
  have HF := Lib.hid hfit
  have S0 : Hid (Stp (fun k => k = r ∨ k = X) B w0 w0) := Lib.hid (Stp.refl _ _ _)
  have HLS := Lib.hid hD0.lt
  have HZ0 := Lib.hid hz0
  have HZ1 := Lib.hid hz1
  have HZ2 := Lib.hid hz2
  have HZ3 := Lib.hid hz3
  clear hfit hz0 hz1 hz2 hz3
  go_enter Tryz.func38, Tryz.ntmps38
  go_wp2_with fail
  obtain ⟨y0, hy0⟩ : ∃ y, vs[off]? = some y := ⟨_, List.getElem?_eq_getElem (by have h1 := HF.out; omega)⟩
  refine (number_dec_RecordKind A a0 n0 c0 l0 b r X w0.heap.size t w0 q0 vs hD0.lift off y0 hy0).mono ?_
  rintro e w1 ⟨err, he, hN, hs⟩
  rcases hN.dec with ⟨rfl, v0, q1, hg, hD1⟩ | ⟨h0, hg⟩
  rotate_left
  · obtain ⟨h1, _⟩ | ⟨_, rfl⟩ := he
    · exact absurd h1 h0
    exact ⟨rfl, err, Abt.no h0, .inr ⟨h0, by simp [gR, hg]⟩, S0.out.trans (hs.lower hD0.le)⟩
  obtain ⟨_, rfl⟩ | ⟨h0, _⟩ := he
  rotate_left
  · exact absurd rfl h0
  rw [splice_one _ _ _ (by have := HF.out; omega)] at hD1
  have hD1' := hD1
  clear hD1
  have hD1 := hD1'.back' (Nat.le_trans hD0.le hs.size) HLS.out
  have G1 := Lib.hid hg
  have S1 := Lib.hid (S0.out.trans (hs.lower hD0.le))
  clear hg hs hD0 hN hy0 hD1'
  go_wp2_with fail
  have HC1 : Hid (([.int .i64 v0] : List Value).length = 1) := Lib.hid (by simp)
  have HV1 : Hid ((splice vs off ([.int .i64 v0] : List Value)).length = vs.length) := Lib.hid (length_splice _ _ _ (by have h1 := HF.out; have h2 := HC1.out; omega))
  obtain ⟨y1, hy1⟩ : ∃ y, (splice vs off ([.int .i64 v0] : List Value))[(off + 1)]? = some y := ⟨_, List.getElem?_eq_getElem (by have h1 := HF.out; have h2 := HV1.out; omega)⟩
  refine (number_dec_int A a0 n0 c0 l0 b r X w1.heap.size t w1 q1 (splice vs off ([.int .i64 v0] : List Value)) hD1.lift (off + 1) y1 hy1).mono ?_
  rintro e w2 ⟨err, he, hN, hs⟩
  rcases hN.dec with ⟨rfl, v1, q2, hg, hD2⟩ | ⟨h0, hg⟩
  rotate_left
  · obtain ⟨h1, _⟩ | ⟨_, rfl⟩ := he
    · exact absurd h1 h0
    exact ⟨rfl, err, Abt.no h0, .inr ⟨h0, by simp [gR, G1.out, hg]⟩, S1.out.trans (hs.lower hD1.le)⟩
  obtain ⟨_, rfl⟩ | ⟨h0, _⟩ := he
  rotate_left
  · exact absurd rfl h0
  rw [splice_one _ _ _ (by have h1 := HF.out; have h2 := HV1.out; omega), show splice (splice vs off ([.int .i64 v0] : List Value)) (off + 1) [.int .i64 v1] = splice vs off ([.int .i64 v0] ++ [.int .i64 v1]) from by have h3 := splice_next vs ([.int .i64 v0] : List Value) [.int .i64 v1] off (by have h1 := HF.out; have h2 := HC1.out; omega); rw [HC1.out] at h3; exact h3] at hD2
  have hD2' := hD2
  clear hD2
  have hD2 := hD2'.back' (Nat.le_trans hD1.le hs.size) HLS.out
  have G2 := Lib.hid hg
  have S2 := Lib.hid (S1.out.trans (hs.lower hD1.le))
  clear hg hs hD1 hN hy1 hD2'
  go_wp2_with fail
  have HC2 : Hid (([.int .i64 v0] ++ [.int .i64 v1] : List Value).length = 2) := Lib.hid (by simp)
  have HV2 : Hid ((splice vs off ([.int .i64 v0] ++ [.int .i64 v1] : List Value)).length = vs.length) := Lib.hid (length_splice _ _ _ (by have h1 := HF.out; have h2 := HC2.out; omega))
  obtain ⟨y2, hy2⟩ : ∃ y, (splice vs off ([.int .i64 v0] ++ [.int .i64 v1] : List Value))[(off + 2)]? = some y := ⟨_, List.getElem?_eq_getElem (by have h1 := HF.out; have h2 := HV2.out; omega)⟩
  refine (number_dec_int A a0 n0 c0 l0 b r X w2.heap.size t w2 q2 (splice vs off ([.int .i64 v0] ++ [.int .i64 v1] : List Value)) hD2.lift (off + 2) y2 hy2).mono ?_
  rintro e w3 ⟨err, he, hN, hs⟩
  rcases hN.dec with ⟨rfl, v2, q3, hg, hD3⟩ | ⟨h0, hg⟩
  rotate_left
  · obtain ⟨h1, _⟩ | ⟨_, rfl⟩ := he
    · exact absurd h1 h0
    exact ⟨rfl, err, Abt.no h0, .inr ⟨h0, by simp [gR, G1.out, G2.out, hg]⟩, S2.out.trans (hs.lower hD2.le)⟩
  obtain ⟨_, rfl⟩ | ⟨h0, _⟩ := he
  rotate_left
  · exact absurd rfl h0
  rw [splice_one _ _ _ (by have h1 := HF.out; have h2 := HV2.out; omega), show splice (splice vs off ([.int .i64 v0] ++ [.int .i64 v1] : List Value)) (off + 2) [.int .i64 v2] = splice vs off ([.int .i64 v0] ++ [.int .i64 v1] ++ [.int .i64 v2]) from by have h3 := splice_next vs ([.int .i64 v0] ++ [.int .i64 v1] : List Value) [.int .i64 v2] off (by have h1 := HF.out; have h2 := HC2.out; omega); rw [HC2.out] at h3; exact h3] at hD3
  have hD3' := hD3
  clear hD3
  have hD3 := hD3'.back' (Nat.le_trans hD2.le hs.size) HLS.out
  have G3 := Lib.hid hg
  have S3 := Lib.hid (S2.out.trans (hs.lower hD2.le))
  clear hg hs hD2 hN hy2 hD3'
  go_wp2_with fail
  have HC3 : Hid (([.int .i64 v0] ++ [.int .i64 v1] ++ [.int .i64 v2] : List Value).length = 3) := Lib.hid (by simp)
  have HV3 : Hid ((splice vs off ([.int .i64 v0] ++ [.int .i64 v1] ++ [.int .i64 v2] : List Value)).length = vs.length) := Lib.hid (length_splice _ _ _ (by have h1 := HF.out; have h2 := HC3.out; omega))
  refine (entry_dec A a0 n0 c0 l0 b r X w3.heap.size t w3 q3 (splice vs off ([.int .i64 v0] ++ [.int .i64 v1] ++ [.int .i64 v2] : List Value)) hD3.lift (off + 3) (by have h1 := HF.out; have h2 := HV3.out; omega) (by have h1 := HF.out; have h2 := HC3.out; have h3 := HZ0.out; rw [splice_after _ _ _ _ (by omega) (by omega)]; rw [Nat.add_assoc]; exact h3) (by have h1 := HF.out; have h2 := HC3.out; have h3 := HZ1.out; rw [splice_after _ _ _ _ (by omega) (by omega)]; rw [Nat.add_assoc]; exact h3) k_int).mono ?_
  rintro e w4 ⟨err, he, hN, hs⟩
  rcases hN with ⟨rfl, _, q4, hg, v3, rfl, hk3, hD4, O3⟩ | ⟨h0, hg⟩
  rotate_left
  · obtain ⟨h1, _⟩ | ⟨_, rfl⟩ := he
    · exact absurd h1 h0
    exact ⟨rfl, err, Abt.no h0, .inr ⟨h0, by simp [gR, G1.out, G2.out, G3.out, hg]⟩, S3.out.trans (hs.lower hD3.le)⟩
  obtain ⟨_, rfl⟩ | ⟨h0, _⟩ := he
  rotate_left
  · exact absurd rfl h0
  rw [show splice (splice vs off ([.int .i64 v0] ++ [.int .i64 v1] ++ [.int .i64 v2] : List Value)) (off + 3) (enc v3) = splice vs off ([.int .i64 v0] ++ [.int .i64 v1] ++ [.int .i64 v2] ++ enc v3) from by have h3 := splice_next vs ([.int .i64 v0] ++ [.int .i64 v1] ++ [.int .i64 v2] : List Value) (enc v3) off (by have h1 := HF.out; have h2 := HC3.out; omega); rw [HC3.out] at h3; exact h3] at hD4
  have hD4' := hD4
  clear hD4
  have hD4 := hD4'.back' (Nat.le_trans hD3.le hs.size) HLS.out
  have O3 := Lib.hid (En.own_lower O3 hD3.le)
  have G4 := Lib.hid hg
  have S4 := Lib.hid (S3.out.trans (hs.lower hD3.le))
  clear hg hs hD3 hD4'
  go_wp2_with fail
  have HC4 : Hid (([.int .i64 v0] ++ [.int .i64 v1] ++ [.int .i64 v2] ++ enc v3 : List Value).length = 46) := Lib.hid (by simp [enc_length (x := v3) hk3])
  have HV4 : Hid ((splice vs off ([.int .i64 v0] ++ [.int .i64 v1] ++ [.int .i64 v2] ++ enc v3 : List Value)).length = vs.length) := Lib.hid (length_splice _ _ _ (by have h1 := HF.out; have h2 := HC4.out; omega))
  obtain ⟨y4, hy4⟩ : ∃ y, (splice vs off ([.int .i64 v0] ++ [.int .i64 v1] ++ [.int .i64 v2] ++ enc v3 : List Value))[(off + 46)]? = some y := ⟨_, List.getElem?_eq_getElem (by have h1 := HF.out; have h2 := HV4.out; omega)⟩
  refine (number_dec_int A a0 n0 c0 l0 b r X w4.heap.size t w4 q4 (splice vs off ([.int .i64 v0] ++ [.int .i64 v1] ++ [.int .i64 v2] ++ enc v3 : List Value)) hD4.lift (off + 46) y4 hy4).mono ?_
  rintro e w5 ⟨err, he, hN, hs⟩
  rcases hN.dec with ⟨rfl, v4, q5, hg, hD5⟩ | ⟨h0, hg⟩
  rotate_left
  · obtain ⟨h1, _⟩ | ⟨_, rfl⟩ := he
    · exact absurd h1 h0
    exact ⟨rfl, err, Abt.no h0, .inr ⟨h0, by simp [gR, G1.out, G2.out, G3.out, G4.out, hg]⟩, S4.out.trans (hs.lower hD4.le)⟩
  obtain ⟨_, rfl⟩ | ⟨h0, _⟩ := he
  rotate_left
  · exact absurd rfl h0
  rw [splice_one _ _ _ (by have h1 := HF.out; have h2 := HV4.out; omega), show splice (splice vs off ([.int .i64 v0] ++ [.int .i64 v1] ++ [.int .i64 v2] ++ enc v3 : List Value)) (off + 46) [.int .i64 v4] = splice vs off ([.int .i64 v0] ++ [.int .i64 v1] ++ [.int .i64 v2] ++ enc v3 ++ [.int .i64 v4]) from by have h3 := splice_next vs ([.int .i64 v0] ++ [.int .i64 v1] ++ [.int .i64 v2] ++ enc v3 : List Value) [.int .i64 v4] off (by have h1 := HF.out; have h2 := HC4.out; omega); rw [HC4.out] at h3; exact h3] at hD5
  have O3 := Lib.hid (En.own_keep O3.out (hD4.kpT hs k_int (by decide)))
  have hD5' := hD5
  clear hD5
  have hD5 := hD5'.back' (Nat.le_trans hD4.le hs.size) HLS.out
  have G5 := Lib.hid hg
  have S5 := Lib.hid (S4.out.trans (hs.lower hD4.le))
  clear hg hs hD4 hN hy4 hD5'
  go_wp2_with fail
  have HC5 : Hid (([.int .i64 v0] ++ [.int .i64 v1] ++ [.int .i64 v2] ++ enc v3 ++ [.int .i64 v4] : List Value).length = 47) := Lib.hid (by simp [enc_length (x := v3) hk3])
  have HV5 : Hid ((splice vs off ([.int .i64 v0] ++ [.int .i64 v1] ++ [.int .i64 v2] ++ enc v3 ++ [.int .i64 v4] : List Value)).length = vs.length) := Lib.hid (length_splice _ _ _ (by have h1 := HF.out; have h2 := HC5.out; omega))
  refine (snapshot_dec A a0 n0 c0 l0 b r X w5.heap.size t w5 q5 (splice vs off ([.int .i64 v0] ++ [.int .i64 v1] ++ [.int .i64 v2] ++ enc v3 ++ [.int .i64 v4] : List Value)) hD5.lift (off + 47) (by have h1 := HF.out; have h2 := HV5.out; omega) (by have h1 := HF.out; have h2 := HC5.out; have h3 := HZ2.out; rw [splice_after _ _ _ _ (by omega) (by omega)]; rw [Nat.add_assoc]; exact h3) (by have h1 := HF.out; have h2 := HC5.out; have h3 := HZ3.out; rw [splice_after _ _ _ _ (by omega) (by omega)]; rw [Nat.add_assoc]; exact h3) k_int).mono ?_
  rintro e w6 ⟨err, he, hN, hs⟩
  rcases hN with ⟨rfl, _, q6, hg, v5, rfl, hk5, hD6, O5⟩ | ⟨h0, hg⟩
  rotate_left
  · obtain ⟨h1, _⟩ | ⟨_, rfl⟩ := he
    · exact absurd h1 h0
    exact ⟨rfl, err, Abt.no h0, .inr ⟨h0, by simp [gR, G1.out, G2.out, G3.out, G4.out, G5.out, hg]⟩, S5.out.trans (hs.lower hD5.le)⟩
  obtain ⟨_, rfl⟩ | ⟨h0, _⟩ := he
  rotate_left
  · exact absurd rfl h0
  rw [show splice (splice vs off ([.int .i64 v0] ++ [.int .i64 v1] ++ [.int .i64 v2] ++ enc v3 ++ [.int .i64 v4] : List Value)) (off + 47) (snc v5) = splice vs off ([.int .i64 v0] ++ [.int .i64 v1] ++ [.int .i64 v2] ++ enc v3 ++ [.int .i64 v4] ++ snc v5) from by have h3 := splice_next vs ([.int .i64 v0] ++ [.int .i64 v1] ++ [.int .i64 v2] ++ enc v3 ++ [.int .i64 v4] : List Value) (snc v5) off (by have h1 := HF.out; have h2 := HC5.out; omega); rw [HC5.out] at h3; exact h3] at hD6
  have O3 := Lib.hid (En.own_keep O3.out (hD5.kpT hs k_int (by decide)))
  have hD6' := hD6
  clear hD6
  have hD6 := hD6'.back' (Nat.le_trans hD5.le hs.size) HLS.out
  have O5 := Lib.hid (Sn.own_lower O5 hD5.le)
  have G6 := Lib.hid hg
  have S6 := Lib.hid (S5.out.trans (hs.lower hD5.le))
  clear hg hs hD5 hD6'
  go_wp2_with fail
  have HC6 : Hid (([.int .i64 v0] ++ [.int .i64 v1] ++ [.int .i64 v2] ++ enc v3 ++ [.int .i64 v4] ++ snc v5 : List Value).length = 52) := Lib.hid (by simp [enc_length (x := v3) hk3, snc_length (x := v5) hk5])
  have HV6 : Hid ((splice vs off ([.int .i64 v0] ++ [.int .i64 v1] ++ [.int .i64 v2] ++ enc v3 ++ [.int .i64 v4] ++ snc v5 : List Value)).length = vs.length) := Lib.hid (length_splice _ _ _ (by have h1 := HF.out; have h2 := HC6.out; omega))
  refine (signed_dec A a0 n0 c0 l0 b r X w6.heap.size t w6 q6 (splice vs off ([.int .i64 v0] ++ [.int .i64 v1] ++ [.int .i64 v2] ++ enc v3 ++ [.int .i64 v4] ++ snc v5 : List Value)) hD6.lift (off + 52) (by have h1 := HF.out; have h2 := HV6.out; omega)).mono ?_
  rintro e w7 ⟨err, he, hN, hs⟩
  rcases hN with ⟨rfl, v6, q7, hg, hk6, hD7⟩ | ⟨h0, hg⟩
  rotate_left
  · obtain ⟨h1, _⟩ | ⟨_, rfl⟩ := he
    · exact absurd h1 h0
    exact ⟨rfl, err, Abt.no h0, .inr ⟨h0, by simp [gR, G1.out, G2.out, G3.out, G4.out, G5.out, G6.out, hg]⟩, S6.out.trans (hs.lower hD6.le)⟩
  obtain ⟨_, rfl⟩ | ⟨h0, _⟩ := he
  rotate_left
  · exact absurd rfl h0
  rw [show splice (splice vs off ([.int .i64 v0] ++ [.int .i64 v1] ++ [.int .i64 v2] ++ enc v3 ++ [.int .i64 v4] ++ snc v5 : List Value)) (off + 52) (sgc v6) = splice vs off ([.int .i64 v0] ++ [.int .i64 v1] ++ [.int .i64 v2] ++ enc v3 ++ [.int .i64 v4] ++ snc v5 ++ sgc v6) from by have h3 := splice_next vs ([.int .i64 v0] ++ [.int .i64 v1] ++ [.int .i64 v2] ++ enc v3 ++ [.int .i64 v4] ++ snc v5 : List Value) (sgc v6) off (by have h1 := HF.out; have h2 := HC6.out; omega); rw [HC6.out] at h3; exact h3] at hD7
  have O3 := Lib.hid (En.own_keep O3.out (hD6.kpT hs k_int (by decide)))
  have O5 := Lib.hid (Sn.own_keep O5.out (hD6.kpT hs k_int (by decide)))
  have hD7' := hD7
  clear hD7
  have hD7 := hD7'.back' (Nat.le_trans hD6.le hs.size) HLS.out
  have G7 := Lib.hid hg
  have S7 := Lib.hid (S6.out.trans (hs.lower hD6.le))
  clear hg hs hD6 hD7'
  go_wp2
  go_end0
  exact ⟨0, Abt.ok, .inl ⟨rfl, _, q7, by simp only [gR, G1.out, G2.out, G3.out, G4.out, G5.out, G6.out, G7.out, Option.bind_some]; rfl, ⟨v0, v1, v2, v3, v4, v5, v6⟩, rfl, ⟨hk3, hk6⟩, hD7, ⟨O3.out, O5.out⟩⟩, S7.out⟩

set_option maxHeartbeats 2000000 in
theorem user_enc (w0 : World) (b B : Nat) (q0 : List UInt8) (hC0 : CdX w0 b B q0) (X off : Nat) (hlt : X < B) (hne : X ≠ b) (x : Ux) (hx : x.ok) (hp : w0.rangeAt X off (uxc x)) (hr : Ux.rdx w0 b B x) (ho : q0.length ≤ 70368475615192) :
    Calls Tryz.prog 79 #[.pointer (some ⟨b, 0, none⟩), .pointer (some ⟨X, off, none⟩)] w0 fun e w' => ∃ err, Abt err e ∧ LayO (loU x (0, q0)) err (fun l => CdX w' b B l) ∧ Stp (· = b) B w0 w' := by
  have hp1 : w0.rangeAt X off ([.string x.nm] ++ [.slice x.vsa x.vs.length x.vsc]) := hp
  obtain ⟨hp0, F1⟩ := range_app (o := 1) hp1 (by simp)
  have P0 := Lib.hid hp0
  have P1 := Lib.hid F1
  have HX := Lib.hid hx
  have HR := Lib.hid hr
  have L0 : Hid (q0.length ≤ 70368475615192) := Lib.hid ho
  have HLT := Lib.hid hlt
  have HNE := Lib.hid hne
  have S0 : Hid (Stp (· = b) B w0 w0) := Lib.hid (Stp.refl _ _ _)
  clear hp hx ho hlt hne hp0 hp1 F1 hr
  go_enter Tryz.func79, Tryz.ntmps79
  go_wp2_with fail
  refine (text_enc w0 b B q0 hC0 ⟨X, off, none⟩ x.nm (by have := range_cell (S0.out.range P0.out HLT.out HNE.out) 0 (v := .string x.nm) rfl; simpa using this) (by have := L0.out; omega)).mono ?_
  rintro e w1 ⟨err, he, hN, hs⟩
  have hL := hN.lay
  rcases he with ⟨rfl, rfl⟩ | ⟨h0, rfl⟩
  rotate_left
  · refine ⟨rfl, err, Abt.no h0, ?_, S0.out.trans hs⟩
    rw [loU]
    exact LayO.stuck (f := fun o => loL loV x.vs (o)) (fun o h => by simp only [loL_stuck h]) hL h0
  obtain ⟨q1, e1, hC1⟩ := hL.ok
  have L1 : Hid (q1.length ≤ 70368475680733) := Lib.hid (by have h1 := L0.out; have h2 := loT_len3 x.nm (0, q0); rw [e1] at h2; simp only at h2; omega)
  have E1 := Lib.hid e1
  have S1 := Lib.hid (S0.out.trans hs)
  clear hN hL e1 hs hC0
  go_wp2_with fail
  refine (list_enc_version w1 b B q1 hC1 X (off + 1) HLT.out HNE.out x.vsa x.vs.length x.vsc (by have := range_cell (S1.out.range P1.out HLT.out HNE.out) 0 (v := .slice x.vsa x.vs.length x.vsc) rfl; simpa using this) x.vs (RdX.stp (HR.out) S1.out) (by have := L1.out; omega)).mono ?_
  rintro e w2 ⟨err, he, hL, hs⟩
  rcases he with ⟨rfl, rfl⟩ | ⟨h0, rfl⟩
  rotate_left
  · refine ⟨rfl, err, Abt.no h0, ?_, S1.out.trans hs⟩
    rw [loU, E1.out]
    exact ⟨hL.1, fun e => absurd e h0⟩
  go_wp2
  go_end0
  exact ⟨0, Abt.ok, by rw [loU, E1.out]; exact hL, S1.out.trans hs⟩

set_option maxHeartbeats 2000000 in
theorem user_dec (A : Nat) (a0 : Option Addr) (n0 c0 : Nat) (l0 : List UInt8) (b r X B : Nat) (t : TypeId) (w0 : World) (q0 : List UInt8) (vs : List Value) (hD0 : Dc A a0 n0 c0 l0 b r X B t w0 q0 vs) (off : Nat) (hfit : off + 2 ≤ vs.length) (hz0 : vs[off + 1]? = some (.slice none 0 0)) (k_Version : t ≠ 103) :
    Calls Tryz.prog 79 #[.pointer (some ⟨b, 0, none⟩), .pointer (some ⟨X, off, none⟩)] w0 fun e w' => ∃ err, Abt err e ∧ (DecI (gU q0) err fun x l' => ∃ y : Ux, y.cl = x ∧ y.ok ∧ Dc A a0 n0 c0 l0 b r X B t w' l' (splice vs off (uxc y)) ∧ Ux.own w' B y) ∧ Stp (fun k => k = r ∨ k = X) B w0 w' := by
  have HF := Lib.hid hfit
  have S0 : Hid (Stp (fun k => k = r ∨ k = X) B w0 w0) := Lib.hid (Stp.refl _ _ _)
  have HLS := Lib.hid hD0.lt
  have HZ0 := Lib.hid hz0
  clear hfit hz0
  go_enter Tryz.func79, Tryz.ntmps79
  go_wp2_with fail
  obtain ⟨y0, hy0⟩ : ∃ y, vs[off]? = some y := ⟨_, List.getElem?_eq_getElem (by have h1 := HF.out; omega)⟩
  refine (text_dec A a0 n0 c0 l0 b r X w0.heap.size t w0 q0 vs hD0.lift off y0 hy0).mono ?_
  rintro e w1 ⟨err, he, hN, hs⟩
  rcases hN.dec with ⟨rfl, v0, q1, hg, hD1⟩ | ⟨h0, hg⟩
  rotate_left
  · obtain ⟨h1, _⟩ | ⟨_, rfl⟩ := he
    · exact absurd h1 h0
    exact ⟨rfl, err, Abt.no h0, .inr ⟨h0, by simp [gU, hg]⟩, S0.out.trans (hs.lower hD0.le)⟩
  obtain ⟨_, rfl⟩ | ⟨h0, _⟩ := he
  rotate_left
  · exact absurd rfl h0
  rw [splice_one _ _ _ (by have := HF.out; omega)] at hD1
  have hD1' := hD1
  clear hD1
  have hD1 := hD1'.back' (Nat.le_trans hD0.le hs.size) HLS.out
  have G1 := Lib.hid hg
  have S1 := Lib.hid (S0.out.trans (hs.lower hD0.le))
  clear hg hs hD0 hN hy0 hD1'
  go_wp2_with fail
  have HC1 : Hid (([.string v0] : List Value).length = 1) := Lib.hid (by simp)
  have HV1 : Hid ((splice vs off ([.string v0] : List Value)).length = vs.length) := Lib.hid (length_splice _ _ _ (by have h1 := HF.out; have h2 := HC1.out; omega))
  refine (list_dec_version A a0 n0 c0 l0 b r X w1.heap.size t w1 q1 (splice vs off ([.string v0] : List Value)) hD1.lift (off + 1) (by have h1 := HF.out; have h2 := HC1.out; have h3 := HZ0.out; rw [splice_after _ _ _ _ (by omega) (by omega)]; exact h3) k_Version).mono ?_
  rintro e w2 ⟨err, he, hN, hs⟩
  rcases hN with ⟨rfl, v1, q2, hg, sa1, sc1, hD2, O1⟩ | ⟨h0, hg⟩
  rotate_left
  · obtain ⟨h1, _⟩ | ⟨_, rfl⟩ := he
    · exact absurd h1 h0
    exact ⟨rfl, err, Abt.no h0, .inr ⟨h0, by simp [gU, G1.out, hg]⟩, S1.out.trans (hs.lower hD1.le)⟩
  obtain ⟨_, rfl⟩ | ⟨h0, _⟩ := he
  rotate_left
  · exact absurd rfl h0
  rw [splice_one _ _ _ (by have h1 := HF.out; have h2 := HV1.out; omega), show splice (splice vs off ([.string v0] : List Value)) (off + 1) [.slice sa1 v1.length sc1] = splice vs off ([.string v0] ++ [.slice sa1 v1.length sc1]) from by have h3 := splice_next vs ([.string v0] : List Value) [.slice sa1 v1.length sc1] off (by have h1 := HF.out; have h2 := HC1.out; omega); rw [HC1.out] at h3; exact h3] at hD2
  have hD2' := hD2
  clear hD2
  have hD2 := hD2'.back' (Nat.le_trans hD1.le hs.size) HLS.out
  have O1 := Lib.hid (O1.lower hD1.le)
  have G2 := Lib.hid hg
  have S2 := Lib.hid (S1.out.trans (hs.lower hD1.le))
  clear hg hs hD1 hD2'
  go_wp2
  go_end0
  exact ⟨0, Abt.ok, .inl ⟨rfl, _, q2, by simp only [gU, G1.out, G2.out, Option.bind_some]; rfl, ⟨v0, v1, sa1, sc1⟩, rfl, trivial, hD2, O1.out⟩, S2.out⟩

end Go.Proofs.YtoclahcibilbhaaGreat
