/-
  Package wire's fields, encoded and decoded: head, signed, command, version, session.
-/
import Derived.Test.YtoclahcibilbhaaGreatWirX
namespace Go.Proofs.YtoclahcibilbhaaGreat
open Go.RowKit
set_option maxRecDepth 100000

set_option maxHeartbeats 2000000 in
theorem head_enc (w0 : World) (b B : Nat) (q0 : List UInt8) (hC0 : CdX w0 b B q0) (X off : Nat) (hlt : X < B) (hne : X ≠ b) (x : Hd) (hx : x.ok) (hp : w0.rangeAt X off (hdc x)) (ho : q0.length ≤ 70368744177617) :
    Calls Tryz.prog 74 #[.pointer (some ⟨b, 0, none⟩), .pointer (some ⟨X, off, none⟩)] w0 fun e w' => ∃ err, Abt err e ∧ LayO (loH x (0, q0)) err (fun l => CdX w' b B l) ∧ Stp (· = b) B w0 w' := by
  have hp2 : w0.rangeAt X off ([.int .i64 x.ep] ++ bs x.root ++ bs x.prev) := hp
  obtain ⟨hp1, F2⟩ := range_app (o := 33) hp2 (by simp [bs_length, show x.root.length = 32 from hx.1])
  obtain ⟨hp0, F1⟩ := range_app (o := 1) hp1 (by simp)
  have P0 := Lib.hid hp0
  have P1 := Lib.hid F1
  have P2 := Lib.hid F2
  have HX := Lib.hid hx
  have L0 : Hid (q0.length ≤ 70368744177617) := Lib.hid ho
  have HLT := Lib.hid hlt
  have HNE := Lib.hid hne
  have S0 : Hid (Stp (· = b) B w0 w0) := Lib.hid (Stp.refl _ _ _)
  clear hp hx ho hlt hne hp0 hp1 hp2 F1 F2
  go_enter Tryz.func74, Tryz.ntmps74
  go_wp2_with fail
  refine (number_enc_int w0 b B q0 hC0 ⟨X, off, none⟩ x.ep (by have := range_cell (S0.out.range P0.out HLT.out HNE.out) 0 (v := .int .i64 x.ep) rfl; simpa using this) (by have := L0.out; omega)).mono ?_
  rintro e w1 ⟨err, he, hN, hs⟩
  have hL := hN.lay
  rcases he with ⟨rfl, rfl⟩ | ⟨h0, rfl⟩
  rotate_left
  · refine ⟨rfl, err, Abt.no h0, ?_, S0.out.trans hs⟩
    rw [loH]
    exact LayO.stuck (f := fun o => loD x.prev (loD x.root (o))) (fun o h => by simp only [loD_stuck h]) hL h0
  obtain ⟨q1, e1, hC1⟩ := hL.ok
  have L1 : Hid (q1.length ≤ 70368744177622) := Lib.hid (by have h1 := L0.out; have h2 := loN_len3 x.ep (0, q0); rw [e1] at h2; simp only at h2; omega)
  have E1 := Lib.hid e1
  have S1 := Lib.hid (S0.out.trans hs)
  clear hN hL e1 hs hC0
  go_wp2_with fail
  refine (digest_enc w1 b B q1 hC1 X (off + 1) x.root HX.out.1 (S1.out.range P1.out HLT.out HNE.out) (by have := L1.out; omega)).mono ?_
  rintro e w2 ⟨rfl, hC2, hs⟩
  have hL : LayO (loD x.root (0, q1)) 0 (fun l => CdX w2 b B l) := by rw [loD_ok]; exact ⟨rfl, fun _ => hC2⟩
  clear hC2
  obtain ⟨q2, e2, hC2⟩ := hL.ok
  have L2 : Hid (q2.length ≤ 70368744177654) := Lib.hid (by have h1 := L1.out; have h2 := loD_len3 HX.out.1 (0, q1); rw [e2] at h2; simp only at h2; omega)
  have E2 := Lib.hid e2
  have S2 := Lib.hid (S1.out.trans hs)
  clear hL e2 hs hC1
  go_wp2_with fail
  refine (digest_enc w2 b B q2 hC2 X (off + 33) x.prev HX.out.2 (S2.out.range P2.out HLT.out HNE.out) (by have := L2.out; omega)).mono ?_
  rintro e w3 ⟨rfl, hC3, hs⟩
  have hL : LayO (loD x.prev (0, q2)) 0 (fun l => CdX w3 b B l) := by rw [loD_ok]; exact ⟨rfl, fun _ => hC3⟩
  clear hC3
  go_wp2
  go_end0
  exact ⟨0, Abt.ok, by rw [loH, E1.out, E2.out]; exact hL, S2.out.trans hs⟩

set_option maxHeartbeats 2000000 in
theorem head_dec (A : Nat) (a0 : Option Addr) (n0 c0 : Nat) (l0 : List UInt8) (b r X B : Nat) (t : TypeId) (w0 : World) (q0 : List UInt8) (vs : List Value) (hD0 : Dc A a0 n0 c0 l0 b r X B t w0 q0 vs) (off : Nat) (hfit : off + 65 ≤ vs.length) :
    Calls Tryz.prog 74 #[.pointer (some ⟨b, 0, none⟩), .pointer (some ⟨X, off, none⟩)] w0 fun e w' => ∃ err, Abt err e ∧ (DecI (gH q0) err fun x l' => x.ok ∧ Dc A a0 n0 c0 l0 b r X B t w' l' (splice vs off (hdc x))) ∧ Stp (fun k => k = r ∨ k = X) B w0 w' := by
  have HF := Lib.hid hfit
  have S0 : Hid (Stp (fun k => k = r ∨ k = X) B w0 w0) := Lib.hid (Stp.refl _ _ _)
  have HLS := Lib.hid hD0.lt
  clear hfit
  go_enter Tryz.func74, Tryz.ntmps74
  go_wp2_with fail
  obtain ⟨y0, hy0⟩ : ∃ y, vs[off]? = some y := ⟨_, List.getElem?_eq_getElem (by have h1 := HF.out; omega)⟩
  refine (number_dec_int A a0 n0 c0 l0 b r X B t w0 q0 vs hD0 off y0 hy0).mono ?_
  rintro e w1 ⟨err, he, hN, hs⟩
  rcases hN.dec with ⟨rfl, v0, q1, hg, hD1⟩ | ⟨h0, hg⟩
  rotate_left
  · obtain ⟨h1, _⟩ | ⟨_, rfl⟩ := he
    · exact absurd h1 h0
    exact ⟨rfl, err, Abt.no h0, .inr ⟨h0, by simp [gH, hg]⟩, S0.out.trans hs⟩
  obtain ⟨_, rfl⟩ | ⟨h0, _⟩ := he
  rotate_left
  · exact absurd rfl h0
  rw [splice_one _ _ _ (by have := HF.out; omega)] at hD1
  have G1 := Lib.hid hg
  have S1 := Lib.hid (S0.out.trans hs)
  clear hg hs hD0 hN hy0
  go_wp2_with fail
  have HC1 : Hid (([.int .i64 v0] : List Value).length = 1) := Lib.hid (by simp)
  have HV1 : Hid ((splice vs off ([.int .i64 v0] : List Value)).length = vs.length) := Lib.hid (length_splice _ _ _ (by have h1 := HF.out; have h2 := HC1.out; omega))
  refine (digest_dec A a0 n0 c0 l0 b r X B t w1 q1 (splice vs off ([.int .i64 v0] : List Value)) hD1 (off + 1) (by have h1 := HF.out; have h2 := HV1.out; omega)).mono ?_
  rintro e w2 ⟨err, he, hN, hs⟩
  rcases hN.dec with ⟨rfl, v1, q2, hg, hk1, hD2⟩ | ⟨h0, hg⟩
  rotate_left
  · obtain ⟨h1, _⟩ | ⟨_, rfl⟩ := he
    · exact absurd h1 h0
    exact ⟨rfl, err, Abt.no h0, .inr ⟨h0, by simp [gH, G1.out, hg]⟩, S1.out.trans hs⟩
  obtain ⟨_, rfl⟩ | ⟨h0, _⟩ := he
  rotate_left
  · exact absurd rfl h0
  rw [show splice (splice vs off ([.int .i64 v0] : List Value)) (off + 1) (bs v1) = splice vs off ([.int .i64 v0] ++ bs v1) from by have h3 := splice_next vs ([.int .i64 v0] : List Value) (bs v1) off (by have h1 := HF.out; have h2 := HC1.out; omega); rw [HC1.out] at h3; exact h3] at hD2
  have G2 := Lib.hid hg
  have S2 := Lib.hid (S1.out.trans hs)
  clear hg hs hD1 hN
  go_wp2_with fail
  have HC2 : Hid (([.int .i64 v0] ++ bs v1 : List Value).length = 33) := Lib.hid (by simp [bs_length, show v1.length = 32 from hk1])
  have HV2 : Hid ((splice vs off ([.int .i64 v0] ++ bs v1 : List Value)).length = vs.length) := Lib.hid (length_splice _ _ _ (by have h1 := HF.out; have h2 := HC2.out; omega))
  refine (digest_dec A a0 n0 c0 l0 b r X B t w2 q2 (splice vs off ([.int .i64 v0] ++ bs v1 : List Value)) hD2 (off + 33) (by have h1 := HF.out; have h2 := HV2.out; omega)).mono ?_
  rintro e w3 ⟨err, he, hN, hs⟩
  rcases hN.dec with ⟨rfl, v2, q3, hg, hk2, hD3⟩ | ⟨h0, hg⟩
  rotate_left
  · obtain ⟨h1, _⟩ | ⟨_, rfl⟩ := he
    · exact absurd h1 h0
    exact ⟨rfl, err, Abt.no h0, .inr ⟨h0, by simp [gH, G1.out, G2.out, hg]⟩, S2.out.trans hs⟩
  obtain ⟨_, rfl⟩ | ⟨h0, _⟩ := he
  rotate_left
  · exact absurd rfl h0
  rw [show splice (splice vs off ([.int .i64 v0] ++ bs v1 : List Value)) (off + 33) (bs v2) = splice vs off ([.int .i64 v0] ++ bs v1 ++ bs v2) from by have h3 := splice_next vs ([.int .i64 v0] ++ bs v1 : List Value) (bs v2) off (by have h1 := HF.out; have h2 := HC2.out; omega); rw [HC2.out] at h3; exact h3] at hD3
  have G3 := Lib.hid hg
  have S3 := Lib.hid (S2.out.trans hs)
  clear hg hs hD2 hN
  go_wp2
  go_end0
  exact ⟨0, Abt.ok, .inl ⟨rfl, ⟨v0, v1, v2⟩, q3, by simp [gH, G1.out, G2.out, G3.out], ⟨hk1, hk2⟩, hD3⟩, S3.out⟩

set_option maxHeartbeats 2000000 in
theorem signed_enc (w0 : World) (b B : Nat) (q0 : List UInt8) (hC0 : CdX w0 b B q0) (X off : Nat) (hlt : X < B) (hne : X ≠ b) (x : Sg) (hx : x.ok) (hp : w0.rangeAt X off (sgc x)) (ho : q0.length ≤ 70368744177585) :
    Calls Tryz.prog 43 #[.pointer (some ⟨b, 0, none⟩), .pointer (some ⟨X, off, none⟩)] w0 fun e w' => ∃ err, Abt err e ∧ LayO (loS x (0, q0)) err (fun l => CdX w' b B l) ∧ Stp (· = b) B w0 w' := by
  have hp1 : w0.rangeAt X off (hdc x.hd ++ bs x.sign) := hp
  obtain ⟨hp0, F1⟩ := range_app (o := 65) hp1 (by simp [hdc_length (x := x.hd) hx.1])
  have P0 := Lib.hid hp0
  have P1 := Lib.hid F1
  have HX := Lib.hid hx
  have L0 : Hid (q0.length ≤ 70368744177585) := Lib.hid ho
  have HLT := Lib.hid hlt
  have HNE := Lib.hid hne
  have S0 : Hid (Stp (· = b) B w0 w0) := Lib.hid (Stp.refl _ _ _)
  clear hp hx ho hlt hne hp0 hp1 F1
  go_enter Tryz.func43, Tryz.ntmps43
  go_wp2_with fail
  refine (head_enc w0 b B q0 hC0 X off HLT.out HNE.out x.hd HX.out.1 (S0.out.range P0.out HLT.out HNE.out) (by have := L0.out; omega)).mono ?_
  rintro e w1 ⟨err, he, hL, hs⟩
  rcases he with ⟨rfl, rfl⟩ | ⟨h0, rfl⟩
  rotate_left
  · refine ⟨rfl, err, Abt.no h0, ?_, S0.out.trans hs⟩
    rw [loS]
    exact LayO.stuck (f := fun o => loD x.sign (o)) (fun o h => by simp only [loD_stuck h]) hL h0
  obtain ⟨q1, e1, hC1⟩ := hL.ok
  have L1 : Hid (q1.length ≤ 70368744177654) := Lib.hid (by have h1 := L0.out; have h2 := loH_len3 (x := x.hd) HX.out.1 (0, q0); rw [e1] at h2; simp only at h2; omega)
  have E1 := Lib.hid e1
  have S1 := Lib.hid (S0.out.trans hs)
  clear hL e1 hs hC0
  go_wp2_with fail
  refine (digest_enc w1 b B q1 hC1 X (off + 65) x.sign HX.out.2 (S1.out.range P1.out HLT.out HNE.out) (by have := L1.out; omega)).mono ?_
  rintro e w2 ⟨rfl, hC2, hs⟩
  have hL : LayO (loD x.sign (0, q1)) 0 (fun l => CdX w2 b B l) := by rw [loD_ok]; exact ⟨rfl, fun _ => hC2⟩
  clear hC2
  go_wp2
  go_end0
  exact ⟨0, Abt.ok, by rw [loS, E1.out]; exact hL, S1.out.trans hs⟩

set_option maxHeartbeats 2000000 in
theorem signed_dec (A : Nat) (a0 : Option Addr) (n0 c0 : Nat) (l0 : List UInt8) (b r X B : Nat) (t : TypeId) (w0 : World) (q0 : List UInt8) (vs : List Value) (hD0 : Dc A a0 n0 c0 l0 b r X B t w0 q0 vs) (off : Nat) (hfit : off + 97 ≤ vs.length) :
    Calls Tryz.prog 43 #[.pointer (some ⟨b, 0, none⟩), .pointer (some ⟨X, off, none⟩)] w0 fun e w' => ∃ err, Abt err e ∧ (DecI (gS q0) err fun x l' => x.ok ∧ Dc A a0 n0 c0 l0 b r X B t w' l' (splice vs off (sgc x))) ∧ Stp (fun k => k = r ∨ k = X) B w0 w' := by
  have HF := Lib.hid hfit
  have S0 : Hid (Stp (fun k => k = r ∨ k = X) B w0 w0) := Lib.hid (Stp.refl _ _ _)
  have HLS := Lib.hid hD0.lt
  clear hfit
  go_enter Tryz.func43, Tryz.ntmps43
  go_wp2_with fail
  refine (head_dec A a0 n0 c0 l0 b r X B t w0 q0 vs hD0 off (by have h1 := HF.out; omega)).mono ?_
  rintro e w1 ⟨err, he, hN, hs⟩
  rcases hN with ⟨rfl, v0, q1, hg, hk0, hD1⟩ | ⟨h0, hg⟩
  rotate_left
  · obtain ⟨h1, _⟩ | ⟨_, rfl⟩ := he
    · exact absurd h1 h0
    exact ⟨rfl, err, Abt.no h0, .inr ⟨h0, by simp [gS, hg]⟩, S0.out.trans hs⟩
  obtain ⟨_, rfl⟩ | ⟨h0, _⟩ := he
  rotate_left
  · exact absurd rfl h0
  have G1 := Lib.hid hg
  have S1 := Lib.hid (S0.out.trans hs)
  clear hg hs hD0
  go_wp2_with fail
  have HC1 : Hid ((hdc v0 : List Value).length = 65) := Lib.hid (by simp [hdc_length (x := v0) hk0])
  have HV1 : Hid ((splice vs off (hdc v0 : List Value)).length = vs.length) := Lib.hid (length_splice _ _ _ (by have h1 := HF.out; have h2 := HC1.out; omega))
  refine (digest_dec A a0 n0 c0 l0 b r X B t w1 q1 (splice vs off (hdc v0 : List Value)) hD1 (off + 65) (by have h1 := HF.out; have h2 := HV1.out; omega)).mono ?_
  rintro e w2 ⟨err, he, hN, hs⟩
  rcases hN.dec with ⟨rfl, v1, q2, hg, hk1, hD2⟩ | ⟨h0, hg⟩
  rotate_left
  · obtain ⟨h1, _⟩ | ⟨_, rfl⟩ := he
    · exact absurd h1 h0
    exact ⟨rfl, err, Abt.no h0, .inr ⟨h0, by simp [gS, G1.out, hg]⟩, S1.out.trans hs⟩
  obtain ⟨_, rfl⟩ | ⟨h0, _⟩ := he
  rotate_left
  · exact absurd rfl h0
  rw [show splice (splice vs off (hdc v0 : List Value)) (off + 65) (bs v1) = splice vs off (hdc v0 ++ bs v1) from by have h3 := splice_next vs (hdc v0 : List Value) (bs v1) off (by have h1 := HF.out; have h2 := HC1.out; omega); rw [HC1.out] at h3; exact h3] at hD2
  have G2 := Lib.hid hg
  have S2 := Lib.hid (S1.out.trans hs)
  clear hg hs hD1 hN
  go_wp2
  go_end0
  exact ⟨0, Abt.ok, .inl ⟨rfl, ⟨v0, v1⟩, q2, by simp [gS, G1.out, G2.out], ⟨hk0, hk1⟩, hD2⟩, S2.out⟩

set_option maxHeartbeats 2000000 in
theorem command_enc (w0 : World) (b B : Nat) (q0 : List UInt8) (hC0 : CdX w0 b B q0) (X off : Nat) (hlt : X < B) (hne : X ≠ b) (x : Cm) (hx : x.ok) (hp : w0.rangeAt X off (cmc x)) (ho : q0.length ≤ 70368744046552) :
    Calls Tryz.prog 28 #[.pointer (some ⟨b, 0, none⟩), .pointer (some ⟨X, off, none⟩)] w0 fun e w' => ∃ err, Abt err e ∧ LayO (loC x (0, q0)) err (fun l => CdX w' b B l) ∧ Stp (· = b) B w0 w' := by
  have hp6 : w0.rangeAt X off ([.int .i64 x.kd] ++ [.int .i64 x.cl] ++ [.int .i64 x.sq] ++ [.string x.us] ++ [.string x.ky] ++ [.int .i64 x.ep] ++ bs x.root) := hp
  obtain ⟨hp5, F6⟩ := range_app (o := 6) hp6 (by simp)
  obtain ⟨hp4, F5⟩ := range_app (o := 5) hp5 (by simp)
  obtain ⟨hp3, F4⟩ := range_app (o := 4) hp4 (by simp)
  obtain ⟨hp2, F3⟩ := range_app (o := 3) hp3 (by simp)
  obtain ⟨hp1, F2⟩ := range_app (o := 2) hp2 (by simp)
  obtain ⟨hp0, F1⟩ := range_app (o := 1) hp1 (by simp)
  have P0 := Lib.hid hp0
  have P1 := Lib.hid F1
  have P2 := Lib.hid F2
  have P3 := Lib.hid F3
  have P4 := Lib.hid F4
  have P5 := Lib.hid F5
  have P6 := Lib.hid F6
  have HX := Lib.hid hx
  have L0 : Hid (q0.length ≤ 70368744046552) := Lib.hid ho
  have HLT := Lib.hid hlt
  have HNE := Lib.hid hne
  have S0 : Hid (Stp (· = b) B w0 w0) := Lib.hid (Stp.refl _ _ _)
  clear hp hx ho hlt hne hp0 hp1 hp2 hp3 hp4 hp5 hp6 F1 F2 F3 F4 F5 F6
  go_enter Tryz.func28, Tryz.ntmps28
  go_wp2_with fail
  refine (number_enc_CmdKind w0 b B q0 hC0 ⟨X, off, none⟩ x.kd (by have := range_cell (S0.out.range P0.out HLT.out HNE.out) 0 (v := .int .i64 x.kd) rfl; simpa using this) (by have := L0.out; omega)).mono ?_
  rintro e w1 ⟨err, he, hN, hs⟩
  have hL := hN.lay
  rcases he with ⟨rfl, rfl⟩ | ⟨h0, rfl⟩
  rotate_left
  · refine ⟨rfl, err, Abt.no h0, ?_, S0.out.trans hs⟩
    rw [loC]
    exact LayO.stuck (f := fun o => loD x.root (loN x.ep (loT x.ky (loT x.us (loN x.sq (loN x.cl (o))))))) (fun o h => by simp only [loN_stuck h, loT_stuck h, loD_stuck h]) hL h0
  obtain ⟨q1, e1, hC1⟩ := hL.ok
  have L1 : Hid (q1.length ≤ 70368744046557) := Lib.hid (by have h1 := L0.out; have h2 := loN_len3 x.kd (0, q0); rw [e1] at h2; simp only at h2; omega)
  have E1 := Lib.hid e1
  have S1 := Lib.hid (S0.out.trans hs)
  clear hN hL e1 hs hC0
  go_wp2_with fail
  refine (number_enc_int w1 b B q1 hC1 ⟨X, off + 1, none⟩ x.cl (by have := range_cell (S1.out.range P1.out HLT.out HNE.out) 0 (v := .int .i64 x.cl) rfl; simpa using this) (by have := L1.out; omega)).mono ?_
  rintro e w2 ⟨err, he, hN, hs⟩
  have hL := hN.lay
  rcases he with ⟨rfl, rfl⟩ | ⟨h0, rfl⟩
  rotate_left
  · refine ⟨rfl, err, Abt.no h0, ?_, S1.out.trans hs⟩
    rw [loC, E1.out]
    exact LayO.stuck (f := fun o => loD x.root (loN x.ep (loT x.ky (loT x.us (loN x.sq (o)))))) (fun o h => by simp only [loN_stuck h, loT_stuck h, loD_stuck h]) hL h0
  obtain ⟨q2, e2, hC2⟩ := hL.ok
  have L2 : Hid (q2.length ≤ 70368744046562) := Lib.hid (by have h1 := L1.out; have h2 := loN_len3 x.cl (0, q1); rw [e2] at h2; simp only at h2; omega)
  have E2 := Lib.hid e2
  have S2 := Lib.hid (S1.out.trans hs)
  clear hN hL e2 hs hC1
  go_wp2_with fail
  refine (number_enc_int w2 b B q2 hC2 ⟨X, off + 2, none⟩ x.sq (by have := range_cell (S2.out.range P2.out HLT.out HNE.out) 0 (v := .int .i64 x.sq) rfl; simpa using this) (by have := L2.out; omega)).mono ?_
  rintro e w3 ⟨err, he, hN, hs⟩
  have hL := hN.lay
  rcases he with ⟨rfl, rfl⟩ | ⟨h0, rfl⟩
  rotate_left
  · refine ⟨rfl, err, Abt.no h0, ?_, S2.out.trans hs⟩
    rw [loC, E1.out, E2.out]
    exact LayO.stuck (f := fun o => loD x.root (loN x.ep (loT x.ky (loT x.us (o))))) (fun o h => by simp only [loT_stuck h, loN_stuck h, loD_stuck h]) hL h0
  obtain ⟨q3, e3, hC3⟩ := hL.ok
  have L3 : Hid (q3.length ≤ 70368744046567) := Lib.hid (by have h1 := L2.out; have h2 := loN_len3 x.sq (0, q2); rw [e3] at h2; simp only at h2; omega)
  have E3 := Lib.hid e3
  have S3 := Lib.hid (S2.out.trans hs)
  clear hN hL e3 hs hC2
  go_wp2_with fail
  refine (text_enc w3 b B q3 hC3 ⟨X, off + 3, none⟩ x.us (by have := range_cell (S3.out.range P3.out HLT.out HNE.out) 0 (v := .string x.us) rfl; simpa using this) (by have := L3.out; omega)).mono ?_
  rintro e w4 ⟨err, he, hN, hs⟩
  have hL := hN.lay
  rcases he with ⟨rfl, rfl⟩ | ⟨h0, rfl⟩
  rotate_left
  · refine ⟨rfl, err, Abt.no h0, ?_, S3.out.trans hs⟩
    rw [loC, E1.out, E2.out, E3.out]
    exact LayO.stuck (f := fun o => loD x.root (loN x.ep (loT x.ky (o)))) (fun o h => by simp only [loT_stuck h, loN_stuck h, loD_stuck h]) hL h0
  obtain ⟨q4, e4, hC4⟩ := hL.ok
  have L4 : Hid (q4.length ≤ 70368744112108) := Lib.hid (by have h1 := L3.out; have h2 := loT_len3 x.us (0, q3); rw [e4] at h2; simp only at h2; omega)
  have E4 := Lib.hid e4
  have S4 := Lib.hid (S3.out.trans hs)
  clear hN hL e4 hs hC3
  go_wp2_with fail
  refine (text_enc w4 b B q4 hC4 ⟨X, off + 4, none⟩ x.ky (by have := range_cell (S4.out.range P4.out HLT.out HNE.out) 0 (v := .string x.ky) rfl; simpa using this) (by have := L4.out; omega)).mono ?_
  rintro e w5 ⟨err, he, hN, hs⟩
  have hL := hN.lay
  rcases he with ⟨rfl, rfl⟩ | ⟨h0, rfl⟩
  rotate_left
  · refine ⟨rfl, err, Abt.no h0, ?_, S4.out.trans hs⟩
    rw [loC, E1.out, E2.out, E3.out, E4.out]
    exact LayO.stuck (f := fun o => loD x.root (loN x.ep (o))) (fun o h => by simp only [loN_stuck h, loD_stuck h]) hL h0
  obtain ⟨q5, e5, hC5⟩ := hL.ok
  have L5 : Hid (q5.length ≤ 70368744177649) := Lib.hid (by have h1 := L4.out; have h2 := loT_len3 x.ky (0, q4); rw [e5] at h2; simp only at h2; omega)
  have E5 := Lib.hid e5
  have S5 := Lib.hid (S4.out.trans hs)
  clear hN hL e5 hs hC4
  go_wp2_with fail
  refine (number_enc_int w5 b B q5 hC5 ⟨X, off + 5, none⟩ x.ep (by have := range_cell (S5.out.range P5.out HLT.out HNE.out) 0 (v := .int .i64 x.ep) rfl; simpa using this) (by have := L5.out; omega)).mono ?_
  rintro e w6 ⟨err, he, hN, hs⟩
  have hL := hN.lay
  rcases he with ⟨rfl, rfl⟩ | ⟨h0, rfl⟩
  rotate_left
  · refine ⟨rfl, err, Abt.no h0, ?_, S5.out.trans hs⟩
    rw [loC, E1.out, E2.out, E3.out, E4.out, E5.out]
    exact LayO.stuck (f := fun o => loD x.root (o)) (fun o h => by simp only [loD_stuck h]) hL h0
  obtain ⟨q6, e6, hC6⟩ := hL.ok
  have L6 : Hid (q6.length ≤ 70368744177654) := Lib.hid (by have h1 := L5.out; have h2 := loN_len3 x.ep (0, q5); rw [e6] at h2; simp only at h2; omega)
  have E6 := Lib.hid e6
  have S6 := Lib.hid (S5.out.trans hs)
  clear hN hL e6 hs hC5
  go_wp2_with fail
  refine (digest_enc w6 b B q6 hC6 X (off + 6) x.root HX.out (S6.out.range P6.out HLT.out HNE.out) (by have := L6.out; omega)).mono ?_
  rintro e w7 ⟨rfl, hC7, hs⟩
  have hL : LayO (loD x.root (0, q6)) 0 (fun l => CdX w7 b B l) := by rw [loD_ok]; exact ⟨rfl, fun _ => hC7⟩
  clear hC7
  go_wp2
  go_end0
  exact ⟨0, Abt.ok, by rw [loC, E1.out, E2.out, E3.out, E4.out, E5.out, E6.out]; exact hL, S6.out.trans hs⟩

set_option maxHeartbeats 2000000 in
theorem command_dec (A : Nat) (a0 : Option Addr) (n0 c0 : Nat) (l0 : List UInt8) (b r X B : Nat) (t : TypeId) (w0 : World) (q0 : List UInt8) (vs : List Value) (hD0 : Dc A a0 n0 c0 l0 b r X B t w0 q0 vs) (off : Nat) (hfit : off + 38 ≤ vs.length) :
    Calls Tryz.prog 28 #[.pointer (some ⟨b, 0, none⟩), .pointer (some ⟨X, off, none⟩)] w0 fun e w' => ∃ err, Abt err e ∧ (DecI (gC q0) err fun x l' => x.ok ∧ Dc A a0 n0 c0 l0 b r X B t w' l' (splice vs off (cmc x))) ∧ Stp (fun k => k = r ∨ k = X) B w0 w' := by
  have HF := Lib.hid hfit
  have S0 : Hid (Stp (fun k => k = r ∨ k = X) B w0 w0) := Lib.hid (Stp.refl _ _ _)
  have HLS := Lib.hid hD0.lt
  clear hfit
  go_enter Tryz.func28, Tryz.ntmps28
  go_wp2_with fail
  obtain ⟨y0, hy0⟩ : ∃ y, vs[off]? = some y := ⟨_, List.getElem?_eq_getElem (by have h1 := HF.out; omega)⟩
  refine (number_dec_CmdKind A a0 n0 c0 l0 b r X B t w0 q0 vs hD0 off y0 hy0).mono ?_
  rintro e w1 ⟨err, he, hN, hs⟩
  rcases hN.dec with ⟨rfl, v0, q1, hg, hD1⟩ | ⟨h0, hg⟩
  rotate_left
  · obtain ⟨h1, _⟩ | ⟨_, rfl⟩ := he
    · exact absurd h1 h0
    exact ⟨rfl, err, Abt.no h0, .inr ⟨h0, by simp [gC, hg]⟩, S0.out.trans hs⟩
  obtain ⟨_, rfl⟩ | ⟨h0, _⟩ := he
  rotate_left
  · exact absurd rfl h0
  rw [splice_one _ _ _ (by have := HF.out; omega)] at hD1
  have G1 := Lib.hid hg
  have S1 := Lib.hid (S0.out.trans hs)
  clear hg hs hD0 hN hy0
  go_wp2_with fail
  have HC1 : Hid (([.int .i64 v0] : List Value).length = 1) := Lib.hid (by simp)
  have HV1 : Hid ((splice vs off ([.int .i64 v0] : List Value)).length = vs.length) := Lib.hid (length_splice _ _ _ (by have h1 := HF.out; have h2 := HC1.out; omega))
  obtain ⟨y1, hy1⟩ : ∃ y, (splice vs off ([.int .i64 v0] : List Value))[(off + 1)]? = some y := ⟨_, List.getElem?_eq_getElem (by have h1 := HF.out; have h2 := HV1.out; omega)⟩
  refine (number_dec_int A a0 n0 c0 l0 b r X B t w1 q1 (splice vs off ([.int .i64 v0] : List Value)) hD1 (off + 1) y1 hy1).mono ?_
  rintro e w2 ⟨err, he, hN, hs⟩
  rcases hN.dec with ⟨rfl, v1, q2, hg, hD2⟩ | ⟨h0, hg⟩
  rotate_left
  · obtain ⟨h1, _⟩ | ⟨_, rfl⟩ := he
    · exact absurd h1 h0
    exact ⟨rfl, err, Abt.no h0, .inr ⟨h0, by simp [gC, G1.out, hg]⟩, S1.out.trans hs⟩
  obtain ⟨_, rfl⟩ | ⟨h0, _⟩ := he
  rotate_left
  · exact absurd rfl h0
  rw [splice_one _ _ _ (by have h1 := HF.out; have h2 := HV1.out; omega), show splice (splice vs off ([.int .i64 v0] : List Value)) (off + 1) [.int .i64 v1] = splice vs off ([.int .i64 v0] ++ [.int .i64 v1]) from by have h3 := splice_next vs ([.int .i64 v0] : List Value) [.int .i64 v1] off (by have h1 := HF.out; have h2 := HC1.out; omega); rw [HC1.out] at h3; exact h3] at hD2
  have G2 := Lib.hid hg
  have S2 := Lib.hid (S1.out.trans hs)
  clear hg hs hD1 hN hy1
  go_wp2_with fail
  have HC2 : Hid (([.int .i64 v0] ++ [.int .i64 v1] : List Value).length = 2) := Lib.hid (by simp)
  have HV2 : Hid ((splice vs off ([.int .i64 v0] ++ [.int .i64 v1] : List Value)).length = vs.length) := Lib.hid (length_splice _ _ _ (by have h1 := HF.out; have h2 := HC2.out; omega))
  obtain ⟨y2, hy2⟩ : ∃ y, (splice vs off ([.int .i64 v0] ++ [.int .i64 v1] : List Value))[(off + 2)]? = some y := ⟨_, List.getElem?_eq_getElem (by have h1 := HF.out; have h2 := HV2.out; omega)⟩
  refine (number_dec_int A a0 n0 c0 l0 b r X B t w2 q2 (splice vs off ([.int .i64 v0] ++ [.int .i64 v1] : List Value)) hD2 (off + 2) y2 hy2).mono ?_
  rintro e w3 ⟨err, he, hN, hs⟩
  rcases hN.dec with ⟨rfl, v2, q3, hg, hD3⟩ | ⟨h0, hg⟩
  rotate_left
  · obtain ⟨h1, _⟩ | ⟨_, rfl⟩ := he
    · exact absurd h1 h0
    exact ⟨rfl, err, Abt.no h0, .inr ⟨h0, by simp [gC, G1.out, G2.out, hg]⟩, S2.out.trans hs⟩
  obtain ⟨_, rfl⟩ | ⟨h0, _⟩ := he
  rotate_left
  · exact absurd rfl h0
  rw [splice_one _ _ _ (by have h1 := HF.out; have h2 := HV2.out; omega), show splice (splice vs off ([.int .i64 v0] ++ [.int .i64 v1] : List Value)) (off + 2) [.int .i64 v2] = splice vs off ([.int .i64 v0] ++ [.int .i64 v1] ++ [.int .i64 v2]) from by have h3 := splice_next vs ([.int .i64 v0] ++ [.int .i64 v1] : List Value) [.int .i64 v2] off (by have h1 := HF.out; have h2 := HC2.out; omega); rw [HC2.out] at h3; exact h3] at hD3
  have G3 := Lib.hid hg
  have S3 := Lib.hid (S2.out.trans hs)
  clear hg hs hD2 hN hy2
  go_wp2_with fail
  have HC3 : Hid (([.int .i64 v0] ++ [.int .i64 v1] ++ [.int .i64 v2] : List Value).length = 3) := Lib.hid (by simp)
  have HV3 : Hid ((splice vs off ([.int .i64 v0] ++ [.int .i64 v1] ++ [.int .i64 v2] : List Value)).length = vs.length) := Lib.hid (length_splice _ _ _ (by have h1 := HF.out; have h2 := HC3.out; omega))
  obtain ⟨y3, hy3⟩ : ∃ y, (splice vs off ([.int .i64 v0] ++ [.int .i64 v1] ++ [.int .i64 v2] : List Value))[(off + 3)]? = some y := ⟨_, List.getElem?_eq_getElem (by have h1 := HF.out; have h2 := HV3.out; omega)⟩
  refine (text_dec A a0 n0 c0 l0 b r X B t w3 q3 (splice vs off ([.int .i64 v0] ++ [.int .i64 v1] ++ [.int .i64 v2] : List Value)) hD3 (off + 3) y3 hy3).mono ?_
  rintro e w4 ⟨err, he, hN, hs⟩
  rcases hN.dec with ⟨rfl, v3, q4, hg, hD4⟩ | ⟨h0, hg⟩
  rotate_left
  · obtain ⟨h1, _⟩ | ⟨_, rfl⟩ := he
    · exact absurd h1 h0
    exact ⟨rfl, err, Abt.no h0, .inr ⟨h0, by simp [gC, G1.out, G2.out, G3.out, hg]⟩, S3.out.trans hs⟩
  obtain ⟨_, rfl⟩ | ⟨h0, _⟩ := he
  rotate_left
  · exact absurd rfl h0
  rw [splice_one _ _ _ (by have h1 := HF.out; have h2 := HV3.out; omega), show splice (splice vs off ([.int .i64 v0] ++ [.int .i64 v1] ++ [.int .i64 v2] : List Value)) (off + 3) [.string v3] = splice vs off ([.int .i64 v0] ++ [.int .i64 v1] ++ [.int .i64 v2] ++ [.string v3]) from by have h3 := splice_next vs ([.int .i64 v0] ++ [.int .i64 v1] ++ [.int .i64 v2] : List Value) [.string v3] off (by have h1 := HF.out; have h2 := HC3.out; omega); rw [HC3.out] at h3; exact h3] at hD4
  have G4 := Lib.hid hg
  have S4 := Lib.hid (S3.out.trans hs)
  clear hg hs hD3 hN hy3
  go_wp2_with fail
  have HC4 : Hid (([.int .i64 v0] ++ [.int .i64 v1] ++ [.int .i64 v2] ++ [.string v3] : List Value).length = 4) := Lib.hid (by simp)
  have HV4 : Hid ((splice vs off ([.int .i64 v0] ++ [.int .i64 v1] ++ [.int .i64 v2] ++ [.string v3] : List Value)).length = vs.length) := Lib.hid (length_splice _ _ _ (by have h1 := HF.out; have h2 := HC4.out; omega))
  obtain ⟨y4, hy4⟩ : ∃ y, (splice vs off ([.int .i64 v0] ++ [.int .i64 v1] ++ [.int .i64 v2] ++ [.string v3] : List Value))[(off + 4)]? = some y := ⟨_, List.getElem?_eq_getElem (by have h1 := HF.out; have h2 := HV4.out; omega)⟩
  refine (text_dec A a0 n0 c0 l0 b r X B t w4 q4 (splice vs off ([.int .i64 v0] ++ [.int .i64 v1] ++ [.int .i64 v2] ++ [.string v3] : List Value)) hD4 (off + 4) y4 hy4).mono ?_
  rintro e w5 ⟨err, he, hN, hs⟩
  rcases hN.dec with ⟨rfl, v4, q5, hg, hD5⟩ | ⟨h0, hg⟩
  rotate_left
  · obtain ⟨h1, _⟩ | ⟨_, rfl⟩ := he
    · exact absurd h1 h0
    exact ⟨rfl, err, Abt.no h0, .inr ⟨h0, by simp [gC, G1.out, G2.out, G3.out, G4.out, hg]⟩, S4.out.trans hs⟩
  obtain ⟨_, rfl⟩ | ⟨h0, _⟩ := he
  rotate_left
  · exact absurd rfl h0
  rw [splice_one _ _ _ (by have h1 := HF.out; have h2 := HV4.out; omega), show splice (splice vs off ([.int .i64 v0] ++ [.int .i64 v1] ++ [.int .i64 v2] ++ [.string v3] : List Value)) (off + 4) [.string v4] = splice vs off ([.int .i64 v0] ++ [.int .i64 v1] ++ [.int .i64 v2] ++ [.string v3] ++ [.string v4]) from by have h3 := splice_next vs ([.int .i64 v0] ++ [.int .i64 v1] ++ [.int .i64 v2] ++ [.string v3] : List Value) [.string v4] off (by have h1 := HF.out; have h2 := HC4.out; omega); rw [HC4.out] at h3; exact h3] at hD5
  have G5 := Lib.hid hg
  have S5 := Lib.hid (S4.out.trans hs)
  clear hg hs hD4 hN hy4
  go_wp2_with fail
  have HC5 : Hid (([.int .i64 v0] ++ [.int .i64 v1] ++ [.int .i64 v2] ++ [.string v3] ++ [.string v4] : List Value).length = 5) := Lib.hid (by simp)
  have HV5 : Hid ((splice vs off ([.int .i64 v0] ++ [.int .i64 v1] ++ [.int .i64 v2] ++ [.string v3] ++ [.string v4] : List Value)).length = vs.length) := Lib.hid (length_splice _ _ _ (by have h1 := HF.out; have h2 := HC5.out; omega))
  obtain ⟨y5, hy5⟩ : ∃ y, (splice vs off ([.int .i64 v0] ++ [.int .i64 v1] ++ [.int .i64 v2] ++ [.string v3] ++ [.string v4] : List Value))[(off + 5)]? = some y := ⟨_, List.getElem?_eq_getElem (by have h1 := HF.out; have h2 := HV5.out; omega)⟩
  refine (number_dec_int A a0 n0 c0 l0 b r X B t w5 q5 (splice vs off ([.int .i64 v0] ++ [.int .i64 v1] ++ [.int .i64 v2] ++ [.string v3] ++ [.string v4] : List Value)) hD5 (off + 5) y5 hy5).mono ?_
  rintro e w6 ⟨err, he, hN, hs⟩
  rcases hN.dec with ⟨rfl, v5, q6, hg, hD6⟩ | ⟨h0, hg⟩
  rotate_left
  · obtain ⟨h1, _⟩ | ⟨_, rfl⟩ := he
    · exact absurd h1 h0
    exact ⟨rfl, err, Abt.no h0, .inr ⟨h0, by simp [gC, G1.out, G2.out, G3.out, G4.out, G5.out, hg]⟩, S5.out.trans hs⟩
  obtain ⟨_, rfl⟩ | ⟨h0, _⟩ := he
  rotate_left
  · exact absurd rfl h0
  rw [splice_one _ _ _ (by have h1 := HF.out; have h2 := HV5.out; omega), show splice (splice vs off ([.int .i64 v0] ++ [.int .i64 v1] ++ [.int .i64 v2] ++ [.string v3] ++ [.string v4] : List Value)) (off + 5) [.int .i64 v5] = splice vs off ([.int .i64 v0] ++ [.int .i64 v1] ++ [.int .i64 v2] ++ [.string v3] ++ [.string v4] ++ [.int .i64 v5]) from by have h3 := splice_next vs ([.int .i64 v0] ++ [.int .i64 v1] ++ [.int .i64 v2] ++ [.string v3] ++ [.string v4] : List Value) [.int .i64 v5] off (by have h1 := HF.out; have h2 := HC5.out; omega); rw [HC5.out] at h3; exact h3] at hD6
  have G6 := Lib.hid hg
  have S6 := Lib.hid (S5.out.trans hs)
  clear hg hs hD5 hN hy5
  go_wp2_with fail
  have HC6 : Hid (([.int .i64 v0] ++ [.int .i64 v1] ++ [.int .i64 v2] ++ [.string v3] ++ [.string v4] ++ [.int .i64 v5] : List Value).length = 6) := Lib.hid (by simp)
  have HV6 : Hid ((splice vs off ([.int .i64 v0] ++ [.int .i64 v1] ++ [.int .i64 v2] ++ [.string v3] ++ [.string v4] ++ [.int .i64 v5] : List Value)).length = vs.length) := Lib.hid (length_splice _ _ _ (by have h1 := HF.out; have h2 := HC6.out; omega))
  refine (digest_dec A a0 n0 c0 l0 b r X B t w6 q6 (splice vs off ([.int .i64 v0] ++ [.int .i64 v1] ++ [.int .i64 v2] ++ [.string v3] ++ [.string v4] ++ [.int .i64 v5] : List Value)) hD6 (off + 6) (by have h1 := HF.out; have h2 := HV6.out; omega)).mono ?_
  rintro e w7 ⟨err, he, hN, hs⟩
  rcases hN.dec with ⟨rfl, v6, q7, hg, hk6, hD7⟩ | ⟨h0, hg⟩
  rotate_left
  · obtain ⟨h1, _⟩ | ⟨_, rfl⟩ := he
    · exact absurd h1 h0
    exact ⟨rfl, err, Abt.no h0, .inr ⟨h0, by simp [gC, G1.out, G2.out, G3.out, G4.out, G5.out, G6.out, hg]⟩, S6.out.trans hs⟩
  obtain ⟨_, rfl⟩ | ⟨h0, _⟩ := he
  rotate_left
  · exact absurd rfl h0
  rw [show splice (splice vs off ([.int .i64 v0] ++ [.int .i64 v1] ++ [.int .i64 v2] ++ [.string v3] ++ [.string v4] ++ [.int .i64 v5] : List Value)) (off + 6) (bs v6) = splice vs off ([.int .i64 v0] ++ [.int .i64 v1] ++ [.int .i64 v2] ++ [.string v3] ++ [.string v4] ++ [.int .i64 v5] ++ bs v6) from by have h3 := splice_next vs ([.int .i64 v0] ++ [.int .i64 v1] ++ [.int .i64 v2] ++ [.string v3] ++ [.string v4] ++ [.int .i64 v5] : List Value) (bs v6) off (by have h1 := HF.out; have h2 := HC6.out; omega); rw [HC6.out] at h3; exact h3] at hD7
  have G7 := Lib.hid hg
  have S7 := Lib.hid (S6.out.trans hs)
  clear hg hs hD6 hN
  go_wp2
  go_end0
  exact ⟨0, Abt.ok, .inl ⟨rfl, ⟨v0, v1, v2, v3, v4, v5, v6⟩, q7, by simp [gC, G1.out, G2.out, G3.out, G4.out, G5.out, G6.out, G7.out], hk6, hD7⟩, S7.out⟩

set_option maxHeartbeats 2000000 in
theorem version_enc (w0 : World) (b B : Nat) (q0 : List UInt8) (hC0 : CdX w0 b B q0) (X off : Nat) (hlt : X < B) (hne : X ≠ b) (x : Vn) (hx : x.ok) (hp : w0.rangeAt X off (vc x)) (ho : q0.length ≤ 70368744177644) :
    Calls Tryz.prog 104 #[.pointer (some ⟨b, 0, none⟩), .pointer (some ⟨X, off, none⟩)] w0 fun e w' => ∃ err, Abt err e ∧ LayO (loV x (0, q0)) err (fun l => CdX w' b B l) ∧ Stp (· = b) B w0 w' := by
  have hp2 : w0.rangeAt X off ([.int .i64 x.ep] ++ [.int .i64 x.kd] ++ [.string x.key]) := hp
  obtain ⟨hp1, F2⟩ := range_app (o := 2) hp2 (by simp)
  obtain ⟨hp0, F1⟩ := range_app (o := 1) hp1 (by simp)
  have P0 := Lib.hid hp0
  have P1 := Lib.hid F1
  have P2 := Lib.hid F2
  have HX := Lib.hid hx
  have L0 : Hid (q0.length ≤ 70368744177644) := Lib.hid ho
  have HLT := Lib.hid hlt
  have HNE := Lib.hid hne
  have S0 : Hid (Stp (· = b) B w0 w0) := Lib.hid (Stp.refl _ _ _)
  clear hp hx ho hlt hne hp0 hp1 hp2 F1 F2
  go_enter Tryz.func104, Tryz.ntmps104
  go_wp2_with fail
  refine (number_enc_int w0 b B q0 hC0 ⟨X, off, none⟩ x.ep (by have := range_cell (S0.out.range P0.out HLT.out HNE.out) 0 (v := .int .i64 x.ep) rfl; simpa using this) (by have := L0.out; omega)).mono ?_
  rintro e w1 ⟨err, he, hN, hs⟩
  have hL := hN.lay
  rcases he with ⟨rfl, rfl⟩ | ⟨h0, rfl⟩
  rotate_left
  · refine ⟨rfl, err, Abt.no h0, ?_, S0.out.trans hs⟩
    rw [loV]
    exact LayO.stuck (f := fun o => loT x.key (loN x.kd (o))) (fun o h => by simp only [loN_stuck h, loT_stuck h]) hL h0
  obtain ⟨q1, e1, hC1⟩ := hL.ok
  have L1 : Hid (q1.length ≤ 70368744177649) := Lib.hid (by have h1 := L0.out; have h2 := loN_len3 x.ep (0, q0); rw [e1] at h2; simp only at h2; omega)
  have E1 := Lib.hid e1
  have S1 := Lib.hid (S0.out.trans hs)
  clear hN hL e1 hs hC0
  go_wp2_with fail
  refine (number_enc_VerKind w1 b B q1 hC1 ⟨X, off + 1, none⟩ x.kd (by have := range_cell (S1.out.range P1.out HLT.out HNE.out) 0 (v := .int .i64 x.kd) rfl; simpa using this) (by have := L1.out; omega)).mono ?_
  rintro e w2 ⟨err, he, hN, hs⟩
  have hL := hN.lay
  rcases he with ⟨rfl, rfl⟩ | ⟨h0, rfl⟩
  rotate_left
  · refine ⟨rfl, err, Abt.no h0, ?_, S1.out.trans hs⟩
    rw [loV, E1.out]
    exact LayO.stuck (f := fun o => loT x.key (o)) (fun o h => by simp only [loT_stuck h]) hL h0
  obtain ⟨q2, e2, hC2⟩ := hL.ok
  have L2 : Hid (q2.length ≤ 70368744177654) := Lib.hid (by have h1 := L1.out; have h2 := loN_len3 x.kd (0, q1); rw [e2] at h2; simp only at h2; omega)
  have E2 := Lib.hid e2
  have S2 := Lib.hid (S1.out.trans hs)
  clear hN hL e2 hs hC1
  go_wp2_with fail
  refine (text_enc w2 b B q2 hC2 ⟨X, off + 2, none⟩ x.key (by have := range_cell (S2.out.range P2.out HLT.out HNE.out) 0 (v := .string x.key) rfl; simpa using this) (by have := L2.out; omega)).mono ?_
  rintro e w3 ⟨err, he, hN, hs⟩
  have hL := hN.lay
  rcases he with ⟨rfl, rfl⟩ | ⟨h0, rfl⟩
  rotate_left
  · refine ⟨rfl, err, Abt.no h0, ?_, S2.out.trans hs⟩
    rw [loV, E1.out, E2.out]
    exact ⟨hL.1, fun e => absurd e h0⟩
  go_wp2
  go_end0
  exact ⟨0, Abt.ok, by rw [loV, E1.out, E2.out]; exact hL, S2.out.trans hs⟩

set_option maxHeartbeats 2000000 in
theorem version_dec (A : Nat) (a0 : Option Addr) (n0 c0 : Nat) (l0 : List UInt8) (b r X B : Nat) (t : TypeId) (w0 : World) (q0 : List UInt8) (vs : List Value) (hD0 : Dc A a0 n0 c0 l0 b r X B t w0 q0 vs) (off : Nat) (hfit : off + 3 ≤ vs.length) :
    Calls Tryz.prog 104 #[.pointer (some ⟨b, 0, none⟩), .pointer (some ⟨X, off, none⟩)] w0 fun e w' => ∃ err, Abt err e ∧ (DecI (gV q0) err fun x l' => x.ok ∧ Dc A a0 n0 c0 l0 b r X B t w' l' (splice vs off (vc x))) ∧ Stp (fun k => k = r ∨ k = X) B w0 w' := by
  have HF := Lib.hid hfit
  have S0 : Hid (Stp (fun k => k = r ∨ k = X) B w0 w0) := Lib.hid (Stp.refl _ _ _)
  have HLS := Lib.hid hD0.lt
  clear hfit
  go_enter Tryz.func104, Tryz.ntmps104
  go_wp2_with fail
  obtain ⟨y0, hy0⟩ : ∃ y, vs[off]? = some y := ⟨_, List.getElem?_eq_getElem (by have h1 := HF.out; omega)⟩
  refine (number_dec_int A a0 n0 c0 l0 b r X B t w0 q0 vs hD0 off y0 hy0).mono ?_
  rintro e w1 ⟨err, he, hN, hs⟩
  rcases hN.dec with ⟨rfl, v0, q1, hg, hD1⟩ | ⟨h0, hg⟩
  rotate_left
  · obtain ⟨h1, _⟩ | ⟨_, rfl⟩ := he
    · exact absurd h1 h0
    exact ⟨rfl, err, Abt.no h0, .inr ⟨h0, by simp [gV, hg]⟩, S0.out.trans hs⟩
  obtain ⟨_, rfl⟩ | ⟨h0, _⟩ := he
  rotate_left
  · exact absurd rfl h0
  rw [splice_one _ _ _ (by have := HF.out; omega)] at hD1
  have G1 := Lib.hid hg
  have S1 := Lib.hid (S0.out.trans hs)
  clear hg hs hD0 hN hy0
  go_wp2_with fail
  have HC1 : Hid (([.int .i64 v0] : List Value).length = 1) := Lib.hid (by simp)
  have HV1 : Hid ((splice vs off ([.int .i64 v0] : List Value)).length = vs.length) := Lib.hid (length_splice _ _ _ (by have h1 := HF.out; have h2 := HC1.out; omega))
  obtain ⟨y1, hy1⟩ : ∃ y, (splice vs off ([.int .i64 v0] : List Value))[(off + 1)]? = some y := ⟨_, List.getElem?_eq_getElem (by have h1 := HF.out; have h2 := HV1.out; omega)⟩
  refine (number_dec_VerKind A a0 n0 c0 l0 b r X B t w1 q1 (splice vs off ([.int .i64 v0] : List Value)) hD1 (off + 1) y1 hy1).mono ?_
  rintro e w2 ⟨err, he, hN, hs⟩
  rcases hN.dec with ⟨rfl, v1, q2, hg, hD2⟩ | ⟨h0, hg⟩
  rotate_left
  · obtain ⟨h1, _⟩ | ⟨_, rfl⟩ := he
    · exact absurd h1 h0
    exact ⟨rfl, err, Abt.no h0, .inr ⟨h0, by simp [gV, G1.out, hg]⟩, S1.out.trans hs⟩
  obtain ⟨_, rfl⟩ | ⟨h0, _⟩ := he
  rotate_left
  · exact absurd rfl h0
  rw [splice_one _ _ _ (by have h1 := HF.out; have h2 := HV1.out; omega), show splice (splice vs off ([.int .i64 v0] : List Value)) (off + 1) [.int .i64 v1] = splice vs off ([.int .i64 v0] ++ [.int .i64 v1]) from by have h3 := splice_next vs ([.int .i64 v0] : List Value) [.int .i64 v1] off (by have h1 := HF.out; have h2 := HC1.out; omega); rw [HC1.out] at h3; exact h3] at hD2
  have G2 := Lib.hid hg
  have S2 := Lib.hid (S1.out.trans hs)
  clear hg hs hD1 hN hy1
  go_wp2_with fail
  have HC2 : Hid (([.int .i64 v0] ++ [.int .i64 v1] : List Value).length = 2) := Lib.hid (by simp)
  have HV2 : Hid ((splice vs off ([.int .i64 v0] ++ [.int .i64 v1] : List Value)).length = vs.length) := Lib.hid (length_splice _ _ _ (by have h1 := HF.out; have h2 := HC2.out; omega))
  obtain ⟨y2, hy2⟩ : ∃ y, (splice vs off ([.int .i64 v0] ++ [.int .i64 v1] : List Value))[(off + 2)]? = some y := ⟨_, List.getElem?_eq_getElem (by have h1 := HF.out; have h2 := HV2.out; omega)⟩
  refine (text_dec A a0 n0 c0 l0 b r X B t w2 q2 (splice vs off ([.int .i64 v0] ++ [.int .i64 v1] : List Value)) hD2 (off + 2) y2 hy2).mono ?_
  rintro e w3 ⟨err, he, hN, hs⟩
  rcases hN.dec with ⟨rfl, v2, q3, hg, hD3⟩ | ⟨h0, hg⟩
  rotate_left
  · obtain ⟨h1, _⟩ | ⟨_, rfl⟩ := he
    · exact absurd h1 h0
    exact ⟨rfl, err, Abt.no h0, .inr ⟨h0, by simp [gV, G1.out, G2.out, hg]⟩, S2.out.trans hs⟩
  obtain ⟨_, rfl⟩ | ⟨h0, _⟩ := he
  rotate_left
  · exact absurd rfl h0
  rw [splice_one _ _ _ (by have h1 := HF.out; have h2 := HV2.out; omega), show splice (splice vs off ([.int .i64 v0] ++ [.int .i64 v1] : List Value)) (off + 2) [.string v2] = splice vs off ([.int .i64 v0] ++ [.int .i64 v1] ++ [.string v2]) from by have h3 := splice_next vs ([.int .i64 v0] ++ [.int .i64 v1] : List Value) [.string v2] off (by have h1 := HF.out; have h2 := HC2.out; omega); rw [HC2.out] at h3; exact h3] at hD3
  have G3 := Lib.hid hg
  have S3 := Lib.hid (S2.out.trans hs)
  clear hg hs hD2 hN hy2
  go_wp2
  go_end0
  exact ⟨0, Abt.ok, .inl ⟨rfl, ⟨v0, v1, v2⟩, q3, by simp [gV, G1.out, G2.out, G3.out], trivial, hD3⟩, S3.out⟩

set_option maxHeartbeats 2000000 in
theorem session_enc (w0 : World) (b B : Nat) (q0 : List UInt8) (hC0 : CdX w0 b B q0) (X off : Nat) (hlt : X < B) (hne : X ≠ b) (x : Se) (hx : x.ok) (hp : w0.rangeAt X off (sec x)) (ho : q0.length ≤ 70368744177639) :
    Calls Tryz.prog 82 #[.pointer (some ⟨b, 0, none⟩), .pointer (some ⟨X, off, none⟩)] w0 fun e w' => ∃ err, Abt err e ∧ LayO (loSe x (0, q0)) err (fun l => CdX w' b B l) ∧ Stp (· = b) B w0 w' := by
  have hp3 : w0.rangeAt X off ([.int .i64 x.cl] ++ [.int .i64 x.sq] ++ [.int .i64 x.cd] ++ [.int .i64 x.ep]) := hp
  obtain ⟨hp2, F3⟩ := range_app (o := 3) hp3 (by simp)
  obtain ⟨hp1, F2⟩ := range_app (o := 2) hp2 (by simp)
  obtain ⟨hp0, F1⟩ := range_app (o := 1) hp1 (by simp)
  have P0 := Lib.hid hp0
  have P1 := Lib.hid F1
  have P2 := Lib.hid F2
  have P3 := Lib.hid F3
  have HX := Lib.hid hx
  have L0 : Hid (q0.length ≤ 70368744177639) := Lib.hid ho
  have HLT := Lib.hid hlt
  have HNE := Lib.hid hne
  have S0 : Hid (Stp (· = b) B w0 w0) := Lib.hid (Stp.refl _ _ _)
  clear hp hx ho hlt hne hp0 hp1 hp2 hp3 F1 F2 F3
  go_enter Tryz.func82, Tryz.ntmps82
  go_wp2_with fail
  refine (number_enc_int w0 b B q0 hC0 ⟨X, off, none⟩ x.cl (by have := range_cell (S0.out.range P0.out HLT.out HNE.out) 0 (v := .int .i64 x.cl) rfl; simpa using this) (by have := L0.out; omega)).mono ?_
  rintro e w1 ⟨err, he, hN, hs⟩
  have hL := hN.lay
  rcases he with ⟨rfl, rfl⟩ | ⟨h0, rfl⟩
  rotate_left
  · refine ⟨rfl, err, Abt.no h0, ?_, S0.out.trans hs⟩
    rw [loSe]
    exact LayO.stuck (f := fun o => loN x.ep (loN x.cd (loN x.sq (o)))) (fun o h => by simp only [loN_stuck h]) hL h0
  obtain ⟨q1, e1, hC1⟩ := hL.ok
  have L1 : Hid (q1.length ≤ 70368744177644) := Lib.hid (by have h1 := L0.out; have h2 := loN_len3 x.cl (0, q0); rw [e1] at h2; simp only at h2; omega)
  have E1 := Lib.hid e1
  have S1 := Lib.hid (S0.out.trans hs)
  clear hN hL e1 hs hC0
  go_wp2_with fail
  refine (number_enc_int w1 b B q1 hC1 ⟨X, off + 1, none⟩ x.sq (by have := range_cell (S1.out.range P1.out HLT.out HNE.out) 0 (v := .int .i64 x.sq) rfl; simpa using this) (by have := L1.out; omega)).mono ?_
  rintro e w2 ⟨err, he, hN, hs⟩
  have hL := hN.lay
  rcases he with ⟨rfl, rfl⟩ | ⟨h0, rfl⟩
  rotate_left
  · refine ⟨rfl, err, Abt.no h0, ?_, S1.out.trans hs⟩
    rw [loSe, E1.out]
    exact LayO.stuck (f := fun o => loN x.ep (loN x.cd (o))) (fun o h => by simp only [loN_stuck h]) hL h0
  obtain ⟨q2, e2, hC2⟩ := hL.ok
  have L2 : Hid (q2.length ≤ 70368744177649) := Lib.hid (by have h1 := L1.out; have h2 := loN_len3 x.sq (0, q1); rw [e2] at h2; simp only at h2; omega)
  have E2 := Lib.hid e2
  have S2 := Lib.hid (S1.out.trans hs)
  clear hN hL e2 hs hC1
  go_wp2_with fail
  refine (number_enc_Errno w2 b B q2 hC2 ⟨X, off + 2, none⟩ x.cd (by have := range_cell (S2.out.range P2.out HLT.out HNE.out) 0 (v := .int .i64 x.cd) rfl; simpa using this) (by have := L2.out; omega)).mono ?_
  rintro e w3 ⟨err, he, hN, hs⟩
  have hL := hN.lay
  rcases he with ⟨rfl, rfl⟩ | ⟨h0, rfl⟩
  rotate_left
  · refine ⟨rfl, err, Abt.no h0, ?_, S2.out.trans hs⟩
    rw [loSe, E1.out, E2.out]
    exact LayO.stuck (f := fun o => loN x.ep (o)) (fun o h => by simp only [loN_stuck h]) hL h0
  obtain ⟨q3, e3, hC3⟩ := hL.ok
  have L3 : Hid (q3.length ≤ 70368744177654) := Lib.hid (by have h1 := L2.out; have h2 := loN_len3 x.cd (0, q2); rw [e3] at h2; simp only at h2; omega)
  have E3 := Lib.hid e3
  have S3 := Lib.hid (S2.out.trans hs)
  clear hN hL e3 hs hC2
  go_wp2_with fail
  refine (number_enc_int w3 b B q3 hC3 ⟨X, off + 3, none⟩ x.ep (by have := range_cell (S3.out.range P3.out HLT.out HNE.out) 0 (v := .int .i64 x.ep) rfl; simpa using this) (by have := L3.out; omega)).mono ?_
  rintro e w4 ⟨err, he, hN, hs⟩
  have hL := hN.lay
  rcases he with ⟨rfl, rfl⟩ | ⟨h0, rfl⟩
  rotate_left
  · refine ⟨rfl, err, Abt.no h0, ?_, S3.out.trans hs⟩
    rw [loSe, E1.out, E2.out, E3.out]
    exact ⟨hL.1, fun e => absurd e h0⟩
  go_wp2
  go_end0
  exact ⟨0, Abt.ok, by rw [loSe, E1.out, E2.out, E3.out]; exact hL, S3.out.trans hs⟩

set_option maxHeartbeats 2000000 in
theorem session_dec (A : Nat) (a0 : Option Addr) (n0 c0 : Nat) (l0 : List UInt8) (b r X B : Nat) (t : TypeId) (w0 : World) (q0 : List UInt8) (vs : List Value) (hD0 : Dc A a0 n0 c0 l0 b r X B t w0 q0 vs) (off : Nat) (hfit : off + 4 ≤ vs.length) :
    Calls Tryz.prog 82 #[.pointer (some ⟨b, 0, none⟩), .pointer (some ⟨X, off, none⟩)] w0 fun e w' => ∃ err, Abt err e ∧ (DecI (gSe q0) err fun x l' => x.ok ∧ Dc A a0 n0 c0 l0 b r X B t w' l' (splice vs off (sec x))) ∧ Stp (fun k => k = r ∨ k = X) B w0 w' := by
  have HF := Lib.hid hfit
  have S0 : Hid (Stp (fun k => k = r ∨ k = X) B w0 w0) := Lib.hid (Stp.refl _ _ _)
  have HLS := Lib.hid hD0.lt
  clear hfit
  go_enter Tryz.func82, Tryz.ntmps82
  go_wp2_with fail
  obtain ⟨y0, hy0⟩ : ∃ y, vs[off]? = some y := ⟨_, List.getElem?_eq_getElem (by have h1 := HF.out; omega)⟩
  refine (number_dec_int A a0 n0 c0 l0 b r X B t w0 q0 vs hD0 off y0 hy0).mono ?_
  rintro e w1 ⟨err, he, hN, hs⟩
  rcases hN.dec with ⟨rfl, v0, q1, hg, hD1⟩ | ⟨h0, hg⟩
  rotate_left
  · obtain ⟨h1, _⟩ | ⟨_, rfl⟩ := he
    · exact absurd h1 h0
    exact ⟨rfl, err, Abt.no h0, .inr ⟨h0, by simp [gSe, hg]⟩, S0.out.trans hs⟩
  obtain ⟨_, rfl⟩ | ⟨h0, _⟩ := he
  rotate_left
  · exact absurd rfl h0
  rw [splice_one _ _ _ (by have := HF.out; omega)] at hD1
  have G1 := Lib.hid hg
  have S1 := Lib.hid (S0.out.trans hs)
  clear hg hs hD0 hN hy0
  go_wp2_with fail
  have HC1 : Hid (([.int .i64 v0] : List Value).length = 1) := Lib.hid (by simp)
  have HV1 : Hid ((splice vs off ([.int .i64 v0] : List Value)).length = vs.length) := Lib.hid (length_splice _ _ _ (by have h1 := HF.out; have h2 := HC1.out; omega))
  obtain ⟨y1, hy1⟩ : ∃ y, (splice vs off ([.int .i64 v0] : List Value))[(off + 1)]? = some y := ⟨_, List.getElem?_eq_getElem (by have h1 := HF.out; have h2 := HV1.out; omega)⟩
  refine (number_dec_int A a0 n0 c0 l0 b r X B t w1 q1 (splice vs off ([.int .i64 v0] : List Value)) hD1 (off + 1) y1 hy1).mono ?_
  rintro e w2 ⟨err, he, hN, hs⟩
  rcases hN.dec with ⟨rfl, v1, q2, hg, hD2⟩ | ⟨h0, hg⟩
  rotate_left
  · obtain ⟨h1, _⟩ | ⟨_, rfl⟩ := he
    · exact absurd h1 h0
    exact ⟨rfl, err, Abt.no h0, .inr ⟨h0, by simp [gSe, G1.out, hg]⟩, S1.out.trans hs⟩
  obtain ⟨_, rfl⟩ | ⟨h0, _⟩ := he
  rotate_left
  · exact absurd rfl h0
  rw [splice_one _ _ _ (by have h1 := HF.out; have h2 := HV1.out; omega), show splice (splice vs off ([.int .i64 v0] : List Value)) (off + 1) [.int .i64 v1] = splice vs off ([.int .i64 v0] ++ [.int .i64 v1]) from by have h3 := splice_next vs ([.int .i64 v0] : List Value) [.int .i64 v1] off (by have h1 := HF.out; have h2 := HC1.out; omega); rw [HC1.out] at h3; exact h3] at hD2
  have G2 := Lib.hid hg
  have S2 := Lib.hid (S1.out.trans hs)
  clear hg hs hD1 hN hy1
  go_wp2_with fail
  have HC2 : Hid (([.int .i64 v0] ++ [.int .i64 v1] : List Value).length = 2) := Lib.hid (by simp)
  have HV2 : Hid ((splice vs off ([.int .i64 v0] ++ [.int .i64 v1] : List Value)).length = vs.length) := Lib.hid (length_splice _ _ _ (by have h1 := HF.out; have h2 := HC2.out; omega))
  obtain ⟨y2, hy2⟩ : ∃ y, (splice vs off ([.int .i64 v0] ++ [.int .i64 v1] : List Value))[(off + 2)]? = some y := ⟨_, List.getElem?_eq_getElem (by have h1 := HF.out; have h2 := HV2.out; omega)⟩
  refine (number_dec_Errno A a0 n0 c0 l0 b r X B t w2 q2 (splice vs off ([.int .i64 v0] ++ [.int .i64 v1] : List Value)) hD2 (off + 2) y2 hy2).mono ?_
  rintro e w3 ⟨err, he, hN, hs⟩
  rcases hN.dec with ⟨rfl, v2, q3, hg, hD3⟩ | ⟨h0, hg⟩
  rotate_left
  · obtain ⟨h1, _⟩ | ⟨_, rfl⟩ := he
    · exact absurd h1 h0
    exact ⟨rfl, err, Abt.no h0, .inr ⟨h0, by simp [gSe, G1.out, G2.out, hg]⟩, S2.out.trans hs⟩
  obtain ⟨_, rfl⟩ | ⟨h0, _⟩ := he
  rotate_left
  · exact absurd rfl h0
  rw [splice_one _ _ _ (by have h1 := HF.out; have h2 := HV2.out; omega), show splice (splice vs off ([.int .i64 v0] ++ [.int .i64 v1] : List Value)) (off + 2) [.int .i64 v2] = splice vs off ([.int .i64 v0] ++ [.int .i64 v1] ++ [.int .i64 v2]) from by have h3 := splice_next vs ([.int .i64 v0] ++ [.int .i64 v1] : List Value) [.int .i64 v2] off (by have h1 := HF.out; have h2 := HC2.out; omega); rw [HC2.out] at h3; exact h3] at hD3
  have G3 := Lib.hid hg
  have S3 := Lib.hid (S2.out.trans hs)
  clear hg hs hD2 hN hy2
  go_wp2_with fail
  have HC3 : Hid (([.int .i64 v0] ++ [.int .i64 v1] ++ [.int .i64 v2] : List Value).length = 3) := Lib.hid (by simp)
  have HV3 : Hid ((splice vs off ([.int .i64 v0] ++ [.int .i64 v1] ++ [.int .i64 v2] : List Value)).length = vs.length) := Lib.hid (length_splice _ _ _ (by have h1 := HF.out; have h2 := HC3.out; omega))
  obtain ⟨y3, hy3⟩ : ∃ y, (splice vs off ([.int .i64 v0] ++ [.int .i64 v1] ++ [.int .i64 v2] : List Value))[(off + 3)]? = some y := ⟨_, List.getElem?_eq_getElem (by have h1 := HF.out; have h2 := HV3.out; omega)⟩
  refine (number_dec_int A a0 n0 c0 l0 b r X B t w3 q3 (splice vs off ([.int .i64 v0] ++ [.int .i64 v1] ++ [.int .i64 v2] : List Value)) hD3 (off + 3) y3 hy3).mono ?_
  rintro e w4 ⟨err, he, hN, hs⟩
  rcases hN.dec with ⟨rfl, v3, q4, hg, hD4⟩ | ⟨h0, hg⟩
  rotate_left
  · obtain ⟨h1, _⟩ | ⟨_, rfl⟩ := he
    · exact absurd h1 h0
    exact ⟨rfl, err, Abt.no h0, .inr ⟨h0, by simp [gSe, G1.out, G2.out, G3.out, hg]⟩, S3.out.trans hs⟩
  obtain ⟨_, rfl⟩ | ⟨h0, _⟩ := he
  rotate_left
  · exact absurd rfl h0
  rw [splice_one _ _ _ (by have h1 := HF.out; have h2 := HV3.out; omega), show splice (splice vs off ([.int .i64 v0] ++ [.int .i64 v1] ++ [.int .i64 v2] : List Value)) (off + 3) [.int .i64 v3] = splice vs off ([.int .i64 v0] ++ [.int .i64 v1] ++ [.int .i64 v2] ++ [.int .i64 v3]) from by have h3 := splice_next vs ([.int .i64 v0] ++ [.int .i64 v1] ++ [.int .i64 v2] : List Value) [.int .i64 v3] off (by have h1 := HF.out; have h2 := HC3.out; omega); rw [HC3.out] at h3; exact h3] at hD4
  have G4 := Lib.hid hg
  have S4 := Lib.hid (S3.out.trans hs)
  clear hg hs hD3 hN hy3
  go_wp2
  go_end0
  exact ⟨0, Abt.ok, .inl ⟨rfl, ⟨v0, v1, v2, v3⟩, q4, by simp [gSe, G1.out, G2.out, G3.out, G4.out], trivial, hD4⟩, S4.out⟩

end Go.Proofs.YtoclahcibilbhaaGreat
