/-
  Package wire's fields, encoded and decoded: directory.
-/
import Derived.Test.YtoclahcibilbhaaGreatWirY2
namespace Go.Proofs.YtoclahcibilbhaaGreat
open Go.RowKit
set_option maxRecDepth 100000

set_option maxHeartbeats 2000000 in
theorem directory_enc (w0 : World) (b B : Nat) (q0 : List UInt8) (hC0 : CdX w0 b B q0) (X off : Nat) (hlt : X < B) (hne : X ≠ b) (x : Di) (hx : x.ok) (hp : w0.rangeAt X off (dic x)) (hr : Di.rdx w0 b B x) (ho : q0.length ≤ 69268443852740) :
    Calls Tryz.prog 47 #[.pointer (some ⟨b, 0, none⟩), .pointer (some ⟨X, off, none⟩)] w0 fun e w' => ∃ err, Abt err e ∧ LayO (loDi x (0, q0)) err (fun l => CdX w' b B l) ∧ Stp (· = b) B w0 w' := by
  have hp3 : w0.rangeAt X off ([.int .i64 x.ep] ++ [.slice x.usa x.us.length x.usc] ++ [.slice x.hsa x.hs.length x.hsc] ++ [.slice x.ssa x.ss.length x.ssc]) := hp
  obtain ⟨hp2, F3⟩ := range_app (o := 3) hp3 (by simp)
  obtain ⟨hp1, F2⟩ := range_app (o := 2) hp2 (by simp)
  obtain ⟨hp0, F1⟩ := range_app (o := 1) hp1 (by simp)
  have P0 := Lib.hid hp0
  have P1 := Lib.hid F1
  have P2 := Lib.hid F2
  have P3 := Lib.hid F3
  have HX := Lib.hid hx
  have HR := Lib.hid hr
  have L0 : Hid (q0.length ≤ 69268443852740) := Lib.hid ho
  have HLT := Lib.hid hlt
  have HNE := Lib.hid hne
  have S0 : Hid (Stp (· = b) B w0 w0) := Lib.hid (Stp.refl _ _ _)
  clear hp hx ho hlt hne hp0 hp1 hp2 hp3 F1 F2 F3 hr
  go_enter Tryz.func47, Tryz.ntmps47
  go_wp2_with fail
  refine (number_enc_int w0 b B q0 hC0 ⟨X, off, none⟩ x.ep (by have := range_cell (S0.out.range P0.out HLT.out HNE.out) 0 (v := .int .i64 x.ep) rfl; simpa using this) (by have := L0.out; omega)).mono ?_
  rintro e w1 ⟨err, he, hN, hs⟩
  have hL := hN.lay
  rcases he with ⟨rfl, rfl⟩ | ⟨h0, rfl⟩
  rotate_left
  · refine ⟨rfl, err, Abt.no h0, ?_, S0.out.trans hs⟩
    rw [loDi]
    exact LayO.stuck (f := fun o => loL loSe x.ss (loL loH x.hs (loL loU x.us (o)))) (fun o h => by simp only [loL_stuck h]) hL h0
  obtain ⟨q1, e1, hC1⟩ := hL.ok
  have L1 : Hid (q1.length ≤ 69268443852745) := Lib.hid (by have h1 := L0.out; have h2 := loN_len3 x.ep (0, q0); rw [e1] at h2; simp only at h2; omega)
  have E1 := Lib.hid e1
  have S1 := Lib.hid (S0.out.trans hs)
  clear hN hL e1 hs hC0
  go_wp2_with fail
  refine (list_enc_user w1 b B q1 hC1 X (off + 1) HLT.out HNE.out x.usa x.us.length x.usc (by have := range_cell (S1.out.range P1.out HLT.out HNE.out) 0 (v := .slice x.usa x.us.length x.usc) rfl; simpa using this) x.us (RdX.stp (HR.out.1) S1.out) (fun y hy => Ux.rdx_stp (HR.out.2.1 y hy) S1.out) (by have := L1.out; omega)).mono ?_
  rintro e w2 ⟨err, he, hL, hs⟩
  rcases he with ⟨rfl, rfl⟩ | ⟨h0, rfl⟩
  rotate_left
  · refine ⟨rfl, err, Abt.no h0, ?_, S1.out.trans hs⟩
    rw [loDi, E1.out]
    exact LayO.stuck (f := fun o => loL loSe x.ss (loL loH x.hs (o))) (fun o h => by simp only [loL_stuck h]) hL h0
  obtain ⟨q2, e2, hC2⟩ := hL.ok
  have L2 : Hid (q2.length ≤ 70368475615182) := Lib.hid (by have h1 := L1.out; have h2 := loL_len2 (lo1 := loU) (l := x.us) (o := (0, q1)) (M := 268562442) (fun y _ o => loU_len3 trivial o); rw [e2] at h2; simp only at h2; omega)
  have E2 := Lib.hid e2
  have S2 := Lib.hid (S1.out.trans hs)
  clear hL e2 hs hC1
  go_wp2_with fail
  refine (list_enc_head w2 b B q2 hC2 X (off + 2) HLT.out HNE.out x.hsa x.hs.length x.hsc (by have := range_cell (S2.out.range P2.out HLT.out HNE.out) 0 (v := .slice x.hsa x.hs.length x.hsc) rfl; simpa using this) x.hs (RdX.stp (HR.out.2.2.1) S2.out) (by have := L2.out; omega)).mono ?_
  rintro e w3 ⟨err, he, hL, hs⟩
  rcases he with ⟨rfl, rfl⟩ | ⟨h0, rfl⟩
  rotate_left
  · refine ⟨rfl, err, Abt.no h0, ?_, S2.out.trans hs⟩
    rw [loDi, E1.out, E2.out]
    exact LayO.stuck (f := fun o => loL loSe x.ss (o)) (fun o h => by simp only [loL_stuck h]) hL h0
  obtain ⟨q3, e3, hC3⟩ := hL.ok
  have L3 : Hid (q3.length ≤ 70368475897811) := Lib.hid (by have h1 := L2.out; have h2 := loL_len2 (lo1 := loH) (l := x.hs) (o := (0, q2)) (M := 69) (fun y hy o => loH_len3 (HX.out y hy) o); rw [e3] at h2; simp only at h2; omega)
  have E3 := Lib.hid e3
  have S3 := Lib.hid (S2.out.trans hs)
  clear hL e3 hs hC2
  go_wp2_with fail
  refine (list_enc_session w3 b B q3 hC3 X (off + 3) HLT.out HNE.out x.ssa x.ss.length x.ssc (by have := range_cell (S3.out.range P3.out HLT.out HNE.out) 0 (v := .slice x.ssa x.ss.length x.ssc) rfl; simpa using this) x.ss (RdX.stp (HR.out.2.2.2) S3.out) (by have := L3.out; omega)).mono ?_
  rintro e w4 ⟨err, he, hL, hs⟩
  rcases he with ⟨rfl, rfl⟩ | ⟨h0, rfl⟩
  rotate_left
  · refine ⟨rfl, err, Abt.no h0, ?_, S3.out.trans hs⟩
    rw [loDi, E1.out, E2.out, E3.out]
    exact ⟨hL.1, fun e => absurd e h0⟩
  go_wp2
  go_end0
  exact ⟨0, Abt.ok, by rw [loDi, E1.out, E2.out, E3.out]; exact hL, S3.out.trans hs⟩

set_option maxHeartbeats 2000000 in
theorem directory_dec (A : Nat) (a0 : Option Addr) (n0 c0 : Nat) (l0 : List UInt8) (b r X B : Nat) (t : TypeId) (w0 : World) (q0 : List UInt8) (vs : List Value) (hD0 : Dc A a0 n0 c0 l0 b r X B t w0 q0 vs) (off : Nat) (hfit : off + 4 ≤ vs.length) (hz0 : vs[off + 1]? = some (.slice none 0 0)) (hz1 : vs[off + 2]? = some (.slice none 0 0)) (hz2 : vs[off + 3]? = some (.slice none 0 0)) (k_User : t ≠ 97) (k_Version : t ≠ 103) (k_Head : t ≠ 47) (k_Session : t ≠ 100) :
    Calls Tryz.prog 47 #[.pointer (some ⟨b, 0, none⟩), .pointer (some ⟨X, off, none⟩)] w0 fun e w' => ∃ err, Abt err e ∧ (DecI (gDi q0) err fun x l' => ∃ y : Di, y.cl = x ∧ y.ok ∧ Dc A a0 n0 c0 l0 b r X B t w' l' (splice vs off (dic y)) ∧ Di.own w' B y) ∧ Stp (fun k => k = r ∨ k = X) B w0 w' := by
  have HF := Lib.hid hfit
  have S0 : Hid (Stp (fun k => k = r ∨ k = X) B w0 w0) := Lib.hid (Stp.refl _ _ _)
  have HLS := Lib.hid hD0.lt
  have HZ0 := Lib.hid hz0
  have HZ1 := Lib.hid hz1
  have HZ2 := Lib.hid hz2
  clear hfit hz0 hz1 hz2
  go_enter Tryz.func47, Tryz.ntmps47
  go_wp2_with fail
  obtain ⟨y0, hy0⟩ : ∃ y, vs[off]? = some y := ⟨_, List.getElem?_eq_getElem (by have h1 := HF.out; omega)⟩
  refine (number_dec_int A a0 n0 c0 l0 b r X w0.heap.size t w0 q0 vs hD0.lift off y0 hy0).mono ?_
  rintro e w1 ⟨err, he, hN, hs⟩
  rcases hN.dec with ⟨rfl, v0, q1, hg, hD1⟩ | ⟨h0, hg⟩
  rotate_left
  · obtain ⟨h1, _⟩ | ⟨_, rfl⟩ := he
    · exact absurd h1 h0
    exact ⟨rfl, err, Abt.no h0, .inr ⟨h0, by simp [gDi, hg]⟩, S0.out.trans (hs.lower hD0.le)⟩
  obtain ⟨_, rfl⟩ | ⟨h0, _⟩ := he
  rotate_left
  · exact absurd rfl h0
  rw [splice_one _ _ _ (by have := HF.out; omega)] at hD1
  have hD1' := hD1
  clear hD1
  have hD1 := hD1'.back' (Nat.le_trans hD0.le hs.size) HLS.out
  have G1 := Lib.hid hg
  have S1 := Lib.hid (S0.out.trans (hs.lower hD0.le))
  clear hg hs hD0 hN hy0 hD1'
  go_wp2_with fail
  have HC1 : Hid (([.int .i64 v0] : List Value).length = 1) := Lib.hid (by simp)
  have HV1 : Hid ((splice vs off ([.int .i64 v0] : List Value)).length = vs.length) := Lib.hid (length_splice _ _ _ (by have h1 := HF.out; have h2 := HC1.out; omega))
  refine (list_dec_user A a0 n0 c0 l0 b r X w1.heap.size t w1 q1 (splice vs off ([.int .i64 v0] : List Value)) hD1.lift (off + 1) (by have h1 := HF.out; have h2 := HC1.out; have h3 := HZ0.out; rw [splice_after _ _ _ _ (by omega) (by omega)]; exact h3) k_User k_Version).mono ?_
  rintro e w2 ⟨err, he, hN, hs⟩
  rcases hN with ⟨rfl, _, q2, hg, v1, rfl, hk1, OW, sa1, sc1, hD2, O1⟩ | ⟨h0, hg⟩
  rotate_left
  · obtain ⟨h1, _⟩ | ⟨_, rfl⟩ := he
    · exact absurd h1 h0
    exact ⟨rfl, err, Abt.no h0, .inr ⟨h0, by simp [gDi, G1.out, hg]⟩, S1.out.trans (hs.lower hD1.le)⟩
  obtain ⟨_, rfl⟩ | ⟨h0, _⟩ := he
  rotate_left
  · exact absurd rfl h0
  rw [splice_one _ _ _ (by have h1 := HF.out; have h2 := HV1.out; omega), show splice (splice vs off ([.int .i64 v0] : List Value)) (off + 1) [.slice sa1 v1.length sc1] = splice vs off ([.int .i64 v0] ++ [.slice sa1 v1.length sc1]) from by have h3 := splice_next vs ([.int .i64 v0] : List Value) [.slice sa1 v1.length sc1] off (by have h1 := HF.out; have h2 := HC1.out; omega); rw [HC1.out] at h3; exact h3] at hD2
  have hD2' := hD2
  clear hD2
  have hD2 := hD2'.back' (Nat.le_trans hD1.le hs.size) HLS.out
  have O1 : Hid (OwnG usR w2 B (.slice sa1 v1.length sc1) v1 ∧ ∀ y ∈ v1, Ux.own w2 B y) := Lib.hid ⟨O1.lower hD1.le, fun y hy => Ux.own_lower (OW y hy) hD1.le⟩
  have G2 := Lib.hid hg
  have S2 := Lib.hid (S1.out.trans (hs.lower hD1.le))
  clear hg hs hD1 hD2'
  go_wp2_with fail
  have HC2 : Hid (([.int .i64 v0] ++ [.slice sa1 v1.length sc1] : List Value).length = 2) := Lib.hid (by simp)
  have HV2 : Hid ((splice vs off ([.int .i64 v0] ++ [.slice sa1 v1.length sc1] : List Value)).length = vs.length) := Lib.hid (length_splice _ _ _ (by have h1 := HF.out; have h2 := HC2.out; omega))
  refine (list_dec_head A a0 n0 c0 l0 b r X w2.heap.size t w2 q2 (splice vs off ([.int .i64 v0] ++ [.slice sa1 v1.length sc1] : List Value)) hD2.lift (off + 2) (by have h1 := HF.out; have h2 := HC2.out; have h3 := HZ1.out; rw [splice_after _ _ _ _ (by omega) (by omega)]; exact h3) k_Head).mono ?_
  rintro e w3 ⟨err, he, hN, hs⟩
  rcases hN with ⟨rfl, v2, q3, hg, sa2, sc2, hD3, O2⟩ | ⟨h0, hg⟩
  rotate_left
  · obtain ⟨h1, _⟩ | ⟨_, rfl⟩ := he
    · exact absurd h1 h0
    exact ⟨rfl, err, Abt.no h0, .inr ⟨h0, by simp [gDi, G1.out, G2.out, hg]⟩, S2.out.trans (hs.lower hD2.le)⟩
  obtain ⟨_, rfl⟩ | ⟨h0, _⟩ := he
  rotate_left
  · exact absurd rfl h0
  rw [splice_one _ _ _ (by have h1 := HF.out; have h2 := HV2.out; omega), show splice (splice vs off ([.int .i64 v0] ++ [.slice sa1 v1.length sc1] : List Value)) (off + 2) [.slice sa2 v2.length sc2] = splice vs off ([.int .i64 v0] ++ [.slice sa1 v1.length sc1] ++ [.slice sa2 v2.length sc2]) from by have h3 := splice_next vs ([.int .i64 v0] ++ [.slice sa1 v1.length sc1] : List Value) [.slice sa2 v2.length sc2] off (by have h1 := HF.out; have h2 := HC2.out; omega); rw [HC2.out] at h3; exact h3] at hD3
  have O1 := Lib.hid (show OwnG usR _ B (.slice sa1 v1.length sc1) v1 ∧ ∀ y ∈ v1, Ux.own _ B y from ⟨O1.out.1.kpT (hD2.kpT hs k_User (by decide)), fun y hy => Ux.own_keep (O1.out.2 y hy) (hD2.kpT hs k_Version (by decide))⟩)
  have hD3' := hD3
  clear hD3
  have hD3 := hD3'.back' (Nat.le_trans hD2.le hs.size) HLS.out
  have O2 := Lib.hid (O2.lower hD2.le)
  have G3 := Lib.hid hg
  have S3 := Lib.hid (S2.out.trans (hs.lower hD2.le))
  clear hg hs hD2 hD3'
  go_wp2_with fail
  have HC3 : Hid (([.int .i64 v0] ++ [.slice sa1 v1.length sc1] ++ [.slice sa2 v2.length sc2] : List Value).length = 3) := Lib.hid (by simp)
  have HV3 : Hid ((splice vs off ([.int .i64 v0] ++ [.slice sa1 v1.length sc1] ++ [.slice sa2 v2.length sc2] : List Value)).length = vs.length) := Lib.hid (length_splice _ _ _ (by have h1 := HF.out; have h2 := HC3.out; omega))
  refine (list_dec_session A a0 n0 c0 l0 b r X w3.heap.size t w3 q3 (splice vs off ([.int .i64 v0] ++ [.slice sa1 v1.length sc1] ++ [.slice sa2 v2.length sc2] : List Value)) hD3.lift (off + 3) (by have h1 := HF.out; have h2 := HC3.out; have h3 := HZ2.out; rw [splice_after _ _ _ _ (by omega) (by omega)]; exact h3) k_Session).mono ?_
  rintro e w4 ⟨err, he, hN, hs⟩
  rcases hN with ⟨rfl, v3, q4, hg, sa3, sc3, hD4, O3⟩ | ⟨h0, hg⟩
  rotate_left
  · obtain ⟨h1, _⟩ | ⟨_, rfl⟩ := he
    · exact absurd h1 h0
    exact ⟨rfl, err, Abt.no h0, .inr ⟨h0, by simp [gDi, G1.out, G2.out, G3.out, hg]⟩, S3.out.trans (hs.lower hD3.le)⟩
  obtain ⟨_, rfl⟩ | ⟨h0, _⟩ := he
  rotate_left
  · exact absurd rfl h0
  rw [splice_one _ _ _ (by have h1 := HF.out; have h2 := HV3.out; omega), show splice (splice vs off ([.int .i64 v0] ++ [.slice sa1 v1.length sc1] ++ [.slice sa2 v2.length sc2] : List Value)) (off + 3) [.slice sa3 v3.length sc3] = splice vs off ([.int .i64 v0] ++ [.slice sa1 v1.length sc1] ++ [.slice sa2 v2.length sc2] ++ [.slice sa3 v3.length sc3]) from by have h3 := splice_next vs ([.int .i64 v0] ++ [.slice sa1 v1.length sc1] ++ [.slice sa2 v2.length sc2] : List Value) [.slice sa3 v3.length sc3] off (by have h1 := HF.out; have h2 := HC3.out; omega); rw [HC3.out] at h3; exact h3] at hD4
  have O1 := Lib.hid (show OwnG usR _ B (.slice sa1 v1.length sc1) v1 ∧ ∀ y ∈ v1, Ux.own _ B y from ⟨O1.out.1.kpT (hD3.kpT hs k_User (by decide)), fun y hy => Ux.own_keep (O1.out.2 y hy) (hD3.kpT hs k_Version (by decide))⟩)
  have O2 := Lib.hid (O2.out.kpT (hD3.kpT hs k_Head (by decide)))
  have hD4' := hD4
  clear hD4
  have hD4 := hD4'.back' (Nat.le_trans hD3.le hs.size) HLS.out
  have O3 := Lib.hid (O3.lower hD3.le)
  have G4 := Lib.hid hg
  have S4 := Lib.hid (S3.out.trans (hs.lower hD3.le))
  clear hg hs hD3 hD4'
  go_wp2
  go_end0
  exact ⟨0, Abt.ok, .inl ⟨rfl, _, q4, by simp only [gDi, G1.out, G2.out, G3.out, G4.out, Option.bind_some]; rfl, ⟨v0, v1, sa1, sc1, v2, sa2, sc2, v3, sa3, sc3⟩, rfl, O2.out.1, hD4, ⟨O1.out.1, O1.out.2, O2.out, O3.out⟩⟩, S4.out⟩

end Go.Proofs.YtoclahcibilbhaaGreat
