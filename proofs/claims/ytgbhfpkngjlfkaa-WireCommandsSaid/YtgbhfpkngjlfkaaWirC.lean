/-
  Package wire's commands, encoded and decoded.
-/
import Derived.Test.YtgbhfpkngjlfkaaWirF
namespace Go.Proofs.Ytgbhfpkngjlfkaa
open Go.RowKit
set_option maxRecDepth 100000

def loT (s : ByteArray) (o : Lo) : Lo := if o.1 ≠ 0 then o else if s.size ≤ 65536 then (0, o.2 ++ (encC s.size ++ s.data.toList)) else (2, o.2)
theorem NumO.lay {m : Int} {out : List UInt8} {err : Int} {C : List UInt8 → Prop} (h : NumO m out err C) : LayO (loN m (0, out)) err C := by
  rcases h with ⟨rfl, h0, h1, hC⟩ | ⟨rfl, h⟩
  · rw [loN_ok out h0 h1]; exact ⟨rfl, fun _ => hC⟩
  · rw [loN_no out h]; exact ⟨rfl, fun h => absurd h (by decide)⟩
theorem TxtO.lay {s : ByteArray} {out : List UInt8} {err : Int} {C : List UInt8 → Prop} (h : TxtO s out err C) : LayO (loT s (0, out)) err C := by
  unfold loT
  rcases h with ⟨rfl, h0, hC⟩ | ⟨rfl, h⟩
  · rw [if_neg (by simp), if_pos h0]; exact ⟨rfl, fun _ => hC⟩
  · rw [if_neg (by simp), if_neg (by omega)]; exact ⟨rfl, fun h => absurd h (by decide)⟩
theorem LayO.ok {o : Lo} {C : List UInt8 → Prop} (h : LayO o 0 C) : ∃ q, o = (0, q) ∧ C q := ⟨o.2, Prod.ext h.1.symm rfl, h.2 rfl⟩
theorem LayO.stuck {f : Lo → Lo} (hf : ∀ o, o.1 ≠ 0 → f o = o) {o : Lo} {err : Int} {C C' : List UInt8 → Prop} (h : LayO o err C') (h0 : err ≠ 0) : LayO (f o) err C := by
  rw [hf o (by rw [← h.1]; exact h0)]; exact ⟨h.1, fun e => absurd e h0⟩
theorem loN_lenE {m : Int} {o q : List UInt8} (h : loN m (0, o) = (0, q)) : q.length ≤ o.length + 5 := by
  unfold loN at h
  split at h
  · rename_i h1; exact absurd rfl h1
  · split at h
    · rename_i h1; have := encC_len m.toNat (by omega); rw [← (Prod.mk.inj h).2]; simp; omega
    · exact absurd (Prod.mk.inj h).1 (by decide)
theorem loT_lenE {s : ByteArray} {o q : List UInt8} (h : loT s (0, o) = (0, q)) : q.length ≤ o.length + 65541 := by
  unfold loT at h
  split at h
  · rename_i h1; exact absurd rfl h1
  · split at h
    · rename_i h1; have := encC_len s.size (by omega); have hs : s.data.toList.length = s.size := rfl; rw [← (Prod.mk.inj h).2]; simp only [List.length_append, hs]; omega
    · exact absurd (Prod.mk.inj h).1 (by decide)

/-- a command -/
structure Cm where
  kd : Int
  cl : Int
  sq : Int
  us : ByteArray
  ky : ByteArray
  ep : Int
  root : List UInt8
def Cm.ok (x : Cm) : Prop := x.root.length = 32
def cmc (x : Cm) : List Value := .int .i64 x.kd :: .int .i64 x.cl :: .int .i64 x.sq :: .string x.us :: .string x.ky :: .int .i64 x.ep :: bs x.root
def loC (x : Cm) (o : Lo) : Lo := loD x.root (loN x.ep (loT x.ky (loT x.us (loN x.sq (loN x.cl (loN x.kd o))))))
theorem cmc_length {x : Cm} (h : x.ok) : (cmc x).length = 38 := by simp [cmc, bs_length, show x.root.length = 32 from h]
theorem Part.cm0 {vs : List Value} {off : Nat} {x : Cm} (h : Part vs off (cmc x)) : vs[off + 0]? = some (.int .i64 x.kd) := by
  have := h 0 (by simp [cmc]); simpa [cmc] using this
theorem Part.cm1 {vs : List Value} {off : Nat} {x : Cm} (h : Part vs off (cmc x)) : vs[off + 1]? = some (.int .i64 x.cl) := by
  have := h 1 (by simp [cmc]); simpa [cmc] using this
theorem Part.cm2 {vs : List Value} {off : Nat} {x : Cm} (h : Part vs off (cmc x)) : vs[off + 2]? = some (.int .i64 x.sq) := by
  have := h 2 (by simp [cmc]); simpa [cmc] using this
theorem Part.cm3 {vs : List Value} {off : Nat} {x : Cm} (h : Part vs off (cmc x)) : vs[off + 3]? = some (.string x.us) := by
  have := h 3 (by simp [cmc]); simpa [cmc] using this
theorem Part.cm4 {vs : List Value} {off : Nat} {x : Cm} (h : Part vs off (cmc x)) : vs[off + 4]? = some (.string x.ky) := by
  have := h 4 (by simp [cmc]); simpa [cmc] using this
theorem Part.cm5 {vs : List Value} {off : Nat} {x : Cm} (h : Part vs off (cmc x)) : vs[off + 5]? = some (.int .i64 x.ep) := by
  have := h 5 (by simp [cmc]); simpa [cmc] using this
theorem Part.cm6 {vs : List Value} {off : Nat} {x : Cm} (h : Part vs off (cmc x)) (ho : x.ok) : Part vs (off + 6) (bs x.root) := by
  intro j hj
  have hj' : j < 32 := by rw [bs_length, show x.root.length = 32 from ho] at hj; exact hj
  have := h (6 + j) (by rw [cmc_length ho]; omega)
  rw [show off + 6 + j = off + (6 + j) by omega, this]
  simp only [cmc, show 6 + j = j + 1 + 1 + 1 + 1 + 1 + 1 by omega, List.getElem?_cons_succ]

set_option maxHeartbeats 1000000 in
theorem command_enc (w0 : World) (b B : Nat) (q0 : List UInt8) (hC0 : CdX w0 b B q0) (X off : Nat) (t : TypeId) (vs : List Value) (hX0 : Blk w0 X t vs) (hlt : X < B) (hne : X ≠ b) (x : Cm) (hx : x.ok) (hp : Part vs off (cmc x)) (ho : q0.length ≤ 100000000000) :
    Calls Try.prog 37 #[.pointer (some ⟨b, 0, none⟩), .pointer (some ⟨X, off, none⟩)] w0 fun e w' => ∃ err, Abt err e ∧ LayO (loC x (0, q0)) err (fun l => CdX w' b B l) ∧ Stp (· = b) B w0 w' := by
  have P0 := Lib.hid hp.cm0
  have P1 := Lib.hid hp.cm1
  have P2 := Lib.hid hp.cm2
  have P3 := Lib.hid hp.cm3
  have P4 := Lib.hid hp.cm4
  have P5 := Lib.hid hp.cm5
  have P6 := Lib.hid (hp.cm6 hx)
  have HX := Lib.hid (show x.root.length = 32 from hx)
  have L0 : Hid (q0.length ≤ 100000000000) := Lib.hid ho
  have HLT := Lib.hid hlt
  have HNE := Lib.hid hne
  have S0 : Hid (Stp (· = b) B w0 w0) := Lib.hid (Stp.refl _ _ _)
  clear hp hx ho hlt hne
  go_enter Try.func37, Try.ntmps37
  go_wp2_with fail
  refine (number_enc_CmdKind w0 b B q0 hC0 ⟨X, off, none⟩ x.kd (by have := hX0.cell P0.out; simpa using this) (by have := L0.out; omega)).mono ?_
  rintro e w1 ⟨err, he, hN, hs⟩
  have hL := hN.lay
  rcases he with ⟨rfl, rfl⟩ | ⟨h0, rfl⟩
  rotate_left
  · refine ⟨rfl, err, Abt.no h0, ?_, S0.out.trans hs⟩
    rw [loC]
    exact LayO.stuck (f := fun o => loD x.root (loN x.ep (loT x.ky (loT x.us (loN x.sq (loN x.cl (o))))))) (fun o h => by simp only [loN, loT, loD, h, ne_eq, not_false_eq_true, if_true]) hL h0
  obtain ⟨q1, e1, hC1⟩ := hL.ok
  have L1 : Hid (q1.length ≤ 100000000000 + 5) := Lib.hid (by have := L0.out; have := loN_lenE e1; omega)
  have E1 := Lib.hid e1
  have hX1 := hX0.stp hs HLT.out HNE.out
  have S1 := Lib.hid (S0.out.trans hs)
  clear hN hL e1 hs hX0 hC0
  go_wp2_with fail
  refine (number_enc_int w1 b B q1 hC1 ⟨X, off + 1, none⟩ x.cl (by have := hX1.cell P1.out; simpa using this) (by have := L1.out; omega)).mono ?_
  rintro e w2 ⟨err, he, hN, hs⟩
  have hL := hN.lay
  rcases he with ⟨rfl, rfl⟩ | ⟨h0, rfl⟩
  rotate_left
  · refine ⟨rfl, err, Abt.no h0, ?_, S1.out.trans hs⟩
    rw [loC, E1.out]
    exact LayO.stuck (f := fun o => loD x.root (loN x.ep (loT x.ky (loT x.us (loN x.sq (o)))))) (fun o h => by simp only [loN, loT, loD, h, ne_eq, not_false_eq_true, if_true]) hL h0
  obtain ⟨q2, e2, hC2⟩ := hL.ok
  have L2 : Hid (q2.length ≤ 100000000000 + 10) := Lib.hid (by have := L1.out; have := loN_lenE e2; omega)
  have E2 := Lib.hid e2
  have hX2 := hX1.stp hs HLT.out HNE.out
  have S2 := Lib.hid (S1.out.trans hs)
  clear hN hL e2 hs hX1 hC1
  go_wp2_with fail
  refine (number_enc_int w2 b B q2 hC2 ⟨X, off + 2, none⟩ x.sq (by have := hX2.cell P2.out; simpa using this) (by have := L2.out; omega)).mono ?_
  rintro e w3 ⟨err, he, hN, hs⟩
  have hL := hN.lay
  rcases he with ⟨rfl, rfl⟩ | ⟨h0, rfl⟩
  rotate_left
  · refine ⟨rfl, err, Abt.no h0, ?_, S2.out.trans hs⟩
    rw [loC, E1.out, E2.out]
    exact LayO.stuck (f := fun o => loD x.root (loN x.ep (loT x.ky (loT x.us (o))))) (fun o h => by simp only [loN, loT, loD, h, ne_eq, not_false_eq_true, if_true]) hL h0
  obtain ⟨q3, e3, hC3⟩ := hL.ok
  have L3 : Hid (q3.length ≤ 100000000000 + 15) := Lib.hid (by have := L2.out; have := loN_lenE e3; omega)
  have E3 := Lib.hid e3
  have hX3 := hX2.stp hs HLT.out HNE.out
  have S3 := Lib.hid (S2.out.trans hs)
  clear hN hL e3 hs hX2 hC2
  go_wp2_with fail
  refine (text_enc w3 b B q3 hC3 ⟨X, off + 3, none⟩ x.us (by have := hX3.cell P3.out; simpa using this) (by have := L3.out; omega)).mono ?_
  rintro e w4 ⟨err, he, hN, hs⟩
  have hL := hN.lay
  rcases he with ⟨rfl, rfl⟩ | ⟨h0, rfl⟩
  rotate_left
  · refine ⟨rfl, err, Abt.no h0, ?_, S3.out.trans hs⟩
    rw [loC, E1.out, E2.out, E3.out]
    exact LayO.stuck (f := fun o => loD x.root (loN x.ep (loT x.ky (o)))) (fun o h => by simp only [loN, loT, loD, h, ne_eq, not_false_eq_true, if_true]) hL h0
  obtain ⟨q4, e4, hC4⟩ := hL.ok
  have L4 : Hid (q4.length ≤ 100000000000 + 65556) := Lib.hid (by have := L3.out; have := loT_lenE e4; omega)
  have E4 := Lib.hid e4
  have hX4 := hX3.stp hs HLT.out HNE.out
  have S4 := Lib.hid (S3.out.trans hs)
  clear hN hL e4 hs hX3 hC3
  go_wp2_with fail
  refine (text_enc w4 b B q4 hC4 ⟨X, off + 4, none⟩ x.ky (by have := hX4.cell P4.out; simpa using this) (by have := L4.out; omega)).mono ?_
  rintro e w5 ⟨err, he, hN, hs⟩
  have hL := hN.lay
  rcases he with ⟨rfl, rfl⟩ | ⟨h0, rfl⟩
  rotate_left
  · refine ⟨rfl, err, Abt.no h0, ?_, S4.out.trans hs⟩
    rw [loC, E1.out, E2.out, E3.out, E4.out]
    exact LayO.stuck (f := fun o => loD x.root (loN x.ep (o))) (fun o h => by simp only [loN, loD, h, ne_eq, not_false_eq_true, if_true]) hL h0
  obtain ⟨q5, e5, hC5⟩ := hL.ok
  have L5 : Hid (q5.length ≤ 100000000000 + 131097) := Lib.hid (by have := L4.out; have := loT_lenE e5; omega)
  have E5 := Lib.hid e5
  have hX5 := hX4.stp hs HLT.out HNE.out
  have S5 := Lib.hid (S4.out.trans hs)
  clear hN hL e5 hs hX4 hC4
  go_wp2_with fail
  refine (number_enc_int w5 b B q5 hC5 ⟨X, off + 5, none⟩ x.ep (by have := hX5.cell P5.out; simpa using this) (by have := L5.out; omega)).mono ?_
  rintro e w6 ⟨err, he, hN, hs⟩
  have hL := hN.lay
  rcases he with ⟨rfl, rfl⟩ | ⟨h0, rfl⟩
  rotate_left
  · refine ⟨rfl, err, Abt.no h0, ?_, S5.out.trans hs⟩
    rw [loC, E1.out, E2.out, E3.out, E4.out, E5.out]
    exact LayO.stuck (f := fun o => loD x.root (o)) (fun o h => by simp only [loD, h, ne_eq, not_false_eq_true, if_true]) hL h0
  obtain ⟨q6, e6, hC6⟩ := hL.ok
  have L6 : Hid (q6.length ≤ 100000000000 + 131102) := Lib.hid (by have := L5.out; have := loN_lenE e6; omega)
  have E6 := Lib.hid e6
  have hX6 := hX5.stp hs HLT.out HNE.out
  have S6 := Lib.hid (S5.out.trans hs)
  clear hN hL e6 hs hX5 hC5
  go_wp2_with fail
  refine (digest_enc w6 b B q6 hC6 X (off + 6) x.root HX.out (hX6.range _ P6.out) (by have := L6.out; omega)).mono ?_
  rintro e w7 ⟨rfl, hC7, hs⟩
  go_wp2
  go_end0
  exact ⟨0, Abt.ok, by rw [loC, E1.out, E2.out, E3.out, E4.out, E5.out, E6.out, loD_ok]; exact ⟨rfl, fun _ => hC7⟩, S6.out.trans hs⟩

def gT (l : List UInt8) : Option (ByteArray × List UInt8) := if (rdB l).2.2 = 0 then some (str (rdB l).1, l.drop (rdB l).2.1) else none
theorem TxtI.dec {l : List UInt8} {err : Int} {C : List UInt8 → Value → Prop} (h : TxtI l err C) : DecI (gT l) err fun s l' => C l' (.string s) := by
  rcases h with ⟨h0, h1, h2⟩ | ⟨h0, h1⟩
  · exact .inl ⟨h0, _, _, by rw [gT, if_pos h1], h2⟩
  · exact .inr ⟨h0, by rw [gT, if_neg h1]⟩
theorem splice_set_next (vs cs : List Value) (off : Nat) (v : Value) (h : off + cs.length < vs.length) : (splice vs off cs).set (off + cs.length) v = splice vs off (cs ++ [v]) := by
  rw [splice_one _ _ _ (by rw [length_splice _ _ _ (by omega)]; exact h), splice_next vs cs [v] off (by omega)]
def gC (l : List UInt8) : Option (Cm × List UInt8) := (gN l).bind fun p0 => (gN p0.2).bind fun p1 => (gN p1.2).bind fun p2 => (gT p2.2).bind fun p3 => (gT p3.2).bind fun p4 => (gN p4.2).bind fun p5 => (gD p5.2).bind fun p6 => some (⟨p0.1, p1.1, p2.1, p3.1, p4.1, p5.1, p6.1⟩, p6.2)

set_option maxHeartbeats 1000000 in
theorem command_dec (A : Nat) (a0 : Option Addr) (n0 c0 : Nat) (l0 : List UInt8) (b r X B : Nat) (t : TypeId) (w0 : World) (q0 : List UInt8) (vs : List Value) (hD0 : Dc A a0 n0 c0 l0 b r X B t w0 q0 vs) (off : Nat) (hfit : off + 38 ≤ vs.length) :
    Calls Try.prog 37 #[.pointer (some ⟨b, 0, none⟩), .pointer (some ⟨X, off, none⟩)] w0 fun e w' => ∃ err, Abt err e ∧ (DecI (gC q0) err fun x l' => x.ok ∧ Dc A a0 n0 c0 l0 b r X B t w' l' (splice vs off (cmc x))) ∧ Stp (fun k => k = r ∨ k = X) B w0 w' := by
  have HF := Lib.hid hfit
  have S0 : Hid (Stp (fun k => k = r ∨ k = X) B w0 w0) := Lib.hid (Stp.refl _ _ _)
  clear hfit
  go_enter Try.func37, Try.ntmps37
  go_wp2_with fail
  obtain ⟨y0, hy0⟩ : ∃ y, vs[off]? = some y := ⟨_, List.getElem?_eq_getElem (by have := HF.out; omega)⟩
  refine (number_dec_CmdKind A a0 n0 c0 l0 b r X B t w0 q0 vs hD0 (off) y0 hy0).mono ?_
  rintro e w1 ⟨err, he, hN, hs⟩
  rcases hN.dec with ⟨rfl, v0, q1, hg, hD1⟩ | ⟨h0, hg⟩
  rotate_left
  · obtain ⟨h1, _⟩ | ⟨_, rfl⟩ := he
    · exact absurd h1 h0
    exact ⟨rfl, err, Abt.no h0, .inr ⟨h0, by simp [gC, hg]⟩, S0.out.trans hs⟩
  obtain ⟨_, rfl⟩ | ⟨h0, _⟩ := he
  rotate_left
  · exact absurd rfl h0
  rw [splice_one _ _ _ (by have := HF.out; omega)] at hD1
  have G1 := Lib.hid hg
  have S1 := Lib.hid (S0.out.trans hs)
  clear hN hg hs hD0 hy0
  go_wp2_with fail
  have HV1 : Hid ((splice vs off [.int .i64 v0]).length = vs.length) := Lib.hid (length_splice _ _ _ (by have := HF.out; simp only [List.length_cons, List.length_nil]; omega))
  obtain ⟨y1, hy1⟩ : ∃ y, (splice vs off [.int .i64 v0])[off + 1]? = some y := ⟨_, List.getElem?_eq_getElem (by have := HF.out; have := HV1.out; omega)⟩
  refine (number_dec_int A a0 n0 c0 l0 b r X B t w1 q1 (splice vs off [.int .i64 v0]) hD1 (off + 1) y1 hy1).mono ?_
  rintro e w2 ⟨err, he, hN, hs⟩
  rcases hN.dec with ⟨rfl, v1, q2, hg, hD2⟩ | ⟨h0, hg⟩
  rotate_left
  · obtain ⟨h1, _⟩ | ⟨_, rfl⟩ := he
    · exact absurd h1 h0
    exact ⟨rfl, err, Abt.no h0, .inr ⟨h0, by simp [gC, G1.out, hg]⟩, S1.out.trans hs⟩
  obtain ⟨_, rfl⟩ | ⟨h0, _⟩ := he
  rotate_left
  · exact absurd rfl h0
  rw [show (splice vs off [.int .i64 v0]).set (off + 1) (.int .i64 v1) = splice vs off [.int .i64 v0, .int .i64 v1] from splice_set_next vs [.int .i64 v0] off _ (by have := HF.out; simp only [List.length_cons, List.length_nil]; omega)] at hD2
  have G2 := Lib.hid hg
  have S2 := Lib.hid (S1.out.trans hs)
  clear hN hg hs hD1 hy1
  go_wp2_with fail
  have HV2 : Hid ((splice vs off [.int .i64 v0, .int .i64 v1]).length = vs.length) := Lib.hid (length_splice _ _ _ (by have := HF.out; simp only [List.length_cons, List.length_nil]; omega))
  obtain ⟨y2, hy2⟩ : ∃ y, (splice vs off [.int .i64 v0, .int .i64 v1])[off + 2]? = some y := ⟨_, List.getElem?_eq_getElem (by have := HF.out; have := HV2.out; omega)⟩
  refine (number_dec_int A a0 n0 c0 l0 b r X B t w2 q2 (splice vs off [.int .i64 v0, .int .i64 v1]) hD2 (off + 2) y2 hy2).mono ?_
  rintro e w3 ⟨err, he, hN, hs⟩
  rcases hN.dec with ⟨rfl, v2, q3, hg, hD3⟩ | ⟨h0, hg⟩
  rotate_left
  · obtain ⟨h1, _⟩ | ⟨_, rfl⟩ := he
    · exact absurd h1 h0
    exact ⟨rfl, err, Abt.no h0, .inr ⟨h0, by simp [gC, G1.out, G2.out, hg]⟩, S2.out.trans hs⟩
  obtain ⟨_, rfl⟩ | ⟨h0, _⟩ := he
  rotate_left
  · exact absurd rfl h0
  rw [show (splice vs off [.int .i64 v0, .int .i64 v1]).set (off + 2) (.int .i64 v2) = splice vs off [.int .i64 v0, .int .i64 v1, .int .i64 v2] from splice_set_next vs [.int .i64 v0, .int .i64 v1] off _ (by have := HF.out; simp only [List.length_cons, List.length_nil]; omega)] at hD3
  have G3 := Lib.hid hg
  have S3 := Lib.hid (S2.out.trans hs)
  clear hN hg hs hD2 hy2
  go_wp2_with fail
  have HV3 : Hid ((splice vs off [.int .i64 v0, .int .i64 v1, .int .i64 v2]).length = vs.length) := Lib.hid (length_splice _ _ _ (by have := HF.out; simp only [List.length_cons, List.length_nil]; omega))
  obtain ⟨y3, hy3⟩ : ∃ y, (splice vs off [.int .i64 v0, .int .i64 v1, .int .i64 v2])[off + 3]? = some y := ⟨_, List.getElem?_eq_getElem (by have := HF.out; have := HV3.out; omega)⟩
  refine (text_dec A a0 n0 c0 l0 b r X B t w3 q3 (splice vs off [.int .i64 v0, .int .i64 v1, .int .i64 v2]) hD3 (off + 3) y3 hy3).mono ?_
  rintro e w4 ⟨err, he, hN, hs⟩
  rcases hN.dec with ⟨rfl, v3, q4, hg, hD4⟩ | ⟨h0, hg⟩
  rotate_left
  · obtain ⟨h1, _⟩ | ⟨_, rfl⟩ := he
    · exact absurd h1 h0
    exact ⟨rfl, err, Abt.no h0, .inr ⟨h0, by simp [gC, G1.out, G2.out, G3.out, hg]⟩, S3.out.trans hs⟩
  obtain ⟨_, rfl⟩ | ⟨h0, _⟩ := he
  rotate_left
  · exact absurd rfl h0
  rw [show (splice vs off [.int .i64 v0, .int .i64 v1, .int .i64 v2]).set (off + 3) (.string v3) = splice vs off [.int .i64 v0, .int .i64 v1, .int .i64 v2, .string v3] from splice_set_next vs [.int .i64 v0, .int .i64 v1, .int .i64 v2] off _ (by have := HF.out; simp only [List.length_cons, List.length_nil]; omega)] at hD4
  have G4 := Lib.hid hg
  have S4 := Lib.hid (S3.out.trans hs)
  clear hN hg hs hD3 hy3
  go_wp2_with fail
  have HV4 : Hid ((splice vs off [.int .i64 v0, .int .i64 v1, .int .i64 v2, .string v3]).length = vs.length) := Lib.hid (length_splice _ _ _ (by have := HF.out; simp only [List.length_cons, List.length_nil]; omega))
  obtain ⟨y4, hy4⟩ : ∃ y, (splice vs off [.int .i64 v0, .int .i64 v1, .int .i64 v2, .string v3])[off + 4]? = some y := ⟨_, List.getElem?_eq_getElem (by have := HF.out; have := HV4.out; omega)⟩
  refine (text_dec A a0 n0 c0 l0 b r X B t w4 q4 (splice vs off [.int .i64 v0, .int .i64 v1, .int .i64 v2, .string v3]) hD4 (off + 4) y4 hy4).mono ?_
  rintro e w5 ⟨err, he, hN, hs⟩
  rcases hN.dec with ⟨rfl, v4, q5, hg, hD5⟩ | ⟨h0, hg⟩
  rotate_left
  · obtain ⟨h1, _⟩ | ⟨_, rfl⟩ := he
    · exact absurd h1 h0
    exact ⟨rfl, err, Abt.no h0, .inr ⟨h0, by simp [gC, G1.out, G2.out, G3.out, G4.out, hg]⟩, S4.out.trans hs⟩
  obtain ⟨_, rfl⟩ | ⟨h0, _⟩ := he
  rotate_left
  · exact absurd rfl h0
  rw [show (splice vs off [.int .i64 v0, .int .i64 v1, .int .i64 v2, .string v3]).set (off + 4) (.string v4) = splice vs off [.int .i64 v0, .int .i64 v1, .int .i64 v2, .string v3, .string v4] from splice_set_next vs [.int .i64 v0, .int .i64 v1, .int .i64 v2, .string v3] off _ (by have := HF.out; simp only [List.length_cons, List.length_nil]; omega)] at hD5
  have G5 := Lib.hid hg
  have S5 := Lib.hid (S4.out.trans hs)
  clear hN hg hs hD4 hy4
  go_wp2_with fail
  have HV5 : Hid ((splice vs off [.int .i64 v0, .int .i64 v1, .int .i64 v2, .string v3, .string v4]).length = vs.length) := Lib.hid (length_splice _ _ _ (by have := HF.out; simp only [List.length_cons, List.length_nil]; omega))
  obtain ⟨y5, hy5⟩ : ∃ y, (splice vs off [.int .i64 v0, .int .i64 v1, .int .i64 v2, .string v3, .string v4])[off + 5]? = some y := ⟨_, List.getElem?_eq_getElem (by have := HF.out; have := HV5.out; omega)⟩
  refine (number_dec_int A a0 n0 c0 l0 b r X B t w5 q5 (splice vs off [.int .i64 v0, .int .i64 v1, .int .i64 v2, .string v3, .string v4]) hD5 (off + 5) y5 hy5).mono ?_
  rintro e w6 ⟨err, he, hN, hs⟩
  rcases hN.dec with ⟨rfl, v5, q6, hg, hD6⟩ | ⟨h0, hg⟩
  rotate_left
  · obtain ⟨h1, _⟩ | ⟨_, rfl⟩ := he
    · exact absurd h1 h0
    exact ⟨rfl, err, Abt.no h0, .inr ⟨h0, by simp [gC, G1.out, G2.out, G3.out, G4.out, G5.out, hg]⟩, S5.out.trans hs⟩
  obtain ⟨_, rfl⟩ | ⟨h0, _⟩ := he
  rotate_left
  · exact absurd rfl h0
  rw [show (splice vs off [.int .i64 v0, .int .i64 v1, .int .i64 v2, .string v3, .string v4]).set (off + 5) (.int .i64 v5) = splice vs off [.int .i64 v0, .int .i64 v1, .int .i64 v2, .string v3, .string v4, .int .i64 v5] from splice_set_next vs [.int .i64 v0, .int .i64 v1, .int .i64 v2, .string v3, .string v4] off _ (by have := HF.out; simp only [List.length_cons, List.length_nil]; omega)] at hD6
  have G6 := Lib.hid hg
  have S6 := Lib.hid (S5.out.trans hs)
  clear hN hg hs hD5 hy5
  go_wp2_with fail
  have HV6 : Hid ((splice vs off [.int .i64 v0, .int .i64 v1, .int .i64 v2, .string v3, .string v4, .int .i64 v5]).length = vs.length) := Lib.hid (length_splice _ _ _ (by have := HF.out; simp only [List.length_cons, List.length_nil]; omega))
  refine (digest_dec A a0 n0 c0 l0 b r X B t w6 q6 (splice vs off [.int .i64 v0, .int .i64 v1, .int .i64 v2, .string v3, .string v4, .int .i64 v5]) hD6 (off + 6) (by have := HF.out; have := HV6.out; omega)).mono ?_
  rintro e w7 ⟨err, he, hN, hs⟩
  rcases hN.dec with ⟨rfl, d, q7, hg, hd, hD7⟩ | ⟨h0, hg⟩
  rotate_left
  · obtain ⟨h1, _⟩ | ⟨_, rfl⟩ := he
    · exact absurd h1 h0
    exact ⟨rfl, err, Abt.no h0, .inr ⟨h0, by simp [gC, G1.out, G2.out, G3.out, G4.out, G5.out, G6.out, hg]⟩, S6.out.trans hs⟩
  obtain ⟨_, rfl⟩ | ⟨h0, _⟩ := he
  rotate_left
  · exact absurd rfl h0
  have e7 : splice (splice vs off [.int .i64 v0, .int .i64 v1, .int .i64 v2, .string v3, .string v4, .int .i64 v5]) (off + 6) (bs d) = splice vs off (cmc ⟨v0, v1, v2, v3, v4, v5, d⟩) := by
    have := splice_next vs [.int .i64 v0, .int .i64 v1, .int .i64 v2, .string v3, .string v4, .int .i64 v5] (bs d) off (by have := HF.out; simp only [List.length_cons, List.length_nil]; omega)
    simpa [cmc] using this
  rw [e7] at hD7
  clear hN hD6 e7
  go_wp2
  go_end0
  exact ⟨0, Abt.ok, .inl ⟨rfl, ⟨v0, v1, v2, v3, v4, v5, d⟩, q7, by simp [gC, G1.out, G2.out, G3.out, G4.out, G5.out, G6.out, hg], hd, hD7⟩, S6.out.trans hs⟩

end Go.Proofs.Ytgbhfpkngjlfkaa
