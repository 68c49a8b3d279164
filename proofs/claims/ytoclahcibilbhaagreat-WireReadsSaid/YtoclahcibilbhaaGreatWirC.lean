/-
  Package wire's commands, encoded and decoded.
-/
import Derived.Test.YtoclahcibilbhaaGreatWirF
namespace Go.Proofs.YtoclahcibilbhaaGreat
open Go.RowKit
set_option maxRecDepth 100000

def loT (s : ByteArray) (o : Lo) : Lo := if o.1 ≠ 0 then o else if s.size ≤ 65536 then (0, o.2 ++ (encC s.size ++ s.data.toList)) else (2, o.2)
theorem NumO.lay {m : Int} {out : List UInt8} {err : Int} {C : List UInt8 → Prop} (h : NumO m out err C) : LayO (loN m (0, out)) err C := by
  rcases h with ⟨rfl, h0, h1, hC⟩ | ⟨rfl, h⟩
  · rw [loN_ok out h0 h1]; exact ⟨rfl, fun _ => hC⟩
  · rw [loN_no out h]; exact ⟨rfl, fun h => absurd h (by decide)⟩
theorem TxtO.lay {s : ByteArray} {out : List UInt8} {err : Int} {C : List UInt8 → Prop} (h : TxtO s out err C) : LayO (loT s (0, out)) err C := by
  unfold loT
  rcases h with ⟨rfl, h0, hC⟩ | ⟨rfl, h⟩
  · rw [if_neg (by simp), if_pos h0]; exact ⟨rfl, fun _ => hC⟩
  · rw [if_neg (by simp), if_neg (by omega)]; exact ⟨rfl, fun h => absurd h (by decide)⟩
theorem LayO.ok {o : Lo} {C : List UInt8 → Prop} (h : LayO o 0 C) : ∃ q, o = (0, q) ∧ C q := ⟨o.2, Prod.ext h.1.symm rfl, h.2 rfl⟩
theorem LayO.stuck {f : Lo → Lo} (hf : ∀ o, o.1 ≠ 0 → f o = o) {o : Lo} {err : Int} {C C' : List UInt8 → Prop} (h : LayO o err C') (h0 : err ≠ 0) : LayO (f o) err C := by
  rw [hf o (by rw [← h.1]; exact h0)]; exact ⟨h.1, fun e => absurd e h0⟩
theorem loN_lenE {m : Int} {o q : List UInt8} (h : loN m (0, o) = (0, q)) : q.length ≤ o.length + 5 := by
  unfold loN at h
  split at h
  · rename_i h1; exact absurd rfl h1
  · split at h
    · rename_i h1; have := encC_len m.toNat (by omega); rw [← (Prod.mk.inj h).2]; simp; omega
    · exact absurd (Prod.mk.inj h).1 (by decide)
theorem loT_lenE {s : ByteArray} {o q : List UInt8} (h : loT s (0, o) = (0, q)) : q.length ≤ o.length + 65541 := by
  unfold loT at h
  split at h
  · rename_i h1; exact absurd rfl h1
  · split at h
    · rename_i h1; have := encC_len s.size (by omega); have hs : s.data.toList.length = s.size := rfl; rw [← (Prod.mk.inj h).2]; simp only [List.length_append, hs]; omega
    · exact absurd (Prod.mk.inj h).1 (by decide)

/-- a command -/
structure Cm where
  kd : Int
  cl : Int
  sq : Int
  us : ByteArray
  ky : ByteArray
  ep : Int
  root : List UInt8
def Cm.ok (x : Cm) : Prop := x.root.length = 32
def cmc (x : Cm) : List Value := .int .i64 x.kd :: .int .i64 x.cl :: .int .i64 x.sq :: .string x.us :: .string x.ky :: .int .i64 x.ep :: bs x.root
def loC (x : Cm) (o : Lo) : Lo := loD x.root (loN x.ep (loT x.ky (loT x.us (loN x.sq (loN x.cl (loN x.kd o))))))
theorem cmc_length {x : Cm} (h : x.ok) : (cmc x).length = 38 := by simp [cmc, bs_length, show x.root.length = 32 from h]
theorem Part.cm0 {vs : List Value} {off : Nat} {x : Cm} (h : Part vs off (cmc x)) : vs[off + 0]? = some (.int .i64 x.kd) := by
  have := h 0 (by simp [cmc]); simpa [cmc] using this
theorem Part.cm1 {vs : List Value} {off : Nat} {x : Cm} (h : Part vs off (cmc x)) : vs[off + 1]? = some (.int .i64 x.cl) := by
  have := h 1 (by simp [cmc]); simpa [cmc] using this
theorem Part.cm2 {vs : List Value} {off : Nat} {x : Cm} (h : Part vs off (cmc x)) : vs[off + 2]? = some (.int .i64 x.sq) := by
  have := h 2 (by simp [cmc]); simpa [cmc] using this
theorem Part.cm3 {vs : List Value} {off : Nat} {x : Cm} (h : Part vs off (cmc x)) : vs[off + 3]? = some (.string x.us) := by
  have := h 3 (by simp [cmc]); simpa [cmc] using this
theorem Part.cm4 {vs : List Value} {off : Nat} {x : Cm} (h : Part vs off (cmc x)) : vs[off + 4]? = some (.string x.ky) := by
  have := h 4 (by simp [cmc]); simpa [cmc] using this
theorem Part.cm5 {vs : List Value} {off : Nat} {x : Cm} (h : Part vs off (cmc x)) : vs[off + 5]? = some (.int .i64 x.ep) := by
  have := h 5 (by simp [cmc]); simpa [cmc] using this
theorem Part.cm6 {vs : List Value} {off : Nat} {x : Cm} (h : Part vs off (cmc x)) (ho : x.ok) : Part vs (off + 6) (bs x.root) := by
  intro j hj
  have hj' : j < 32 := by rw [bs_length, show x.root.length = 32 from ho] at hj; exact hj
  have := h (6 + j) (by rw [cmc_length ho]; omega)
  rw [show off + 6 + j = off + (6 + j) by omega, this]
  simp only [cmc, show 6 + j = j + 1 + 1 + 1 + 1 + 1 + 1 by omega, List.getElem?_cons_succ]


def gT (l : List UInt8) : Option (ByteArray × List UInt8) := if (rdB l).2.2 = 0 then some (str (rdB l).1, l.drop (rdB l).2.1) else none
theorem TxtI.dec {l : List UInt8} {err : Int} {C : List UInt8 → Value → Prop} (h : TxtI l err C) : DecI (gT l) err fun s l' => C l' (.string s) := by
  rcases h with ⟨h0, h1, h2⟩ | ⟨h0, h1⟩
  · exact .inl ⟨h0, _, _, by rw [gT, if_pos h1], h2⟩
  · exact .inr ⟨h0, by rw [gT, if_neg h1]⟩
theorem splice_set_next (vs cs : List Value) (off : Nat) (v : Value) (h : off + cs.length < vs.length) : (splice vs off cs).set (off + cs.length) v = splice vs off (cs ++ [v]) := by
  rw [splice_one _ _ _ (by rw [length_splice _ _ _ (by omega)]; exact h), splice_next vs cs [v] off (by omega)]
def gC (l : List UInt8) : Option (Cm × List UInt8) := (gN l).bind fun p0 => (gN p0.2).bind fun p1 => (gN p1.2).bind fun p2 => (gT p2.2).bind fun p3 => (gT p3.2).bind fun p4 => (gN p4.2).bind fun p5 => (gD p5.2).bind fun p6 => some (⟨p0.1, p1.1, p2.1, p3.1, p4.1, p5.1, p6.1⟩, p6.2)


end Go.Proofs.YtoclahcibilbhaaGreat
