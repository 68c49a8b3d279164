/-
  The bytes of histories, of lists alone: what is put is read, and what is read was put.
-/
import Derived.Test.YtbbckjpgmpfkgaaDoorPure07
import Derived.Test.YtbbckjpgmpfkgaaDoorVer3
import Derived.Test.YtbbckjpgmpfkgaaDoorPure01
namespace Go.Proofs.YtbbckjpgmpfkgaaDoor
open Go.RowKit
set_option maxRecDepth 100000

def keyB (s : ByteArray) : List UInt8 := s.data.toList
theorem str_keyB (s : ByteArray) : str (keyB s) = s := by
  cases s
  simp [str, keyB]
def encV1 (v : Vn) : List UInt8 := encC v.ep.toNat ++ (encC v.kd.toNat ++ (encC (keyB v.key).length ++ keyB v.key))
def encVs (l : List Vn) : List UInt8 := l.flatMap encV1
def encV (l : List Vn) : List UInt8 := encC l.length ++ encVs l
/-- what can be put -/
def putB (v : Vn) : Prop := 0 ≤ v.ep ∧ v.ep ≤ 2147483647 ∧ 0 ≤ v.kd ∧ v.kd ≤ 2147483647 ∧ (keyB v.key).length ≤ 65536
theorem mayB_put {v : Vn} (h : mayB v = true) : putB v := by
  have hk := mayB_kd h
  simp only [mayB, Bool.and_eq_true, decide_eq_true_eq] at h
  have hs : (keyB v.key).length = v.key.size := Array.length_toList
  obtain ⟨⟨h1, h2⟩, h3⟩ := h
  refine ⟨by omega, by omega, by omega, by omega, ?_⟩
  rw [hs]
  split at h3
  · simp at h3; omega
  · simp only [Bool.and_eq_true, decide_eq_true_eq] at h3
    have he : v.key.toList = [] := by simpa using h3.2
    rw [ByteArray.toList_eq] at he
    have : v.key.size = 0 := by
      rw [← hs, keyB, he]; rfl
    omega
theorem isB_puts {l : List Vn} (h : isB l = true) : ∀ v ∈ l, putB v := by
  have ha := isB_last h
  simp only [allB, List.all_eq_true, List.mem_range] at ha
  intro v hv
  obtain ⟨i, hi, rfl⟩ := List.getElem_of_mem hv
  have := ha i hi
  have e : l.getD i vn0 = l[i] := by simp [List.getD, hi]
  rw [stepB, e] at this
  exact mayB_put (refI_zero this).1
theorem rdV_enc {v : Vn} (h : putB v) (t : List UInt8) : rdV (encV1 v ++ t) = some (v, t) := by
  obtain ⟨h1, h2, h3, h4, h5⟩ := h
  have e : encV1 v ++ t = encC v.ep.toNat ++ (encC v.kd.toNat ++ (encC (keyB v.key).length ++ keyB v.key ++ t)) := by simp [encV1]
  unfold rdV
  rw [e, cnt_enc0 _ _ (by omega)]
  simp only [List.drop_left]
  rw [cnt_enc0 _ _ (by omega)]
  simp only [List.drop_left]
  rw [rdB_enc _ _ h5]
  simp only [ne_eq, not_true_eq_false, if_false]
  have ed : (encC (keyB v.key).length ++ keyB v.key ++ t).drop ((encC (keyB v.key).length).length + (keyB v.key).length) = t := by
    rw [← List.length_append, List.drop_left]
  rw [ed, str_keyB]
  have e1 : ((v.ep.toNat : Nat) : Int) = v.ep := by omega
  have e2 : ((v.kd.toNat : Nat) : Int) = v.kd := by omega
  rw [e1, e2]
theorem manyV_enc : ∀ (k : Nat) (l : List Vn) (t : List UInt8), (∀ v ∈ l, putB v) → k ≤ l.length → manyV k (encVs l ++ t) = some (l.take k, encVs (l.drop k) ++ t)
  | 0, l, t, _, _ => by simp [manyV]
  | k + 1, l, t, h, hk => by
    have hl : k < l.length := hk
    have ih := manyV_enc k l t h (by omega)
    have e : l.drop k = l[k] :: l.drop (k + 1) := List.drop_eq_getElem_cons hl
    have e2 : encVs (l.drop k) ++ t = encV1 l[k] ++ (encVs (l.drop (k + 1)) ++ t) := by
      unfold encVs
      rw [e, List.flatMap_cons, List.append_assoc]
    rw [e2] at ih
    rw [manyV_yes ih (rdV_enc (h _ (List.getElem_mem hl)) _), List.take_succ_eq_append_getElem hl]
theorem getV_enc {l : List Vn} (h : isB l = true) : getV (encV l) = some l := by
  have h16 := isB_len h
  have hp := isB_puts h
  have hm := manyV_enc l.length l [] hp (Nat.le_refl _)
  rw [List.take_length, List.drop_length, List.append_nil] at hm
  have e : listV (encV l) = some (l, []) := by
    unfold listV encV
    rw [cnt_enc0 _ _ (by omega)]
    simp only
    rw [if_neg (by simp; omega), List.drop_left, hm]
    rfl
  unfold getV
  rw [e]
  simp [h]
theorem rdV_back {l l' : List UInt8} {v : Vn} (h : rdV l = some (v, l')) : l = encV1 v ++ l' := by
  unfold rdV at h
  obtain ⟨A, S, E, hc⟩ : ∃ x y z, cnt 0 0 l = (x, y, z) := ⟨_, _, _, rfl⟩
  rw [hc] at h
  simp only at h
  obtain ⟨A1, S1, E1, hc1⟩ : ∃ x y z, cnt 0 0 (l.drop S) = (x, y, z) := ⟨_, _, _, rfl⟩
  rw [hc1] at h
  simp only at h
  obtain ⟨A2, S2, E2, hc2⟩ : ∃ x y z, rdB ((l.drop S).drop S1) = (x, y, z) := ⟨_, _, _, rfl⟩
  rw [hc2] at h
  simp only at h
  split at h
  · cases h
  · split at h
    · cases h
    · split at h
      · cases h
      · rename_i g1 g2 g3
        have g1 : E = 0 := by omega
        have g2 : E1 = 0 := by omega
        have g3 : E2 = 0 := by omega
        subst g1; subst g2; subst g3
        simp only [Option.some.injEq, Prod.mk.injEq] at h
        obtain ⟨rfl, rfl⟩ := h
        obtain ⟨b1, b2⟩ := cnt_back0 l A S hc
        obtain ⟨d1, d2⟩ := cnt_back0 _ A1 S1 hc1
        obtain ⟨f1, f2, f3⟩ := rdB_back _ A2 S2 hc2
        have k1 : l = encC A ++ l.drop S := by rw [← b1, List.take_append_drop]
        have k2 : l.drop S = encC A1 ++ (l.drop S).drop S1 := by rw [← d1, List.take_append_drop]
        have k3 : (l.drop S).drop S1 = (encC A2.length ++ A2) ++ ((l.drop S).drop S1).drop S2 := by rw [f1, List.take_append_drop]
        have e : encV1 ⟨A, A1, str A2⟩ = encC A ++ (encC A1 ++ (encC A2.length ++ A2)) := by
          simp [encV1, keyB]
        rw [e]
        conv => lhs; rw [k1, k2, k3]
        simp
theorem manyV_back : ∀ (k : Nat) {l l' : List UInt8} {q : List Vn}, manyV k l = some (q, l') → l = encVs q ++ l' ∧ q.length = k
  | 0, l, l', q, h => by
    simp only [manyV, Option.some.injEq, Prod.mk.injEq] at h
    obtain ⟨rfl, rfl⟩ := h
    exact ⟨rfl, rfl⟩
  | k + 1, l, l', q, h => by
    simp only [manyV, Option.bind_eq_some_iff, Option.map_eq_some_iff, Prod.mk.injEq] at h
    obtain ⟨⟨q0, l0⟩, h1, ⟨x, l2⟩, h2, rfl, rfl⟩ := h
    obtain ⟨i1, i2⟩ := manyV_back k h1
    have := rdV_back h2
    refine ⟨?_, by simp [i2]⟩
    rw [i1]
    simp only at this
    rw [this]
    simp [encVs]
theorem getV_back {l : List UInt8} {q : List Vn} (h : getV l = some q) : isB q = true ∧ encV q = l := by
  unfold getV at h
  split at h
  · rename_i q0 h1
    split at h
    · rename_i hi
      obtain rfl := Option.some.inj h
      refine ⟨hi, ?_⟩
      unfold listV at h1
      split at h1
      · cases h1
      · rename_i hh
        obtain ⟨A, S, E, hc⟩ : ∃ x y z, cnt 0 0 l = (x, y, z) := ⟨_, _, _, rfl⟩
        rw [hc] at h1 hh
        simp only at h1 hh
        have hE : E = 0 := by omega
        subst hE
        obtain ⟨b1, b2⟩ := cnt_back0 l A S hc
        obtain ⟨m1, m2⟩ := manyV_back A h1
        rw [List.append_nil] at m1
        rw [encV, m2, ← m1, ← b1, List.take_append_drop]
    · cases h
  · cases h
theorem getV_hist {l : List UInt8} {q : List Vn} (h : getV l = some q) : q.length ≤ 16 := isB_len (getV_back h).1
end Go.Proofs.YtbbckjpgmpfkgaaDoor
