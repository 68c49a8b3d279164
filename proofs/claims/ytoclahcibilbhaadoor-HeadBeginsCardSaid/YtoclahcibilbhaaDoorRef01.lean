/-
  The walks of the reference of layer 1: Is, Groups, Count, Bytes.
-/
import Derived.Test.YtoclahcibilbhaaDoorOctAB
namespace Go.Proofs.YtoclahcibilbhaaDoor
open Go.RowKit
set_option maxRecDepth 100000

theorem encC_lt {n : Nat} (h : n < 128) : encC n = [n.toUInt8] := by unfold encC; rw [grp_lt h]; rfl
theorem encC_ge {n : Nat} (h : ¬ n < 128) : encC n = ((n % 128).toUInt8 ||| 128) :: encC (n / 128) := by unfold encC; rw [grp_ge h]; rfl
theorem or128 (x : UInt8) (h : x.toNat < 128) : (x ||| 128).toNat = x.toNat + 128 := by
  have key : ∀ k : Fin 128, ((UInt8.ofNat k.val) ||| 128).toNat = k.val + 128 := by decide +kernel
  have := key ⟨x.toNat, h⟩
  simpa using this

/-- a new row of the call's own that reads as l -/
def NewPost (w : World) (l : List UInt8) (e : Ending) (w' : World) : Prop :=
  ∃ a n c, e = .returned (.slice a n c) ∧ Own w' w.heap.size (.slice a n c) l ∧ Below w.heap.size w w'

theorem Own.lit (w : World) (l : List UInt8) (n : Nat) (hn : l.length = n) (hm : n ≤ maxLen) : Own (w.alloc (.cells (bs l).toArray 5)) w.heap.size (.slice (some ⟨w.heap.size, 0, none⟩) n n) l := by
  have := World.ownsRow_lit (base := w.heap.size) (e := 5) (size := 1) w (bs l).toArray n (Nat.le_refl _) hm (by simp [bs_length, hn])
  unfold Own; rw [hn]; simpa using this

theorem groups_lit {w : World} {l : List UInt8} {n : Nat} (hn : l.length = n) (hm : n ≤ maxLen) : NewPost w l (.returned (.slice (some ⟨w.heap.size, 0, none⟩) n n)) (w.alloc (.cells (bs l).toArray 5)) :=
  ⟨_, _, _, rfl, Own.lit w l n hn hm, (Below.refl _ _).alloc (Nat.le_refl _) _⟩

theorem u8n (m : Nat) (h : m < 256) : ((m.toUInt8).toNat : Int) = m := by simp [Nat.toUInt8]; omega

set_option maxRecDepth 100000 in
set_option maxHeartbeats 1000000 in
theorem groups_small (m : Nat) (w : World) (hm : m < 128) :
    Calls Tryd.prog 27 #[.int .i64 m] w (NewPost w (encC m)) := by
  have fin := groups_lit (w := w) (l := [m.toUInt8]) (n := 1) rfl (by decide)
  rw [← encC_lt hm] at fin
  have HF := Lib.hid fin
  have e1 := u8n m (by omega)
  clear fin
  go_enter Tryd.func27, Tryd.ntmps27
  go_wp2_with fail
  go_ret
  have h := HF.out
  rw [encC_lt hm] at h ⊢
  simp only [bs, List.map_cons, List.map_nil, e1] at h
  exact h

set_option maxRecDepth 100000 in
set_option maxHeartbeats 1000000 in
theorem groups_ref (k : Nat) : ∀ (m : Nat) (w : World), m < 128 ^ (k + 1) → k ≤ 7 →
    Calls Tryd.prog 27 #[.int .i64 m] w (NewPost w (encC m)) := by
  induction k with
  | zero => exact fun m w h _ => groups_small m w (by simpa using h)
  | succ k ih =>
    intro m w h1 hk
    by_cases hlt : m < 128
    · exact groups_small m w hlt
    · have IH := Lib.hid ih
      have hb : m ≤ 9223372036854775807 := by
        have : 128 ^ (k + 1 + 1) ≤ 128 ^ 9 := Nat.pow_le_pow_right (by omega) (by omega)
        omega
      have hm1 : m / 128 < 128 ^ (k + 1) := by rw [Nat.pow_succ] at h1; omega
      have HM := Lib.hid hm1
      have HE := Lib.hid (encC_ge hlt)
      have e3 : (((m % 128).toUInt8 ||| 128).toNat : Int) = 128 + (m : Int) % 128 := by
        rw [or128 _ (by simp [Nat.toUInt8]; omega)]; simp [Nat.toUInt8]; omega
      have E3 := Lib.hid e3
      have el : bs [(m % 128).toUInt8 ||| 128] = [.int .u8 (128 + (m : Int) % 128)] := by simp only [bs, List.map_cons, List.map_nil, e3]
      have EL := Lib.hid el
      have ho := Own.lit w [(m % 128).toUInt8 ||| 128] 1 rfl (by decide)
      rw [el] at ho
      have HO := Lib.hid ho
      clear ih h1 hm1 e3 el ho
      go_enter Tryd.func27, Tryd.ntmps27
      go_wp2_with fail
      rw [show ((m : Int) / 128) = ((m / 128 : Nat) : Int) by omega]
      refine (IH.out (m / 128) _ HM.out (by omega)).mono ?_
      rintro e w1 ⟨a1, n1, c1, rfl, hO1, hB1⟩
      have hown : Own w1 w.heap.size (.slice (some ⟨w.heap.size, 0, none⟩) 1 1) [(m % 128).toUInt8 ||| 128] := Own.below HO.out hB1
      have hs1 : w.heap.size + 1 ≤ w1.heap.size := by have := hB1.size; simpa using this
      have hrd := hO1.rd
      have hrn := hrd.len
      have hn1 : n1 ≤ 10 := by
        have := encC_pow k (m / 128) HM.out
        omega
      clear hrn
      go_wp2_with (at_builtin; refine wpList_app rfl (.tmp 18) (.tmp 19) rfl rfl hown rfl hrd (by simp; omega) (by omega) ?_; intro a2 c2 w2 hO2 hg2)
      go_ret
      refine ⟨_, _, _, rfl, by rw [HE.out]; exact hO2, ?_⟩
      exact ((((Below.refl _ w).alloc (Nat.le_refl _) _).trans (hB1.mono (by simp))).grown hg2 (by omega) (fun k e => by cases e; exact Nat.le_refl _))
/-- what the reference hands back beside OK -/
def NewPost2 (w : World) (l : List UInt8) (e : Ending) (w' : World) : Prop :=
  ∃ a n c, e = .returned (.tuple #[.slice a n c, .int .i64 0]) ∧ Own w' w.heap.size (.slice a n c) l ∧ Below w.heap.size w w'

end Go.Proofs.YtoclahcibilbhaaDoor
