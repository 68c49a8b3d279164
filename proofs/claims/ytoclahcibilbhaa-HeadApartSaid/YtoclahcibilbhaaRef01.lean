/-
  The walks of the reference of layer 1: Is, Groups, Count, Bytes.
-/
import Derived.Test.YtoclahcibilbhaaOctAB
namespace Go.Proofs.Ytoclahcibilbhaa
open Go.RowKit
set_option maxRecDepth 100000

theorem encC_lt {n : Nat} (h : n < 128) : encC n = [n.toUInt8] := by unfold encC; rw [grp_lt h]; rfl
theorem encC_ge {n : Nat} (h : ¬ n < 128) : encC n = ((n % 128).toUInt8 ||| 128) :: encC (n / 128) := by unfold encC; rw [grp_ge h]; rfl
theorem or128 (x : UInt8) (h : x.toNat < 128) : (x ||| 128).toNat = x.toNat + 128 := by
  have key : ∀ k : Fin 128, ((UInt8.ofNat k.val) ||| 128).toNat = k.val + 128 := by decide +kernel
  have := key ⟨x.toNat, h⟩
  simpa using this

/-- a new row of the call's own that reads as l -/
def NewPost (w : World) (l : List UInt8) (e : Ending) (w' : World) : Prop :=
  ∃ a n c, e = .returned (.slice a n c) ∧ Own w' w.heap.size (.slice a n c) l ∧ Below w.heap.size w w'

theorem Own.lit (w : World) (l : List UInt8) (n : Nat) (hn : l.length = n) (hm : n ≤ maxLen) : Own (w.alloc (.cells (bs l).toArray 5)) w.heap.size (.slice (some ⟨w.heap.size, 0, none⟩) n n) l := by
  have := World.ownsRow_lit (base := w.heap.size) (e := 5) (size := 1) w (bs l).toArray n (Nat.le_refl _) hm (by simp [bs_length, hn])
  unfold Own; rw [hn]; simpa using this

theorem groups_lit {w : World} {l : List UInt8} {n : Nat} (hn : l.length = n) (hm : n ≤ maxLen) : NewPost w l (.returned (.slice (some ⟨w.heap.size, 0, none⟩) n n)) (w.alloc (.cells (bs l).toArray 5)) :=
  ⟨_, _, _, rfl, Own.lit w l n hn hm, (Below.refl _ _).alloc (Nat.le_refl _) _⟩

theorem u8n (m : Nat) (h : m < 256) : ((m.toUInt8).toNat : Int) = m := by simp [Nat.toUInt8]; omega

/-- what the reference hands back beside OK -/
def NewPost2 (w : World) (l : List UInt8) (e : Ending) (w' : World) : Prop :=
  ∃ a n c, e = .returned (.tuple #[.slice a n c, .int .i64 0]) ∧ Own w' w.heap.size (.slice a n c) l ∧ Below w.heap.size w w'

end Go.Proofs.Ytoclahcibilbhaa
