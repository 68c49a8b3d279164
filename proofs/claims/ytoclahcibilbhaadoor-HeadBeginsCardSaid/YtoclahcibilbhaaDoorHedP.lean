/-
  Heads as bytes, without a program.
-/
import Derived.Test.YtoclahcibilbhaaDoorHedA
import Derived.Test.YtoclahcibilbhaaDoorOctAB
import Derived.Test.YtoclahcibilbhaaDoorRef01
namespace Go.Proofs.YtoclahcibilbhaaDoor
open Go.RowKit
set_option maxRecDepth 100000

def hvalid (x : Hd) : Bool := decide (1 ≤ x.ep) && decide (x.ep ≤ 200)
def encH (x : Hd) : List UInt8 := encC x.ep.toNat ++ x.root ++ x.prev
theorem hvalid_iff {x : Hd} : hvalid x = true ↔ 1 ≤ x.ep ∧ x.ep ≤ 200 := by simp [hvalid]
theorem encH_len {x : Hd} (hx : x.ok) (hv : hvalid x = true) : 65 ≤ (encH x).length ∧ (encH x).length ≤ 66 := by
  obtain ⟨h1, h2⟩ := hvalid_iff.1 hv
  have h3 := encC_pow 1 x.ep.toNat (by omega)
  have h4 := hx.1
  have h5 := hx.2
  have h6 : 1 ≤ (encC x.ep.toNat).length := by
    unfold encC
    by_cases h : x.ep.toNat < 128
    · rw [grp_lt h]; simp
    · rw [grp_ge h]; simp
  simp only [encH, List.length_append]
  omega
def hOne : Hd := ⟨1, zero32, zero32⟩
theorem hOne_ok : hOne.ok := ⟨zero32_length, zero32_length⟩
theorem hOne_valid : hvalid hOne = true := by decide
theorem h0_valid : hvalid hd0 = false := by decide
theorem encH_hOne : encH hOne = 1 :: List.replicate 64 0 := by
  unfold encH hOne
  rw [show encC (Int.toNat 1) = [1] from encC_lt (by decide)]
  decide
theorem built_h1x : Tryd.prog.built 25 [(0, .int .i64 1)] = some (hdc hOne).toArray := by kernel_rfl
theorem built_h0x : Tryd.prog.built 25 [] = some (hdc hd0).toArray := by kernel_rfl
/-- a part of memory as a slice of bytes -/
theorem Rd.part {w : World} {g off : Nat} {ds : List UInt8} (h : w.rangeAt g off (bs ds)) (hd : ds.length = 32) : Rd w (some ⟨g, off, none⟩) 32 32 ds := by
  refine ⟨hd, Nat.le_refl _, by decide, (fun e => by cases e), fun ad e j u hu => ?_⟩
  cases e
  rw [Addr.add_lit]
  exact h j u hu
/-- what an encoding of a head answers -/
def BytesP (w : World) (x : Hd) (e : Ending) (w' : World) : Prop :=
  ∃ (a : Option Addr) (n c : Nat), Hid (n = (encH x).length) ∧ e = .returned (.tuple #[.slice a n c, .int .i64 0]) ∧ Own w' w.heap.size (.slice a n c) (encH x) ∧ Below w.heap.size w w'
end Go.Proofs.YtoclahcibilbhaaDoor
