/-
  The library's count of leading noughts, by the shelf's contract.
-/
import Derived.Shelf.Small.Bits
import Derived.Shelf.Strconv.Itoa0
import Derived.Test.YtgbhfpkngjlfkaaDoorProg
namespace Go.Proofs.YtgbhfpkngjlfkaaDoor
open Go.Shelf

def ren64 : Go.Shelf.Ren := ⟨fun | 134 => 39 | 129 => 62 | n => n, fun | 53 => 68 | 3 => 3 | 4 => 4 | 46 => 117 | 5 => 5 | 9 => 9 | n => n, fun | n => n⟩
theorem lays64 : Go.Proofs.Lays.n134 Tryd.prog ren64 := {
  mixed := by kernel_rfl
  f129 := Tryd.func62.trans (congrArg some (by kernel_rfl))
  f134 := Tryd.func39.trans (congrArg some (by kernel_rfl))
  t3 := Tryd.underlying3
  a3 := Tryd.isAgg3
  z3 := Tryd.sizeOf3
  v3 := Tryd.zeroValue3
  t4 := Tryd.underlying4
  a4 := Tryd.isAgg4
  z4 := Tryd.sizeOf4
  v4 := Tryd.zeroValue4
  t5 := Tryd.underlying5
  a5 := Tryd.isAgg5
  z5 := Tryd.sizeOf5
  v5 := Tryd.zeroValue5
  t9 := Tryd.underlying9
  a9 := Tryd.isAgg9
  z9 := Tryd.sizeOf9
  v9 := Tryd.zeroValue9
  t46 := Tryd.underlying117
  a46 := Tryd.isAgg117
  z46 := Tryd.sizeOf117
  v46 := Tryd.zeroValue117
  t53 := Tryd.underlying68
  a53 := Tryd.isAgg68
  z53 := Tryd.sizeOf68
  v53 := Tryd.zeroValue68 }
theorem lead64 (w : World) (x : Nat) (h : x < 18446744073709551616) :
    Calls Tryd.prog 39 #[.int .u64 (x : Int)] w fun e w' => e = .returned (.int .i64 ((64 - Lib.bitLen x : Nat) : Int)) ∧ w = w' := by
  refine (Any.bits_LeadingZeros64 lays64 (x : Int) w (by omega) (by omega)).mono ?_
  rintro e w' ⟨rfl, rfl⟩
  have hl := Lib.bitLen_le x 64 (Nat.le_refl _) h
  refine ⟨?_, rfl⟩
  rw [Int.toNat_natCast, show ((64 - Lib.bitLen x : Nat) : Int) = 64 - (Lib.bitLen x : Int) by omega]
end Go.Proofs.YtgbhfpkngjlfkaaDoor
