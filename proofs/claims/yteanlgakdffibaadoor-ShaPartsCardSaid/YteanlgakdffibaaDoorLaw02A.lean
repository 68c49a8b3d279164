/-
  The walks of layer 2's statements: sums, ShaNil, ShaTwo.
-/
import Derived.Test.YteanlgakdffibaaDoorShaF
import Derived.Lib.SlBytesConst
namespace Go.Proofs.YteanlgakdffibaaDoor
open Go.RowKit

set_option maxRecDepth 1000000 in
theorem sha_abc : sha [97, 98, 99] = [0xba, 0x78, 0x16, 0xbf, 0x8f, 0x01, 0xcf, 0xea, 0x41, 0x41, 0x40, 0xde, 0x5d, 0xae, 0x22, 0x23, 0xb0, 0x03, 0x61, 0xa3, 0x96, 0x17, 0x7a, 0x9c, 0xb4, 0x10, 0xff, 0x61, 0xf2, 0x00, 0x15, 0xad] := by decide +kernel

theorem Rd.litm (w : World) (l : List UInt8) (n : Nat) (fr : Nat × Nat) (hn : l.length = n) (hm : n ≤ maxLen) : Rd (w.alloc (.cells (bs l).toArray 5 fr)) (some ⟨w.heap.size, 0, none⟩) n n l :=
  Rd.block (World.alloc_heap_new w _) hn hm

/-- what a statement's walk comes to: true, and nothing that was there has turned -/
def Yes2 (w : World) (e : Ending) (w' : World) : Prop := e = .returned (.bool true) ∧ Below w.heap.size w w'
theorem Yes2.mk {w w' : World} (h : Below w.heap.size w w') : Yes2 w (.returned (.bool true)) w' := ⟨rfl, h⟩

set_option maxRecDepth 100000 in
set_option maxHeartbeats 1000000 in
theorem sums_any (w : World) (hT : Tab w 1) :
    Calls Tryd.prog 15 #[] w fun e w' => e = .returned (.bool true) ∧ Below w.heap.size w w' := by
  have hr : Rd (w.alloc (.cells #[.int .u8 97, .int .u8 98, .int .u8 99] 5 (3, 4))) (some ⟨w.heap.size, 0, none⟩) 3 3 [97, 98, 99] := Rd.litm w [97, 98, 99] 3 (3, 4) rfl (by decide)
  have hB0 : Below w.heap.size w (w.alloc (.cells #[.int .u8 97, .int .u8 98, .int .u8 99] 5 (3, 4))) := (Below.refl _ w).alloc (Nat.le_refl _) _
  have hs0 : (w.alloc (.cells #[.int .u8 97, .int .u8 98, .int .u8 99] 5 (3, 4))).heap.size = w.heap.size + 1 := by simp
  have kc := fun (w : World) (C : Array Value) (n c : Nat) => Lib.run_convert_bytes_const (P := Tryd.prog) w 26 5 C n c Tryd.underlying26 Tryd.underlying5
  go_enter Tryd.func15, Tryd.ntmps15
  go_wp2_with fail
  refine (sum_any _ _ _ _ _ hr (hT.below hB0) (by decide)).mono ?_
  rintro e w1 ⟨rfl, hB1⟩
  have hl := sha_length [97, 98, 99]
  have H5 := Lib.hid (show (Tryd.prog.info? 32).map (·.size) = some (bs (sha [97, 98, 99])).length by rw [info_digest, bs_length, hl])
  have H6 := Lib.hid (show (bs zero32).length = (bs (sha [97, 98, 99])).length by rw [bs_length, bs_length, zero32_length, hl])
  have H7 := bs_one (sha [97, 98, 99])
  have HE := Lib.hid sha_abc
  generalize sha [97, 98, 99] = D at *
  go_wp2_with (first | ((with_reducible refine wpList_allocB (o := ⟨some 1, _, _, _, _, _⟩) ?_ 32 ?_ zero32_info ?_); rfl; rfl; intro w2 hr2 hg2 hz2) | ((with_reducible refine wpList_storeB (o := ⟨none, .store 32 (.tmp 1) (.tmp 4), _, _, _, _⟩) ?_ 32 (.tmp 1) (.tmp 4) ?_ ?_ ?_ hr2 H5.out H6.out H7 ?_); rfl; rfl; rfl; rfl; intro w3 hr3 hg3 hz3; have hx0 := hr3; have c0 : w3.cell? ⟨w1.heap.size, 0, none⟩ = some (.int .u8 186) := (by have := hr3.cell (bs_at D 0 (by omega)); rwa [HE.out] at this); have c1 : w3.cell? ⟨w1.heap.size, 1, none⟩ = some (.int .u8 120) := (by have := hr3.cell (bs_at D 1 (by omega)); rwa [HE.out] at this); have c31 : w3.cell? ⟨w1.heap.size, 31, none⟩ = some (.int .u8 173) := (by have := hr3.cell (bs_at D 31 (by omega)); rwa [HE.out] at this)))
  go_ret
  exact ⟨rfl, ((hB0.trans (hB1.mono (by omega))).grown hg2 (by have := hB1.size; omega) (fun k e => by cases e)).grown hg3 (by have := hB1.size; omega) (fun k e => by cases e; have := hB1.size; omega)⟩

end Go.Proofs.YteanlgakdffibaaDoor
