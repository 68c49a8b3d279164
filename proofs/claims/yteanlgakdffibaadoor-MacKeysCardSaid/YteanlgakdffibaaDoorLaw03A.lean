/-
  The walks of layer 3's statements: macs, MacSame.
-/
import Derived.Test.YteanlgakdffibaaDoorMacC
import Derived.Lib.SlBytesConst
namespace Go.Proofs.YteanlgakdffibaaDoor
open Go.RowKit

def jefe : List UInt8 := [74, 101, 102, 101]
def what : List UInt8 := [119, 104, 97, 116, 32, 100, 111, 32, 121, 97, 32, 119, 97, 110, 116, 32, 102, 111, 114, 32, 110, 111, 116, 104, 105, 110, 103, 63]
def jefeMac : List UInt8 := [0x5b, 0xdc, 0xc1, 0x46, 0xbf, 0x60, 0x75, 0x4e, 0x6a, 0x04, 0x24, 0x26, 0x08, 0x95, 0x75, 0xc7, 0x5a, 0x00, 0x3f, 0x08, 0x9d, 0x27, 0x39, 0x83, 0x9d, 0xec, 0x58, 0xb9, 0x64, 0xec, 0x38, 0x43]
set_option maxRecDepth 1000000 in
theorem hmac_jefe : hmac jefe what = jefeMac := by decide +kernel

/-- a whole array out of a variable, behind a guard that says yes -/
theorem wpList_loadG {w : World} {ops : Array Oper} {rest : List Oper} {o : Oper} {a : Act} {Q : Exit → Act → World → Prop} (hw : Region.wanted o (yielded ops a.tmps) = true) (ty : TypeId) (x : Operand) (ho : o.op = .load ty x)
    {g : Nat} (hx : a.eval x = .pointer (some ⟨g, 0, none⟩)) {t : TypeId} {vs : List Value} {d : TypeDesc} (hg : Blk w g t vs) (hu : Tryd.prog.underlying ty = some d) (hd : d.isRow = true)
    (hi : (Tryd.prog.info? ty).map (·.size) = some vs.length)
    (h : wpList Tryd.prog ops Q rest (a.put o.dst (.agg vs.toArray)) w) : wpList Tryd.prog ops Q (o :: rest) a w :=
  wpList_step fun K hK => by
    rw [if_pos hw]
    exact wp_load_mid ty x ho g 0 hx vs d (hg.range 0 (fun j hj => by simp)) hu hd hi (hK _ _ h)

/-- what a statement's walk comes to: true, and nothing that was there has turned -/
def Yes3 (w : World) (e : Ending) (w' : World) : Prop := e = .returned (.bool true) ∧ Below w.heap.size w w'
theorem Yes3.mk {w w' : World} (h : Below w.heap.size w w') : Yes3 w (.returned (.bool true)) w' := ⟨rfl, h⟩

theorem Rd.litm3 (w : World) (l : List UInt8) (n : Nat) (fr : Nat × Nat) (hn : l.length = n) (hm : n ≤ maxLen) : Rd (w.alloc (.cells (bs l).toArray 5 fr)) (some ⟨w.heap.size, 0, none⟩) n n l :=
  Rd.block (World.alloc_heap_new w _) hn hm

set_option maxRecDepth 100000 in
set_option maxHeartbeats 1000000 in
theorem macs_any (w : World) (hT : Tab w 1) :
    Calls Tryd.prog 18 #[] w fun e w' => e = .returned (.bool true) ∧ Below w.heap.size w w' := by
  have kc := fun (w : World) (C : Array Value) (n c : Nat) => Lib.run_convert_bytes_const (P := Tryd.prog) w 26 5 C n c Tryd.underlying26 Tryd.underlying5
  have hz : ∀ o, (w.alloc o).heap.size = w.heap.size + 1 := fun o => by simp
  have kc2 := fun (o : Obj) (C : Array Value) (n c : Nat) => kc (w.alloc o) C n c
  simp only [hz] at kc2
  have hr1 : Rd ((w.alloc (.cells (bs jefe).toArray 5 (4, 5))).alloc (.cells (bs what).toArray 5 (28, 29))) (some ⟨w.heap.size, 0, none⟩) 4 4 jefe := (Rd.litm3 w jefe 4 (4, 5) rfl (by decide)).below ((Below.refl _ _).alloc (Nat.le_refl _) _)
  have hr2 : Rd ((w.alloc (.cells (bs jefe).toArray 5 (4, 5))).alloc (.cells (bs what).toArray 5 (28, 29))) (some ⟨w.heap.size + 1, 0, none⟩) 28 28 what := by
    have := Rd.litm3 (w.alloc (.cells (bs jefe).toArray 5 (4, 5))) what 28 (28, 29) rfl (by decide)
    rwa [hz] at this
  have hB0 : Below w.heap.size w ((w.alloc (.cells (bs jefe).toArray 5 (4, 5))).alloc (.cells (bs what).toArray 5 (28, 29))) := ((Below.refl _ w).alloc (Nat.le_refl _) _).alloc (by simp) _
  have HM := Lib.hid (mac_any _ _ _ _ jefe _ _ _ what hr1 hr2 (hT.below hB0) (by decide) (by decide))
  clear hr1 hr2
  rw [hmac_jefe] at HM
  have hD : jefeMac.length = 32 := rfl
  have hs1 : (jefeMac == jefeMac) = true := by decide
  have hs2 : (jefeMac == zero32) = false := by decide
  have c0' : jefeMac.getD 0 0 = 91 := by decide
  have c1' : jefeMac.getD 1 0 = 220 := by decide
  have c31' : jefeMac.getD 31 0 = 67 := by decide
  have H5 := Lib.hid (show (Tryd.prog.info? 32).map (·.size) = some (bs jefeMac).length by rw [info_digest, bs_length, hD])
  have H6 := Lib.hid (show (bs zero32).length = (bs jefeMac).length by rw [bs_length, bs_length, zero32_length, hD])
  have H7 := bs_one jefeMac
  have HX := Lib.hid (fun (W : World) => same_mac W jefeMac jefeMac hD hD)
  have HY := Lib.hid (fun (W : World) => same_mac W jefeMac zero32 hD zero32_length)
  rw [hs1] at HX
  rw [hs2] at HY
  clear hs1 hs2
  generalize jefeMac = D at *
  go_enter Tryd.func18, Tryd.ntmps18
  go_wp2_with fail
  refine HM.out.mono ?_
  rintro e w1 ⟨rfl, hB1⟩
  have hB01 := Bt hB0 hB1
  have hs1 := hB01.size
  go_wp2_with (first | ((with_reducible refine wpList_allocB (o := ⟨some 1, _, _, _, _, _⟩) ?_ 32 ?_ zero32_info ?_); rfl; rfl; intro w2 hr2 hg2 hz2) | ((with_reducible refine wpList_storeB (o := ⟨none, .store 32 (.tmp 1) (.tmp 6), _, _, _, _⟩) ?_ 32 (.tmp 1) (.tmp 6) ?_ ?_ ?_ hr2 H5.out H6.out H7 ?_); rfl; rfl; rfl; rfl; intro w3 hr3 hg3 hz3; have hx0 := hr3; have c0 : w3.cell? ⟨w1.heap.size, 0, none⟩ = some (.int .u8 91) := (by have := hr3.cell (bs_at D 0 (by omega)); rwa [c0'] at this); have c1 : w3.cell? ⟨w1.heap.size, 1, none⟩ = some (.int .u8 220) := (by have := hr3.cell (bs_at D 1 (by omega)); rwa [c1'] at this); have c31 : w3.cell? ⟨w1.heap.size, 31, none⟩ = some (.int .u8 67) := (by have := hr3.cell (bs_at D 31 (by omega)); rwa [c31'] at this)) | ((with_reducible refine wpList_loadG (o := ⟨some 21, _, _, _, _, _⟩) ?_ 32 (.tmp 1) ?_ ?_ hx0 Tryd.underlying32 ?_ H5.out ?_); rfl; rfl; rfl; rfl) | ((with_reducible refine wpList_loadG (o := ⟨some 22, _, _, _, _, _⟩) ?_ 32 (.tmp 1) ?_ ?_ hx0 Tryd.underlying32 ?_ H5.out ?_); rfl; rfl; rfl; rfl))
  have hB3 : Below w.heap.size w w3 := (hB01.grown hg2 hs1 (fun k e => by cases e)).grown hg3 (by omega) (fun k e => by cases e; exact hs1)
  refine (HX.out w3).mono ?_
  rintro e w4 ⟨rfl, hB4⟩
  have hx4 := hx0.below hB4
  go_wp2_with ((with_reducible refine wpList_loadG (o := ⟨some 26, _, _, _, _, _⟩) ?_ 32 (.tmp 1) ?_ ?_ hx4 Tryd.underlying32 ?_ H5.out ?_); rfl; rfl; rfl; rfl)
  refine (HY.out w4).mono ?_
  rintro e w5 ⟨rfl, hB5⟩
  go_wp2_with fail
  go_ret
  exact ⟨rfl, Bt (Bt hB3 hB4) hB5⟩
end Go.Proofs.YteanlgakdffibaaDoor
