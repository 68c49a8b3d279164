/-
  Claims: their cells; a path, a claim and a proof that a call keeps.
-/
import Derived.Test.YtbbckjpgmpfkgaaGreatDoorPrf0
namespace Go.Proofs.YtbbckjpgmpfkgaaGreatDoor
open Go.RowKit
set_option maxRecDepth 100000

/-- a claim's cells -/
def clc (b : Bool) (v : List UInt8) : List Value := .bool b :: bs v
theorem built_clc0 (b : Bool) (f : Fin 32 → UInt8) : Tryz.prog.built 26 [(0, .bool b), (1, .agg (bs (List.ofFn f)).toArray)] = some (Value.bool b :: bs (List.ofFn f)).toArray := by kernel_rfl
theorem built_clc (b : Bool) {v : List UInt8} (hv : v.length = 32) : Tryz.prog.built 26 [(0, .bool b), (1, .agg (bs v).toArray)] = some (clc b v).toArray := by
  obtain ⟨f, rfl⟩ := as_ofFn hv
  exact built_clc0 b f
theorem built_clcZ : Tryz.prog.built 26 [] = some (clc false zero32).toArray := by kernel_rfl
theorem zeroClc_info : (Tryz.prog.info? 26).map (fun i => (i.zero, i.size)) = some (some (.agg (clc false zero32).toArray), 33) := by kernel_rfl
theorem clc_one (b : Bool) (v : List UInt8) : ∀ u ∈ clc b v, u.oneCell' = true := by
  intro u hu
  simp only [clc, List.mem_cons] at hu
  rcases hu with rfl | h
  · rfl
  · exact bs_one _ u h
theorem sizeClc : (Tryz.prog.info? 26).map (·.size) = some 33 := by kernel_rfl
theorem clcZ_len : (clc false zero32).length = 33 := by simp [clc, bs_length, zero32_length]
theorem clc_len {b : Bool} {v : List UInt8} (hv : v.length = 32) : (clc b v).length = 33 := by simp [clc, bs_length, hv]

/-- a call's own path, claim and proof, one behind the other from block B on -/
structure Bx3 (w W : World) (B : Nat) (p : List UInt8) (b : Bool) (v : List UInt8) (P : List Value) : Prop where
  p : Blk W B 24 (bs p)
  c : Blk W (B + 1) 26 (clc b v)
  x : Blk W (B + 2) 29 P
  bel : Below w.heap.size w W
section
variable {w W W' : World} {B : Nat} {p : List UInt8} {b : Bool} {v : List UInt8} {P : List Value}
theorem Bx3.below (h : Bx3 w W B p b v P) (hb : Below W.heap.size W W') : Bx3 w W' B p b v P := ⟨h.p.below hb, h.c.below hb, h.x.below hb, Bt h.bel hb⟩
theorem Bx3.drew (h : Bx3 w W B p b v P) : Bx3 w W.drew B p b v P := h.below ⟨rfl, rfl, rfl, Nat.le_refl _, fun _ _ => rfl⟩
theorem Bx3.start (w0 w : World) (hb : Below w0.heap.size w0 w) (p : List UInt8) (b : Bool) (v : List UInt8) (P : List Value) :
    Bx3 w0 (((w.alloc (.cells (bs p).toArray 24)).alloc (.cells (clc b v).toArray 26)).alloc (.cells P.toArray 29)) w.heap.size p b v P := by
  have h1 := Blk.new (w.alloc (.cells (bs p).toArray 24)) 26 (clc b v)
  have h2 := Blk.new ((w.alloc (.cells (bs p).toArray 24)).alloc (.cells (clc b v).toArray 26)) 29 P
  rw [show (w.alloc (.cells (bs p).toArray 24)).heap.size = w.heap.size + 1 by simp] at h1
  rw [show ((w.alloc (.cells (bs p).toArray 24)).alloc (.cells (clc b v).toArray 26)).heap.size = w.heap.size + 2 by simp] at h2
  have hs := hb.size
  exact ⟨((Blk.new w _ _).alloc _).alloc _, h1.alloc _, h2, ((hb.alloc hs _).alloc (by simp; omega) _).alloc (by simp; omega) _⟩
theorem Bx3.c0 (h : Bx3 w W B p b v P) : W.cell? ⟨B + 1, 0, none⟩ = some (.bool b) := h.c.cell rfl
theorem Bx3.cv (h : Bx3 w W B p b v P) : W.rangeAt (B + 1) 1 (bs v) := h.c.range 1 (fun j _ => by unfold clc; rw [show 1 + j = j + 1 by omega, List.getElem?_cons_succ])
theorem Bx3.pr (h : Bx3 w W B p b v P) : W.rangeAt B 0 (bs p) := h.p.allR
end
section
variable {w W : World} {B : Nat} {p : List UInt8} {b : Bool} {v : List UInt8} {a : Option Addr} {n c : Nat} {x : Pf}
theorem Bx3.x0 (h : Bx3 w W B p b v (pc a n c x)) : W.cell? ⟨B + 2, 0, none⟩ = some (.slice a n c) := h.x.cell rfl
theorem Bx3.x1 (h : Bx3 w W B p b v (pc a n c x)) : W.cell? ⟨B + 2, 1, none⟩ = some (.bool x.other) := h.x.cell rfl
theorem Bx3.xp (h : Bx3 w W B p b v (pc a n c x)) : W.rangeAt (B + 2) 2 (bs x.op) := h.x.range 2 (fun j hj => pc_op _ _ _ _ j hj)
theorem Bx3.xv (h : Bx3 w W B p b v (pc a n c x)) (hp : x.op.length = 32) : W.rangeAt (B + 2) 34 (bs x.ov) := h.x.range 34 (fun j _ => pc_ov _ _ _ _ hp j)
end
theorem infoClc {b : Bool} {v : List UInt8} (hv : v.length = 32) : (Tryz.prog.info? 26).map (·.size) = some (clc b v).length := by rw [clc_len hv]; exact sizeClc
end Go.Proofs.YtbbckjpgmpfkgaaGreatDoor
