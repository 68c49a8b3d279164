/-
  The walk of ShaKeys.
-/
import Derived.Test.YtlfknhdiphkbcaaDoorLaw02A
import Derived.Test.YtlfknhdiphkbcaaDoorRef02C
import Derived.Test.YtlfknhdiphkbcaaDoorRef02F
import Derived.Test.YtlfknhdiphkbcaaDoorShaQ2
import Derived.Test.YtlfknhdiphkbcaaDoorKeepA
namespace Go.Proofs.YtlfknhdiphkbcaaDoor
open Go.RowKit

theorem eqSelfD (D : List UInt8) (h : D.length = 32) (W : World) : (Op.equalIn 10000 26 (.agg (bs D).toArray) (.agg (bs D).toArray)).run Tryd.prog W = .ok true W := by
  rw [eqInD W D D h h]; simp
theorem neD (D E : List UInt8) (h : D.length = 32) (h' : E.length = 32) (hne : D ≠ E) (W : World) : (Op.equalIn 10000 26 (.agg (bs D).toArray) (.agg (bs E).toArray)).run Tryd.prog W = .ok false W := by
  rw [eqInD W D E h h']; simp [hne]

/-- two arrays held against each other, behind a guard that says yes -/
theorem wpList_eqG {w : World} {ops : Array Oper} {rest : List Oper} {o : Oper} {a : Act} {Q : Exit → Act → World → Prop} (hw : Region.wanted o (yielded ops a.tmps) = true) (op : BinOp) (t t' : TypeId) (x y : Operand) (ho : o.op = .binOp op t x y t')
    (xs ys : Array Value) (hx : a.eval x = .agg xs) (hy : a.eval y = .agg ys) (hm : Tryd.prog.eqGuardType Tryd.prog.depth t = false) (v : Value) (hrun : ∀ W : World, (binOp op t (.agg xs) (.agg ys)).run Tryd.prog W = .ok v W)
    (h : wpList Tryd.prog ops Q rest (a.put o.dst v) w) : wpList Tryd.prog ops Q (o :: rest) a w :=
  wpList_step fun K hK => by
    rw [if_pos hw]
    have hr : (execOp a.eval o).run Tryd.prog w = .ok (.value v) w := by
      simp [execOp, ho, hx, hy, run_eqGuard_agg w op t x y xs ys hm, hrun]
    unfold Oper.wp
    rw [hr, Oper.upon_value]
    exact hK _ _ h
theorem guardD : Tryd.prog.eqGuardType Tryd.prog.depth 26 = false := by kernel_rfl

theorem byte_of (x : Int) (wf : (Lit.int .u8 x).wf = true) : ∃ c : UInt8, x = (c.toNat : Int) := by
  have h : 0 ≤ x ∧ x ≤ 255 := by simpa [Lit.wf, IntKind.min, IntKind.max, IntKind.signed, IntKind.bits] using wf
  refine ⟨UInt8.ofNat x.toNat, ?_⟩
  have : (UInt8.ofNat x.toNat).toNat = x.toNat := by simp; omega
  omega

set_option maxRecDepth 100000 in
set_option maxHeartbeats 1000000 in
theorem walkShaKeys (w : World) (hT : Tab w 1) (hK : Tab w 0) (x : Int) (wf : (Lit.int .u8 x).wf = true) :
    Calls Tryd.prog 4 #[.int .u8 x] w (Yes2 w) := by
  obtain ⟨c, rfl⟩ := byte_of x wf
  clear wf
  have F1 := Lib.hid (fun (W : World) (g : Nat) (hR : Rd W (some ⟨g, 0, none⟩) 1 1 [c]) (hT : Tab W 1) => sum_any W _ 1 1 [c] hR hT (by omega))
  have F2 := Lib.hid (fun (W : World) (g : Nat) (hR : Rd W (some ⟨g, 0, none⟩) 2 2 [c, c]) (hT : Tab W 1) => sum_any W _ 2 2 [c, c] hR hT (by omega))
  have F3 := Lib.hid (fun (W : World) (g : Nat) (hR : Rd W (some ⟨g, 0, none⟩) 1 1 [c]) (hT : Tab W 0) => sum_ref W _ 1 1 [c] hR hT (by omega))
  have hne := Lib.hid (show ∀ W : World, (binOp .neq 26 (.agg (bs (sha [c])).toArray) (.agg (bs (sha [c, c])).toArray)).run Tryd.prog W = .ok (.bool true) W from fun W => by rw [neqD W _ _ (sha_length _) (sha_length _)]; simp [sha_twice c])
  have heq := Lib.hid (show ∀ W : World, (binOp .eql 26 (.agg (bs (sha [c])).toArray) (.agg (bs (sha [c])).toArray)).run Tryd.prog W = .ok (.bool true) W from fun W => by rw [eqD W _ _ (sha_length _) (sha_length _)]; simp)
  generalize sha [c] = D at *
  generalize sha [c, c] = E at *
  go_enter Tryd.func4, Tryd.ntmps4
  go_wp2_with fail
  refine (sums_any w hT).mono ?_
  rintro e w1 ⟨rfl, hB1⟩
  go_wp2_with fail
  refine (same_any w1 (hK.below hB1)).mono ?_
  rintro e w2 ⟨rfl, hB2⟩
  have hB02 := Bt hB1 hB2
  go_wp2_with fail
  have hR3 := Rd.lit w2 [c] 1 rfl (by decide)
  have hB3 : Below w.heap.size w (w2.alloc (.cells (bs [c]).toArray 5)) := hB02.alloc hB02.size _
  refine (F1.out _ _ hR3 (hT.below hB3)).mono ?_
  rintro e w4 ⟨rfl, hB4⟩
  have hB04 := Bt hB3 hB4
  clear hB3 hR3 hB02 hB1 hB2
  go_wp2_with fail
  have hR5 := Rd.lit w4 [c, c] 2 rfl (by decide)
  have hB5 : Below w.heap.size w (w4.alloc (.cells (bs [c, c]).toArray 5)) := hB04.alloc hB04.size _
  refine (F2.out _ _ hR5 (hT.below hB5)).mono ?_
  rintro e w6 ⟨rfl, hB6⟩
  have hB06 := Bt hB5 hB6
  clear hB5 hR5 hB04
  go_wp2_with ((with_reducible refine wpList_eqG (o := ⟨some 15, _, _, _, _, _⟩) ?_ .neq 26 26 (.tmp 10) (.tmp 14) ?_ (bs D).toArray (bs E).toArray ?_ ?_ guardD _ hne.out ?_); rfl; rfl; rfl; rfl)
  have hR7 := Rd.lit w6 [c] 1 rfl (by decide)
  have hB7 : Below w.heap.size w (w6.alloc (.cells (bs [c]).toArray 5)) := hB06.alloc hB06.size _
  refine (F1.out _ _ hR7 (hT.below hB7)).mono ?_
  rintro e w8 ⟨rfl, hB8⟩
  have hB08 := Bt hB7 hB8
  clear hB7 hR7 hB06
  go_wp2_with fail
  have hR9 := Rd.lit w8 [c] 1 rfl (by decide)
  have hB9 : Below w.heap.size w (w8.alloc (.cells (bs [c]).toArray 5)) := hB08.alloc hB08.size _
  refine (F3.out _ _ hR9 (hK.below hB9)).mono ?_
  rintro e w10 ⟨rfl, hB10⟩
  have hB010 := Bt hB9 hB10
  go_wp2_with ((with_reducible refine wpList_eqG (o := ⟨some 24, _, _, _, _, _⟩) ?_ .eql 26 26 (.tmp 20) (.tmp 23) ?_ (bs D).toArray (bs D).toArray ?_ ?_ guardD _ heq.out ?_); rfl; rfl; rfl; rfl)
  go_ret
  exact Yes2.mk hB010
end Go.Proofs.YtlfknhdiphkbcaaDoor
