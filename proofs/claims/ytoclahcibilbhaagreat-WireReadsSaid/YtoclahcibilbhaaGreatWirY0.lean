/-
  Lists that are read: a row of the call's own that grows beside a thing that is being read.
-/
import Derived.Test.YtoclahcibilbhaaGreatWirE1
namespace Go.Proofs.YtoclahcibilbhaaGreat
open Go.RowKit
set_option maxRecDepth 100000

variable {α : Type}
theorem getD_mem {l : List α} {k : Nat} {x0 : α} (h : k < l.length) : l.getD k x0 ∈ l := by
  have e : l.getD k x0 = l[k] := by simp [List.getD, h]
  rw [e]; exact List.getElem_mem h

theorem list_grow (R : Row α) {A : Nat} {a0 : Option Addr} {n0 c0 : Nat} {l0 : List UInt8} {b r X B : Nat} {t : TypeId} {w W0 W1 W2 : World} {l : List UInt8} {vs : List Value} {off k c c' : Nat} {a a' : Option Addr} {ys zs : List α}
    (hD : Dc A a0 n0 c0 l0 b r X B t W0 l (vs.set off (.slice a k c))) (hO : OwnG R W0 B (.slice a k c) ys) (hS : Stp (fun k => k = r ∨ k = X) B w W0) (hB1 : Below W0.heap.size W0 W1)
    (hO2 : OwnG R W2 B (.slice a' (k + 1) c') zs) (hg2 : W1.grownBy W2 (Value.slice a k c).ownBlock) (h1 : R.T ≠ 5) (h2 : R.T ≠ 107) (h3 : R.T ≠ 150) (h4 : t ≠ R.T) :
    Dc A a0 n0 c0 l0 b r X B t (W2.setCell ⟨X, off, none⟩ (.slice a' (k + 1) c')) l (vs.set off (.slice a' (k + 1) c')) ∧ OwnG R (W2.setCell ⟨X, off, none⟩ (.slice a' (k + 1) c')) B (.slice a' (k + 1) c') zs ∧
      Stp (fun k => k = r ∨ k = X) B w (W2.setCell ⟨X, off, none⟩ (.slice a' (k + 1) c')) ∧ ∀ T, R.T ≠ T → t ≠ T → KpT T W0 (W2.setCell ⟨X, off, none⟩ (.slice a' (k + 1) c')) := by
  have hO1 := hO.below hB1
  have hD1 := hD.keep hB1
  have hD2 := hD1.app hg2 (T := R.T) (fun g e => hO1.typed g e) h1 h2 h3 h4
  have hD3 := hD2.store off (.slice a' (k + 1) c')
  rw [List.set_set] at hD3
  have hgs := set_grown W2 X off (.slice a' (k + 1) c')
  have hS1 := hS.trans (Stp.of (K := fun k => k = r ∨ k = X) (hB1.mono hD.le))
  refine ⟨hD3, ?_, (hS1.grown hg2 hD1.le (fun g e => .inr (hO1.lt e).1)).set _ _ (.inl (.inr rfl)), fun T e1 e2 => ?_⟩
  · exact hO2.kpT (KpT.grown hgs (fun g e => by cases e; exact hD2.xb.noT h4))
  · exact ((KpT.below hB1).trans (KpT.grown hg2 (fun g e => hO1.noT e1 g e))).trans (KpT.grown hgs (fun g e => by cases e; exact hD2.xb.noT e2))

theorem list_fill (R : Row α) {A : Nat} {a0 : Option Addr} {n0 c0 : Nat} {l0 : List UInt8} {b r X B g : Nat} {t : TypeId} {w W3 W4 : World} {l l' : List UInt8} {us cur cur' : List Value} {v : Value} {zs : List α}
    (hD : Dc A a0 n0 c0 l0 b r X B t W3 l us) (hb : Blk W3 g R.T cur) (hBg : B ≤ g) (hS : Stp (fun k => k = r ∨ k = X) B w W3) (hs : Stp (fun k => k = r ∨ k = g) W3.heap.size W3 W4)
    (hD' : Dc A a0 n0 c0 l0 b r g W3.heap.size R.T W4 l' cur') (hput : Blk W4 g R.T cur' → OwnG R W4 B v zs) (h4 : t ≠ R.T) :
    Dc A a0 n0 c0 l0 b r X B t W4 l' us ∧ OwnG R W4 B v zs ∧ Stp (fun k => k = r ∨ k = X) B w W4 ∧ ∀ T, R.T ≠ T → (150 : TypeId) ≠ T → KpT T W3 W4 := by
  have hXg : X ≠ g := fun e => by
    subst e
    have := hD.xb.at_
    rw [hb.at_] at this
    simp only [Option.some.injEq, Obj.cells.injEq] at this
    exact h4 this.2.1.symm
  refine ⟨hD.back hD' hs hXg, hput hD'.xb, hS.trans (hs.weak hD.le (fun i h e => e.imp id (fun e => by omega))), fun T e1 e2 => ?_⟩
  obtain ⟨a, n, c, k1, k2⟩ := hD.rd
  refine KpT.stp hs (fun i e => ?_)
  rcases e with rfl | rfl
  · exact k1.noT e2
  · exact hb.noT e1

theorem wp_oneG (R : Row α) {w : World} {o : Oper} {a : Act} {K : Act → World → Prop} {Q : Exit → Act → World → Prop} (x1 : Operand) (ho : o.op = .buildSlice R.S 1 #[(0, x1)])
    {y1 : α} (hk : R.ok y1) (hx1 : a.eval x1 = .agg (R.cs y1).toArray) (h : K (a.put o.dst (.slice (some ⟨w.heap.size, 0, none⟩) 1 1)) (w.alloc (.cells (R.cells [y1]).toArray R.T))) : Oper.wp Tryz.prog o a w K Q :=
  wp_manyG R 1 _ ho (Row.all.single hk) rfl (by decide) (by decide) (by simp [hx1]) h
theorem fill_int (z : Array Value) (m : Int) (hz : z.size = 1) : Instr.fill (fun i => some (i * 1, 1)) z [(0, Value.int .i64 m)] = some #[Value.int .i64 m] := by
  obtain ⟨r, hr, hsz, hc⟩ := Go.Great.fill_dense (s := 1) (by decide) [Value.int .i64 m] 0 z (fun v hv => by
    simp only [List.mem_singleton] at hv
    subst hv; rfl) (by simp [hz])
  have e : ((([Value.int .i64 m]).zipIdx 0).map fun x => (x.2, x.1)) = [(0, Value.int .i64 m)] := rfl
  rw [e] at hr
  rw [hr]
  congr 1
  refine Array.ext_getElem? fun k => ?_
  rw [hc k]
  by_cases h : k < 1
  · obtain rfl : k = 0 := by omega
    simp [Value.cells]
  · rw [if_neg (by simp; omega), Array.getElem?_eq_none (by omega), Array.getElem?_eq_none (by simp; omega)]
/-- []int{x} -/
theorem wpList_oneInt {w : World} {ops : Array Oper} {rest : List Oper} {o : Oper} {a : Act} {Q : Exit → Act → World → Prop} (hgd : o.guard = none) (x1 : Operand) (ho : o.op = .buildSlice 34 1 #[(0, x1)]) (m : Int) (hx1 : a.eval x1 = .int .i64 m)
    (h : ∀ w', RdG intR w' (some ⟨w.heap.size, 0, none⟩) 1 1 [m] → Below w.heap.size w w' → wpList Tryz.prog ops Q rest (a.put o.dst (.slice (some ⟨w.heap.size, 0, none⟩) 1 1)) w') : wpList Tryz.prog ops Q (o :: rest) a w := by
  obtain ⟨i, hi, hz0, hz1, hz2⟩ := info_parts intR.info
  refine wpList_buildSlice hgd 34 3 1 _ ho (intR.cells [m]).toArray i _ intR.und hi hz0 (by rw [hz1]; decide) (by rw [hz1]; decide) ?_ (h _ (RdG.many w (fun _ _ => trivial) rfl (by decide)) ((Below.refl _ w).alloc (Nat.le_refl _) _))
  rw [hz1]
  simp only [List.map_toArray, List.map_cons, List.map_nil, hx1]
  exact fill_int _ m (by simp [intR])
end Go.Proofs.YtoclahcibilbhaaGreat
