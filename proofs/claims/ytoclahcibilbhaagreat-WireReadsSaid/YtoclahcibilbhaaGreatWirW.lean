/-
  Package wire's lists: what lies in memory; what is laid, what is read.
-/
import Derived.Test.YtoclahcibilbhaaGreatWirC
import Derived.Test.YtoclahcibilbhaaGreatVer0
namespace Go.Proofs.YtoclahcibilbhaaGreat
open Go.RowKit
set_option maxRecDepth 100000

section
variable {K K' : Nat → Prop} {B B' : Nat} {w w' : World}
theorem Stp.weak (h : Stp K B' w w') (hB : B ≤ B') (hk : ∀ i, i < B → K i → K' i) : Stp K' B w w' := ⟨h.os, h.tape, h.output, h.size, fun i h1 h2 => h.block i (by omega) (fun x => h2 (hk i h1 x))⟩
end

/-- all blocks of a type are as they were -/
def KpT (T : TypeId) (w w' : World) : Prop := ∀ (g : Nat) (cs : Array Value) (f : Nat × Nat), w.heap[g]? = some (.cells cs T f) → w'.heap[g]? = some (.cells cs T f)
section
variable {T : TypeId} {w w' w'' : World}
theorem KpT.trans (h : KpT T w w') (k : KpT T w' w'') : KpT T w w'' := fun g cs f e => k g cs f (h g cs f e)
theorem KpT.below (h : Below w.heap.size w w') : KpT T w w' := fun g _ _ e => (h.block g (lt_of_block e)).trans e
theorem KpT.grown {row : Option Nat} (hg : w.grownBy w' row) (hr : ∀ g, row = some g → ∀ cs f, w.heap[g]? ≠ some (.cells cs T f)) : KpT T w w' := fun g cs f e =>
  (hg.block g (lt_of_block e) (fun e2 => hr g e2.symm cs f e)).trans e
theorem KpT.stp {K : Nat → Prop} (hs : Stp K w.heap.size w w') (hk : ∀ g, K g → ∀ cs f, w.heap[g]? ≠ some (.cells cs T f)) : KpT T w w' := fun g cs f e =>
  (hs.block g (lt_of_block e) (fun e2 => hk g e2 cs f e)).trans e
theorem Blk.noT {g : Nat} {t : TypeId} {vs : List Value} (h : Blk w g t vs) (ht : t ≠ T) : ∀ cs f, w.heap[g]? ≠ some (.cells cs T f) := fun cs f e => by
  rw [h.at_] at e
  simp only [Option.some.injEq, Obj.cells.injEq] at e
  exact ht e.2.1
end
variable {α : Type}
theorem OwnG.kpT {R : Row α} {w w' : World} {base : Nat} {v : Value} {l : List α} (h : OwnG R w base v l) (hk : KpT R.T w w') : OwnG R w' base v l := by
  refine ⟨h.1, h.2.1, ?_⟩
  rcases h.2.2 with h2 | ⟨g, cap, cur, hv, hb, hh, r⟩
  · exact .inl h2
  · exact .inr ⟨g, cap, cur, hv, hb, hk g _ _ hh, r⟩
theorem OwnG.typed {R : Row α} {w : World} {base : Nat} {v : Value} {l : List α} (h : OwnG R w base v l) : ∀ g, v.ownBlock = some g → ∃ cs, w.heap[g]? = some (.cells cs R.T (0, 0)) := fun g e => by
  rcases h.2.2 with ⟨h2, _⟩ | ⟨g', cap, cur, hv, hb, hh, r⟩
  · rw [h2] at e; cases e
  · rw [hv] at e; cases e; exact ⟨cur, hh⟩
theorem OwnG.noT {R : Row α} {w : World} {base : Nat} {v : Value} {l : List α} (h : OwnG R w base v l) {T : TypeId} (hT : R.T ≠ T) : ∀ g, v.ownBlock = some g → ∀ cs f, w.heap[g]? ≠ some (.cells cs T f) := fun g e cs f e2 => by
  obtain ⟨c, hc⟩ := h.typed g e
  rw [hc] at e2
  simp only [Option.some.injEq, Obj.cells.injEq] at e2
  exact hT e2.2.1
/-- the last element of a row of the call's own, as a part of its block -/
theorem OwnG.last {R : Row α} {w : World} {B : Nat} {a : Option Addr} {n c : Nat} {l : List α} {x0 : α} (h : OwnG R w B (.slice a n c) (l ++ [x0])) :
    ∃ g cur, a = some ⟨g, 0, none⟩ ∧ B ≤ g ∧ n = l.length + 1 ∧ Blk w g R.T cur ∧ l.length * R.k + R.k ≤ cur.length ∧ (∀ j, j < R.k → cur[l.length * R.k + j]? = (R.cs x0)[j]?) ∧
      ∀ w' x, R.ok x → Blk w' g R.T (splice cur (l.length * R.k) (R.cs x)) → OwnG R w' B (.slice a n c) (l ++ [x]) := by
  have hA : R.all l := fun x hx => h.1 x (List.mem_append_left _ hx)
  have hx0 : R.ok x0 := h.1 x0 (by simp)
  have hL := Row.cells_length hA
  rcases h.2.2 with ⟨_, h2⟩ | ⟨g, cap, cur, hv, hb, hh, h3, h4, h5, h6⟩
  · simp at h2
  · have e : (l ++ [x0]).length = l.length + 1 := by simp
    rw [e] at hv h3 h6
    cases hv
    have hc : (l.length + 1) * R.k ≤ cur.toList.length := by
      have : (l.length + 1) * R.k ≤ c * R.k := Nat.mul_le_mul_right _ h3
      simp; omega
    have hm : (l.length + 1) * R.k = l.length * R.k + R.k := by rw [Nat.add_mul, Nat.one_mul]
    have hce : R.cells (l ++ [x0]) = R.cells l ++ R.cs x0 := by rw [Row.cells_append, Row.cells_single]
    refine ⟨g, cur.toList, rfl, hb, rfl, ⟨by simpa using hh⟩, by omega, fun j hj => ?_, fun w' x hx hB => ?_⟩
    · have h7 : (cur.toList.take ((l.length + 1) * R.k))[l.length * R.k + j]? = (R.cells l ++ R.cs x0)[l.length * R.k + j]? := by rw [h6, hce]
      rw [List.getElem?_take_of_lt (by omega), List.getElem?_append_right (by omega), hL] at h7
      rw [h7]; congr 1; omega
    · have hsl : (splice cur.toList (l.length * R.k) (R.cs x)).length = cur.toList.length := length_splice _ _ _ (by rw [R.len x hx]; omega)
      refine ⟨hA.append (Row.all.single hx), ?_, .inr ⟨g, c, (splice cur.toList (l.length * R.k) (R.cs x)).toArray, by simp, hb, hB.at_, by simp; omega, h4, by simp only [List.size_toArray, hsl]; simpa using h5, ?_⟩⟩
      · rw [Row.cells_append, Row.cells_single, List.length_append, hL, R.len x hx]; simp only [List.length_append, List.length_cons, List.length_nil, Nat.zero_add, Nat.add_mul, Nat.one_mul]
      · have e2 : (l ++ [x]).length * R.k = l.length * R.k + R.k := by simp only [List.length_append, List.length_cons, List.length_nil, Nat.zero_add, Nat.add_mul, Nat.one_mul]
        have e3 : cur.toList.take (l.length * R.k) = R.cells l := by
          have := congrArg (List.take (l.length * R.k)) h6
          rw [List.take_take, Nat.min_eq_left (by omega), hce, List.take_left' hL] at this
          exact this
        rw [Row.cells_append, Row.cells_single, e2]
        simp only [splice]
        rw [e3, ← List.append_assoc, List.take_left' (by rw [List.length_append, hL, R.len x hx])]
theorem Dc.app {A : Nat} {a0 : Option Addr} {n0 c0 : Nat} {l0 : List UInt8} {b r X B : Nat} {t : TypeId} {w w' : World} {l : List UInt8} {vs : List Value} (h : Dc A a0 n0 c0 l0 b r X B t w l vs) {row : Option Nat} (hg : w.grownBy w' row) {T : TypeId}
    (hr : ∀ g, row = some g → ∃ cs, w.heap[g]? = some (.cells cs T (0, 0))) (h1 : T ≠ 5) (h2 : T ≠ 107) (h3 : T ≠ 150) (h4 : t ≠ T) : Dc A a0 n0 c0 l0 b r X B t w' l vs := by
  have no : ∀ {k : Nat} {t' : TypeId} {us : List Value}, Blk w k t' us → T ≠ t' → row ≠ some k := fun hb ht e => by
    obtain ⟨cs, hc⟩ := hr _ e
    rw [hb.at_] at hc
    simp only [Option.some.injEq, Obj.cells.injEq] at hc
    exact ht hc.2.1.symm
  obtain ⟨a, n, c, k1, k2⟩ := h.rd
  refine ⟨h.orig.kept hg (fun x e e2 => ?_), h.cb.grown hg (no h.cb h2), h.xb.grown hg (no h.xb (fun e => h4 e.symm)), ⟨a, n, c, k1.grown hg (no k1 h3), k2⟩, h.neb, h.lt, h.tu, Nat.le_trans h.le hg.size⟩
  obtain ⟨cs, hc⟩ := hr x e2
  exact h.orig.ne hc h1 e

/-- a slice that came in, where a coder that encodes doesn't lie -/
structure RdX (R : Row α) (w : World) (b B : Nat) (a : Option Addr) (n c : Nat) (l : List α) : Prop where
  rd : RdG R w a n c l
  lt : 0 < n → ∀ ad, a = some ad → ad.block < B ∧ ad.block ≠ b
theorem Addr.add_block (a : Addr) (j : Nat) : (a.add j).block = a.block := by unfold Addr.add; split <;> rfl
theorem RdG.stp {R : Row α} {K : Nat → Prop} {B : Nat} {w w' : World} {a : Option Addr} {n c : Nat} {l : List α} (h : RdG R w a n c l) (hs : Stp K B w w') (hk : 0 < n → ∀ ad, a = some ad → ad.block < B ∧ ¬ K ad.block) : RdG R w' a n c l := by
  refine ⟨h.len, h.ok, h.cap, h.max, h.nil, fun ad e j u hu => ?_⟩
  have hn : 0 < n := by
    have h1 := (List.getElem?_eq_some_iff.1 hu).1
    rw [Row.cells_length h.ok, h.len] at h1
    exact Nat.pos_of_ne_zero (fun e => by subst e; simp at h1)
  have := hk hn ad e
  exact hs.cell (h.cell ad e j u hu) (by rw [Addr.add_block]; exact this.1) (by rw [Addr.add_block]; exact this.2)
theorem RdX.stp {R : Row α} {b B : Nat} {w w' : World} {a : Option Addr} {n c : Nat} {l : List α} (h : RdX R w b B a n c l) (hs : Stp (· = b) B w w') : RdX R w' b B a n c l := ⟨h.rd.stp hs h.lt, h.lt⟩
theorem RdG.out {R : Row α} {b B : Nat} {w w' : World} {a : Option Addr} {n c : Nat} {l : List α} (h : RdG R w a n c l) (hb : Below w.heap.size w w') (h1 : w.heap.size ≤ b) (h2 : w.heap.size ≤ B) : RdX R w' b B a n c l :=
  ⟨h.below hb, fun hn ad e => by
    obtain ⟨bl, off, rfl, hlt, _⟩ := h.elems hn
    cases e
    exact ⟨by simp; omega, by simp; omega⟩⟩

/-- what is laid of a list -/
def loL {α : Type} (lo1 : α → Lo → Lo) (l : List α) (o : Lo) : Lo := if o.1 ≠ 0 then o else if 4096 < l.length then (2, o.2) else l.foldl (fun o x => lo1 x o) (loN l.length o)
theorem loL_stuck {lo1 : α → Lo → Lo} {l : List α} {o : Lo} (h : o.1 ≠ 0) : loL lo1 l o = o := by unfold loL; rw [if_pos h]
theorem loL_long {lo1 : α → Lo → Lo} {l : List α} {o : List UInt8} (h : 4096 < l.length) : loL lo1 l (0, o) = (2, o) := by unfold loL; rw [if_neg (by simp), if_pos h]
theorem loL_short {lo1 : α → Lo → Lo} {l : List α} {o : List UInt8} (h : l.length ≤ 4096) : loL lo1 l (0, o) = l.foldl (fun o x => lo1 x o) (0, o ++ encC l.length) := by
  unfold loL
  rw [if_neg (by simp), if_neg (by omega), loN_ok o (by omega) (by omega)]
  simp
theorem fold_step {f : Lo → α → Lo} {o : Lo} {l : List α} {k : Nat} {x0 : α} (h : k < l.length) : (l.take (k + 1)).foldl f o = f ((l.take k).foldl f o) (l.getD k x0) := by
  have e : l.getD k x0 = l[k] := by simp [List.getD, h]
  rw [e, List.take_succ_eq_append_getElem h, List.foldl_append]
  rfl
theorem fold_stuck {f : Lo → α → Lo} {o : Lo} (hf : ∀ x, f o x = o) : ∀ l : List α, l.foldl f o = o
  | [] => rfl
  | x :: l => by rw [List.foldl_cons, hf]; exact fold_stuck hf l
theorem fold_stop {f : Lo → α → Lo} {o o2 : Lo} {l : List α} {k : Nat} {x0 : α} (h : k < l.length) (h1 : f ((l.take k).foldl f o) (l.getD k x0) = o2) (hf : ∀ x, f o2 x = o2) : l.foldl f o = o2 := by
  have e : l.foldl f o = (l.drop (k + 1)).foldl f ((l.take (k + 1)).foldl f o) := by rw [← List.foldl_append, List.take_append_drop]
  rw [e, fold_step (x0 := x0) h, h1]
  exact fold_stuck hf _
theorem fold_len {f : Lo → α → Lo} {M : Nat} : ∀ (l : List α) (o : Lo), (∀ x ∈ l, ∀ o, (f o x).2.length ≤ o.2.length + M) → (l.foldl f o).2.length ≤ o.2.length + l.length * M
  | [], o, _ => by simp
  | x :: l, o, h => by
    have h1 := h x List.mem_cons_self o
    have h2 := fold_len l (f o x) (fun y hy => h y (List.mem_cons_of_mem _ hy))
    rw [List.foldl_cons, List.length_cons, Nat.add_mul]; omega
theorem loN_len3 (m : Int) (o : Lo) : (loN m o).2.length ≤ o.2.length + 5 := by
  unfold loN
  split
  · omega
  · split
    · rename_i h; have := encC_len m.toNat (by omega); simp; omega
    · simp
theorem loL_len2 {lo1 : α → Lo → Lo} {l : List α} {o : Lo} {M : Nat} (h : ∀ x ∈ l, ∀ o, (lo1 x o).2.length ≤ o.2.length + M) : (loL lo1 l o).2.length ≤ o.2.length + 5 + 4096 * M := by
  unfold loL
  split
  · omega
  · split
    · simp only; omega
    · have h1 := fold_len (f := fun o x => lo1 x o) l (loN l.length o) h
      have h2 := loN_len3 l.length o
      have h3 : l.length * M ≤ 4096 * M := Nat.mul_le_mul_right _ (by omega)
      omega

/-- so many things, one behind the other -/
def manyG {σ : Type} (g : List UInt8 → Option (σ × List UInt8)) : Nat → List UInt8 → Option (List σ × List UInt8)
  | 0, l => some ([], l)
  | k + 1, l => (manyG g k l).bind fun p => (g p.2).bind fun q => some (p.1 ++ [q.1], q.2)
theorem manyG_stop {σ : Type} {g : List UInt8 → Option (σ × List UInt8)} {k : Nat} {l : List UInt8} (h : manyG g k l = none) : ∀ n, k ≤ n → manyG g n l = none := by
  intro n hn
  induction n with
  | zero => obtain rfl : k = 0 := by omega
            exact h
  | succ n ih =>
    by_cases e : k = n + 1
    · subst e; exact h
    · rw [manyG, ih (by omega)]; rfl
def gL {σ : Type} (g : List UInt8 → Option (σ × List UInt8)) (l : List UInt8) : Option (List σ × List UInt8) := (gN l).bind fun p => if 4096 < p.1 then none else manyG g p.1.toNat p.2
end Go.Proofs.YtoclahcibilbhaaGreat
