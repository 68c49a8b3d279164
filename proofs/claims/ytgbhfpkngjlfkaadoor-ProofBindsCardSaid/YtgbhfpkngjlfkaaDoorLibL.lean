/-
  Slices of leaves: what they read as; rows of leaves of the call's own.
-/
import Derived.Test.YtgbhfpkngjlfkaaDoorLibB
import Derived.Test.YtgbhfpkngjlfkaaDoorLibT
import Derived.Great.BuildSlice
namespace Go.Proofs.YtgbhfpkngjlfkaaDoor
open Go.RowKit

/-- a leaf -/
structure Lf where
  path : List UInt8
  val : List UInt8
def Lf.ok (x : Lf) : Prop := x.path.length = 32 ∧ x.val.length = 32
/-- a leaf's cells -/
def lc (x : Lf) : List Value := bs x.path ++ bs x.val
def lcs (l : List Lf) : List Value := l.flatMap lc
def oks (l : List Lf) : Prop := ∀ x ∈ l, x.ok
def lf0 : Lf := ⟨[], []⟩

theorem lc_length {x : Lf} (h : x.ok) : (lc x).length = 64 := by simp [lc, bs_length, h.1, h.2]
theorem lc_one (x : Lf) : ∀ u ∈ lc x, u.oneCell' = true := by
  intro u hu
  rcases List.mem_append.1 hu with h | h
  · exact bs_one _ u h
  · exact bs_one _ u h
theorem lcs_one (l : List Lf) : ∀ u ∈ lcs l, u.oneCell' = true := by
  intro u hu
  obtain ⟨x, _, h⟩ := List.mem_flatMap.1 hu
  exact lc_one x u h
theorem lcs_append (l m : List Lf) : lcs (l ++ m) = lcs l ++ lcs m := by simp [lcs]
theorem lcs_single (x : Lf) : lcs [x] = lc x := by simp [lcs]
theorem oks.append {l m : List Lf} (h : oks l) (k : oks m) : oks (l ++ m) := fun x hx => (List.mem_append.1 hx).elim (h x) (k x)
theorem oks.single {x : Lf} (h : x.ok) : oks [x] := fun y hy => by
  obtain rfl : y = x := by simpa using hy
  exact h
theorem lcs_length : ∀ {l : List Lf}, oks l → (lcs l).length = l.length * 64
  | [], _ => rfl
  | x :: l, h => by
    have h1 := lc_length (h x List.mem_cons_self)
    have h2 := lcs_length (l := l) (fun y hy => h y (List.mem_cons_of_mem _ hy))
    have e : lcs (x :: l) = lc x ++ lcs l := by simp [lcs]
    rw [e, List.length_append, h1, h2, List.length_cons]; omega
theorem lcs_at : ∀ {l : List Lf}, oks l → ∀ i j, i < l.length → j < 64 → (lcs l)[i * 64 + j]? = (lc (l.getD i lf0))[j]?
  | [], _, i, _, hi, _ => absurd hi (Nat.not_lt_zero i)
  | x :: l, h, i, j, hi, hj => by
    have h1 := lc_length (h x List.mem_cons_self)
    have e : lcs (x :: l) = lc x ++ lcs l := by simp [lcs]
    rw [e]
    cases i with
    | zero =>
      rw [Nat.zero_mul, Nat.zero_add, List.getElem?_append_left (by omega)]
      rfl
    | succ i =>
      rw [List.getElem?_append_right (by omega), h1, show (i + 1) * 64 + j - 64 = i * 64 + j by omega,
        lcs_at (fun y hy => h y (List.mem_cons_of_mem _ hy)) i j (by simpa using hi) hj]
      rfl
theorem oks.at {l : List Lf} (h : oks l) {i : Nat} (hi : i < l.length) : (l.getD i lf0).ok := by
  have e : l.getD i lf0 = l[i] := by simp [List.getD, hi]
  rw [e]
  exact h _ (List.getElem_mem hi)

/-- a slice of leaves reads as l -/
structure RdL (w : World) (a : Option Addr) (n c : Nat) (l : List Lf) : Prop where
  len : l.length = n
  ok : oks l
  cap : n ≤ c
  max : c ≤ maxLen
  nil : a = none → n = 0 ∧ c = 0
  cell : ∀ ad, a = some ad → ∀ j u, (lcs l)[j]? = some u → w.cell? (ad.add j) = some u

theorem RdL.below {w w' : World} {a : Option Addr} {n c : Nat} {l : List Lf} (h : RdL w a n c l) (hb : Below w.heap.size w w') : RdL w' a n c l :=
  ⟨h.len, h.ok, h.cap, h.max, h.nil, fun ad e j u hu => cell_later hb (h.cell ad e j u hu)⟩
theorem RdL.nil0 (w : World) : RdL w none 0 0 [] := ⟨rfl, fun _ h => (by simp at h), Nat.le_refl _, by decide, fun _ => ⟨rfl, rfl⟩, fun _ e => by cases e⟩

/-- where the leaves of a slice lie -/
theorem RdL.elems {w : World} {a : Option Addr} {n c : Nat} {l : List Lf} (h : RdL w a n c l) (hn : 0 < n) : ∃ b off, a = some ⟨b, off, none⟩ ∧ b < w.heap.size ∧ ∀ i, i < n → w.rangeAt b (off + i * 64) (lc (l.getD i lf0)) := by
  cases a with
  | none => have := (h.nil rfl).1; omega
  | some ad =>
    have hl := h.len
    obtain ⟨b, off, sp⟩ := ad
    have hL := lcs_length h.ok
    have h0 := h.cell _ rfl 0 _ (List.getElem?_eq_getElem (show 0 < (lcs l).length by omega))
    obtain rfl : sp = none := by simpa [Addr.add] using World.cell?_spot h0
    refine ⟨b, off, rfl, World.block_lt_of_cell? _ _ (by simpa [Addr.add] using h0), fun i hi j v hv => ?_⟩
    have hj : j < 64 := by
      have := (List.getElem?_eq_some_iff.1 hv).1
      rwa [lc_length (h.ok.at (by omega))] at this
    have := h.cell _ rfl (i * 64 + j) v (by rw [lcs_at h.ok i j (by omega) hj]; exact hv)
    rw [Addr.add_lit, ← Nat.add_assoc] at this
    exact this
theorem range_path {w : World} {b o : Nat} {x : Lf} (h : w.rangeAt b o (lc x)) : w.rangeAt b o (bs x.path) := fun j v hv =>
  h j v (by rw [lc, List.getElem?_append_left (List.getElem?_eq_some_iff.1 hv).1]; exact hv)
theorem range_val {w : World} {b o : Nat} {x : Lf} (hx : x.ok) (h : w.rangeAt b o (lc x)) : w.rangeAt b (o + 32) (bs x.val) := fun j v hv => by
  have := h (32 + j) v (by rw [lc, List.getElem?_append_right (by rw [bs_length, hx.1]; omega), bs_length, hx.1, Nat.add_sub_cancel_left]; exact hv)
  rwa [← Nat.add_assoc] at this

/-- a row of leaves of the call's own -/
def OwnL (w : World) (base : Nat) (v : Value) (l : List Lf) : Prop := oks l ∧ w.ownsRow base 46 64 v l.length (lcs l)
theorem OwnL.nil0 (w : World) (base : Nat) : OwnL w base (.slice none 0 0) [] := ⟨fun _ h => (by simp at h), World.ownsRow_nil w base 46 64⟩
theorem OwnL.shape {w base v l} (h : OwnL w base v l) : ∃ a c, v = .slice a l.length c := by
  rcases h.2.2 with ⟨rfl, h2⟩ | ⟨g, cap, cur, rfl, _⟩
  · exact ⟨none, 0, by rw [h2]⟩
  · exact ⟨_, _, rfl⟩
theorem OwnL.below {w w' base v l} (h : OwnL w base v l) (hb : Below w.heap.size w w') : OwnL w' base v l := by
  refine ⟨h.1, h.2.1, ?_⟩
  rcases h.2.2 with h2 | ⟨g, cap, cur, hv, hg, hh, r⟩
  · exact .inl h2
  · exact .inr ⟨g, cap, cur, hv, hg, (hb.block g (lt_of_block hh)).trans hh, r⟩
theorem OwnL.lower {w base base' v l} (h : OwnL w base v l) (hb : base' ≤ base) : OwnL w base' v l := by
  refine ⟨h.1, h.2.1, ?_⟩
  rcases h.2.2 with h2 | ⟨g, cap, cur, hv, hg, r⟩
  · exact .inl h2
  · exact .inr ⟨g, cap, cur, hv, Nat.le_trans hb hg, r⟩
theorem OwnL.kept {w w' : World} {base : Nat} {v : Value} {l : List Lf} {row : Option Nat} (h : OwnL w base v l) (hg : w.grownBy w' row) (hne : ∀ x, v.ownBlock = some x → row ≠ some x) : OwnL w' base v l := by
  refine ⟨h.1, h.2.1, ?_⟩
  rcases h.2.2 with h2 | ⟨g, cap, cur, hv, hb, hh, r⟩
  · exact .inl h2
  · exact .inr ⟨g, cap, cur, hv, hb, (hg.block g (lt_of_block hh) (fun e => hne g (by rw [hv]; rfl) e.symm)).trans hh, r⟩
theorem OwnL.lt {w : World} {base : Nat} {v : Value} {l : List Lf} (h : OwnL w base v l) {x : Nat} (e : v.ownBlock = some x) : base ≤ x ∧ x < w.heap.size := World.ownsRow.lt h.2 x e
theorem OwnL.rd {w base a n c l} (h : OwnL w base (.slice a n c) l) : RdL w a n c l := by
  rcases h.2.2 with ⟨hv, h2⟩ | ⟨g, cap, cur, hv, _, hg, hnc, hcm, hcs, htake⟩
  · cases hv
    exact ⟨by simpa using h2, h.1, Nat.le_refl _, by decide, fun _ => ⟨rfl, rfl⟩, (fun _ e => by cases e)⟩
  · cases hv
    refine ⟨rfl, h.1, hnc, hcm, (fun e => by cases e), fun ad e j u hu => ?_⟩
    cases e
    exact World.ownsRow.cells h.2 rfl j u hu

theorem infoLeaf : (Tryd.prog.info? 46).map (fun i => (i.zero, i.size, i.bytes)) = some (some (.agg (bs (zero32 ++ zero32)).toArray), 64, 64) := by kernel_rfl

/-- append(s, x...) onto a row of leaves of the call's own -/
theorem wpList_appL {w : World} {ops : Array Oper} {rest : List Oper} {o : Oper} {a : Act} {Q : Exit → Act → World → Prop} (hgd : o.guard = none) (s x : Operand)
    (ho : o.op = Op.call { callee := Callee.builtin Builtin.append, args := #[s, x], argTypes := #[41, 41] })
    {base : Nat} {v : Value} {q l : List Lf} {ao : Option Addr} {n c : Nat} (hs : a.eval s = v) (hO : OwnL w base v q) (hx : a.eval x = .slice ao n c) (hR : RdL w ao n c l)
    (hsz : q.length + n ≤ 1000000) (hbase : base ≤ w.heap.size)
    (hK : ∀ ao' c' w', OwnL w' base (.slice ao' (q.length + n) c') (q ++ l) → w.grownBy w' v.ownBlock → ((Value.slice ao' (q.length + n) c').ownBlock = v.ownBlock ∨ (Value.slice ao' (q.length + n) c').ownBlock = some w.heap.size) → wpList Tryd.prog ops Q rest (a.put o.dst (.slice ao' (q.length + n) c')) w') :
    wpList Tryd.prog ops Q (o :: rest) a w := by
  obtain ⟨i, hi, hz0, hz1, hz2⟩ := info_parts infoLeaf
  have hl := hR.len
  cases ao with
  | none =>
    obtain ⟨rfl, rfl⟩ := hR.nil rfl
    obtain rfl : l = [] := List.eq_nil_of_length_eq_zero hl
    obtain ⟨a', c', rfl⟩ := hO.shape
    refine wpList_plain hgd fun K hK' => ?_
    have hrun := run_append_owned_none (P := Tryd.prog) w base 41 o.type 46 i 64 Tryd.underlying41 hi _ _ _ hO.2
    unfold Oper.wp
    simp [execOp, ho, resolve, invoke, builtin, hs, hx, hrun, Result.andThen]
    exact hK' _ _ (hK a' c' w (by simpa using hO) (World.grownBy.refl _ _) (.inl rfl))
  | some ad =>
    have hL := lcs_length hR.ok
    refine wpList_append_own_at w hgd s x 41 ho base 46 i _ 64 64 Tryd.underlying41 hi hz0 hz1 hz2 (by simp [Value.cells, bs_length, zero32_length]) (by decide) v q.length (lcs q) hs hO.2 ad n c (lcs l) hx (by omega) (hR.cell ad rfl) (lcs_one l) (by unfold maxLen; omega) (by omega) hbase ?_
    intro v' w' h1 h2 _ h4
    have hO' : OwnL w' base v' (q ++ l) := ⟨hO.1.append hR.ok, by rw [List.length_append, hl, lcs_append]; exact h1⟩
    obtain ⟨a', c', rfl⟩ := hO'.shape
    have e : (q ++ l).length = q.length + n := by rw [List.length_append, hl]
    rw [e] at hO' h4 ⊢
    exact hK a' c' w' hO' h2 h4

theorem fill_one (z : Array Value) (hz : z.size = 64) (cs : List Value) (hc : cs.length = 64) :
    Instr.fill (fun i => some (i * 64, 64)) z [(0, Value.agg cs.toArray)] = some cs.toArray := by
  obtain ⟨r, hr, hsz, hk⟩ := Go.Great.fill_dense (s := 64) (by decide) [Value.agg cs.toArray] 0 z (fun v hv => by
    obtain rfl : v = .agg cs.toArray := by simpa using hv
    simpa [Value.cells] using hc) (by simp [hz])
  have e : (([Value.agg cs.toArray].zipIdx 0).map fun x => (x.2, x.1)) = [(0, Value.agg cs.toArray)] := rfl
  rw [e] at hr
  rw [hr]
  congr 1
  refine Array.ext_getElem? fun k => ?_
  rw [hk k]
  by_cases h : k < 64
  · rw [if_pos (by simp; omega), show k / 64 = 0 by omega, show k % 64 = k by omega]
    simp [Value.cells]
  · rw [if_neg (by simp; omega), Array.getElem?_eq_none (by omega)]
    simp
    omega

/-- []api.Leaf{x} -/
theorem wpList_oneL {w : World} {ops : Array Oper} {rest : List Oper} {o : Oper} {a : Act} {Q : Exit → Act → World → Prop} (hgd : o.guard = none) (x : Operand)
    (ho : o.op = .buildSlice 41 1 #[(0, x)]) {y : Lf} (hx : a.eval x = .agg (lc y).toArray) (hy : y.ok)
    (h : wpList Tryd.prog ops Q rest (a.put o.dst (.slice (some ⟨w.heap.size, 0, none⟩) 1 1)) (w.alloc (.cells (lc y).toArray 46))) : wpList Tryd.prog ops Q (o :: rest) a w := by
  obtain ⟨i, hi, hz0, hz1, hz2⟩ := info_parts infoLeaf
  refine wpList_buildSlice hgd 41 46 1 #[(0, x)] ho _ i _ Tryd.underlying41 hi hz0 (by rw [hz1]; decide) (by rw [hz1]; decide) ?_ h
  rw [hz1]
  have e : ((#[(0, x)] : Array (Nat × Operand)).map fun (i, x) => (i, a.eval x)).toList = [(0, Value.agg (lc y).toArray)] := by simp [hx]
  rw [e]
  exact fill_one _ (by simp) (lc y) (lc_length hy)
theorem RdL.one (w : World) {y : Lf} (hy : y.ok) : RdL (w.alloc (.cells (lc y).toArray 46)) (some ⟨w.heap.size, 0, none⟩) 1 1 [y] := by
  refine ⟨rfl, oks.single hy, Nat.le_refl _, by decide, (fun e => by cases e), fun ad e j u hu => ?_⟩
  cases e
  rw [lcs_single] at hu
  exact World.news_of_block (World.alloc_heap_new w _) j u (by simpa using hu)
end Go.Proofs.YtgbhfpkngjlfkaaDoor
