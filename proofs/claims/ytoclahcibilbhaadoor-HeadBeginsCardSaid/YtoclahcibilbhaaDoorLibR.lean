/-
  Slices of elements of any one kind: what they read as; rows of them of the call's own.
-/
import Derived.Test.YtoclahcibilbhaaDoorLibB
import Derived.Test.YtoclahcibilbhaaDoorLibT
import Derived.Test.YtoclahcibilbhaaDoorLibO
import Derived.Great.BuildSlice
namespace Go.Proofs.YtoclahcibilbhaaDoor
open Go.RowKit
set_option maxRecDepth 100000

/-- a kind of elements: the element's type, the slice's, so many cells, so many bytes, its cells -/
structure Row (α : Type) where
  T : TypeId
  S : TypeId
  k : Nat
  b : Nat
  cs : α → List Value
  ok : α → Prop
  x0 : α
  z : Value
  pos : 0 < k
  klt : k ≤ 1024
  small : b ≤ 1024
  len : ∀ x, ok x → (cs x).length = k
  one : ∀ x, ∀ u ∈ cs x, u.oneCell' = true
  und : Tryd.prog.underlying S = some (.slice T)
  info : (Tryd.prog.info? T).map (fun i => (i.zero, i.size, i.bytes)) = some (some z, k, b)
  zc : z.cells.size = k

variable {α : Type}
def Row.all (R : Row α) (l : List α) : Prop := ∀ x ∈ l, R.ok x
def Row.cells (R : Row α) (l : List α) : List Value := l.flatMap R.cs
section
variable {R : Row α}
theorem Row.cells_one (l : List α) : ∀ u ∈ R.cells l, u.oneCell' = true := by
  intro u hu
  obtain ⟨x, _, h⟩ := List.mem_flatMap.1 hu
  exact R.one x u h
theorem Row.cells_append (l m : List α) : R.cells (l ++ m) = R.cells l ++ R.cells m := by simp [Row.cells]
theorem Row.cells_single (x : α) : R.cells [x] = R.cs x := by simp [Row.cells]
theorem Row.all.append {l m : List α} (h : R.all l) (k : R.all m) : R.all (l ++ m) := fun x hx => (List.mem_append.1 hx).elim (h x) (k x)
theorem Row.all.single {x : α} (h : R.ok x) : R.all [x] := fun y hy => by
  obtain rfl : y = x := by simpa using hy
  exact h
theorem Row.all.nil : R.all [] := fun _ h => (by simp at h)
theorem Row.all.take {l : List α} (h : R.all l) (k : Nat) : R.all (l.take k) := fun x hx => h x (List.mem_of_mem_take hx)
theorem Row.cells_length : ∀ {l : List α}, R.all l → (R.cells l).length = l.length * R.k
  | [], _ => by simp [Row.cells]
  | x :: l, h => by
    have h1 := R.len x (h x List.mem_cons_self)
    have h2 := Row.cells_length (l := l) (fun y hy => h y (List.mem_cons_of_mem _ hy))
    have e : R.cells (x :: l) = R.cs x ++ R.cells l := by simp [Row.cells]
    rw [e, List.length_append, h1, h2, List.length_cons, Nat.add_mul]; omega
theorem Row.cells_at : ∀ {l : List α}, R.all l → ∀ i j, i < l.length → j < R.k → (R.cells l)[i * R.k + j]? = (R.cs (l.getD i R.x0))[j]?
  | [], _, i, _, hi, _ => absurd hi (Nat.not_lt_zero i)
  | x :: l, h, i, j, hi, hj => by
    have h1 := R.len x (h x List.mem_cons_self)
    have e : R.cells (x :: l) = R.cs x ++ R.cells l := by simp [Row.cells]
    rw [e]
    cases i with
    | zero =>
      rw [Nat.zero_mul, Nat.zero_add, List.getElem?_append_left (by omega)]
      rfl
    | succ i =>
      have e2 : (i + 1) * R.k + j = R.k + (i * R.k + j) := by rw [Nat.add_mul]; omega
      rw [e2, List.getElem?_append_right (by omega), h1, Nat.add_sub_cancel_left,
        Row.cells_at (fun y hy => h y (List.mem_cons_of_mem _ hy)) i j (by simpa using hi) hj]
      rfl
theorem Row.all.at {l : List α} (h : R.all l) {i : Nat} (hi : i < l.length) : R.ok (l.getD i R.x0) := by
  have e : l.getD i R.x0 = l[i] := by simp [List.getD, hi]
  rw [e]
  exact h _ (List.getElem_mem hi)
end

/-- a slice reads as l -/
structure RdG (R : Row α) (w : World) (a : Option Addr) (n c : Nat) (l : List α) : Prop where
  len : l.length = n
  ok : R.all l
  cap : n ≤ c
  max : c ≤ maxLen
  nil : a = none → n = 0 ∧ c = 0
  cell : ∀ ad, a = some ad → ∀ j u, (R.cells l)[j]? = some u → w.cell? (ad.add j) = some u
section
variable {R : Row α}
theorem RdG.below {w w' : World} {a : Option Addr} {n c : Nat} {l : List α} (h : RdG R w a n c l) (hb : Below w.heap.size w w') : RdG R w' a n c l :=
  ⟨h.len, h.ok, h.cap, h.max, h.nil, fun ad e j u hu => cell_later hb (h.cell ad e j u hu)⟩
theorem RdG.nil0 (w : World) : RdG R w none 0 0 [] := ⟨rfl, Row.all.nil, Nat.le_refl _, by decide, fun _ => ⟨rfl, rfl⟩, fun _ e => by cases e⟩
theorem RdG.lt {w : World} {b off n c : Nat} {l : List α} (h : RdG R w (some ⟨b, off, none⟩) n c l) (hn : 0 < n) : b < w.heap.size := by
  have hl := h.len
  have hL := Row.cells_length h.ok
  have h1 : 0 < l.length * R.k := Nat.mul_pos (by omega) R.pos
  have h0 := h.cell _ rfl 0 _ (List.getElem?_eq_getElem (show 0 < (R.cells l).length by omega))
  exact World.block_lt_of_cell? _ _ (by simpa [Addr.add] using h0)

/-- where the elements of a slice lie -/
theorem RdG.elems {w : World} {a : Option Addr} {n c : Nat} {l : List α} (h : RdG R w a n c l) (hn : 0 < n) : ∃ b off, a = some ⟨b, off, none⟩ ∧ b < w.heap.size ∧ ∀ i, i < n → w.rangeAt b (off + i * R.k) (R.cs (l.getD i R.x0)) := by
  cases a with
  | none => have := (h.nil rfl).1; omega
  | some ad =>
    have hl := h.len
    obtain ⟨b, off, sp⟩ := ad
    have hL := Row.cells_length h.ok
    have h1 : 0 < l.length * R.k := Nat.mul_pos (by omega) R.pos
    have h0 := h.cell _ rfl 0 _ (List.getElem?_eq_getElem (show 0 < (R.cells l).length by omega))
    obtain rfl : sp = none := by simpa [Addr.add] using World.cell?_spot h0
    refine ⟨b, off, rfl, World.block_lt_of_cell? _ _ (by simpa [Addr.add] using h0), fun i hi j v hv => ?_⟩
    have hj : j < R.k := by
      have := (List.getElem?_eq_some_iff.1 hv).1
      rwa [R.len _ (h.ok.at (by omega))] at this
    have := h.cell _ rfl (i * R.k + j) v (by rw [Row.cells_at h.ok i j (by omega) hj]; exact hv)
    rw [Addr.add_lit, ← Nat.add_assoc] at this
    exact this
/-- s[:k] -/
theorem RdG.take {w : World} {a : Option Addr} {n c : Nat} {l : List α} (h : RdG R w a n c l) (k : Nat) (hk : k ≤ n) : RdG R w a k c (l.take k) := by
  have hl := h.len
  have hc := h.cap
  refine ⟨by simp; omega, h.ok.take k, by omega, h.max, fun e => by have := h.nil e; omega, fun ad e j u hu => h.cell ad e j u ?_⟩
  have e1 : R.cells l = R.cells (l.take k) ++ R.cells (l.drop k) := by rw [← Row.cells_append, List.take_append_drop]
  rw [e1, List.getElem?_append_left (List.getElem?_eq_some_iff.1 hu).1]
  exact hu
end

/-- a row of the call's own -/
def OwnG (R : Row α) (w : World) (base : Nat) (v : Value) (l : List α) : Prop := R.all l ∧ w.ownsRow base R.T R.k v l.length (R.cells l)
section
variable {R : Row α}
theorem OwnG.nil0 (w : World) (base : Nat) : OwnG R w base (.slice none 0 0) [] := ⟨Row.all.nil, World.ownsRow_nil w base R.T R.k⟩
theorem OwnG.shape {w base v} {l : List α} (h : OwnG R w base v l) : ∃ a c, v = .slice a l.length c := by
  rcases h.2.2 with ⟨rfl, h2⟩ | ⟨g, cap, cur, rfl, _⟩
  · exact ⟨none, 0, by rw [h2]⟩
  · exact ⟨_, _, rfl⟩
theorem OwnG.below {w w' base v} {l : List α} (h : OwnG R w base v l) (hb : Below w.heap.size w w') : OwnG R w' base v l := by
  refine ⟨h.1, h.2.1, ?_⟩
  rcases h.2.2 with h2 | ⟨g, cap, cur, hv, hg, hh, r⟩
  · exact .inl h2
  · exact .inr ⟨g, cap, cur, hv, hg, (hb.block g (lt_of_block hh)).trans hh, r⟩
theorem OwnG.lower {w base base' v} {l : List α} (h : OwnG R w base v l) (hb : base' ≤ base) : OwnG R w base' v l := by
  refine ⟨h.1, h.2.1, ?_⟩
  rcases h.2.2 with h2 | ⟨g, cap, cur, hv, hg, r⟩
  · exact .inl h2
  · exact .inr ⟨g, cap, cur, hv, Nat.le_trans hb hg, r⟩
theorem OwnG.kept {w w' : World} {base : Nat} {v : Value} {l : List α} {row : Option Nat} (h : OwnG R w base v l) (hg : w.grownBy w' row) (hne : ∀ x, v.ownBlock = some x → row ≠ some x) : OwnG R w' base v l := by
  refine ⟨h.1, h.2.1, ?_⟩
  rcases h.2.2 with h2 | ⟨g, cap, cur, hv, hb, hh, r⟩
  · exact .inl h2
  · exact .inr ⟨g, cap, cur, hv, hb, (hg.block g (lt_of_block hh) (fun e => hne g (by rw [hv]; rfl) e.symm)).trans hh, r⟩
theorem OwnG.lt {w : World} {base : Nat} {v : Value} {l : List α} (h : OwnG R w base v l) {x : Nat} (e : v.ownBlock = some x) : base ≤ x ∧ x < w.heap.size := World.ownsRow.lt h.2 x e
theorem OwnG.rd {w base a n c} {l : List α} (h : OwnG R w base (.slice a n c) l) : RdG R w a n c l := by
  rcases h.2.2 with ⟨hv, h2⟩ | ⟨g, cap, cur, hv, _, hg, hnc, hcm, hcs, htake⟩
  · cases hv
    exact ⟨by simpa using h2, h.1, Nat.le_refl _, by decide, fun _ => ⟨rfl, rfl⟩, (fun _ e => by cases e)⟩
  · cases hv
    refine ⟨rfl, h.1, hnc, hcm, (fun e => by cases e), fun ad e j u hu => ?_⟩
    cases e
    exact World.ownsRow.cells h.2 rfl j u hu
end

/-- append(s, x...) onto a row of the call's own, as one operation -/
theorem wp_appG (R : Row α) {w : World} {o : Oper} {a : Act} {K : Act → World → Prop} {Q : Exit → Act → World → Prop} (s x : Operand)
    (ho : o.op = Op.call { callee := Callee.builtin Builtin.append, args := #[s, x], argTypes := #[R.S, R.S] })
    {base : Nat} {v : Value} {q l : List α} {ao : Option Addr} {n c : Nat} (hs : a.eval s = v) (hO : OwnG R w base v q) (hx : a.eval x = .slice ao n c) (hR : RdG R w ao n c l)
    (hsz : q.length + n ≤ 1000000) (hbase : base ≤ w.heap.size)
    (hK : ∀ ao' c' w', OwnG R w' base (.slice ao' (q.length + n) c') (q ++ l) → w.grownBy w' v.ownBlock → ((Value.slice ao' (q.length + n) c').ownBlock = v.ownBlock ∨ (Value.slice ao' (q.length + n) c').ownBlock = some w.heap.size) → K (a.put o.dst (.slice ao' (q.length + n) c')) w') :
    Oper.wp Tryd.prog o a w K Q := by
  obtain ⟨i, hi, hz0, hz1, hz2⟩ := info_parts R.info
  have hl := hR.len
  have hsm := R.small
  have hkl := R.klt
  cases ao with
  | none =>
    obtain ⟨rfl, rfl⟩ := hR.nil rfl
    obtain rfl : l = [] := List.eq_nil_of_length_eq_zero hl
    obtain ⟨a', c', rfl⟩ := hO.shape
    have hrun := run_append_owned_none (P := Tryd.prog) w base R.S o.type R.T i R.k R.und hi _ _ _ hO.2
    unfold Oper.wp
    simp [execOp, ho, resolve, invoke, builtin, hs, hx, hrun, Result.andThen]
    exact (hK a' c' w (by simpa using hO) (World.grownBy.refl _ _) (.inl rfl))
  | some ad =>
    have hL := Row.cells_length hR.ok
    have hb : (q.length + n) * R.b ≤ 1000000 * 1024 := Nat.mul_le_mul hsz hsm
    obtain ⟨v', w', hr, h1, h2, _, h4⟩ := run_append_own_at (P := Tryd.prog) w base R.S o.type R.T i R.z R.k R.b R.und hi hz0 hz1 hz2 R.zc R.pos v q.length (R.cells q) hO.2 ad n c (R.cells l) (by rw [hL, hl]) (hR.cell ad rfl) (Row.cells_one l) (by unfold maxLen; omega) (by omega) hbase
    have hO' : OwnG R w' base v' (q ++ l) := ⟨hO.1.append hR.ok, by rw [List.length_append, hl, Row.cells_append]; exact h1⟩
    obtain ⟨a', c', rfl⟩ := hO'.shape
    have e : (q ++ l).length = q.length + n := by rw [List.length_append, hl]
    rw [e] at hO' h4 hr
    unfold Oper.wp execOp
    simp only [ho, resolve, invoke, builtin, Sem.run_bind, Sem.run_pure, Result.andThen_ok, List.map_toArray, List.map_cons, List.map_nil, hs, hx, hr]
    exact hK a' c' w' hO' h2 h4
/-- append(s, x...) onto a row of the call's own -/
theorem wpList_appG (R : Row α) {w : World} {ops : Array Oper} {rest : List Oper} {o : Oper} {a : Act} {Q : Exit → Act → World → Prop} (hgd : o.guard = none) (s x : Operand)
    (ho : o.op = Op.call { callee := Callee.builtin Builtin.append, args := #[s, x], argTypes := #[R.S, R.S] })
    {base : Nat} {v : Value} {q l : List α} {ao : Option Addr} {n c : Nat} (hs : a.eval s = v) (hO : OwnG R w base v q) (hx : a.eval x = .slice ao n c) (hR : RdG R w ao n c l)
    (hsz : q.length + n ≤ 1000000) (hbase : base ≤ w.heap.size)
    (hK : ∀ ao' c' w', OwnG R w' base (.slice ao' (q.length + n) c') (q ++ l) → w.grownBy w' v.ownBlock → ((Value.slice ao' (q.length + n) c').ownBlock = v.ownBlock ∨ (Value.slice ao' (q.length + n) c').ownBlock = some w.heap.size) → wpList Tryd.prog ops Q rest (a.put o.dst (.slice ao' (q.length + n) c')) w') :
    wpList Tryd.prog ops Q (o :: rest) a w :=
  wpList_plain hgd fun _ hK' => wp_appG R s x ho hs hO hx hR hsz hbase fun a' c' w' h1 h2 h3 => hK' _ _ (hK a' c' w' h1 h2 h3)

theorem Row.fill (R : Row α) (z : Array Value) (ys : List α) (hk : R.all ys) (hz : z.size = ys.length * R.k) :
    Instr.fill (fun i => some (i * R.k, R.k)) z (((ys.map fun y => Value.agg (R.cs y).toArray).zipIdx 0).map fun x => (x.2, x.1)) = some (R.cells ys).toArray := by
  obtain ⟨r, hr, hsz, hc⟩ := Go.Great.fill_dense (s := R.k) R.pos (ys.map fun y => Value.agg (R.cs y).toArray) 0 z (fun v hv => by
    obtain ⟨y, hy, rfl⟩ := List.mem_map.1 hv
    simpa [Value.cells] using R.len y (hk y hy)) (by simp [hz])
  rw [hr]
  congr 1
  refine Array.ext_getElem? fun k => ?_
  rw [hc k]
  have hl := Row.cells_length hk
  have hp := R.pos
  by_cases h : k < ys.length * R.k
  · have hi : k / R.k < ys.length := Nat.div_lt_of_lt_mul (by rw [Nat.mul_comm]; exact h)
    have h1 := Row.cells_at hk (k / R.k) (k % R.k) hi (Nat.mod_lt _ hp)
    rw [Nat.mul_comm, Nat.div_add_mod] at h1
    rw [if_pos (by simpa using h)]
    have hg : ys.getD (k / R.k) R.x0 = ys[k / R.k] := by simp [List.getD, hi]
    rw [hg] at h1
    simp [Value.cells, hi, h1]
  · rw [if_neg (by simpa using h), Array.getElem?_eq_none (by omega)]
    simp
    omega

/-- []T{x, y, ..} -/
theorem wp_manyG (R : Row α) {w : World} {o : Oper} {a : Act} {K : Act → World → Prop} {Q : Exit → Act → World → Prop} (n : Nat) (parts : Array (Nat × Operand)) (ho : o.op = .buildSlice R.S n parts)
    {ys : List α} (hk : R.all ys) (hn : ys.length = n) (hnn : n ≤ 4096) (hpos : 0 < n)
    (hx : (parts.map fun (i, x) => (i, a.eval x)).toList = ((ys.map fun y => Value.agg (R.cs y).toArray).zipIdx 0).map fun x => (x.2, x.1))
    (h : K (a.put o.dst (.slice (some ⟨w.heap.size, 0, none⟩) n n)) (w.alloc (.cells (R.cells ys).toArray R.T))) : Oper.wp Tryd.prog o a w K Q := by
  obtain ⟨i, hi, hz0, hz1, hz2⟩ := info_parts R.info
  subst hn
  have hkl := R.klt
  have h1 : ys.length * R.k ≤ 4096 * 1024 := Nat.mul_le_mul hnn hkl
  have h2 : 0 < ys.length * R.k := Nat.mul_pos hpos R.pos
  refine wp_buildSlice R.S R.T ys.length parts ho _ i _ R.und hi hz0 ?_ ?_ ?_ h
  · rw [hz1]; omega
  · rw [hz1]; omega
  · rw [hz1, hx]
    exact R.fill _ ys hk (by simp)
theorem wpList_manyG (R : Row α) {w : World} {ops : Array Oper} {rest : List Oper} {o : Oper} {a : Act} {Q : Exit → Act → World → Prop} (hgd : o.guard = none) (n : Nat) (parts : Array (Nat × Operand)) (ho : o.op = .buildSlice R.S n parts)
    {ys : List α} (hk : R.all ys) (hn : ys.length = n) (hnn : n ≤ 4096) (hpos : 0 < n)
    (hx : (parts.map fun (i, x) => (i, a.eval x)).toList = ((ys.map fun y => Value.agg (R.cs y).toArray).zipIdx 0).map fun x => (x.2, x.1))
    (h : wpList Tryd.prog ops Q rest (a.put o.dst (.slice (some ⟨w.heap.size, 0, none⟩) n n)) (w.alloc (.cells (R.cells ys).toArray R.T))) : wpList Tryd.prog ops Q (o :: rest) a w :=
  wpList_plain hgd fun _ hK => wp_manyG R n parts ho hk hn hnn hpos hx (hK _ _ h)
theorem wpList_oneG (R : Row α) {w : World} {ops : Array Oper} {rest : List Oper} {o : Oper} {a : Act} {Q : Exit → Act → World → Prop} (hgd : o.guard = none) (x1 : Operand) (ho : o.op = .buildSlice R.S 1 #[(0, x1)])
    {y1 : α} (hk : R.ok y1) (hx1 : a.eval x1 = .agg (R.cs y1).toArray)
    (h : wpList Tryd.prog ops Q rest (a.put o.dst (.slice (some ⟨w.heap.size, 0, none⟩) 1 1)) (w.alloc (.cells (R.cells [y1]).toArray R.T))) : wpList Tryd.prog ops Q (o :: rest) a w :=
  wpList_manyG R hgd 1 _ ho (Row.all.single hk) rfl (by decide) (by decide) (by simp [hx1]) h
theorem wpList_twoG (R : Row α) {w : World} {ops : Array Oper} {rest : List Oper} {o : Oper} {a : Act} {Q : Exit → Act → World → Prop} (hgd : o.guard = none) (x1 x2 : Operand) (ho : o.op = .buildSlice R.S 2 #[(0, x1), (1, x2)])
    {y1 y2 : α} (hk : R.all [y1, y2]) (hx1 : a.eval x1 = .agg (R.cs y1).toArray) (hx2 : a.eval x2 = .agg (R.cs y2).toArray)
    (h : wpList Tryd.prog ops Q rest (a.put o.dst (.slice (some ⟨w.heap.size, 0, none⟩) 2 2)) (w.alloc (.cells (R.cells [y1, y2]).toArray R.T))) : wpList Tryd.prog ops Q (o :: rest) a w :=
  wpList_manyG R hgd 2 _ ho hk rfl (by decide) (by decide) (by simp [hx1, hx2]) h
theorem RdG.many {R : Row α} (w : World) {ys : List α} {n : Nat} (hk : R.all ys) (hn : ys.length = n) (hnn : n ≤ 4096) : RdG R (w.alloc (.cells (R.cells ys).toArray R.T)) (some ⟨w.heap.size, 0, none⟩) n n ys := by
  refine ⟨hn, hk, Nat.le_refl _, by unfold maxLen; omega, (fun e => by cases e), fun ad e j u hu => ?_⟩
  cases e
  exact World.news_of_block (World.alloc_heap_new w _) j u (by simpa using hu)
/-- a whole element out of memory, behind a guard that says yes or without one -/
theorem wpList_loadGR (R : Row α) {w : World} {ops : Array Oper} {rest : List Oper} {o : Oper} {a : Act} {Q : Exit → Act → World → Prop} (hw : Region.wanted o (yielded ops a.tmps) = true) (b off : Nat) (x : Operand) (ho : o.op = .load R.T x)
    (hx : a.eval x = .pointer (some ⟨b, off, none⟩)) {y : α} (hk : R.ok y) (hc : w.rangeAt b off (R.cs y)) {d : TypeDesc} (hu : Tryd.prog.underlying R.T = some d) (hrow : d.isRow = true)
    (h : wpList Tryd.prog ops Q rest (a.put o.dst (.agg (R.cs y).toArray)) w) : wpList Tryd.prog ops Q (o :: rest) a w :=
  wpList_step fun K hK => by
    rw [if_pos hw]
    obtain ⟨i, hi, hz0, hz1, hz2⟩ := info_parts R.info
    exact wp_load_mid R.T x ho b off hx (R.cs y) d hc hu hrow (by rw [hi, R.len y hk]; simp [hz1]) (hK _ _ h)
theorem yieldsIf_loadG (R : Row α) {ops : Array Oper} {S : World → Prop} {o : Oper} {a : Act} (hw : Region.wanted o (yielded ops a.tmps) = true) (b off : Nat) (x : Operand) (ho : o.op = .load R.T x)
    (hx : a.eval x = .pointer (some ⟨b, off, none⟩)) {y : α} (hk : R.ok y) (hc : ∀ W, S W → W.rangeAt b off (R.cs y)) {d : TypeDesc} (hu : Tryd.prog.underlying R.T = some d) (hrow : d.isRow = true) : YieldsIf Tryd.prog ops S o (.agg (R.cs y).toArray) a := by
  obtain ⟨i, hi, hz0, hz1, hz2⟩ := info_parts R.info
  exact yieldsIf_load_mid hw R.T x ho b off hx (R.cs y) d hc hu hrow (by rw [hi, R.len y hk]; simp [hz1])
/-- a whole element into a variable of its own -/
theorem wpList_storeG (R : Row α) {w : World} {ops : Array Oper} {rest : List Oper} {o : Oper} {a : Act} {Q : Exit → Act → World → Prop} (hgd : o.guard = none) (x y : Operand) (ho : o.op = .store R.T x y)
    {g : Nat} {e : α} {old : List Value} {t : TypeId} (hx : a.eval x = .pointer (some ⟨g, 0, none⟩)) (hy : a.eval y = .agg (R.cs e).toArray) (hg : Blk w g t old) (hk : R.ok e) (hold : old.length = R.k)
    (h : ∀ w', Blk w' g t (R.cs e) → w.grownBy w' (some g) → w'.heap.size = w.heap.size → wpList Tryd.prog ops Q rest (a.put o.dst undef) w') : wpList Tryd.prog ops Q (o :: rest) a w := by
  obtain ⟨i, hi, hz0, hz1, hz2⟩ := info_parts R.info
  exact wpList_storeB hgd R.T x y ho hx hy hg (by rw [hi, R.len e hk]; simp [hz1]) (by rw [hold, R.len e hk]) (R.one e) h
theorem wpList_allocG (R : Row α) {w : World} {ops : Array Oper} {rest : List Oper} {o : Oper} {a : Act} {Q : Exit → Act → World → Prop} (hgd : o.guard = none) (ho : o.op = .alloc R.T) {vs : List Value}
    (hz : R.z = .agg vs.toArray)
    (h : ∀ w', Blk w' w.heap.size R.T vs → w.grownBy w' none → w'.heap.size = w.heap.size + 1 → wpList Tryd.prog ops Q rest (a.put o.dst (.pointer (some ⟨w.heap.size, 0, none⟩))) w') : wpList Tryd.prog ops Q (o :: rest) a w := by
  obtain ⟨i, hi, hz0, hz1, hz2⟩ := info_parts R.info
  exact wpList_allocB hgd R.T ho (n := R.k) (by rw [hi]; simp [hz0, hz1, hz]) h
end Go.Proofs.YtoclahcibilbhaaDoor
