/-
  Slices of digests: what they read as; rows of digests of the call's own; slices of digests, written out.
-/
import Derived.Test.YtgbhfpkngjlfkaaDoorLibB
import Derived.Test.YtgbhfpkngjlfkaaDoorLibT
import Derived.Great.BuildSlice
namespace Go.Proofs.YtgbhfpkngjlfkaaDoor
open Go.RowKit

/-- the cells of digests, one behind the other -/
def dcs (l : List (List UInt8)) : List Value := l.flatMap bs
def okd (l : List (List UInt8)) : Prop := ∀ x ∈ l, x.length = 32

theorem dcs_one (l : List (List UInt8)) : ∀ u ∈ dcs l, u.oneCell' = true := by
  intro u hu
  obtain ⟨x, _, h⟩ := List.mem_flatMap.1 hu
  exact bs_one x u h
theorem dcs_append (l m : List (List UInt8)) : dcs (l ++ m) = dcs l ++ dcs m := by simp [dcs]
theorem dcs_single (x : List UInt8) : dcs [x] = bs x := by simp [dcs]
theorem okd.append {l m : List (List UInt8)} (h : okd l) (k : okd m) : okd (l ++ m) := fun x hx => (List.mem_append.1 hx).elim (h x) (k x)
theorem okd.single {x : List UInt8} (h : x.length = 32) : okd [x] := fun y hy => by
  obtain rfl : y = x := by simpa using hy
  exact h
theorem okd.nil : okd [] := fun _ h => (by simp at h)
theorem dcs_length : ∀ {l : List (List UInt8)}, okd l → (dcs l).length = l.length * 32
  | [], _ => rfl
  | x :: l, h => by
    have h1 := h x List.mem_cons_self
    have h2 := dcs_length (l := l) (fun y hy => h y (List.mem_cons_of_mem _ hy))
    have e : dcs (x :: l) = bs x ++ dcs l := by simp [dcs]
    rw [e, List.length_append, bs_length, h1, h2, List.length_cons]; omega
theorem flat_length : ∀ {l : List (List UInt8)}, okd l → l.flatten.length = l.length * 32
  | [], _ => rfl
  | x :: l, h => by
    have h1 := h x List.mem_cons_self
    have h2 := flat_length (l := l) (fun y hy => h y (List.mem_cons_of_mem _ hy))
    rw [List.flatten_cons, List.length_append, h1, h2, List.length_cons]; omega
theorem dcs_at : ∀ {l : List (List UInt8)}, okd l → ∀ i j, i < l.length → j < 32 → (dcs l)[i * 32 + j]? = (bs (l.getD i []))[j]?
  | [], _, i, _, hi, _ => absurd hi (Nat.not_lt_zero i)
  | x :: l, h, i, j, hi, hj => by
    have h1 := h x List.mem_cons_self
    have e : dcs (x :: l) = bs x ++ dcs l := by simp [dcs]
    rw [e]
    cases i with
    | zero =>
      rw [Nat.zero_mul, Nat.zero_add, List.getElem?_append_left (by rw [bs_length]; omega)]
      rfl
    | succ i =>
      rw [List.getElem?_append_right (by rw [bs_length]; omega), bs_length, h1, show (i + 1) * 32 + j - 32 = i * 32 + j by omega,
        dcs_at (fun y hy => h y (List.mem_cons_of_mem _ hy)) i j (by simpa using hi) hj]
      rfl
theorem okd.at {l : List (List UInt8)} (h : okd l) {i : Nat} (hi : i < l.length) : (l.getD i []).length = 32 := by
  have e : l.getD i [] = l[i] := by simp [List.getD, hi]
  rw [e]
  exact h _ (List.getElem_mem hi)

/-- a slice of digests reads as l -/
structure RdD (w : World) (a : Option Addr) (n c : Nat) (l : List (List UInt8)) : Prop where
  len : l.length = n
  ok : okd l
  cap : n ≤ c
  max : c ≤ maxLen
  nil : a = none → n = 0 ∧ c = 0
  cell : ∀ ad, a = some ad → ∀ j u, (dcs l)[j]? = some u → w.cell? (ad.add j) = some u

theorem RdD.below {w w' : World} {a : Option Addr} {n c : Nat} {l : List (List UInt8)} (h : RdD w a n c l) (hb : Below w.heap.size w w') : RdD w' a n c l :=
  ⟨h.len, h.ok, h.cap, h.max, h.nil, fun ad e j u hu => cell_later hb (h.cell ad e j u hu)⟩
theorem RdD.nil0 (w : World) : RdD w none 0 0 [] := ⟨rfl, fun _ h => (by simp at h), Nat.le_refl _, by decide, fun _ => ⟨rfl, rfl⟩, fun _ e => by cases e⟩

/-- where the digests of a slice lie -/
theorem RdD.elems {w : World} {a : Option Addr} {n c : Nat} {l : List (List UInt8)} (h : RdD w a n c l) (hn : 0 < n) : ∃ b off, a = some ⟨b, off, none⟩ ∧ b < w.heap.size ∧ ∀ i, i < n → w.rangeAt b (off + i * 32) (bs (l.getD i [])) := by
  cases a with
  | none => have := (h.nil rfl).1; omega
  | some ad =>
    have hl := h.len
    obtain ⟨b, off, sp⟩ := ad
    have hL := dcs_length h.ok
    have h0 := h.cell _ rfl 0 _ (List.getElem?_eq_getElem (show 0 < (dcs l).length by omega))
    obtain rfl : sp = none := by simpa [Addr.add] using World.cell?_spot h0
    refine ⟨b, off, rfl, World.block_lt_of_cell? _ _ (by simpa [Addr.add] using h0), fun i hi j v hv => ?_⟩
    have hj : j < 32 := by
      have := (List.getElem?_eq_some_iff.1 hv).1
      rwa [bs_length, h.ok.at (by omega)] at this
    have := h.cell _ rfl (i * 32 + j) v (by rw [dcs_at h.ok i j (by omega) hj]; exact hv)
    rw [Addr.add_lit, ← Nat.add_assoc] at this
    exact this

/-- a row of digests of the call's own -/
def OwnD (w : World) (base : Nat) (v : Value) (l : List (List UInt8)) : Prop := okd l ∧ w.ownsRow base 23 32 v l.length (dcs l)
theorem OwnD.nil0 (w : World) (base : Nat) : OwnD w base (.slice none 0 0) [] := ⟨fun _ h => (by simp at h), World.ownsRow_nil w base 23 32⟩
theorem OwnD.shape {w base v l} (h : OwnD w base v l) : ∃ a c, v = .slice a l.length c := by
  rcases h.2.2 with ⟨rfl, h2⟩ | ⟨g, cap, cur, rfl, _⟩
  · exact ⟨none, 0, by rw [h2]⟩
  · exact ⟨_, _, rfl⟩
theorem OwnD.below {w w' base v l} (h : OwnD w base v l) (hb : Below w.heap.size w w') : OwnD w' base v l := by
  refine ⟨h.1, h.2.1, ?_⟩
  rcases h.2.2 with h2 | ⟨g, cap, cur, hv, hg, hh, r⟩
  · exact .inl h2
  · exact .inr ⟨g, cap, cur, hv, hg, (hb.block g (lt_of_block hh)).trans hh, r⟩
theorem OwnD.lower {w base base' v l} (h : OwnD w base v l) (hb : base' ≤ base) : OwnD w base' v l := by
  refine ⟨h.1, h.2.1, ?_⟩
  rcases h.2.2 with h2 | ⟨g, cap, cur, hv, hg, r⟩
  · exact .inl h2
  · exact .inr ⟨g, cap, cur, hv, Nat.le_trans hb hg, r⟩
theorem OwnD.kept {w w' : World} {base : Nat} {v : Value} {l : List (List UInt8)} {row : Option Nat} (h : OwnD w base v l) (hg : w.grownBy w' row) (hne : ∀ x, v.ownBlock = some x → row ≠ some x) : OwnD w' base v l := by
  refine ⟨h.1, h.2.1, ?_⟩
  rcases h.2.2 with h2 | ⟨g, cap, cur, hv, hb, hh, r⟩
  · exact .inl h2
  · exact .inr ⟨g, cap, cur, hv, hb, (hg.block g (lt_of_block hh) (fun e => hne g (by rw [hv]; rfl) e.symm)).trans hh, r⟩
theorem OwnD.lt {w : World} {base : Nat} {v : Value} {l : List (List UInt8)} (h : OwnD w base v l) {x : Nat} (e : v.ownBlock = some x) : base ≤ x ∧ x < w.heap.size := World.ownsRow.lt h.2 x e
theorem OwnD.rd {w base a n c l} (h : OwnD w base (.slice a n c) l) : RdD w a n c l := by
  rcases h.2.2 with ⟨hv, h2⟩ | ⟨g, cap, cur, hv, _, hg, hnc, hcm, hcs, htake⟩
  · cases hv
    exact ⟨by simpa using h2, h.1, Nat.le_refl _, by decide, fun _ => ⟨rfl, rfl⟩, (fun _ e => by cases e)⟩
  · cases hv
    refine ⟨rfl, h.1, hnc, hcm, (fun e => by cases e), fun ad e j u hu => ?_⟩
    cases e
    exact World.ownsRow.cells h.2 rfl j u hu
/-- an owned row of digests lies in no block of another element type -/
theorem OwnD.ne {w base v l} (h : OwnD w base v l) {S : Nat} {c : Array Value} {t : TypeId} {f} (hS : w.heap[S]? = some (.cells c t f)) (ht : t ≠ 23) : v.ownBlock ≠ some S := by
  rcases h.2.2 with ⟨rfl, h2⟩ | ⟨g, cap, cur, rfl, _, hg, _⟩
  · simp [Value.ownBlock]
  · intro e
    simp only [Value.ownBlock, Option.some.injEq] at e
    subst e
    rw [hg] at hS
    simp at hS
    exact ht hS.2.1.symm

theorem infoDig : (Tryd.prog.info? 23).map (fun i => (i.zero, i.size, i.bytes)) = some (some (.agg (bs zero32).toArray), 32, 32) := by kernel_rfl

/-- append(s, x...) onto a row of digests of the call's own -/
theorem wpList_appD {w : World} {ops : Array Oper} {rest : List Oper} {o : Oper} {a : Act} {Q : Exit → Act → World → Prop} (hgd : o.guard = none) (s x : Operand)
    (ho : o.op = Op.call { callee := Callee.builtin Builtin.append, args := #[s, x], argTypes := #[26, 26] })
    {base : Nat} {v : Value} {q l : List (List UInt8)} {ao : Option Addr} {n c : Nat} (hs : a.eval s = v) (hO : OwnD w base v q) (hx : a.eval x = .slice ao n c) (hR : RdD w ao n c l)
    (hsz : q.length + n ≤ 1000000) (hbase : base ≤ w.heap.size)
    (hK : ∀ ao' c' w', OwnD w' base (.slice ao' (q.length + n) c') (q ++ l) → w.grownBy w' v.ownBlock → ((Value.slice ao' (q.length + n) c').ownBlock = v.ownBlock ∨ (Value.slice ao' (q.length + n) c').ownBlock = some w.heap.size) → wpList Tryd.prog ops Q rest (a.put o.dst (.slice ao' (q.length + n) c')) w') :
    wpList Tryd.prog ops Q (o :: rest) a w := by
  obtain ⟨i, hi, hz0, hz1, hz2⟩ := info_parts infoDig
  have hl := hR.len
  cases ao with
  | none =>
    obtain ⟨rfl, rfl⟩ := hR.nil rfl
    obtain rfl : l = [] := List.eq_nil_of_length_eq_zero hl
    obtain ⟨a', c', rfl⟩ := hO.shape
    refine wpList_plain hgd fun K hK' => ?_
    have hrun := run_append_owned_none (P := Tryd.prog) w base 26 o.type 23 i 32 Tryd.underlying26 hi _ _ _ hO.2
    unfold Oper.wp
    simp [execOp, ho, resolve, invoke, builtin, hs, hx, hrun, Result.andThen]
    exact hK' _ _ (hK a' c' w (by simpa using hO) (World.grownBy.refl _ _) (.inl rfl))
  | some ad =>
    have hL := dcs_length hR.ok
    refine wpList_append_own_at w hgd s x 26 ho base 23 i _ 32 32 Tryd.underlying26 hi hz0 hz1 hz2 (by simp [Value.cells, bs_length, zero32_length]) (by decide) v q.length (dcs q) hs hO.2 ad n c (dcs l) hx (by omega) (hR.cell ad rfl) (dcs_one l) (by unfold maxLen; omega) (by omega) hbase ?_
    intro v' w' h1 h2 _ h4
    have hO' : OwnD w' base v' (q ++ l) := ⟨hO.1.append hR.ok, by rw [List.length_append, hl, dcs_append]; exact h1⟩
    obtain ⟨a', c', rfl⟩ := hO'.shape
    have e : (q ++ l).length = q.length + n := by rw [List.length_append, hl]
    rw [e] at hO' h4 ⊢
    exact hK a' c' w' hO' h2 h4

theorem fill_digs (z : Array Value) (ys : List (List UInt8)) (hk : okd ys) (hz : z.size = ys.length * 32) :
    Instr.fill (fun i => some (i * 32, 32)) z (((ys.map fun y => Value.agg (bs y).toArray).zipIdx 0).map fun x => (x.2, x.1)) = some (dcs ys).toArray := by
  obtain ⟨r, hr, hsz, hc⟩ := Go.Great.fill_dense (s := 32) (by decide) (ys.map fun y => Value.agg (bs y).toArray) 0 z (fun v hv => by
    obtain ⟨y, hy, rfl⟩ := List.mem_map.1 hv
    simpa [Value.cells, bs_length] using hk y hy) (by simp [hz])
  rw [hr]
  congr 1
  refine Array.ext_getElem? fun k => ?_
  rw [hc k]
  have hl := dcs_length hk
  by_cases h : k < ys.length * 32
  · have hi : k / 32 < ys.length := by omega
    have h1 := dcs_at hk (k / 32) (k % 32) hi (Nat.mod_lt _ (by decide))
    rw [show k / 32 * 32 + k % 32 = k by omega] at h1
    rw [if_pos (by simp; omega)]
    have hg : ys.getD (k / 32) [] = ys[k / 32] := by simp [List.getD, hi]
    rw [hg] at h1
    simp [Value.cells, hi, h1]
  · rw [if_neg (by simp; omega), Array.getElem?_eq_none (by omega)]
    simp
    omega

/-- []api.Digest{x, y, ..} -/
theorem wpList_manyD {w : World} {ops : Array Oper} {rest : List Oper} {o : Oper} {a : Act} {Q : Exit → Act → World → Prop} (hgd : o.guard = none) (n : Nat) (parts : Array (Nat × Operand)) (ho : o.op = .buildSlice 26 n parts)
    {ys : List (List UInt8)} (hk : okd ys) (hn : ys.length = n) (hnn : n ≤ 4096) (hpos : 0 < n)
    (hx : (parts.map fun (i, x) => (i, a.eval x)).toList = ((ys.map fun y => Value.agg (bs y).toArray).zipIdx 0).map fun x => (x.2, x.1))
    (h : wpList Tryd.prog ops Q rest (a.put o.dst (.slice (some ⟨w.heap.size, 0, none⟩) n n)) (w.alloc (.cells (dcs ys).toArray 23))) : wpList Tryd.prog ops Q (o :: rest) a w := by
  obtain ⟨i, hi, hz0, hz1, hz2⟩ := info_parts infoDig
  subst hn
  refine wpList_buildSlice hgd 26 23 ys.length parts ho _ i _ Tryd.underlying26 hi hz0 (by rw [hz1]; omega) (by rw [hz1]; omega) ?_ h
  rw [hz1, hx]
  exact fill_digs _ ys hk (by simp)
theorem wpList_oneD {w : World} {ops : Array Oper} {rest : List Oper} {o : Oper} {a : Act} {Q : Exit → Act → World → Prop} (hgd : o.guard = none) (x1 : Operand) (ho : o.op = .buildSlice 26 1 #[(0, x1)])
    {y1 : List UInt8} (hk : y1.length = 32) (hx1 : a.eval x1 = .agg (bs y1).toArray)
    (h : wpList Tryd.prog ops Q rest (a.put o.dst (.slice (some ⟨w.heap.size, 0, none⟩) 1 1)) (w.alloc (.cells (dcs [y1]).toArray 23))) : wpList Tryd.prog ops Q (o :: rest) a w :=
  wpList_manyD hgd 1 _ ho (okd.single hk) rfl (by decide) (by decide) (by simp [hx1]) h
theorem wpList_twoD {w : World} {ops : Array Oper} {rest : List Oper} {o : Oper} {a : Act} {Q : Exit → Act → World → Prop} (hgd : o.guard = none) (x1 x2 : Operand) (ho : o.op = .buildSlice 26 2 #[(0, x1), (1, x2)])
    {y1 y2 : List UInt8} (hk : okd [y1, y2]) (hx1 : a.eval x1 = .agg (bs y1).toArray) (hx2 : a.eval x2 = .agg (bs y2).toArray)
    (h : wpList Tryd.prog ops Q rest (a.put o.dst (.slice (some ⟨w.heap.size, 0, none⟩) 2 2)) (w.alloc (.cells (dcs [y1, y2]).toArray 23))) : wpList Tryd.prog ops Q (o :: rest) a w :=
  wpList_manyD hgd 2 _ ho hk rfl (by decide) (by decide) (by simp [hx1, hx2]) h
theorem RdD.many (w : World) {ys : List (List UInt8)} {n : Nat} (hk : okd ys) (hn : ys.length = n) (hnn : n ≤ 4096) : RdD (w.alloc (.cells (dcs ys).toArray 23)) (some ⟨w.heap.size, 0, none⟩) n n ys := by
  refine ⟨hn, hk, Nat.le_refl _, by unfold maxLen; omega, (fun e => by cases e), fun ad e j u hu => ?_⟩
  cases e
  exact World.news_of_block (World.alloc_heap_new w _) j u (by simpa using hu)
theorem as_ofFn {n : Nat} {d : List UInt8} (h : d.length = n) : ∃ f : Fin n → UInt8, d = List.ofFn f := by
  subst h
  exact ⟨fun i => d[i], by simp⟩
end Go.Proofs.YtgbhfpkngjlfkaaDoor
