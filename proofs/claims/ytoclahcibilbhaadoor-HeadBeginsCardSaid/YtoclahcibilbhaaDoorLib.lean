/-
  Small facts on slices of bytes: a slice that reads as a list of bytes; a row that the call itself made.
-/
import Derived.Test.YtoclahcibilbhaaDoorRows
import Derived.WalkKit
import Derived.WalkSpells
import Derived.WalkLawsBesides
import Derived.Lib.Hide
import Derived.RangeFuncOwn
import Derived.Laws.BytesArg
import Derived.Lib.AppendStr
import Derived.Deep.AppendLies
namespace Go.Proofs.YtoclahcibilbhaaDoor
open Go.RowKit

theorem info5 : (Tryd.prog.info? 5).map (fun i => (i.zero, i.size, i.bytes)) = some (some (.int .u8 0), 1, 1) := by kernel_rfl

theorem Bt {a b c : World} (h : Below a.heap.size a b) (k : Below b.heap.size b c) : Below a.heap.size a c := h.trans (k.mono h.size)

def bs (l : List UInt8) : List Value := l.map fun c => .int .u8 (c.toNat : Int)

/-- a slice of bytes reads as l -/
structure Rd (w : World) (a : Option Addr) (n c : Nat) (l : List UInt8) : Prop where
  len : l.length = n
  cap : n ≤ c
  max : c ≤ maxLen
  nil : a = none → n = 0 ∧ c = 0
  cell : ∀ ad, a = some ad → ∀ j u, (bs l)[j]? = some u → w.cell? (ad.add j) = some u

theorem bs_length (l) : (bs l).length = l.length := by simp [bs]
theorem bs_one (l) : ∀ u ∈ bs l, u.oneCell' = true := by
  intro u hu
  obtain ⟨_, _, rfl⟩ := List.mem_map.1 hu
  rfl
theorem Rd.below {w w' : World} {a n c l} (h : Rd w a n c l) (hb : Below w.heap.size w w') : Rd w' a n c l :=
  ⟨h.len, h.cap, h.max, h.nil, fun ad e j u hu => cell_later hb (h.cell ad e j u hu)⟩

def Own (w : World) (base : Nat) (v : Value) (l : List UInt8) : Prop := w.ownsRow base 5 1 v l.length (bs l)
theorem bs_append (l m) : bs (l ++ m) = bs l ++ bs m := by simp [bs]

theorem Own.lower {w base base' v l} (h : Own w base v l) (hb : base' ≤ base) : Own w base' v l := by
  refine ⟨h.1, ?_⟩
  rcases h.2 with h2 | ⟨g, cap, cur, hv, hg, r⟩
  · exact .inl h2
  · exact .inr ⟨g, cap, cur, hv, Nat.le_trans hb hg, r⟩

theorem Own.shape {w base v l} (h : Own w base v l) : ∃ a c, v = .slice a l.length c := by
  rcases h.2 with ⟨rfl, h2⟩ | ⟨g, cap, cur, rfl, _⟩
  · exact ⟨none, 0, by rw [h2]⟩
  · exact ⟨_, _, rfl⟩

/-- an owned row lies in no block of another element type -/
theorem Own.ne {w base v l} (h : Own w base v l) {S : Nat} {c : Array Value} {t : TypeId} {f} (hS : w.heap[S]? = some (.cells c t f)) (ht : t ≠ 5) : v.ownBlock ≠ some S := by
  rcases h.2 with ⟨rfl, h2⟩ | ⟨g, cap, cur, rfl, _, hg, _⟩
  · simp [Value.ownBlock]
  · intro e
    simp only [Value.ownBlock, Option.some.injEq] at e
    subst e
    rw [hg] at hS
    simp at hS
    exact ht hS.2.1.symm

theorem Own.ne_obj {w base v l} (h : Own w base v l) {r : Nat} {o : Obj} (hS : w.heap[r]? = some o) (ht : o.isCells = false) : v.ownBlock ≠ some r := by
  rcases h.2 with ⟨rfl, h2⟩ | ⟨g, cap, cur, rfl, _, hg, _⟩
  · simp [Value.ownBlock]
  · intro e
    simp only [Value.ownBlock, Option.some.injEq] at e
    subst e
    rw [hg] at hS
    cases hS
    simp [Obj.isCells] at ht

/-- the bytes as a string -/
abbrev str (l : List UInt8) : ByteArray := ⟨l.toArray⟩

theorem str_nums (l : List UInt8) : strOfNums (l.map fun c => (c.toNat : Int)) = str l := by
  simp [strOfNums, str, Function.comp_def]

theorem Rd.at {w a n c l} (h : Rd w a n c l) (hn : 0 < n) : ∃ b off, a = some ⟨b, off, none⟩ ∧ b < w.heap.size ∧ ∀ i, i < n → w.cell? ⟨b, off + i, none⟩ = some (.int .u8 ((l.map fun c => (c.toNat : Int)).getD i 0)) := by
  cases a with
  | none => have := (h.nil rfl).1; omega
  | some ad =>
    have key : ∀ i, i < n → w.cell? (ad.add i) = some (.int .u8 ((l.map fun c => (c.toNat : Int)).getD i 0)) := fun i hi => by
      refine h.cell ad rfl i _ ?_
      have := h.len
      simp [bs, List.getD, show i < l.length by omega]
    obtain ⟨b, off, sp⟩ := ad
    have h0 := key 0 hn
    obtain rfl : sp = none := by simpa [Addr.add] using World.cell?_spot h0
    exact ⟨b, off, rfl, World.block_lt_of_cell? _ _ (by simpa [Addr.add] using h0), fun i hi => by rw [← Addr.add_lit]; exact key i hi⟩

theorem conv_zero (w : World) (p : Option Addr) (c : Nat) : (convert 26 9 (.slice p 0 c)).run Tryd.prog w = .ok (.string ByteArray.empty) w := by
  rw [run_convert_bytes_string w 26 9 5 _ 0 c Tryd.underlying26 Tryd.underlying5 Tryd.underlying9]
  cases p <;> simp [Conv.bytesToString, loadCells]
  all_goals rfl

/-- string(b) -/
theorem Rd.conv {w a n c l} (h : Rd w a n c l) : (convert 26 9 (.slice a n c)).run Tryd.prog w = .ok (.string (str l)) w := by
  have hl := h.len
  by_cases hn : n = 0
  · subst hn
    obtain rfl : l = [] := List.eq_nil_of_length_eq_zero hl
    exact conv_zero w a c
  · obtain ⟨b, off, rfl, _, hc⟩ := h.at (by omega)
    rw [← str_nums]
    exact run_convert_bytes_arg w 26 5 Tryd.underlying26 Tryd.underlying5 b off n c _ (by simp [hl]) hc 9 Tryd.underlying9

theorem Own.rd {w base a n c l} (h : Own w base (.slice a n c) l) : Rd w a n c l := by
  have hl := h.1
  rw [bs_length] at hl
  rcases h.2 with ⟨hv, h2⟩ | ⟨g, cap, cur, hv, _, hg, hnc, hcm, hcs, htake⟩
  · cases hv
    exact ⟨by simpa using h2, Nat.le_refl _, by decide, fun _ => ⟨rfl, rfl⟩, (fun _ e => by cases e)⟩
  · cases hv
    refine ⟨rfl, hnc, hcm, (fun e => by cases e), fun ad e j u hu => ?_⟩
    cases e
    exact World.ownsRow.cells h rfl j u hu

theorem Own.below {w w' base v l} (h : Own w base v l) (hb : Below w.heap.size w w') : Own w' base v l := by
  refine ⟨h.1, ?_⟩
  rcases h.2 with h2 | ⟨g, cap, cur, hv, hg, hh, r⟩
  · exact .inl h2
  · exact .inr ⟨g, cap, cur, hv, hg, (hb.block g (lt_of_block hh)).trans hh, r⟩

theorem Rd.lit (w : World) (l : List UInt8) (n : Nat) (hn : l.length = n) (hm : n ≤ maxLen) : Rd (w.alloc (.cells (bs l).toArray 5)) (some ⟨w.heap.size, 0, none⟩) n n l := by
  refine ⟨hn, Nat.le_refl _, hm, (fun e => by cases e), fun ad e j u hu => ?_⟩
  cases e
  exact World.news_of_block (World.alloc_heap_new w _) j u (by simpa using hu)

theorem Rd.nil0 (w : World) : Rd w none 0 0 [] := ⟨rfl, Nat.le_refl _, by decide, fun _ => ⟨rfl, rfl⟩, (fun _ e => by cases e)⟩
theorem Own.nil0 (w : World) (base : Nat) : Own w base (.slice none 0 0) [] := World.ownsRow_nil w base 5 1

/-- append(s, x...) onto a row of the call's own -/
theorem wpList_app {w : World} {ops : Array Oper} {rest : List Oper} {o : Oper} {a : Act} {Q : Exit → Act → World → Prop} (hgd : o.guard = none) (s x : Operand)
    (ho : o.op = Op.call { callee := Callee.builtin Builtin.append, args := #[s, x], argTypes := #[26, 26] })
    {base : Nat} {v : Value} {q l : List UInt8} {ao : Option Addr} {n c : Nat} (hs : a.eval s = v) (hO : Own w base v q) (hx : a.eval x = .slice ao n c) (hR : Rd w ao n c l)
    (hsz : q.length + n ≤ 140737488355328) (hbase : base ≤ w.heap.size)
    (hK : ∀ ao' c' w', Own w' base (.slice ao' (q.length + n) c') (q ++ l) → w.grownBy w' v.ownBlock → wpList Tryd.prog ops Q rest (a.put o.dst (.slice ao' (q.length + n) c')) w') :
    wpList Tryd.prog ops Q (o :: rest) a w := by
  obtain ⟨i, hi, hz0, hz1, hz2⟩ := info_parts info5
  have hl := hR.len
  cases ao with
  | none =>
    obtain ⟨rfl, rfl⟩ := hR.nil rfl
    obtain rfl : l = [] := List.eq_nil_of_length_eq_zero hl
    obtain ⟨a', c', rfl⟩ := hO.shape
    refine wpList_plain hgd fun K hK' => ?_
    have hrun := run_append_owned_none (P := Tryd.prog) w base 26 o.type 5 i 1 Tryd.underlying26 hi _ _ _ hO
    unfold Oper.wp
    simp [execOp, ho, resolve, invoke, builtin, hs, hx, hrun, Result.andThen]
    exact hK' _ _ (hK a' c' w (by simpa using hO) (World.grownBy.refl _ _))
  | some ad =>
    refine wpList_append_own w hgd s x 26 ho base 5 i _ 1 1 Tryd.underlying26 hi hz0 hz1 hz2 rfl (by decide) v q.length (bs q) hs hO ad n c (bs l) hx (by rw [bs_length, hl]; omega) (hR.cell ad rfl) (bs_one l) (by unfold maxLen; omega) (by omega) hbase ?_
    intro v' w' h1 h2 _
    have hO' : Own w' base v' (q ++ l) := by unfold Own; rw [List.length_append, hl, bs_append]; exact h1
    obtain ⟨a', c', rfl⟩ := hO'.shape
    have e : (q ++ l).length = q.length + n := by rw [List.length_append, hl]
    rw [e] at hO' ⊢
    exact hK a' c' w' hO' h2

/-- the same for a string -/
theorem wpList_apps {w : World} {ops : Array Oper} {rest : List Oper} {o : Oper} {a : Act} {Q : Exit → Act → World → Prop} (hgd : o.guard = none) (s x : Operand)
    (ho : o.op = Op.call { callee := Callee.builtin Builtin.append, args := #[s, x], argTypes := #[26, 9] })
    {base : Nat} {v : Value} {q : List UInt8} {t : ByteArray} (hs : a.eval s = v) (hO : Own w base v q) (hx : a.eval x = .string t)
    (hsz : q.length + t.size ≤ 140737488355328) (hbase : base ≤ w.heap.size)
    (hK : ∀ ao' c' w', Own w' base (.slice ao' (q.length + t.size) c') (q ++ t.data.toList) → w.grownBy w' v.ownBlock → wpList Tryd.prog ops Q rest (a.put o.dst (.slice ao' (q.length + t.size) c')) w') :
    wpList Tryd.prog ops Q (o :: rest) a w := by
  obtain ⟨i, hi, hz0, hz1, hz2⟩ := info_parts info5
  refine Lib.wpList_append_own_string w hgd s x 26 9 ho base 5 i Tryd.underlying26 Tryd.underlying9 hi hz0 hz1 hz2 v q.length (bs q) hs hO t hx (by unfold maxLen; omega) (by omega) hbase ?_
  intro v' w' h1 h2 _
  have e : (q ++ t.data.toList).length = q.length + t.size := by rw [List.length_append]; rfl
  have hO' : Own w' base v' (q ++ t.data.toList) := by unfold Own; rw [e, bs_append]; exact h1
  obtain ⟨a', c', rfl⟩ := hO'.shape
  rw [e] at hO' ⊢
  exact hK a' c' w' hO' h2

theorem info_digest : (Tryd.prog.info? 23).map (·.size) = some 32 := by kernel_rfl

/-- a digest variable, read whole -/
theorem wpList_digest {w : World} {ops : Array Oper} {rest : List Oper} {o : Oper} {a : Act} {Q : Exit → Act → World → Prop} (hgd : o.guard = none) (x : Operand) (ho : o.op = .load 23 x)
    {g : Nat} (hx : a.eval x = .pointer (some ⟨g, 0, none⟩)) {t : TypeId} {ds : List UInt8} (hd : ds.length = 32) (hg : w.heap[g]? = some (.cells (bs ds).toArray t (0, 0)))
    (h : wpList Tryd.prog ops Q rest (a.put o.dst (.agg (bs ds).toArray)) w) : wpList Tryd.prog ops Q (o :: rest) a w :=
  wpList_load_row hgd 23 x ho g hx t _ (0, 0) _ hg Tryd.underlying23 rfl (by rw [info_digest]; simp [bs_length, hd]) h

theorem Rd.block {w : World} {g n : Nat} {ds : List UInt8} {t : TypeId} {fr : Nat × Nat} (hg : w.heap[g]? = some (.cells (bs ds).toArray t fr)) (hn : ds.length = n) (hm : n ≤ maxLen) : Rd w (some ⟨g, 0, none⟩) n n ds := by
  refine ⟨hn, Nat.le_refl _, hm, (fun e => by cases e), fun ad e j u hu => ?_⟩
  cases e
  exact World.news_of_block hg j u (by simpa using hu)

theorem Rd.take {w : World} {a : Option Addr} {n c : Nat} {l : List UInt8} (h : Rd w a n c l) (k : Nat) (hk : k ≤ n) : Rd w a k c (l.take k) := by
  have hl := h.len
  have hc := h.cap
  refine ⟨by simp; omega, by omega, h.max, fun e => by have := h.nil e; omega, fun ad e j u hu => h.cell ad e j u ?_⟩
  have hj : j < k := by
    have := (List.getElem?_eq_some_iff.1 hu).1
    simp [bs] at this; omega
  rw [← hu]
  simp [bs, hj]

/-- b[lo:hi] -/
theorem Rd.cut {w : World} {a : Option Addr} {n c : Nat} {l : List UInt8} (h : Rd w a n c l) (lo hi : Nat) (h1 : lo ≤ hi) (h2 : hi ≤ n) (_h3 : c ≠ lo) : Rd w (a.map (fun x => x.add lo)) (hi - lo) (c - lo) ((l.drop lo).take (hi - lo)) := by
  have hl := h.len
  have hc := h.cap
  have hm := h.max
  refine ⟨by simp; omega, by omega, by omega, ?_, ?_⟩
  · intro e
    cases a with
    | none => have := h.nil rfl; omega
    | some a => simp at e
  · intro ad e j u hu
    have hj : j < hi - lo := by
      have := (List.getElem?_eq_some_iff.1 hu).1
      simp [bs] at this; omega
    obtain ⟨b, off, rfl, _, _⟩ := h.at (by omega)
    simp only [Option.map_some, Option.some.injEq, Addr.add_lit] at e
    subst e
    rw [Addr.add_lit, Nat.add_assoc, ← Addr.add_lit]
    refine h.cell _ rfl (lo + j) u ?_
    rw [← hu]
    simp [bs, hj]

/-- a slice of ints reads as zs -/
structure RdI (w : World) (a : Option Addr) (n c : Nat) (zs : List Int) : Prop where
  len : zs.length = n
  cap : n ≤ c
  max : c ≤ maxLen
  cell : ∀ ad, a = some ad → ∀ j (h : j < zs.length), w.cell? (ad.add j) = some (.int .i64 zs[j])
  nil : a = none → n = 0
  wf : ∀ z ∈ zs, (Lit.int .i64 z).wf = true
theorem RdI.below {w w' : World} {a n c zs} (h : RdI w a n c zs) (hb : Below w.heap.size w w') : RdI w' a n c zs :=
  ⟨h.len, h.cap, h.max, fun ad e j hj => cell_later hb (h.cell ad e j hj), h.nil, h.wf⟩

/-- b[lo:] -/
theorem Rd.tail {w : World} {a : Option Addr} {n c : Nat} {l : List UInt8} (h : Rd w a n c l) (lo : Nat) (h1 : lo ≤ n) (h3 : c ≠ lo) : Rd w (a.map (fun x => x.add lo)) (n - lo) (c - lo) (l.drop lo) := by
  have h' := h.cut lo n h1 (Nat.le_refl _) h3
  rwa [List.take_of_length_le (by simp [h.len])] at h'
theorem Rd.empty (w : World) {a : Option Addr} {n : Nat} {l : List UInt8} (_h : Rd w a n n l) : Rd w a 0 0 [] :=
  ⟨rfl, Nat.le_refl _, by decide, fun _ => ⟨rfl, rfl⟩, fun _ _ j u hu => by simp [bs] at hu⟩

/-- a slice of texts reads as ss -/
structure RdS (w : World) (a : Option Addr) (n c : Nat) (ss : List ByteArray) : Prop where
  len : ss.length = n
  cap : n ≤ c
  max : c ≤ maxLen
  cell : ∀ ad, a = some ad → ∀ j (h : j < ss.length), w.cell? (ad.add j) = some (.string ss[j])
  nil : a = none → n = 0

theorem RdS.at {w : World} {a : Option Addr} {n c : Nat} {ss : List ByteArray} (h : RdS w a n c ss) (hn : 0 < n) : ∃ b off, a = some ⟨b, off, none⟩ ∧ ∀ i (hi : i < ss.length), w.cell? ⟨b, off + i, none⟩ = some (.string ss[i]) := by
  cases a with
  | none => have := h.nil rfl; omega
  | some ad =>
    have hl := h.len
    obtain ⟨b, off, sp⟩ := ad
    have h0 := h.cell _ rfl 0 (by omega)
    obtain rfl : sp = none := by simpa [Addr.add] using World.cell?_spot h0
    exact ⟨b, off, rfl, fun i hi => by rw [← Addr.add_lit]; exact h.cell _ rfl i hi⟩

end Go.Proofs.YtoclahcibilbhaaDoor
