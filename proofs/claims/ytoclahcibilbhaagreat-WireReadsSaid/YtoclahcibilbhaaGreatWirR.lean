/-
  The document's answer, laid out: Out's calls.
-/
import Derived.Test.YtoclahcibilbhaaGreatRef01
import Derived.Test.YtoclahcibilbhaaGreatWirP
import Derived.BigQuiet
namespace Go.Proofs.YtoclahcibilbhaaGreat
open Go.RowKit
set_option maxRecDepth 100000

/-- below base nothing has changed, nor has any other block but g and rows of bytes -/
structure Bk (g base : Nat) (w w' : World) : Prop where
  below : Below base w w'
  keep : ∀ k cs t f, w.heap[k]? = some (.cells cs t f) → k ≠ g → t ≠ 5 → w'.heap[k]? = some (.cells cs t f)
section
variable {g base : Nat} {w w' w'' : World}
theorem Bk.refl (g base : Nat) (w : World) : Bk g base w w := ⟨Below.refl _ _, fun _ _ _ _ h _ _ => h⟩
theorem Bk.trans (h : Bk g base w w') (k : Bk g base w' w'') : Bk g base w w'' := ⟨h.below.trans k.below, fun i cs t f h1 h2 h3 => k.keep i cs t f (h.keep i cs t f h1 h2 h3) h2 h3⟩
theorem Bk.of (h : Below w.heap.size w w') (hle : base ≤ w.heap.size) : Bk g base w w' := ⟨h.mono hle, fun k _ _ _ h1 _ _ => (h.block k (lt_of_block h1)).trans h1⟩
theorem Bk.grown (h : Bk g base w w') {row : Option Nat} (hg : w'.grownBy w'' row) (h1 : base ≤ w'.heap.size) (h2 : ∀ k, row = some k → base ≤ k)
    (h3 : ∀ k cs t f, w'.heap[k]? = some (.cells cs t f) → k ≠ g → t ≠ 5 → row ≠ some k) : Bk g base w w'' :=
  ⟨h.below.grown hg h1 h2, fun k cs t f e1 e2 e3 => by
    have e4 := h.keep k cs t f e1 e2 e3
    exact (hg.block k (lt_of_block e4) (fun e => h3 k cs t f e4 e2 e3 e.symm)).trans e4⟩
theorem Blk.bk {k : Nat} {t : TypeId} {vs : List Value} (h : Blk w k t vs) (hb : Bk g base w w') (hk : k ≠ g) (ht : t ≠ 5) : Blk w' k t vs := ⟨hb.keep _ _ _ _ h.at_ hk ht⟩
end

def loA (l : List UInt8) (e : Int) (o : Lo) : Lo := if o.1 ≠ 0 then o else if e ≠ 0 then (e, o.2) else (0, o.2 ++ l)

theorem loA_n {m : Int} {o : Lo} (h0 : 0 ≤ m) (h1 : m ≤ 2147483647) : loA (encC m.toNat) 0 o = loN m o := by
  unfold loA loN; simp [h0, h1]
theorem loA_no {m : Int} {o : Lo} (h : m < 0 ∨ 2147483647 < m) : loA [] 1 o = loN m o := by
  have : ¬ (0 ≤ m ∧ m ≤ 2147483647) := by omega
  unfold loA loN; simp only [if_neg this, show (1 : Int) ≠ 0 by decide, if_true, ne_eq, not_false_eq_true]
theorem loA_d {d : List UInt8} {o : Lo} : loA d 0 o = loD d o := by unfold loA loD; simp

theorem loN_len2 (m : Int) (o : Lo) : (loN m o).2.length ≤ o.2.length + 5 := by
  unfold loN
  split
  · omega
  · split
    · rename_i h; have := encC_len m.toNat (by omega); simp; omega
    · simp
theorem loD_len2 {d : List UInt8} (hd : d.length = 32) (o : Lo) : (loD d o).2.length ≤ o.2.length + 32 := by
  unfold loD
  split
  · omega
  · simp; omega

theorem loH_len2 {x : Hd} (hx : x.ok) (o : Lo) : (loH x o).2.length ≤ o.2.length + 69 := by
  have h1 := loN_len2 x.ep o
  have h2 := loD_len2 hx.1 (loN x.ep o)
  have h3 := loD_len2 hx.2 (loD x.root (loN x.ep o))
  unfold loH; omega

/-- what Done hands back -/
def DoneP (w : World) (base : Nat) (o : Lo) (e : Ending) (w' : World) : Prop :=
  ∃ v, e = .returned (.tuple #[v, .int .i64 o.1]) ∧ Own w' base v (if o.1 = 0 then o.2 else []) ∧ Below w.heap.size w w'
theorem DoneP.ok {w w' : World} {base : Nat} {o : Lo} {v : Value} (h : 0 = o.1) (hO : Own w' base v o.2) (hB : Below w.heap.size w w') : DoneP w base o (.returned (.tuple #[v, .int .i64 0])) w' :=
  ⟨v, by rw [← h], by rw [← h, if_pos rfl]; exact hO, hB⟩
theorem DoneP.no {w w' : World} {base : Nat} {o : Lo} {x : Int} (h : x = o.1) (h0 : x ≠ 0) (hB : Below w.heap.size w w') : DoneP w base o (.returned (.tuple #[.slice none 0 0, .int .i64 x])) w' :=
  ⟨_, by rw [← h], by rw [← h, if_neg h0]; exact Own.nil0 _ _, hB⟩

end Go.Proofs.YtoclahcibilbhaaGreat
