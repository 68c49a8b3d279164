/-
  OctA OctB, in one text.
-/
import Derived.Test.YtgbhfpkngjlfkaaDoorLib
import Derived.RangeFuncFrom
import Derived.RangeFuncMany
import Derived.RangeFuncLeaves
import Derived.Shelf.Abstract
import Derived.OwnWalkIn
import Derived.TacticsIn
import Derived.TacticsInMore
import Derived.BigFrameIn
import Derived.LoopNIn
import Derived.LoopIn
import Derived.Lib.AppendStr
import Derived.Deep.AppendLies
import Derived.Deep.RegionLaw
namespace Go.Proofs.YtgbhfpkngjlfkaaDoor
/-! The walks of octet's puts: roomy, groups, addCount: what each call does to the world. -/
section
open Go.RowKit Go.Shelf
set_option maxRecDepth 100000

def grp (n : Nat) : List (UInt8 × Bool) :=
  if n < 128 then [(n.toUInt8, false)] else ((n % 128).toUInt8, true) :: grp (n / 128)
termination_by n
decreasing_by omega

theorem grp_lt {n : Nat} (h : n < 128) : grp n = [(n.toUInt8, false)] := by rw [grp, if_pos h]
theorem grp_ge {n : Nat} (h : ¬ n < 128) : grp n = ((n % 128).toUInt8, true) :: grp (n / 128) := by rw [grp, if_neg h]

abbrev gencs (p : UInt8 × Bool) : Array Value := #[.int .u8 (p.1.toNat : Int), .bool p.2]

def penc (p : UInt8 × Bool) : UInt8 := if p.2 then p.1 ||| 128 else p.1
def encC (n : Nat) : List UInt8 := (grp n).map penc
theorem grp_small (n : Nat) : ∀ p ∈ grp n, p.1.toNat < 128 := by
  induction n using Nat.strongRecOn with
  | _ n ih =>
    by_cases h : n < 128
    · rw [grp_lt h]; intro p hp; simp at hp; subst hp; simp; omega
    · rw [grp_ge h]; intro p hp
      rcases List.mem_cons.1 hp with rfl | hp
      · simp [Nat.toUInt8]; omega
      · exact ih _ (by omega) p hp

theorem grp_pow : ∀ k n, n < 128 ^ (k + 1) → (grp n).length ≤ k + 1 := by
  intro k
  induction k with
  | zero => intro n hn; rw [grp_lt (by simpa using hn)]; simp
  | succ k ih =>
    intro n hn
    by_cases h : n < 128
    · rw [grp_lt h]; simp
    · rw [grp_ge h]
      have := ih (n / 128) (by rw [Nat.pow_succ] at hn; omega)
      simp; omega
theorem grp_len (n : Nat) (h : n ≤ 2147483647) : (grp n).length ≤ 5 := grp_pow 4 n (by omega)

theorem encC_pow (k n : Nat) (h : n < 128 ^ (k + 1)) : (encC n).length ≤ k + 1 := by
  unfold encC; rw [List.length_map]; exact grp_pow k n h

attribute [local go_sem] Oper.semAt_some

/-- what the loop of addCount carries from round to round -/
structure InvAdd (base S : Nat) (w : World) (l : List UInt8) (pre : List (UInt8 × Bool)) (W : World) : Prop where
  ex : ∃ v, W.heap[S]? = some (.cells #[v] 35 (0, 0)) ∧ Own W base v (l ++ pre.map penc)
  below : Below base w W

theorem invAdd_own {base S : Nat} {w : World} {l : List UInt8} (hw : base ≤ w.heap.size) {B : Nat} (hB : base ≤ B) : OwnFrom B (InvAdd base S w l) := by
  rintro s W W' row ⟨⟨v, h1, h2⟩, hb⟩ hg hr
  refine ⟨⟨v, ?_, ?_⟩, ?_⟩
  · rw [hg.block S (Array.getElem?_eq_some_iff.1 h1).1 ?_, h1]
    intro e
    obtain ⟨_, o, ho, hc⟩ := hr S e.symm
    rw [h1] at ho; cases ho; simp [Obj.isCells] at hc
  · refine World.ownsRow.kept h2 hg ?_
    by_cases hn : row = none
    · subst hn
      rcases h2.2 with ⟨rfl, _⟩ | ⟨g, cap, cur, rfl, _⟩ <;> simp [Value.ownBlock]
    · obtain ⟨r, rfl⟩ := Option.ne_none_iff_exists'.1 hn
      obtain ⟨_, o, ho, hc⟩ := hr r rfl
      exact .inr (Own.ne_obj h2 ho hc)
  · exact hb.grown hg (Nat.le_trans hw hb.size) (fun k e => by have := (hr k e).1; omega)

theorem bits_or128 (x : UInt8) : bits BinOp.or IntKind.u8 (x.toNat : Int) 128 = ((x ||| 128).toNat : Int) := by
  have key : ∀ k : Fin 256, bits BinOp.or IntKind.u8 (k.val : Int) 128 = (((UInt8.ofNat k.val) ||| 128).toNat : Int) := by decide +kernel
  have h := key ⟨x.toNat, x.toNat_lt⟩
  simpa using h

theorem grown_at {base : Nat} {W w1 : World} {a' : Option Addr} {c' S : Nat} {q : List UInt8} {bx : Value} {y : Value}
    (hS : W.heap[S]? = some (.cells #[bx] 35 (0, 0))) (hO : Own W base (.slice a' q.length c') q) (hg : (W.alloc (.cells #[y] 5)).grownBy w1 (Value.slice a' q.length c').ownBlock) :
    w1.heap[S]? = some (.cells #[bx] 35 (0, 0)) := by
  have hlt := lt_of_block hS
  rw [hg.block S (by simp; omega) (fun e => Own.ne hO hS (by decide) e.symm), Below.heap_alloc _ _ _ hlt, hS]

theorem invAdd_step {base S : Nat} {w W w1 : World} {l q : List UInt8} {pre : List (UInt8 × Bool)} {p : UInt8 × Bool} {a' : Option Addr} {c' : Nat} {v' : Value} {y : Int}
    (hb : base ≤ w.heap.size) (hbS : base ≤ S) (hq : l ++ pre.map penc = q) (hS : W.heap[S]? = some (.cells #[.slice a' q.length c'] 35 (0, 0))) (hO : Own W base (.slice a' q.length c') q) (hB : Below base w W)
    (hy : y = (penc p).toNat) (hown1 : w1.ownsRow base 5 1 v' (q.length + 1) (bs q ++ [.int .u8 y])) (hg : (W.alloc (.cells #[.int .u8 y] 5)).grownBy w1 (Value.slice a' q.length c').ownBlock) :
    KeepsOthers W (w1.setCell ⟨S, 0, none⟩ v') ∧ KeepsWalks W (w1.setCell ⟨S, 0, none⟩ v') ∧ InvAdd base S w l (pre ++ [p]) (w1.setCell ⟨S, 0, none⟩ v') := by
  have hS1 := grown_at hS hO hg
  have hgw : W.grownBy w1 (Value.slice a' q.length c').ownBlock := by
    refine ⟨hg.os, hg.tape, hg.output, by have := hg.size; simp at this; omega, fun k hk hne => ?_⟩
    rw [hg.block k (by simp; omega) hne, Below.heap_alloc _ _ _ hk]
  have hKO : KeepsOthers W w1 := KeepsOthers.of_grownBy hgw (fun j o hj ho => by
    cases hc : o.isCells with
    | true => rfl
    | false => exact absurd hj.symm (by have := Own.ne_obj hO ho hc; intro e; exact this e.symm))
  have hO1 : Own w1 base v' (l ++ (pre ++ [p]).map penc) := by
    subst hq; subst hy
    unfold Own
    have e1 : (l ++ (pre ++ [p]).map penc).length = (l ++ pre.map penc).length + 1 := by simp; omega
    have e2 : bs (l ++ (pre ++ [p]).map penc) = bs (l ++ pre.map penc) ++ [.int .u8 ((penc p).toNat : Int)] := by simp [bs]
    rw [e1, e2]; exact hown1
  have hK := hKO.trans (KeepsOthers.setCell w1 ⟨S, 0, none⟩ v')
  refine ⟨hK, hK.walks, ⟨v', one_setCell hS1, ?_⟩, ?_⟩
  · exact ownsRow_setCell_other hO1 (Own.ne hO1 hS1 (by decide)) _
  · refine (hB.grown hgw (Nat.le_trans hb hB.size) (fun k e => ?_)).setCell (p := ⟨S, 0, none⟩) hbS _
    exact (World.ownsRow.lt hO k e).1

end
/-! The walks of octet.PutCount, PutBytes, PutDigest. -/
section
open Go.RowKit Go.Shelf
set_option maxRecDepth 100000

theorem encC_len (n : Nat) (h : n ≤ 2147483647) : (encC n).length ≤ 5 := by
  unfold encC; rw [List.length_map]; exact grp_len n h

/-- what PutCount, PutBytes, PutDigest hand back -/
def PutPost (w : World) (l : List UInt8) (e : Ending) (w' : World) : Prop :=
  ∃ v, e = .returned (.tuple #[v, .int .i64 0]) ∧ Own w' w.heap.size v l ∧ Below w.heap.size w w'

end
end Go.Proofs.YtgbhfpkngjlfkaaDoor
