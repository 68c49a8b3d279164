/-
  OctA OctB, in one text.
-/
import Derived.Test.YtoclahcibilbhaaDoorLib
import Derived.RangeFuncFrom
import Derived.RangeFuncMany
import Derived.RangeFuncLeaves
import Derived.Shelf.Abstract
import Derived.OwnWalkIn
import Derived.TacticsIn
import Derived.TacticsInMore
import Derived.BigFrameIn
import Derived.LoopNIn
import Derived.LoopIn
import Derived.Lib.AppendStr
import Derived.Deep.AppendLies
import Derived.Deep.RegionLaw
namespace Go.Proofs.YtoclahcibilbhaaDoor
/-! The walks of octet's puts: roomy, groups, addCount: what each call does to the world. -/
section
open Go.RowKit Go.Shelf
set_option maxRecDepth 100000

set_option maxHeartbeats 400000 in
theorem roomy_any (w : World) (a : Option Addr) (n c : Nat) (l : List UInt8) (k : Nat) (hr : Rd w a n c l) (hlen : n ≤ 140737488351232) (hn : k ≤ 140737488351232) :
    Calls Tryd.prog 43 #[.slice a n c, .int .i64 k] w fun e w' => ∃ c', e = .returned (.slice (some ⟨w.heap.size, 0, none⟩) n c') ∧ n + k ≤ c' ∧ w'.ownsRow w.heap.size 5 1 (.slice (some ⟨w.heap.size, 0, none⟩) n c') n (bs l) ∧ w.grownBy w' none := by
  obtain ⟨i, hi, hz0, hz1, hz2⟩ := info_parts info5
  go_enter Tryd.func43, Tryd.ntmps43

  go_wp2_with (at_make; refine wpList_make_own _ rfl _ _ 26 rfl w.heap.size 5 i _ 1 Tryd.underlying26 hi hz0 hz1 _ _ _ (n + k) rfl rfl (by omega) (by rw [hz2]; omega) (by unfold maxLen; omega) (Nat.le_refl _) ?_)
  intro w1 hown hg
  go_wp2_with (at_builtin; refine wpList_append_fits_any _ rfl _ _ 26 rfl w.heap.size 5 i 1 Tryd.underlying26 hi hz1 w.heap.size 0 (n + k) [] rfl hown a n c (bs l) rfl (by rw [bs_length, hr.len]; omega) hr.nil (hr.below ((Below.refl _ _).grown hg (Nat.le_refl _) (by simp))).cell (bs_one l) (by omega) ?_)
  intro w2 hown2 hg2
  go_wp2
  go_ret
  refine ⟨n + k, by simp, Nat.le_refl _, by simpa using hown2, ?_⟩
  exact ⟨hg2.os.trans hg.os, hg2.tape.trans hg.tape, hg2.output.trans hg.output, by have := hg.size; have := hg2.size; omega, fun k hk hne => by have := hg.size; rw [hg2.block k (by omega) (by simp; omega), hg.block k hk hne]⟩
def grp (n : Nat) : List (UInt8 × Bool) :=
  if n < 128 then [(n.toUInt8, false)] else ((n % 128).toUInt8, true) :: grp (n / 128)
termination_by n
decreasing_by omega

theorem grp_lt {n : Nat} (h : n < 128) : grp n = [(n.toUInt8, false)] := by rw [grp, if_pos h]
theorem grp_ge {n : Nat} (h : ¬ n < 128) : grp n = ((n % 128).toUInt8, true) :: grp (n / 128) := by rw [grp, if_neg h]

abbrev gencs (p : UInt8 × Bool) : Array Value := #[.int .u8 (p.1.toNat : Int), .bool p.2]

def penc (p : UInt8 × Bool) : UInt8 := if p.2 then p.1 ||| 128 else p.1
def encC (n : Nat) : List UInt8 := (grp n).map penc
theorem grp_small (n : Nat) : ∀ p ∈ grp n, p.1.toNat < 128 := by
  induction n using Nat.strongRecOn with
  | _ n ih =>
    by_cases h : n < 128
    · rw [grp_lt h]; intro p hp; simp at hp; subst hp; simp; omega
    · rw [grp_ge h]; intro p hp
      rcases List.mem_cons.1 hp with rfl | hp
      · simp [Nat.toUInt8]; omega
      · exact ih _ (by omega) p hp

theorem grp_pow : ∀ k n, n < 128 ^ (k + 1) → (grp n).length ≤ k + 1 := by
  intro k
  induction k with
  | zero => intro n hn; rw [grp_lt (by simpa using hn)]; simp
  | succ k ih =>
    intro n hn
    by_cases h : n < 128
    · rw [grp_lt h]; simp
    · rw [grp_ge h]
      have := ih (n / 128) (by rw [Nat.pow_succ] at hn; omega)
      simp; omega
theorem grp_len (n : Nat) (h : n ≤ 2147483647) : (grp n).length ≤ 5 := grp_pow 4 n (by omega)

theorem encC_pow (k n : Nat) (h : n < 128 ^ (k + 1)) : (encC n).length ≤ k + 1 := by
  unfold encC; rw [List.length_map]; exact grp_pow k n h

attribute [local go_sem] Oper.semAt_some

theorem groups_any (w : World) (n : Int) :
    Calls Tryd.prog 52 #[.int .i64 n] w fun e w' => e = .returned (.func (.func 58) #[] #[.pointer (some ⟨w.heap.size, 0, none⟩)]) ∧ w' = w.alloc (.cells #[.int .i64 n] 3) := by
  go_enter Tryd.func52, Tryd.ntmps52
  go_wp2
  go_ret
  exact ⟨rfl, rfl⟩

set_option maxRecDepth 100000 in
set_option maxHeartbeats 1000000 in
theorem iter_stops (B : Nat) (n : Nat) (hn : n ≤ 2147483647) (w : World) (hc : w.cell? ⟨B, 0, none⟩ = some (.int .i64 n)) :
    SeqStopsA Fence.wide 5 Tryd.prog 58 #[.pointer (some ⟨B, 0, none⟩)] gencs (fun xs => xs = grp n) (fun pre => pre <+: grp n) (grp n).length w := fun l J Jx W hW _ _ hY h0 => by
  have hc' : W.cell? ⟨B, 0, none⟩ = some (.int .i64 n) := cell_later hW hc
  refine callsIn_of_wp Tryd.func58 rfl trivial ?_ rfl
  simp only [Tryd.ntmps58, List.size_toArray, List.length_cons, List.length_nil, Nat.reduceAdd, Nat.reduceSub, Array.replicate_succ, Array.replicate_zero, List.push_toArray, List.append_toArray, List.nil_append, List.cons_append]
  gi_wp2
  gi_loopw [3] (fun r wr => ∃ (pre : List (UInt8 × Bool)) (m : Nat), m ≤ n ∧ r = .int .i64 m ∧ grp n = pre ++ grp m ∧ J pre wr)
    (fun r wr => (intOf r).toNat)
  case atStart =>
    exact ⟨[], n, Nat.le_refl _, rfl, rfl, h0⟩
  case round =>
    obtain ⟨pre, m, hm, rfl, hx, hJs⟩ := hrel
    by_cases hlt : m < 128
    · have hg := grp_lt hlt
      have e1 : m.toUInt8.toNat = m := by simp [Nat.toUInt8]; omega
      obtain ⟨fn, tmps, assign, body, hy, hR⟩ := hY pre (m.toUInt8, false) wr hJs (by rw [hx, hg]; simp)
      dsimp only [gencs] at hy
      rw [e1] at hy
      have HX : Hid (grp n = pre ++ [(m.toUInt8, false)]) := Lib.hid (by rw [hx, hg])
      clear hx hg e1
      gi_wp2
      refine hR.mono ?_
      rintro e W3 (⟨rfl, hJ3, hk3⟩ | ⟨rfl, hJx3⟩)
      · gi_wp2
        go_end0
        exact ⟨⟨_, rfl⟩, .inl ⟨_, HX.out.symm, hJ3⟩⟩
      · gi_wp2
        go_end0
        exact ⟨⟨_, rfl⟩, .inr ⟨_, by rw [HX.out]; exact List.prefix_refl _, hJx3⟩⟩
    · have hg := grp_ge hlt
      have e1 : ((m % 128).toUInt8.toNat : Int) = (m : Int) % 128 := by simp [Nat.toUInt8]; omega
      obtain ⟨fn, tmps, assign, body, hy, hR⟩ := hY pre ((m % 128).toUInt8, true) wr hJs (by rw [hx, hg]; simp)
      dsimp only [gencs] at hy
      rw [e1] at hy
      have HX : Hid (grp n = pre ++ [((m % 128).toUInt8, true)] ++ grp (m / 128)) := Lib.hid (by rw [hx, hg]; simp)
      clear hx hg e1
      gi_wp2
      refine hR.mono ?_
      rintro e W3 (⟨rfl, hJ3, hk3⟩ | ⟨rfl, hJx3⟩)
      · gi_wp2
        go_roundw
        case rel => exact ⟨_, m / 128, by omega, by simp, HX.out, hJ3⟩
        case measure => simp [intOf]; omega
      · gi_wp2
        refine bodyPost_ret (results_none rfl _ _ _) rfl ?_
        exact ⟨⟨_, rfl⟩, .inr ⟨_, by rw [HX.out]; exact List.prefix_append _ _, hJx3⟩⟩
/-- what the loop of addCount carries from round to round -/
structure InvAdd (base S : Nat) (w : World) (l : List UInt8) (pre : List (UInt8 × Bool)) (W : World) : Prop where
  ex : ∃ v, W.heap[S]? = some (.cells #[v] 26 (0, 0)) ∧ Own W base v (l ++ pre.map penc)
  below : Below base w W

theorem invAdd_own {base S : Nat} {w : World} {l : List UInt8} (hw : base ≤ w.heap.size) {B : Nat} (hB : base ≤ B) : OwnFrom B (InvAdd base S w l) := by
  rintro s W W' row ⟨⟨v, h1, h2⟩, hb⟩ hg hr
  refine ⟨⟨v, ?_, ?_⟩, ?_⟩
  · rw [hg.block S (Array.getElem?_eq_some_iff.1 h1).1 ?_, h1]
    intro e
    obtain ⟨_, o, ho, hc⟩ := hr S e.symm
    rw [h1] at ho; cases ho; simp [Obj.isCells] at hc
  · refine World.ownsRow.kept h2 hg ?_
    by_cases hn : row = none
    · subst hn
      rcases h2.2 with ⟨rfl, _⟩ | ⟨g, cap, cur, rfl, _⟩ <;> simp [Value.ownBlock]
    · obtain ⟨r, rfl⟩ := Option.ne_none_iff_exists'.1 hn
      obtain ⟨_, o, ho, hc⟩ := hr r rfl
      exact .inr (Own.ne_obj h2 ho hc)
  · exact hb.grown hg (Nat.le_trans hw hb.size) (fun k e => by have := (hr k e).1; omega)

theorem bits_or128 (x : UInt8) : bits BinOp.or IntKind.u8 (x.toNat : Int) 128 = ((x ||| 128).toNat : Int) := by
  have key : ∀ k : Fin 256, bits BinOp.or IntKind.u8 (k.val : Int) 128 = (((UInt8.ofNat k.val) ||| 128).toNat : Int) := by decide +kernel
  have h := key ⟨x.toNat, x.toNat_lt⟩
  simpa using h

theorem grown_at {base : Nat} {W w1 : World} {a' : Option Addr} {c' S : Nat} {q : List UInt8} {bx : Value} {y : Value}
    (hS : W.heap[S]? = some (.cells #[bx] 26 (0, 0))) (hO : Own W base (.slice a' q.length c') q) (hg : (W.alloc (.cells #[y] 5)).grownBy w1 (Value.slice a' q.length c').ownBlock) :
    w1.heap[S]? = some (.cells #[bx] 26 (0, 0)) := by
  have hlt := lt_of_block hS
  rw [hg.block S (by simp; omega) (fun e => Own.ne hO hS (by decide) e.symm), Below.heap_alloc _ _ _ hlt, hS]

theorem invAdd_step {base S : Nat} {w W w1 : World} {l q : List UInt8} {pre : List (UInt8 × Bool)} {p : UInt8 × Bool} {a' : Option Addr} {c' : Nat} {v' : Value} {y : Int}
    (hb : base ≤ w.heap.size) (hbS : base ≤ S) (hq : l ++ pre.map penc = q) (hS : W.heap[S]? = some (.cells #[.slice a' q.length c'] 26 (0, 0))) (hO : Own W base (.slice a' q.length c') q) (hB : Below base w W)
    (hy : y = (penc p).toNat) (hown1 : w1.ownsRow base 5 1 v' (q.length + 1) (bs q ++ [.int .u8 y])) (hg : (W.alloc (.cells #[.int .u8 y] 5)).grownBy w1 (Value.slice a' q.length c').ownBlock) :
    KeepsOthers W (w1.setCell ⟨S, 0, none⟩ v') ∧ KeepsWalks W (w1.setCell ⟨S, 0, none⟩ v') ∧ InvAdd base S w l (pre ++ [p]) (w1.setCell ⟨S, 0, none⟩ v') := by
  have hS1 := grown_at hS hO hg
  have hgw : W.grownBy w1 (Value.slice a' q.length c').ownBlock := by
    refine ⟨hg.os, hg.tape, hg.output, by have := hg.size; simp at this; omega, fun k hk hne => ?_⟩
    rw [hg.block k (by simp; omega) hne, Below.heap_alloc _ _ _ hk]
  have hKO : KeepsOthers W w1 := KeepsOthers.of_grownBy hgw (fun j o hj ho => by
    cases hc : o.isCells with
    | true => rfl
    | false => exact absurd hj.symm (by have := Own.ne_obj hO ho hc; intro e; exact this e.symm))
  have hO1 : Own w1 base v' (l ++ (pre ++ [p]).map penc) := by
    subst hq; subst hy
    unfold Own
    have e1 : (l ++ (pre ++ [p]).map penc).length = (l ++ pre.map penc).length + 1 := by simp; omega
    have e2 : bs (l ++ (pre ++ [p]).map penc) = bs (l ++ pre.map penc) ++ [.int .u8 ((penc p).toNat : Int)] := by simp [bs]
    rw [e1, e2]; exact hown1
  have hK := hKO.trans (KeepsOthers.setCell w1 ⟨S, 0, none⟩ v')
  refine ⟨hK, hK.walks, ⟨v', one_setCell hS1, ?_⟩, ?_⟩
  · exact ownsRow_setCell_other hO1 (Own.ne hO1 hS1 (by decide)) _
  · refine (hB.grown hgw (Nat.le_trans hb hB.size) (fun k e => ?_)).setCell (p := ⟨S, 0, none⟩) hbS _
    exact (World.ownsRow.lt hO k e).1

set_option maxRecDepth 100000 in
set_option maxHeartbeats 2000000 in
theorem addCount_in (w : World) (a : Option Addr) (n c : Nat) (m base : Nat) (l : List UInt8) (hown : Own w base (.slice a n c) l) (hbase : base ≤ w.heap.size) (hm : m ≤ 2147483647) (hn : n ≤ 70368744177664) :
    CallsIn Fence.wide 6 Tryd.prog 42 #[.slice a n c, .int .i64 m] w fun e w' => ∃ v, e = .returned v ∧ Own w' base v (l ++ encC m) ∧ Below base w w' := by
  obtain ⟨i, hi, hz0, hz1, hz2⟩ := info_parts info5
  refine callsIn_of_wp_marks Tryd.func42 rfl trivial ?_ rfl
  simp only [Tryd.ntmps42, List.size_toArray, List.length_cons, List.length_nil, Nat.reduceAdd, Nat.reduceSub, Array.replicate_succ, Array.replicate_zero, List.push_toArray, List.append_toArray, List.nil_append, List.cons_append]
  have h34 : Fence.wide.fn 52 := trivial
  gi_wp2_with (gi_at_call 52; refine (callsIn_wide.2 (groups_any _ _)).mono ?_; rintro e w' ⟨rfl, rfl⟩)
  have hB0 : Below base w ((w.alloc (.cells #[.slice a n c] 26)).alloc (.cells #[.int .i64 m] 3)) := ((Below.refl _ w).alloc hbase _).alloc (by simp; omega) _
  have hbox : ((w.alloc (.cells #[.slice a n c] 26)).alloc (.cells #[.int .i64 m] 3)).heap[w.heap.size]? = some (.cells #[.slice a n c] 26 (0, 0)) := by
    rw [Below.heap_alloc _ _ _ (by simp)]; exact World.alloc_heap_new w _
  have hcn : ((w.alloc (.cells #[.slice a n c] 26)).alloc (.cells #[.int .i64 m] 3)).cell? ⟨w.heap.size + 1, 0, none⟩ = some (.int .i64 m) := by simp
  have hO0 : Own ((w.alloc (.cells #[.slice a n c] 26)).alloc (.cells #[.int .i64 m] 3)) base (.slice a n c) l := World.ownsRow.alloc (World.ownsRow.alloc hown _) _
  have hseq : SeqStopsK Fence.wide (6 - 1) Tryd.prog 58 #[.pointer (some ⟨w.heap.size + 1, 0, none⟩)] gencs KeepsWalks (fun xs => xs = grp m) (fun pre => pre <+: grp m) (grp m).length ((w.alloc (.cells #[.slice a n c] 26)).alloc (.cells #[.int .i64 m] 3)) := seqStopsA_iff.1 (iter_stops (w.heap.size + 1) m hm _ hcn)
  refine wpIn_rangeFunc_ownF rfl (by omega) (gf := 58) (lb := #[.pointer (some ⟨w.heap.size + 1, 0, none⟩)]) rfl trivial (enters_of Tryd.func58 (by kernel_rfl) rfl)
    hseq walksK_t walksK_b (Below.refl _ _) (fun _ => rfl)
    (InvAdd base w.heap.size w l) (fun _ _ _ => False)
    (invAdd_own hbase (by simp; omega)) (fun _ _ _ _ _ hs _ _ => hs)
    ⟨⟨_, hbox, by simpa using hO0⟩, hB0⟩
    (fun x => { tmps := #[.slice a n c, .int .i64 m, .pointer (some ⟨w.heap.size, 0, none⟩), undef, .slice none 0 0, .int .u8 x.1.toNat, .bool x.2, .int .i64 m, .func (.func 58) #[] #[.pointer (some ⟨w.heap.size + 1, 0, none⟩)], .int .u8 x.1.toNat, .bool x.2, undef, undef, undef, undef, undef, undef, undef, undef], defers := [] }) ?assign ?body ?done ?stop
  case assign =>
    intro l x W K hK
    gi_wp2
    exact hK
  case body =>
    rintro L pre ⟨xb, xf⟩ W ⟨⟨v, hS, hO⟩, hB⟩ hlen
    have hq5 := grp_len m hm
    have hln : l.length = n := by obtain ⟨_, _, hsh⟩ := hown.shape; cases hsh; rfl
    have hinv : InvAdd base w.heap.size w l pre W := ⟨⟨v, hS, hO⟩, hB⟩
    have hqs : (l ++ pre.map penc).length = n + pre.length := by simp [hln]
    generalize hq : l ++ pre.map penc = q at hO hqs
    have HQ := Lib.hid hq
    have HQS := Lib.hid hqs
    have hql : q.length ≤ 70368744177664 + 5 := by omega
    clear hq hqs hln
    obtain ⟨a', c', rfl⟩ := hO.shape
    have hSW := lt_of_block hS
    have hc1 := cell_of_one hS
    have hf1 := free_of_one hS
    have HS := Lib.hid hS
    clear hS
    cases xf
    · have HY : Hid ((xb.toNat : Int) = ((penc (xb, false)).toNat : Int)) := Lib.hid (by simp [penc])
      gi_wp2_with (gi_at_builtin; refine wpListIn_append_own _ rfl _ _ 26 rfl base 5 i _ 1 1 Tryd.underlying26 hi hz0 hz1 hz2 rfl (by decide) _ q.length (bs q) rfl (World.ownsRow.alloc hO _) ⟨W.heap.size, 0, none⟩ 1 1 [.int .u8 (xb.toNat : Int)] rfl rfl (cell_one_new _ _ _) (by simp [Value.oneCell']) (by unfold maxLen; omega) (by omega) (by have := hB.size; simp; omega) ?_)
      intro v' w1 hown1 hg1 _
      have hs1 := grown_at HS.out hO hg1
      have hc2 := cell_of_one hs1
      have hf2 := free_of_one hs1
      have HS1 := Lib.hid hs1
      clear hs1
      have fin := invAdd_step (p := (xb, false)) hbase hbase HQ.out HS.out hO hB HY.out hown1 hg1
      obtain ⟨a2, c2, rfl⟩ : ∃ a2 c2, v' = .slice a2 (q.length + 1) c2 := by
        rcases hown1.2 with ⟨rfl, h2⟩ | ⟨g, cap, cur, rfl, _⟩
        · omega
        · exact ⟨_, _, rfl⟩
      gi_wp2
      exact fin
    · have HY : Hid (((xb ||| 128).toNat : Int) = ((penc (xb, true)).toNat : Int)) := Lib.hid (by simp [penc])
      have hor := bits_or128 xb
      gi_wp2_with (gi_at_builtin; refine wpListIn_append_own _ rfl _ _ 26 rfl base 5 i _ 1 1 Tryd.underlying26 hi hz0 hz1 hz2 rfl (by decide) _ q.length (bs q) rfl (World.ownsRow.alloc hO _) ⟨W.heap.size, 0, none⟩ 1 1 [.int .u8 ((xb ||| 128).toNat : Int)] rfl rfl (cell_one_new _ _ _) (by simp [Value.oneCell']) (by unfold maxLen; omega) (by omega) (by have := hB.size; simp; omega) ?_)
      intro v' w1 hown1 hg1 _
      have hs1 := grown_at HS.out hO hg1
      have hc2 := cell_of_one hs1
      have hf2 := free_of_one hs1
      have HS1 := Lib.hid hs1
      clear hs1
      have fin := invAdd_step (p := (xb, true)) hbase hbase HQ.out HS.out hO hB HY.out hown1 hg1
      obtain ⟨a2, c2, rfl⟩ : ∃ a2 c2, v' = .slice a2 (q.length + 1) c2 := by
        rcases hown1.2 with ⟨rfl, h2⟩ | ⟨g, cap, cur, rfl, _⟩
        · omega
        · exact ⟨_, _, rfl⟩
      gi_wp2
      exact fin
  case done =>
    rintro D xs W hD rfl ⟨⟨v, hS, hO⟩, hB⟩ hK
    have hc1 := cell_of_one hS
    gi_wp2
    refine ⟨by simp, .inl ⟨_, _, rfl, run_takeDeferred hK, ?_⟩⟩
    refine ⟨_, results_tmp rfl _ _ _, v, rfl, ?_, ?_⟩
    · exact World.ownsRow.kept hO (grownBy_putObj' W D _) (.inr (Own.ne_obj hO hK rfl))
    · exact hB.grown (grownBy_putObj' W D _) (Nat.le_trans hbase hB.size) (fun k e => by cases e; simp at hD; omega)
  case stop =>
    rintro D c pre W _ _ h _
    exact h.elim
end
/-! The walks of octet.PutCount, PutBytes, PutDigest. -/
section
open Go.RowKit Go.Shelf
set_option maxRecDepth 100000

theorem addCount_any (w : World) (a : Option Addr) (n c : Nat) (m : Int) (base : Nat) (l : List UInt8) (hown : Own w base (.slice a n c) l) (hbase : base ≤ w.heap.size) (h0 : 0 ≤ m) (hm : m ≤ 2147483647) (hn : n ≤ 70368744177664) :
    Calls Tryd.prog 42 #[.slice a n c, .int .i64 m] w fun e w' => ∃ v, e = .returned v ∧ Own w' base v (l ++ encC m.toNat) ∧ Below base w w' := by
  obtain ⟨k, rfl⟩ := Int.eq_ofNat_of_zero_le h0
  exact callsIn_wide.1 ((addCount_in w a n c k base l hown hbase (by omega) hn).more (Nat.le_refl _))

theorem roomy_own (w : World) (a : Option Addr) (n c : Nat) (l : List UInt8) (k : Int) (hr : Rd w a n c l) (hlen : n ≤ 140737488351232) (h0 : 0 ≤ k) (hk : k ≤ 140737488351232) :
    Calls Tryd.prog 43 #[.slice a n c, .int .i64 k] w fun e w' => ∃ a' c', e = .returned (.slice a' n c') ∧ Own w' w.heap.size (.slice a' n c') l ∧ Below w.heap.size w w' := by
  obtain ⟨k, rfl⟩ := Int.eq_ofNat_of_zero_le h0
  refine (roomy_any w a n c l k hr hlen (by omega)).mono ?_
  rintro e w' ⟨c', rfl, _, h, hg⟩
  exact ⟨_, _, rfl, by unfold Own; rw [hr.len]; exact h, (Below.refl _ _).grown hg (Nat.le_refl _) (by simp)⟩

theorem encC_len (n : Nat) (h : n ≤ 2147483647) : (encC n).length ≤ 5 := by
  unfold encC; rw [List.length_map]; exact grp_len n h

/-- what PutCount, PutBytes, PutDigest hand back -/
def PutPost (w : World) (l : List UInt8) (e : Ending) (w' : World) : Prop :=
  ∃ v, e = .returned (.tuple #[v, .int .i64 0]) ∧ Own w' w.heap.size v l ∧ Below w.heap.size w w'

set_option maxHeartbeats 400000 in
theorem putCount_ok (w : World) (a : Option Addr) (n c : Nat) (m : Int) (l : List UInt8) (hr : Rd w a n c l) (hn : n ≤ 1099511627776) (h0 : 0 ≤ m) (hm : m ≤ 2147483647) :
    Calls Tryd.prog 24 #[.slice a n c, .int .i64 m] w (PutPost w (l ++ encC m.toNat)) := by
  go_enter Tryd.func24, Tryd.ntmps24
  go_wp2_with fail
  refine (roomy_own w a n c l 5 hr (by omega) (by omega) (by omega)).mono ?_
  rintro e w1 ⟨a1, c1, rfl, hO1, hB1⟩
  go_wp2_with fail
  refine (addCount_any w1 a1 n c1 m w.heap.size l hO1 hB1.size h0 hm (by omega)).mono ?_
  rintro e w2 ⟨v, rfl, hO2, hB2⟩
  go_wp2
  go_ret2
  exact ⟨v, rfl, hO2, hB1.trans hB2⟩

set_option maxHeartbeats 400000 in
theorem putCount_no (w : World) (a : Option Addr) (n c : Nat) (m : Int) (hm : m < 0 ∨ 2147483647 < m) :
    Calls Tryd.prog 24 #[.slice a n c, .int .i64 m] w fun e w' => e = .returned (.tuple #[.slice none 0 0, .int .i64 1]) ∧ w = w' := by
  rcases hm with hm | hm
  · go_enter Tryd.func24, Tryd.ntmps24
    go_wp2
    go_ret2
    exact ⟨rfl, rfl⟩
  · have h0 : ¬ m < 0 := by omega
    go_enter Tryd.func24, Tryd.ntmps24
    go_wp2
    go_ret2
    exact ⟨rfl, rfl⟩

set_option maxHeartbeats 400000 in
theorem putDigest_ok (w : World) (a : Option Addr) (n c : Nat) (ds : List UInt8) (hd : ds.length = 32) (l : List UInt8) (hr : Rd w a n c l) (hn : n ≤ 1099511627776) :
    Calls Tryd.prog 25 #[.slice a n c, .agg (bs ds).toArray] w fun e w' => ∃ v, e = .returned v ∧ Own w' w.heap.size v (l ++ ds) ∧ Below w.heap.size w w' := by
  obtain ⟨i, hi, hz0, hz1, hz2⟩ := info_parts info5
  go_enter Tryd.func25, Tryd.ntmps25
  go_wp2_with fail
  have hw1 : Below w.heap.size w (w.alloc (.cells (bs ds).toArray 23)) := (Below.refl _ w).alloc (Nat.le_refl _) _
  have hbd : (w.alloc (.cells (bs ds).toArray 23)).heap[w.heap.size]? = some (.cells (bs ds).toArray 23 (0, 0)) := World.alloc_heap_new w _
  have hr1 := hr.below hw1
  have hr2 : Rd (w.alloc (.cells (bs ds).toArray 23)).drew a n c l := ⟨hr1.len, hr1.cap, hr1.max, hr1.nil, hr1.cell⟩
  have hn2 : l.length ≤ 1099511627776 := by rw [hr.len]; exact hn
  have hd1 : (bs ds).toArray.toList.length = 32 * 1 := by simp [bs_length, hd]
  go_region_law (first | (refine step_append_lies _ rfl (.tmp 6) (.tmp 7) 26 rfl w.heap.size 5 i _ 1 1 Tryd.underlying26 hi hz0 hz1 hz2 rfl (by decide) _ l.length (bs l) rfl (hOx) ⟨w.heap.size, 0, none⟩ 32 32 (bs ds).toArray.toList rfl hd1 (World.news_of_block hbx) (by simpa using bs_one ds) (by decide) (by unfold maxLen; omega) (by omega) hsx _ rfl ?_; intro g cap w2 hown2 hg2 _ _) | (go_simp; go_at_call 43; refine (roomy_own _ _ _ _ _ _ hr2 (by omega) (by omega) (by omega)).mono ?_; rintro e w1 ⟨a1, c1, rfl, hO1, hB1⟩; have hOx : w1.ownsRow w.heap.size 5 1 (.slice a1 n c1) l.length (bs l) := Own.lower hO1 (by simp); have hbx : w1.heap[w.heap.size]? = some (.cells (bs ds).toArray 23 (0, 0)) := (hB1.block _ (by simp)).trans hbd; have hsx : w.heap.size ≤ w1.heap.size := by have := hB1.size; simp at this; omega))
  go_wp2
  go_ret
  refine ⟨_, rfl, ?_, ?_⟩
  · unfold Own
    rw [List.length_append, hd, bs_append]
    simpa using hown2
  · refine ((hw1.drew).trans (hB1.mono (by simp))).grown hg2 (by have := hB1.size; simp at this; omega) (fun k e => ?_)
    have := (World.ownsRow.lt hOx k e).1
    omega
end
end Go.Proofs.YtoclahcibilbhaaDoor
