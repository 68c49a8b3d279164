/-
  A tree as the set of its leaves: what the calls make of it.
-/
import Derived.Test.YtielmijahccgkaaGreatDoorCon05V
namespace Go.Proofs.YtielmijahccgkaaGreatDoor
open Go.RowKit

theorem perm_of_mem {l m : List Lf} (hl : unlike l) (hm : unlike m) (h : ∀ y, y ∈ l ↔ y ∈ m) : l.Perm m :=
  (List.perm_ext_iff_of_nodup (unlike_nodup hl) (unlike_nodup hm)).2 h
theorem setF_perm {l m k : List Lf} (h : ∀ y, y ∈ l ↔ y ∈ m) (hl : unlike l) (hm : unlike m) (hk : unlike k) : (setF l k).Perm (setF m k) :=
  perm_of_mem (setF_unlike k l hl) (setF_unlike k m hm) fun y => by rw [setF_mem k l hk, setF_mem k m hk, h]
theorem set_same {l m k : List Lf} (h : ∀ y, y ∈ l ↔ y ∈ m) (hl : unlike l) (hm : unlike m) : setE l k = setE m k ∧ ∀ y, y ∈ setI l k ↔ y ∈ setI m k := by
  unfold setE setI
  by_cases h1 : 4096 < k.length
  · simp only [if_pos h1]; exact ⟨trivial, h⟩
  · simp only [if_neg h1]
    cases ht : twiceB k
    · have hp := setF_perm h hl hm ((twiceB_iff k).1 ht)
      rw [hp.length_eq]
      simp only [Bool.false_eq_true, if_false]
      by_cases h2 : 4096 < (setF m k).length
      · simp only [if_pos h2]; exact ⟨trivial, h⟩
      · simp only [if_neg h2]; exact ⟨trivial, fun y => hp.mem_iff⟩
    · exact ⟨rfl, h⟩
theorem setI_unlike {l k : List Lf} (hl : unlike l) : unlike (setI l k) := by
  unfold setI
  split
  · exact hl
  · split
    · exact hl
    · split
      · exact hl
      · exact setF_unlike k l hl
theorem setI_len {l k : List Lf} (hl : l.length ≤ 4096) : (setI l k).length ≤ 4096 := by
  unfold setI
  split
  · exact hl
  · split
    · exact hl
    · split
      · exact hl
      · omega
theorem find_same {l m : List Lf} (h : ∀ y, y ∈ l ↔ y ∈ m) (hl : unlike l) (hm : unlike m) (d : List UInt8) : findL l d = findL m d := by
  cases e : findL m d with
  | none =>
    refine find_not fun x hx e2 => ?_
    have := find_mem hm ((h x).1 hx)
    rw [e2, e] at this; cases this
  | some y =>
    have h1 := List.mem_of_find?_eq_some e
    have h2 : y.path = d := by have := List.find?_some e; simpa using this
    rw [← h2]
    exact find_mem hl ((h y).2 h1)

/-- a tree of width x whose leaves are L -/
structure Sm (w0 : World) (x tp : Nat) (L : List Lf) (W : World) : Prop where
  out : ∃ G pn pt t, Inv w0.heap.size x G noL W ∧ Tr w0.heap.size G W tp pn pt t ∧ t.wf 0 ∧ ∀ y, y ∈ t.lvs ↔ y ∈ L
  bel : Below w0.heap.size w0 W
  unl : unlike L
  few : L.length ≤ 4096
section
variable {w0 W W' : World} {x tp : Nat} {L : List Lf}
theorem Sm.below (h : Sm w0 x tp L W) (hb : Below W.heap.size W W') : Sm w0 x tp L W' := by
  obtain ⟨⟨G, pn, pt, t, h1, h2, h3, h4⟩, h5, h6, h7⟩ := h
  exact ⟨⟨G, pn, pt, t, h1.below hb, h2.later (fun _ _ h => h) hb, h3, h4⟩, Bt h5 hb, h6, h7⟩
theorem Sm.low (h : Sm w0 x tp L W) : w0.heap.size ≤ tp ∧ tp < W.heap.size := by
  obtain ⟨⟨G, pn, pt, t, h1, h2, h3, h4⟩, h5, h6, h7⟩ := h
  exact ⟨h2.low, h2.blk.lt⟩
/-- a variable of a kind that no tree has, behind it -/
theorem Sm.put (h : Sm w0 x tp L W) {g : Nat} {ty : TypeId} {vs : List Value} (hg : W.grownBy W' (some g)) (hk : Blk W g ty vs) (h1 : ty ≠ 93) (h2 : ty ≠ 26) (h3 : ty ≠ 95) (h0 : w0.heap.size ≤ g) : Sm w0 x tp L W' := by
  obtain ⟨⟨G, pn, pt, t, q1, q2, q3, q4⟩, h5, h6, h7⟩ := h
  have hne : g ≠ tp := fun e => by subst e; exact h3 (hk.kind q2.blk).1
  exact ⟨⟨G, pn, pt, t, q1.grown hg (hk.not h1) (hk.not h2), ⟨q2.blk.grown hg (by simpa using hne), q2.low, q2.no, q2.top⟩, q3, q4⟩, h5.grown hg h5.size (fun k e => by cases e; exact h0), h6, h7⟩

theorem sm_new (w0 W : World) (x : Nat) (hx : x ≤ 32) (hb : Below w0.heap.size w0 W) :
    Calls Tryz.prog 27 #[.int .i64 (x : Int)] W fun e w' => ∃ tp, e = .returned (.tuple #[.pointer (some ⟨tp, 0, none⟩), .int .i64 0]) ∧ Sm w0 x tp [] w' := by
  refine (snew_any W x hx w0.heap.size hb.size (fun _ => none) (Inv.start _ x noL W)).mono ?_
  rintro e w' ⟨tp, pn, G, rfl, h1, h2, -, -, h5⟩
  exact ⟨tp, rfl, ⟨⟨G, pn, pn, .none, h2, h1, trivial, fun y => by simp [T.lvs]⟩, Bt hb h5, List.Pairwise.nil, by simp⟩⟩
theorem sm_set (h : Sm w0 x tp L W) (a : Option Addr) (n c : Nat) (l : List Lf) (hr : RdL W a n c l) (hn : n ≤ 1000000) (hs : n ≤ 4096 → SortsAt n) :
    Calls Tryz.prog 30 #[.pointer (some ⟨tp, 0, none⟩), .slice a n c] W fun e w' => e = .returned (.int .i64 (setE L l)) ∧ Sm w0 x tp (setI L l) w' ∧ W.grownBy w' (some tp) := by
  obtain ⟨⟨G, pn, pt, t, q1, q2, q3, q4⟩, h5, h6, h7⟩ := h
  have hp := whole_perm q3 h6 q4
  obtain ⟨e1, e2⟩ := set_same (k := l) q4 (T.wf_unlike t 0 q3) h6
  refine (set_any w0.heap.size x G W tp pn pt t a n c l h5.size q1 q2 q3 (by rw [hp.length_eq]; exact h7) hr hn hs).mono ?_
  rintro e w' ⟨rfl, ⟨G', pt', t', r1, r2, r3, r4, r5⟩, hg⟩
  exact ⟨by rw [e1], ⟨⟨G', pn, pt', t', r2, r1, r4, fun y => (r5 y).trans (e2 y)⟩, h5.grown hg h5.size (fun k e => by cases e; exact q2.low), setI_unlike h6, setI_len h7⟩, hg⟩
theorem sm_drop (h : Sm w0 x tp L W) (d : List UInt8) (hd : d.length = 32) :
    Calls Tryz.prog 32 #[.pointer (some ⟨tp, 0, none⟩), .agg (bs d).toArray] W fun e w' => e = .returned (.bool (findL L d).isSome) ∧ Sm w0 x tp (dropL L d) w' ∧ W.grownBy w' (some tp) := by
  obtain ⟨⟨G, pn, pt, t, q1, q2, q3, q4⟩, h5, h6, h7⟩ := h
  have hp := whole_perm q3 h6 q4
  have hf := find_same q4 (T.wf_unlike t 0 q3) h6 d
  refine (drop_any w0.heap.size x G W tp pn pt t d hd h5.size q1 q2 q3 (by rw [hp.length_eq]; omega)).mono ?_
  rintro e w' ⟨rfl, ⟨G', pt', t', r1, r2, r3, r4, r5⟩, hg⟩
  refine ⟨by rw [hf], ⟨⟨G', pn, pt', t', r2, r1, r4, fun y => (r5 y).trans ?_⟩, h5.grown hg h5.size (fun k e => by cases e; exact q2.low), drop_unlike h6 d, Nat.le_trans (List.length_filter_le _ _) h7⟩, hg⟩
  unfold dropL
  rw [List.mem_filter, List.mem_filter, q4]
theorem sm_get (h : Sm w0 x tp L W) (d : List UInt8) (hd : d.length = 32) :
    Calls Tryz.prog 33 #[.pointer (some ⟨tp, 0, none⟩), .agg (bs d).toArray] W fun e w' => e = .returned (.tuple #[.agg (bs (valOf (findL L d))).toArray, .bool (findL L d).isSome]) ∧ Below W.heap.size W w' := by
  obtain ⟨⟨G, pn, pt, t, q1, q2, q3, q4⟩, h5, h6, h7⟩ := h
  have hf := find_same q4 (T.wf_unlike t 0 q3) h6 d
  refine (get_any w0.heap.size x G W tp pn pt t d hd q1 q2 q3).mono ?_
  rintro e w' ⟨rfl, hb⟩
  exact ⟨by rw [hf], hb⟩
theorem sm_len (h : Sm w0 x tp L W) : Calls Tryz.prog 36 #[.pointer (some ⟨tp, 0, none⟩)] W fun e w' => e = .returned (.int .i64 (L.length : Int)) ∧ w' = W := by
  obtain ⟨⟨G, pn, pt, t, q1, q2, q3, q4⟩, h5, h6, h7⟩ := h
  rw [← (whole_perm q3 h6 q4).length_eq]
  exact tlen_any w0.heap.size x G W tp pn pt t q1 q2
theorem sm_root (h : Sm w0 x tp L W) (hx : x ≤ 32) (hT : Tab w0 1) :
    Calls Tryz.prog 38 #[.pointer (some ⟨tp, 0, none⟩)] W fun e w' => e = .returned (.agg (bs (rootL x L)).toArray) ∧ Sm w0 x tp L w' ∧ Below w0.heap.size W w' := by
  obtain ⟨⟨G, pn, pt, t, q1, q2, q3, q4⟩, h5, h6, h7⟩ := h
  have hG : G 1 = none := by
    cases e : G 1 with
    | none => rfl
    | some u => have := q1.low _ _ e; have := hT.lt; omega
  have hp := whole_perm q3 h6 q4
  refine (troot_any w0.heap.size x hx G W tp pn pt t q1 q2 q3 hG (hT.below h5)).mono ?_
  rintro e w' ⟨rfl, r1, r2⟩
  have hB := r2.below q1.low h5.size
  have hGt : G tp = none := q1.tree q2.blk (by decide)
  exact ⟨by rw [T.root_eq x q3, rootL_perm x hp], ⟨⟨G, pn, pt, t, r1, ⟨Blk.fr r2 hGt q2.blk, q2.low, q2.no, q2.top⟩, q3, q4⟩, h5.trans hB, h6, h7⟩, hB⟩
end
end Go.Proofs.YtielmijahccgkaaGreatDoor
