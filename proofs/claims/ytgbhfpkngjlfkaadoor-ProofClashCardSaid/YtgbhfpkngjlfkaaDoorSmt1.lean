/-
  Smt1 Smt2, in one text.
-/
import Derived.Test.YtgbhfpkngjlfkaaDoorSmt0
import Derived.Test.YtgbhfpkngjlfkaaDoorPath1
import Derived.Test.YtgbhfpkngjlfkaaDoorRef05G
import Derived.Test.YtgbhfpkngjlfkaaDoorRef05H
namespace Go.Proofs.YtgbhfpkngjlfkaaDoor
/-! What follows of digests of leaves: the order doesn't count; sets and drops; the sorted list is one. -/
section

theorem half_perm {l m : List Lf} (h : l.Perm m) (n b : Nat) : (half l n b).Perm (half m n b) := h.filter _
theorem digestF_perm (w : Nat) : ∀ (k : Nat) (l m : List Lf) (n : Nat), l.Perm m → digestF w k l n = digestF w k m n := by
  intro k
  induction k with
  | zero =>
    intro l m n h
    match l, m, h with
    | [], m, h => rw [List.nil_perm.1 h]
    | [x], m, h => rw [List.singleton_perm.1 h]
    | x :: y :: l, [], h => exact absurd (List.perm_nil.1 h) (by simp)
    | x :: y :: l, [z], h => exact absurd h.length_eq (by simp)
    | x :: y :: l, z :: u :: m, _ => rw [digestF, digestF]
  | succ k ih =>
    intro l m n h
    match l, m, h with
    | [], m, h => rw [List.nil_perm.1 h]
    | [x], m, h => rw [List.singleton_perm.1 h]
    | x :: y :: l, [], h => exact absurd (List.perm_nil.1 h) (by simp)
    | x :: y :: l, [z], h => exact absurd h.length_eq (by simp)
    | x :: y :: l, z :: u :: m, h => rw [digestF, digestF, ih _ _ _ (half_perm h n 0), ih _ _ _ (half_perm h n 1)]
theorem rootL_perm (w : Nat) {l m : List Lf} (h : l.Perm m) : rootL w l = rootL w m := digestF_perm w 256 l m 0 h
theorem unlike_perm {l m : List Lf} (h : l.Perm m) : unlike l ↔ unlike m := h.pairwise_iff (fun e => Ne.symm e)
theorem twiceB_perm {l m : List Lf} (h : l.Perm m) : twiceB l = twiceB m := by
  cases e : twiceB m
  · exact (twiceB_iff l).2 ((unlike_perm h).2 ((twiceB_iff m).1 e))
  · cases e' : twiceB l
    · rw [(twiceB_iff m).2 ((unlike_perm h).1 ((twiceB_iff l).1 e'))] at e
      cases e
    · rfl
theorem rootI_perm (x : Int) {l m : List Lf} (h : l.Perm m) : rootI x l = rootI x m ∧ rootE x l = rootE x m := by
  unfold rootI rootE
  rw [h.length_eq, twiceB_perm h, rootL_perm _ h]
  exact ⟨rfl, rfl⟩

/-- drops and sets keep paths unlike -/
theorem drop_unlike {l : List Lf} (h : unlike l) (p : List UInt8) : unlike (dropL l p) := List.Pairwise.sublist List.filter_sublist h
theorem drop_none (l : List Lf) (p : List UInt8) : ∀ y ∈ dropL l p, y.path ≠ p := fun y hy => by
  have := (List.mem_filter.1 hy).2
  simpa using this
theorem put_unlike {l : List Lf} (h : unlike l) (x : Lf) : unlike (dropL l x.path ++ [x]) := by
  rw [unlike, List.pairwise_append]
  refine ⟨drop_unlike h _, by simp, fun y hy z hz => ?_⟩
  obtain rfl : z = x := by simpa using hz
  exact drop_none l _ y hy
theorem setF_unlike : ∀ (m l : List Lf), unlike l → unlike (setF l m)
  | [], _, h => h
  | x :: m, _, h => setF_unlike m _ (put_unlike h x)
/-- dropping a path that isn't there changes nothing -/
theorem drop_absent {l : List Lf} {p : List UInt8} (h : findL l p = none) : dropL l p = l := by
  rw [findL, List.find?_eq_none] at h
  rw [dropL, List.filter_eq_self]
  intro x hx
  have := h x hx
  simpa using this
theorem drop_put {l : List Lf} (x : Lf) (h : findL l x.path = none) : dropL (l ++ [x]) x.path = l := by
  have hd := drop_absent h
  unfold dropL at hd ⊢
  rw [List.filter_append, hd]
  simp

/-- the order of a sorted list of leaves -/
def lessLf (x y : Lf) : Bool := lessB x.path y.path
theorem insL_perm (out : List Lf) (x : Lf) : (insL out x).Perm (out ++ [x]) := by
  have h : (out.take (insAt x.path out) ++ [x] ++ out.drop (insAt x.path out)).Perm (out.take (insAt x.path out) ++ out.drop (insAt x.path out) ++ [x]) := by
    rw [List.append_assoc, List.append_assoc]
    exact List.Perm.append_left _ List.perm_append_comm
  rw [List.take_append_drop] at h
  exact h
theorem foldl_insL_perm : ∀ (l out : List Lf), (l.foldl insL out).Perm (out ++ l)
  | [], out => by simp
  | x :: l, out => by
    rw [List.foldl_cons]
    refine (foldl_insL_perm l (insL out x)).trans ?_
    have h := (insL_perm out x).append_right l
    rwa [List.append_assoc] at h
theorem sortedL_perm (l : List Lf) : (sortedL l).Perm l := by simpa [sortedL] using foldl_insL_perm l []

/-- sorted: whoever stands ahead isn't behind -/
def inOrder (l : List Lf) : Prop := l.Pairwise fun x y => lessB y.path x.path = false
theorem insAt_le (p : List UInt8) (out : List Lf) : insAt p out ≤ out.length := List.findIdx_le_length
theorem less_false_trans {a b c : List UInt8} (ha : a.length = 32) (hb : b.length = 32) (h1 : lessB b a = false) (h2 : lessB c b = false) : lessB c a = false := by
  cases e : lessB c a
  · rfl
  · by_cases hab : a = b
    · rw [← hab, e] at h2; cases h2
    · have h3 : lessB a b = true := by
        have := less_total a b ha hb hab
        rw [h1] at this
        cases h : lessB a b
        · rw [h] at this; exact absurd rfl this
        · rfl
      rw [less_trans c a b e h3] at h2
      cases h2
theorem insL_order {out : List Lf} (hk : oks out) {x : Lf} (hx : x.ok) (h : inOrder out) : inOrder (insL out x) := by
  have hle := insAt_le x.path out
  have hlt : ∀ y ∈ out.take (insAt x.path out), lessB x.path y.path = false := fun y hy => by
    obtain ⟨j, hj, rfl⟩ := List.getElem_of_mem hy
    have hj' : j < insAt x.path out := by simp at hj; omega
    rw [List.getElem_take]
    exact List.not_of_lt_findIdx hj'
  have hge : ∀ y ∈ out.drop (insAt x.path out), lessB y.path x.path = false := fun y hy => by
    obtain ⟨j, hj, rfl⟩ := List.getElem_of_mem hy
    have hj' : insAt x.path out + j < out.length := by simp at hj; omega
    have h0 : insAt x.path out < out.length := by omega
    have hp : lessB x.path (out[insAt x.path out]).path = true := List.findIdx_getElem (w := h0)
    rw [List.getElem_drop]
    have hl0 := (hk _ (List.getElem_mem h0)).1
    have hord : lessB (out[insAt x.path out + j]).path (out[insAt x.path out]).path = false := by
      rcases Nat.eq_zero_or_pos j with rfl | hj0
      · exact less_self _
      · exact List.pairwise_iff_getElem.1 h _ _ h0 hj' (by omega)
    refine less_false_trans hx.1 hl0 ?_ hord
    have hc : comm x.path (out[insAt x.path out]).path < 256 := ((lessB_iff _ _).1 hp).1
    rw [less_other _ _ hc, hp]
    rfl
  unfold inOrder insL
  rw [List.append_assoc, List.pairwise_append]
  refine ⟨h.sublist (List.take_sublist _ _), ?_, fun y hy z hz => ?_⟩
  · rw [List.singleton_append, List.pairwise_cons]
    exact ⟨hge, h.sublist (List.drop_sublist _ _)⟩
  · rcases List.mem_append.1 hz with hz | hz
    · obtain rfl : z = x := by simpa using hz
      exact hlt y hy
    · exact (List.pairwise_append.1 (by rw [List.take_append_drop]; exact h : inOrder (out.take (insAt x.path out) ++ out.drop (insAt x.path out)))).2.2 y hy z hz
theorem foldl_insL_order : ∀ (l out : List Lf), oks l → oks out → inOrder out → inOrder (l.foldl insL out)
  | [], _, _, _, h => h
  | x :: l, _, hl, hk, h => foldl_insL_order l _ (fun y hy => hl y (List.mem_cons_of_mem _ hy)) (insL_ok hk (hl x List.mem_cons_self)) (insL_order hk (hl x List.mem_cons_self) h)
theorem sortedL_order {l : List Lf} (h : oks l) : inOrder (sortedL l) := foldl_insL_order l [] h (fun _ h => (by simp at h)) List.Pairwise.nil
theorem order_anti {l : List Lf} (hk : oks l) (hu : unlike l) (x y : Lf) (hx : x ∈ l) (hy : y ∈ l) (h1 : lessB y.path x.path = false) (h2 : lessB x.path y.path = false) : x = y := by
  have hxp := (hk x hx).1
  have hyp := (hk y hy).1
  by_cases hp : x.path = y.path
  · obtain ⟨i, hi, ei⟩ := List.getElem_of_mem hx
    obtain ⟨j, hj, ej⟩ := List.getElem_of_mem hy
    have hpw := List.pairwise_iff_getElem.1 hu
    rcases Nat.lt_trichotomy i j with h | h | h
    · exact absurd (by rw [ei, ej]; exact hp) (hpw i j hi hj h)
    · subst h
      rw [← ei, ← ej]
    · exact absurd (by rw [ei, ej]; exact hp.symm) (hpw j i hj hi h)
  · have ht := less_total x.path y.path hxp hyp hp
    rw [h1, h2] at ht
    exact absurd rfl ht
theorem perm_uniq {α : Type} {R : α → α → Prop} {l m : List α} (ha : ∀ x y, x ∈ l → y ∈ l → R x y → R y x → x = y) (hl : l.Pairwise R) (hm : m.Pairwise R) (hp : l.Perm m) : l = m :=
  List.Perm.eq_of_pairwise (le := R) (fun x y hx hy h1 h2 => ha x y hx (hp.mem_iff.2 hy) h1 h2) hl hm hp
/-- two sorted lists of the same leaves of unlike paths are the same -/
theorem order_unique {l m : List Lf} (hk : oks l) (hl : inOrder l) (hm : inOrder m) (hu : unlike l) (hp : l.Perm m) : l = m := by
  have ha := order_anti hk hu
  unfold inOrder at hl hm
  generalize hR : (fun x y : Lf => lessB y.path x.path = false) = R at hl hm
  refine perm_uniq (R := R) (fun x y hx hy h1 h2 => ?_) hl hm hp
  rw [← hR] at h1 h2
  exact ha x y hx hy h1 h2
theorem sortedL_eq {l m : List Lf} (hk : oks l) (hu : unlike l) (h : l.Perm m) : sortedL l = sortedL m := by
  have hkm : oks m := fun x hx => hk x (h.mem_iff.2 hx)
  have hpl := sortedL_perm l
  have hpm := sortedL_perm m
  refine order_unique (fun x hx => hk x (hpl.mem_iff.1 hx)) (sortedL_order hk) (sortedL_order hkm) ((unlike_perm hpl).2 hu) (hpl.trans (h.trans hpm.symm))
end
/-! Trees of leaves: what the nodes of a tree stand for; leaves put into one, and taken out of one. -/
section

/-- what a node stands for -/
inductive T where
  | none
  | one (x : Lf)
  | two (l r : T)
def T.lvs : T → List Lf
  | .none => []
  | .one x => [x]
  | .two l r => l.lvs ++ r.lvs
def T.dig (w : Nat) : T → List UInt8
  | .none => emptyD w
  | .one x => leafD w x
  | .two l r => nodeD w (l.dig w) (r.dig w)
def T.hgt : T → Nat
  | .none => 0
  | .one _ => 0
  | .two l r => l.hgt + r.hgt + 1
/-- a tree as it stands at a depth -/
def T.wf : T → Nat → Prop
  | .none, _ => True
  | .one x, _ => x.ok
  | .two l r, n => 2 ≤ l.lvs.length + r.lvs.length ∧ l.wf (n + 1) ∧ r.wf (n + 1) ∧ (∀ x ∈ l.lvs, bitAt x.path n = 0) ∧ (∀ x ∈ r.lvs, bitAt x.path n = 1)

theorem T.dig_length (w : Nat) (hw : w ≤ 32) : ∀ t : T, (t.dig w).length = 32
  | .none => shortB_length _ _ hw
  | .one _ => shortB_length _ _ hw
  | .two _ _ => shortB_length _ _ hw
theorem T.wf_oks : ∀ (t : T) (n : Nat), t.wf n → oks t.lvs
  | .none, _, _ => fun _ h => by simp [T.lvs] at h
  | .one x, _, h => fun y hy => by
    obtain rfl : y = x := by simpa [T.lvs] using hy
    exact h
  | .two l r, n, h => (T.wf_oks l (n + 1) h.2.1).append (T.wf_oks r (n + 1) h.2.2.1)
theorem T.wf_unlike : ∀ (t : T) (n : Nat), t.wf n → unlike t.lvs
  | .none, _, _ => List.Pairwise.nil
  | .one x, _, _ => by simp [unlike, T.lvs]
  | .two l r, n, h => by
    unfold unlike T.lvs
    rw [List.pairwise_append]
    exact ⟨T.wf_unlike l (n + 1) h.2.1, T.wf_unlike r (n + 1) h.2.2.1, fun x hx y hy e => by
      have h0 := h.2.2.2.1 x hx
      have h1 := h.2.2.2.2 y hy
      rw [e, h1] at h0
      cases h0⟩
theorem agree_sub {l m : List Lf} {n : Nat} (h : agree l n) (hs : ∀ x ∈ m, x ∈ l) : agree m n := fun x hx y hy i hi => h x (hs x hx) y (hs y hy) i hi
theorem agree_bit {l : List Lf} {n b : Nat} (h : agree l n) (hb : ∀ x ∈ l, bitAt x.path n = b) : agree l (n + 1) := fun x hx y hy i hi => by
  by_cases e : i = n
  · subst e; rw [hb x hx, hb y hy]
  · exact h x hx y hy i (by omega)
theorem T.agree_left {l r : T} {n : Nat} (h : (T.two l r).wf n) (ha : agree (T.two l r).lvs n) : agree l.lvs (n + 1) := agree_bit (agree_sub ha (fun x hx => by simp [T.lvs, hx])) h.2.2.2.1
theorem T.agree_right {l r : T} {n : Nat} (h : (T.two l r).wf n) (ha : agree (T.two l r).lvs n) : agree r.lvs (n + 1) := agree_bit (agree_sub ha (fun x hx => by simp [T.lvs, hx])) h.2.2.2.2
theorem bitAt_big {p : List UInt8} (hp : p.length = 32) {n : Nat} (hn : 256 ≤ n) : bitAt p n = 0 := by
  have e : p.getD (n / 8) 0 = 0 := by
    rw [List.getD_eq_getElem?_getD, List.getElem?_eq_none (by omega)]
    rfl
  unfold bitAt
  rw [e]
  simp
theorem T.wf_order : ∀ (t : T) (n : Nat), t.wf n → agree t.lvs n → inOrder t.lvs
  | .none, _, _, _ => List.Pairwise.nil
  | .one x, _, _, _ => by simp [inOrder, T.lvs]
  | .two l r, n, h, ha => by
    unfold inOrder T.lvs
    rw [List.pairwise_append]
    refine ⟨T.wf_order l (n + 1) h.2.1 (T.agree_left h ha), T.wf_order r (n + 1) h.2.2.1 (T.agree_right h ha), fun x hx y hy => ?_⟩
    have h0 := h.2.2.2.1 x hx
    have h1 := h.2.2.2.2 y hy
    have hyo := T.wf_oks r (n + 1) h.2.2.1 y hy
    have hn : n < 256 := by
      rcases Nat.lt_or_ge n 256 with h' | h'
      · exact h'
      · rw [bitAt_big hyo.1 h'] at h1; cases h1
    have hc : comm y.path x.path = n := comm_unique _ _ n (by omega) (fun i hi => ha y (by simp [T.lvs, hy]) x (by simp [T.lvs, hx]) i hi) (fun _ => by rw [h0, h1]; decide)
    simp [lessB, hc, h1]
theorem T.size_two {l r : T} {n : Nat} (h : (T.two l r).wf n) : 2 ≤ (T.two l r).lvs.length := by
  have := h.1
  simp only [T.lvs, List.length_append]
  exact this
theorem T.deep {t : T} {n : Nat} (h : t.wf n) (ha : agree t.lvs n) (hn : 256 ≤ n) : t.lvs.length ≤ 1 := unlike_agree (T.wf_oks t n h) (T.wf_unlike t n h) ha hn
/-- the digest of a node is that of its leaves -/
theorem T.dig_eq (w : Nat) : ∀ (t : T) (n k : Nat), n + k = 256 → t.wf n → agree t.lvs n → t.dig w = digestF w k t.lvs n
  | .none, n, k, _, _, _ => by simp [T.dig, T.lvs, digestF]
  | .one x, n, k, _, _, _ => by simp [T.dig, T.lvs, digestF]
  | .two l r, n, k, hk, h, ha => by
    have h2 := T.size_two h
    have hn : n < 256 := by
      rcases Nat.lt_or_ge n 256 with h' | h'
      · exact h'
      · have := T.deep h ha h'; omega
    obtain ⟨k, rfl⟩ : ∃ j, k = j + 1 := ⟨k - 1, by omega⟩
    have e0 : half (T.two l r).lvs n 0 = l.lvs := by
      show (l.lvs ++ r.lvs).filter (fun x => decide (bitAt x.path n = 0)) = l.lvs
      rw [List.filter_append, List.filter_eq_self.2 (fun x hx => by simpa using h.2.2.2.1 x hx), List.filter_eq_nil_iff.2 (fun x hx => by simp [h.2.2.2.2 x hx]), List.append_nil]
    have e1 : half (T.two l r).lvs n 1 = r.lvs := by
      show (l.lvs ++ r.lvs).filter (fun x => decide (bitAt x.path n = 1)) = r.lvs
      rw [List.filter_append, List.filter_eq_nil_iff.2 (fun x hx => by simp [h.2.2.2.1 x hx]), List.filter_eq_self.2 (fun x hx => by simpa using h.2.2.2.2 x hx), List.nil_append]
    have i0 := T.dig_eq w l (n + 1) k (by omega) h.2.1 (T.agree_left h ha)
    have i1 := T.dig_eq w r (n + 1) k (by omega) h.2.2.1 (T.agree_right h ha)
    rw [T.dig, i0, i1]
    generalize hL : (T.two l r).lvs = L at *
    match L, h2 with
    | x :: y :: m, _ => rw [digestF, e0, e1]
theorem T.root_eq (w : Nat) {t : T} (h : t.wf 0) : t.dig w = rootL w t.lvs := T.dig_eq w t 0 256 rfl h (fun _ _ _ _ i hi => by omega)

/-- the node of the leaves of two nodes that are one deeper -/
def T.joined (l r : T) : T := if 1 < l.lvs.length + r.lvs.length then .two l r else if l.lvs.length = 1 then l else r
theorem T.joined_lvs {l r : T} : (T.joined l r).lvs = l.lvs ++ r.lvs := by
  unfold T.joined
  split
  · rfl
  · rename_i h
    split
    · rename_i h1
      have : r.lvs = [] := List.eq_nil_of_length_eq_zero (by omega)
      rw [this, List.append_nil]
    · have : l.lvs = [] := List.eq_nil_of_length_eq_zero (by omega)
      rw [this, List.nil_append]
/-- one leaf at most: it stands at every depth -/
theorem T.wf_any : ∀ {t : T} {n : Nat}, t.wf n → t.lvs.length ≤ 1 → ∀ m, t.wf m
  | .none, _, _, _, _ => trivial
  | .one _, _, h, _, _ => h
  | .two l r, n, h, h1, _ => by have := T.size_two h; omega
theorem T.joined_wf {l r : T} {n : Nat} (hl : l.wf (n + 1)) (hr : r.wf (n + 1)) (h0 : ∀ x ∈ l.lvs, bitAt x.path n = 0) (h1 : ∀ x ∈ r.lvs, bitAt x.path n = 1) : (T.joined l r).wf n := by
  unfold T.joined
  split
  · rename_i h; exact ⟨h, hl, hr, h0, h1⟩
  · split
    · exact T.wf_any hl (by omega) n
    · exact T.wf_any hr (by omega) n
/-- the nodes of the leaves whose bit is 0, and 1 -/
def T.left : T → Nat → T
  | .none, _ => .none
  | .one x, n => if bitAt x.path n = 1 then .none else .one x
  | .two l _, _ => l
def T.right : T → Nat → T
  | .none, _ => .none
  | .one x, n => if bitAt x.path n = 1 then .one x else .none
  | .two _ r, _ => r
theorem T.left_wf {t : T} {n : Nat} (h : t.wf n) : (t.left n).wf (n + 1) ∧ ∀ x, x ∈ (t.left n).lvs ↔ x ∈ t.lvs ∧ bitAt x.path n = 0 := by
  match t, h with
  | .none, _ => exact ⟨trivial, fun x => by simp [T.left, T.lvs]⟩
  | .one y, h =>
    by_cases hb : bitAt y.path n = 1
    · rw [T.left, if_pos hb]
      refine ⟨trivial, fun x => ?_⟩
      simp only [T.lvs, List.not_mem_nil, List.mem_singleton, false_iff, not_and]
      rintro rfl; omega
    · rw [T.left, if_neg hb]
      have := bitAt_lt y.path n
      refine ⟨h, fun x => ?_⟩
      simp only [T.lvs, List.mem_singleton]
      exact ⟨fun e => ⟨e, by subst e; omega⟩, fun e => e.1⟩
  | .two l r, h =>
    refine ⟨h.2.1, fun x => ?_⟩
    simp only [T.left, T.lvs, List.mem_append]
    exact ⟨fun e => ⟨.inl e, h.2.2.2.1 x e⟩, fun e => e.1.elim id (fun e' => by have := h.2.2.2.2 x e'; omega)⟩
theorem T.right_wf {t : T} {n : Nat} (h : t.wf n) : (t.right n).wf (n + 1) ∧ ∀ x, x ∈ (t.right n).lvs ↔ x ∈ t.lvs ∧ bitAt x.path n = 1 := by
  match t, h with
  | .none, _ => exact ⟨trivial, fun x => by simp [T.right, T.lvs]⟩
  | .one y, h =>
    by_cases hb : bitAt y.path n = 1
    · rw [T.right, if_pos hb]
      refine ⟨h, fun x => ?_⟩
      simp only [T.lvs, List.mem_singleton]
      exact ⟨fun e => ⟨e, by subst e; omega⟩, fun e => e.1⟩
    · rw [T.right, if_neg hb]
      refine ⟨trivial, fun x => ?_⟩
      simp only [T.lvs, List.not_mem_nil, List.mem_singleton, false_iff, not_and]
      rintro rfl; omega
  | .two l r, h =>
    refine ⟨h.2.2.1, fun x => ?_⟩
    simp only [T.right, T.lvs, List.mem_append]
    exact ⟨fun e => ⟨.inr e, h.2.2.2.2 x e⟩, fun e => e.1.elim (fun e' => by have := h.2.2.2.1 x e'; omega) id⟩

/-- how many of the leaves stand on the left -/
def onesAt (l : List Lf) (n : Nat) : Nat := l.countP fun x => !(bitAt x.path n == 1)
/-- does a leaf come into a node of one leaf, or none, at once? -/
def T.fits : T → Lf → Bool
  | .none, _ => true
  | .one y, x => y.path == x.path
  | .two _ _, _ => false
/-- a node with more leaves, k depths to go -/
def T.put : Nat → T → List Lf → Nat → T
  | _, t, [], _ => t
  | 0, t, _ :: _, _ => t
  | k + 1, t, x :: l, n =>
    if l.length = 0 ∧ t.fits x = true then .one x
    else T.joined (T.put k (t.left n) ((x :: l).take (onesAt (x :: l) n)) (n + 1)) (T.put k (t.right n) ((x :: l).drop (onesAt (x :: l) n)) (n + 1))

/-- leaves in order that go along for n bits: those whose bit n is 0 come first -/
theorem bits_rise {l : List Lf} (hk : oks l) (ho : inOrder l) {n : Nat} (ha : agree l n) : l.Pairwise fun x y => bitAt x.path n = 1 → bitAt y.path n = 1 := by
  refine List.Pairwise.imp_of_mem (fun {x y} hx hy h hb => ?_) ho
  have hxo := hk x hx
  have hlt := bitAt_lt y.path n
  rcases Nat.eq_zero_or_pos (bitAt y.path n) with h0 | h0
  · exfalso
    have hn : n < 256 := by
      rcases Nat.lt_or_ge n 256 with h' | h'
      · exact h'
      · rw [bitAt_big hxo.1 h'] at hb; cases hb
    have hc : comm y.path x.path = n := comm_unique _ _ n (by omega) (fun i hi => ha y hy x hx i hi) (fun _ => by rw [h0, hb]; decide)
    simp [lessB, hc, h0, hn] at h
  · omega
theorem split_bits : ∀ {l : List Lf} {n : Nat}, (l.Pairwise fun x y => bitAt x.path n = 1 → bitAt y.path n = 1) →
    (∀ x ∈ l.take (onesAt l n), bitAt x.path n = 0) ∧ (∀ x ∈ l.drop (onesAt l n), bitAt x.path n = 1)
  | [], _, _ => ⟨fun _ h => by simp at h, fun _ h => by simp at h⟩
  | x :: l, n, h => by
    obtain ⟨h1, h2⟩ := List.pairwise_cons.1 h
    obtain ⟨i1, i2⟩ := split_bits (l := l) (n := n) h2
    have hlt := bitAt_lt x.path n
    by_cases hb : bitAt x.path n = 1
    · have e0 : onesAt (x :: l) n = 0 := by
        unfold onesAt
        rw [List.countP_eq_zero]
        intro y hy
        rcases List.mem_cons.1 hy with rfl | hy
        · simp [hb]
        · simp [h1 y hy hb]
      rw [e0]
      refine ⟨fun _ h => by simp at h, fun y hy => ?_⟩
      rcases List.mem_cons.1 hy with rfl | hy
      · exact hb
      · exact h1 y hy hb
    · have e1 : onesAt (x :: l) n = onesAt l n + 1 := by
        unfold onesAt
        rw [List.countP_cons, if_pos (by simp [hb])]
      rw [e1]
      refine ⟨fun y hy => ?_, fun y hy => i2 y (by simpa using hy)⟩
      rw [List.take_succ_cons] at hy
      rcases List.mem_cons.1 hy with rfl | hy
      · omega
      · exact i1 y hy
theorem fits_deep {t : T} {x : Lf} {n : Nat} (h : t.wf n) (hx : x.ok) (ha : agree (t.lvs ++ [x]) n) (hn : 256 ≤ n) : t.fits x = true := by
  match t, h with
  | .none, _ => rfl
  | .one y, h => simpa [T.fits] using bits_ext y.path x.path h.1 hx.1 (fun i hi => ha y (by simp [T.lvs]) x (by simp) i (by omega))
  | .two l r, h =>
    have h2 := T.size_two h
    have := T.deep h (agree_sub ha (fun z hz => by simp [hz])) hn
    omega
/-- what comes of it -/
theorem T.put_spec : ∀ (k : Nat) (t : T) (l : List Lf) (n : Nat), n + k = 257 → n ≤ 256 → t.wf n → oks l → unlike l → inOrder l → agree (t.lvs ++ l) n →
    (T.put k t l n).wf n ∧ ∀ x, x ∈ (T.put k t l n).lvs ↔ x ∈ l ∨ (x ∈ t.lvs ∧ ∀ y ∈ l, y.path ≠ x.path) := by
  intro k
  induction k with
  | zero => intro t l n hk hn; omega
  | succ k ih =>
    intro t l n hk hn256 ht hl hu ho ha
    match l, hl, hu, ho, ha with
    | [], _, _, _, _ => exact ⟨ht, fun x => by simp [T.put]⟩
    | x :: m, hl, hu, ho, ha =>
      unfold T.put
      split
      · rename_i hf
        obtain rfl : m = [] := List.eq_nil_of_length_eq_zero hf.1
        refine ⟨hl x (by simp), fun z => ?_⟩
        simp only [T.lvs, List.mem_singleton]
        refine ⟨.inl, fun e => e.elim id (fun ⟨e1, e2⟩ => ?_)⟩
        have e2 := e2 x rfl
        match t, hf.2, e1 with
        | .none, _, e1 => simp [T.lvs] at e1
        | .one y, h, e1 =>
          obtain rfl : z = y := by simpa [T.lvs] using e1
          exact absurd (by simpa [T.fits] using h : z.path = x.path) (fun e => e2 e.symm)
      · rename_i hf
        have hn : n < 256 := by
          rcases Nat.lt_or_ge n 256 with h' | h'
          · exact h'
          · exfalso
            have h1 : (x :: m).length ≤ 1 := unlike_agree hl hu (agree_sub ha (fun z hz => List.mem_append.2 (.inr hz))) h'
            obtain rfl : m = [] := List.eq_nil_of_length_eq_zero (by simpa using h1)
            exact hf ⟨rfl, fits_deep ht (hl x (by simp)) ha h'⟩
        obtain ⟨hL, mL⟩ := T.left_wf ht
        obtain ⟨hR, mR⟩ := T.right_wf ht
        have hal : agree (x :: m) n := agree_sub ha (fun z hz => List.mem_append.2 (.inr hz))
        obtain ⟨s0, s1⟩ := split_bits (bits_rise hl ho hal)
        generalize hc : onesAt (x :: m) n = c at *
        have hA := ih (t.left n) ((x :: m).take c) (n + 1) (by omega) (by omega) hL (fun z hz => hl z (List.mem_of_mem_take hz)) (List.Pairwise.sublist (List.take_sublist _ _) hu) (List.Pairwise.sublist (List.take_sublist _ _) ho)
          (agree_bit (b := 0) (agree_sub ha (fun z hz => by
            rcases List.mem_append.1 hz with h | h
            · exact List.mem_append.2 (.inl ((mL z).1 h).1)
            · exact List.mem_append.2 (.inr (List.mem_of_mem_take h)))) (fun z hz => by
            rcases List.mem_append.1 hz with h | h
            · exact ((mL z).1 h).2
            · exact s0 z h))
        have hB := ih (t.right n) ((x :: m).drop c) (n + 1) (by omega) (by omega) hR (fun z hz => hl z (List.mem_of_mem_drop hz)) (List.Pairwise.sublist (List.drop_sublist _ _) hu) (List.Pairwise.sublist (List.drop_sublist _ _) ho)
          (agree_bit (b := 1) (agree_sub ha (fun z hz => by
            rcases List.mem_append.1 hz with h | h
            · exact List.mem_append.2 (.inl ((mR z).1 h).1)
            · exact List.mem_append.2 (.inr (List.mem_of_mem_drop h)))) (fun z hz => by
            rcases List.mem_append.1 hz with h | h
            · exact ((mR z).1 h).2
            · exact s1 z h))
        have mem : ∀ z, z ∈ x :: m ↔ z ∈ (x :: m).take c ∨ z ∈ (x :: m).drop c := fun z => by rw [← List.mem_append, List.take_append_drop]
        generalize T.put k (t.left n) ((x :: m).take c) (n + 1) = A at *
        generalize T.put k (t.right n) ((x :: m).drop c) (n + 1) = B at *
        have bA : ∀ z ∈ A.lvs, bitAt z.path n = 0 := fun z hz => by
          rcases (hA.2 z).1 hz with h | h
          · exact s0 z h
          · exact ((mL z).1 h.1).2
        have bB : ∀ z ∈ B.lvs, bitAt z.path n = 1 := fun z hz => by
          rcases (hB.2 z).1 hz with h | h
          · exact s1 z h
          · exact ((mR z).1 h.1).2
        refine ⟨T.joined_wf hA.1 hB.1 bA bB, fun z => ?_⟩
        rw [T.joined_lvs, List.mem_append, hA.2 z, hB.2 z, mem z, mL z, mR z]
        constructor
        · rintro ((h | ⟨⟨h1, h2⟩, h3⟩) | (h | ⟨⟨h1, h2⟩, h3⟩))
          · exact .inl (.inl h)
          · refine .inr ⟨h1, fun y hy e => ?_⟩
            rcases (mem y).1 hy with hy | hy
            · exact h3 y hy e
            · have := s1 y hy
              rw [e, h2] at this; cases this
          · exact .inl (.inr h)
          · refine .inr ⟨h1, fun y hy e => ?_⟩
            rcases (mem y).1 hy with hy | hy
            · have := s0 y hy
              rw [e, h2] at this; cases this
            · exact h3 y hy e
        · rintro ((h | h) | ⟨h1, h2⟩)
          · exact .inl (.inl h)
          · exact .inr (.inl h)
          · have hlt := bitAt_lt z.path n
            rcases Nat.eq_zero_or_pos (bitAt z.path n) with hb | hb
            · exact .inl (.inr ⟨⟨h1, hb⟩, fun y hy => h2 y ((mem y).2 (.inl hy))⟩)
            · exact .inr (.inr ⟨⟨h1, by omega⟩, fun y hy => h2 y ((mem y).2 (.inr hy))⟩)

/-- a node without the leaf of a path, which it has -/
def T.cut : T → List UInt8 → Nat → T
  | .none, _, _ => .none
  | .one _, _, _ => .none
  | .two l r, p, n => if bitAt p n = 1 then T.joined l (T.cut r p (n + 1)) else T.joined (T.cut l p (n + 1)) r
theorem T.cut_spec (p : List UInt8) : ∀ (t : T) (n : Nat), t.wf n → (∃ x ∈ t.lvs, x.path = p) →
    (T.cut t p n).wf n ∧ ∀ x, x ∈ (T.cut t p n).lvs ↔ x ∈ t.lvs ∧ x.path ≠ p
  | .none, n, _, h => by simp [T.lvs] at h
  | .one y, n, _, h => by
    obtain ⟨x, hx, rfl⟩ := h
    obtain rfl : x = y := by simpa [T.lvs] using hx
    refine ⟨trivial, fun z => ?_⟩
    simp only [T.cut, T.lvs, List.not_mem_nil, List.mem_singleton, false_iff, not_and, Classical.not_not]
    rintro rfl; rfl
  | .two l r, n, ht, h => by
    obtain ⟨x, hx, hp⟩ := h
    unfold T.cut
    split
    · rename_i hb
      have hxr : x ∈ r.lvs := by
        rcases List.mem_append.1 hx with hx | hx
        · have := ht.2.2.2.1 x hx
          rw [hp, hb] at this; cases this
        · exact hx
      obtain ⟨i1, i2⟩ := T.cut_spec p r (n + 1) ht.2.2.1 ⟨x, hxr, hp⟩
      refine ⟨T.joined_wf ht.2.1 i1 ht.2.2.2.1 (fun z hz => ht.2.2.2.2 z ((i2 z).1 hz).1), fun z => ?_⟩
      rw [T.joined_lvs, List.mem_append, i2 z]
      simp only [T.lvs, List.mem_append]
      constructor
      · rintro (h | h)
        · exact ⟨.inl h, fun e => by have := ht.2.2.2.1 z h; rw [e, hb] at this; cases this⟩
        · exact ⟨.inr h.1, h.2⟩
      · rintro ⟨h | h, h2⟩
        · exact .inl h
        · exact .inr ⟨h, h2⟩
    · rename_i hb
      have hxl : x ∈ l.lvs := by
        rcases List.mem_append.1 hx with hx | hx
        · exact hx
        · have := ht.2.2.2.2 x hx
          rw [hp] at this; exact absurd this hb
      obtain ⟨i1, i2⟩ := T.cut_spec p l (n + 1) ht.2.1 ⟨x, hxl, hp⟩
      refine ⟨T.joined_wf i1 ht.2.2.1 (fun z hz => ht.2.2.2.1 z ((i2 z).1 hz).1) ht.2.2.2.2, fun z => ?_⟩
      rw [T.joined_lvs, List.mem_append, i2 z]
      simp only [T.lvs, List.mem_append]
      constructor
      · rintro (h | h)
        · exact ⟨.inl h.1, h.2⟩
        · exact ⟨.inr h, fun e => by have := ht.2.2.2.2 z h; rw [e] at this; exact hb this⟩
      · rintro ⟨h | h, h2⟩
        · exact .inl ⟨h, h2⟩
        · exact .inr h

/-- the node at which the way of a path ends -/
def T.way : T → List UInt8 → Nat → T
  | .two l r, p, n => if bitAt p n = 1 then T.way r p (n + 1) else T.way l p (n + 1)
  | t, _, _ => t
theorem find_mem {l : List Lf} (hu : unlike l) {x : Lf} (hx : x ∈ l) : findL l x.path = some x := by
  unfold findL
  rw [List.find?_eq_some_iff_append]
  obtain ⟨a, b, rfl⟩ := List.append_of_mem hx
  refine ⟨by simp, a, b, rfl, fun y hy => ?_⟩
  have := (List.pairwise_append.1 hu).2.2 y hy x (by simp)
  simpa using this
theorem find_not {l : List Lf} {p : List UInt8} (h : ∀ x ∈ l, x.path ≠ p) : findL l p = Option.none := by
  unfold findL
  rw [List.find?_eq_none]
  intro x hx
  simpa using h x hx
theorem T.way_leaf : ∀ (t : T) (p : List UInt8) (n : Nat) (l r : T), T.way t p n ≠ .two l r
  | .none, _, _, _, _ => fun h => by cases h
  | .one _, _, _, _, _ => fun h => by cases h
  | .two a b, p, n, l, r => by
    unfold T.way
    split
    · exact T.way_leaf b p (n + 1) l r
    · exact T.way_leaf a p (n + 1) l r
theorem T.way_spec (p : List UInt8) : ∀ (t : T) (n : Nat), t.wf n → findL t.lvs p = findL (T.way t p n).lvs p
  | .none, _, _ => rfl
  | .one _, _, _ => rfl
  | .two l r, n, ht => by
    unfold T.way
    split
    · rename_i hb
      rw [← T.way_spec p r (n + 1) ht.2.2.1]
      have : findL l.lvs p = Option.none := find_not fun x hx e => by have := ht.2.2.2.1 x hx; rw [e, hb] at this; cases this
      unfold findL at this ⊢
      simp [T.lvs, List.find?_append, this]
    · rename_i hb
      rw [← T.way_spec p l (n + 1) ht.2.1]
      have : findL r.lvs p = Option.none := find_not fun x hx e => by have := ht.2.2.2.2 x hx; rw [e] at this; exact hb this
      unfold findL at this ⊢
      simp [T.lvs, List.find?_append, this]
theorem T.way_wf (p : List UInt8) : ∀ (t : T) (n : Nat), t.wf n → ∀ x ∈ (T.way t p n).lvs, x ∈ t.lvs
  | .none, _, _ => fun _ h => h
  | .one _, _, _ => fun _ h => h
  | .two l r, n, ht => fun x hx => by
    unfold T.way at hx
    split at hx
    · exact List.mem_append.2 (.inr (T.way_wf p r (n + 1) ht.2.2.1 x hx))
    · exact List.mem_append.2 (.inl (T.way_wf p l (n + 1) ht.2.1 x hx))

/-- the leaves of a whole tree are the sorted list of them -/
theorem unlike_nodup {l : List Lf} (h : unlike l) : l.Nodup := List.Pairwise.imp (fun hne e => hne (by rw [e])) h
theorem T.whole_order {t : T} (h : t.wf 0) : inOrder t.lvs := T.wf_order t 0 h (fun _ _ _ _ i hi => by omega)
theorem T.whole_eq {t : T} (h : t.wf 0) {l : List Lf} (hu : unlike l) (hm : ∀ x, x ∈ t.lvs ↔ x ∈ l) : t.lvs = sortedL l := by
  have hp : t.lvs.Perm l := (List.perm_ext_iff_of_nodup (unlike_nodup (T.wf_unlike t 0 h)) (unlike_nodup hu)).2 hm
  have hk := T.wf_oks t 0 h
  refine order_unique hk (T.whole_order h) (sortedL_order (fun x hx => hk x (hp.mem_iff.2 hx))) (T.wf_unlike t 0 h) (hp.trans (sortedL_perm l).symm)
theorem whole_perm {t : T} (h : t.wf 0) {l : List Lf} (hu : unlike l) (hm : ∀ x, x ∈ t.lvs ↔ x ∈ l) : t.lvs.Perm l :=
  (List.perm_ext_iff_of_nodup (unlike_nodup (T.wf_unlike t 0 h)) (unlike_nodup hu)).2 hm
/-- what setting leaves makes, leaf by leaf -/
theorem setF_mem : ∀ (m l : List Lf), unlike m → ∀ x, x ∈ setF l m ↔ x ∈ m ∨ (x ∈ l ∧ ∀ y ∈ m, y.path ≠ x.path)
  | [], l, _, x => by simp [setF]
  | z :: m, l, hu, x => by
    obtain ⟨h1, h2⟩ := List.pairwise_cons.1 hu
    rw [setF, setF_mem m _ h2 x]
    simp only [List.mem_append, List.mem_cons, List.not_mem_nil, or_false, dropL, List.mem_filter]
    constructor
    · rintro (h | ⟨⟨h3, h4⟩ | h3, h5⟩)
      · exact .inl (.inr h)
      · refine .inr ⟨h3, fun y hy => ?_⟩
        rcases hy with rfl | hy
        · simp at h4; exact fun e => h4 e.symm
        · exact h5 y hy
      · exact .inl (.inl h3)
    · rintro ((h | h) | ⟨h3, h5⟩)
      · exact .inr ⟨.inr h, fun y hy e => h1 y hy (by rw [e, h])⟩
      · exact .inl h
      · exact .inr ⟨.inl ⟨h3, by simpa using fun e => h5 z (.inl rfl) e.symm⟩, fun y hy => h5 y (.inr hy)⟩
theorem put_whole {t : T} (h : t.wf 0) {m : List Lf} (hm : oks m) (hu : unlike m) (ho : inOrder m) : (T.put 257 t m 0).wf 0 ∧ ∀ x, x ∈ (T.put 257 t m 0).lvs ↔ x ∈ setF t.lvs m := by
  obtain ⟨h1, h2⟩ := T.put_spec 257 t m 0 rfl (by omega) h hm hu ho (fun _ _ _ _ i hi => by omega)
  exact ⟨h1, fun x => by rw [h2 x, setF_mem m t.lvs hu x]⟩
theorem cut_whole {t : T} (h : t.wf 0) {p : List UInt8} (hp : ∃ x ∈ t.lvs, x.path = p) : (T.cut t p 0).wf 0 ∧ ∀ x, x ∈ (T.cut t p 0).lvs ↔ x ∈ dropL t.lvs p := by
  obtain ⟨h1, h2⟩ := T.cut_spec p t 0 h hp
  exact ⟨h1, fun x => by rw [h2 x, dropL, List.mem_filter]; simp⟩

/-- what holds of the left, and of the right part -/
theorem put_left {t : T} {l : List Lf} {n : Nat} (ht : t.wf n) (hl : oks l) (hu : unlike l) (ho : inOrder l) (ha : agree (t.lvs ++ l) n) :
    unlike (l.take (onesAt l n)) ∧ inOrder (l.take (onesAt l n)) ∧ agree ((t.left n).lvs ++ l.take (onesAt l n)) (n + 1) := by
  obtain ⟨s0, s1⟩ := split_bits (bits_rise hl ho (agree_sub ha (fun z hz => List.mem_append.2 (.inr hz))))
  refine ⟨List.Pairwise.sublist (List.take_sublist _ _) hu, List.Pairwise.sublist (List.take_sublist _ _) ho, agree_bit (b := 0) (agree_sub ha (fun z hz => ?_)) (fun z hz => ?_)⟩
  · rcases List.mem_append.1 hz with h | h
    · exact List.mem_append.2 (.inl (((T.left_wf ht).2 z).1 h).1)
    · exact List.mem_append.2 (.inr (List.mem_of_mem_take h))
  · rcases List.mem_append.1 hz with h | h
    · exact (((T.left_wf ht).2 z).1 h).2
    · exact s0 z h
theorem put_right {t : T} {l : List Lf} {n : Nat} (ht : t.wf n) (hl : oks l) (hu : unlike l) (ho : inOrder l) (ha : agree (t.lvs ++ l) n) :
    unlike (l.drop (onesAt l n)) ∧ inOrder (l.drop (onesAt l n)) ∧ agree ((t.right n).lvs ++ l.drop (onesAt l n)) (n + 1) := by
  obtain ⟨s0, s1⟩ := split_bits (bits_rise hl ho (agree_sub ha (fun z hz => List.mem_append.2 (.inr hz))))
  refine ⟨List.Pairwise.sublist (List.drop_sublist _ _) hu, List.Pairwise.sublist (List.drop_sublist _ _) ho, agree_bit (b := 1) (agree_sub ha (fun z hz => ?_)) (fun z hz => ?_)⟩
  · rcases List.mem_append.1 hz with h | h
    · exact List.mem_append.2 (.inl (((T.right_wf ht).2 z).1 h).1)
    · exact List.mem_append.2 (.inr (List.mem_of_mem_drop h))
  · rcases List.mem_append.1 hz with h | h
    · exact (((T.right_wf ht).2 z).1 h).2
    · exact s1 z h
theorem parts_len (t : T) (n : Nat) : (t.left n).lvs.length + (t.right n).lvs.length = t.lvs.length := by
  match t with
  | .none => rfl
  | .one x =>
    by_cases hb : bitAt x.path n = 1
    · rw [T.left, T.right, if_pos hb, if_pos hb]; rfl
    · rw [T.left, T.right, if_neg hb, if_neg hb]; rfl
  | .two l r => simp [T.left, T.right, T.lvs]
theorem onesAt_le (l : List Lf) (n : Nat) : onesAt l n ≤ l.length := List.countP_le_length
theorem put_len : ∀ (k : Nat) (t : T) (l : List Lf) (n : Nat), (T.put k t l n).lvs.length ≤ t.lvs.length + l.length
  | 0, t, [], _ => by simp [T.put]
  | 0, t, _ :: _, _ => by simp [T.put]
  | _ + 1, t, [], _ => by simp [T.put]
  | k + 1, t, x :: l, n => by
    unfold T.put
    split
    · simp [T.lvs]; omega
    · rw [T.joined_lvs, List.length_append]
      have h1 := put_len k (t.left n) ((x :: l).take (onesAt (x :: l) n)) (n + 1)
      have h2 := put_len k (t.right n) ((x :: l).drop (onesAt (x :: l) n)) (n + 1)
      have h3 := parts_len t n
      have h4 := onesAt_le (x :: l) n
      rw [List.length_take] at h1
      rw [List.length_drop] at h2
      omega
end
end Go.Proofs.YtgbhfpkngjlfkaaDoor
