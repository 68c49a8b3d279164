/-
  Two trees beside each other (one set of known nodes for both); the walk of SmtBatches.
-/
import Derived.Test.YtmfnpjfhijmboaaGreatDoorLaw05E
namespace Go.Proofs.YtmfnpjfhijmboaaGreatDoor
open Go.RowKit

/-- two trees of width x whose leaves are L and M -/
structure Sm2 (w0 : World) (x tp : Nat) (L : List Lf) (up : Nat) (M : List Lf) (W : World) : Prop where
  out : ∃ G pn pt t qn qt u, Inv w0.heap.size x G noL W ∧ Tr w0.heap.size G W tp pn pt t ∧ t.wf 0 ∧ (∀ y, y ∈ t.lvs ↔ y ∈ L) ∧ Tr w0.heap.size G W up qn qt u ∧ u.wf 0 ∧ ∀ y, y ∈ u.lvs ↔ y ∈ M
  bel : Below w0.heap.size w0 W
  ne : tp ≠ up
  unl : unlike L
  few : L.length ≤ 4096
  unm : unlike M
  fem : M.length ≤ 4096
section
variable {w0 W W' : World} {x tp up : Nat} {L M : List Lf}
theorem Sm2.swap (h : Sm2 w0 x tp L up M W) : Sm2 w0 x up M tp L W := by
  obtain ⟨⟨G, pn, pt, t, qn, qt, u, h1, h2, h3, h4, h5, h6, h7⟩, b, ne, a1, a2, a3, a4⟩ := h
  exact ⟨⟨G, qn, qt, u, pn, pt, t, h1, h5, h6, h7, h2, h3, h4⟩, b, ne.symm, a3, a4, a1, a2⟩
theorem Sm2.fst (h : Sm2 w0 x tp L up M W) : Sm w0 x tp L W := by
  obtain ⟨⟨G, pn, pt, t, qn, qt, u, h1, h2, h3, h4, h5, h6, h7⟩, b, ne, a1, a2, a3, a4⟩ := h
  exact ⟨⟨G, pn, pt, t, h1, h2, h3, h4⟩, b, a1, a2⟩
theorem Sm2.below (h : Sm2 w0 x tp L up M W) (hb : Below W.heap.size W W') : Sm2 w0 x tp L up M W' := by
  obtain ⟨⟨G, pn, pt, t, qn, qt, u, h1, h2, h3, h4, h5, h6, h7⟩, b, ne, a1, a2, a3, a4⟩ := h
  exact ⟨⟨G, pn, pt, t, qn, qt, u, h1.below hb, h2.later (fun _ _ h => h) hb, h3, h4, h5.later (fun _ _ h => h) hb, h6, h7⟩, Bt b hb, ne, a1, a2, a3, a4⟩
theorem Sm2.drew (h : Sm2 w0 x tp L up M W) : Sm2 w0 x tp L up M W.drew := h.below (below_drew (Below.refl W.heap.size W))
theorem sm2_new (h : Sm w0 x tp L W) (hx : x ≤ 32) :
    Calls Tryz.prog 9 #[.int .i64 (x : Int)] W fun e w' => ∃ up, e = .returned (.tuple #[.pointer (some ⟨up, 0, none⟩), .int .i64 0]) ∧ Sm2 w0 x tp L up [] w' := by
  obtain ⟨⟨G, pn, pt, t, q1, q2, q3, q4⟩, h5, h6, h7⟩ := h
  refine (snew_any W x hx w0.heap.size h5.size G q1).mono ?_
  rintro e w' ⟨up, qn, G', rfl, r1, r2, r3, r4, r5⟩
  have := q2.blk.lt
  exact ⟨up, rfl, ⟨⟨G', pn, pt, t, qn, qn, .none, r2, q2.later r3.1 r5, q3, q4, r1, trivial, fun y => by simp [T.lvs]⟩, Bt h5 r5, by omega, h6, h7, List.Pairwise.nil, by simp⟩⟩
theorem sm2_set (h : Sm2 w0 x tp L up M W) (a : Option Addr) (n c : Nat) (l : List Lf) (hr : RdL W a n c l) (hs : n ≤ 4096 → SortsAt n) :
    Calls Tryz.prog 14 #[.pointer (some ⟨tp, 0, none⟩), .slice a n c] W fun e w' => e = .returned (.int .i64 (setE L l)) ∧ Sm2 w0 x tp (setI L l) up M w' ∧ W.grownBy w' (some tp) := by
  obtain ⟨⟨G, pn, pt, t, qn, qt, u, q1, q2, q3, q4, q5, q6, q7⟩, h5, hne, h6, h7, h8, h9⟩ := h
  have hp := whole_perm q3 h6 q4
  obtain ⟨e1, e2⟩ := set_same (k := l) q4 (T.wf_unlike t 0 q3) h6
  refine (set_any w0.heap.size x G W tp pn pt t a n c l h5.size q1 q2 q3 (by rw [hp.length_eq]; exact h7) hr hs).mono ?_
  rintro e w' ⟨rfl, ⟨G', pt', t', r1, r2, r3, r4, r5⟩, hg⟩
  exact ⟨by rw [e1], ⟨⟨G', pn, pt', t', qn, qt, u, r2, r1, r4, fun y => (r5 y).trans (e2 y), ⟨q5.blk.grown hg (by simpa using hne), q5.low, r3.1 _ _ q5.no, r3.1 _ _ q5.top⟩, q6, q7⟩,
    h5.grown hg h5.size (fun k e => by cases e; exact q2.low), hne, setI_unlike h6, setI_len h7, h8, h9⟩, hg⟩
theorem sm2_root (h : Sm2 w0 x tp L up M W) (hx : x ≤ 32) (hT : Tab w0 1) :
    Calls Tryz.prog 23 #[.pointer (some ⟨tp, 0, none⟩)] W fun e w' => e = .returned (.agg (bs (rootL x L)).toArray) ∧ Sm2 w0 x tp L up M w' ∧ Below w0.heap.size W w' ∧ Keeps W w' := by
  obtain ⟨⟨G, pn, pt, t, qn, qt, u, q1, q2, q3, q4, q5, q6, q7⟩, h5, hne, h6, h7, h8, h9⟩ := h
  have hG : G 1 = none := by
    cases e : G 1 with
    | none => rfl
    | some u => have := q1.low _ _ e; have := hT.lt; omega
  have hp := whole_perm q3 h6 q4
  refine (troot_any w0.heap.size x hx G W tp pn pt t q1 q2 q3 hG (hT.below h5)).mono ?_
  rintro e w' ⟨rfl, r1, r2⟩
  have hB := r2.below q1.low h5.size
  exact ⟨by rw [T.root_eq x q3, rootL_perm x hp], ⟨⟨G, pn, pt, t, qn, qt, u, r1, q2.fr r2 (q1.tree q2.blk (by decide)) (fun _ _ h => h), q3, q4, q5.fr r2 (q1.tree q5.blk (by decide)) (fun _ _ h => h), q6, q7⟩, h5.trans hB, hne, h6, h7, h8, h9⟩, hB,
    fun k ty vs hb ht => Blk.fr r2 (q1.tree hb ht) hb⟩
end

theorem setF_step (L l : List Lf) {i : Nat} (h : i < l.length) : setF L (l.take (i + 1)) = dropL (setF L (l.take i)) (l.getD i lf0).path ++ [l.getD i lf0] := by
  rw [List.take_succ_eq_append_getElem h, setF_snoc]
  simp [List.getD, h]
theorem setF_few (L l : List Lf) (i : Nat) : (setF L (l.take i)).length ≤ L.length + i := by
  have h := setF_len (l.take i) L
  have := List.length_take_le i l
  omega
theorem setF_own {l : List Lf} (h : unlike l) : (setF [] l).length = l.length :=
  (perm_of_mem (setF_unlike l [] List.Pairwise.nil) h fun y => by rw [setF_mem l [] h]; simp).length_eq
/-- so many leaves never fill a tree -/
theorem set_some (L m : List Lf) (h1 : m.length ≤ 200) (h2 : L.length ≤ 200) : (twiceB m = true → setE L m = 30 ∧ setI L m = L) ∧ (twiceB m = false → setE L m = 0 ∧ setI L m = setF L m) := by
  have h := setF_len m L
  have h3 : ¬ 4096 < m.length := by omega
  have h4 : ¬ 4096 < (setF L m).length := by omega
  unfold setE setI
  refine ⟨fun e => ?_, fun e => ?_⟩
  · rw [e]; simp [h3]
  · rw [e]; simp [h3, h4]

set_option maxRecDepth 100000 in
set_option maxHeartbeats 4000000 in
theorem walkSmtBatches (w : World) (hT : Tab w 1) (x : Int) (_wf : (Lit.int .i64 x).wf = true) (a : Option Addr) (n c : Nat) (l : List Lf) (hr : RdL w a n c l) (a2 : Option Addr) (m c2 : Nat) (q : List Lf) (hq : RdL w a2 m c2 q) :
    Calls Tryz.prog 5 #[.int .i64 x, .slice a n c, .slice a2 m c2] w (Yes5 w) := by
  have GR := Lib.hid (fun (W : World) (h : Below w.heap.size w W) => grows_any W (hT.below h))
  have RT := Lib.hid (fun (W : World) (h : Below w.heap.size w W) => roots_any W (hT.below h))
  by_cases h200 : 200 < n
  · have h200' : (200 : Int) < (n : Int) := by omega
    go_enter Tryz.func5, Tryz.ntmps5
    go_wp2_with fail
    go_ret
    exact Yes5.mk (Below.refl _ _)
  have h200' : ¬ (200 : Int) < (n : Int) := by omega
  by_cases hm200 : 200 < m
  · have hm' : (200 : Int) < (m : Int) := by omega
    go_enter Tryz.func5, Tryz.ntmps5
    go_wp2_with fail
    go_ret
    exact Yes5.mk (Below.refl _ _)
  have hm' : ¬ (200 : Int) < (m : Int) := by omega
  by_cases hx : 0 ≤ x ∧ x ≤ 32
  case neg =>
    go_enter Tryz.func5, Tryz.ntmps5
    go_wp2_with fail
    refine (new_no _ x (by omega)).mono ?_
    rintro e w1 ⟨rfl, rfl⟩
    go_wp2_with fail
    refine (new_no _ x (by omega)).mono ?_
    rintro e w1 ⟨rfl, rfl⟩
    go_wp2_with fail
    refine (GR.out _ (Below.refl _ _)).mono ?_
    rintro e w2 ⟨rfl, hB2⟩
    go_wp2_with fail
    refine (RT.out _ hB2).mono ?_
    rintro e w3 ⟨rfl, hB3⟩
    go_wp2_with fail
    go_ret
    exact Yes5.mk (Bt hB2 hB3)
  case pos =>
    obtain ⟨k, rfl⟩ := Int.eq_ofNat_of_zero_le hx.1
    have hk : k ≤ 32 := by omega
    have NW := Lib.hid (sm_new w w k hk (Below.refl _ _))
    have NU := Lib.hid (fun (tp : Nat) (W : World) (h : Sm w k tp [] W) => sm2_new h hk)
    have hcap := hr.cap
    have hcap2 := hq.cap
    have hll := hr.len
    have hlq := hq.len
    have S1 := Lib.hid (fun (tp up : Nat) (W : World) (h : Sm2 w k tp [] up [] W) => sm2_set h a n c l (hr.below h.bel) (fun _ => sorts_all n (by omega)))
    obtain ⟨t1, t2⟩ := set_some [] l (by omega) (by simp)
    cases ht : twiceB l with
    | true =>
      obtain ⟨e1, e2⟩ := t1 ht
      rw [e1, e2] at S1
      clear t1 t2 ht e1 e2 hll hlq
      go_enter Tryz.func5, Tryz.ntmps5
      go_wp2_with fail
      refine NW.out.mono ?_
      rintro e w1 ⟨tp, rfl, hS1, -⟩
      go_wp2_with fail
      refine (NU.out tp w1 hS1).mono ?_
      rintro e w2 ⟨up, rfl, hS2⟩
      go_wp2_with fail
      refine (S1.out tp up w2 hS2).mono ?_
      rintro e w3 ⟨rfl, hS3, -⟩
      go_wp2_with fail
      refine (GR.out _ hS3.bel).mono ?_
      rintro e w4 ⟨rfl, hB4⟩
      go_wp2_with fail
      refine (RT.out _ (Bt hS3.bel hB4)).mono ?_
      rintro e w5 ⟨rfl, hB5⟩
      go_wp2_with fail
      go_ret
      exact Yes5.mk (Bt (Bt hS3.bel hB4) hB5)
    | false =>
      obtain ⟨e1, e2⟩ := t2 ht
      rw [e1, e2] at S1
      have hul := (twiceB_iff l).1 ht
      have hLn := setF_own hul
      have hLf : setF [] (l.take n) = setF [] l := by rw [List.take_of_length_le (by omega)]
      clear t1 t2 ht e1 e2 hul
      generalize hLe : setF [] l = L at *
      have HLE := Lib.hid hLe
      clear hLe
      obtain ⟨u1, u2⟩ := set_some L q (by omega) (by omega)
      have hLl : L.length = n := by omega
      have TW := Lib.hid (fun (W : World) (h : Below w.heap.size w W) => twice_ref W a2 m c2 q (hq.below h) (by omega))
      have S2 := Lib.hid (fun (tp up : Nat) (W : World) (h : Sm2 w k tp L up L W) => sm2_set h a2 m c2 q (hq.below h.bel) (fun _ => sorts_all m (by omega)))
      have RO := Lib.hid (fun (tp up : Nat) (W : World) (X Y : List Lf) (h : Sm2 w k tp X up Y W) => sm2_root h hk hT)
      have hdl : (rootL k L).length = 32 := digestF_length k hk 256 L 0
      have RO1 := Lib.hid (fun (tp up : Nat) (W : World) (h : Sm2 w k tp L up L W) => sm2_root h hk hT)
      have LE := Lib.hid (fun (tp up : Nat) (W : World) (h : Sm2 w k tp L up L W) => sm_len h.fst)
      rw [hLl] at LE
      generalize rootL k L = d at *
      have i1 := Lib.hid (dig5 hdl).1
      have j1 := Lib.hid (dig5 hdl).2
      have o1 := bs_one d
      have HLL := Lib.hid hll
      have HLQ := Lib.hid hlq
      have HLN := Lib.hid hLl
      have HLF := Lib.hid hLf
      clear hll hlq hLl hLf hLn
      go_enter Tryz.func5, Tryz.ntmps5
      go_wp2_with fail
      refine NW.out.mono ?_
      rintro e w1 ⟨tp, rfl, hS1, -⟩
      go_wp2_with fail
      refine (NU.out tp w1 hS1).mono ?_
      rintro e w2 ⟨up, rfl, hS2⟩
      go_wp2_with fail
      refine (S1.out tp up w2 hS2).mono ?_
      rintro e w3 ⟨rfl, hS3, -⟩
      go_wp2_with fail
      go_loopw [11] (fun t wr => ∃ (i : Nat), i ≤ n ∧ t = .int .i64 (i : Int) ∧ Sm2 w k tp L up (setF [] (l.take i)) wr) (fun t _ => n - (intOf t).toNat)
      case atStart => exact ⟨0, by omega, rfl, hS3⟩
      case round =>
        obtain ⟨i, hi, rfl, hS⟩ := hrel
        by_cases hlt : i < n
        · have hil : (i : Int) < (n : Int) := by omega
          have hfw := setF_few [] l i
          obtain ⟨e1, e2⟩ := set_single (setF [] (l.take i)) (l.getD i lf0) (by simp at hfw; omega)
          have ST := Lib.hid (sm2_set hS.swap (tailA a c i) 1 (c - i) [l.getD i lf0] (leaf_at1 (hr.below hS.bel) hlt) (fun _ => sorts_all 1 (by decide)))
          rw [e1, e2, ← setF_step [] l (by rw [HLL.out]; exact hlt)] at ST
          have CU := fun (W : World) => (cutOne W a n c i (i : Int) ((i : Int) + 1) rfl rfl (by omega)).1
          have CU' := fun (W : World) => (cutOne W a n c i (i : Int) ((i : Int) + 1) rfl rfl (by omega)).2
          clear hS e1 e2 hfw
          go_wp2_with fail
          refine ST.out.mono ?_
          rintro e w4 ⟨rfl, hS4, -⟩
          go_wp2_with fail
          go_roundw
          case rel => exact ⟨i + 1, by omega, by go_num, hS4.swap⟩
          case measure => simp [intOf]; omega
        · obtain rfl : i = n := by omega
          have hil : ¬ (i : Int) < (i : Int) := by omega
          have hS5 : Sm2 w k tp L up L wr := by rw [HLF.out] at hS; exact hS
          clear hS
          go_wp2_with fail
          refine (RO1.out tp up _ hS5).mono ?_
          rintro e w6 ⟨rfl, hS6, -, -⟩
          go_wp2_with (first | ((with_reducible refine wpList_allocB (o := ⟨some 12, _, _, _, _, _⟩) ?_ 25 ?_ zeroD_info ?_); rfl; rfl; intro w7 hr7 hg7 hz7) | ((with_reducible refine wpList_storeB (o := ⟨none, .store 25 (.tmp 12) (.tmp 71), _, _, _, _⟩) ?_ 25 (.tmp 12) (.tmp 71) ?_ ?_ ?_ hr7 i1.out j1.out o1 ?_); rfl; rfl; rfl; rfl; intro w8 hr8 hg8 hz8))
          have hB8 : Below w6.heap.size w6 w8 := ((Below.refl _ w6).grown hg7 (Nat.le_refl _) (fun k e => by cases e)).grown hg8 (by omega) (fun k e => by cases e; omega)
          have hS8 := hS6.below hB8
          clear hz7 hz8 hg7 hg8 hr7
          have hne8 := hS8.fst.ne hr8 (by decide)
          refine (S2.out tp up w8 hS8).mono ?_
          rintro e w9 ⟨rfl, hS9, hg9⟩
          have hr9 := hr8.grown hg9 (by simpa using hne8)
          have TW9 := Lib.hid (TW.out w9 hS9.bel)
          cases htq : twiceB q with
          | true =>
            obtain ⟨e1, e2⟩ := u1 htq
            rw [htq] at TW9
            rw [e1]
            rw [e2] at hS9
            clear u1 u2 e1 e2 htq
            go_wp2_with fail
            refine TW9.out.mono ?_
            rintro e w10 ⟨rfl, hB10⟩
            have hS10 := hS9.below hB10
            have hTA : GwAt w w10 w6.heap.size d := ⟨hr9.below hB10, hS10.bel⟩
            have hSd := hS10.drew
            go_wp2_with fail
            -- REGION batches 12
            refine wp_region_held_drew (S := fun W => GwAt w W w6.heap.size d) (by kernel_rfl) hTA.drew (fun hHeld => ?_)
            refine wpAnyH_take (i := 0) (oi := ⟨some 82, .move (.tmp 13), _, _, _, none⟩) (v := ?_) rfl (by kernel_rfl) (by kernel_rfl) (by kernel_rfl) (fun _ _ _ h => h) (Or.inl ⟨by rfl, ?_⟩) hHeld ?_
            rotate_left
            · intro W _; go_simp; try with_reducible rfl
            try simp only [Act.put, List.setIfInBounds_toArray, List.set_cons_zero, List.set_cons_succ]
            refine wpAnyH_take (i := 1) (oi := ⟨some 83, .binOp .eql 29 (.tmp 82) (.const (.int .i64 30)) 29, _, _, _, none⟩) (v := ?_) rfl (by kernel_rfl) (by kernel_rfl) (by kernel_rfl) (fun _ _ _ h => h) (Or.inl ⟨by rfl, ?_⟩) hHeld ?_
            rotate_left
            · intro W _; go_simp; try with_reducible rfl
            try simp only [Act.put, List.setIfInBounds_toArray, List.set_cons_zero, List.set_cons_succ]
            refine wpAnyH_take (i := 2) (oi := ⟨some 84, .move (.tmp 83), _, _, _, none⟩) (v := ?_) rfl (by kernel_rfl) (by kernel_rfl) (by kernel_rfl) (fun _ _ _ h => h) (Or.inl ⟨by rfl, ?_⟩) hHeld ?_
            rotate_left
            · intro W _; go_simp; try with_reducible rfl
            try simp only [Act.put, List.setIfInBounds_toArray, List.set_cons_zero, List.set_cons_succ]
            refine wpAnyH_ready (rs := [3]) (by kernel_rfl) (by simp) ?_
            refine AllReadyH.cons (o := ⟨some 85, .call { callee := .value (.func 10), args := #[], argTypes := #[] }, _, _, _, some (2, true)⟩) rfl (fun K hK => ?_) AllReadyH.nil
            refine step_ofR (by rfl) ?_
            go_simp
            refine (GR.out _ hHeld.bel).mono ?_
            rintro x W1 ⟨rfl, hb1⟩
            refine hK.out _ _ (hHeld.below hb1) (fun hHeld => ?_)
            clear hK K
            try simp only [Act.put, List.setIfInBounds_toArray, List.set_cons_zero, List.set_cons_succ]
            refine wpAnyH_take (i := 4) (oi := ⟨some 86, .pick (.tmp 84) (.tmp 85) (.const (.bool false)), _, _, _, none⟩) (v := ?_) rfl (by kernel_rfl) (by kernel_rfl) (by kernel_rfl) (fun _ _ _ h => h) (Or.inl ⟨by rfl, ?_⟩) hHeld ?_
            rotate_left
            · intro W _; go_simp; try with_reducible rfl
            try simp only [Act.put, List.setIfInBounds_toArray, List.set_cons_zero, List.set_cons_succ]
            refine wpAnyH_take (i := 5) (oi := ⟨some 87, .move (.tmp 86), _, _, _, none⟩) (v := ?_) rfl (by kernel_rfl) (by kernel_rfl) (by kernel_rfl) (fun _ _ _ h => h) (Or.inl ⟨by rfl, ?_⟩) hHeld ?_
            rotate_left
            · intro W _; go_simp; try with_reducible rfl
            try simp only [Act.put, List.setIfInBounds_toArray, List.set_cons_zero, List.set_cons_succ]
            refine wpAnyH_ready (rs := [6]) (by kernel_rfl) (by simp) ?_
            refine AllReadyH.cons (o := ⟨some 88, .call { callee := .value (.func 25), args := #[], argTypes := #[] }, _, _, _, some (5, true)⟩) rfl (fun K hK => ?_) AllReadyH.nil
            refine step_ofR (by rfl) ?_
            go_simp
            refine (RT.out _ hHeld.bel).mono ?_
            rintro x W1 ⟨rfl, hb2⟩
            refine hK.out _ _ (hHeld.below hb2) (fun hHeld => ?_)
            clear hK K
            try simp only [Act.put, List.setIfInBounds_toArray, List.set_cons_zero, List.set_cons_succ]
            refine wpAnyH_take (i := 7) (oi := ⟨some 89, .pick (.tmp 87) (.tmp 88) (.const (.bool false)), _, _, _, none⟩) (v := ?_) rfl (by kernel_rfl) (by kernel_rfl) (by kernel_rfl) (fun _ _ _ h => h) (Or.inl ⟨by rfl, ?_⟩) hHeld ?_
            rotate_left
            · intro W _; go_simp; try with_reducible rfl
            try simp only [Act.put, List.setIfInBounds_toArray, List.set_cons_zero, List.set_cons_succ]
            refine wpAnyH_take (i := 8) (oi := ⟨some 90, .move (.tmp 89), _, _, _, none⟩) (v := ?_) rfl (by kernel_rfl) (by kernel_rfl) (by kernel_rfl) (fun _ _ _ h => h) (Or.inl ⟨by rfl, ?_⟩) hHeld ?_
            rotate_left
            · intro W _; go_simp; try with_reducible rfl
            try simp only [Act.put, List.setIfInBounds_toArray, List.set_cons_zero, List.set_cons_succ]
            refine wpAnyH_take (i := 9) (oi := ⟨some 91, .move (.tmp 7), _, _, _, some (8, true)⟩) (v := ?_) rfl (by kernel_rfl) (by kernel_rfl) (by kernel_rfl) (fun _ _ _ h => h) (Or.inl ⟨by rfl, ?_⟩) hHeld ?_
            rotate_left
            · intro W _; go_simp; try with_reducible rfl
            try simp only [Act.put, List.setIfInBounds_toArray, List.set_cons_zero, List.set_cons_succ]
            refine wpAnyH_take (i := 11) (oi := ⟨some 93, .load 25 (.tmp 12), _, _, _, some (8, true)⟩) (v := .agg (bs d).toArray) rfl (by kernel_rfl) (by kernel_rfl) (by kernel_rfl) (fun _ _ _ h => h) (yieldsIf_load_mid (by rfl) _ _ rfl w6.heap.size 0 rfl (bs d) _ (fun W h => h.dig.allR) Tryz.underlying25 rfl i1.out) hHeld ?_
            try simp only [Act.put, List.setIfInBounds_toArray, List.set_cons_zero, List.set_cons_succ]
            refine wpAnyH_ready (rs := [10]) (by kernel_rfl) (by simp) ?_
            refine AllReadyH.cons (o := ⟨some 92, .call { callee := .value (.func 23), args := #[.tmp 91], argTypes := #[28] }, _, _, _, some (8, true)⟩) rfl (fun K hK => ?_) AllReadyH.nil
            refine step_ofR (by rfl) ?_
            go_simp
            refine (RO1.out tp up _ ((hSd.below hb1).below hb2)).mono ?_
            rintro x W1 ⟨rfl, hS11, hB11, hk11⟩
            refine hK.out _ _ (hHeld.kept hk11 hB11) (fun hHeld => ?_)
            clear hK K
            try simp only [Act.put, List.setIfInBounds_toArray, List.set_cons_zero, List.set_cons_succ]
            refine wpAnyH_take (i := 12) (oi := ⟨some 94, .binOp .eql 25 (.tmp 92) (.tmp 93) 25, _, _, _, some (8, true)⟩) (v := .bool true) rfl (by kernel_rfl) (by kernel_rfl) (by kernel_rfl) (fun _ _ _ h => h) (yieldsIf_eqE (by rfl) .eql 25 25 (.tmp 92) (.tmp 93) rfl _ _ rfl rfl guardR _ (eq5 hdl)) hHeld ?_
            try simp only [Act.put, List.setIfInBounds_toArray, List.set_cons_zero, List.set_cons_succ]
            refine wpAnyH_take (i := 13) (oi := ⟨some 95, .pick (.tmp 90) (.tmp 94) (.const (.bool false)), _, _, _, none⟩) (v := ?_) rfl (by kernel_rfl) (by kernel_rfl) (by kernel_rfl) (fun _ _ _ h => h) (Or.inl ⟨by rfl, ?_⟩) hHeld ?_
            rotate_left
            · intro W _; go_simp; try with_reducible rfl
            try simp only [Act.put, List.setIfInBounds_toArray, List.set_cons_zero, List.set_cons_succ]
            refine wpAnyH_take (i := 14) (oi := ⟨some 96, .move (.tmp 95), _, _, _, none⟩) (v := ?_) rfl (by kernel_rfl) (by kernel_rfl) (by kernel_rfl) (fun _ _ _ h => h) (Or.inl ⟨by rfl, ?_⟩) hHeld ?_
            rotate_left
            · intro W _; go_simp; try with_reducible rfl
            try simp only [Act.put, List.setIfInBounds_toArray, List.set_cons_zero, List.set_cons_succ]
            refine wpAnyH_take (i := 15) (oi := ⟨some 97, .move (.tmp 7), _, _, _, some (14, true)⟩) (v := ?_) rfl (by kernel_rfl) (by kernel_rfl) (by kernel_rfl) (fun _ _ _ h => h) (Or.inl ⟨by rfl, ?_⟩) hHeld ?_
            rotate_left
            · intro W _; go_simp; try with_reducible rfl
            try simp only [Act.put, List.setIfInBounds_toArray, List.set_cons_zero, List.set_cons_succ]
            refine wpAnyH_take (i := 17) (oi := ⟨some 99, .move (.tmp 1), _, _, _, some (14, true)⟩) (v := ?_) rfl (by kernel_rfl) (by kernel_rfl) (by kernel_rfl) (fun _ _ _ h => h) (Or.inl ⟨by rfl, ?_⟩) hHeld ?_
            rotate_left
            · intro W _; go_simp; try with_reducible rfl
            try simp only [Act.put, List.setIfInBounds_toArray, List.set_cons_zero, List.set_cons_succ]
            refine wpAnyH_take (i := 18) (oi := ⟨some 100, .call { callee := .builtin .len, args := #[.tmp 99], argTypes := #[23] }, _, _, _, some (14, true)⟩) (v := ?_) rfl (by kernel_rfl) (by kernel_rfl) (by kernel_rfl) (fun _ _ _ h => h) (Or.inl ⟨by rfl, ?_⟩) hHeld ?_
            rotate_left
            · intro W _; go_simp; try with_reducible rfl
            try simp only [Act.put, List.setIfInBounds_toArray, List.set_cons_zero, List.set_cons_succ]
            refine wpAnyH_ready (rs := [16]) (by kernel_rfl) (by simp) ?_
            refine AllReadyH.cons (o := ⟨some 98, .call { callee := .value (.func 21), args := #[.tmp 97], argTypes := #[28] }, _, _, _, some (14, true)⟩) rfl (fun K hK => ?_) AllReadyH.nil
            refine step_ofR (by rfl) ?_
            go_simp
            refine (LE.out tp up _ hS11).mono ?_
            rintro x W1 ⟨rfl, rfl⟩
            refine hK.out _ _ (hHeld) (fun hHeld => ?_)
            clear hK K
            try simp only [Act.put, List.setIfInBounds_toArray, List.set_cons_zero, List.set_cons_succ]
            refine wpAnyH_take (i := 19) (oi := ⟨some 101, .binOp .eql 3 (.tmp 98) (.tmp 100) 3, _, _, _, some (14, true)⟩) (v := ?_) rfl (by kernel_rfl) (by kernel_rfl) (by kernel_rfl) (fun _ _ _ h => h) (Or.inl ⟨by rfl, ?_⟩) hHeld ?_
            rotate_left
            · intro W _; go_simp; try with_reducible rfl
            try simp only [Act.put, List.setIfInBounds_toArray, List.set_cons_zero, List.set_cons_succ]
            refine wpAnyH_take (i := 20) (oi := ⟨some 102, .pick (.tmp 96) (.tmp 101) (.const (.bool false)), _, _, _, none⟩) (v := ?_) rfl (by kernel_rfl) (by kernel_rfl) (by kernel_rfl) (fun _ _ _ h => h) (Or.inl ⟨by rfl, ?_⟩) hHeld ?_
            rotate_left
            · intro W _; go_simp; try with_reducible rfl
            try simp only [Act.put, List.setIfInBounds_toArray, List.set_cons_zero, List.set_cons_succ]
            refine wpAnyH_ready (rs := [21]) (by kernel_rfl) (by simp) ?_
            refine AllReadyH.cons (o := ⟨some 6, .assign (.tmp 102), _, _, _, none⟩) rfl (fun K hK => ?_) AllReadyH.nil
            refine step_ofR (by rfl) ?_
            go_simp
            refine hK.out _ _ (hHeld) (fun hHeld => ?_)
            clear hK K
            try simp only [Act.put, List.setIfInBounds_toArray, List.set_cons_zero, List.set_cons_succ]
            refine wpAnyH_done (by kernel_rfl) ?_ _
            -- END batches
            go_wp2_with fail
            go_ret
            exact Yes5.mk hHeld.bel
          | false =>
            obtain ⟨e1, e2⟩ := u2 htq
            rw [htq] at TW9
            rw [e1]
            rw [e2] at hS9
            clear u1 u2 e1 e2 htq
            go_wp2_with fail
            refine TW9.out.mono ?_
            rintro e w10 ⟨rfl, hB10⟩
            have hS10 := hS9.below hB10
            have hXe : setF L (q.take m) = setF L q := by rw [List.take_of_length_le (by have := HLQ.out; omega)]
            generalize hX : setF L q = X at *
            have HXE := Lib.hid hXe
            have hXn : X.length ≤ 4096 := hS10.few
            have hdX : (rootL k X).length = 32 := digestF_length k hk 256 X 0
            have RX := Lib.hid (fun (W : World) (h : Sm2 w k tp X up X W) => sm2_root h hk hT)
            have RY := Lib.hid (fun (W : World) (h : Sm2 w k up X tp X W) => sm2_root h hk hT)
            have HX := Lib.hid hX
            clear hXe hX
            generalize rootL k X = dx at *
            have E5 := Lib.hid (eq5 hdX)
            have SL := Lib.hid (fun (W : World) (a1 : Option Addr) (c1 : Nat) (h1 : RdL W a1 X.length c1 (sortedL X)) (a2 : Option Addr) (c2 : Nat) (h2 : RdL W a2 X.length c2 (sortedL X)) => same_law W a1 X.length c1 (sortedL X) h1 (by omega) a2 X.length c2 (sortedL X) h2)
            rw [(sameLL_iff (sortedL X) (sortedL X)).2 rfl] at SL
            go_wp2_with fail
            go_loopw [14] (fun t wr => ∃ (j : Nat), j ≤ m ∧ t = .int .i64 (j : Int) ∧ Sm2 w k tp X up (setF L (q.take j)) wr) (fun t _ => m - (intOf t).toNat)
            case atStart => exact ⟨0, by omega, rfl, hS10⟩
            case round =>
              obtain ⟨j, hj, rfl, hS⟩ := hrel
              by_cases hjt : j < m
              · have hjl : (j : Int) < (m : Int) := by omega
                have hfw := setF_few L q j
                have hLn := HLN.out
                obtain ⟨e1, e2⟩ := set_single (setF L (q.take j)) (q.getD j lf0) (by omega)
                have ST := Lib.hid (sm2_set hS.swap (tailA a2 c2 j) 1 (c2 - j) [q.getD j lf0] (leaf_at1 (hq.below hS.bel) hjt) (fun _ => sorts_all 1 (by decide)))
                rw [e1, e2, ← setF_step L q (by rw [HLQ.out]; exact hjt)] at ST
                have CU := fun (W : World) => (cutOne W a2 m c2 j (j : Int) ((j : Int) + 1) rfl rfl (by omega)).1
                have CU' := fun (W : World) => (cutOne W a2 m c2 j (j : Int) ((j : Int) + 1) rfl rfl (by omega)).2
                clear hS e1 e2 hfw hLn
                go_wp2_with fail
                refine ST.out.mono ?_
                rintro e w11 ⟨rfl, hS11, -⟩
                go_wp2_with fail
                go_roundw
                case rel => exact ⟨j + 1, by omega, by go_num, hS11.swap⟩
                case measure => simp [intOf]; omega
              · obtain rfl : j = m := by omega
                have hjl : ¬ (j : Int) < (j : Int) := by omega
                have hS12 : Sm2 w k tp X up X wr := by rw [HXE.out] at hS; exact hS
                clear hS
                go_wp2_with fail
                refine (GR.out _ hS12.bel).mono ?_
                rintro e w13 ⟨rfl, hB13⟩
                have hS13 := hS12.below hB13
                go_wp2_with fail
                refine (RT.out _ hS13.bel).mono ?_
                rintro e w14 ⟨rfl, hB14⟩
                have hS14 := hS13.below hB14
                go_wp2_with fail
                refine (RX.out _ hS14).mono ?_
                rintro e w15 ⟨rfl, hS15, -, -⟩
                go_wp2_with fail
                refine (RY.out _ hS15.swap).mono ?_
                rintro e w16 ⟨rfl, hS16, -, -⟩
                have LE1 := Lib.hid (sm_len hS16.swap.fst)
                have LE2 := Lib.hid (sm_len hS16.fst)
                have LV1 := Lib.hid (sm_leaves hS16.swap.fst)
                go_wp2_with ((with_reducible refine wpList_eqF (o := ⟨some 125, _, _, _, _, _⟩) ?_ .eql 25 25 (.tmp 122) (.tmp 124) ?_ (bs dx).toArray (bs dx).toArray ?_ ?_ guardR _ E5.out ?_); rfl; rfl; rfl; rfl)
                refine LE1.out.mono ?_
                rintro e w17 ⟨rfl, rfl⟩
                go_wp2_with fail
                refine LE2.out.mono ?_
                rintro e w18 ⟨rfl, rfl⟩
                go_wp2_with fail
                refine LV1.out.mono ?_
                rintro e w19 ⟨a5, c5, rfl, hO5, hB19⟩
                have hS19 := hS16.below hB19
                have LV2 := Lib.hid (sm_leaves hS19.fst)
                go_wp2_with fail
                refine LV2.out.mono ?_
                rintro e w20 ⟨a6, c6, rfl, hO6, hB20⟩
                go_wp2_with fail
                refine (SL.out _ _ _ (hO5.rd.below hB20) _ _ hO6.rd).mono ?_
                rintro e w21 ⟨rfl, hB21⟩
                go_wp2_with fail
                go_ret
                exact Yes5.mk (Bt (Bt hS19.bel hB20) hB21)
end Go.Proofs.YtmfnpjfhijmboaaGreatDoor
