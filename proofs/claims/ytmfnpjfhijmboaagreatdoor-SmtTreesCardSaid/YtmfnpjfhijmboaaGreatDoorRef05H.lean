/-
  The walk of the reference's Sorted.
-/
import Derived.Test.YtmfnpjfhijmboaaGreatDoorRef05F
namespace Go.Proofs.YtmfnpjfhijmboaaGreatDoor
open Go.RowKit

def insAt (p : List UInt8) (out : List Lf) : Nat := out.findIdx fun y => lessB p y.path
def insL (out : List Lf) (x : Lf) : List Lf := out.take (insAt x.path out) ++ [x] ++ out.drop (insAt x.path out)
def sortedL (l : List Lf) : List Lf := l.foldl insL []
theorem sortedL_snoc (l : List Lf) (x : Lf) : sortedL (l ++ [x]) = insL (sortedL l) x := by simp [sortedL]
theorem insL_ok {out : List Lf} {x : Lf} (h : oks out) (hx : x.ok) : oks (insL out x) :=
  (oks.append (oks.append (fun y hy => h y (List.mem_of_mem_take hy)) (oks.single hx)) (fun y hy => h y (List.mem_of_mem_drop hy)))
theorem insL_len (out : List Lf) (x : Lf) : (insL out x).length = out.length + 1 := by
  simp [insL]; omega
theorem insAt_here {p : List UInt8} {out : List Lf} {k : Nat} (hk : k < out.length) (h1 : ∀ j, j < k → lessB p (out.getD j lf0).path = false) (h2 : lessB p (out.getD k lf0).path = true) : insAt p out = k := by
  rw [insAt, List.findIdx_eq hk]
  refine ⟨by simpa [List.getD, hk] using h2, fun j hj => ?_⟩
  have := h1 j hj
  simpa [List.getD, show j < out.length by omega] using this
theorem insAt_end {p : List UInt8} {out : List Lf} (h1 : ∀ j, j < out.length → lessB p (out.getD j lf0).path = false) : insAt p out = out.length := by
  rw [insAt, List.findIdx_eq_length]
  intro x hx
  obtain ⟨j, hj, rfl⟩ := List.getElem_of_mem hx
  have := h1 j hj
  simpa [List.getD, hj] using this

theorem lcs_take {l : List Lf} (h : oks l) (k : Nat) (hk : k ≤ l.length) : lcs (l.take k) = (lcs l).take (k * 64) := by
  have e : lcs l = lcs (l.take k) ++ lcs (l.drop k) := by rw [← lcs_append, List.take_append_drop]
  have hl : (lcs (l.take k)).length = k * 64 := by
    rw [lcs_length (fun x hx => h x (List.mem_of_mem_take hx)), List.length_take, Nat.min_eq_left hk]
  rw [e, List.take_left' hl]
theorem lcs_drop {l : List Lf} (h : oks l) (k : Nat) (hk : k ≤ l.length) : lcs (l.drop k) = (lcs l).drop (k * 64) := by
  have e : lcs l = lcs (l.take k) ++ lcs (l.drop k) := by rw [← lcs_append, List.take_append_drop]
  have hl : (lcs (l.take k)).length = k * 64 := by
    rw [lcs_length (fun x hx => h x (List.mem_of_mem_take hx)), List.length_take, Nat.min_eq_left hk]
  rw [e, List.drop_left' hl]
theorem RdL.take {w : World} {a : Option Addr} {n c : Nat} {l : List Lf} (h : RdL w a n c l) (k : Nat) (hk : k ≤ n) : RdL w a k c (l.take k) := by
  have hl := h.len
  have hc := h.cap
  refine ⟨by simp; omega, fun x hx => h.ok x (List.mem_of_mem_take hx), by omega, h.max, fun e => by have := h.nil e; omega, fun ad e j u hu => h.cell ad e j u ?_⟩
  rw [lcs_take h.ok k (by omega), List.getElem?_take] at hu
  split at hu
  · exact hu
  · cases hu
theorem RdL.tail {w : World} {a : Option Addr} {n c : Nat} {l : List Lf} (h : RdL w a n c l) (k : Nat) (hk : k ≤ n) : RdL w (a.map fun x => x.add (k * 64)) (n - k) (c - k) (l.drop k) := by
  have hl := h.len
  have hc := h.cap
  have hm := h.max
  refine ⟨by simp; omega, fun x hx => h.ok x (List.mem_of_mem_drop hx), by omega, by omega, fun e => ?_, fun ad e j u hu => ?_⟩
  · cases a with
    | none => have := h.nil rfl; omega
    | some a => simp at e
  · rw [lcs_drop h.ok k (by omega), List.getElem?_drop] at hu
    have hn : 0 < n := by
      rcases Nat.eq_zero_or_pos n with h0 | h0
      · rw [List.eq_nil_of_length_eq_zero (hl.trans h0)] at hu
        simp [lcs] at hu
      · exact h0
    obtain ⟨b, off, rfl, _, _⟩ := h.elems hn
    simp only [Option.map_some, Option.some.injEq, Addr.add_lit] at e
    subst e
    have := h.cell _ rfl (k * 64 + j) u hu
    rw [Addr.add_lit] at this ⊢
    rw [Nat.add_assoc]
    exact this

theorem RdL.none0 (w : World) (a : Option Addr) (c : Nat := 0) (h : a = none → c = 0 := by intros; rfl) (hm : c ≤ maxLen := by decide) : RdL w a 0 c [] := ⟨rfl, fun _ h => (by simp at h), Nat.zero_le _, hm, fun e => ⟨rfl, h e⟩, fun _ _ j u hu => (by simp [lcs] at hu)⟩

set_option maxRecDepth 100000 in
set_option maxHeartbeats 2000000 in
theorem sorted_ref (w : World) (a : Option Addr) (n c : Nat) (l : List Lf) (hr : RdL w a n c l) (hn : n ≤ 100000) :
    Calls Tryz.prog 22 #[.slice a n c] w fun e w' => ∃ a' c', e = .returned (.slice a' n c') ∧ RdL w' a' n c' (sortedL l) ∧ Below w.heap.size w w' := by
  have hl := Lib.hid hr.len
  have hok := hr.ok
  go_enter Tryz.func22, Tryz.ntmps22
  go_wp2_with fail
  go_loopw [3, 4, 5, 6] (fun v t _ _ wr => ∃ (i : Nat) (q : List Lf) (ao : Option Addr) (co : Nat), i ≤ n ∧ t = .int .i64 i ∧ v = .slice ao i co ∧ q = sortedL (l.take i) ∧ RdL wr ao i co q ∧ Below w.heap.size w wr) (fun _ t _ _ _ => n - (intOf t).toNat)
  case atStart => exact ⟨0, [], none, 0, by omega, rfl, rfl, rfl, RdL.nil0 _, Below.refl _ _⟩
  case round =>
    obtain ⟨i, q, ao, co, hi, rfl, rfl, hq, hR, hB⟩ := hrel
    by_cases hlt : i < n
    · have hlt' : (i : Int) < n := by omega
      obtain ⟨bb, off, rfl, hbb, hel⟩ := hr.elems (by omega)
      have hxo := hok.at (show i < l.length by rw [hl.out]; omega)
      have hst := Lib.hid (show sortedL (l.take (i + 1)) = insL q (l.getD i lf0) by rw [take_succ_lf l i (by rw [hl.out]; omega), sortedL_snoc, hq])
      have hgp := Lib.hid (range_path (hel i hlt))
      have hgx := Lib.hid (hel i hlt)
      clear hel hq
      generalize l.getD i lf0 = x at *
      have hql := Lib.hid hR.len
      have hqo := hR.ok
      have H5 := Lib.hid (show (Tryz.prog.info? 25).map (·.size) = some (bs x.path).length by rw [info_digest, bs_length, hxo.1])
      have H7 := Lib.hid (show (Tryz.prog.info? 50).map (·.size) = some (lc x).length by rw [infoLeafS, lc_length hxo])
      have hB0 := hB
      have hR0 := hR
      generalize hwo : wr = wo at hR0 hB0
      have HWO := Lib.hid hwo
      clear hwo
      go_wp2_with fail
      go_loopw [5] (fun t wr => ∃ k : Nat, k ≤ i ∧ t = .int .i64 k ∧ (∀ j, j < k → lessB x.path (q.getD j lf0).path = false) ∧ Below wo.heap.size wo wr) (fun t _ => i - (intOf t).toNat)
      case atStart => exact ⟨0, by omega, rfl, fun j h => absurd h (Nat.not_lt_zero j), Below.refl _ _⟩
      case round =>
        obtain ⟨k, hk, rfl, hless, hB1⟩ := hrel
        by_cases hki : k < i
        · have hki' : (k : Int) < i := by omega
          obtain ⟨b2, off2, rfl, hbb2, hel2⟩ := hR0.elems (by omega)
          have hy := hqo.at (show k < q.length by rw [hql.out]; omega)
          have hgy := Lib.hid (range_path (hel2 k hki))
          have HH := Lib.hid (insAt_here (p := x.path) (out := q) (k := k) (by rw [hql.out]; omega) hless)
          have hl1 := Lib.hid (fun h : lessB x.path (q.getD k lf0).path = false => (show ∀ j, j < k + 1 → lessB x.path (q.getD j lf0).path = false from fun j hj => by
            by_cases hjk : j = k
            · rw [hjk]; exact h
            · exact hless j (by omega)))
          clear hless hel2
          generalize q.getD k lf0 = y at *
          have H6 := Lib.hid (show (Tryz.prog.info? 25).map (·.size) = some (bs y.path).length by rw [info_digest, bs_length, hy.1])
          have HL := Lib.hid (fun W : World => less_ref W x.path y.path hxo.1 hy.1)
          cases hxy : lessB x.path y.path
          · rw [hxy] at HL
            have hl2 := Lib.hid (hl1.out hxy)
            clear hl1 hxy HH
            go_wp2_with fail
            -- REGION Sorted false
            refine wp_region_held_drew (S := fun W => Below wo.heap.size wo W) (by kernel_rfl) (below_drew hB1) (fun hHeld => ?_)
            refine wpAnyH_take (i := 0) (oi := ⟨some 13, .move (.tmp 5), _, _, _, none⟩) (v := ?_) rfl (by kernel_rfl) (by kernel_rfl) (by kernel_rfl) (fun _ _ _ h => h) (Or.inl ⟨by rfl, ?_⟩) hHeld ?_
            rotate_left
            · intro W _; go_simp; try with_reducible rfl
            try simp only [Act.put, List.setIfInBounds_toArray, List.set_cons_zero, List.set_cons_succ]
            refine wpAnyH_take (i := 1) (oi := ⟨some 14, .move (.tmp 3), _, _, _, none⟩) (v := ?_) rfl (by kernel_rfl) (by kernel_rfl) (by kernel_rfl) (fun _ _ _ h => h) (Or.inl ⟨by rfl, ?_⟩) hHeld ?_
            rotate_left
            · intro W _; go_simp; try with_reducible rfl
            try simp only [Act.put, List.setIfInBounds_toArray, List.set_cons_zero, List.set_cons_succ]
            refine wpAnyH_take (i := 2) (oi := ⟨some 15, .call { callee := .builtin .len, args := #[.tmp 14], argTypes := #[23] }, _, _, _, none⟩) (v := ?_) rfl (by kernel_rfl) (by kernel_rfl) (by kernel_rfl) (fun _ _ _ h => h) (Or.inl ⟨by rfl, ?_⟩) hHeld ?_
            rotate_left
            · intro W _; go_simp; try with_reducible rfl
            try simp only [Act.put, List.setIfInBounds_toArray, List.set_cons_zero, List.set_cons_succ]
            refine wpAnyH_take (i := 3) (oi := ⟨some 16, .binOp .lss 3 (.tmp 13) (.tmp 15) 3, _, _, _, none⟩) (v := ?_) rfl (by kernel_rfl) (by kernel_rfl) (by kernel_rfl) (fun _ _ _ h => h) (Or.inl ⟨by rfl, ?_⟩) hHeld ?_
            rotate_left
            · intro W _; go_simp; try with_reducible rfl
            try simp only [Act.put, List.setIfInBounds_toArray, List.set_cons_zero, List.set_cons_succ]
            refine wpAnyH_take (i := 4) (oi := ⟨some 17, .move (.tmp 16), _, _, _, none⟩) (v := ?_) rfl (by kernel_rfl) (by kernel_rfl) (by kernel_rfl) (fun _ _ _ h => h) (Or.inl ⟨by rfl, ?_⟩) hHeld ?_
            rotate_left
            · intro W _; go_simp; try with_reducible rfl
            try simp only [Act.put, List.setIfInBounds_toArray, List.set_cons_zero, List.set_cons_succ]
            refine wpAnyH_take (i := 5) (oi := ⟨some 18, .move (.tmp 0), _, _, _, some (4, true)⟩) (v := ?_) rfl (by kernel_rfl) (by kernel_rfl) (by kernel_rfl) (fun _ _ _ h => h) (Or.inl ⟨by rfl, ?_⟩) hHeld ?_
            rotate_left
            · intro W _; go_simp; try with_reducible rfl
            try simp only [Act.put, List.setIfInBounds_toArray, List.set_cons_zero, List.set_cons_succ]
            refine wpAnyH_take (i := 6) (oi := ⟨some 19, .move (.tmp 4), _, _, _, some (4, true)⟩) (v := ?_) rfl (by kernel_rfl) (by kernel_rfl) (by kernel_rfl) (fun _ _ _ h => h) (Or.inl ⟨by rfl, ?_⟩) hHeld ?_
            rotate_left
            · intro W _; go_simp; try with_reducible rfl
            try simp only [Act.put, List.setIfInBounds_toArray, List.set_cons_zero, List.set_cons_succ]
            refine wpAnyH_take (i := 7) (oi := ⟨some 20, .indexAddr 23 (.tmp 18) (.tmp 19), _, _, _, some (4, true)⟩) (v := ?_) rfl (by kernel_rfl) (by kernel_rfl) (by kernel_rfl) (fun _ _ _ h => h) (Or.inl ⟨by rfl, ?_⟩) hHeld ?_
            rotate_left
            · intro W _; go_simp; try with_reducible rfl
            try simp only [Act.put, List.setIfInBounds_toArray, List.set_cons_zero, List.set_cons_succ]
            refine wpAnyH_take (i := 8) (oi := ⟨some 21, .fieldAddr 50 (.tmp 20) 0, _, _, _, some (4, true)⟩) (v := ?_) rfl (by kernel_rfl) (by kernel_rfl) (by kernel_rfl) (fun _ _ _ h => h) (Or.inl ⟨by rfl, ?_⟩) hHeld ?_
            rotate_left
            · intro W _; go_simp; try with_reducible rfl
            try simp only [Act.put, List.setIfInBounds_toArray, List.set_cons_zero, List.set_cons_succ]
            refine wpAnyH_take (i := 9) (oi := ⟨some 22, .load 25 (.tmp 21), _, _, _, some (4, true)⟩) (v := .agg (bs x.path).toArray) rfl (by kernel_rfl) (by kernel_rfl) (by kernel_rfl) (fun _ _ _ h => h) (yieldsIf_load_mid (by rfl) _ _ rfl bb (off + i * 64) rfl (bs x.path) _ (fun W h => rangeAt_below (Bt hB0 h) hgp.out) Tryz.underlying25 rfl H5.out) hHeld ?_
            try simp only [Act.put, List.setIfInBounds_toArray, List.set_cons_zero, List.set_cons_succ]
            refine wpAnyH_take (i := 10) (oi := ⟨some 23, .move (.tmp 3), _, _, _, some (4, true)⟩) (v := ?_) rfl (by kernel_rfl) (by kernel_rfl) (by kernel_rfl) (fun _ _ _ h => h) (Or.inl ⟨by rfl, ?_⟩) hHeld ?_
            rotate_left
            · intro W _; go_simp; try with_reducible rfl
            try simp only [Act.put, List.setIfInBounds_toArray, List.set_cons_zero, List.set_cons_succ]
            refine wpAnyH_take (i := 11) (oi := ⟨some 24, .move (.tmp 5), _, _, _, some (4, true)⟩) (v := ?_) rfl (by kernel_rfl) (by kernel_rfl) (by kernel_rfl) (fun _ _ _ h => h) (Or.inl ⟨by rfl, ?_⟩) hHeld ?_
            rotate_left
            · intro W _; go_simp; try with_reducible rfl
            try simp only [Act.put, List.setIfInBounds_toArray, List.set_cons_zero, List.set_cons_succ]
            refine wpAnyH_take (i := 12) (oi := ⟨some 25, .indexAddr 23 (.tmp 23) (.tmp 24), _, _, _, some (4, true)⟩) (v := ?_) rfl (by kernel_rfl) (by kernel_rfl) (by kernel_rfl) (fun _ _ _ h => h) (Or.inl ⟨by rfl, ?_⟩) hHeld ?_
            rotate_left
            · intro W _; go_simp; try with_reducible rfl
            try simp only [Act.put, List.setIfInBounds_toArray, List.set_cons_zero, List.set_cons_succ]
            refine wpAnyH_take (i := 13) (oi := ⟨some 26, .fieldAddr 50 (.tmp 25) 0, _, _, _, some (4, true)⟩) (v := ?_) rfl (by kernel_rfl) (by kernel_rfl) (by kernel_rfl) (fun _ _ _ h => h) (Or.inl ⟨by rfl, ?_⟩) hHeld ?_
            rotate_left
            · intro W _; go_simp; try with_reducible rfl
            try simp only [Act.put, List.setIfInBounds_toArray, List.set_cons_zero, List.set_cons_succ]
            refine wpAnyH_take (i := 14) (oi := ⟨some 27, .load 25 (.tmp 26), _, _, _, some (4, true)⟩) (v := .agg (bs y.path).toArray) rfl (by kernel_rfl) (by kernel_rfl) (by kernel_rfl) (fun _ _ _ h => h) (yieldsIf_load_mid (by rfl) _ _ rfl b2 (off2 + k * 64) rfl (bs y.path) _ (fun W h => rangeAt_below h hgy.out) Tryz.underlying25 rfl H6.out) hHeld ?_
            try simp only [Act.put, List.setIfInBounds_toArray, List.set_cons_zero, List.set_cons_succ]
            refine wpAnyH_ready (rs := [15]) (by kernel_rfl) (by simp) ?_
            refine AllReadyH.cons (o := ⟨some 28, .call { callee := .value (.func 47), args := #[.tmp 22, .tmp 27], argTypes := #[25, 25] }, _, _, _, some (4, true)⟩) rfl (fun K hK => ?_) AllReadyH.nil
            refine step_ofR (by rfl) ?_
            go_simp
            refine (HL.out _).mono ?_
            rintro e W1 ⟨rfl, hb1⟩
            refine hK.out _ _ (Bt hHeld hb1) (fun hHeld => ?_)
            clear hK K
            try simp only [Act.put, List.setIfInBounds_toArray, List.set_cons_zero, List.set_cons_succ]
            refine wpAnyH_take (i := 16) (oi := ⟨some 29, .unOp .not 4 (.tmp 28), _, _, _, some (4, true)⟩) (v := ?_) rfl (by kernel_rfl) (by kernel_rfl) (by kernel_rfl) (fun _ _ _ h => h) (Or.inl ⟨by rfl, ?_⟩) hHeld ?_
            rotate_left
            · intro W _; go_simp; try with_reducible rfl
            try simp only [Act.put, List.setIfInBounds_toArray, List.set_cons_zero, List.set_cons_succ]
            refine wpAnyH_take (i := 17) (oi := ⟨some 30, .pick (.tmp 17) (.tmp 29) (.const (.bool false)), _, _, _, none⟩) (v := ?_) rfl (by kernel_rfl) (by kernel_rfl) (by kernel_rfl) (fun _ _ _ h => h) (Or.inl ⟨by rfl, ?_⟩) hHeld ?_
            rotate_left
            · intro W _; go_simp; try with_reducible rfl
            try simp only [Act.put, List.setIfInBounds_toArray, List.set_cons_zero, List.set_cons_succ]
            refine wpAnyH_done (by kernel_rfl) ?_ _
            -- END Sorted false
            go_wp2_with fail
            exact ⟨⟨k + 1, by omega, by go_num, hl2.out, hHeld⟩, by simp [intOf]; omega⟩
          · rw [hxy] at HL
            have HH2 := Lib.hid (HH.out hxy)
            clear hl1 hxy HH
            go_wp2_with fail
            -- REGION Sorted true
            refine wp_region_held_drew (S := fun W => Below wo.heap.size wo W) (by kernel_rfl) (below_drew hB1) (fun hHeld => ?_)
            refine wpAnyH_take (i := 0) (oi := ⟨some 13, .move (.tmp 5), _, _, _, none⟩) (v := ?_) rfl (by kernel_rfl) (by kernel_rfl) (by kernel_rfl) (fun _ _ _ h => h) (Or.inl ⟨by rfl, ?_⟩) hHeld ?_
            rotate_left
            · intro W _; go_simp; try with_reducible rfl
            try simp only [Act.put, List.setIfInBounds_toArray, List.set_cons_zero, List.set_cons_succ]
            refine wpAnyH_take (i := 1) (oi := ⟨some 14, .move (.tmp 3), _, _, _, none⟩) (v := ?_) rfl (by kernel_rfl) (by kernel_rfl) (by kernel_rfl) (fun _ _ _ h => h) (Or.inl ⟨by rfl, ?_⟩) hHeld ?_
            rotate_left
            · intro W _; go_simp; try with_reducible rfl
            try simp only [Act.put, List.setIfInBounds_toArray, List.set_cons_zero, List.set_cons_succ]
            refine wpAnyH_take (i := 2) (oi := ⟨some 15, .call { callee := .builtin .len, args := #[.tmp 14], argTypes := #[23] }, _, _, _, none⟩) (v := ?_) rfl (by kernel_rfl) (by kernel_rfl) (by kernel_rfl) (fun _ _ _ h => h) (Or.inl ⟨by rfl, ?_⟩) hHeld ?_
            rotate_left
            · intro W _; go_simp; try with_reducible rfl
            try simp only [Act.put, List.setIfInBounds_toArray, List.set_cons_zero, List.set_cons_succ]
            refine wpAnyH_take (i := 3) (oi := ⟨some 16, .binOp .lss 3 (.tmp 13) (.tmp 15) 3, _, _, _, none⟩) (v := ?_) rfl (by kernel_rfl) (by kernel_rfl) (by kernel_rfl) (fun _ _ _ h => h) (Or.inl ⟨by rfl, ?_⟩) hHeld ?_
            rotate_left
            · intro W _; go_simp; try with_reducible rfl
            try simp only [Act.put, List.setIfInBounds_toArray, List.set_cons_zero, List.set_cons_succ]
            refine wpAnyH_take (i := 4) (oi := ⟨some 17, .move (.tmp 16), _, _, _, none⟩) (v := ?_) rfl (by kernel_rfl) (by kernel_rfl) (by kernel_rfl) (fun _ _ _ h => h) (Or.inl ⟨by rfl, ?_⟩) hHeld ?_
            rotate_left
            · intro W _; go_simp; try with_reducible rfl
            try simp only [Act.put, List.setIfInBounds_toArray, List.set_cons_zero, List.set_cons_succ]
            refine wpAnyH_take (i := 5) (oi := ⟨some 18, .move (.tmp 0), _, _, _, some (4, true)⟩) (v := ?_) rfl (by kernel_rfl) (by kernel_rfl) (by kernel_rfl) (fun _ _ _ h => h) (Or.inl ⟨by rfl, ?_⟩) hHeld ?_
            rotate_left
            · intro W _; go_simp; try with_reducible rfl
            try simp only [Act.put, List.setIfInBounds_toArray, List.set_cons_zero, List.set_cons_succ]
            refine wpAnyH_take (i := 6) (oi := ⟨some 19, .move (.tmp 4), _, _, _, some (4, true)⟩) (v := ?_) rfl (by kernel_rfl) (by kernel_rfl) (by kernel_rfl) (fun _ _ _ h => h) (Or.inl ⟨by rfl, ?_⟩) hHeld ?_
            rotate_left
            · intro W _; go_simp; try with_reducible rfl
            try simp only [Act.put, List.setIfInBounds_toArray, List.set_cons_zero, List.set_cons_succ]
            refine wpAnyH_take (i := 7) (oi := ⟨some 20, .indexAddr 23 (.tmp 18) (.tmp 19), _, _, _, some (4, true)⟩) (v := ?_) rfl (by kernel_rfl) (by kernel_rfl) (by kernel_rfl) (fun _ _ _ h => h) (Or.inl ⟨by rfl, ?_⟩) hHeld ?_
            rotate_left
            · intro W _; go_simp; try with_reducible rfl
            try simp only [Act.put, List.setIfInBounds_toArray, List.set_cons_zero, List.set_cons_succ]
            refine wpAnyH_take (i := 8) (oi := ⟨some 21, .fieldAddr 50 (.tmp 20) 0, _, _, _, some (4, true)⟩) (v := ?_) rfl (by kernel_rfl) (by kernel_rfl) (by kernel_rfl) (fun _ _ _ h => h) (Or.inl ⟨by rfl, ?_⟩) hHeld ?_
            rotate_left
            · intro W _; go_simp; try with_reducible rfl
            try simp only [Act.put, List.setIfInBounds_toArray, List.set_cons_zero, List.set_cons_succ]
            refine wpAnyH_take (i := 9) (oi := ⟨some 22, .load 25 (.tmp 21), _, _, _, some (4, true)⟩) (v := .agg (bs x.path).toArray) rfl (by kernel_rfl) (by kernel_rfl) (by kernel_rfl) (fun _ _ _ h => h) (yieldsIf_load_mid (by rfl) _ _ rfl bb (off + i * 64) rfl (bs x.path) _ (fun W h => rangeAt_below (Bt hB0 h) hgp.out) Tryz.underlying25 rfl H5.out) hHeld ?_
            try simp only [Act.put, List.setIfInBounds_toArray, List.set_cons_zero, List.set_cons_succ]
            refine wpAnyH_take (i := 10) (oi := ⟨some 23, .move (.tmp 3), _, _, _, some (4, true)⟩) (v := ?_) rfl (by kernel_rfl) (by kernel_rfl) (by kernel_rfl) (fun _ _ _ h => h) (Or.inl ⟨by rfl, ?_⟩) hHeld ?_
            rotate_left
            · intro W _; go_simp; try with_reducible rfl
            try simp only [Act.put, List.setIfInBounds_toArray, List.set_cons_zero, List.set_cons_succ]
            refine wpAnyH_take (i := 11) (oi := ⟨some 24, .move (.tmp 5), _, _, _, some (4, true)⟩) (v := ?_) rfl (by kernel_rfl) (by kernel_rfl) (by kernel_rfl) (fun _ _ _ h => h) (Or.inl ⟨by rfl, ?_⟩) hHeld ?_
            rotate_left
            · intro W _; go_simp; try with_reducible rfl
            try simp only [Act.put, List.setIfInBounds_toArray, List.set_cons_zero, List.set_cons_succ]
            refine wpAnyH_take (i := 12) (oi := ⟨some 25, .indexAddr 23 (.tmp 23) (.tmp 24), _, _, _, some (4, true)⟩) (v := ?_) rfl (by kernel_rfl) (by kernel_rfl) (by kernel_rfl) (fun _ _ _ h => h) (Or.inl ⟨by rfl, ?_⟩) hHeld ?_
            rotate_left
            · intro W _; go_simp; try with_reducible rfl
            try simp only [Act.put, List.setIfInBounds_toArray, List.set_cons_zero, List.set_cons_succ]
            refine wpAnyH_take (i := 13) (oi := ⟨some 26, .fieldAddr 50 (.tmp 25) 0, _, _, _, some (4, true)⟩) (v := ?_) rfl (by kernel_rfl) (by kernel_rfl) (by kernel_rfl) (fun _ _ _ h => h) (Or.inl ⟨by rfl, ?_⟩) hHeld ?_
            rotate_left
            · intro W _; go_simp; try with_reducible rfl
            try simp only [Act.put, List.setIfInBounds_toArray, List.set_cons_zero, List.set_cons_succ]
            refine wpAnyH_take (i := 14) (oi := ⟨some 27, .load 25 (.tmp 26), _, _, _, some (4, true)⟩) (v := .agg (bs y.path).toArray) rfl (by kernel_rfl) (by kernel_rfl) (by kernel_rfl) (fun _ _ _ h => h) (yieldsIf_load_mid (by rfl) _ _ rfl b2 (off2 + k * 64) rfl (bs y.path) _ (fun W h => rangeAt_below h hgy.out) Tryz.underlying25 rfl H6.out) hHeld ?_
            try simp only [Act.put, List.setIfInBounds_toArray, List.set_cons_zero, List.set_cons_succ]
            refine wpAnyH_ready (rs := [15]) (by kernel_rfl) (by simp) ?_
            refine AllReadyH.cons (o := ⟨some 28, .call { callee := .value (.func 47), args := #[.tmp 22, .tmp 27], argTypes := #[25, 25] }, _, _, _, some (4, true)⟩) rfl (fun K hK => ?_) AllReadyH.nil
            refine step_ofR (by rfl) ?_
            go_simp
            refine (HL.out _).mono ?_
            rintro e W1 ⟨rfl, hb1⟩
            refine hK.out _ _ (Bt hHeld hb1) (fun hHeld => ?_)
            clear hK K
            try simp only [Act.put, List.setIfInBounds_toArray, List.set_cons_zero, List.set_cons_succ]
            refine wpAnyH_take (i := 16) (oi := ⟨some 29, .unOp .not 4 (.tmp 28), _, _, _, some (4, true)⟩) (v := ?_) rfl (by kernel_rfl) (by kernel_rfl) (by kernel_rfl) (fun _ _ _ h => h) (Or.inl ⟨by rfl, ?_⟩) hHeld ?_
            rotate_left
            · intro W _; go_simp; try with_reducible rfl
            try simp only [Act.put, List.setIfInBounds_toArray, List.set_cons_zero, List.set_cons_succ]
            refine wpAnyH_take (i := 17) (oi := ⟨some 30, .pick (.tmp 17) (.tmp 29) (.const (.bool false)), _, _, _, none⟩) (v := ?_) rfl (by kernel_rfl) (by kernel_rfl) (by kernel_rfl) (fun _ _ _ h => h) (Or.inl ⟨by rfl, ?_⟩) hHeld ?_
            rotate_left
            · intro W _; go_simp; try with_reducible rfl
            try simp only [Act.put, List.setIfInBounds_toArray, List.set_cons_zero, List.set_cons_succ]
            refine wpAnyH_done (by kernel_rfl) ?_ _
            -- END Sorted true
            have hBW := Bt hB0 hHeld
            have hRW := hR0.below hHeld
            have hgx2 := rangeAt_below hBW hgx.out
            obtain ⟨P, hP⟩ : ∃ P, q.take k = P := ⟨_, rfl⟩
            have hPl : P.length = k := by rw [← hP, List.length_take]; have := hql.out; omega
            have HINS := Lib.hid (show insL q x = P ++ [x] ++ q.drop k by rw [insL, HH2.out, hP])
            have hRT := hRW.take k hk
            rw [hP] at hRT
            have hkc : k ≤ co := by have := hRW.cap; omega
            have hsW := hBW.size
            have hck : ¬ co = k := by have := hRW.cap; omega
            clear hP
            go_wp2_with (first | (at_builtin; refine wpList_appL (base := W1.heap.size) (v := .slice none 0 0) (q := []) rfl (.tmp 33) (.tmp 36) rfl rfl (OwnL.nil0 _ _) rfl hRT (by simp; omega) (Nat.le_refl _) ?_; intro a1 c1 w1 hO1 hg1 _; rw [List.nil_append, show ([] : List Lf).length + k = k from Nat.zero_add k] at hO1; have hB1' := (Below.refl _ W1).grown hg1 (Nat.le_refl _) (fun k e => by cases e); have hgx3 := rangeAt_below (Bt hBW hB1') hgx.out; have hO2 := hO1.below ((Below.refl _ w1).alloc (Nat.le_refl _) (.cells (lc x).toArray 50)); have hB2' := hB1'.alloc hB1'.size (.cells (lc x).toArray 50)) | ((with_reducible refine wpList_loadM (o := ⟨some 42, _, _, _, _, _⟩) ?_ bb (off + i * 64) 50 (.tmp 41) ?_ ?_ hgx3 Tryz.underlying50 ?_ H7.out ?_); rfl; rfl; rfl; rfl) | ((with_reducible refine wpList_oneL (o := ⟨some 43, _, _, _, _, _⟩) ?_ (.tmp 42) ?_ (y := x) ?_ hxo ?_); rfl; rfl; rfl) | (at_builtin; refine wpList_appL (base := W1.heap.size) (v := .slice a1 k c1) (q := P) rfl (.tmp 38) (.tmp 43) rfl rfl hO2 rfl (RdL.one w1 hxo) (by omega) hB2'.size ?_; intro a3 c3 w3 hO3 hg3 _; rw [hPl] at hO3; have hB3' := hB2'.grown hg3 hB2'.size (fun k e => (hO2.lt e).1); have hR4 := (hRW.below hB3').tail k hk; simp only [Option.map_some, Addr.add_lit] at hR4) | (at_builtin; refine wpList_appL (base := W1.heap.size) (v := .slice a3 (k + 1) c3) (q := P ++ [x]) rfl (.tmp 45) (.tmp 48) rfl rfl hO3 rfl hR4 (by simp; omega) hB3'.size ?_; intro a5 c5 w5 hO5 hg5 _; have hB5' := hB3'.grown hg5 hB3'.size (fun k e => by have := (hO3.lt e).1; omega)))
            have e9 : k + 1 + (i - k) = i + 1 := by omega
            refine ⟨⟨i + 1, insL q x, a5, c5, by omega, by go_num, by rw [e9], hst.out.symm, ?_, Bt hBW hB5'⟩, by simp [intOf]; omega⟩
            rw [HINS.out]
            have h5 := hO5.rd
            rw [show (P ++ [x]).length + (i - k) = i + 1 by simp; omega] at h5
            exact h5
        · obtain rfl : k = i := by omega
          have hki' : ¬ (k : Int) < k := by omega
          have HE := Lib.hid (insAt_end (p := x.path) (out := q) (fun j hj => hless j (by rw [← hql.out]; exact hj)))
          have HINS := Lib.hid (show insL q x = q ++ [x] by rw [insL, HE.out, List.take_of_length_le (Nat.le_refl _), List.drop_of_length_le (Nat.le_refl _), List.append_nil])
          clear hless HE
          go_wp2_with fail
          go_quiet (fail)
          have hHeld : Below wo.heap.size wo (wr.drewN nq) := ⟨hB1.os, hB1.tape, hB1.output, hB1.size, hB1.block⟩
          generalize wr.drewN nq = W1 at *
          have hBW := Bt hB0 hHeld
          have hRW := hR0.below hHeld
          have hgx2 := rangeAt_below hBW hgx.out
          have hkc : k ≤ co := hRW.cap
          have hsW := hBW.size
          have hPl := hql.out
          by_cases hck : co = k
          case' pos =>
            subst hck
            go_wp2_with (first | (at_builtin; refine wpList_appL (base := W1.heap.size) (v := .slice none 0 0) (q := []) rfl (.tmp 33) (.tmp 36) rfl rfl (OwnL.nil0 _ _) rfl hRW (by simp; omega) (Nat.le_refl _) ?_; intro a1 c1 w1 hO1 hg1 _; rw [List.nil_append, show ([] : List Lf).length + co = co from Nat.zero_add co] at hO1; have hB1' := (Below.refl _ W1).grown hg1 (Nat.le_refl _) (fun k e => by cases e); have hgx3 := rangeAt_below (Bt hBW hB1') hgx.out; have hO2 := hO1.below ((Below.refl _ w1).alloc (Nat.le_refl _) (.cells (lc x).toArray 50)); have hB2' := hB1'.alloc hB1'.size (.cells (lc x).toArray 50)) | ((with_reducible refine wpList_loadM (o := ⟨some 42, _, _, _, _, _⟩) ?_ bb (off + co * 64) 50 (.tmp 41) ?_ ?_ hgx3 Tryz.underlying50 ?_ H7.out ?_); rfl; rfl; rfl; rfl) | ((with_reducible refine wpList_oneL (o := ⟨some 43, _, _, _, _, _⟩) ?_ (.tmp 42) ?_ (y := x) ?_ hxo ?_); rfl; rfl; rfl) | (at_builtin; refine wpList_appL (base := W1.heap.size) (v := .slice a1 co c1) (q := q) rfl (.tmp 38) (.tmp 43) rfl rfl hO2 rfl (RdL.one w1 hxo) (by omega) hB2'.size ?_; intro a3 c3 w3 hO3 hg3 _; rw [hPl] at hO3; have hB3' := hB2'.grown hg3 hB2'.size (fun k e => (hO2.lt e).1); have hR4 := RdL.none0 w3 ao) | (at_builtin; refine wpList_appL (base := W1.heap.size) (v := .slice a3 (co + 1) c3) (q := q ++ [x]) rfl (.tmp 45) (.tmp 48) rfl rfl hO3 rfl hR4 (by simp; omega) hB3'.size ?_; intro a5 c5 w5 hO5 hg5 _; have hB5' := hB3'.grown hg5 hB3'.size (fun k e => by have := (hO3.lt e).1; omega)))
            refine ⟨⟨co + 1, insL q x, a5, c5, by omega, by go_num, rfl, hst.out.symm, ?_, Bt hBW hB5'⟩, by simp [intOf]; omega⟩
            rw [HINS.out]
            have h5 := hO5.rd
            rw [List.append_nil, show (q ++ [x]).length + 0 = co + 1 by simp; omega] at h5
            exact h5
          case' neg =>
            cases ao with
            | none => exact absurd (hRW.nil rfl) (by omega)
            | some ad =>
            have hRT := hRW.take k (Nat.le_refl _)
            rw [List.take_of_length_le (by omega)] at hRT
            go_wp2_with (first | (at_builtin; refine wpList_appL (base := W1.heap.size) (v := .slice none 0 0) (q := []) rfl (.tmp 33) (.tmp 36) rfl rfl (OwnL.nil0 _ _) rfl hRT (by simp; omega) (Nat.le_refl _) ?_; intro a1 c1 w1 hO1 hg1 _; rw [List.nil_append, show ([] : List Lf).length + k = k from Nat.zero_add k] at hO1; have hB1' := (Below.refl _ W1).grown hg1 (Nat.le_refl _) (fun k e => by cases e); have hgx3 := rangeAt_below (Bt hBW hB1') hgx.out; have hO2 := hO1.below ((Below.refl _ w1).alloc (Nat.le_refl _) (.cells (lc x).toArray 50)); have hB2' := hB1'.alloc hB1'.size (.cells (lc x).toArray 50)) | ((with_reducible refine wpList_loadM (o := ⟨some 42, _, _, _, _, _⟩) ?_ bb (off + k * 64) 50 (.tmp 41) ?_ ?_ hgx3 Tryz.underlying50 ?_ H7.out ?_); rfl; rfl; rfl; rfl) | ((with_reducible refine wpList_oneL (o := ⟨some 43, _, _, _, _, _⟩) ?_ (.tmp 42) ?_ (y := x) ?_ hxo ?_); rfl; rfl; rfl) | (at_builtin; refine wpList_appL (base := W1.heap.size) (v := .slice a1 k c1) (q := q) rfl (.tmp 38) (.tmp 43) rfl rfl hO2 rfl (RdL.one w1 hxo) (by omega) hB2'.size ?_; intro a3 c3 w3 hO3 hg3 _; rw [hPl] at hO3; have hB3' := hB2'.grown hg3 hB2'.size (fun k e => (hO2.lt e).1); have hR4 := fun A : Addr => RdL.none0 w3 (some A) (co - k) (fun e => by cases e) (by have := hRW.max; omega)) | (at_builtin; refine wpList_appL (base := W1.heap.size) (v := .slice a3 (k + 1) c3) (q := q ++ [x]) rfl (.tmp 45) (.tmp 48) rfl rfl hO3 rfl (hR4 _) (by simp; omega) hB3'.size ?_; intro a5 c5 w5 hO5 hg5 _; have hB5' := hB3'.grown hg5 hB3'.size (fun k e => by have := (hO3.lt e).1; omega)))
            refine ⟨⟨k + 1, insL q x, a5, c5, by omega, by go_num, rfl, hst.out.symm, ?_, Bt hBW hB5'⟩, by simp [intOf]; omega⟩
            rw [HINS.out]
            have h5 := hO5.rd
            rw [List.append_nil, show (q ++ [x]).length + 0 = k + 1 by simp; omega] at h5
            exact h5
    · obtain rfl : i = n := by omega
      have hlt' : ¬ (i : Int) < i := by omega
      rw [List.take_of_length_le (by rw [hl.out]; exact Nat.le_refl _)] at hq
      subst hq
      generalize hqe : sortedL l = q at *
      go_wp2_with fail
      go_ret
      exact ⟨ao, co, rfl, hR, hB⟩
end Go.Proofs.YtmfnpjfhijmboaaGreatDoor
