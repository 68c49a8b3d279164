/-
  Con05A Con05B Node0 Con05T Con05, in one text.
-/
import Derived.Test.YtgbhfpkngjlfkaaDoorRef05B
import Derived.Test.YtgbhfpkngjlfkaaDoorShaF
import Derived.Test.YtgbhfpkngjlfkaaDoorLibP
import Derived.Lib.SliceRun
import Derived.Lib.AppendZerosOnto
import Derived.Tactics2
import Derived.Defers
import Derived.Laws.Pointers
import Derived.Laws.LoneSync
import Derived.RegionTactic
import Derived.RegionCalls
import Derived.Test.YtgbhfpkngjlfkaaDoorSmt1
import Derived.Test.YtgbhfpkngjlfkaaDoorLibO
import Derived.Test.YtgbhfpkngjlfkaaDoorCon04A
import Derived.Test.YtgbhfpkngjlfkaaDoorLibE
import Derived.Test.YtgbhfpkngjlfkaaDoorCon05S
namespace Go.Proofs.YtgbhfpkngjlfkaaDoor
/-! Con05A Con05N, in one text. -/
section
/-! The walks of package smt: isWidth, Short, tagged, Empty; of the library: Grow and Concat at bytes. -/
section
open Go.RowKit

set_option maxRecDepth 100000 in
theorem swidth_any (w : World) (x : Int) :
    Calls Tryd.prog 29 #[.int .i64 x] w fun e w' => e = .returned (.bool (decide (0 ≤ x) && decide (x ≤ 32))) ∧ w = w' := by
  by_cases h0 : 0 ≤ x
  · go_enter Tryd.func29, Tryd.ntmps29
    go_wp2_with fail
    go_ret
    exact ⟨by simp [h0], rfl⟩
  · go_enter Tryd.func29, Tryd.ntmps29
    go_wp2_with fail
    go_ret
    exact ⟨by simp; omega, rfl⟩

set_option maxRecDepth 100000 in
theorem sgrow_any (w : World) (n : Nat) (hn : n ≤ 1000000) :
    Calls Tryd.prog 87 #[.slice none 0 0, .int .i64 (n : Int)] w fun e w' => ∃ a c, e = .returned (.slice a 0 c) ∧ Own w' w.heap.size (.slice a 0 c) [] ∧ Below w.heap.size w w' := by
  have h1 : ¬ ((n : Int) < 0) := by omega
  by_cases h0 : n = 0
  · subst h0
    go_enter Tryd.func87, Tryd.ntmps87
    go_wp2_with fail
    go_ret
    exact ⟨none, 0, rfl, Own.nil0 _ _, Below.refl _ _⟩
  · have h2 : (0 : Int) < (n : Int) := by omega
    have hb1 : Tryd.t5.bytes = 1 := by kernel_rfl
    have q2 : ¬ 281474976710656 < Builtin.nextslicecap n 0 := by
      have := growslice_fits (old := 0) (need := n) (bytes := 1) (by omega) (by omega)
      omega
    have hG1 := grownCap_ge w n 0 5
    have hG2 := grownCap_le_maxLen w n 0 5 (by unfold maxLen; omega)
    have hO : Own (w.alloc (.cells (Builtin.zeroCells #[Value.int .u8 0] n ++ Builtin.zeroCells #[Value.int .u8 0] (grownCap w n 0 5 - n)) 5)).drew w.heap.size (.slice (some ⟨w.heap.size, 0, none⟩) 0 (grownCap w n 0 5)) [] :=
      ⟨rfl, .inr ⟨w.heap.size, grownCap w n 0 5, _, rfl, Nat.le_refl _, World.alloc_heap_new w _, Nat.zero_le _, hG2, by simp [Builtin.zeroCells]; omega, by simp [bs]⟩⟩
    have hB : Below w.heap.size w (w.alloc (.cells (Builtin.zeroCells #[Value.int .u8 0] n ++ Builtin.zeroCells #[Value.int .u8 0] (grownCap w n 0 5 - n)) 5)).drew := ((Below.refl _ w).alloc (Nat.le_refl _) _).drew
    have HO := Lib.hid (And.intro hO hB)
    clear hO hB hG1 hG2
    go_enter Tryd.func87, Tryd.ntmps87
    go_wp2_with fail
    go_ret
    exact ⟨_, _, rfl, HO.out.1, HO.out.2⟩

theorem flat_take (ps : List (List UInt8)) (k : Nat) (h : k < ps.length) : (ps.take (k + 1)).flatten = (ps.take k).flatten ++ ps.getD k [] := by
  have e : ps.getD k [] = ps[k] := by simp [List.getD, h]
  rw [e, List.take_succ_eq_append_getElem h, List.flatten_append]
  simp only [List.flatten_cons, List.flatten_nil, List.append_nil]
theorem flat_le (ps : List (List UInt8)) (k : Nat) : (ps.take k).flatten.length ≤ ps.flatten.length := by
  conv => rhs; rw [← List.take_append_drop k ps]
  rw [List.flatten_append, List.length_append]
  omega

set_option maxRecDepth 100000 in
set_option maxHeartbeats 1000000 in
theorem concat_any (w : World) (a : Option Addr) (n c : Nat) (ps : List (List UInt8)) (hp : RdP w a n c ps) (hn : n ≤ 1000) (L : List UInt8) (M : Nat) (hL : ps.flatten = L) (hM : L.length = M) (hs : M ≤ 1000000) :
    Calls Tryd.prog 66 #[.slice a n c] w fun e w' => ∃ a' c', e = .returned (.slice a' M c') ∧ Rd w' a' M c' L ∧ Below w.heap.size w w' := by
  have hl := Lib.hid hp.len
  have FL : ∀ k, (ps.take k).flatten.length ≤ M := fun k => by rw [← hM, ← hL]; exact flat_le ps k
  have HL := Lib.hid hL
  have HM0 := Lib.hid hM
  clear hL hM
  have HS := Lib.hid hs
  clear hs
  go_enter Tryd.func66, Tryd.ntmps66
  go_wp2_with fail
  go_loopw [3, 5, 11] (fun s _ i wr => ∃ (k m : Nat), k ≤ n ∧ i = .int .i64 k ∧ s = .int .i64 m ∧ m = (ps.take k).flatten.length ∧ w = wr) (fun _ _ i _ => n - (intOf i).toNat)
  case atStart => exact ⟨0, 0, by omega, rfl, rfl, by simp, rfl⟩
  case round =>
    obtain ⟨k, m, hk, rfl, rfl, hm, rfl⟩ := hrel
    have HM := Lib.hid hm
    clear hm
    have hm1 := FL k
    rw [← HM.out] at hm1
    have hm2 : m ≤ 1000000 := Nat.le_trans hm1 HS.out
    by_cases hlt : k < n
    · obtain ⟨b, off, ai, ni, ci, rfl, hc, hrd⟩ := hp.at hlt
      have hkn : (k : Int) < n := by omega
      have hf := flat_take ps k (by rw [hl.out]; exact hlt)
      have hlen := hrd.len
      have hm3 : m + ni ≤ 1000000 := by
        have := FL (k + 1)
        rw [hf, List.length_append, ← HM.out, hlen] at this
        exact Nat.le_trans this HS.out
      have hm4 : ¬ ((m : Int) + (ni : Int) < 0) := by omega
      have HF := Lib.hid hf
      have HLEN := Lib.hid hlen
      clear hf hlen hm1
      go_wp2_with fail
      go_roundw
      case rel => exact ⟨k + 1, m + ni, by omega, by go_num, by go_num, by rw [HF.out, List.length_append, ← HM.out, HLEN.out], by first | rfl | trivial⟩
      case measure => simp [intOf]; omega
    · obtain rfl : k = n := by omega
      have hkn : ¬ (k : Int) < k := by omega
      go_wp2_with fail
      refine (sgrow_any _ m hm2).mono ?_
      rintro e w1 ⟨a1, c1, rfl, hO1, hB1⟩
      go_wp2_with fail
      go_loopw [6, 8, 27] (fun v _ i wr => ∃ (j : Nat) (aj : Option Addr) (mj cj : Nat) (q : List UInt8), j ≤ k ∧ i = .int .i64 j ∧ v = .slice aj mj cj ∧ Hid (q = (ps.take j).flatten ∧ mj = q.length) ∧ Own wr w.heap.size (.slice aj mj cj) q ∧ Below w.heap.size w wr) (fun _ _ i _ => k - (intOf i).toNat)
      case atStart => exact ⟨0, a1, 0, c1, [], by omega, rfl, rfl, Lib.hid ⟨by simp, rfl⟩, hO1, hB1⟩
      case round =>
        obtain ⟨j, aj, mj, cj, q, hj, rfl, rfl, HQ, hO, hB⟩ := hrel
        obtain ⟨hq1, hq2⟩ := HQ.out
        have hq3 : mj ≤ 1000000 := by
          rw [hq2, hq1]
          exact Nat.le_trans (FL j) HS.out
        by_cases hlt2 : j < k
        · obtain ⟨b, off, ai, ni, ci, rfl, hc, hrd⟩ := hp.at hlt2
          have hjn : (j : Int) < k := by omega
          have hc' := cell_later hB hc
          have hrd' := hrd.below hB
          have hf := flat_take ps j (by rw [hl.out]; exact hlt2)
          have hlen := hrd.len
          have hm3 : q.length + ni ≤ 1000000 := by
            have := FL (j + 1)
            rw [hf, List.length_append, ← hq1, hlen] at this
            exact Nat.le_trans this HS.out
          have hsz := hB.size
          have HF := Lib.hid hf
          have HQ1 := Lib.hid hq1
          have HLEN := Lib.hid hlen
          subst hq2
          clear hf hq1 hlen hq3 HQ hm1
          generalize ps.getD j [] = l at *
          go_wp2_with (at_builtin; refine wpList_app (base := w.heap.size) rfl (.tmp 31) (.tmp 32) rfl rfl hO rfl hrd' (by omega) hsz ?_; intro a2 c2 w2 hO2 hg2)
          go_roundw
          case rel =>
            exact ⟨j + 1, a2, _, c2, q ++ l, by omega, by go_num, rfl, Lib.hid ⟨by rw [HF.out, ← HQ1.out], by rw [List.length_append, HLEN.out]⟩, hO2, hB.grown hg2 hsz (fun x e => (World.ownsRow.lt hO x e).1)⟩
          case measure => simp [intOf]; omega
        · obtain rfl : j = k := by omega
          have hjn : ¬ (j : Int) < j := by omega
          have he : q = L := by rw [hq1, List.take_of_length_le (by rw [hl.out]; omega), HL.out]
          obtain rfl : mj = M := by rw [hq2, he, HM0.out]
          subst he
          clear HQ hq1 hq2 hm1 HM
          go_wp2_with fail
          go_ret
          exact ⟨aj, cj, rfl, hO.rd, hB⟩

theorem shAt_splice (D : List UInt8) (hD : D.length = 32) (x : Nat) (hx : x ≤ 32) : splice (bs D) x (List.replicate (32 - x) (Value.int .u8 0)) = bs (shAt D x) := by
  have e : List.replicate (32 - x) (Value.int .u8 0) = bs (List.replicate (32 - x) 0) := by simp [bs]
  have e2 : bs D = bs (D.take x) ++ bs (D.drop x) := by rw [← bs_append, List.take_append_drop]
  have h := splice_app (bs (D.take x)) (bs (D.drop x)) (bs (List.replicate (32 - x) 0))
  rw [bs_length, List.length_take, Nat.min_eq_left (by omega)] at h
  rw [e, e2, h, List.drop_eq_nil_of_le (by simp [bs_length]; omega), List.append_nil, ← bs_append]
  rfl
theorem zeroU8 (w : World) : (zeroValue 5).run Tryd.prog w = .ok (.int .u8 0) w := by
  obtain ⟨i, hi, hz0, hz1, hz2⟩ := info_parts info5
  simp [zeroValue, typeInfo, hi, hz0]
/-- what clear makes of a digest's variable -/
theorem clearD (w : World) (g : Nat) (t : TypeId) (D : List UInt8) (hD : D.length = 32) (hB : Blk w g t (bs D)) (x : Nat) (hx : x < 32) (ty : TypeId) (c : Nat) :
    (Builtin.clear_ #[35] ty #[.slice (some ⟨g, x, none⟩) (32 - x) c]).run Tryd.prog w = .ok (.tuple #[]) (w.setCells g x (List.replicate (32 - x) (.int .u8 0))) :=
  Lib.run_clear_slice w 35 5 ty (.int .u8 0) Tryd.underlying35 zeroU8 rfl rfl g x (32 - x) c (by omega)
    (fun j hj => by rw [hB.cell (bs_at D (x + j) (by omega))]; rfl) (fun j _ => hB.free (x + j))

theorem clearNo (w : World) (ad : Addr) (c : Nat) (ty : TypeId) : (Builtin.clear_ #[35] ty #[.slice (some ad) 0 c]).run Tryd.prog w = .ok (.tuple #[]) w := by
  simp [Builtin.clear_, run_underlying Tryd.underlying35]
/-- clear(s), by what it makes of the world -/
theorem wpList_clearD {w : World} {ops : Array Oper} {rest : List Oper} {o : Oper} {a : Act} {Q : Exit → Act → World → Prop} (hgd : o.guard = none) (x : Operand)
    (ho : o.op = Op.call { callee := Callee.builtin Builtin.clear, args := #[x], argTypes := #[35] }) {v : Value} (hx : a.eval x = v) {w1 : World} (hrun : ∀ ty, (Builtin.clear_ #[35] ty #[v]).run Tryd.prog w = .ok (.tuple #[]) w1)
    (h : ∀ w', w' = w1 → wpList Tryd.prog ops Q rest (a.put o.dst (.tuple #[])) w') : wpList Tryd.prog ops Q (o :: rest) a w := by
  have h' := h w1 rfl
  refine wpList_plain hgd fun K hK' => ?_
  unfold Oper.wp
  simp [execOp, ho, resolve, invoke, builtin, hx, hrun, Result.andThen]
  exact hK' _ _ h'

set_option maxRecDepth 100000 in
set_option maxHeartbeats 1000000 in
theorem sshort_no (w : World) (x : Int) (a : Option Addr) (n c : Nat) (hx : x < 0 ∨ 32 < x) :
    Calls Tryd.prog 15 #[.int .i64 x, .slice a n c] w fun e w' => e = .returned (.tuple #[.agg (bs zero32).toArray, .int .i64 1]) ∧ Below w.heap.size w w' := by
  have hd : (decide (0 ≤ x) && decide (x ≤ 32)) = false := by simp; omega
  have H5 := Lib.hid (show (Tryd.prog.info? 23).map (·.size) = some (bs zero32).length by rw [info_digest, bs_length, zero32_length])
  have H7 := bs_one zero32
  go_enter Tryd.func15, Tryd.ntmps15
  go_wp2_with ((with_reducible refine wpList_allocB (o := ⟨some 4, _, _, _, _, _⟩) ?_ 23 ?_ zeroD_info ?_); rfl; rfl; intro w0 hr0 hg0 hz0)
  refine (swidth_any w0 x).mono ?_
  rintro e w2 ⟨rfl, rfl⟩
  rw [hd]
  go_wp2_with (first | ((with_reducible refine wpList_buildI (dst := some 10) built0 ?_ ?_); rfl) | ((with_reducible refine wpList_storeB (o := ⟨none, .store 23 (.tmp 4) (.tmp 10), _, _, _, _⟩) ?_ 23 (.tmp 4) (.tmp 10) ?_ ?_ ?_ hr0 H5.out rfl H7 ?_); rfl; rfl; rfl; rfl; intro w8 hb8 hg8 hz8))
  try simp only [Exit.inBlock, Exit.then]
  refine bodyPost_ret (results_digest2 rfl _ _ _ _ _ zero32_length rfl hb8.at_) rfl ⟨rfl, ?_⟩
  exact ((Below.refl _ w).grown hg0 (Nat.le_refl _) (fun k e => by cases e)).grown hg8 (by omega) (fun k e => by cases e; omega)

set_option maxRecDepth 100000 in
set_option maxHeartbeats 1000000 in
theorem sshort_in (w : World) (x : Nat) (hx : x ≤ 32) (a : Option Addr) (n c : Nat) (l : List UInt8) (hr : Rd w a n c l) (hT : Tab w 1) (hn : n ≤ 1000000) :
    Calls Tryd.prog 15 #[.int .i64 (x : Int), .slice a n c] w fun e w' => e = .returned (.tuple #[.agg (bs (shortB x l)).toArray, .int .i64 0]) ∧ Below w.heap.size w w' := by
  have hd : (decide (0 ≤ (x : Int)) && decide ((x : Int) ≤ 32)) = true := by simp; omega
  have hD := sha_length l
  have hSB := Lib.hid (show shortB x l = shAt (sha l) x from rfl)
  have HSUM := Lib.hid (fun (W : World) (h1 : Rd W a n c l) (h2 : Tab W 1) => sum_any W a n c l h1 h2 (by omega))
  generalize sha l = D at *
  have H1 := Lib.hid (show (Tryd.prog.info? 23).map (·.size) = some (bs D).length by rw [info_digest, bs_length, hD])
  have H2 := Lib.hid (show (bs zero32).length = (bs D).length by rw [bs_length, bs_length, zero32_length, hD])
  have H3 := bs_one D
  have hl := shAt_length D x hD hx
  have H4 := Lib.hid (show (Tryd.prog.info? 23).map (·.size) = some (bs (shAt D x)).length by rw [info_digest, bs_length, hl])
  have H5 := Lib.hid (show (bs zero32).length = (bs (shAt D x)).length by rw [bs_length, bs_length, zero32_length, hl])
  have H6 := bs_one (shAt D x)
  have CL := Lib.hid (fun (W : World) (g : Nat) (hB : Blk W g 23 (bs D)) (hx : x < 32) => clearD W g 23 D hD hB x hx)
  have SP := Lib.hid (shAt_splice D hD x hx)
  have SL := fun (W : World) (g : Nat) (h : x < 32) => sliceDl W g x (x : Int) rfl h
  have hDl := Lib.hid hD
  clear hD
  go_enter Tryd.func15, Tryd.ntmps15
  go_wp2_with ((with_reducible refine wpList_allocB (o := ⟨some 4, _, _, _, _, _⟩) ?_ 23 ?_ zeroD_info ?_); rfl; rfl; intro w0 hr0 hg0 hz0; have hB0 := (Below.refl _ w).grown hg0 (Nat.le_refl _) (fun k e => by cases e))
  refine (swidth_any w0 x).mono ?_
  rintro e w2 ⟨rfl, rfl⟩
  rw [hd]
  go_wp2_with fail
  refine (HSUM.out w0 (hr.below hB0) (hT.below hB0)).mono ?_
  rintro e w3 ⟨rfl, hB3⟩
  have hs3 := hB3.size
  have hr03 := hr0.below hB3
  have hBB := Bt hB0 hB3
  by_cases h32 : x < 32
  · have SLx := fun (W : World) (g : Nat) => SL W g h32
    have MK := Lib.hid (fun (w4 w5 w6 : World) (hg4 : w3.grownBy w4 none) (hr5 : Blk w5 w3.heap.size 23 (bs D)) (hg5 : w4.grownBy w5 (some w3.heap.size)) (e : w6 = w5.setCells w3.heap.size x (List.replicate (32 - x) (.int .u8 0))) =>
      (show Blk w6 w3.heap.size 23 (bs (shAt D x)) ∧ Blk w6 w.heap.size 23 (bs zero32) ∧ Below w.heap.size w w6 from by
        subst e
        have hg6 := setCells_grown w3.heap.size (List.replicate (32 - x) (Value.int .u8 0)) x w5
        refine ⟨?_, ((hr03.grown hg4 (by simp)).grown hg5 (by simp; omega)).grown hg6 (by simp; omega), ((hBB.grown hg4 (by omega) (fun k e => by cases e)).grown hg5 (by have := hg4.size; omega) (fun k e => by cases e; omega)).grown hg6 (by have := hg4.size; have := hg5.size; omega) (fun k e => by cases e; omega)⟩
        rw [← SP.out]; exact Blk.sets _ _ _ hr5 (by rw [List.length_replicate, bs_length, hDl.out]; omega)))
    generalize hqe : shAt D x = q at *
    have HQE := Lib.hid hqe
    clear hqe SP SL
    go_wp2_with (first | ((with_reducible refine wpList_allocB (o := ⟨some 6, _, _, _, _, _⟩) ?_ 23 ?_ zeroD_info ?_); rfl; rfl; intro w4 hr4 hg4 hz4) | ((with_reducible refine wpList_storeB (o := ⟨none, .store 23 (.tmp 6) (.tmp 12), _, _, _, _⟩) ?_ 23 (.tmp 6) (.tmp 12) ?_ ?_ ?_ hr4 H1.out H2.out H3 ?_); rfl; rfl; rfl; rfl; intro w5 hr5 hg5 hz5) | ((refine wpList_clearD (o := ⟨none, .call { callee := .builtin .clear, args := #[.tmp 14], argTypes := #[35] }, _, _, _, none⟩) rfl (.tmp 14) rfl rfl (fun ty => CL.out w5 _ hr5 h32 ty _) ?_); intro w6 e6; obtain ⟨hb6, hr06, hB6⟩ := MK.out w4 w5 w6 hg4 hr5 hg5 e6; clear e6) | ((with_reducible refine wpList_loadB (o := ⟨some 15, _, _, _, _, _⟩) ?_ 23 (.tmp 6) ?_ ?_ hb6 Tryd.underlying23 ?_ H4.out ?_); rfl; rfl; rfl; rfl) | ((with_reducible refine wpList_storeB (o := ⟨none, .store 23 (.tmp 4) (.tmp 15), _, _, _, _⟩) ?_ 23 (.tmp 4) (.tmp 15) ?_ ?_ ?_ hr06 H4.out H5.out H6 ?_); rfl; rfl; rfl; rfl; intro w8 hb8 hg8 hz8))
    try simp only [Exit.inBlock, Exit.then]
    refine bodyPost_ret (results_digest2 rfl _ _ _ _ _ hl rfl hb8.at_) rfl ⟨by rw [hSB.out]; rfl, ?_⟩
    exact hB6.grown hg8 hB6.size (fun k e => by cases e; exact Nat.le_refl _)
  · obtain rfl : x = 32 := by omega
    have hsh : shAt D 32 = D := by unfold shAt; rw [List.take_of_length_le (by rw [hDl.out]; decide)]; simp
    rw [hsh] at hSB
    have SLx := fun (W : World) (g : Nat) => sliceDe W g 32 rfl
    clear SL CL
    go_wp2_with (first | ((with_reducible refine wpList_allocB (o := ⟨some 6, _, _, _, _, _⟩) ?_ 23 ?_ zeroD_info ?_); rfl; rfl; intro w4 hr4 hg4 hz4) | ((with_reducible refine wpList_storeB (o := ⟨none, .store 23 (.tmp 6) (.tmp 12), _, _, _, _⟩) ?_ 23 (.tmp 6) (.tmp 12) ?_ ?_ ?_ hr4 H1.out H2.out H3 ?_); rfl; rfl; rfl; rfl; intro w5 hr5 hg5 hz5; have hr05 := (hr03.grown hg4 (by simp)).grown hg5 (by simp; omega)) | ((refine wpList_clearD (o := ⟨none, .call { callee := .builtin .clear, args := #[.tmp 14], argTypes := #[35] }, _, _, _, none⟩) rfl (.tmp 14) rfl rfl (fun ty => clearNo w5 _ _ ty) ?_); rintro w6 rfl) | ((with_reducible refine wpList_loadB (o := ⟨some 15, _, _, _, _, _⟩) ?_ 23 (.tmp 6) ?_ ?_ hr5 Tryd.underlying23 ?_ H1.out ?_); rfl; rfl; rfl; rfl) | ((with_reducible refine wpList_storeB (o := ⟨none, .store 23 (.tmp 4) (.tmp 15), _, _, _, _⟩) ?_ 23 (.tmp 4) (.tmp 15) ?_ ?_ ?_ hr05 H1.out H2.out H3 ?_); rfl; rfl; rfl; rfl; intro w8 hb8 hg8 hz8))
    try simp only [Exit.inBlock, Exit.then]
    refine bodyPost_ret (results_digest2 rfl _ _ _ _ _ hDl.out rfl hb8.at_) rfl ⟨by rw [hSB.out]; rfl, ?_⟩
    exact (((hBB.grown hg4 (by omega) (fun k e => by cases e)).grown hg5 (by omega) (fun k e => by cases e; omega))).grown hg8 (by omega) (fun k e => by cases e; omega)

theorem sshort_any (w : World) (x : Int) (a : Option Addr) (n c : Nat) (l : List UInt8) (hr : Rd w a n c l) (hT : Tab w 1) (hn : n ≤ 1000000) :
    Calls Tryd.prog 15 #[.int .i64 x, .slice a n c] w fun e w' => e = .returned (.tuple #[.agg (bs (shortI x l)).toArray, .int .i64 (errW x)]) ∧ Below w.heap.size w w' := by
  by_cases h : 0 ≤ x ∧ x ≤ 32
  · obtain ⟨k, rfl⟩ := Int.eq_ofNat_of_zero_le h.1
    rw [shortI_nat k (by omega), errW, if_pos h]
    exact sshort_in w k (by omega) a n c l hr hT hn
  · rw [shortI, if_neg h, errW, if_neg h]
    exact sshort_no w x a n c (by omega)

set_option maxRecDepth 100000 in
set_option maxHeartbeats 1000000 in
theorem tagged_any (w : World) (x : Int) (tg : Int) (tag : UInt8) (ht : tg = (tag.toNat : Int)) (a1 : Option Addr) (n1 c1 : Nat) (l1 : List UInt8) (h1 : Rd w a1 n1 c1 l1) (a2 : Option Addr) (n2 c2 : Nat) (l2 : List UInt8) (h2 : Rd w a2 n2 c2 l2)
    (hT : Tab w 1) (hn1 : n1 ≤ 1000) (hn2 : n2 ≤ 1000) :
    Calls Tryd.prog 42 #[.int .i64 x, .int .u8 tg, .slice a1 n1 c1, .slice a2 n2 c2] w fun e w' => e = .returned (.agg (bs (shortI x ([tag] ++ l1 ++ l2))).toArray) ∧ Below w.heap.size w w' := by
  subst ht
  have hl := shortI_length x ([tag] ++ l1 ++ l2)
  have hln : ([[tag], l1, l2] : List (List UInt8)).flatten = [tag] ++ l1 ++ l2 := by simp
  have hll : ([[tag], l1, l2] : List (List UInt8)).flatten.length = 1 + n1 + n2 := by rw [hln, List.length_append, List.length_append, h1.len, h2.len]; rfl
  have HS := Lib.hid (fun (W : World) (a : Option Addr) (c : Nat) (r : Rd W a (1 + n1 + n2) c ([tag] ++ l1 ++ l2)) (t : Tab W 1) => sshort_any W x a _ c _ r t (by omega))
  have HC := Lib.hid (fun (W : World) (g : Nat) (r : RdP W (some ⟨g, 0, none⟩) 3 3 [[tag], l1, l2]) => concat_any W _ 3 3 _ r (by decide) ([tag] ++ l1 ++ l2) (1 + n1 + n2) hln (by rw [← hln]; exact hll) (by omega))
  generalize shortI x ([tag] ++ l1 ++ l2) = q at *
  generalize [tag] ++ l1 ++ l2 = L at *
  have H1 := Lib.hid (show (Tryd.prog.info? 23).map (·.size) = some (bs q).length by rw [info_digest, bs_length, hl])
  have H2 := Lib.hid (show (bs zero32).length = (bs q).length by rw [bs_length, bs_length, zero32_length, hl])
  have H3 := bs_one q
  clear hln hll
  go_enter Tryd.func42, Tryd.ntmps42
  go_wp2_with ((with_reducible refine wpList_allocB (o := ⟨some 8, _, _, _, _, _⟩) ?_ 23 ?_ zeroD_info ?_); rfl; rfl; intro w0 hr0 hg0 hz0)
  have hB0 := (Below.refl _ w).grown hg0 (Nat.le_refl _) (fun k e => by cases e)
  have hB1 := (hB0.alloc hB0.size (.cells #[.int .u8 ((tag.toNat : Nat) : Int)] 5)).alloc (by simp; omega) (.cells #[Value.slice (some ⟨w.heap.size + 1, 0, none⟩) 1 1, .slice a1 n1 c1, .slice a2 n2 c2] 35)
  have hr1 := (hr0.alloc (.cells #[.int .u8 ((tag.toNat : Nat) : Int)] 5)).alloc (.cells #[Value.slice (some ⟨w.heap.size + 1, 0, none⟩) 1 1, .slice a1 n1 c1, .slice a2 n2 c2] 35)
  have hP : RdP ((w0.alloc (.cells #[.int .u8 ((tag.toNat : Nat) : Int)] 5)).alloc (.cells #[Value.slice (some ⟨w.heap.size + 1, 0, none⟩) 1 1, .slice a1 n1 c1, .slice a2 n2 c2] 35)) (some ⟨w.heap.size + 1 + 1, 0, none⟩) 3 3 [[tag], l1, l2] := by
    have q0 := (Rd.lit w0 [tag] 1 rfl (by decide))
    rw [hz0] at q0
    have hn := World.news_of_block (World.alloc_heap_new (w0.alloc (.cells #[.int .u8 ((tag.toNat : Nat) : Int)] 5)) (.cells #[Value.slice (some ⟨w.heap.size + 1, 0, none⟩) 1 1, .slice a1 n1 c1, .slice a2 n2 c2] 35))
    rw [show (w0.alloc (.cells #[.int .u8 ((tag.toNat : Nat) : Int)] 5)).heap.size = w.heap.size + 1 + 1 by simp; omega] at hn
    refine ⟨rfl, Nat.le_refl _, by decide, (fun e => by cases e), fun ad e j hj => ?_⟩
    cases e
    have : j = 0 ∨ j = 1 ∨ j = 2 := by omega
    rcases this with rfl | rfl | rfl
    · exact ⟨_, _, _, hn 0 _ rfl, q0.below ((Below.refl _ _).alloc (Nat.le_refl _) _)⟩
    · exact ⟨_, _, _, hn 1 _ rfl, h1.below hB1⟩
    · exact ⟨_, _, _, hn 2 _ rfl, h2.below hB1⟩
  generalize (w0.alloc _).alloc _ = w1 at *
  refine (HC.out _ _ hP).mono ?_
  rintro e w2 ⟨a3, c3, rfl, hR2, hB2⟩
  have hBb := Bt hB1 hB2
  go_wp2_with fail
  refine (HS.out _ _ _ hR2 (hT.below hBb)).mono ?_
  rintro e w3 ⟨rfl, hB3⟩
  have hr3 := (hr1.below hB2).below hB3
  have hBc := Bt hBb hB3
  have hl3 := hr3.lt
  go_wp2_with (first | ((with_reducible refine wpList_allocB (o := ⟨some 9, _, _, _, _, _⟩) ?_ 23 ?_ zeroD_info ?_); rfl; rfl; intro w4 hr4 hg4 hz4) | ((with_reducible refine wpList_storeB (o := ⟨none, .store 23 (.tmp 9) (.tmp 20), _, _, _, _⟩) ?_ 23 (.tmp 9) (.tmp 20) ?_ ?_ ?_ hr4 H1.out H2.out H3 ?_); rfl; rfl; rfl; rfl; intro w5 hr5 hg5 hz5; have hr35 := (hr3.grown hg4 (by simp)).grown hg5 (by simp; omega)) | ((with_reducible refine wpList_loadB (o := ⟨some 22, _, _, _, _, _⟩) ?_ 23 (.tmp 9) ?_ ?_ hr5 Tryd.underlying23 ?_ H1.out ?_); rfl; rfl; rfl; rfl) | ((with_reducible refine wpList_storeB (o := ⟨none, .store 23 (.tmp 8) (.tmp 22), _, _, _, _⟩) ?_ 23 (.tmp 8) (.tmp 22) ?_ ?_ ?_ hr35 H1.out H2.out H3 ?_); rfl; rfl; rfl; rfl; intro w6 hb6 hg6 hz6))
  try simp only [Exit.inBlock, Exit.then]
  refine bodyPost_blk hb6 Tryd.underlying23 H1.out rfl rfl rfl rfl ⟨rfl, ?_⟩
  have hsz := hBc.size
  exact ((hBc.grown hg4 (by omega) (fun k e => by cases e)).grown hg5 (by omega) (fun k e => by cases e; omega)).grown hg6 (by omega) (fun k e => by cases e; exact Nat.le_refl _)

set_option maxRecDepth 100000 in
theorem sempty_any (w : World) (x : Int) (hT : Tab w 1) :
    Calls Tryd.prog 22 #[.int .i64 x] w fun e w' => e = .returned (.agg (bs (shortI x [2])).toArray) ∧ Below w.heap.size w w' := by
  have hl := shortI_length x [2]
  have HS := Lib.hid (fun (W : World) (t : Tab W 1) => tagged_any W x 2 2 rfl none 0 0 [] (Rd.nil0 W) none 0 0 [] (Rd.nil0 W) t (by decide) (by decide))
  rw [show ([2] : List UInt8) ++ [] ++ [] = [2] from rfl] at HS
  generalize shortI x [2] = q at *
  have H1 := Lib.hid (show (Tryd.prog.info? 23).map (·.size) = some (bs q).length by rw [info_digest, bs_length, hl])
  have H2 := Lib.hid (show (bs zero32).length = (bs q).length by rw [bs_length, bs_length, zero32_length, hl])
  have H3 := bs_one q
  go_enter Tryd.func22, Tryd.ntmps22
  go_wp2_with ((with_reducible refine wpList_allocB (o := ⟨some 2, _, _, _, _, _⟩) ?_ 23 ?_ zeroD_info ?_); rfl; rfl; intro w0 hr0 hg0 hz0)
  have hB0 := (Below.refl _ w).grown hg0 (Nat.le_refl _) (fun k e => by cases e)
  refine (HS.out _ (hT.below hB0)).mono ?_
  rintro e w1 ⟨rfl, hB1⟩
  have hr1 := hr0.below hB1
  go_wp2_with ((with_reducible refine wpList_storeB (o := ⟨none, .store 23 (.tmp 2) (.tmp 4), _, _, _, _⟩) ?_ 23 (.tmp 2) (.tmp 4) ?_ ?_ ?_ hr1 H1.out H2.out H3 ?_); rfl; rfl; rfl; rfl; intro w6 hb6 hg6 hz6)
  try simp only [Exit.inBlock, Exit.then]
  refine bodyPost_blk hb6 Tryd.underlying23 H1.out rfl rfl rfl rfl ⟨rfl, ?_⟩
  exact (Bt hB0 hB1).grown hg6 (Bt hB0 hB1).size (fun k e => by cases e; exact Nat.le_refl _)
end
/-! The walks of package smt: Leaf and Node. (gen05C.py writes the regions that draw.) -/
section
open Go.RowKit

/-- what Leaf knows of a world: the leaf's variable, the result's -/
structure LeafAt (w W : World) (y : Lf) : Prop where
  leaf : Blk W w.heap.size 46 (lc y)
  res : ∃ d : List UInt8, d.length = 32 ∧ Blk W (w.heap.size + 1) 23 (bs d)
  bel : Below w.heap.size w W
theorem LeafAt.below {w W W' : World} {y : Lf} (h : LeafAt w W y) (hb : Below W.heap.size W W') : LeafAt w W' y := by
  obtain ⟨d, h1, h2⟩ := h.res
  exact ⟨h.leaf.below hb, ⟨d, h1, h2.below hb⟩, Bt h.bel hb⟩
theorem LeafAt.drew {w W : World} {y : Lf} (h : LeafAt w W y) : LeafAt w W.drew y := h.below ⟨rfl, rfl, rfl, Nat.le_refl _, fun _ _ => rfl⟩
theorem LeafAt.put {w W W' : World} {y : Lf} (h : LeafAt w W y) {q : List UInt8} (hl : q.length = 32) (hr : Blk W' (w.heap.size + 1) 23 (bs q)) (hg : W.grownBy W' (some (w.heap.size + 1))) : LeafAt w W' y :=
  ⟨h.leaf.grown hg (by simp), ⟨q, hl, hr⟩, h.bel.grown hg h.bel.size (fun k e => by cases e; omega)⟩

set_option maxRecDepth 100000 in
set_option maxHeartbeats 1000000 in
theorem sleaf_any (w : World) (x : Int) (y : Lf) (hy : y.ok) (hT : Tab w 1) :
    Calls Tryd.prog 37 #[.int .i64 x, .agg (lc y).toArray] w fun e w' => e = .returned (.agg (bs (shortI x ([0] ++ y.path ++ y.val))).toArray) ∧ Below w.heap.size w w' := by
  have hl := shortI_length x ([0] ++ y.path ++ y.val)
  have HS := Lib.hid (fun (W : World) (h : LeafAt w W y) => tagged_any W x 0 0 rfl (some ⟨w.heap.size, 0, none⟩) 32 32 y.path (Rd.part (range_path (h.leaf.range 0 (fun j hj => by simp))) hy.1 (by decide))
    (some ⟨w.heap.size, 32, none⟩) 32 32 y.val (by
      have h2 := range_val (o := 0) hy (h.leaf.range 0 (fun j hj => by simp))
      rw [Nat.zero_add] at h2
      exact Rd.part h2 hy.2 (by decide)) (hT.below h.bel) (by decide) (by decide))
  generalize shortI x ([0] ++ y.path ++ y.val) = q at *
  have H1 := Lib.hid (show (Tryd.prog.info? 23).map (·.size) = some (bs q).length by rw [info_digest, bs_length, hl])
  have H3 := bs_one q
  have hb0 := Blk.new w 46 (lc y)
  have hB0 : Below w.heap.size w (w.alloc (.cells (lc y).toArray 46)) := (Below.refl _ w).alloc (Nat.le_refl _) _
  have hz : (w.alloc (.cells (lc y).toArray 46)).heap.size = w.heap.size + 1 := by simp
  go_enter Tryd.func37, Tryd.ntmps37
  go_wp2_with ((with_reducible refine wpList_allocB (o := ⟨some 4, _, _, _, _, _⟩) ?_ 23 ?_ zeroD_info ?_); rfl; rfl; intro w0 hr0 hg0 hz0; rw [hz] at hr0)
  have hS : LeafAt w w0 y := ⟨hb0.grown hg0 (by simp), ⟨zero32, zero32_length, hr0⟩, hB0.grown hg0 hB0.size (fun k e => by cases e)⟩
  clear hr0 hg0 hz0 hb0 hB0 hz
  -- REGION Leaf 2
  refine wp_region_held_drew (S := fun W => LeafAt w W y) (by kernel_rfl) hS.drew (fun hHeld => ?_)
  refine wpAnyH_take (i := 0) (oi := ⟨some 5, .move (.tmp 0), _, _, _, none⟩) (v := ?_) rfl (by kernel_rfl) (by kernel_rfl) (by kernel_rfl) (fun _ _ _ h => h) (Or.inl ⟨by rfl, ?_⟩) hHeld ?_
  rotate_left
  · intro W _; go_simp; try with_reducible rfl
  try simp only [Act.put, List.setIfInBounds_toArray, List.set_cons_zero, List.set_cons_succ]
  refine wpAnyH_take (i := 1) (oi := ⟨some 6, .fieldAddr 46 (.tmp 3) 0, _, _, _, none⟩) (v := ?_) rfl (by kernel_rfl) (by kernel_rfl) (by kernel_rfl) (fun _ _ _ h => h) (Or.inl ⟨by rfl, ?_⟩) hHeld ?_
  rotate_left
  · intro W _; go_simp; try with_reducible rfl
  try simp only [Act.put, List.setIfInBounds_toArray, List.set_cons_zero, List.set_cons_succ]
  refine wpAnyH_take (i := 2) (oi := ⟨some 7, .slice 23 (.tmp 6) none none none, _, _, _, none⟩) (v := ?_) rfl (by kernel_rfl) (by kernel_rfl) (by kernel_rfl) (fun _ _ _ h => h) (Or.inl ⟨by rfl, ?_⟩) hHeld ?_
  rotate_left
  · intro W _; go_simp; try with_reducible rfl
  try simp only [Act.put, List.setIfInBounds_toArray, List.set_cons_zero, List.set_cons_succ]
  refine wpAnyH_take (i := 3) (oi := ⟨some 8, .fieldAddr 46 (.tmp 3) 1, _, _, _, none⟩) (v := ?_) rfl (by kernel_rfl) (by kernel_rfl) (by kernel_rfl) (fun _ _ _ h => h) (Or.inl ⟨by rfl, ?_⟩) hHeld ?_
  rotate_left
  · intro W _; go_simp; try with_reducible rfl
  try simp only [Act.put, List.setIfInBounds_toArray, List.set_cons_zero, List.set_cons_succ]
  refine wpAnyH_take (i := 4) (oi := ⟨some 9, .slice 23 (.tmp 8) none none none, _, _, _, none⟩) (v := ?_) rfl (by kernel_rfl) (by kernel_rfl) (by kernel_rfl) (fun _ _ _ h => h) (Or.inl ⟨by rfl, ?_⟩) hHeld ?_
  rotate_left
  · intro W _; go_simp; try with_reducible rfl
  try simp only [Act.put, List.setIfInBounds_toArray, List.set_cons_zero, List.set_cons_succ]
  refine wpAnyH_ready (rs := [5]) (by kernel_rfl) (by simp) ?_
  refine AllReadyH.cons (o := ⟨some 10, .call { callee := .value (.func 42), args := #[.tmp 5, .const (.int .u8 0), .tmp 7, .tmp 9], argTypes := #[3, 5, 35, 35] }, _, _, _, none⟩) rfl (fun K hK => ?_) AllReadyH.nil
  refine step_ofR (by rfl) ?_
  go_simp
  refine (HS.out _ hHeld).mono ?_
  rintro x W1 ⟨rfl, hb1⟩
  refine hK.out _ _ (hHeld.below hb1) (fun hHeld => ?_)
  clear hK K
  try simp only [Act.put, List.setIfInBounds_toArray, List.set_cons_zero, List.set_cons_succ]
  obtain ⟨ds, hds, hres⟩ := hHeld.res
  refine wpAnyH_ready (rs := [6]) (by kernel_rfl) (by simp) ?_
  refine AllReadyH.cons (o := ⟨none, .store 23 (.tmp 4) (.tmp 10), _, _, _, none⟩) rfl (fun K hK => ?_) AllReadyH.nil
  refine step_storeW (w.heap.size + 1) 23 (.tmp 4) (.tmp 10) (bs q) (bs ds) _ hres H1.out (by rw [bs_length, bs_length, hds, hl]) H3 rfl rfl rfl rfl ?_
  intro W2 hr2 hg2 hz2
  refine hK.out _ _ (hHeld.put hl hr2 hg2) (fun hHeld => ?_)
  clear hK K
  try simp only [Act.put]
  refine wpAnyH_done (by kernel_rfl) ?_ _
  -- END Leaf
  go_wp2_with fail
  try simp only [Exit.inBlock, Exit.then]
  refine bodyPost_blk hr2 Tryd.underlying23 H1.out rfl rfl rfl rfl ⟨rfl, ?_⟩
  exact hHeld.bel

/-- what Node knows of a world: two digests' variables, the result's -/
structure KnotAt (w W : World) (l r : List UInt8) : Prop where
  b0 : Blk W w.heap.size 23 (bs l)
  b1 : Blk W (w.heap.size + 1) 23 (bs r)
  res : ∃ d : List UInt8, d.length = 32 ∧ Blk W (w.heap.size + 1 + 1) 23 (bs d)
  bel : Below w.heap.size w W
theorem KnotAt.below {w W W' : World} {l r : List UInt8} (h : KnotAt w W l r) (hb : Below W.heap.size W W') : KnotAt w W' l r := by
  obtain ⟨d, h1, h2⟩ := h.res
  exact ⟨h.b0.below hb, h.b1.below hb, ⟨d, h1, h2.below hb⟩, Bt h.bel hb⟩
theorem KnotAt.drew {w W : World} {l r : List UInt8} (h : KnotAt w W l r) : KnotAt w W.drew l r := h.below ⟨rfl, rfl, rfl, Nat.le_refl _, fun _ _ => rfl⟩
theorem KnotAt.put {w W W' : World} {l r : List UInt8} (h : KnotAt w W l r) {q : List UInt8} (hl : q.length = 32) (hr : Blk W' (w.heap.size + 1 + 1) 23 (bs q)) (hg : W.grownBy W' (some (w.heap.size + 1 + 1))) : KnotAt w W' l r :=
  ⟨h.b0.grown hg (by simp; omega), h.b1.grown hg (by simp), ⟨q, hl, hr⟩, h.bel.grown hg h.bel.size (fun k e => by cases e; omega)⟩
theorem Rd.whole {W : World} {g : Nat} {t : TypeId} {l : List UInt8} (h : Blk W g t (bs l)) (hl : l.length = 32) : Rd W (some ⟨g, 0, none⟩) 32 32 l := Rd.part (h.range 0 (fun j hj => by simp)) hl (by decide)

set_option maxRecDepth 100000 in
set_option maxHeartbeats 1000000 in
theorem snode_any (w : World) (x : Int) (l r : List UInt8) (hll : l.length = 32) (hrl : r.length = 32) (hT : Tab w 1) :
    Calls Tryd.prog 85 #[.int .i64 x, .agg (bs l).toArray, .agg (bs r).toArray] w fun e w' => e = .returned (.agg (bs (shortI x ([1] ++ l ++ r))).toArray) ∧ Below w.heap.size w w' := by
  have hl := shortI_length x ([1] ++ l ++ r)
  have HS := Lib.hid (fun (W : World) (h : KnotAt w W l r) => tagged_any W x 1 1 rfl (some ⟨w.heap.size, 0, none⟩) 32 32 l (Rd.whole h.b0 hll) (some ⟨w.heap.size + 1, 0, none⟩) 32 32 r (Rd.whole h.b1 hrl) (hT.below h.bel) (by decide) (by decide))
  generalize shortI x ([1] ++ l ++ r) = q at *
  have H1 := Lib.hid (show (Tryd.prog.info? 23).map (·.size) = some (bs q).length by rw [info_digest, bs_length, hl])
  have H3 := bs_one q
  have hS := PairAt.start w l r
  have hz : ((w.alloc (.cells (bs l).toArray 23)).alloc (.cells (bs r).toArray 23)).heap.size = w.heap.size + 1 + 1 := by simp
  go_enter Tryd.func85, Tryd.ntmps85
  go_wp2_with ((with_reducible refine wpList_allocB (o := ⟨some 6, _, _, _, _, _⟩) ?_ 23 ?_ zeroD_info ?_); rfl; rfl; intro w0 hr0 hg0 hz0; rw [hz] at hr0)
  replace hS : KnotAt w w0 l r := ⟨hS.b0.grown hg0 (by simp), hS.b1.grown hg0 (by simp), ⟨zero32, zero32_length, hr0⟩, hS.bel.grown hg0 hS.bel.size (fun k e => by cases e)⟩
  clear hr0 hg0 hz0 hz
  -- REGION Node 2
  refine wp_region_held_drew (S := fun W => KnotAt w W l r) (by kernel_rfl) hS.drew (fun hHeld => ?_)
  refine wpAnyH_take (i := 0) (oi := ⟨some 7, .move (.tmp 0), _, _, _, none⟩) (v := ?_) rfl (by kernel_rfl) (by kernel_rfl) (by kernel_rfl) (fun _ _ _ h => h) (Or.inl ⟨by rfl, ?_⟩) hHeld ?_
  rotate_left
  · intro W _; go_simp; try with_reducible rfl
  try simp only [Act.put, List.setIfInBounds_toArray, List.set_cons_zero, List.set_cons_succ]
  refine wpAnyH_take (i := 1) (oi := ⟨some 8, .slice 23 (.tmp 4) none none none, _, _, _, none⟩) (v := ?_) rfl (by kernel_rfl) (by kernel_rfl) (by kernel_rfl) (fun _ _ _ h => h) (Or.inl ⟨by rfl, ?_⟩) hHeld ?_
  rotate_left
  · intro W _; go_simp; try with_reducible rfl
  try simp only [Act.put, List.setIfInBounds_toArray, List.set_cons_zero, List.set_cons_succ]
  refine wpAnyH_take (i := 2) (oi := ⟨some 9, .slice 23 (.tmp 5) none none none, _, _, _, none⟩) (v := ?_) rfl (by kernel_rfl) (by kernel_rfl) (by kernel_rfl) (fun _ _ _ h => h) (Or.inl ⟨by rfl, ?_⟩) hHeld ?_
  rotate_left
  · intro W _; go_simp; try with_reducible rfl
  try simp only [Act.put, List.setIfInBounds_toArray, List.set_cons_zero, List.set_cons_succ]
  refine wpAnyH_ready (rs := [3]) (by kernel_rfl) (by simp) ?_
  refine AllReadyH.cons (o := ⟨some 10, .call { callee := .value (.func 42), args := #[.tmp 7, .const (.int .u8 1), .tmp 8, .tmp 9], argTypes := #[3, 5, 35, 35] }, _, _, _, none⟩) rfl (fun K hK => ?_) AllReadyH.nil
  refine step_ofR (by rfl) ?_
  go_simp
  refine (HS.out _ hHeld).mono ?_
  rintro x W1 ⟨rfl, hb1⟩
  refine hK.out _ _ (hHeld.below hb1) (fun hHeld => ?_)
  clear hK K
  try simp only [Act.put, List.setIfInBounds_toArray, List.set_cons_zero, List.set_cons_succ]
  obtain ⟨ds, hds, hres⟩ := hHeld.res
  refine wpAnyH_ready (rs := [4]) (by kernel_rfl) (by simp) ?_
  refine AllReadyH.cons (o := ⟨none, .store 23 (.tmp 6) (.tmp 10), _, _, _, none⟩) rfl (fun K hK => ?_) AllReadyH.nil
  refine step_storeW (w.heap.size + 1 + 1) 23 (.tmp 6) (.tmp 10) (bs q) (bs ds) _ hres H1.out (by rw [bs_length, bs_length, hds, hl]) H3 rfl rfl rfl rfl ?_
  intro W2 hr2 hg2 hz2
  refine hK.out _ _ (hHeld.put hl hr2 hg2) (fun hHeld => ?_)
  clear hK K
  try simp only [Act.put]
  refine wpAnyH_done (by kernel_rfl) ?_ _
  -- END Node
  go_wp2_with fail
  try simp only [Exit.inBlock, Exit.then]
  refine bodyPost_blk hr2 Tryd.underlying23 H1.out rfl rfl rfl rfl ⟨rfl, ?_⟩
  exact hHeld.bel
end
end
/-! The nodes of trees in memory: what is known of them all; how the world turns around them. -/
section
open Go.RowKit

/-- a node's cells -/
def nc (lk dn : Int) (sum : List UInt8) (x sz : Nat) (lf le ri : Option Addr) : List Value :=
  .int .u32 dn :: .int .i32 lk :: .int .u32 0 :: (bs sum ++ [.int .i64 (x : Int), .int .i64 (sz : Int), .pointer lf, .pointer le, .pointer ri])
theorem nc_length (lk dn : Int) {sum : List UInt8} (hs : sum.length = 32) (x sz : Nat) (lf le ri : Option Addr) : (nc lk dn sum x sz lf le ri).length = 40 := by
  simp [nc, bs_length, hs]
theorem nc_done (lk dn : Int) (sum : List UInt8) (x sz : Nat) (lf le ri : Option Addr) : (nc lk dn sum x sz lf le ri)[0]? = some (.int .u32 dn) := rfl
theorem nc_lock (lk dn : Int) (sum : List UInt8) (x sz : Nat) (lf le ri : Option Addr) : (nc lk dn sum x sz lf le ri)[1]? = some (.int .i32 lk) := rfl
theorem nc_sum (lk dn : Int) (sum : List UInt8) (x sz : Nat) (lf le ri : Option Addr) (j : Nat) (hj : j < (bs sum).length) : (nc lk dn sum x sz lf le ri)[3 + j]? = (bs sum)[j]? := by
  unfold nc
  rw [show 3 + j = j + 1 + 1 + 1 by omega, List.getElem?_cons_succ, List.getElem?_cons_succ, List.getElem?_cons_succ, List.getElem?_append_left hj]
theorem nc_tail (lk dn : Int) {sum : List UInt8} (hs : sum.length = 32) (x sz : Nat) (lf le ri : Option Addr) (j : Nat) :
    (nc lk dn sum x sz lf le ri)[35 + j]? = [Value.int .i64 (x : Int), .int .i64 (sz : Int), .pointer lf, .pointer le, .pointer ri][j]? := by
  unfold nc
  rw [show 35 + j = 32 + j + 1 + 1 + 1 by omega, List.getElem?_cons_succ, List.getElem?_cons_succ, List.getElem?_cons_succ, List.getElem?_append_right (by rw [bs_length]; omega), bs_length, hs, Nat.add_sub_cancel_left]
theorem nc_one (lk dn : Int) (sum : List UInt8) (x sz : Nat) (lf le ri : Option Addr) : ∀ u ∈ nc lk dn sum x sz lf le ri, u.oneCell' = true := by
  intro u hu
  simp only [nc, List.mem_cons, List.mem_append, List.not_mem_nil, or_false] at hu
  rcases hu with rfl | rfl | rfl | hu | rfl | rfl | rfl | rfl | rfl
  iterate 3 rfl
  · exact bs_one sum u hu
  all_goals rfl

/-- what is known of all nodes: which tree each stands for -/
abbrev Tag := Nat → Option T
/-- the sealed part of a node -/
structure Sealed (x : Nat) (lk : Bool) (dn : Int) (sum : List UInt8) (t : T) : Prop where
  len : sum.length = 32
  say : dn = 0 ∨ (dn = 1 ∧ lk = false ∧ sum = t.dig x)
def Kids (base : Nat) (G : Tag) (W : World) : T → Option Addr → Option Addr → Option Addr → Prop
  | .none, _, _, _ => True
  | .one y, lf, _, _ => ∃ q, lf = some ⟨q, 0, none⟩ ∧ base ≤ q ∧ Blk W q 46 (lc y)
  | .two l r, _, le, ri => ∃ p q, le = some ⟨p, 0, none⟩ ∧ ri = some ⟨q, 0, none⟩ ∧ G p = some l ∧ G q = some r
def lkI (b : Bool) : Int := if b then 1 else 0
def NodeOk (base x : Nat) (G : Tag) (W : World) (lk : Bool) (p : Nat) (t : T) : Prop :=
  ∃ dn sum lf le ri, Blk W p 88 (nc (lkI lk) dn sum x t.lvs.length lf le ri) ∧ Sealed x lk dn sum t ∧ Kids base G W t lf le ri
/-- all nodes stand -/
structure Inv (base x : Nat) (G : Tag) (L : Nat → Bool) (W : World) : Prop where
  node : ∀ p t, G p = some t → base ≤ p ∧ NodeOk base x G W (L p) p t
/-- of what isn't a node nothing turns -/
structure Fr (G : Tag) (W W' : World) : Prop where
  os : W'.os = W.os
  tape : W'.tape = W.tape
  output : W'.output = W.output
  size : W.heap.size ≤ W'.heap.size
  block : ∀ k, k < W.heap.size → G k = none → W'.heap[k]? = W.heap[k]?
  fix : ∀ k j, k < W.heap.size → 35 ≤ j → W'.cell? ⟨k, j, none⟩ = W.cell? ⟨k, j, none⟩
/-- more nodes are known -/
def More (n : Nat) (G G' : Tag) : Prop := (∀ k t, G k = some t → G' k = some t) ∧ ∀ k, k < n → G' k = G k

theorem Fr.refl (G : Tag) (W : World) : Fr G W W := ⟨rfl, rfl, rfl, Nat.le_refl _, fun _ _ _ => rfl, fun _ _ _ _ => rfl⟩
theorem Fr.trans {G : Tag} {a b c : World} (h : Fr G a b) (k : Fr G b c) : Fr G a c :=
  ⟨k.os.trans h.os, k.tape.trans h.tape, k.output.trans h.output, Nat.le_trans h.size k.size, fun i hi hn => (k.block i (Nat.lt_of_lt_of_le hi h.size) hn).trans (h.block i hi hn),
    fun i j hi hj => (k.fix i j (Nat.lt_of_lt_of_le hi h.size) hj).trans (h.fix i j hi hj)⟩
theorem Fr.more {G G' : Tag} {a b c : World} (h : Fr G a b) (m : More a.heap.size G G') (k : Fr G' b c) : Fr G a c :=
  ⟨k.os.trans h.os, k.tape.trans h.tape, k.output.trans h.output, Nat.le_trans h.size k.size, fun i hi hn => (k.block i (Nat.lt_of_lt_of_le hi h.size) (by rw [m.2 i hi]; exact hn)).trans (h.block i hi hn),
    fun i j hi hj => (k.fix i j (Nat.lt_of_lt_of_le hi h.size) hj).trans (h.fix i j hi hj)⟩
theorem Fr.of {G : Tag} {a b : World} (h : Below a.heap.size a b) : Fr G a b := ⟨h.os, h.tape, h.output, h.size, fun k hk _ => h.block k hk, fun k _ hk _ => World.cell?_of_block (w := a) (h.block k hk)⟩
theorem Fr.below {G : Tag} {a b : World} {base : Nat} (h : Fr G a b) (hb : ∀ k t, G k = some t → base ≤ k) (hs : base ≤ a.heap.size) : Below base a b :=
  ⟨h.os, h.tape, h.output, h.size, fun k hk => h.block k (by omega) (by
    cases e : G k with
    | none => rfl
    | some t => have := hb k t e; omega)⟩
theorem Inv.low {base x : Nat} {G : Tag} {L : Nat → Bool} {W : World} (h : Inv base x G L W) : ∀ k t, G k = some t → base ≤ k := fun k t e => (h.node k t e).1
theorem More.refl (n : Nat) (G : Tag) : More n G G := ⟨fun _ _ h => h, fun _ _ => rfl⟩
theorem More.trans {n m : Nat} {a b c : Tag} (h : More n a b) (k : More m b c) (hnm : n ≤ m) : More n a c :=
  ⟨fun p t e => k.1 p t (h.1 p t e), fun i hi => (k.2 i (by omega)).trans (h.2 i hi)⟩
/-- no block is of two kinds -/
theorem Blk.kind {W : World} {g : Nat} {t u : TypeId} {vs us : List Value} (h : Blk W g t vs) (k : Blk W g u us) : t = u ∧ vs = us := by
  have e := h.at_.symm.trans k.at_
  simp only [Option.some.injEq, Obj.cells.injEq] at e
  refine ⟨e.2.1, ?_⟩
  have := congrArg Array.toList e.1
  simpa using this
theorem Kids.turn {base : Nat} {G : Tag} {W W' : World} {t : T} {lf le ri : Option Addr} (h : Kids base G W t lf le ri) (hl : ∀ q ys, Blk W q 46 ys → Blk W' q 46 ys) : Kids base G W' t lf le ri := by
  match t, h with
  | .none, _ => exact trivial
  | .one y, ⟨q, h1, h2, h3⟩ => exact ⟨q, h1, h2, hl q _ h3⟩
  | .two l r, h => exact h
theorem Kids.more {base : Nat} {G G' : Tag} {W : World} {t : T} {lf le ri : Option Addr} (h : Kids base G W t lf le ri) (hm : ∀ k t, G k = some t → G' k = some t) : Kids base G' W t lf le ri := by
  match t, h with
  | .none, _ => exact trivial
  | .one y, h => exact h
  | .two l r, ⟨p, q, h1, h2, h3, h4⟩ => exact ⟨p, q, h1, h2, hm _ _ h3, hm _ _ h4⟩
theorem NodeOk.turn {base x : Nat} {G : Tag} {W W' : World} {lk : Bool} {p : Nat} {t : T} (h : NodeOk base x G W lk p t) (hn : ∀ vs, Blk W p 88 vs → Blk W' p 88 vs) (hl : ∀ q ys, Blk W q 46 ys → Blk W' q 46 ys) : NodeOk base x G W' lk p t := by
  obtain ⟨dn, sum, lf, le, ri, h1, h2, h3⟩ := h
  exact ⟨dn, sum, lf, le, ri, hn _ h1, h2, h3.turn hl⟩
theorem NodeOk.more {base x : Nat} {G G' : Tag} {W : World} {lk : Bool} {p : Nat} {t : T} (h : NodeOk base x G W lk p t) (hm : ∀ k t, G k = some t → G' k = some t) : NodeOk base x G' W lk p t := by
  obtain ⟨dn, sum, lf, le, ri, h1, h2, h3⟩ := h
  exact ⟨dn, sum, lf, le, ri, h1, h2, h3.more hm⟩
theorem Inv.blk {base x : Nat} {G : Tag} {L : Nat → Bool} {W : World} (h : Inv base x G L W) {p : Nat} {t : T} (hp : G p = some t) : ∃ vs, Blk W p 88 vs := by
  obtain ⟨_, dn, sum, lf, le, ri, h1, _⟩ := h.node p t hp
  exact ⟨_, h1⟩
theorem Inv.lt {base x : Nat} {G : Tag} {L : Nat → Bool} {W : World} (h : Inv base x G L W) {p : Nat} {t : T} (hp : G p = some t) : p < W.heap.size := by
  obtain ⟨_, hb⟩ := h.blk hp
  exact hb.lt
theorem Inv.below {base x : Nat} {G : Tag} {L : Nat → Bool} {W W' : World} (h : Inv base x G L W) (hb : Below W.heap.size W W') : Inv base x G L W' :=
  ⟨fun p t e => ⟨(h.node p t e).1, (h.node p t e).2.turn (fun _ k => k.below hb) (fun _ _ k => k.below hb)⟩⟩
/-- a block of another kind is written -/
theorem Inv.grown {base x : Nat} {G : Tag} {L : Nat → Bool} {W W' : World} (h : Inv base x G L W) {g : Nat} (hg : W.grownBy W' (some g)) (hn : ∀ vs, ¬ Blk W g 88 vs) (hl : ∀ vs, ¬ Blk W g 46 vs) : Inv base x G L W' :=
  ⟨fun p t e => ⟨(h.node p t e).1, (h.node p t e).2.turn (fun _ k => k.grown hg (fun e => by cases e; exact hn _ k)) (fun _ _ k => k.grown hg (fun e => by cases e; exact hl _ k))⟩⟩
theorem Blk.not {W : World} {g : Nat} {t u : TypeId} {vs : List Value} (h : Blk W g t vs) (hne : t ≠ u) : ∀ us, ¬ Blk W g u us := fun _ k => hne (h.kind k).1
/-- one node is turned -/
theorem Inv.turn {base x : Nat} {G : Tag} {L L' : Nat → Bool} {W W' : World} (h : Inv base x G L W) {p : Nat} {t : T} (hp : G p = some t) (hg : W.grownBy W' (some p)) (hL : ∀ k, k ≠ p → L' k = L k)
    {dn : Int} {sum : List UInt8} {lf le ri : Option Addr} (hb : Blk W' p 88 (nc (lkI (L' p)) dn sum x t.lvs.length lf le ri)) (hs : Sealed x (L' p) dn sum t) (hk : Kids base G W t lf le ri) : Inv base x G L' W' := by
  obtain ⟨vp, hvp⟩ := h.blk hp
  have hl : ∀ q ys, Blk W q 46 ys → Blk W' q 46 ys := fun q ys k => k.grown hg (fun e => by
    cases e
    exact absurd (k.kind hvp).1 (by decide))
  refine ⟨fun q u hq => ?_⟩
  by_cases e : q = p
  · subst e
    obtain rfl : t = u := by rw [hp] at hq; exact Option.some.inj hq
    exact ⟨(h.node q t hp).1, dn, sum, lf, le, ri, hb, hs, hk.turn hl⟩
  · rw [hL q e]
    exact ⟨(h.node q u hq).1, (h.node q u hq).2.turn (fun _ k => k.grown hg (fun e' => e (by cases e'; rfl))) hl⟩
/-- one node more is known -/
def Tag.add (G : Tag) (p : Nat) (t : T) : Tag := fun k => if k = p then some t else G k
theorem Tag.add_same (G : Tag) (p : Nat) (t : T) : G.add p t p = some t := by simp [Tag.add]
theorem Tag.add_keeps {G : Tag} {p : Nat} (t : T) (hp : G p = none) : ∀ k u, G k = some u → G.add p t k = some u := fun k u h => by
  unfold Tag.add
  rw [if_neg (fun e => by subst e; rw [hp] at h; cases h)]
  exact h
theorem Tag.add_more {G : Tag} {n p : Nat} (t : T) (hp : G p = none) (hn : n ≤ p) : More n G (G.add p t) :=
  ⟨Tag.add_keeps t hp, fun k hk => by unfold Tag.add; rw [if_neg (by omega)]⟩
theorem Inv.free {base x : Nat} {G : Tag} {L : Nat → Bool} {W : World} (h : Inv base x G L W) {p : Nat} (hp : W.heap.size ≤ p) : G p = none := by
  cases e : G p with
  | none => rfl
  | some t => have := h.lt e; omega
theorem Inv.add {base x : Nat} {G : Tag} {L : Nat → Bool} {W : World} (h : Inv base x G L W) {p : Nat} {t : T} (hp : G p = none) (hb : base ≤ p) (hn : NodeOk base x G W (L p) p t) : Inv base x (G.add p t) L W := by
  refine ⟨fun q u hq => ?_⟩
  by_cases e : q = p
  · subst e
    obtain rfl : t = u := by rw [Tag.add_same] at hq; exact Option.some.inj hq
    exact ⟨hb, hn.more (Tag.add_keeps t hp)⟩
  · have hq' : G q = some u := by unfold Tag.add at hq; rwa [if_neg e] at hq
    exact ⟨(h.node q u hq').1, (h.node q u hq').2.more (Tag.add_keeps t hp)⟩
theorem Inv.start (base x : Nat) (L : Nat → Bool) (W : World) : Inv base x (fun _ => none) L W := ⟨fun p t h => by cases h⟩
/-- what a call knows of one node -/
structure Nd (base x : Nat) (G : Tag) (W : World) (lk : Bool) (p : Nat) (t : T) (dn : Int) (sum : List UInt8) (lf le ri : Option Addr) : Prop where
  blk : Blk W p 88 (nc (lkI lk) dn sum x t.lvs.length lf le ri)
  part : Sealed x lk dn sum t
  kids : Kids base G W t lf le ri
theorem Inv.nd {base x : Nat} {G : Tag} {L : Nat → Bool} {W : World} (h : Inv base x G L W) {p : Nat} {t : T} (hp : G p = some t) : ∃ dn sum lf le ri, Nd base x G W (L p) p t dn sum lf le ri := by
  obtain ⟨_, dn, sum, lf, le, ri, h1, h2, h3⟩ := h.node p t hp
  exact ⟨dn, sum, lf, le, ri, h1, h2, h3⟩
section
variable {base x : Nat} {G : Tag} {W : World} {lk : Bool} {p : Nat} {t : T} {dn : Int} {sum : List UInt8} {lf le ri : Option Addr}
theorem Nd.width (h : Nd base x G W lk p t dn sum lf le ri) : W.cell? ⟨p, 35, none⟩ = some (.int .i64 (x : Int)) := h.blk.cell (nc_tail _ _ h.part.len _ _ _ _ _ 0)
theorem Nd.size (h : Nd base x G W lk p t dn sum lf le ri) : W.cell? ⟨p, 36, none⟩ = some (.int .i64 (t.lvs.length : Int)) := h.blk.cell (nc_tail _ _ h.part.len _ _ _ _ _ 1)
theorem Nd.leaf (h : Nd base x G W lk p t dn sum lf le ri) : W.cell? ⟨p, 37, none⟩ = some (.pointer lf) := h.blk.cell (nc_tail _ _ h.part.len _ _ _ _ _ 2)
theorem Nd.left (h : Nd base x G W lk p t dn sum lf le ri) : W.cell? ⟨p, 38, none⟩ = some (.pointer le) := h.blk.cell (nc_tail _ _ h.part.len _ _ _ _ _ 3)
theorem Nd.right (h : Nd base x G W lk p t dn sum lf le ri) : W.cell? ⟨p, 39, none⟩ = some (.pointer ri) := h.blk.cell (nc_tail _ _ h.part.len _ _ _ _ _ 4)
theorem Nd.done (h : Nd base x G W lk p t dn sum lf le ri) : W.cell? ⟨p, 0, none⟩ = some (.int .u32 dn) := h.blk.cell (nc_done _ _ _ _ _ _ _ _)
theorem Nd.lock (h : Nd base x G W lk p t dn sum lf le ri) : W.cell? ⟨p, 1, none⟩ = some (.int .i32 (lkI lk)) := h.blk.cell (nc_lock _ _ _ _ _ _ _ _)
theorem Nd.sums (h : Nd base x G W lk p t dn sum lf le ri) : W.rangeAt p 3 (bs sum) := h.blk.range 3 (fun j hj => nc_sum _ _ _ _ _ _ _ _ j hj)
end
end
/-! Con05B Con05D Con05G, in one text. -/
section
/-! sync.Once, one goroutine: its lock, its word, Do. -/
section
open Go.RowKit

/-- what stands behind a call of Do's slow road: the world behind the function, the word stored, the lock let go -/
def sealedW (p : Nat) (w1 : World) : World := (w1.drew.setCell ⟨p, 0, none⟩ (.int .u32 1)).setCell ⟨p, 1, none⟩ (.int .i32 0)

end
/-! The walks of package smt: seal and digest: each node's digest, computed once. (gen05C.py writes the regions that draw.) -/
section
open Go.RowKit

theorem Fr.drew {G : Tag} {a b : World} (h : Fr G a b) : Fr G a b.drew := h.trans (Fr.of ⟨rfl, rfl, rfl, Nat.le_refl _, fun _ _ => rfl⟩)
theorem Inv.drew {base x : Nat} {G : Tag} {L : Nat → Bool} {W : World} (h : Inv base x G L W) : Inv base x G L W.drew := h.below ⟨rfl, rfl, rfl, Nat.le_refl _, fun _ _ => rfl⟩
theorem Fr.cell {G : Tag} {a b : World} (h : Fr G a b) {k j : Nat} {v : Value} (hk : G k = none) (hc : a.cell? ⟨k, j, none⟩ = some v) : b.cell? ⟨k, j, none⟩ = some v :=
  (World.cell?_of_block (w := a) (a := ⟨k, j, none⟩) (h.block k (World.block_lt_of_cell? _ _ hc) hk)).trans hc
theorem Fr.far {G : Tag} {a b : World} (h : Fr G a b) {k j : Nat} {v : Value} (hj : 35 ≤ j) (hc : a.cell? ⟨k, j, none⟩ = some v) : b.cell? ⟨k, j, none⟩ = some v :=
  (h.fix k j (World.block_lt_of_cell? _ _ hc) hj).trans hc
theorem Blk.fr {G : Tag} {a b : World} (h : Fr G a b) {k : Nat} {t : TypeId} {vs : List Value} (hk : G k = none) (hb : Blk a k t vs) : Blk b k t vs := ⟨(h.block k hb.lt hk).trans hb.at_⟩
theorem Sealed.fresh {x : Nat} {dn : Int} {sum : List UInt8} {t : T} (h : Sealed x true dn sum t) : dn = 0 ∧ sum.length = 32 := by
  rcases h.say with h1 | ⟨_, h2, _⟩
  · exact ⟨h1, h.len⟩
  · cases h2
theorem nc_splice (lk dn : Int) {sum d : List UInt8} (hs : sum.length = 32) (hd : d.length = 32) {x sz : Nat} {lf le ri : Option Addr} : splice (nc lk dn sum x sz lf le ri) 3 (bs d) = nc lk dn d x sz lf le ri := by
  have h := splice_app [Value.int .u32 dn, .int .i32 lk, .int .u32 0] (bs sum ++ [.int .i64 (x : Int), .int .i64 (sz : Int), .pointer lf, .pointer le, .pointer ri]) (bs d)
  have e : bs sum ++ [Value.int .i64 (x : Int), .int .i64 (sz : Int), .pointer lf, .pointer le, .pointer ri] = bs sum ++ [Value.int .i64 (x : Int), .int .i64 (sz : Int), .pointer lf, .pointer le, .pointer ri] := rfl
  rw [List.drop_append, List.drop_eq_nil_of_le (by rw [bs_length, bs_length, hs, hd]; exact Nat.le_refl _), List.nil_append, bs_length, bs_length, hs, hd, Nat.sub_self, List.drop_zero] at h
  exact h
/-- one node turns, but for what is fixed -/
theorem Fr.node {G : Tag} {W W' : World} {p : Nat} {t : T} (hp : G p = some t) (hg : W.grownBy W' (some p)) {lk lk' dn dn' : Int} {sum sum' : List UInt8} {x sz : Nat} {lf le ri : Option Addr}
    (h : Blk W p 88 (nc lk dn sum x sz lf le ri)) (h' : Blk W' p 88 (nc lk' dn' sum' x sz lf le ri)) (hs : sum.length = 32) (hs' : sum'.length = 32) : Fr G W W' := by
  refine ⟨hg.os, hg.tape, hg.output, hg.size, fun k hk hn => hg.block k hk (fun e => by cases e; rw [hp] at hn; cases hn), fun k j hk hj => ?_⟩
  by_cases e : k = p
  · subst e
    have e1 : W.cell? ⟨k, j, none⟩ = (nc lk dn sum x sz lf le ri)[j]? := by rw [cell_of_row W k j _ _ _ h.at_]; simp
    have e2 : W'.cell? ⟨k, j, none⟩ = (nc lk' dn' sum' x sz lf le ri)[j]? := by rw [cell_of_row W' k j _ _ _ h'.at_]; simp
    obtain ⟨i, rfl⟩ : ∃ i, j = 35 + i := ⟨j - 35, by omega⟩
    rw [e1, e2, nc_tail _ _ hs, nc_tail _ _ hs']
  · exact World.cell?_of_block (w := W) (a := ⟨k, j, none⟩) (hg.block k hk (fun e' => e (by cases e'; rfl)))

theorem tab_drew {W : World} {g : Nat} (h : Tab W g) : Tab W.drew g := h.below ⟨rfl, rfl, rfl, Nat.le_refl _, fun _ _ => rfl⟩
/-- a block of the call's own is written -/
theorem Fr.put {G : Tag} {a b c : World} {g : Nat} (h : Fr G a b) (hg : b.grownBy c (some g)) (ha : a.heap.size ≤ g) : Fr G a c :=
  ⟨hg.os.trans h.os, hg.tape.trans h.tape, hg.output.trans h.output, Nat.le_trans h.size hg.size,
    fun k hk hn => (hg.block k (Nat.lt_of_lt_of_le hk h.size) (fun e => by cases e; omega)).trans (h.block k hk hn),
    fun k j hk hj => (World.cell?_of_block (w := b) (a := ⟨k, j, none⟩) (hg.block k (Nat.lt_of_lt_of_le hk h.size) (fun e => by cases e; omega))).trans (h.fix k j hk hj)⟩
/-- what seal's function knows of a world: its two variables -/
def SealAt (W : World) (b2 b3 p g : Nat) (cb : Array Value) : Prop := W.cell? ⟨b2, 0, none⟩ = some (.pointer (some ⟨p, 0, none⟩)) ∧ W.cell? ⟨b3, 0, none⟩ = some (.func (.func g) #[] cb)
theorem SealAt.drew {W : World} {b2 b3 p g : Nat} {cb : Array Value} (h : SealAt W b2 b3 p g cb) : SealAt W.drew b2 b3 p g cb := h
theorem SealAt.fr {W W' : World} {b2 b3 p g : Nat} {cb : Array Value} {G : Tag} (h : SealAt W b2 b3 p g cb) (hf : Fr G W W') (h2 : G b2 = none) (h3 : G b3 = none) : SealAt W' b2 b3 p g cb := ⟨hf.cell h2 h.1, hf.cell h3 h.2⟩
theorem SealAt.grown {W W' : World} {b2 b3 p g q : Nat} {cb : Array Value} (h : SealAt W b2 b3 p g cb) (hg : W.grownBy W' (some q)) (h2 : b2 ≠ q) (h3 : b3 ≠ q) : SealAt W' b2 b3 p g cb :=
  ⟨hg.cell h.1 (fun e => h2 (by cases e; rfl)), hg.cell h.2 (fun e => h3 (by cases e; rfl))⟩

/-- behind the function that seal hands to Do: the sum is stored, the node still locked -/
def Stored (base x : Nat) (G : Tag) (L : Nat → Bool) (p : Nat) (t : T) (w w' : World) : Prop :=
  Inv base x G L w' ∧ Fr G w w' ∧ ∃ lf le ri, Blk w' p 88 (nc 1 0 (t.dig x) x t.lvs.length lf le ri)

/-- one node more is locked -/
def lockL (L : Nat → Bool) (p : Nat) : Nat → Bool := fun k => if k = p then true else L k
theorem lockL_same (L : Nat → Bool) (p : Nat) : lockL L p p = true := by simp [lockL]
theorem lockL_other (L : Nat → Bool) (p : Nat) : ∀ k, k ≠ p → lockL L p k = L k := fun k h => by simp [lockL, h]
theorem tab_fr {W W' : World} {g : Nat} {G : Tag} (h : Tab W g) (hf : Fr G W W') (hg : G g = none) : Tab W' g := fun j v hv => hf.cell hg (h j v hv)

end
/-! The walks of package smt: a node's digest. (gen05C.py writes the regions that draw.) -/
section
open Go.RowKit

/-- what the function of a node's digest knows of a world -/
structure DgnAt (W : World) (bn p x : Nat) (lf le ri : Option Addr) (g : Nat) : Prop where
  box : W.cell? ⟨bn, 0, none⟩ = some (.pointer (some ⟨p, 0, none⟩))
  width : W.cell? ⟨p, 35, none⟩ = some (.int .i64 (x : Int))
  leaf : W.cell? ⟨p, 37, none⟩ = some (.pointer lf)
  left : W.cell? ⟨p, 38, none⟩ = some (.pointer le)
  right : W.cell? ⟨p, 39, none⟩ = some (.pointer ri)
  res : ∃ d : List UInt8, d.length = 32 ∧ Blk W g 23 (bs d)
section
variable {W W' : World} {bn p x : Nat} {lf le ri : Option Addr} {g : Nat}
theorem DgnAt.drew (h : DgnAt W bn p x lf le ri g) : DgnAt W.drew bn p x lf le ri g := by
  obtain ⟨d, h1, h2⟩ := h.res
  exact ⟨h.box, h.width, h.leaf, h.left, h.right, d, h1, h2.drew⟩
theorem DgnAt.fr {G : Tag} (h : DgnAt W bn p x lf le ri g) (hf : Fr G W W') (hb : G bn = none) (hg : G g = none) : DgnAt W' bn p x lf le ri g := by
  obtain ⟨d, h1, h2⟩ := h.res
  exact ⟨hf.cell hb h.box, hf.far (by decide) h.width, hf.far (by decide) h.leaf, hf.far (by decide) h.left, hf.far (by decide) h.right, d, h1, Blk.fr hf hg h2⟩
theorem DgnAt.below (h : DgnAt W bn p x lf le ri g) (hb : Below W.heap.size W W') : DgnAt W' bn p x lf le ri g := h.fr (G := fun _ => none) (Fr.of hb) rfl rfl
theorem DgnAt.put (h : DgnAt W bn p x lf le ri g) {q : List UInt8} (hl : q.length = 32) (hr : Blk W' g 23 (bs q)) (hg : W.grownBy W' (some g)) (hb : bn ≠ g) (hp : p ≠ g) : DgnAt W' bn p x lf le ri g :=
  ⟨hg.cell h.box (fun e => hb (by cases e; rfl)), hg.cell h.width (fun e => hp (by cases e; rfl)), hg.cell h.leaf (fun e => hp (by cases e; rfl)), hg.cell h.left (fun e => hp (by cases e; rfl)), hg.cell h.right (fun e => hp (by cases e; rfl)), q, hl, hr⟩
end
structure DgLeaf (W : World) (bn p x : Nat) (lf le ri : Option Addr) (g q : Nat) (y : Lf) : Prop where
  dg : DgnAt W bn p x lf le ri g
  leaf : Blk W q 46 (lc y)
section
variable {W W' : World} {bn p x : Nat} {lf le ri : Option Addr} {g q : Nat} {y : Lf}
theorem DgLeaf.drew (h : DgLeaf W bn p x lf le ri g q y) : DgLeaf W.drew bn p x lf le ri g q y := ⟨h.dg.drew, h.leaf.drew⟩
theorem DgLeaf.below (h : DgLeaf W bn p x lf le ri g q y) (hb : Below W.heap.size W W') : DgLeaf W' bn p x lf le ri g q y := ⟨h.dg.below hb, h.leaf.below hb⟩
theorem DgLeaf.put (h : DgLeaf W bn p x lf le ri g q y) {d : List UInt8} (hl : d.length = 32) (hr : Blk W' g 23 (bs d)) (hg : W.grownBy W' (some g)) (hb : bn ≠ g) (hp : p ≠ g) (hq : q ≠ g) : DgLeaf W' bn p x lf le ri g q y :=
  ⟨h.dg.put hl hr hg hb hp, h.leaf.grown hg (fun e => hq (by cases e; rfl))⟩
end

end
end
/-! Con05T Con05W Con05X, in one text. -/
section
/-! The walks of package smt: bitIs1, New, single, joined, sides, has. (gen05C.py writes the regions that draw.) -/
section
open Go.RowKit

set_option maxRecDepth 100000 in
theorem bitIs1_any (w : World) (p : List UInt8) (hp : p.length = 32) (i : Nat) (hi : i < 256) :
    Calls Tryd.prog 56 #[.agg (bs p).toArray, .int .i64 (i : Int)] w fun e w' => e = .returned (.bool (bitAt p i == 1)) ∧ Below w.heap.size w w' := by
  have H5 := Lib.hid (show (Tryd.prog.info? 23).map (·.size) = some (bs p).length by rw [info_digest, bs_length, hp])
  have hb0 := Blk.new w 23 (bs p)
  have hB0 : Below w.heap.size w (w.alloc (.cells (bs p).toArray 23)) := (Below.refl _ w).alloc (Nat.le_refl _) _
  have HB := Lib.hid (fun W : World => bit_any W p hp i hi)
  have h2 : bitAt p i = 0 ∨ bitAt p i = 1 := by have := bitAt_lt p i; omega
  generalize bitAt p i = b at *
  go_enter Tryd.func56, Tryd.ntmps56
  go_wp2_with ((with_reducible refine wpList_loadB (o := ⟨some 8, _, _, _, _, _⟩) ?_ 23 (.tmp 2) ?_ ?_ hb0 Tryd.underlying23 ?_ H5.out ?_); rfl; rfl; rfl; rfl)
  generalize w.alloc _ = w0 at *
  refine (HB.out w0).mono ?_
  rintro e w1 ⟨rfl, hB1⟩
  have hC := Bt hB0 hB1
  rcases h2 with rfl | rfl
  · go_wp2_with fail
    go_ret
    exact ⟨rfl, hC⟩
  · go_wp2_with fail
    go_ret
    exact ⟨rfl, hC⟩

/-- a part of a block loaded, behind a guard that says yes -/
theorem wpList_loadG {w : World} {ops : Array Oper} {rest : List Oper} {o : Oper} {a : Act} {Q : Exit → Act → World → Prop} (hw : Region.wanted o (yielded ops a.tmps) = true) (b off : Nat) (ty : TypeId) (x : Operand) (ho : o.op = .load ty x)
    (hx : a.eval x = .pointer (some ⟨b, off, none⟩)) {cs : List Value} {d : TypeDesc} (hc : w.rangeAt b off cs) (hu : Tryd.prog.underlying ty = some d) (hd : d.isRow = true)
    (hi : (Tryd.prog.info? ty).map (·.size) = some cs.length)
    (h : wpList Tryd.prog ops Q rest (a.put o.dst (.agg cs.toArray)) w) : wpList Tryd.prog ops Q (o :: rest) a w :=
  wpList_step fun K hK => by
    rw [if_pos hw]
    exact wp_load_mid ty x ho b off hx cs d hc hu hd hi (hK _ _ h)

/-- no node is locked -/
def noL : Nat → Bool := fun _ => false
theorem built_node0 (x : Nat) : Tryd.prog.built 88 [(1, .int .i64 (x : Int))] = some (nc 0 0 zero32 x 0 none none none).toArray := by kernel_rfl
theorem built_node1 (x : Nat) (q : Option Addr) : Tryd.prog.built 88 [(1, .int .i64 (x : Int)), (2, .int .i64 1), (3, .pointer q)] = some (nc 0 0 zero32 x 1 q none none).toArray := by kernel_rfl
theorem built_node2 (x m : Nat) (p q : Option Addr) : Tryd.prog.built 88 [(1, .int .i64 (x : Int)), (2, .int .i64 (m : Int)), (4, .pointer p), (5, .pointer q)] = some (nc 0 0 zero32 x m none p q).toArray := by kernel_rfl
theorem built_tree (p q : Option Addr) : Tryd.prog.built 90 [(0, .pointer p), (1, .pointer q)] = some ([Value.pointer p, .pointer q]).toArray := by kernel_rfl

/-- a tree's own cells -/
structure Tr (base : Nat) (G : Tag) (W : World) (tp pn pt : Nat) (t : T) : Prop where
  blk : Blk W tp 90 [.pointer (some ⟨pn, 0, none⟩), .pointer (some ⟨pt, 0, none⟩)]
  low : base ≤ tp
  no : G pn = some .none
  top : G pt = some t
theorem Tr.c0 {base : Nat} {G : Tag} {W : World} {tp pn pt : Nat} {t : T} (h : Tr base G W tp pn pt t) : W.cell? ⟨tp, 0, none⟩ = some (.pointer (some ⟨pn, 0, none⟩)) := h.blk.cell rfl
theorem Tr.c1 {base : Nat} {G : Tag} {W : World} {tp pn pt : Nat} {t : T} (h : Tr base G W tp pn pt t) : W.cell? ⟨tp, 1, none⟩ = some (.pointer (some ⟨pt, 0, none⟩)) := h.blk.cell rfl
theorem Inv.tree {base x : Nat} {G : Tag} {L : Nat → Bool} {W : World} (h : Inv base x G L W) {g : Nat} {t : TypeId} {vs : List Value} (hb : Blk W g t vs) (ht : t ≠ 88) : G g = none := by
  cases e : G g with
  | none => rfl
  | some u =>
    obtain ⟨us, hu⟩ := h.blk e
    exact absurd (hb.kind hu).1 ht
theorem Tr.fr {base : Nat} {G G' : Tag} {W W' : World} {tp pn pt : Nat} {t : T} (h : Tr base G W tp pn pt t) (hf : Fr G W W') (hg : G tp = none) (hm : ∀ k t, G k = some t → G' k = some t) : Tr base G' W' tp pn pt t :=
  ⟨Blk.fr hf hg h.blk, h.low, hm _ _ h.no, hm _ _ h.top⟩

set_option maxRecDepth 100000 in
set_option maxHeartbeats 1000000 in
/-- New, of no width -/
theorem new_no (w : World) (x : Int) (hx : x < 0 ∨ 32 < x) :
    Calls Tryd.prog 19 #[.int .i64 x] w fun e w' => e = .returned (.tuple #[.pointer none, .int .i64 1]) ∧ w = w' := by
  have hd : (decide (0 ≤ x) && decide (x ≤ 32)) = false := by simp; omega
  go_enter Tryd.func19, Tryd.ntmps19
  go_wp2_with fail
  refine (swidth_any w x).mono ?_
  rintro e w2 ⟨rfl, rfl⟩
  rw [hd]
  go_wp2_with fail
  go_ret2
  exact ⟨rfl, rfl⟩

set_option maxRecDepth 100000 in
set_option maxHeartbeats 1000000 in
/-- New: a tree without leaves -/
theorem snew_any (w : World) (x : Nat) (hx : x ≤ 32) (base : Nat) (hb : base ≤ w.heap.size) (G : Tag) (hI : Inv base x G noL w) :
    Calls Tryd.prog 19 #[.int .i64 (x : Int)] w fun e w' => ∃ tp pn G', e = .returned (.tuple #[.pointer (some ⟨tp, 0, none⟩), .int .i64 0]) ∧ Tr base G' w' tp pn pn .none ∧ Inv base x G' noL w' ∧ More w.heap.size G G' ∧ w.heap.size ≤ tp ∧ Below w.heap.size w w' := by
  have hd : (decide (0 ≤ (x : Int)) && decide ((x : Int) ≤ 32)) = true := by simp; omega
  have B0 := Lib.hid (built_node0 x)
  have hb1 := Blk.new w 88 (nc 0 0 zero32 x 0 none none none)
  have hB1 : Below w.heap.size w (w.alloc (.cells (nc 0 0 zero32 x 0 none none none).toArray 88)) := (Below.refl _ w).alloc (Nat.le_refl _) _
  have hz1 : (w.alloc (.cells (nc 0 0 zero32 x 0 none none none).toArray 88)).heap.size = w.heap.size + 1 := by simp
  have hf := hI.free (p := w.heap.size) (Nat.le_refl _)
  have hI1 : Inv base x (G.add w.heap.size .none) noL (w.alloc (.cells (nc 0 0 zero32 x 0 none none none).toArray 88)) :=
    (hI.below hB1).add hf hb ⟨0, zero32, none, none, none, hb1, ⟨zero32_length, .inl rfl⟩, trivial⟩
  have hm := Tag.add_more (G := G) (n := w.heap.size) T.none hf (Nat.le_refl _)
  have BT := Lib.hid (built_tree (some ⟨w.heap.size, 0, none⟩) (some ⟨w.heap.size, 0, none⟩))
  generalize hNC : nc 0 0 zero32 x 0 none none none = N at *
  have HN := Lib.hid hNC
  clear hNC
  go_enter Tryd.func19, Tryd.ntmps19
  go_wp2_with fail
  refine (swidth_any w x).mono ?_
  rintro e w2 ⟨rfl, rfl⟩
  rw [hd]
  go_wp2_with (first | ((with_reducible refine wpList_buildI (dst := some 9) B0.out ?_ ?_); rfl) | ((with_reducible refine wpList_buildI (dst := some 13) BT.out ?_ ?_); rfl))
  go_ret2
  have hb2 := Blk.new (w.alloc (.cells N.toArray 88)) 90 [.pointer (some ⟨w.heap.size, 0, none⟩), .pointer (some ⟨w.heap.size, 0, none⟩)]
  have hB2 : Below (w.alloc (.cells N.toArray 88)).heap.size (w.alloc (.cells N.toArray 88)) ((w.alloc (.cells N.toArray 88)).alloc (.cells [Value.pointer (some ⟨w.heap.size, 0, none⟩), .pointer (some ⟨w.heap.size, 0, none⟩)].toArray 90)) := (Below.refl _ _).alloc (Nat.le_refl _) _
  refine ⟨_, w.heap.size, G.add w.heap.size .none, rfl, ⟨?_, ?_, Tag.add_same _ _ _, Tag.add_same _ _ _⟩, hI1.below hB2, hm, ?_, Bt hB1 hB2⟩
  · rw [← hz1]; exact hb2
  · omega
  · omega


set_option maxRecDepth 100000 in
set_option maxHeartbeats 1000000 in
theorem single_any (w : World) (base x : Nat) (hb : base ≤ w.heap.size) (G : Tag) (hI : Inv base x G noL w) (tp pn : Nat) (hc : w.cell? ⟨tp, 0, none⟩ = some (.pointer (some ⟨pn, 0, none⟩))) (hn : G pn = some .none) (y : Lf) :
    Calls Tryd.prog 78 #[.pointer (some ⟨tp, 0, none⟩), .agg (lc y).toArray] w fun e w' => ∃ p, e = .returned (.pointer (some ⟨p, 0, none⟩)) ∧ Inv base x (G.add p (.one y)) noL w' ∧ w.heap.size ≤ p ∧ Below w.heap.size w w' := by
  obtain ⟨dn, sum, lf, le, ri, hN⟩ := hI.nd hn
  have hb1 := Blk.new w 46 (lc y)
  have hB1 : Below w.heap.size w (w.alloc (.cells (lc y).toArray 46)) := (Below.refl _ w).alloc (Nat.le_refl _) _
  have hz1 : (w.alloc (.cells (lc y).toArray 46)).heap.size = w.heap.size + 1 := by simp
  have c0 := cell_later hB1 hc
  have c1 := cell_later hB1 hN.width
  have BN := Lib.hid (built_node1 x (some ⟨w.heap.size, 0, none⟩))
  have hI1 := hI.below hB1
  have hb2 := Blk.new (w.alloc (.cells (lc y).toArray 46)) 88 (nc 0 0 zero32 x 1 (some ⟨w.heap.size, 0, none⟩) none none)
  have hB2 : Below (w.alloc (.cells (lc y).toArray 46)).heap.size (w.alloc (.cells (lc y).toArray 46)) ((w.alloc (.cells (lc y).toArray 46)).alloc (.cells (nc 0 0 zero32 x 1 (some ⟨w.heap.size, 0, none⟩) none none).toArray 88)) := (Below.refl _ _).alloc (Nat.le_refl _) _
  have hI2 := (hI1.below hB2).add (p := w.heap.size + 1) (t := .one y) (hI.free (by omega)) (by omega) ⟨0, zero32, some ⟨w.heap.size, 0, none⟩, none, none, by rw [← hz1]; exact hb2, ⟨zero32_length, .inl rfl⟩, w.heap.size, rfl, hb, hb1.below hB2⟩
  have HX := Lib.hid (And.intro hI2 (Bt hB1 hB2))
  clear hI2 hB2 hb2 hI1
  generalize nc 0 0 zero32 x 1 (some ⟨w.heap.size, 0, none⟩) none none = N at *
  go_enter Tryd.func78, Tryd.ntmps78
  go_wp2_with ((with_reducible refine wpList_buildI (dst := some 12) BN.out ?_ ?_); rfl)
  go_ret
  exact ⟨w.heap.size + 1, rfl, HX.out.1, by omega, HX.out.2⟩

theorem lens_int {l r : T} (h : l.lvs.length + r.lvs.length ≤ 1000000) : IntKind.i64.wrap ((l.lvs.length : Int) + (r.lvs.length : Int)) = ((l.lvs.length + r.lvs.length : Nat) : Int) := by
  rw [IntKind.wrap_i64]; omega

set_option maxRecDepth 100000 in
set_option maxHeartbeats 1000000 in
theorem joined_any (w : World) (base x : Nat) (hb : base ≤ w.heap.size) (G : Tag) (hI : Inv base x G noL w) (tp pn : Nat) (hc : w.cell? ⟨tp, 0, none⟩ = some (.pointer (some ⟨pn, 0, none⟩))) (hn : G pn = some .none) (p q : Nat) (l r : T) (hp : G p = some l) (hq : G q = some r)
    (hsz : l.lvs.length + r.lvs.length ≤ 1000000) :
    Calls Tryd.prog 82 #[.pointer (some ⟨tp, 0, none⟩), .pointer (some ⟨p, 0, none⟩), .pointer (some ⟨q, 0, none⟩)] w fun e w' => ∃ s G', e = .returned (.pointer (some ⟨s, 0, none⟩)) ∧ G' s = some (T.joined l r) ∧ Inv base x G' noL w' ∧ More w.heap.size G G' ∧ Below w.heap.size w w' := by
  obtain ⟨dn, sum, lf, le, ri, hN⟩ := hI.nd hn
  obtain ⟨dn1, sum1, lf1, le1, ri1, hP⟩ := hI.nd hp
  obtain ⟨dn2, sum2, lf2, le2, ri2, hQ⟩ := hI.nd hq
  have c1 := hN.width
  have c2 := hP.size
  have c3 := hQ.size
  have hw := lens_int hsz
  have hJ : T.joined l r = if 1 < l.lvs.length + r.lvs.length then .two l r else if l.lvs.length = 1 then l else r := rfl
  have HJ := Lib.hid hJ
  clear hJ
  generalize hm : l.lvs.length = m at *
  generalize hk : r.lvs.length = k at *
  have HM := Lib.hid hm
  have HK := Lib.hid hk
  clear hm hk
  generalize hs : m + k = s at *
  have HS := Lib.hid hs
  clear hs
  by_cases h1 : 1 < s
  · have h1' : (1 : Int) < (s : Int) := by omega
    have BN := Lib.hid (built_node2 x s (some ⟨p, 0, none⟩) (some ⟨q, 0, none⟩))
    have FI := Lib.hid (fun (W : World) (h : Below w.heap.size w W) => (show Inv base x (G.add W.heap.size (.two l r)) noL (W.alloc (.cells (nc 0 0 zero32 x s none (some ⟨p, 0, none⟩) (some ⟨q, 0, none⟩)).toArray 88)) from by
      have hI1 := hI.below h
      have hB2 : Below W.heap.size W (W.alloc (.cells (nc 0 0 zero32 x s none (some ⟨p, 0, none⟩) (some ⟨q, 0, none⟩)).toArray 88)) := (Below.refl _ W).alloc (Nat.le_refl _) _
      refine (hI1.below hB2).add (hI1.free (Nat.le_refl _)) (by have := h.size; omega) ⟨0, zero32, none, some ⟨p, 0, none⟩, some ⟨q, 0, none⟩, ?_, ⟨zero32_length, .inl rfl⟩, p, q, rfl, rfl, hp, hq⟩
      have hl : (T.two l r).lvs.length = s := by rw [← HS.out, ← HM.out, ← HK.out]; simp [T.lvs]
      rw [hl]
      exact Blk.new W 88 _))
    generalize nc 0 0 zero32 x s none (some ⟨p, 0, none⟩) (some ⟨q, 0, none⟩) = N at *
    go_enter Tryd.func82, Tryd.ntmps82
    go_wp2_with fail
    go_quiet (fail)
    go_wp2_with ((with_reducible refine wpList_buildI (dst := some 29) BN.out ?_ ?_); rfl)
    go_ret
    have hB : Below w.heap.size w (w.drewN nq) := ⟨rfl, rfl, rfl, Nat.le_refl _, fun _ _ => rfl⟩
    exact ⟨w.heap.size, G.add w.heap.size (.two l r), rfl, by rw [Tag.add_same, HJ.out, if_pos h1], FI.out _ hB, Tag.add_more _ (hI.free (Nat.le_refl _)) (Nat.le_refl _), hB.alloc (Nat.le_refl _) _⟩
  · have h1' : ¬ (1 : Int) < (s : Int) := by omega
    by_cases h2 : m = 1
    · subst h2
      obtain rfl : k = 0 := by have := HS.out; omega
      obtain rfl : s = 1 := HS.out.symm
      clear hw h1'
      go_enter Tryd.func82, Tryd.ntmps82
      go_wp2_with fail
      go_quiet (fail)
      go_wp2_with fail
      go_ret
      have hB : Below w.heap.size w (w.drewN nq) := ⟨rfl, rfl, rfl, Nat.le_refl _, fun _ _ => rfl⟩
      exact ⟨p, G, rfl, by rw [HJ.out]; simpa using hp, hI.below hB, More.refl _ _, hB⟩
    · have h2' : ¬ (m : Int) = 1 := by omega
      go_enter Tryd.func82, Tryd.ntmps82
      go_wp2_with fail
      go_quiet (fail)
      go_wp2_with fail
      go_ret
      have hB : Below w.heap.size w (w.drewN nq) := ⟨rfl, rfl, rfl, Nat.le_refl _, fun _ _ => rfl⟩
      exact ⟨q, G, rfl, by rw [HJ.out, if_neg h1, if_neg h2]; exact hq, hI.below hB, More.refl _ _, hB⟩

set_option maxRecDepth 100000 in
set_option maxHeartbeats 1000000 in
theorem sides_any (w : World) (base x : Nat) (G : Tag) (hI : Inv base x G noL w) (tp pn : Nat) (hc : w.cell? ⟨tp, 0, none⟩ = some (.pointer (some ⟨pn, 0, none⟩))) (hn : G pn = some .none) (p : Nat) (t : T) (hp : G p = some t) (n : Nat) (ht : t.wf n) (hn256 : n < 256) :
    Calls Tryd.prog 79 #[.pointer (some ⟨tp, 0, none⟩), .pointer (some ⟨p, 0, none⟩), .int .i64 (n : Int)] w fun e w' => ∃ l r, e = .returned (.tuple #[.pointer (some ⟨l, 0, none⟩), .pointer (some ⟨r, 0, none⟩)]) ∧ G l = some (t.left n) ∧ G r = some (t.right n) ∧ Below w.heap.size w w' := by
  obtain ⟨dn1, sum1, lf1, le1, ri1, hP⟩ := hI.nd hp
  have c2 := hP.size
  have c3 := hP.leaf
  have c4 := hP.left
  have c5 := hP.right
  have hk := hP.kids
  cases t with
  | none =>
    have c6 : w.cell? ⟨p, 36, none⟩ = some (.int .i64 0) := c2
    clear c2
    go_enter Tryd.func79, Tryd.ntmps79
    go_wp2_with fail
    go_quiet (fail)
    go_wp2_with fail
    go_ret2
    exact ⟨p, pn, rfl, hp, hn, ⟨rfl, rfl, rfl, Nat.le_refl _, fun _ _ => rfl⟩⟩
  | one y =>
    have c6 : w.cell? ⟨p, 36, none⟩ = some (.int .i64 1) := c2
    clear c2
    obtain ⟨q, rfl, hq2, hq3⟩ := hk
    have hr := hq3.range 0 (cs := bs y.path) (fun j hj => by rw [Nat.zero_add, lc, List.getElem?_append_left hj])
    have H5 := Lib.hid (show (Tryd.prog.info? 23).map (·.size) = some (bs y.path).length by rw [info_digest, bs_length, ht.1])
    have HB := Lib.hid (fun W : World => bitIs1_any W y.path ht.1 n hn256)
    have HL : T.left (.one y) n = if bitAt y.path n = 1 then .none else .one y := rfl
    have HR : T.right (.one y) n = if bitAt y.path n = 1 then .one y else .none := rfl
    by_cases hbit : bitAt y.path n = 1
    · rw [show (bitAt y.path n == 1) = true by simp [hbit]] at HB
      rw [if_pos hbit] at HL HR
      have HLR := Lib.hid (And.intro HL HR)
      clear HL HR hbit
      go_enter Tryd.func79, Tryd.ntmps79
      go_wp2_with ((with_reducible refine wpList_loadG (o := ⟨some 35, _, _, _, _, _⟩) ?_ q 0 23 (.tmp 34) ?_ ?_ hr Tryd.underlying23 ?_ H5.out ?_); rfl; rfl; rfl; rfl)
      refine (HB.out w).mono ?_
      rintro e w1 ⟨rfl, hB1⟩
      have d0 := cell_later hB1 hc
      go_wp2_with fail
      go_ret2
      exact ⟨pn, p, rfl, by rw [HLR.out.1]; exact hn, by rw [HLR.out.2]; exact hp, hB1⟩
    · rw [show (bitAt y.path n == 1) = false by simp [hbit]] at HB
      rw [if_neg hbit] at HL HR
      have HLR := Lib.hid (And.intro HL HR)
      clear HL HR hbit
      go_enter Tryd.func79, Tryd.ntmps79
      go_wp2_with ((with_reducible refine wpList_loadG (o := ⟨some 35, _, _, _, _, _⟩) ?_ q 0 23 (.tmp 34) ?_ ?_ hr Tryd.underlying23 ?_ H5.out ?_); rfl; rfl; rfl; rfl)
      refine (HB.out w).mono ?_
      rintro e w1 ⟨rfl, hB1⟩
      have d0 := cell_later hB1 hc
      go_wp2_with fail
      go_quiet (fail)
      go_wp2_with fail
      go_ret2
      exact ⟨p, pn, rfl, by rw [HLR.out.1]; exact hp, by rw [HLR.out.2]; exact hn, Bt hB1 ⟨rfl, rfl, rfl, Nat.le_refl _, fun _ _ => rfl⟩⟩
  | two l r =>
    have hm2 := T.size_two ht
    generalize (T.two l r).lvs.length = m at *
    obtain ⟨pl, pr, rfl, rfl, hpl, hpr⟩ := hk
    have h1 : (1 : Int) < (m : Int) := by omega
    go_enter Tryd.func79, Tryd.ntmps79
    go_wp2_with fail
    go_quiet (fail)
    go_wp2_with fail
    go_ret2
    exact ⟨pl, pr, rfl, hpl, hpr, ⟨rfl, rfl, rfl, Nat.le_refl _, fun _ _ => rfl⟩⟩

def T.hasB : T → List UInt8 → Bool
  | .one y, d => y.path == d
  | _, _ => false
/-- what has knows of a world -/
structure HasAt (w W : World) (p q : Nat) (y : Lf) (d : List UInt8) : Prop where
  size : W.cell? ⟨p, 36, none⟩ = some (.int .i64 1)
  ptr : W.cell? ⟨p, 37, none⟩ = some (.pointer (some ⟨q, 0, none⟩))
  leaf : Blk W q 46 (lc y)
  box : Blk W w.heap.size 23 (bs d)
  bel : Below w.heap.size w W
theorem HasAt.drew {w W : World} {p q : Nat} {y : Lf} {d : List UInt8} (h : HasAt w W p q y d) : HasAt w W.drew p q y d := ⟨h.size, h.ptr, h.leaf.drew, h.box.drew, h.bel.drew⟩

set_option maxRecDepth 100000 in
set_option maxHeartbeats 1000000 in
theorem has_any (w : World) (base x : Nat) (G : Tag) (hI : Inv base x G noL w) (p : Nat) (t : T) (hp : G p = some t) (n : Nat) (ht : t.wf n) (d : List UInt8) (hd : d.length = 32) :
    Calls Tryd.prog 57 #[.pointer (some ⟨p, 0, none⟩), .agg (bs d).toArray] w fun e w' => e = .returned (.bool (t.hasB d)) ∧ Below w.heap.size w w' := by
  obtain ⟨dn1, sum1, lf1, le1, ri1, hP⟩ := hI.nd hp
  have hB0 : Below w.heap.size w (w.alloc (.cells (bs d).toArray 23)) := (Below.refl _ w).alloc (Nat.le_refl _) _
  have c2 := cell_later hB0 hP.size
  have hk := hP.kids
  cases t with
  | none =>
    have c6 : (w.alloc (.cells (bs d).toArray 23)).cell? ⟨p, 36, none⟩ = some (.int .i64 0) := c2
    clear c2
    go_enter Tryd.func57, Tryd.ntmps57
    go_wp2_with fail
    go_quiet (fail)
    go_wp2_with fail
    go_ret
    exact ⟨rfl, Bt hB0 ⟨rfl, rfl, rfl, Nat.le_refl _, fun _ _ => rfl⟩⟩
  | one y =>
    obtain ⟨q, rfl, hq2, hq3⟩ := hk
    have hS : HasAt w (w.alloc (.cells (bs d).toArray 23)) p q y d := ⟨c2, cell_later hB0 hP.leaf, hq3.alloc _, Blk.new w _ _, hB0⟩
    have H5 := Lib.hid (show (Tryd.prog.info? 23).map (·.size) = some (bs y.path).length by rw [info_digest, bs_length, ht.1])
    have H6 := Lib.hid (show (Tryd.prog.info? 23).map (·.size) = some (bs d).length by rw [info_digest, bs_length, hd])
    have EQ := Lib.hid (show ∀ W : World, (binOp .eql 23 (.agg (bs y.path).toArray) (.agg (bs d).toArray)).run Tryd.prog W = .ok (.bool (y.path == d)) W from fun W => eqD W _ _ ht.1 hd)
    have hr : T.hasB (.one y) d = (y.path == d) := rfl
    rw [hr]
    generalize (y.path == d) = b at *
    clear c2 hr hP hB0
    go_enter Tryd.func57, Tryd.ntmps57
    go_wp2_with fail
    -- REGION has 4
    refine wp_region_held_drew (S := fun W => HasAt w W p q y d) (by kernel_rfl) hS.drew (fun hHeld => ?_)
    refine wpAnyH_take (i := 0) (oi := ⟨some 5, .move (.tmp 0), _, _, _, none⟩) (v := ?_) rfl (by kernel_rfl) (by kernel_rfl) (by kernel_rfl) (fun _ _ _ h => h) (Or.inl ⟨by rfl, ?_⟩) hHeld ?_
    rotate_left
    · intro W _; go_simp; try with_reducible rfl
    try simp only [Act.put, List.setIfInBounds_toArray, List.set_cons_zero, List.set_cons_succ]
    refine wpAnyH_take (i := 1) (oi := ⟨some 6, .nilCheck (.tmp 5), _, _, _, none⟩) (v := ?_) rfl (by kernel_rfl) (by kernel_rfl) (by kernel_rfl) (fun _ _ _ h => h) (Or.inl ⟨by rfl, ?_⟩) hHeld ?_
    rotate_left
    · intro W _; go_simp; try with_reducible rfl
    try simp only [Act.put, List.setIfInBounds_toArray, List.set_cons_zero, List.set_cons_succ]
    refine wpAnyH_take (i := 2) (oi := ⟨some 7, .fieldAddr 88 (.tmp 6) 2, _, _, _, none⟩) (v := ?_) rfl (by kernel_rfl) (by kernel_rfl) (by kernel_rfl) (fun _ _ _ h => h) (Or.inl ⟨by rfl, ?_⟩) hHeld ?_
    rotate_left
    · intro W _; go_simp; try with_reducible rfl
    try simp only [Act.put, List.setIfInBounds_toArray, List.set_cons_zero, List.set_cons_succ]
    refine wpAnyH_take (i := 3) (oi := ⟨some 8, .load 3 (.tmp 7), _, _, _, none⟩) (v := ?_) rfl (by kernel_rfl) (by kernel_rfl) (by kernel_rfl) (fun _ _ _ h => h) (Or.inl ⟨by rfl, ?_⟩) hHeld ?_
    rotate_left
    · intro W hS; have h0 := hS.size; go_simp; try with_reducible rfl
    try simp only [Act.put, List.setIfInBounds_toArray, List.set_cons_zero, List.set_cons_succ]
    refine wpAnyH_take (i := 4) (oi := ⟨some 9, .binOp .eql 3 (.tmp 8) (.const (.int .i64 1)) 3, _, _, _, none⟩) (v := ?_) rfl (by kernel_rfl) (by kernel_rfl) (by kernel_rfl) (fun _ _ _ h => h) (Or.inl ⟨by rfl, ?_⟩) hHeld ?_
    rotate_left
    · intro W _; go_simp; try with_reducible rfl
    try simp only [Act.put, List.setIfInBounds_toArray, List.set_cons_zero, List.set_cons_succ]
    refine wpAnyH_take (i := 5) (oi := ⟨some 10, .move (.tmp 9), _, _, _, none⟩) (v := ?_) rfl (by kernel_rfl) (by kernel_rfl) (by kernel_rfl) (fun _ _ _ h => h) (Or.inl ⟨by rfl, ?_⟩) hHeld ?_
    rotate_left
    · intro W _; go_simp; try with_reducible rfl
    try simp only [Act.put, List.setIfInBounds_toArray, List.set_cons_zero, List.set_cons_succ]
    refine wpAnyH_take (i := 6) (oi := ⟨some 11, .move (.tmp 0), _, _, _, some (5, true)⟩) (v := ?_) rfl (by kernel_rfl) (by kernel_rfl) (by kernel_rfl) (fun _ _ _ h => h) (Or.inl ⟨by rfl, ?_⟩) hHeld ?_
    rotate_left
    · intro W _; go_simp; try with_reducible rfl
    try simp only [Act.put, List.setIfInBounds_toArray, List.set_cons_zero, List.set_cons_succ]
    refine wpAnyH_take (i := 7) (oi := ⟨some 12, .nilCheck (.tmp 11), _, _, _, some (5, true)⟩) (v := ?_) rfl (by kernel_rfl) (by kernel_rfl) (by kernel_rfl) (fun _ _ _ h => h) (Or.inl ⟨by rfl, ?_⟩) hHeld ?_
    rotate_left
    · intro W _; go_simp; try with_reducible rfl
    try simp only [Act.put, List.setIfInBounds_toArray, List.set_cons_zero, List.set_cons_succ]
    refine wpAnyH_take (i := 8) (oi := ⟨some 13, .fieldAddr 88 (.tmp 12) 3, _, _, _, some (5, true)⟩) (v := ?_) rfl (by kernel_rfl) (by kernel_rfl) (by kernel_rfl) (fun _ _ _ h => h) (Or.inl ⟨by rfl, ?_⟩) hHeld ?_
    rotate_left
    · intro W _; go_simp; try with_reducible rfl
    try simp only [Act.put, List.setIfInBounds_toArray, List.set_cons_zero, List.set_cons_succ]
    refine wpAnyH_take (i := 9) (oi := ⟨some 14, .load 86 (.tmp 13), _, _, _, some (5, true)⟩) (v := ?_) rfl (by kernel_rfl) (by kernel_rfl) (by kernel_rfl) (fun _ _ _ h => h) (Or.inl ⟨by rfl, ?_⟩) hHeld ?_
    rotate_left
    · intro W hS; have h0 := hS.ptr; go_simp; try with_reducible rfl
    try simp only [Act.put, List.setIfInBounds_toArray, List.set_cons_zero, List.set_cons_succ]
    refine wpAnyH_take (i := 10) (oi := ⟨some 15, .nilCheck (.tmp 14), _, _, _, some (5, true)⟩) (v := ?_) rfl (by kernel_rfl) (by kernel_rfl) (by kernel_rfl) (fun _ _ _ h => h) (Or.inl ⟨by rfl, ?_⟩) hHeld ?_
    rotate_left
    · intro W _; go_simp; try with_reducible rfl
    try simp only [Act.put, List.setIfInBounds_toArray, List.set_cons_zero, List.set_cons_succ]
    refine wpAnyH_take (i := 11) (oi := ⟨some 16, .fieldAddr 46 (.tmp 15) 0, _, _, _, some (5, true)⟩) (v := ?_) rfl (by kernel_rfl) (by kernel_rfl) (by kernel_rfl) (fun _ _ _ h => h) (Or.inl ⟨by rfl, ?_⟩) hHeld ?_
    rotate_left
    · intro W _; go_simp; try with_reducible rfl
    try simp only [Act.put, List.setIfInBounds_toArray, List.set_cons_zero, List.set_cons_succ]
    refine wpAnyH_take (i := 12) (oi := ⟨some 17, .load 23 (.tmp 16), _, _, _, some (5, true)⟩) (v := .agg (bs y.path).toArray) rfl (by kernel_rfl) (by kernel_rfl) (by kernel_rfl) (fun _ _ _ h => h) (yieldsIf_load_mid (by rfl) _ _ rfl q 0 rfl (bs y.path) _ (fun W h => (h.leaf.range 0 (fun j hj => by rw [Nat.zero_add, lc, List.getElem?_append_left hj]))) Tryd.underlying23 rfl H5.out) hHeld ?_
    try simp only [Act.put, List.setIfInBounds_toArray, List.set_cons_zero, List.set_cons_succ]
    refine wpAnyH_take (i := 13) (oi := ⟨some 18, .load 23 (.tmp 3), _, _, _, some (5, true)⟩) (v := .agg (bs d).toArray) rfl (by kernel_rfl) (by kernel_rfl) (by kernel_rfl) (fun _ _ _ h => h) (yieldsIf_load_mid (by rfl) _ _ rfl w.heap.size 0 rfl (bs d) _ (fun W h => h.box.allR) Tryd.underlying23 rfl H6.out) hHeld ?_
    try simp only [Act.put, List.setIfInBounds_toArray, List.set_cons_zero, List.set_cons_succ]
    refine wpAnyH_take (i := 14) (oi := ⟨some 19, .binOp .eql 23 (.tmp 17) (.tmp 18) 23, _, _, _, some (5, true)⟩) (v := .bool b) rfl (by kernel_rfl) (by kernel_rfl) (by kernel_rfl) (fun _ _ _ h => h) (yieldsIf_eqE (by rfl) .eql 23 23 (.tmp 17) (.tmp 18) rfl _ _ rfl rfl guardR _ EQ.out) hHeld ?_
    try simp only [Act.put, List.setIfInBounds_toArray, List.set_cons_zero, List.set_cons_succ]
    refine wpAnyH_take (i := 15) (oi := ⟨some 20, .pick (.tmp 10) (.tmp 19) (.const (.bool false)), _, _, _, none⟩) (v := ?_) rfl (by kernel_rfl) (by kernel_rfl) (by kernel_rfl) (fun _ _ _ h => h) (Or.inl ⟨by rfl, ?_⟩) hHeld ?_
    rotate_left
    · intro W _; go_simp; try with_reducible rfl
    try simp only [Act.put, List.setIfInBounds_toArray, List.set_cons_zero, List.set_cons_succ]
    refine wpAnyH_ready (rs := [16]) (by kernel_rfl) (by simp) ?_
    refine AllReadyH.cons (o := ⟨some 4, .assign (.tmp 20), _, _, _, none⟩) rfl (fun K hK => ?_) AllReadyH.nil
    refine step_ofR (by rfl) ?_
    go_simp
    refine hK.out _ _ (hHeld) (fun hHeld => ?_)
    clear hK K
    try simp only [Act.put, List.setIfInBounds_toArray, List.set_cons_zero, List.set_cons_succ]
    refine wpAnyH_done (by kernel_rfl) ?_ _
    -- END has
    go_wp2_with fail
    go_ret
    exact ⟨rfl, hHeld.bel⟩
  | two l r =>
    have hm2 := T.size_two ht
    have hr : T.hasB (.two l r) d = false := rfl
    rw [hr]
    generalize (T.two l r).lvs.length = m at *
    have h1 : ¬ (m : Int) = 1 := by omega
    go_enter Tryd.func57, Tryd.ntmps57
    go_wp2_with fail
    go_quiet (fail)
    go_wp2_with fail
    go_ret
    exact ⟨rfl, Bt hB0 ⟨rfl, rfl, rfl, Nat.le_refl _, fun _ _ => rfl⟩⟩
end
/-! The walks of package smt: the function that with hands to Search; of the library: Search. (gen05C.py writes the regions that draw.) -/
section
open Go.RowKit

/-- what the function knows of a world: its two variables, the path at the place -/
structure PickAt (W : World) (b6 b7 bl off m c i d : Nat) (y : Lf) : Prop where
  row : W.cell? ⟨b6, 0, none⟩ = some (.slice (some ⟨bl, off, none⟩) m c)
  dep : W.cell? ⟨b7, 0, none⟩ = some (.int .i64 (d : Int))
  rng : W.rangeAt bl (off + i * 64) (bs y.path)
theorem PickAt.below {W W' : World} {b6 b7 bl off m c i d : Nat} {y : Lf} (h : PickAt W b6 b7 bl off m c i d y) (hb : Below W.heap.size W W') : PickAt W' b6 b7 bl off m c i d y :=
  ⟨cell_later hb h.row, cell_later hb h.dep, rangeAt_below hb h.rng⟩
theorem PickAt.drew {W : World} {b6 b7 bl off m c i d : Nat} {y : Lf} (h : PickAt W b6 b7 bl off m c i d y) : PickAt W.drew b6 b7 bl off m c i d y := ⟨h.row, h.dep, h.rng⟩

set_option maxRecDepth 100000 in
set_option maxHeartbeats 1000000 in
theorem pick_any (w : World) (b6 b7 bl off m c i d : Nat) (y : Lf) (hy : y.ok) (hS : PickAt w b6 b7 bl off m c i d y) (hi : i < m) (hd : d < 256) :
    Calls Tryd.prog 81 #[.int .i64 (i : Int), .pointer (some ⟨b6, 0, none⟩), .pointer (some ⟨b7, 0, none⟩)] w fun e w' => e = .returned (.bool (bitAt y.path d == 1)) ∧ Below w.heap.size w w' := by
  have H5 := Lib.hid (show (Tryd.prog.info? 23).map (·.size) = some (bs y.path).length by rw [info_digest, bs_length, hy.1])
  have HB := Lib.hid (fun W : World => bitIs1_any W y.path hy.1 d hd)
  have hi' : (i : Int) < (m : Int) := by omega
  generalize (bitAt y.path d == 1) = b at *
  go_enter Tryd.func81, Tryd.ntmps81
  go_wp2_with fail
  -- REGION pick 2
  refine wp_region_held_drew (S := fun W => PickAt W b6 b7 bl off m c i d y) (by kernel_rfl) hS.drew (fun hHeld => ?_)
  refine wpAnyH_take (i := 0) (oi := ⟨some 5, .load 41 (.tmp 1), _, _, _, none⟩) (v := ?_) rfl (by kernel_rfl) (by kernel_rfl) (by kernel_rfl) (fun _ _ _ h => h) (Or.inl ⟨by rfl, ?_⟩) hHeld ?_
  rotate_left
  · intro W hS; have h0 := hS.row; go_simp; try with_reducible rfl
  try simp only [Act.put, List.setIfInBounds_toArray, List.set_cons_zero, List.set_cons_succ]
  refine wpAnyH_take (i := 1) (oi := ⟨some 6, .move (.tmp 0), _, _, _, none⟩) (v := ?_) rfl (by kernel_rfl) (by kernel_rfl) (by kernel_rfl) (fun _ _ _ h => h) (Or.inl ⟨by rfl, ?_⟩) hHeld ?_
  rotate_left
  · intro W _; go_simp; try with_reducible rfl
  try simp only [Act.put, List.setIfInBounds_toArray, List.set_cons_zero, List.set_cons_succ]
  refine wpAnyH_take (i := 2) (oi := ⟨some 7, .indexAddr 41 (.tmp 5) (.tmp 6), _, _, _, none⟩) (v := ?_) rfl (by kernel_rfl) (by kernel_rfl) (by kernel_rfl) (fun _ _ _ h => h) (Or.inl ⟨by rfl, ?_⟩) hHeld ?_
  rotate_left
  · intro W _; go_simp; try with_reducible rfl
  try simp only [Act.put, List.setIfInBounds_toArray, List.set_cons_zero, List.set_cons_succ]
  refine wpAnyH_take (i := 3) (oi := ⟨some 8, .fieldAddr 46 (.tmp 7) 0, _, _, _, none⟩) (v := ?_) rfl (by kernel_rfl) (by kernel_rfl) (by kernel_rfl) (fun _ _ _ h => h) (Or.inl ⟨by rfl, ?_⟩) hHeld ?_
  rotate_left
  · intro W _; go_simp; try with_reducible rfl
  try simp only [Act.put, List.setIfInBounds_toArray, List.set_cons_zero, List.set_cons_succ]
  refine wpAnyH_take (i := 4) (oi := ⟨some 9, .load 23 (.tmp 8), _, _, _, none⟩) (v := .agg (bs y.path).toArray) rfl (by kernel_rfl) (by kernel_rfl) (by kernel_rfl) (fun _ _ _ h => h) (yieldsIf_load_mid (by rfl) _ _ rfl bl (off + i * 64) rfl (bs y.path) _ (fun W h => h.rng) Tryd.underlying23 rfl H5.out) hHeld ?_
  try simp only [Act.put, List.setIfInBounds_toArray, List.set_cons_zero, List.set_cons_succ]
  refine wpAnyH_take (i := 5) (oi := ⟨some 10, .load 3 (.tmp 2), _, _, _, none⟩) (v := ?_) rfl (by kernel_rfl) (by kernel_rfl) (by kernel_rfl) (fun _ _ _ h => h) (Or.inl ⟨by rfl, ?_⟩) hHeld ?_
  rotate_left
  · intro W hS; have h0 := hS.dep; go_simp; try with_reducible rfl
  try simp only [Act.put, List.setIfInBounds_toArray, List.set_cons_zero, List.set_cons_succ]
  refine wpAnyH_ready (rs := [6]) (by kernel_rfl) (by simp) ?_
  refine AllReadyH.cons (o := ⟨some 11, .call { callee := .value (.func 56), args := #[.tmp 9, .tmp 10], argTypes := #[23, 3] }, _, _, _, none⟩) rfl (fun K hK => ?_) AllReadyH.nil
  refine step_ofR (by rfl) ?_
  go_simp
  refine (HB.out _).mono ?_
  rintro x W1 ⟨rfl, hb1⟩
  refine hK.out _ _ (hHeld.below hb1) (fun hHeld => ?_)
  clear hK K
  try simp only [Act.put, List.setIfInBounds_toArray, List.set_cons_zero, List.set_cons_succ]
  refine wpAnyH_ready (rs := [7]) (by kernel_rfl) (by simp) ?_
  refine AllReadyH.cons (o := ⟨some 4, .assign (.tmp 11), _, _, _, none⟩) rfl (fun K hK => ?_) AllReadyH.nil
  refine step_ofR (by rfl) ?_
  go_simp
  refine hK.out _ _ (hHeld) (fun hHeld => ?_)
  clear hK K
  try simp only [Act.put, List.setIfInBounds_toArray, List.set_cons_zero, List.set_cons_succ]
  refine wpAnyH_done (by kernel_rfl) ?_ _
  -- END pick
  go_wp2_with fail
  go_ret
  exact ⟨rfl, Bt (below_drew (Below.refl _ _)) hb1⟩

set_option maxRecDepth 100000 in
set_option maxHeartbeats 1000000 in
/-- Search: the first place at which the function says yes -/
theorem search_any (g : Nat) (cb : Array Value) (n c : Nat) (p : Nat → Bool) (w : World) (hn : n ≤ 1000000)
    (hf : ∀ W i, Below w.heap.size w W → i < n → Calls Tryd.prog g (#[.int .i64 (i : Int)] ++ cb) W fun e w' => e = .returned (.bool (p i)) ∧ Below W.heap.size W w')
    (eg : ∀ args w, (callFunc g args).run Tryd.prog w = .ok (.enter g args) w) (hc : c ≤ n) (h1 : ∀ t, t < c → p t = false) (h2 : ∀ t, c ≤ t → t < n → p t = true) :
    Calls Tryd.prog 80 #[.int .i64 (n : Int), .func (.func g) #[] cb] w fun e w' => e = .returned (.int .i64 (c : Int)) ∧ Below w.heap.size w w' := by
  have HF := Lib.hid hf
  have H1 := Lib.hid h1
  have H2 := Lib.hid h2
  have hnot : ∀ (x : Bool) (w : World), (Op.unary .not (.bool x)).run Tryd.prog w = .ok (.bool (!x)) w := fun _ _ => rfl
  clear hf h1 h2
  go_enter Tryd.func80, Tryd.ntmps80
  go_wp2_with fail
  go_loopw [5, 6, 7] (fun s t _ wr => ∃ (lo hi : Nat), s = .int .i64 lo ∧ t = .int .i64 hi ∧ lo ≤ c ∧ c ≤ hi ∧ hi ≤ n ∧ Below w.heap.size w wr) (fun s t _ _ => (intOf t - intOf s).toNat)
  case atStart => exact ⟨0, n, rfl, rfl, by omega, hc, Nat.le_refl _, Below.refl _ _⟩
  case round =>
    obtain ⟨lo, hi, rfl, rfl, hl, hh, hhn, hB⟩ := hrel
    by_cases hlt : lo < hi
    · have hlt' : (lo : Int) < (hi : Int) := by omega
      go_wp2_with fail
      obtain ⟨h, hh2⟩ : ∃ h, h = (lo + hi) / 2 := ⟨_, rfl⟩
      have e : ((lo : Int) + (hi : Int)) / 2 = (h : Int) := by omega
      rw [e]
      have h3 : lo ≤ h := by omega
      have h4 : h < hi := by omega
      have hc := HF.out wr h hB (by omega)
      clear hh2 e
      cases hp : p h with
      | true =>
        rw [hp] at hc
        have hch : c ≤ h := by
          rcases Nat.lt_or_ge h c with h5 | h5
          · rw [H1.out h h5] at hp; cases hp
          · exact h5
        refine hc.mono ?_
        rintro e w1 ⟨rfl, hB1⟩
        go_wp2_with fail
        refine ⟨⟨lo, h, rfl, rfl, hl, hch, by omega, Bt hB hB1⟩, by simp [intOf]; omega⟩
      | false =>
        rw [hp] at hc
        have hch : h + 1 ≤ c := by
          rcases Nat.lt_or_ge h c with h5 | h5
          · exact h5
          · rw [H2.out h h5 (by omega)] at hp; cases hp
        refine hc.mono ?_
        rintro e w1 ⟨rfl, hB1⟩
        go_wp2_with fail
        refine ⟨⟨h + 1, hi, by go_num, rfl, hch, hh, hhn, Bt hB hB1⟩, by simp [intOf]; omega⟩
    · obtain rfl : lo = hi := by omega
      obtain rfl : c = lo := by omega
      have hlt' : ¬ (c : Int) < (c : Int) := by omega
      go_wp2_with fail
      go_ret
      exact ⟨rfl, hB⟩
end
/-! The walk of package smt: with. (gen05C.py writes the region that draws.) -/
section
open Go.RowKit

theorem elemL : Tryd.prog.elem 41 = 46 := by kernel_rfl
theorem underL : Tryd.prog.underlying 41 = some (.slice (Tryd.prog.elem 41)) := by kernel_rfl
theorem sizeLf (w : World) : (sizeOf 46).run Tryd.prog w = .ok 64 w := by kernel_rfl
/-- s[:k] -/
theorem cutHi (W : World) (a : Option Addr) (n c k : Nat) (hk : k ≤ c) :
    (Instr.slice 41 (.slice a n c) none (some (.int .i64 (k : Int))) none).run Tryd.prog W = .ok (.slice a k c) W ∧
    (Instr.sliceAt 41 (.slice a n c) none (some (.int .i64 (k : Int))) none).run Tryd.prog W = .ok (.slice a k c) W := by
  have h : (Instr.slice 41 (.slice a n c) none (some (.int .i64 (k : Int))) none).run Tryd.prog W = .ok (.slice a k c) W := by
    rw [run_slice_h W 41 a n c underL .i64 (k : Int) (by omega) (by omega), elemL, sizeLf]
    cases a <;> simp [sliced, Result.andThen, Addr.add]
  exact ⟨h, by rw [run_sliceAt_slice W 41 _ _ _ _ underL]; exact h⟩
/-- where s[k:] begins -/
def tailA (a : Option Addr) (c k : Nat) : Option Addr := if c = k then a else a.map fun x => x.add (k * 64)
theorem cutLo (W : World) (a : Option Addr) (n c k : Nat) (hk : k ≤ n) :
    (Instr.slice 41 (.slice a n c) (some (.int .i64 (k : Int))) none none).run Tryd.prog W = .ok (.slice (tailA a c k) (n - k) (c - k)) W ∧
    (Instr.sliceAt 41 (.slice a n c) (some (.int .i64 (k : Int))) none none).run Tryd.prog W = .ok (.slice (tailA a c k) (n - k) (c - k)) W := by
  have h : (Instr.slice 41 (.slice a n c) (some (.int .i64 (k : Int))) none none).run Tryd.prog W = .ok (.slice (tailA a c k) (n - k) (c - k)) W := by
    rw [run_slice_l W 41 a n c underL .i64 (k : Int) (by omega) (by omega), elemL, sizeLf]
    simp [sliced, Result.andThen, tailA]
  exact ⟨h, by rw [run_sliceAt_slice W 41 _ _ _ _ underL]; exact h⟩
theorem RdL.tailA {w : World} {a : Option Addr} {n c : Nat} {l : List Lf} (h : RdL w a n c l) (k : Nat) (hk : k ≤ n) : RdL w (tailA a c k) (n - k) (c - k) (l.drop k) := by
  have hc := h.cap
  by_cases e : c = k
  · have hn : n = k := by omega
    have hl := h.len
    have hd : l.drop k = [] := List.drop_eq_nil_of_le (by omega)
    unfold Go.Proofs.YtgbhfpkngjlfkaaDoor.tailA
    rw [if_pos e, hd]
    refine ⟨by simp; omega, fun _ h => (by simp at h), by omega, by have := h.max; omega, fun _ => ⟨by omega, by omega⟩, fun _ _ j u hu => (by simp [lcs] at hu)⟩
  · unfold Go.Proofs.YtgbhfpkngjlfkaaDoor.tailA
    rw [if_neg e]
    exact h.tail k hk
theorem More.mono {n m : Nat} {G G' : Tag} (h : More m G G') (hnm : n ≤ m) : More n G G' := ⟨h.1, fun k hk => h.2 k (by omega)⟩

/-- s[lo:hi] in a region that draws its order -/
theorem yields_slice {ops : Array Oper} {S : World → Prop} {o : Oper} {a : Act} (hw : Region.wanted o (yielded ops a.tmps) = true) (t : TypeId) (x : Operand) (lo hi : Option Operand) (ho : o.op = .slice t x lo hi none) (v : Value)
    (hrun : ∀ W : World, (Instr.sliceAt t (a.eval x) (lo.map a.eval) (hi.map a.eval) none).run Tryd.prog W = .ok v W) : YieldsIf Tryd.prog ops S o v a :=
  .inl ⟨hw, fun W _ => by simp [execOp, ho, hrun]⟩
/-- what with knows of a world: its two variables -/
structure TwoBox (W : World) (b6 b7 : Nat) (a : Option Addr) (m c n : Nat) : Prop where
  row : W.cell? ⟨b6, 0, none⟩ = some (.slice a m c)
  dep : W.cell? ⟨b7, 0, none⟩ = some (.int .i64 (n : Int))
theorem TwoBox.below {W W' : World} {b6 b7 : Nat} {a : Option Addr} {m c n : Nat} (h : TwoBox W b6 b7 a m c n) (hb : Below W.heap.size W W') : TwoBox W' b6 b7 a m c n := ⟨cell_later hb h.row, cell_later hb h.dep⟩
theorem TwoBox.drew {W : World} {b6 b7 : Nat} {a : Option Addr} {m c n : Nat} (h : TwoBox W b6 b7 a m c n) : TwoBox W.drew b6 b7 a m c n := ⟨h.row, h.dep⟩
theorem TwoBox.start (w : World) (a : Option Addr) (m c n : Nat) : TwoBox ((w.alloc (.cells #[.slice a m c] 41)).alloc (.cells #[.int .i64 (n : Int)] 3)) w.heap.size (w.heap.size + 1) a m c n := by
  have h0 := (Blk.new w 41 [.slice a m c]).alloc (.cells #[.int .i64 (n : Int)] 3)
  have h1 := Blk.new (w.alloc (.cells #[.slice a m c] 41)) 3 [.int .i64 (n : Int)]
  rw [show (w.alloc (.cells #[.slice a m c] 41)).heap.size = w.heap.size + 1 by simp] at h1
  exact ⟨h0.cell rfl, h1.cell rfl⟩

theorem enter_with1 (args : Array Value) (w : World) : (callFunc 81 args).run Tryd.prog w = .ok (.enter 81 args) w := by go_simp
theorem getD_take {l : List Lf} {t k : Nat} (h : t < k) (hk : k ≤ l.length) : l.getD t lf0 ∈ l.take k := by
  refine List.mem_of_getElem? (i := t) ?_
  rw [List.getElem?_take, if_pos h]
  simp [List.getD, show t < l.length by omega]
theorem getD_drop {l : List Lf} {t k : Nat} (h : k ≤ t) (ht : t < l.length) : l.getD t lf0 ∈ l.drop k := by
  refine List.mem_of_getElem? (i := t - k) ?_
  rw [List.getElem?_drop, show k + (t - k) = t by omega]
  simp [List.getD, ht]

/-- what a call of with gives -/
def WithPost (base x : Nat) (G : Tag) (t : T) (w : World) (e : Ending) (w' : World) : Prop :=
  ∃ s G', e = .returned (.pointer (some ⟨s, 0, none⟩)) ∧ G' s = some t ∧ Inv base x G' noL w' ∧ More w.heap.size G G' ∧ Below w.heap.size w w'

set_option maxRecDepth 100000 in
set_option maxHeartbeats 3000000 in
/-- the leaves parted, and both parts done -/
theorem with_any (base x : Nat) : ∀ (k : Nat) (G : Tag) (w : World) (tp pn p : Nat) (t : T) (n : Nat) (a : Option Addr) (m c : Nat) (l : List Lf) (ni : Int), ni = (n : Int) → n + k = 257 → n ≤ 256 → base ≤ w.heap.size → Inv base x G noL w →
    w.cell? ⟨tp, 0, none⟩ = some (.pointer (some ⟨pn, 0, none⟩)) → G pn = some .none → G p = some t → t.wf n → RdL w a m c l → unlike l → inOrder l → agree (t.lvs ++ l) n → t.lvs.length + m ≤ 100000 →
    Calls Tryd.prog 55 #[.pointer (some ⟨tp, 0, none⟩), .pointer (some ⟨p, 0, none⟩), .slice a m c, .int .i64 ni] w (WithPost base x G (T.put k t l n) w) := by
  intro k
  induction k with
  | zero => intro _ _ _ _ _ _ n _ _ _ _ _ _ h1 h2; omega
  | succ k ih =>
    intro G w tp pn p t n a m c l ni hni hk hn hb hI hc hpn hp ht hr hu ho ha hsz
    subst hni
    have hS0 := TwoBox.start w a m c n
    have hB0 : Below w.heap.size w ((w.alloc (.cells #[.slice a m c] 41)).alloc (.cells #[.int .i64 (n : Int)] 3)) := ((Below.refl _ w).alloc (Nat.le_refl _) _).alloc (by simp) _
    have hmf : ∀ (fn : Fn) (first cap : Array Value) (w : World), (Instr.makeFunc fn first cap).run Tryd.prog w = .ok (.func fn first cap) w := fun _ _ _ _ => rfl
    have hl := hr.len
    cases l with
    | nil =>
      obtain rfl : m = 0 := hl.symm
      have hr0 := hS0.row
      go_enter Tryd.func55, Tryd.ntmps55
      go_wp2_with fail
      go_ret
      exact ⟨p, G, rfl, hp, hI.below hB0, More.refl _ _, hB0⟩
    | cons y l =>
      have hy : y.ok := hr.ok y (by simp)
      have hm : m = l.length + 1 := by simpa using hl.symm
      obtain ⟨bl, off, rfl, hbl, hel⟩ := hr.elems (by omega)
      have r0 := rangeAt_below hB0 (hel 0 (by omega))
      rw [Nat.zero_mul, Nat.add_zero] at r0
      replace r0 : ((w.alloc (.cells #[.slice (some ⟨bl, off, none⟩) m c] 41)).alloc (.cells #[.int .i64 (n : Int)] 3)).rangeAt bl off (lc y) := r0
      have r1 := range_path r0
      have H5 := Lib.hid (show (Tryd.prog.info? 23).map (·.size) = some (bs y.path).length by rw [info_digest, bs_length, hy.1])
      have HY := Lib.hid (show (Tryd.prog.info? 46).map (·.size) = some (lc y).length by rw [lc_length hy]; exact infoLeafS)
      obtain ⟨dn1, sum1, lf1, le1, ri1, hP⟩ := hI.nd hp
      have c36 := cell_later hB0 hP.size
      have d0 := hS0.row
      have d1 := hS0.dep
      have HPUT := Lib.hid (show T.put (k + 1) t (y :: l) n = if l.length = 0 ∧ t.fits y = true then .one y else T.joined (T.put k (t.left n) ((y :: l).take (onesAt (y :: l) n)) (n + 1)) (T.put k (t.right n) ((y :: l).drop (onesAt (y :: l) n)) (n + 1)) from rfl)
      have HAS := Lib.hid (fun (W : World) (h : Below w.heap.size w W) => has_any W base x G (hI.below h) p t hp n ht y.path hy.1)
      have SG := Lib.hid (fun (W : World) (h : Below w.heap.size w W) => single_any W base x (Nat.le_trans hb h.size) G (hI.below h) tp pn (cell_later h hc) hpn y)
      have hm0 : (0 : Int) < (m : Int) := by omega
      by_cases hfit : l.length = 0 ∧ t.fits y = true
      · rw [if_pos hfit] at HPUT
        obtain ⟨h0, hf⟩ := hfit
        obtain rfl : l = [] := List.eq_nil_of_length_eq_zero h0
        obtain rfl : m = 1 := hm
        clear hel hl hm0
        cases t with
        | none =>
          replace c36 : ((w.alloc (.cells #[.slice (some ⟨bl, off, none⟩) 1 c] 41)).alloc (.cells #[.int .i64 (n : Int)] 3)).cell? ⟨p, 36, none⟩ = some (.int .i64 0) := c36
          go_enter Tryd.func55, Tryd.ntmps55
          go_wp2_with ((with_reducible refine wpList_loadM (o := ⟨some 39, _, _, _, _, _⟩) ?_ bl off 46 (.tmp 38) ?_ ?_ r0 Tryd.underlying46 ?_ HY.out ?_); rfl; rfl; rfl; rfl)
          generalize (w.alloc _).alloc _ = w0 at *
          refine (SG.out w0 hB0).mono ?_
          rintro e w1 ⟨q, rfl, hI1, hq, hB1⟩
          have hsz0 := hB0.size
          go_wp2_with fail
          go_ret
          exact ⟨q, G.add q (.one y), rfl, by rw [HPUT.out]; exact Tag.add_same _ _ _, hI1, Tag.add_more _ (hI.free (by omega)) (by omega), Bt hB0 hB1⟩
        | one z =>
          replace c36 : ((w.alloc (.cells #[.slice (some ⟨bl, off, none⟩) 1 c] 41)).alloc (.cells #[.int .i64 (n : Int)] 3)).cell? ⟨p, 36, none⟩ = some (.int .i64 1) := c36
          rw [show T.hasB (.one z) y.path = true from hf] at HAS
          go_enter Tryd.func55, Tryd.ntmps55
          go_wp2_with ((with_reducible refine wpList_loadG (o := ⟨some 32, _, _, _, _, _⟩) ?_ bl off 23 (.tmp 31) ?_ ?_ r1 Tryd.underlying23 ?_ H5.out ?_); rfl; rfl; rfl; rfl)
          generalize (w.alloc _).alloc _ = w0 at *
          refine (HAS.out w0 hB0).mono ?_
          rintro e w2 ⟨rfl, hB2⟩
          have hB3 := Bt hB0 hB2
          have e0 := cell_later hB2 d0
          have q0 := rangeAt_below hB2 r0
          go_wp2_with ((with_reducible refine wpList_loadM (o := ⟨some 39, _, _, _, _, _⟩) ?_ bl off 46 (.tmp 38) ?_ ?_ q0 Tryd.underlying46 ?_ HY.out ?_); rfl; rfl; rfl; rfl)
          refine (SG.out w2 hB3).mono ?_
          rintro e w1 ⟨q, rfl, hI1, hq, hB1⟩
          have hsz0 := hB3.size
          go_wp2_with fail
          go_ret
          exact ⟨q, G.add q (.one y), rfl, by rw [HPUT.out]; exact Tag.add_same _ _ _, hI1, Tag.add_more _ (hI.free (by omega)) (by omega), Bt hB3 hB1⟩
        | two l1 r1 => cases hf
      · have hn256 : n < 256 := by
          rcases Nat.lt_or_ge n 256 with h' | h'
          · exact h'
          · exfalso
            have h1 : (y :: l).length ≤ 1 := unlike_agree hr.ok hu (agree_sub ha (fun z hz => List.mem_append.2 (.inr hz))) h'
            obtain rfl : l = [] := List.eq_nil_of_length_eq_zero (by simpa using h1)
            exact hfit ⟨rfl, fits_deep ht hy ha h'⟩
        rw [if_neg hfit] at HPUT
        obtain ⟨uL, oL, aL⟩ := put_left ht hr.ok hu ho ha
        obtain ⟨uR, oR, aR⟩ := put_right ht hr.ok hu ho ha
        obtain ⟨z0, z1⟩ := split_bits (bits_rise hr.ok ho (agree_sub ha (fun z hz => List.mem_append.2 (.inr hz))))
        have hkk := onesAt_le (y :: l) n
        have hpl0 := put_len k (t.left n) ((y :: l).take (onesAt (y :: l) n)) (n + 1)
        have hpr0 := put_len k (t.right n) ((y :: l).drop (onesAt (y :: l) n)) (n + 1)
        have hparts := parts_len t n
        rw [List.length_take] at hpl0
        rw [List.length_drop] at hpr0
        rw [hl] at hkk hpl0 hpr0
        have HNF := Lib.hid hfit
        clear hfit
        generalize onesAt (y :: l) n = kk at *
        have CUTHI := Lib.hid (fun W : World => cutHi W (some ⟨bl, off, none⟩) m c kk (by have := hr.cap; omega))
        have CUTLO := Lib.hid (fun W : World => cutLo W (some ⟨bl, off, none⟩) m c kk hkk)
        have SD := Lib.hid (fun (W : World) (h : Below w.heap.size w W) => sides_any W base x G (hI.below h) tp pn (cell_later h hc) hpn p t hp n ht hn256)
        have SE := Lib.hid (fun (W : World) (h : Below w.heap.size w W) (hb : TwoBox W w.heap.size (w.heap.size + 1) (some ⟨bl, off, none⟩) m c n) =>
          search_any 81 #[.pointer (some ⟨w.heap.size, 0, none⟩), .pointer (some ⟨w.heap.size + 1, 0, none⟩)] m kk (fun i => bitAt ((y :: l).getD i lf0).path n == 1) W (by omega)
            (fun W' i hW hi => pick_any W' w.heap.size (w.heap.size + 1) bl off m c i n ((y :: l).getD i lf0) (hr.ok.at (by rw [hl]; exact hi))
              ⟨cell_later hW hb.row, cell_later hW hb.dep, rangeAt_below (Bt h hW) (range_path (hel i hi))⟩ hi hn256)
            enter_with1 hkk (fun i hi => by show (bitAt ((y :: l).getD i lf0).path n == 1) = false; rw [z0 _ (getD_take hi (by rw [hl]; exact hkk))]; rfl) (fun i h1 h2 => by show (bitAt ((y :: l).getD i lf0).path n == 1) = true; rw [z1 _ (getD_drop h1 (by rw [hl]; exact h2))]; rfl))
        have WA := Lib.hid (fun (pl : Nat) (hpl : G pl = some (t.left n)) (W : World) (hi : Inv base x G noL W) (h : Below w.heap.size w W) =>
          ih G W tp pn pl (t.left n) (n + 1) (some ⟨bl, off, none⟩) kk c ((y :: l).take kk) ((n : Int) + 1) (by omega) (by omega) (by omega) (Nat.le_trans hb h.size) hi (cell_later h hc) hpn hpl (T.left_wf ht).1 ((hr.below h).take kk hkk) uL oL aL (by omega))
        have WB := Lib.hid (fun (pr : Nat) (hpr : G pr = some (t.right n)) (W : World) (G1 : Tag) (hm1 : ∀ k u, G k = some u → G1 k = some u) (hi : Inv base x G1 noL W) (h : Below w.heap.size w W) =>
          ih G1 W tp pn pr (t.right n) (n + 1) _ (m - kk) (c - kk) ((y :: l).drop kk) ((n : Int) + 1) (by omega) (by omega) (by omega) (Nat.le_trans hb h.size) hi (cell_later h hc) (hm1 _ _ hpn) (hm1 _ _ hpr) (T.right_wf ht).1 ((hr.below h).tailA kk hkk) uR oR aR (by omega))
        generalize T.put k (t.left n) ((y :: l).take kk) (n + 1) = TL at *
        generalize T.put k (t.right n) ((y :: l).drop kk) (n + 1) = TR at *
        have JO := Lib.hid (fun (W : World) (G2 : Tag) (s1 s2 : Nat) (hm2 : ∀ k u, G k = some u → G2 k = some u) (h1 : G2 s1 = some TL) (h2 : G2 s2 = some TR) (hi : Inv base x G2 noL W) (h : Below w.heap.size w W) =>
          joined_any W base x (Nat.le_trans hb h.size) G2 hi tp pn (cell_later h hc) (hm2 _ _ hpn) s1 s2 TL TR h1 h2 (by omega))
        have HB := Lib.hid hB0
        have HSS := Lib.hid hS0
        have HI := Lib.hid hI
        clear ih
        have hwr : IntKind.i64.wrap ((n : Int) + 1) = (n : Int) + 1 := IntWalk.i64_in _ (by omega)
        by_cases hm1 : m = 1
        case' pos =>
          subst hm1
          obtain rfl : l = [] := List.eq_nil_of_length_eq_zero (by omega)
          have hnf : t.fits y = false := by
            cases e : t.fits y
            · rfl
            · exact absurd ⟨rfl, e⟩ HNF.out
          have HTL := Lib.hid (show T.hasB t y.path = false from by
            cases t with
            | none => rfl
            | one z => exact hnf
            | two l1 r1 => rfl)
          have hsz0 : (t.lvs.length : Int) ≠ 0 := by
            cases t with
            | none => cases hnf
            | one z => simp [T.lvs]
            | two l1 r1 => have := T.size_two ht; omega
          rw [HTL.out] at HAS
          have hsz1 : ((t.lvs.length : Int) == 0) = false := by simpa using hsz0
          generalize hsl : t.lvs.length = sl at *
          clear hl hm hm0 hsl hel HTL
          go_enter Tryd.func55, Tryd.ntmps55
          go_wp2_with ((with_reducible refine wpList_loadG (o := ⟨some 32, _, _, _, _, _⟩) ?_ bl off 23 (.tmp 31) ?_ ?_ r1 Tryd.underlying23 ?_ H5.out ?_); rfl; rfl; rfl; rfl)
          generalize (w.alloc _).alloc _ = w0 at *
          refine (HAS.out w0 hB0).mono ?_
          rintro e w1 ⟨rfl, hB01⟩
          have hB1 := Bt hB0 hB01
          have hS1 := hS0.below hB01
          have f0 := hS1.row
          have f1 := hS1.dep
          clear d0 d1 c36 r0 r1 hS0 HSS HB
          go_wp2_with fail
        case' neg =>
          have hm1' : ¬ (m : Int) = 1 := by omega
          have HM := Lib.hid hm
          clear hm hl
          go_enter Tryd.func55, Tryd.ntmps55
          go_wp2_with fail
          generalize (w.alloc _).alloc _ = w1 at *
          have hB1 := hB0
          have hS1 := hS0
        all_goals
          refine (SD.out w1 hB1).mono ?_
          rintro e w2 ⟨pl, pr, rfl, hpl, hpr, hB2⟩
          have hB12 := Bt hB1 hB2
          have hS2 := hS1.below hB2
          have f2 := hS2.row
          have f3 := hS2.dep
          go_wp2_with fail
          refine (SE.out w2 hB12 hS2).mono ?_
          rintro e w5 ⟨rfl, hB25⟩
          have hB5 := Bt hB12 hB25
          have hS := hS2.below hB25
          have hI5 := hI.below hB5
          have f4 := hS.row
          have f5 := hS.dep
          replace WA := Lib.hid (WA.out pl hpl)
          replace WB := Lib.hid (WB.out pr hpr)
          clear f2 f3
          go_wp2_with fail
          -- REGION with 10
          refine wp_region_held_drew (S := fun W => TwoBox W w.heap.size (w.heap.size + 1) (some ⟨bl, off, none⟩) _ c n) (by kernel_rfl) hS.drew (fun hHeld => ?_)
          refine wpAnyH_take (i := 0) (oi := ⟨some 52, .move (.tmp 0), _, _, _, none⟩) (v := ?_) rfl (by kernel_rfl) (by kernel_rfl) (by kernel_rfl) (fun _ _ _ h => h) (Or.inl ⟨by rfl, ?_⟩) hHeld ?_
          rotate_left
          · intro W _; go_simp; try with_reducible rfl
          try simp only [Act.put, List.setIfInBounds_toArray, List.set_cons_zero, List.set_cons_succ]
          refine wpAnyH_take (i := 1) (oi := ⟨some 53, .move (.tmp 0), _, _, _, none⟩) (v := ?_) rfl (by kernel_rfl) (by kernel_rfl) (by kernel_rfl) (fun _ _ _ h => h) (Or.inl ⟨by rfl, ?_⟩) hHeld ?_
          rotate_left
          · intro W _; go_simp; try with_reducible rfl
          try simp only [Act.put, List.setIfInBounds_toArray, List.set_cons_zero, List.set_cons_succ]
          refine wpAnyH_take (i := 2) (oi := ⟨some 54, .move (.tmp 9), _, _, _, none⟩) (v := ?_) rfl (by kernel_rfl) (by kernel_rfl) (by kernel_rfl) (fun _ _ _ h => h) (Or.inl ⟨by rfl, ?_⟩) hHeld ?_
          rotate_left
          · intro W _; go_simp; try with_reducible rfl
          try simp only [Act.put, List.setIfInBounds_toArray, List.set_cons_zero, List.set_cons_succ]
          refine wpAnyH_take (i := 3) (oi := ⟨some 55, .load 41 (.tmp 6), _, _, _, none⟩) (v := ?_) rfl (by kernel_rfl) (by kernel_rfl) (by kernel_rfl) (fun _ _ _ h => h) (Or.inl ⟨by rfl, ?_⟩) hHeld ?_
          rotate_left
          · intro W hS; have h0 := hS.row; go_simp; try with_reducible rfl
          try simp only [Act.put, List.setIfInBounds_toArray, List.set_cons_zero, List.set_cons_succ]
          refine wpAnyH_take (i := 4) (oi := ⟨some 56, .move (.tmp 11), _, _, _, none⟩) (v := ?_) rfl (by kernel_rfl) (by kernel_rfl) (by kernel_rfl) (fun _ _ _ h => h) (Or.inl ⟨by rfl, ?_⟩) hHeld ?_
          rotate_left
          · intro W _; go_simp; try with_reducible rfl
          try simp only [Act.put, List.setIfInBounds_toArray, List.set_cons_zero, List.set_cons_succ]
          refine wpAnyH_take (i := 5) (oi := ⟨some 57, .slice 41 (.tmp 55) none (some (.tmp 56)) none, _, _, _, none⟩) (v := _) rfl (by kernel_rfl) (by kernel_rfl) (by kernel_rfl) (fun _ _ _ h => h) (yields_slice (by rfl) _ _ _ _ rfl _ (fun W => (CUTHI.out W).2)) hHeld ?_
          try simp only [Act.put, List.setIfInBounds_toArray, List.set_cons_zero, List.set_cons_succ]
          refine wpAnyH_take (i := 6) (oi := ⟨some 58, .load 3 (.tmp 7), _, _, _, none⟩) (v := ?_) rfl (by kernel_rfl) (by kernel_rfl) (by kernel_rfl) (fun _ _ _ h => h) (Or.inl ⟨by rfl, ?_⟩) hHeld ?_
          rotate_left
          · intro W hS; have h0 := hS.dep; go_simp; try with_reducible rfl
          try simp only [Act.put, List.setIfInBounds_toArray, List.set_cons_zero, List.set_cons_succ]
          refine wpAnyH_take (i := 7) (oi := ⟨some 59, .binOp .add 3 (.tmp 58) (.const (.int .i64 1)) 3, _, _, _, none⟩) (v := ?_) rfl (by kernel_rfl) (by kernel_rfl) (by kernel_rfl) (fun _ _ _ h => h) (Or.inl ⟨by rfl, ?_⟩) hHeld ?_
          rotate_left
          · intro W _; go_simp; try with_reducible rfl
          try simp only [Act.put, List.setIfInBounds_toArray, List.set_cons_zero, List.set_cons_succ]
          refine wpAnyH_take (i := 9) (oi := ⟨some 61, .move (.tmp 0), _, _, _, none⟩) (v := ?_) rfl (by kernel_rfl) (by kernel_rfl) (by kernel_rfl) (fun _ _ _ h => h) (Or.inl ⟨by rfl, ?_⟩) hHeld ?_
          rotate_left
          · intro W _; go_simp; try with_reducible rfl
          try simp only [Act.put, List.setIfInBounds_toArray, List.set_cons_zero, List.set_cons_succ]
          refine wpAnyH_take (i := 10) (oi := ⟨some 62, .move (.tmp 10), _, _, _, none⟩) (v := ?_) rfl (by kernel_rfl) (by kernel_rfl) (by kernel_rfl) (fun _ _ _ h => h) (Or.inl ⟨by rfl, ?_⟩) hHeld ?_
          rotate_left
          · intro W _; go_simp; try with_reducible rfl
          try simp only [Act.put, List.setIfInBounds_toArray, List.set_cons_zero, List.set_cons_succ]
          refine wpAnyH_take (i := 11) (oi := ⟨some 63, .load 41 (.tmp 6), _, _, _, none⟩) (v := ?_) rfl (by kernel_rfl) (by kernel_rfl) (by kernel_rfl) (fun _ _ _ h => h) (Or.inl ⟨by rfl, ?_⟩) hHeld ?_
          rotate_left
          · intro W hS; have h0 := hS.row; go_simp; try with_reducible rfl
          try simp only [Act.put, List.setIfInBounds_toArray, List.set_cons_zero, List.set_cons_succ]
          refine wpAnyH_take (i := 12) (oi := ⟨some 64, .move (.tmp 11), _, _, _, none⟩) (v := ?_) rfl (by kernel_rfl) (by kernel_rfl) (by kernel_rfl) (fun _ _ _ h => h) (Or.inl ⟨by rfl, ?_⟩) hHeld ?_
          rotate_left
          · intro W _; go_simp; try with_reducible rfl
          try simp only [Act.put, List.setIfInBounds_toArray, List.set_cons_zero, List.set_cons_succ]
          refine wpAnyH_take (i := 13) (oi := ⟨some 65, .slice 41 (.tmp 63) (some (.tmp 64)) none none, _, _, _, none⟩) (v := _) rfl (by kernel_rfl) (by kernel_rfl) (by kernel_rfl) (fun _ _ _ h => h) (yields_slice (by rfl) _ _ _ _ rfl _ (fun W => (CUTLO.out W).2)) hHeld ?_
          try simp only [Act.put, List.setIfInBounds_toArray, List.set_cons_zero, List.set_cons_succ]
          refine wpAnyH_take (i := 14) (oi := ⟨some 66, .load 3 (.tmp 7), _, _, _, none⟩) (v := ?_) rfl (by kernel_rfl) (by kernel_rfl) (by kernel_rfl) (fun _ _ _ h => h) (Or.inl ⟨by rfl, ?_⟩) hHeld ?_
          rotate_left
          · intro W hS; have h0 := hS.dep; go_simp; try with_reducible rfl
          try simp only [Act.put, List.setIfInBounds_toArray, List.set_cons_zero, List.set_cons_succ]
          refine wpAnyH_take (i := 15) (oi := ⟨some 67, .binOp .add 3 (.tmp 66) (.const (.int .i64 1)) 3, _, _, _, none⟩) (v := ?_) rfl (by kernel_rfl) (by kernel_rfl) (by kernel_rfl) (fun _ _ _ h => h) (Or.inl ⟨by rfl, ?_⟩) hHeld ?_
          rotate_left
          · intro W _; go_simp; try with_reducible rfl
          try simp only [Act.put, List.setIfInBounds_toArray, List.set_cons_zero, List.set_cons_succ]
          refine wpAnyH_ready (rs := [8]) (by kernel_rfl) (by simp) ?_
          refine AllReadyH.cons (o := ⟨some 60, .call { callee := .value (.func 55), args := #[.tmp 53, .tmp 54, .tmp 57, .tmp 59], argTypes := #[48, 71, 41, 3] }, _, _, _, none⟩) rfl (fun K hK => ?_) AllReadyH.nil
          refine step_ofR (by rfl) ?_
          go_simp
          refine (WA.out _ hI5.drew (below_drew hB5)).mono ?_
          rintro x W1 ⟨s1, G1, rfl, hG1, hI6, hM6, hB6⟩
          refine hK.out _ _ (hHeld.below hB6) (fun hHeld => ?_)
          clear hK K
          try simp only [Act.put, List.setIfInBounds_toArray, List.set_cons_zero, List.set_cons_succ]
          refine wpAnyH_ready (rs := [16]) (by kernel_rfl) (by simp) ?_
          refine AllReadyH.cons (o := ⟨some 68, .call { callee := .value (.func 55), args := #[.tmp 61, .tmp 62, .tmp 65, .tmp 67], argTypes := #[48, 71, 41, 3] }, _, _, _, none⟩) rfl (fun K hK => ?_) AllReadyH.nil
          refine step_ofR (by rfl) ?_
          go_simp
          refine (WB.out _ G1 hM6.1 hI6 (Bt (below_drew hB5) hB6)).mono ?_
          rintro x W1 ⟨s2, G2, rfl, hG2, hI7, hM7, hB7⟩
          refine hK.out _ _ (hHeld.below hB7) (fun hHeld => ?_)
          clear hK K
          try simp only [Act.put, List.setIfInBounds_toArray, List.set_cons_zero, List.set_cons_succ]
          refine wpAnyH_ready (rs := [17]) (by kernel_rfl) (by simp) ?_
          refine AllReadyH.cons (o := ⟨some 69, .call { callee := .value (.func 82), args := #[.tmp 52, .tmp 60, .tmp 68], argTypes := #[48, 71, 71] }, _, _, _, none⟩) rfl (fun K hK => ?_) AllReadyH.nil
          refine step_ofR (by rfl) ?_
          go_simp
          refine (JO.out _ G2 s1 s2 (fun k u h => hM7.1 k u (hM6.1 k u h)) (hM7.1 _ _ hG1) hG2 hI7 (Bt (Bt (below_drew hB5) hB6) hB7)).mono ?_
          rintro x W1 ⟨s3, G3, rfl, hG3, hI8, hM8, hB8⟩
          refine hK.out _ _ (hHeld.below hB8) (fun hHeld => ?_)
          clear hK K
          try simp only [Act.put, List.setIfInBounds_toArray, List.set_cons_zero, List.set_cons_succ]
          refine wpAnyH_ready (rs := [18]) (by kernel_rfl) (by simp) ?_
          refine AllReadyH.cons (o := ⟨some 8, .assign (.tmp 69), _, _, _, none⟩) rfl (fun K hK => ?_) AllReadyH.nil
          refine step_ofR (by rfl) ?_
          go_simp
          refine hK.out _ _ (hHeld) (fun hHeld => ?_)
          clear hK K
          try simp only [Act.put, List.setIfInBounds_toArray, List.set_cons_zero, List.set_cons_succ]
          refine wpAnyH_done (by kernel_rfl) ?_ _
          -- END with
          go_wp2_with fail
          go_ret
          have hB56 := Bt (below_drew hB5) hB6
          have hB57 := Bt hB56 hB7
          exact ⟨s3, G3, rfl, by rw [HPUT.out]; exact hG3, hI8, ((hM6.mono (below_drew hB5).size).trans (hM7.mono hB56.size) (Nat.le_refl _)).trans (hM8.mono hB57.size) (Nat.le_refl _), Bt hB57 hB8⟩
end
end
/-! Con05R Con05, in one text. -/
section
/-! Set, Tree.Root, Root. -/
section
open Go.RowKit Go.Sort

/-- a tree behind a batch -/
theorem put_set {t : T} (h : t.wf 0) {l m : List Lf} (hm : oks m) (hp : m.Perm l) (hu : unlike m) (ho : inOrder m) :
    (T.put 257 t m 0).wf 0 ∧ (∀ x, x ∈ (T.put 257 t m 0).lvs ↔ x ∈ setF t.lvs l) ∧ (T.put 257 t m 0).lvs.length = (setF t.lvs l).length := by
  obtain ⟨h1, h2⟩ := put_whole h hm hu ho
  have hul : unlike l := (unlike_perm hp).1 hu
  have h3 : ∀ x, x ∈ (T.put 257 t m 0).lvs ↔ x ∈ setF t.lvs l := fun x => by
    rw [h2, setF_mem m _ hu, setF_mem l _ hul, hp.mem_iff]
    refine or_congr_right (and_congr_right fun _ => ⟨fun h y hy => h y (hp.mem_iff.2 hy), fun h y hy => h y (hp.mem_iff.1 hy)⟩)
  exact ⟨h1, h3, (whole_perm h1 (setF_unlike l _ (T.wf_unlike t 0 h)) h3).length_eq⟩


/-- what Set leaves -/
structure SetTo (base x : Nat) (G : Tag) (w : World) (tp pn : Nat) (L : List Lf) (w' : World) : Prop where
  out : ∃ G' pt' t', Tr base G' w' tp pn pt' t' ∧ Inv base x G' noL w' ∧ More w.heap.size G G' ∧ t'.wf 0 ∧ (∀ y, y ∈ t'.lvs ↔ y ∈ L)
  grown : w.grownBy w' (some tp)
theorem Tr.later {base : Nat} {G G' : Tag} {W W' : World} {tp pn pt : Nat} {t : T} (h : Tr base G W tp pn pt t) (hm : ∀ k u, G k = some u → G' k = some u) (hb : Below W.heap.size W W') : Tr base G' W' tp pn pt t :=
  ⟨h.blk.below hb, h.low, hm _ _ h.no, hm _ _ h.top⟩

set_option maxRecDepth 100000 in
set_option maxHeartbeats 2000000 in
theorem set_any (base x : Nat) (G : Tag) (w : World) (tp pn pt : Nat) (t : T) (a : Option Addr) (n c : Nat) (l : List Lf) (hb : base ≤ w.heap.size) (hI : Inv base x G noL w) (hT : Tr base G w tp pn pt t) (hw : t.wf 0) (h4 : t.lvs.length ≤ 4096)
    (hr : RdL w a n c l) (hs : n ≤ 4096 → SortsAt n) :
    Calls Tryd.prog 31 #[.pointer (some ⟨tp, 0, none⟩), .slice a n c] w fun e w' => e = .returned (.int .i64 (setE t.lvs l)) ∧ SetTo base x G w tp pn (setI t.lvs l) w' := by
  have hl := hr.len
  have hsame : ∀ w', Below w.heap.size w w' → SetTo base x G w tp pn t.lvs w' := fun w' hb' =>
    ⟨⟨G, pt, t, hT.later (fun _ _ h => h) hb', hI.below hb', More.refl _ _, hw, fun _ => Iff.rfl⟩, grown_of hb' _⟩
  by_cases hbig : 4096 < n
  · have hbig' : (4096 : Int) < (n : Int) := by omega
    have e1 : setI t.lvs l = t.lvs := by unfold setI; rw [if_pos (by omega)]
    have e2 : setE t.lvs l = 2 := by unfold setE; rw [if_pos (by omega)]
    rw [e1, e2]
    have S := Lib.hid (hsame w (Below.refl _ _))
    clear hsame e1 e2
    go_enter Tryd.func31, Tryd.ntmps31
    go_wp2_with fail
    go_ret
    exact ⟨rfl, S.out⟩
  · have hbig' : ¬ (4096 : Int) < (n : Int) := by omega
    have hO := ordered_any w a n c l hr (by omega) (hs (by omega))
    go_enter Tryd.func31, Tryd.ntmps31
    go_wp2_with fail
    refine hO.mono ?_
    rintro e w1 ⟨a1, c1, m, rfl, hr1, hp, ho, hb1⟩
    have htw := twiceB_perm hp
    have hH := hasTwice_any w1 a1 n c1 m hr1 (by omega) ho
    rw [htw] at hH
    cases ht : twiceB l with
    | true =>
      rw [ht] at hH
      have e1 : setI t.lvs l = t.lvs := by unfold setI; rw [if_neg (by omega), ht]; rfl
      have e2 : setE t.lvs l = 30 := by unfold setE; rw [if_neg (by omega), ht]; rfl
      go_wp2_with fail
      refine hH.mono ?_
      rintro e w2 ⟨rfl, hb2⟩
      have S := Lib.hid (hsame w2 (Bt hb1 hb2))
      have E1 := Lib.hid e1
      have E2 := Lib.hid e2
      clear hsame e1 e2
      go_wp2_with fail
      go_ret
      rw [E1.out, E2.out]
      exact ⟨rfl, S.out⟩
    | false =>
      rw [ht] at hH htw
      have hu : unlike m := (twiceB_iff m).1 htw
      obtain ⟨q1, q2, q3⟩ := put_set hw hr1.ok hp hu ho
      have hSI := Lib.hid (show setI t.lvs l = if 4096 < (T.put 257 t m 0).lvs.length then t.lvs else setF t.lvs l from by unfold setI; rw [if_neg (by omega), ht, q3]; rfl)
      have hSE := Lib.hid (show setE t.lvs l = if 4096 < (T.put 257 t m 0).lvs.length then 2 else 0 from by unfold setE; rw [if_neg (by omega), ht, q3]; rfl)
      have WA := Lib.hid (fun (w2 : World) (hb2 : Below w1.heap.size w1 w2) =>
        with_any base x 257 G w2 tp pn pt t 0 a1 n c1 m 0 rfl rfl (by omega) (Nat.le_trans hb (Bt hb1 hb2).size) (hI.below (Bt hb1 hb2)) (cell_later (Bt hb1 hb2) hT.c0) hT.no hT.top hw (hr1.below hb2) hu ho (fun _ _ _ _ i hi => by omega) (by omega))
      generalize hput : T.put 257 t m 0 = t' at *
      clear hput
      go_wp2_with fail
      refine hH.mono ?_
      rintro e w2 ⟨rfl, hb2⟩
      have hB2 := Bt hb1 hb2
      have hc0 := cell_later hB2 hT.c0
      have hc1 := cell_later hB2 hT.c1
      go_wp2_with fail
      refine (WA.out w2 hb2).mono ?_
      rintro e w3 ⟨s, G', rfl, hG, hI3, hM, hb3⟩
      have hB3 := Bt hB2 hb3
      obtain ⟨dn, sum, lf, le, ri, hN⟩ := hI3.nd hG
      have hsz := hN.size
      have kb3 := hT.blk.below hB3
      have hc1 := kb3.cell (j := 1) rfl
      have hf1 := kb3.free 1
      have hM' : More w.heap.size G G' := (More.refl _ _).trans hM hB2.size
      by_cases hlen : 4096 < t'.lvs.length
      · have hlen' : (4096 : Int) < (t'.lvs.length : Int) := by omega
        have E1 := Lib.hid (hSI.out.trans (if_pos hlen))
        have E2 := Lib.hid (hSE.out.trans (if_pos hlen))
        have S := Lib.hid (show SetTo base x G w tp pn t.lvs w3 from ⟨⟨G', pt, t, hT.later hM.1 hB3, hI3, hM', hw, fun _ => Iff.rfl⟩, grown_of hB3 _⟩)
        clear hsame hSI hSE
        go_wp2_with fail
        go_ret
        rw [E1.out, E2.out]
        exact ⟨rfl, S.out⟩
      · have hlen' : ¬ (4096 : Int) < (t'.lvs.length : Int) := by omega
        have E1 := Lib.hid (hSI.out.trans (if_neg hlen))
        have E2 := Lib.hid (hSE.out.trans (if_neg hlen))
        have kb4 := kb3.set 1 (.pointer (some ⟨s, 0, none⟩))
        have hg4 := set_grown w3 tp 1 (.pointer (some ⟨s, 0, none⟩))
        have hI4 := hI3.grown hg4 (kb3.not (by decide)) (kb3.not (by decide))
        have S := Lib.hid (show SetTo base x G w tp pn (setF t.lvs l) (w3.setCell ⟨tp, 1, none⟩ (.pointer (some ⟨s, 0, none⟩))) from
          ⟨⟨G', s, t', ⟨kb4, hT.low, hM.1 _ _ hT.no, hG⟩, hI4, hM', q1, q2⟩, grown2 (grown_of hB3 _) hg4 (fun k e => .inr e)⟩)
        clear hsame hSI hSE
        go_wp2_with fail
        go_ret
        rw [E1.out, E2.out]
        exact ⟨rfl, S.out⟩

/-- a batch onto no leaves -/
theorem set_nil (l : List Lf) : setE [] l = (if l.length ≤ 4096 then (if twiceB l then 30 else 0) else 2) ∧ setI [] l = (if l.length ≤ 4096 then (if twiceB l then [] else setF [] l) else []) := by
  have h := setF_len l []
  simp only [List.length_nil, Nat.zero_add] at h
  unfold setE setI
  by_cases h1 : l.length ≤ 4096
  · have h2 : ¬ 4096 < l.length := by omega
    have h3 : ¬ 4096 < (setF [] l).length := by omega
    simp [h1, h2, h3]
  · have h2 : 4096 < l.length := by omega
    simp [h1, h2]
theorem root_set {t : T} (h : t.wf 0) {l : List Lf} (hu : unlike l) (hm : ∀ y, y ∈ t.lvs ↔ y ∈ setF [] l) (x : Nat) : t.dig x = rootL x l := by
  have h2 : ∀ y, y ∈ t.lvs ↔ y ∈ l := fun y => by rw [hm, setF_mem l _ hu]; simp
  rw [T.root_eq x h, rootL_perm x (whole_perm h hu h2)]

end
/-! Package smt: Short, Empty, Leaf, Node, Root. -/
section
open Go.RowKit
end
end
end Go.Proofs.YtgbhfpkngjlfkaaDoor
