/-
  Con05A Con05N, in one text.
-/
import Derived.Test.YtmfnpjfhijmboaaGreatDoorRef05B
import Derived.Test.YtmfnpjfhijmboaaGreatDoorShaF
import Derived.Test.YtmfnpjfhijmboaaGreatDoorLibP
import Derived.Lib.SliceRun
import Derived.Lib.AppendZerosOnto
namespace Go.Proofs.YtmfnpjfhijmboaaGreatDoor
/-! The walks of package smt: isWidth, Short, tagged, Empty; of the library: Grow and Concat at bytes. -/
section
open Go.RowKit

set_option maxRecDepth 100000 in
theorem swidth_any (w : World) (x : Int) :
    Calls Tryz.prog 35 #[.int .i64 x] w fun e w' => e = .returned (.bool (decide (0 ≤ x) && decide (x ≤ 32))) ∧ w = w' := by
  by_cases h0 : 0 ≤ x
  · go_enter Tryz.func35, Tryz.ntmps35
    go_wp2_with fail
    go_ret
    exact ⟨by simp [h0], rfl⟩
  · go_enter Tryz.func35, Tryz.ntmps35
    go_wp2_with fail
    go_ret
    exact ⟨by simp; omega, rfl⟩

set_option maxRecDepth 100000 in
theorem sgrow_any (w : World) (n : Nat) (hn : n ≤ 1000000) :
    Calls Tryz.prog 104 #[.slice none 0 0, .int .i64 (n : Int)] w fun e w' => ∃ a c, e = .returned (.slice a 0 c) ∧ Own w' w.heap.size (.slice a 0 c) [] ∧ Below w.heap.size w w' := by
  have h1 : ¬ ((n : Int) < 0) := by omega
  by_cases h0 : n = 0
  · subst h0
    go_enter Tryz.func104, Tryz.ntmps104
    go_wp2_with fail
    go_ret
    exact ⟨none, 0, rfl, Own.nil0 _ _, Below.refl _ _⟩
  · have h2 : (0 : Int) < (n : Int) := by omega
    have hb1 : Tryz.t5.bytes = 1 := by kernel_rfl
    have q2 : ¬ 281474976710656 < Builtin.nextslicecap n 0 := by
      have := growslice_fits (old := 0) (need := n) (bytes := 1) (by omega) (by omega)
      omega
    have hG1 := grownCap_ge w n 0 5
    have hG2 := grownCap_le_maxLen w n 0 5 (by unfold maxLen; omega)
    have hO : Own (w.alloc (.cells (Builtin.zeroCells #[Value.int .u8 0] n ++ Builtin.zeroCells #[Value.int .u8 0] (grownCap w n 0 5 - n)) 5)).drew w.heap.size (.slice (some ⟨w.heap.size, 0, none⟩) 0 (grownCap w n 0 5)) [] :=
      ⟨rfl, .inr ⟨w.heap.size, grownCap w n 0 5, _, rfl, Nat.le_refl _, World.alloc_heap_new w _, Nat.zero_le _, hG2, by simp [Builtin.zeroCells]; omega, by simp [bs]⟩⟩
    have hB : Below w.heap.size w (w.alloc (.cells (Builtin.zeroCells #[Value.int .u8 0] n ++ Builtin.zeroCells #[Value.int .u8 0] (grownCap w n 0 5 - n)) 5)).drew := ((Below.refl _ w).alloc (Nat.le_refl _) _).drew
    have HO := Lib.hid (And.intro hO hB)
    clear hO hB hG1 hG2
    go_enter Tryz.func104, Tryz.ntmps104
    go_wp2_with fail
    go_ret
    exact ⟨_, _, rfl, HO.out.1, HO.out.2⟩

theorem flat_take (ps : List (List UInt8)) (k : Nat) (h : k < ps.length) : (ps.take (k + 1)).flatten = (ps.take k).flatten ++ ps.getD k [] := by
  have e : ps.getD k [] = ps[k] := by simp [List.getD, h]
  rw [e, List.take_succ_eq_append_getElem h, List.flatten_append]
  simp only [List.flatten_cons, List.flatten_nil, List.append_nil]
theorem flat_le (ps : List (List UInt8)) (k : Nat) : (ps.take k).flatten.length ≤ ps.flatten.length := by
  conv => rhs; rw [← List.take_append_drop k ps]
  rw [List.flatten_append, List.length_append]
  omega

set_option maxRecDepth 100000 in
set_option maxHeartbeats 1000000 in
theorem concat_any (w : World) (a : Option Addr) (n c : Nat) (ps : List (List UInt8)) (hp : RdP w a n c ps) (hn : n ≤ 1000) (L : List UInt8) (M : Nat) (hL : ps.flatten = L) (hM : L.length = M) (hs : M ≤ 1000000) :
    Calls Tryz.prog 87 #[.slice a n c] w fun e w' => ∃ a' c', e = .returned (.slice a' M c') ∧ Rd w' a' M c' L ∧ Below w.heap.size w w' := by
  have hl := Lib.hid hp.len
  have FL : ∀ k, (ps.take k).flatten.length ≤ M := fun k => by rw [← hM, ← hL]; exact flat_le ps k
  have HL := Lib.hid hL
  have HM0 := Lib.hid hM
  clear hL hM
  have HS := Lib.hid hs
  clear hs
  go_enter Tryz.func87, Tryz.ntmps87
  go_wp2_with fail
  go_loopw [3, 5, 11] (fun s _ i wr => ∃ (k m : Nat), k ≤ n ∧ i = .int .i64 k ∧ s = .int .i64 m ∧ m = (ps.take k).flatten.length ∧ w = wr) (fun _ _ i _ => n - (intOf i).toNat)
  case atStart => exact ⟨0, 0, by omega, rfl, rfl, by simp, rfl⟩
  case round =>
    obtain ⟨k, m, hk, rfl, rfl, hm, rfl⟩ := hrel
    have HM := Lib.hid hm
    clear hm
    have hm1 := FL k
    rw [← HM.out] at hm1
    have hm2 : m ≤ 1000000 := Nat.le_trans hm1 HS.out
    by_cases hlt : k < n
    · obtain ⟨b, off, ai, ni, ci, rfl, hc, hrd⟩ := hp.at hlt
      have hkn : (k : Int) < n := by omega
      have hf := flat_take ps k (by rw [hl.out]; exact hlt)
      have hlen := hrd.len
      have hm3 : m + ni ≤ 1000000 := by
        have := FL (k + 1)
        rw [hf, List.length_append, ← HM.out, hlen] at this
        exact Nat.le_trans this HS.out
      have hm4 : ¬ ((m : Int) + (ni : Int) < 0) := by omega
      have HF := Lib.hid hf
      have HLEN := Lib.hid hlen
      clear hf hlen hm1
      go_wp2_with fail
      go_roundw
      case rel => exact ⟨k + 1, m + ni, by omega, by go_num, by go_num, by rw [HF.out, List.length_append, ← HM.out, HLEN.out], by first | rfl | trivial⟩
      case measure => simp [intOf]; omega
    · obtain rfl : k = n := by omega
      have hkn : ¬ (k : Int) < k := by omega
      go_wp2_with fail
      refine (sgrow_any _ m hm2).mono ?_
      rintro e w1 ⟨a1, c1, rfl, hO1, hB1⟩
      go_wp2_with fail
      go_loopw [6, 8, 27] (fun v _ i wr => ∃ (j : Nat) (aj : Option Addr) (mj cj : Nat) (q : List UInt8), j ≤ k ∧ i = .int .i64 j ∧ v = .slice aj mj cj ∧ Hid (q = (ps.take j).flatten ∧ mj = q.length) ∧ Own wr w.heap.size (.slice aj mj cj) q ∧ Below w.heap.size w wr) (fun _ _ i _ => k - (intOf i).toNat)
      case atStart => exact ⟨0, a1, 0, c1, [], by omega, rfl, rfl, Lib.hid ⟨by simp, rfl⟩, hO1, hB1⟩
      case round =>
        obtain ⟨j, aj, mj, cj, q, hj, rfl, rfl, HQ, hO, hB⟩ := hrel
        obtain ⟨hq1, hq2⟩ := HQ.out
        have hq3 : mj ≤ 1000000 := by
          rw [hq2, hq1]
          exact Nat.le_trans (FL j) HS.out
        by_cases hlt2 : j < k
        · obtain ⟨b, off, ai, ni, ci, rfl, hc, hrd⟩ := hp.at hlt2
          have hjn : (j : Int) < k := by omega
          have hc' := cell_later hB hc
          have hrd' := hrd.below hB
          have hf := flat_take ps j (by rw [hl.out]; exact hlt2)
          have hlen := hrd.len
          have hm3 : q.length + ni ≤ 1000000 := by
            have := FL (j + 1)
            rw [hf, List.length_append, ← hq1, hlen] at this
            exact Nat.le_trans this HS.out
          have hsz := hB.size
          have HF := Lib.hid hf
          have HQ1 := Lib.hid hq1
          have HLEN := Lib.hid hlen
          subst hq2
          clear hf hq1 hlen hq3 HQ hm1
          generalize ps.getD j [] = l at *
          go_wp2_with (at_builtin; refine wpList_app (base := w.heap.size) rfl (.tmp 31) (.tmp 32) rfl rfl hO rfl hrd' (by omega) hsz ?_; intro a2 c2 w2 hO2 hg2)
          go_roundw
          case rel =>
            exact ⟨j + 1, a2, _, c2, q ++ l, by omega, by go_num, rfl, Lib.hid ⟨by rw [HF.out, ← HQ1.out], by rw [List.length_append, HLEN.out]⟩, hO2, hB.grown hg2 hsz (fun x e => (World.ownsRow.lt hO x e).1)⟩
          case measure => simp [intOf]; omega
        · obtain rfl : j = k := by omega
          have hjn : ¬ (j : Int) < j := by omega
          have he : q = L := by rw [hq1, List.take_of_length_le (by rw [hl.out]; omega), HL.out]
          obtain rfl : mj = M := by rw [hq2, he, HM0.out]
          subst he
          clear HQ hq1 hq2 hm1 HM
          go_wp2_with fail
          go_ret
          exact ⟨aj, cj, rfl, hO.rd, hB⟩

theorem shAt_splice (D : List UInt8) (hD : D.length = 32) (x : Nat) (hx : x ≤ 32) : splice (bs D) x (List.replicate (32 - x) (Value.int .u8 0)) = bs (shAt D x) := by
  have e : List.replicate (32 - x) (Value.int .u8 0) = bs (List.replicate (32 - x) 0) := by simp [bs]
  have e2 : bs D = bs (D.take x) ++ bs (D.drop x) := by rw [← bs_append, List.take_append_drop]
  have h := splice_app (bs (D.take x)) (bs (D.drop x)) (bs (List.replicate (32 - x) 0))
  rw [bs_length, List.length_take, Nat.min_eq_left (by omega)] at h
  rw [e, e2, h, List.drop_eq_nil_of_le (by simp [bs_length]; omega), List.append_nil, ← bs_append]
  rfl
theorem zeroU8 (w : World) : (zeroValue 5).run Tryz.prog w = .ok (.int .u8 0) w := by
  obtain ⟨i, hi, hz0, hz1, hz2⟩ := info_parts info5
  simp [zeroValue, typeInfo, hi, hz0]
/-- what clear makes of a digest's variable -/
theorem clearD (w : World) (g : Nat) (t : TypeId) (D : List UInt8) (hD : D.length = 32) (hB : Blk w g t (bs D)) (x : Nat) (hx : x < 32) (ty : TypeId) (c : Nat) :
    (Builtin.clear_ #[104] ty #[.slice (some ⟨g, x, none⟩) (32 - x) c]).run Tryz.prog w = .ok (.tuple #[]) (w.setCells g x (List.replicate (32 - x) (.int .u8 0))) :=
  Lib.run_clear_slice w 104 5 ty (.int .u8 0) Tryz.underlying104 zeroU8 rfl rfl g x (32 - x) c (by omega)
    (fun j hj => by rw [hB.cell (bs_at D (x + j) (by omega))]; rfl) (fun j _ => hB.free (x + j))

theorem clearNo (w : World) (ad : Addr) (c : Nat) (ty : TypeId) : (Builtin.clear_ #[104] ty #[.slice (some ad) 0 c]).run Tryz.prog w = .ok (.tuple #[]) w := by
  simp [Builtin.clear_, run_underlying Tryz.underlying104]
/-- clear(s), by what it makes of the world -/
theorem wpList_clearD {w : World} {ops : Array Oper} {rest : List Oper} {o : Oper} {a : Act} {Q : Exit → Act → World → Prop} (hgd : o.guard = none) (x : Operand)
    (ho : o.op = Op.call { callee := Callee.builtin Builtin.clear, args := #[x], argTypes := #[104] }) {v : Value} (hx : a.eval x = v) {w1 : World} (hrun : ∀ ty, (Builtin.clear_ #[104] ty #[v]).run Tryz.prog w = .ok (.tuple #[]) w1)
    (h : ∀ w', w' = w1 → wpList Tryz.prog ops Q rest (a.put o.dst (.tuple #[])) w') : wpList Tryz.prog ops Q (o :: rest) a w := by
  have h' := h w1 rfl
  refine wpList_plain hgd fun K hK' => ?_
  unfold Oper.wp
  simp [execOp, ho, resolve, invoke, builtin, hx, hrun, Result.andThen]
  exact hK' _ _ h'

set_option maxRecDepth 100000 in
set_option maxHeartbeats 1000000 in
theorem sshort_no (w : World) (x : Int) (a : Option Addr) (n c : Nat) (hx : x < 0 ∨ 32 < x) :
    Calls Tryz.prog 86 #[.int .i64 x, .slice a n c] w fun e w' => e = .returned (.tuple #[.agg (bs zero32).toArray, .int .i64 1]) ∧ Below w.heap.size w w' := by
  have hd : (decide (0 ≤ x) && decide (x ≤ 32)) = false := by simp; omega
  have H5 := Lib.hid (show (Tryz.prog.info? 25).map (·.size) = some (bs zero32).length by rw [info_digest, bs_length, zero32_length])
  have H7 := bs_one zero32
  go_enter Tryz.func86, Tryz.ntmps86
  go_wp2_with ((with_reducible refine wpList_allocB (o := ⟨some 4, _, _, _, _, _⟩) ?_ 25 ?_ zeroD_info ?_); rfl; rfl; intro w0 hr0 hg0 hz0)
  refine (swidth_any w0 x).mono ?_
  rintro e w2 ⟨rfl, rfl⟩
  rw [hd]
  go_wp2_with (first | ((with_reducible refine wpList_buildI (dst := some 10) built0 ?_ ?_); rfl) | ((with_reducible refine wpList_storeB (o := ⟨none, .store 25 (.tmp 4) (.tmp 10), _, _, _, _⟩) ?_ 25 (.tmp 4) (.tmp 10) ?_ ?_ ?_ hr0 H5.out rfl H7 ?_); rfl; rfl; rfl; rfl; intro w8 hb8 hg8 hz8))
  try simp only [Exit.inBlock, Exit.then]
  refine bodyPost_ret (results_digest2 rfl _ _ _ _ _ zero32_length rfl hb8.at_) rfl ⟨rfl, ?_⟩
  exact ((Below.refl _ w).grown hg0 (Nat.le_refl _) (fun k e => by cases e)).grown hg8 (by omega) (fun k e => by cases e; omega)

set_option maxRecDepth 100000 in
set_option maxHeartbeats 1000000 in
theorem sshort_in (w : World) (x : Nat) (hx : x ≤ 32) (a : Option Addr) (n c : Nat) (l : List UInt8) (hr : Rd w a n c l) (hT : Tab w 1) (hn : n ≤ 1000000) :
    Calls Tryz.prog 86 #[.int .i64 (x : Int), .slice a n c] w fun e w' => e = .returned (.tuple #[.agg (bs (shortB x l)).toArray, .int .i64 0]) ∧ Below w.heap.size w w' := by
  have hd : (decide (0 ≤ (x : Int)) && decide ((x : Int) ≤ 32)) = true := by simp; omega
  have hD := sha_length l
  have hSB := Lib.hid (show shortB x l = shAt (sha l) x from rfl)
  have HSUM := Lib.hid (fun (W : World) (h1 : Rd W a n c l) (h2 : Tab W 1) => sum_any W a n c l h1 h2 (by omega))
  generalize sha l = D at *
  have H1 := Lib.hid (show (Tryz.prog.info? 25).map (·.size) = some (bs D).length by rw [info_digest, bs_length, hD])
  have H2 := Lib.hid (show (bs zero32).length = (bs D).length by rw [bs_length, bs_length, zero32_length, hD])
  have H3 := bs_one D
  have hl := shAt_length D x hD hx
  have H4 := Lib.hid (show (Tryz.prog.info? 25).map (·.size) = some (bs (shAt D x)).length by rw [info_digest, bs_length, hl])
  have H5 := Lib.hid (show (bs zero32).length = (bs (shAt D x)).length by rw [bs_length, bs_length, zero32_length, hl])
  have H6 := bs_one (shAt D x)
  have CL := Lib.hid (fun (W : World) (g : Nat) (hB : Blk W g 25 (bs D)) (hx : x < 32) => clearD W g 25 D hD hB x hx)
  have SP := Lib.hid (shAt_splice D hD x hx)
  have SL := fun (W : World) (g : Nat) (h : x < 32) => sliceDl W g x (x : Int) rfl h
  have hDl := Lib.hid hD
  clear hD
  go_enter Tryz.func86, Tryz.ntmps86
  go_wp2_with ((with_reducible refine wpList_allocB (o := ⟨some 4, _, _, _, _, _⟩) ?_ 25 ?_ zeroD_info ?_); rfl; rfl; intro w0 hr0 hg0 hz0; have hB0 := (Below.refl _ w).grown hg0 (Nat.le_refl _) (fun k e => by cases e))
  refine (swidth_any w0 x).mono ?_
  rintro e w2 ⟨rfl, rfl⟩
  rw [hd]
  go_wp2_with fail
  refine (HSUM.out w0 (hr.below hB0) (hT.below hB0)).mono ?_
  rintro e w3 ⟨rfl, hB3⟩
  have hs3 := hB3.size
  have hr03 := hr0.below hB3
  have hBB := Bt hB0 hB3
  by_cases h32 : x < 32
  · have SLx := fun (W : World) (g : Nat) => SL W g h32
    have MK := Lib.hid (fun (w4 w5 w6 : World) (hg4 : w3.grownBy w4 none) (hr5 : Blk w5 w3.heap.size 25 (bs D)) (hg5 : w4.grownBy w5 (some w3.heap.size)) (e : w6 = w5.setCells w3.heap.size x (List.replicate (32 - x) (.int .u8 0))) =>
      (show Blk w6 w3.heap.size 25 (bs (shAt D x)) ∧ Blk w6 w.heap.size 25 (bs zero32) ∧ Below w.heap.size w w6 from by
        subst e
        have hg6 := setCells_grown w3.heap.size (List.replicate (32 - x) (Value.int .u8 0)) x w5
        refine ⟨?_, ((hr03.grown hg4 (by simp)).grown hg5 (by simp; omega)).grown hg6 (by simp; omega), ((hBB.grown hg4 (by omega) (fun k e => by cases e)).grown hg5 (by have := hg4.size; omega) (fun k e => by cases e; omega)).grown hg6 (by have := hg4.size; have := hg5.size; omega) (fun k e => by cases e; omega)⟩
        rw [← SP.out]; exact Blk.sets _ _ _ hr5 (by rw [List.length_replicate, bs_length, hDl.out]; omega)))
    generalize hqe : shAt D x = q at *
    have HQE := Lib.hid hqe
    clear hqe SP SL
    go_wp2_with (first | ((with_reducible refine wpList_allocB (o := ⟨some 6, _, _, _, _, _⟩) ?_ 25 ?_ zeroD_info ?_); rfl; rfl; intro w4 hr4 hg4 hz4) | ((with_reducible refine wpList_storeB (o := ⟨none, .store 25 (.tmp 6) (.tmp 12), _, _, _, _⟩) ?_ 25 (.tmp 6) (.tmp 12) ?_ ?_ ?_ hr4 H1.out H2.out H3 ?_); rfl; rfl; rfl; rfl; intro w5 hr5 hg5 hz5) | ((refine wpList_clearD (o := ⟨none, .call { callee := .builtin .clear, args := #[.tmp 14], argTypes := #[104] }, _, _, _, none⟩) rfl (.tmp 14) rfl rfl (fun ty => CL.out w5 _ hr5 h32 ty _) ?_); intro w6 e6; obtain ⟨hb6, hr06, hB6⟩ := MK.out w4 w5 w6 hg4 hr5 hg5 e6; clear e6) | ((with_reducible refine wpList_loadB (o := ⟨some 15, _, _, _, _, _⟩) ?_ 25 (.tmp 6) ?_ ?_ hb6 Tryz.underlying25 ?_ H4.out ?_); rfl; rfl; rfl; rfl) | ((with_reducible refine wpList_storeB (o := ⟨none, .store 25 (.tmp 4) (.tmp 15), _, _, _, _⟩) ?_ 25 (.tmp 4) (.tmp 15) ?_ ?_ ?_ hr06 H4.out H5.out H6 ?_); rfl; rfl; rfl; rfl; intro w8 hb8 hg8 hz8))
    try simp only [Exit.inBlock, Exit.then]
    refine bodyPost_ret (results_digest2 rfl _ _ _ _ _ hl rfl hb8.at_) rfl ⟨by rw [hSB.out]; rfl, ?_⟩
    exact hB6.grown hg8 hB6.size (fun k e => by cases e; exact Nat.le_refl _)
  · obtain rfl : x = 32 := by omega
    have hsh : shAt D 32 = D := by unfold shAt; rw [List.take_of_length_le (by rw [hDl.out]; decide)]; simp
    rw [hsh] at hSB
    have SLx := fun (W : World) (g : Nat) => sliceDe W g 32 rfl
    clear SL CL
    go_wp2_with (first | ((with_reducible refine wpList_allocB (o := ⟨some 6, _, _, _, _, _⟩) ?_ 25 ?_ zeroD_info ?_); rfl; rfl; intro w4 hr4 hg4 hz4) | ((with_reducible refine wpList_storeB (o := ⟨none, .store 25 (.tmp 6) (.tmp 12), _, _, _, _⟩) ?_ 25 (.tmp 6) (.tmp 12) ?_ ?_ ?_ hr4 H1.out H2.out H3 ?_); rfl; rfl; rfl; rfl; intro w5 hr5 hg5 hz5; have hr05 := (hr03.grown hg4 (by simp)).grown hg5 (by simp; omega)) | ((refine wpList_clearD (o := ⟨none, .call { callee := .builtin .clear, args := #[.tmp 14], argTypes := #[104] }, _, _, _, none⟩) rfl (.tmp 14) rfl rfl (fun ty => clearNo w5 _ _ ty) ?_); rintro w6 rfl) | ((with_reducible refine wpList_loadB (o := ⟨some 15, _, _, _, _, _⟩) ?_ 25 (.tmp 6) ?_ ?_ hr5 Tryz.underlying25 ?_ H1.out ?_); rfl; rfl; rfl; rfl) | ((with_reducible refine wpList_storeB (o := ⟨none, .store 25 (.tmp 4) (.tmp 15), _, _, _, _⟩) ?_ 25 (.tmp 4) (.tmp 15) ?_ ?_ ?_ hr05 H1.out H2.out H3 ?_); rfl; rfl; rfl; rfl; intro w8 hb8 hg8 hz8))
    try simp only [Exit.inBlock, Exit.then]
    refine bodyPost_ret (results_digest2 rfl _ _ _ _ _ hDl.out rfl hb8.at_) rfl ⟨by rw [hSB.out]; rfl, ?_⟩
    exact (((hBB.grown hg4 (by omega) (fun k e => by cases e)).grown hg5 (by omega) (fun k e => by cases e; omega))).grown hg8 (by omega) (fun k e => by cases e; omega)

theorem sshort_any (w : World) (x : Int) (a : Option Addr) (n c : Nat) (l : List UInt8) (hr : Rd w a n c l) (hT : Tab w 1) (hn : n ≤ 1000000) :
    Calls Tryz.prog 86 #[.int .i64 x, .slice a n c] w fun e w' => e = .returned (.tuple #[.agg (bs (shortI x l)).toArray, .int .i64 (errW x)]) ∧ Below w.heap.size w w' := by
  by_cases h : 0 ≤ x ∧ x ≤ 32
  · obtain ⟨k, rfl⟩ := Int.eq_ofNat_of_zero_le h.1
    rw [shortI_nat k (by omega), errW, if_pos h]
    exact sshort_in w k (by omega) a n c l hr hT hn
  · rw [shortI, if_neg h, errW, if_neg h]
    exact sshort_no w x a n c (by omega)

set_option maxRecDepth 100000 in
set_option maxHeartbeats 1000000 in
theorem tagged_any (w : World) (x : Int) (tg : Int) (tag : UInt8) (ht : tg = (tag.toNat : Int)) (a1 : Option Addr) (n1 c1 : Nat) (l1 : List UInt8) (h1 : Rd w a1 n1 c1 l1) (a2 : Option Addr) (n2 c2 : Nat) (l2 : List UInt8) (h2 : Rd w a2 n2 c2 l2)
    (hT : Tab w 1) (hn1 : n1 ≤ 1000) (hn2 : n2 ≤ 1000) :
    Calls Tryz.prog 62 #[.int .i64 x, .int .u8 tg, .slice a1 n1 c1, .slice a2 n2 c2] w fun e w' => e = .returned (.agg (bs (shortI x ([tag] ++ l1 ++ l2))).toArray) ∧ Below w.heap.size w w' := by
  subst ht
  have hl := shortI_length x ([tag] ++ l1 ++ l2)
  have hln : ([[tag], l1, l2] : List (List UInt8)).flatten = [tag] ++ l1 ++ l2 := by simp
  have hll : ([[tag], l1, l2] : List (List UInt8)).flatten.length = 1 + n1 + n2 := by rw [hln, List.length_append, List.length_append, h1.len, h2.len]; rfl
  have HS := Lib.hid (fun (W : World) (a : Option Addr) (c : Nat) (r : Rd W a (1 + n1 + n2) c ([tag] ++ l1 ++ l2)) (t : Tab W 1) => sshort_any W x a _ c _ r t (by omega))
  have HC := Lib.hid (fun (W : World) (g : Nat) (r : RdP W (some ⟨g, 0, none⟩) 3 3 [[tag], l1, l2]) => concat_any W _ 3 3 _ r (by decide) ([tag] ++ l1 ++ l2) (1 + n1 + n2) hln (by rw [← hln]; exact hll) (by omega))
  generalize shortI x ([tag] ++ l1 ++ l2) = q at *
  generalize [tag] ++ l1 ++ l2 = L at *
  have H1 := Lib.hid (show (Tryz.prog.info? 25).map (·.size) = some (bs q).length by rw [info_digest, bs_length, hl])
  have H2 := Lib.hid (show (bs zero32).length = (bs q).length by rw [bs_length, bs_length, zero32_length, hl])
  have H3 := bs_one q
  clear hln hll
  go_enter Tryz.func62, Tryz.ntmps62
  go_wp2_with ((with_reducible refine wpList_allocB (o := ⟨some 8, _, _, _, _, _⟩) ?_ 25 ?_ zeroD_info ?_); rfl; rfl; intro w0 hr0 hg0 hz0)
  have hB0 := (Below.refl _ w).grown hg0 (Nat.le_refl _) (fun k e => by cases e)
  have hB1 := (hB0.alloc hB0.size (.cells #[.int .u8 ((tag.toNat : Nat) : Int)] 5)).alloc (by simp; omega) (.cells #[Value.slice (some ⟨w.heap.size + 1, 0, none⟩) 1 1, .slice a1 n1 c1, .slice a2 n2 c2] 104)
  have hr1 := (hr0.alloc (.cells #[.int .u8 ((tag.toNat : Nat) : Int)] 5)).alloc (.cells #[Value.slice (some ⟨w.heap.size + 1, 0, none⟩) 1 1, .slice a1 n1 c1, .slice a2 n2 c2] 104)
  have hP : RdP ((w0.alloc (.cells #[.int .u8 ((tag.toNat : Nat) : Int)] 5)).alloc (.cells #[Value.slice (some ⟨w.heap.size + 1, 0, none⟩) 1 1, .slice a1 n1 c1, .slice a2 n2 c2] 104)) (some ⟨w.heap.size + 1 + 1, 0, none⟩) 3 3 [[tag], l1, l2] := by
    have q0 := (Rd.lit w0 [tag] 1 rfl (by decide))
    rw [hz0] at q0
    have hn := World.news_of_block (World.alloc_heap_new (w0.alloc (.cells #[.int .u8 ((tag.toNat : Nat) : Int)] 5)) (.cells #[Value.slice (some ⟨w.heap.size + 1, 0, none⟩) 1 1, .slice a1 n1 c1, .slice a2 n2 c2] 104))
    rw [show (w0.alloc (.cells #[.int .u8 ((tag.toNat : Nat) : Int)] 5)).heap.size = w.heap.size + 1 + 1 by simp; omega] at hn
    refine ⟨rfl, Nat.le_refl _, by decide, (fun e => by cases e), fun ad e j hj => ?_⟩
    cases e
    have : j = 0 ∨ j = 1 ∨ j = 2 := by omega
    rcases this with rfl | rfl | rfl
    · exact ⟨_, _, _, hn 0 _ rfl, q0.below ((Below.refl _ _).alloc (Nat.le_refl _) _)⟩
    · exact ⟨_, _, _, hn 1 _ rfl, h1.below hB1⟩
    · exact ⟨_, _, _, hn 2 _ rfl, h2.below hB1⟩
  generalize (w0.alloc _).alloc _ = w1 at *
  refine (HC.out _ _ hP).mono ?_
  rintro e w2 ⟨a3, c3, rfl, hR2, hB2⟩
  have hBb := Bt hB1 hB2
  go_wp2_with fail
  refine (HS.out _ _ _ hR2 (hT.below hBb)).mono ?_
  rintro e w3 ⟨rfl, hB3⟩
  have hr3 := (hr1.below hB2).below hB3
  have hBc := Bt hBb hB3
  have hl3 := hr3.lt
  go_wp2_with (first | ((with_reducible refine wpList_allocB (o := ⟨some 9, _, _, _, _, _⟩) ?_ 25 ?_ zeroD_info ?_); rfl; rfl; intro w4 hr4 hg4 hz4) | ((with_reducible refine wpList_storeB (o := ⟨none, .store 25 (.tmp 9) (.tmp 20), _, _, _, _⟩) ?_ 25 (.tmp 9) (.tmp 20) ?_ ?_ ?_ hr4 H1.out H2.out H3 ?_); rfl; rfl; rfl; rfl; intro w5 hr5 hg5 hz5; have hr35 := (hr3.grown hg4 (by simp)).grown hg5 (by simp; omega)) | ((with_reducible refine wpList_loadB (o := ⟨some 22, _, _, _, _, _⟩) ?_ 25 (.tmp 9) ?_ ?_ hr5 Tryz.underlying25 ?_ H1.out ?_); rfl; rfl; rfl; rfl) | ((with_reducible refine wpList_storeB (o := ⟨none, .store 25 (.tmp 8) (.tmp 22), _, _, _, _⟩) ?_ 25 (.tmp 8) (.tmp 22) ?_ ?_ ?_ hr35 H1.out H2.out H3 ?_); rfl; rfl; rfl; rfl; intro w6 hb6 hg6 hz6))
  try simp only [Exit.inBlock, Exit.then]
  refine bodyPost_blk hb6 Tryz.underlying25 H1.out rfl rfl rfl rfl ⟨rfl, ?_⟩
  have hsz := hBc.size
  exact ((hBc.grown hg4 (by omega) (fun k e => by cases e)).grown hg5 (by omega) (fun k e => by cases e; omega)).grown hg6 (by omega) (fun k e => by cases e; exact Nat.le_refl _)

set_option maxRecDepth 100000 in
theorem sempty_any (w : World) (x : Int) (hT : Tab w 1) :
    Calls Tryz.prog 54 #[.int .i64 x] w fun e w' => e = .returned (.agg (bs (shortI x [2])).toArray) ∧ Below w.heap.size w w' := by
  have hl := shortI_length x [2]
  have HS := Lib.hid (fun (W : World) (t : Tab W 1) => tagged_any W x 2 2 rfl none 0 0 [] (Rd.nil0 W) none 0 0 [] (Rd.nil0 W) t (by decide) (by decide))
  rw [show ([2] : List UInt8) ++ [] ++ [] = [2] from rfl] at HS
  generalize shortI x [2] = q at *
  have H1 := Lib.hid (show (Tryz.prog.info? 25).map (·.size) = some (bs q).length by rw [info_digest, bs_length, hl])
  have H2 := Lib.hid (show (bs zero32).length = (bs q).length by rw [bs_length, bs_length, zero32_length, hl])
  have H3 := bs_one q
  go_enter Tryz.func54, Tryz.ntmps54
  go_wp2_with ((with_reducible refine wpList_allocB (o := ⟨some 2, _, _, _, _, _⟩) ?_ 25 ?_ zeroD_info ?_); rfl; rfl; intro w0 hr0 hg0 hz0)
  have hB0 := (Below.refl _ w).grown hg0 (Nat.le_refl _) (fun k e => by cases e)
  refine (HS.out _ (hT.below hB0)).mono ?_
  rintro e w1 ⟨rfl, hB1⟩
  have hr1 := hr0.below hB1
  go_wp2_with ((with_reducible refine wpList_storeB (o := ⟨none, .store 25 (.tmp 2) (.tmp 4), _, _, _, _⟩) ?_ 25 (.tmp 2) (.tmp 4) ?_ ?_ ?_ hr1 H1.out H2.out H3 ?_); rfl; rfl; rfl; rfl; intro w6 hb6 hg6 hz6)
  try simp only [Exit.inBlock, Exit.then]
  refine bodyPost_blk hb6 Tryz.underlying25 H1.out rfl rfl rfl rfl ⟨rfl, ?_⟩
  exact (Bt hB0 hB1).grown hg6 (Bt hB0 hB1).size (fun k e => by cases e; exact Nat.le_refl _)
end
/-! The walks of package smt: Leaf and Node. (gen05C.py writes the regions that draw.) -/
section
open Go.RowKit

/-- what Leaf knows of a world: the leaf's variable, the result's -/
structure LeafAt (w W : World) (y : Lf) : Prop where
  leaf : Blk W w.heap.size 50 (lc y)
  res : ∃ d : List UInt8, d.length = 32 ∧ Blk W (w.heap.size + 1) 25 (bs d)
  bel : Below w.heap.size w W
theorem LeafAt.below {w W W' : World} {y : Lf} (h : LeafAt w W y) (hb : Below W.heap.size W W') : LeafAt w W' y := by
  obtain ⟨d, h1, h2⟩ := h.res
  exact ⟨h.leaf.below hb, ⟨d, h1, h2.below hb⟩, Bt h.bel hb⟩
theorem LeafAt.drew {w W : World} {y : Lf} (h : LeafAt w W y) : LeafAt w W.drew y := h.below ⟨rfl, rfl, rfl, Nat.le_refl _, fun _ _ => rfl⟩
theorem LeafAt.put {w W W' : World} {y : Lf} (h : LeafAt w W y) {q : List UInt8} (hl : q.length = 32) (hr : Blk W' (w.heap.size + 1) 25 (bs q)) (hg : W.grownBy W' (some (w.heap.size + 1))) : LeafAt w W' y :=
  ⟨h.leaf.grown hg (by simp), ⟨q, hl, hr⟩, h.bel.grown hg h.bel.size (fun k e => by cases e; omega)⟩

set_option maxRecDepth 100000 in
set_option maxHeartbeats 1000000 in
theorem sleaf_any (w : World) (x : Int) (y : Lf) (hy : y.ok) (hT : Tab w 1) :
    Calls Tryz.prog 38 #[.int .i64 x, .agg (lc y).toArray] w fun e w' => e = .returned (.agg (bs (shortI x ([0] ++ y.path ++ y.val))).toArray) ∧ Below w.heap.size w w' := by
  have hl := shortI_length x ([0] ++ y.path ++ y.val)
  have HS := Lib.hid (fun (W : World) (h : LeafAt w W y) => tagged_any W x 0 0 rfl (some ⟨w.heap.size, 0, none⟩) 32 32 y.path (Rd.part (range_path (h.leaf.range 0 (fun j hj => by simp))) hy.1 (by decide))
    (some ⟨w.heap.size, 32, none⟩) 32 32 y.val (by
      have h2 := range_val (o := 0) hy (h.leaf.range 0 (fun j hj => by simp))
      rw [Nat.zero_add] at h2
      exact Rd.part h2 hy.2 (by decide)) (hT.below h.bel) (by decide) (by decide))
  generalize shortI x ([0] ++ y.path ++ y.val) = q at *
  have H1 := Lib.hid (show (Tryz.prog.info? 25).map (·.size) = some (bs q).length by rw [info_digest, bs_length, hl])
  have H3 := bs_one q
  have hb0 := Blk.new w 50 (lc y)
  have hB0 : Below w.heap.size w (w.alloc (.cells (lc y).toArray 50)) := (Below.refl _ w).alloc (Nat.le_refl _) _
  have hz : (w.alloc (.cells (lc y).toArray 50)).heap.size = w.heap.size + 1 := by simp
  go_enter Tryz.func38, Tryz.ntmps38
  go_wp2_with ((with_reducible refine wpList_allocB (o := ⟨some 4, _, _, _, _, _⟩) ?_ 25 ?_ zeroD_info ?_); rfl; rfl; intro w0 hr0 hg0 hz0; rw [hz] at hr0)
  have hS : LeafAt w w0 y := ⟨hb0.grown hg0 (by simp), ⟨zero32, zero32_length, hr0⟩, hB0.grown hg0 hB0.size (fun k e => by cases e)⟩
  clear hr0 hg0 hz0 hb0 hB0 hz
  -- REGION Leaf 2
  refine wp_region_held_drew (S := fun W => LeafAt w W y) (by kernel_rfl) hS.drew (fun hHeld => ?_)
  refine wpAnyH_take (i := 0) (oi := ⟨some 5, .move (.tmp 0), _, _, _, none⟩) (v := ?_) rfl (by kernel_rfl) (by kernel_rfl) (by kernel_rfl) (fun _ _ _ h => h) (Or.inl ⟨by rfl, ?_⟩) hHeld ?_
  rotate_left
  · intro W _; go_simp; try with_reducible rfl
  try simp only [Act.put, List.setIfInBounds_toArray, List.set_cons_zero, List.set_cons_succ]
  refine wpAnyH_take (i := 1) (oi := ⟨some 6, .fieldAddr 50 (.tmp 3) 0, _, _, _, none⟩) (v := ?_) rfl (by kernel_rfl) (by kernel_rfl) (by kernel_rfl) (fun _ _ _ h => h) (Or.inl ⟨by rfl, ?_⟩) hHeld ?_
  rotate_left
  · intro W _; go_simp; try with_reducible rfl
  try simp only [Act.put, List.setIfInBounds_toArray, List.set_cons_zero, List.set_cons_succ]
  refine wpAnyH_take (i := 2) (oi := ⟨some 7, .slice 25 (.tmp 6) none none none, _, _, _, none⟩) (v := ?_) rfl (by kernel_rfl) (by kernel_rfl) (by kernel_rfl) (fun _ _ _ h => h) (Or.inl ⟨by rfl, ?_⟩) hHeld ?_
  rotate_left
  · intro W _; go_simp; try with_reducible rfl
  try simp only [Act.put, List.setIfInBounds_toArray, List.set_cons_zero, List.set_cons_succ]
  refine wpAnyH_take (i := 3) (oi := ⟨some 8, .fieldAddr 50 (.tmp 3) 1, _, _, _, none⟩) (v := ?_) rfl (by kernel_rfl) (by kernel_rfl) (by kernel_rfl) (fun _ _ _ h => h) (Or.inl ⟨by rfl, ?_⟩) hHeld ?_
  rotate_left
  · intro W _; go_simp; try with_reducible rfl
  try simp only [Act.put, List.setIfInBounds_toArray, List.set_cons_zero, List.set_cons_succ]
  refine wpAnyH_take (i := 4) (oi := ⟨some 9, .slice 25 (.tmp 8) none none none, _, _, _, none⟩) (v := ?_) rfl (by kernel_rfl) (by kernel_rfl) (by kernel_rfl) (fun _ _ _ h => h) (Or.inl ⟨by rfl, ?_⟩) hHeld ?_
  rotate_left
  · intro W _; go_simp; try with_reducible rfl
  try simp only [Act.put, List.setIfInBounds_toArray, List.set_cons_zero, List.set_cons_succ]
  refine wpAnyH_ready (rs := [5]) (by kernel_rfl) (by simp) ?_
  refine AllReadyH.cons (o := ⟨some 10, .call { callee := .value (.func 62), args := #[.tmp 5, .const (.int .u8 0), .tmp 7, .tmp 9], argTypes := #[3, 5, 104, 104] }, _, _, _, none⟩) rfl (fun K hK => ?_) AllReadyH.nil
  refine step_ofR (by rfl) ?_
  go_simp
  refine (HS.out _ hHeld).mono ?_
  rintro x W1 ⟨rfl, hb1⟩
  refine hK.out _ _ (hHeld.below hb1) (fun hHeld => ?_)
  clear hK K
  try simp only [Act.put, List.setIfInBounds_toArray, List.set_cons_zero, List.set_cons_succ]
  obtain ⟨ds, hds, hres⟩ := hHeld.res
  refine wpAnyH_ready (rs := [6]) (by kernel_rfl) (by simp) ?_
  refine AllReadyH.cons (o := ⟨none, .store 25 (.tmp 4) (.tmp 10), _, _, _, none⟩) rfl (fun K hK => ?_) AllReadyH.nil
  refine step_storeW (w.heap.size + 1) 25 (.tmp 4) (.tmp 10) (bs q) (bs ds) _ hres H1.out (by rw [bs_length, bs_length, hds, hl]) H3 rfl rfl rfl rfl ?_
  intro W2 hr2 hg2 hz2
  refine hK.out _ _ (hHeld.put hl hr2 hg2) (fun hHeld => ?_)
  clear hK K
  try simp only [Act.put]
  refine wpAnyH_done (by kernel_rfl) ?_ _
  -- END Leaf
  go_wp2_with fail
  try simp only [Exit.inBlock, Exit.then]
  refine bodyPost_blk hr2 Tryz.underlying25 H1.out rfl rfl rfl rfl ⟨rfl, ?_⟩
  exact hHeld.bel

/-- what Node knows of a world: two digests' variables, the result's -/
structure KnotAt (w W : World) (l r : List UInt8) : Prop where
  b0 : Blk W w.heap.size 25 (bs l)
  b1 : Blk W (w.heap.size + 1) 25 (bs r)
  res : ∃ d : List UInt8, d.length = 32 ∧ Blk W (w.heap.size + 1 + 1) 25 (bs d)
  bel : Below w.heap.size w W
theorem KnotAt.below {w W W' : World} {l r : List UInt8} (h : KnotAt w W l r) (hb : Below W.heap.size W W') : KnotAt w W' l r := by
  obtain ⟨d, h1, h2⟩ := h.res
  exact ⟨h.b0.below hb, h.b1.below hb, ⟨d, h1, h2.below hb⟩, Bt h.bel hb⟩
theorem KnotAt.drew {w W : World} {l r : List UInt8} (h : KnotAt w W l r) : KnotAt w W.drew l r := h.below ⟨rfl, rfl, rfl, Nat.le_refl _, fun _ _ => rfl⟩
theorem KnotAt.put {w W W' : World} {l r : List UInt8} (h : KnotAt w W l r) {q : List UInt8} (hl : q.length = 32) (hr : Blk W' (w.heap.size + 1 + 1) 25 (bs q)) (hg : W.grownBy W' (some (w.heap.size + 1 + 1))) : KnotAt w W' l r :=
  ⟨h.b0.grown hg (by simp; omega), h.b1.grown hg (by simp), ⟨q, hl, hr⟩, h.bel.grown hg h.bel.size (fun k e => by cases e; omega)⟩
theorem Rd.whole {W : World} {g : Nat} {t : TypeId} {l : List UInt8} (h : Blk W g t (bs l)) (hl : l.length = 32) : Rd W (some ⟨g, 0, none⟩) 32 32 l := Rd.part (h.range 0 (fun j hj => by simp)) hl (by decide)

set_option maxRecDepth 100000 in
set_option maxHeartbeats 1000000 in
theorem snode_any (w : World) (x : Int) (l r : List UInt8) (hll : l.length = 32) (hrl : r.length = 32) (hT : Tab w 1) :
    Calls Tryz.prog 53 #[.int .i64 x, .agg (bs l).toArray, .agg (bs r).toArray] w fun e w' => e = .returned (.agg (bs (shortI x ([1] ++ l ++ r))).toArray) ∧ Below w.heap.size w w' := by
  have hl := shortI_length x ([1] ++ l ++ r)
  have HS := Lib.hid (fun (W : World) (h : KnotAt w W l r) => tagged_any W x 1 1 rfl (some ⟨w.heap.size, 0, none⟩) 32 32 l (Rd.whole h.b0 hll) (some ⟨w.heap.size + 1, 0, none⟩) 32 32 r (Rd.whole h.b1 hrl) (hT.below h.bel) (by decide) (by decide))
  generalize shortI x ([1] ++ l ++ r) = q at *
  have H1 := Lib.hid (show (Tryz.prog.info? 25).map (·.size) = some (bs q).length by rw [info_digest, bs_length, hl])
  have H3 := bs_one q
  have hS := PairAt.start w l r
  have hz : ((w.alloc (.cells (bs l).toArray 25)).alloc (.cells (bs r).toArray 25)).heap.size = w.heap.size + 1 + 1 := by simp
  go_enter Tryz.func53, Tryz.ntmps53
  go_wp2_with ((with_reducible refine wpList_allocB (o := ⟨some 6, _, _, _, _, _⟩) ?_ 25 ?_ zeroD_info ?_); rfl; rfl; intro w0 hr0 hg0 hz0; rw [hz] at hr0)
  replace hS : KnotAt w w0 l r := ⟨hS.b0.grown hg0 (by simp), hS.b1.grown hg0 (by simp), ⟨zero32, zero32_length, hr0⟩, hS.bel.grown hg0 hS.bel.size (fun k e => by cases e)⟩
  clear hr0 hg0 hz0 hz
  -- REGION Node 2
  refine wp_region_held_drew (S := fun W => KnotAt w W l r) (by kernel_rfl) hS.drew (fun hHeld => ?_)
  refine wpAnyH_take (i := 0) (oi := ⟨some 7, .move (.tmp 0), _, _, _, none⟩) (v := ?_) rfl (by kernel_rfl) (by kernel_rfl) (by kernel_rfl) (fun _ _ _ h => h) (Or.inl ⟨by rfl, ?_⟩) hHeld ?_
  rotate_left
  · intro W _; go_simp; try with_reducible rfl
  try simp only [Act.put, List.setIfInBounds_toArray, List.set_cons_zero, List.set_cons_succ]
  refine wpAnyH_take (i := 1) (oi := ⟨some 8, .slice 25 (.tmp 4) none none none, _, _, _, none⟩) (v := ?_) rfl (by kernel_rfl) (by kernel_rfl) (by kernel_rfl) (fun _ _ _ h => h) (Or.inl ⟨by rfl, ?_⟩) hHeld ?_
  rotate_left
  · intro W _; go_simp; try with_reducible rfl
  try simp only [Act.put, List.setIfInBounds_toArray, List.set_cons_zero, List.set_cons_succ]
  refine wpAnyH_take (i := 2) (oi := ⟨some 9, .slice 25 (.tmp 5) none none none, _, _, _, none⟩) (v := ?_) rfl (by kernel_rfl) (by kernel_rfl) (by kernel_rfl) (fun _ _ _ h => h) (Or.inl ⟨by rfl, ?_⟩) hHeld ?_
  rotate_left
  · intro W _; go_simp; try with_reducible rfl
  try simp only [Act.put, List.setIfInBounds_toArray, List.set_cons_zero, List.set_cons_succ]
  refine wpAnyH_ready (rs := [3]) (by kernel_rfl) (by simp) ?_
  refine AllReadyH.cons (o := ⟨some 10, .call { callee := .value (.func 62), args := #[.tmp 7, .const (.int .u8 1), .tmp 8, .tmp 9], argTypes := #[3, 5, 104, 104] }, _, _, _, none⟩) rfl (fun K hK => ?_) AllReadyH.nil
  refine step_ofR (by rfl) ?_
  go_simp
  refine (HS.out _ hHeld).mono ?_
  rintro x W1 ⟨rfl, hb1⟩
  refine hK.out _ _ (hHeld.below hb1) (fun hHeld => ?_)
  clear hK K
  try simp only [Act.put, List.setIfInBounds_toArray, List.set_cons_zero, List.set_cons_succ]
  obtain ⟨ds, hds, hres⟩ := hHeld.res
  refine wpAnyH_ready (rs := [4]) (by kernel_rfl) (by simp) ?_
  refine AllReadyH.cons (o := ⟨none, .store 25 (.tmp 6) (.tmp 10), _, _, _, none⟩) rfl (fun K hK => ?_) AllReadyH.nil
  refine step_storeW (w.heap.size + 1 + 1) 25 (.tmp 6) (.tmp 10) (bs q) (bs ds) _ hres H1.out (by rw [bs_length, bs_length, hds, hl]) H3 rfl rfl rfl rfl ?_
  intro W2 hr2 hg2 hz2
  refine hK.out _ _ (hHeld.put hl hr2 hg2) (fun hHeld => ?_)
  clear hK K
  try simp only [Act.put]
  refine wpAnyH_done (by kernel_rfl) ?_ _
  -- END Node
  go_wp2_with fail
  try simp only [Exit.inBlock, Exit.then]
  refine bodyPost_blk hr2 Tryz.underlying25 H1.out rfl rfl rfl rfl ⟨rfl, ?_⟩
  exact hHeld.bel
end
end Go.Proofs.YtmfnpjfhijmboaaGreatDoor
