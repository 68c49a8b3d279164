/-
  The walk of the reference's Mac.
-/
import Derived.Test.YtoclahcibilbhaaDoorMacC
import Derived.Test.YtoclahcibilbhaaDoorRef02C
import Derived.Test.YtoclahcibilbhaaDoorLibT
namespace Go.Proofs.YtoclahcibilbhaaDoor
open Go.RowKit

/-- the block of the reference's key while it is filled -/
def fillK (q : List UInt8) (k : Nat) : List UInt8 := q.take k ++ List.replicate (64 - k) 0
theorem fillK_length (q : List UInt8) (k : Nat) (h : k ≤ q.length) (h2 : q.length ≤ 64) : (fillK q k).length = 64 := by simp [fillK]; omega
theorem fillK_step (q : List UInt8) (k : Nat) (h : k < q.length) (h2 : q.length ≤ 64) : (fillK q k).set k (q.getD k 0) = fillK q (k + 1) := by
  have e2 : q.take (k + 1) = q.take k ++ [q.getD k 0] := by rw [List.take_succ_eq_append_getElem h]; simp [List.getD, h]
  have e1 : List.replicate (64 - k) (0 : UInt8) = 0 :: List.replicate (64 - (k + 1)) 0 := by rw [show 64 - k = (64 - (k + 1)) + 1 by omega, List.replicate_succ]
  have e3 : k = (q.take k).length := by rw [List.length_take]; omega
  rw [fillK, fillK, e1, e2]
  conv => lhs; arg 2; rw [e3]
  rw [List.set_append_right _ _ (Nat.le_refl _)]
  simp
theorem fillK_full (q : List UInt8) : fillK q q.length = q ++ List.replicate (64 - q.length) 0 := by simp [fillK]
theorem fillK_zero (q : List UInt8) : fillK q 0 = zeros64 := by simp [fillK, zeros64]
theorem xorb_take (m : UInt8) (l : List UInt8) (k : Nat) (h : k < l.length) : xorb m (l.take (k + 1)) = xorb m (l.take k) ++ [l.getD k 0 ^^^ m] := by
  rw [List.take_succ_eq_append_getElem h]; simp only [xorb, List.map_append, List.map_cons, List.map_nil]; simp [List.getD, h]

/-- what the first loop of the reference's Mac knows of a world -/
structure FillAt (w0 W : World) (r : Nat) (q : List UInt8) (k : Nat) : Prop where
  arr : Blk W r 54 (bs (fillK q k))
  gr : w0.grownBy W (some r)

theorem FillAt.step {w0 W : World} {r : Nat} {q : List UInt8} {k : Nat} (h : FillAt w0 W r q k) (hk : k < q.length) (h64 : q.length ≤ 64) :
    FillAt w0 (W.setCell ⟨r, k, none⟩ (.int .u8 ((q.getD k 0).toNat : Int))) r q (k + 1) := by
  have hg := set_grown W r k (.int .u8 ((q.getD k 0).toNat : Int))
  refine ⟨?_, grown2 h.gr hg (fun k e => .inr e)⟩
  have hs := h.arr.set k (.int .u8 ((q.getD k 0).toNat : Int))
  rw [bs_set _ _ _ (UInt8.toNat_lt _), UInt8.ofNat_toNat, fillK_step _ _ hk h64] at hs
  exact hs

set_option maxRecDepth 100000 in
set_option maxHeartbeats 2000000 in
theorem mac_ref (w : World) (ka : Option Addr) (kn kc : Nat) (k : List UInt8) (a : Option Addr) (n c : Nat) (l : List UInt8) (hk : Rd w ka kn kc k) (hr : Rd w a n c l) (hT : Tab w 1) (hkn : kn ≤ 1000000) (hn : n ≤ 1000000) :
    Calls Tryd.prog 34 #[.slice ka kn kc, .slice a n c] w fun e w' => e = .returned (.agg (bs (hmac k l)).toArray) ∧ Below w.heap.size w w' := by
  have hkl := hk.len
  have hTl := hT.lt
  go_enter Tryd.func34, Tryd.ntmps34
  by_cases h64 : kn ≤ 64
  case' pos =>
    have h64' : ¬ (64 : Int) < kn := by omega
    go_wp2_with (first | ((with_reducible refine wpList_allocB (o := ⟨some 4, _, _, _, _, _⟩) ?_ 23 ?_ zero32_info ?_); rfl; rfl; intro w1 hr1 hg1 hz1) | ((with_reducible refine wpList_allocB (o := ⟨some 5, _, _, _, _, _⟩) ?_ 54 ?_ zeros64_info ?_); rfl; rfl; intro w2 hr2 hg2 hz2))
    have hB2 : Below w.heap.size w w2 := ((Below.refl _ w).grown hg1 (Nat.le_refl _) (fun k e => by cases e)).grown hg2 (by omega) (fun k e => by cases e)
    rw [hz1] at hr2
    have hr12 := hr1.grown hg2 (by simp)
    obtain ⟨q, hqe, hq, hq64, hqa⟩ : ∃ q, keyOf k = q ∧ Rd w2 ka kn kc q ∧ kn ≤ 64 ∧ Ap ka kn (w.heap.size + 1) := ⟨k, by unfold keyOf; rw [if_pos (by omega)], hk.below hB2, h64, hk.ap (by omega)⟩
    clear hr1 hg1 hz1 hg2 hz2 h64' h64 hk hkl
    generalize w2 = w9 at *
  case' neg =>
    have h64' : (64 : Int) < kn := by omega
    go_wp2_with (first | ((with_reducible refine wpList_allocB (o := ⟨some 4, _, _, _, _, _⟩) ?_ 23 ?_ zero32_info ?_); rfl; rfl; intro w1 hr1 hg1 hz1) | ((with_reducible refine wpList_allocB (o := ⟨some 5, _, _, _, _, _⟩) ?_ 54 ?_ zeros64_info ?_); rfl; rfl; intro w2 hr2 hg2 hz2))
    have hB2 : Below w.heap.size w w2 := ((Below.refl _ w).grown hg1 (Nat.le_refl _) (fun k e => by cases e)).grown hg2 (by omega) (fun k e => by cases e)
    rw [hz1] at hr2
    have hr12 := hr1.grown hg2 (by simp)
    refine (sum_ref w2 ka kn kc k (hk.below hB2) (hT.below hB2) (by omega)).mono ?_
    rintro e w3 ⟨rfl, hB3⟩
    have hsl := sha_length k
    have hqe : keyOf k = sha k := by unfold keyOf; rw [if_neg (by omega)]
    generalize sha k = q at *
    have H1 := Lib.hid (show (Tryd.prog.info? 23).map (·.size) = some (bs q).length by rw [info_digest, bs_length, hsl])
    have H2 := Lib.hid (show (bs zero32).length = (bs q).length by rw [bs_length, bs_length, zero32_length, hsl])
    have H3 := bs_one q
    have hs3 := hB3.size
    replace hr2 := hr2.below hB3
    replace hr12 := hr12.below hB3
    go_wp2_with (first | ((with_reducible refine wpList_allocB (o := ⟨some 6, _, _, _, _, _⟩) ?_ 23 ?_ zero32_info ?_); rfl; rfl; intro w4 hr4 hg4 hz4) | ((with_reducible refine wpList_storeB (o := ⟨none, .store 23 (.tmp 6) (.tmp 16), _, _, _, _⟩) ?_ 23 (.tmp 6) (.tmp 16) ?_ ?_ ?_ hr4 H1.out H2.out H3 ?_); rfl; rfl; rfl; rfl; intro w5 hr5 hg5 hz5))
    replace hr2 := (hr2.grown hg4 (by simp)).grown hg5 (by simp; omega)
    replace hr12 := (hr12.grown hg4 (by simp)).grown hg5 (by simp; omega)
    replace hB2 : Below w.heap.size w w5 := below_of_grown ((Bt hB2 hB3).grown hg4 (by omega) (fun k e => by cases e)) hg5 (by omega)
    obtain ⟨hq, hq64, hqa⟩ : Rd w5 (some ⟨w3.heap.size, 0, none⟩) 32 32 q ∧ 32 ≤ 64 ∧ Ap (some ⟨w3.heap.size, 0, none⟩) 32 (w.heap.size + 1) := ⟨Rd.block hr5.at_ hsl (by decide), by decide, fun _ ad e => by cases e; simp; omega⟩
    clear hr4 hg4 hz4 hr5 hg5 hz5 hs3 hB3 H1 H2 H3 hr1 hg1 hz1 hg2 hz2 h64' h64 hk hkl hsl
    generalize w5 = w9 at *
  all_goals
    have hql := hq.len
    have hq64' : q.length ≤ 64 := by omega
    have hk0 : FillAt w9 w9 (w.heap.size + 1) q 0 := ⟨by rw [fillK_zero]; exact hr2, World.grownBy.refl _ _⟩
    have hkb := Lib.hid (show kblock k = fillK q q.length by rw [fillK_full, kblock, hqe])
    have hmac := Lib.hid (show hmac k l = sha (xorb 92 (kblock k) ++ sha (xorb 54 (kblock k) ++ l)) from rfl)
    have hBl := kblock_length k
    generalize kblock k = B at *
    go_loopw [7] (fun t wr => ∃ j : Nat, j ≤ q.length ∧ t = .int .i64 j ∧ FillAt w9 wr (w.heap.size + 1) q j) (fun t _ => 64 - (intOf t).toNat)
    case atStart => exact ⟨0, by omega, rfl, hk0⟩
    case round =>
      obtain ⟨j, hj, rfl, hF⟩ := hrel
      by_cases hlt : j < q.length
      · obtain ⟨b, off, hkae, hc⟩ := hq.byte (by omega)
        have hne := hqa (by omega) _ hkae
        have c0 := hF.gr.cell (hc j (by omega)) (by simpa using hne)
        first | subst hkae | (simp only [Option.some.injEq, Addr.mk.injEq] at hkae; obtain ⟨rfl, rfl, -⟩ := hkae)
        try simp only [Nat.zero_add] at c0
        have hj64 : (j : Int) < 64 := by omega
        first | (have hji : (j : Int) < 32 := by omega) | (have hji : (j : Int) < kn := by omega)
        have f0 := hF.arr.free j
        have d0 := hF.arr.cell (bs_at _ j (by rw [fillK_length _ _ hj hq64']; omega))
        have hS := Lib.hid (hF.step hlt hq64')
        generalize q.getD j 0 = x at *
        go_wp2_with fail
        exact ⟨⟨j + 1, by omega, by go_num, hS.out⟩, by simp [intOf]; omega⟩
      · obtain rfl : j = q.length := by omega
        first | (have hji : ¬ (q.length : Int) < 32 := by omega) | (have hji : ¬ (q.length : Int) < kn := by omega)
        have harr := hF.arr
        rw [← hkb.out] at harr
        have hres := hr12.grown hF.gr (by simp)
        have hrd := Ap.grown (hr.below hB2) hF.gr (hr.ap (by omega))
        have htab := (hT.below hB2).grown hF.gr (by omega)
        have hB3 := below_of_grown hB2 hF.gr (by omega)
        have hsz := hB3.size
        clear hF hr12 hB2 hr2 hk0 hq hqa hr hT hj hlt
        go_wp2_with fail
        clear hji hql hq64' hqe hkb hq64
        generalize wr = w8 at *
        have hT0 := Two.start w8
        have ht64 : B.take 64 = B := List.take_of_length_le (by omega)
        go_loopw [8, 9, 10] (fun u v t wr => ∃ (j : Nat) (p q : List UInt8) (ai : Option Addr) (ci : Nat) (ao : Option Addr) (co : Nat), j ≤ 64 ∧ t = .int .i64 j ∧ u = .slice ai p.length ci ∧ v = .slice ao q.length co ∧ p = xorb 54 (B.take j) ∧ q = xorb 92 (B.take j) ∧ Two w8 wr (.slice ai p.length ci) (.slice ao q.length co) p q) (fun _ _ t _ => 64 - (intOf t).toNat)
        case atStart => exact ⟨0, [], [], none, 0, none, 0, by omega, rfl, rfl, rfl, by simp [xorb], by simp [xorb], hT0⟩
        case round =>
          obtain ⟨j, p, q, ai, ci, ao, co, hj, rfl, rfl, rfl, hp, hq, hTw⟩ := hrel
          have hpl := Lib.hid (show p.length = j by rw [hp, xorb_length, List.length_take]; omega)
          have hql := Lib.hid (show q.length = j by rw [hq, xorb_length, List.length_take]; omega)
          have hsz2 := hTw.bel.size
          by_cases hlt : j < 64
          · have c0 := (harr.below hTw.bel).cell (bs_at B j (by omega))
            have hBx := bs_at B j (by omega)
            have hp1 := xorb_take 54 B j (by omega)
            have hq1 := xorb_take 92 B j (by omega)
            rw [← hp] at hp1
            rw [← hq] at hq1
            generalize B.getD j 0 = x at *
            have hx1 := u8_xor_c x 54
            have hx2 := u8_xor_c x 92
            have HR1 := Lib.hid (show ∀ W : World, Rd (W.alloc (.cells #[.int .u8 (bits .xor .u8 (x.toNat : Int) 54)] 5)) (some ⟨W.heap.size, 0, none⟩) 1 1 [x ^^^ 54] from fun W => by
              rw [show bits .xor .u8 (x.toNat : Int) 54 = _ from hx1]; exact Rd.lit W [x ^^^ 54] 1 rfl (by decide))
            have HR2 := Lib.hid (show ∀ W : World, Rd (W.alloc (.cells #[.int .u8 (bits .xor .u8 (x.toNat : Int) 92)] 5)) (some ⟨W.heap.size, 0, none⟩) 1 1 [x ^^^ 92] from fun W => by
              rw [show bits .xor .u8 (x.toNat : Int) 92 = _ from hx2]; exact Rd.lit W [x ^^^ 92] 1 rfl (by decide))
            clear hx1 hx2 hp hq
            have hj64 : (j : Int) < 64 := by omega
            go_wp2_with (first | (at_builtin; refine wpList_app2 (v := .slice ai p.length ci) rfl (.tmp 34) (.tmp 39) rfl rfl (hTw.alloc _).fst rfl (HR1.out _) (by have := hpl.out; omega) (hTw.alloc _).size ?_; intro a1 c1 w1 hO1 hg1 hx1; have hU := (hTw.alloc _).app hO1 hg1 hx1; have hs1 := hU.size; have d1 := (harr.below hU.bel).cell hBx) | (at_builtin; refine wpList_app2 (v := .slice ao q.length co) rfl (.tmp 41) (.tmp 46) rfl rfl (hU.alloc _).symm.fst rfl (HR2.out _) (by have := hql.out; omega) (hU.alloc _).size ?_; intro a2 c2 w2 hO2 hg2 hx2; have hV := ((hU.alloc _).symm.app hO2 hg2 hx2).symm))
            have e1 : (p ++ [x ^^^ 54]).length = p.length + 1 := by simp
            have e2 : (q ++ [x ^^^ 92]).length = q.length + 1 := by simp
            exact ⟨⟨j + 1, p ++ [x ^^^ 54], q ++ [x ^^^ 92], a1, c1, a2, c2, by omega, by go_num, by rw [e1], by rw [e2], hp1.symm, hq1.symm, by rw [e1, e2]; exact hV⟩, by simp [intOf]; omega⟩
          · obtain rfl : j = 64 := by omega
            rw [ht64] at hp hq
            have HM := Lib.hid (show Go.Proofs.YtoclahcibilbhaaDoor.hmac k l = sha (q ++ sha (p ++ l)) by rw [hmac.out, hp, hq])
            clear hp hq hmac hT0 ht64 hj hlt
            have hl := Lib.hid hrd.len
            have hrd2 := hrd.below hTw.bel
            go_wp2_with (at_builtin; refine wpList_app2 (v := .slice ai p.length ci) rfl (.tmp 48) (.tmp 49) rfl rfl hTw.fst rfl hrd2 (by have := hpl.out; omega) hTw.size ?_; intro a1 c1 w1 hO1 hg1 hx1; have hU := hTw.app hO1 hg1 hx1; have hs1 := hU.size)
            have hrp := hU.fst.rd
            refine (sum_ref w1 a1 _ c1 _ hrp (htab.below hU.bel) (by have := hpl.out; omega)).mono ?_
            rintro e x2 ⟨rfl, hC2⟩
            have hV := hU.below hC2
            have hD1 := sha_length (p ++ l)
            generalize sha (p ++ l) = D1 at *
            have H1 := Lib.hid (show (Tryd.prog.info? 23).map (·.size) = some (bs D1).length by rw [info_digest, bs_length, hD1])
            have H2 := Lib.hid (show (bs zero32).length = (bs D1).length by rw [bs_length, bs_length, zero32_length, hD1])
            have H3 := bs_one D1
            have hs2 := hV.bel.size
            go_wp2_with (first | ((with_reducible refine wpList_allocB (o := ⟨some 11, _, _, _, _, _⟩) ?_ 23 ?_ zero32_info ?_); rfl; rfl; intro x3 hr3 hg3 hz3) | ((with_reducible refine wpList_storeB (o := ⟨none, .store 23 (.tmp 11) (.tmp 52), _, _, _, _⟩) ?_ 23 (.tmp 11) (.tmp 52) ?_ ?_ ?_ hr3 H1.out H2.out H3 ?_); rfl; rfl; rfl; rfl; intro x4 hr4 hg4 hz4; have hC4 := below_of_grown ((Below.refl _ x2).grown hg3 (Nat.le_refl _) (fun k e => by cases e)) hg4 (Nat.le_refl _); have hW := hV.below hC4; have hrd4 := Rd.block hr4.at_ hD1 (by decide)) | (at_builtin; refine wpList_app2 (v := .slice ao q.length co) rfl (.tmp 53) (.tmp 54) rfl rfl hW.symm.fst rfl hrd4 (by have := hql.out; omega) hW.size ?_; intro a2 c2 x5 hO5 hg5 hx5; have hX := hW.symm.app hO5 hg5 hx5))
            have hrq := hX.fst.rd
            refine (sum_ref x5 a2 _ c2 _ hrq (htab.below hX.bel) (by have := hql.out; omega)).mono ?_
            rintro e x6 ⟨rfl, hC6⟩
            rw [← HM.out]
            have hres6 := hres.below (Bt hX.bel hC6)
            have hD2 := hmac_length k l
            generalize hDe : Go.Proofs.YtoclahcibilbhaaDoor.hmac k l = D2 at *
            have HDe := Lib.hid hDe
            clear hDe
            have H4 := Lib.hid (show (Tryd.prog.info? 23).map (·.size) = some (bs D2).length by rw [info_digest, bs_length, hD2])
            have H5 := Lib.hid (show (bs zero32).length = (bs D2).length by rw [bs_length, bs_length, zero32_length, hD2])
            have H6 := bs_one D2
            go_wp2_with ((with_reducible refine wpList_storeB (o := ⟨none, .store 23 (.tmp 4) (.tmp 57), _, _, _, _⟩) ?_ 23 (.tmp 4) (.tmp 57) ?_ ?_ ?_ hres6 H4.out H5.out H6 ?_); rfl; rfl; rfl; rfl; intro x7 hr7 hg7 hz7)
            try simp only [Exit.inBlock, Exit.then]
            refine bodyPost_blk hr7 Tryd.underlying23 H4.out rfl rfl rfl rfl ⟨by rw [HDe.out], ?_⟩
            exact below_of_grown (Bt hB3 (Bt hX.bel hC6)) hg7 (Nat.le_refl _)
end Go.Proofs.YtoclahcibilbhaaDoor
