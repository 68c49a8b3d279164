/-
  The walk of MacSums.
-/
import Derived.Test.YteanlgakdffibaaDoorLaw03A
import Derived.Test.YteanlgakdffibaaDoorLibT
namespace Go.Proofs.YteanlgakdffibaaDoor
open Go.RowKit

theorem eqSameS (D : List UInt8) (h : D.length = 32) (W : World) : (Op.equalIn 10000 32 (.agg (bs D).toArray) (.agg (bs D).toArray)).run Tryd.prog W = .ok true W := by
  rw [eqInD W D D h h]; simp
theorem xorb_takeS (m : UInt8) (l : List UInt8) (k : Nat) (h : k < l.length) : xorb m (l.take (k + 1)) = xorb m (l.take k) ++ [l.getD k 0 ^^^ m] := by
  rw [List.take_succ_eq_append_getElem h]; simp only [xorb, List.map_append, List.map_cons, List.map_nil]; simp [List.getD, h]
theorem kblock_at (k : List UInt8) (h : k.length ≤ 64) (j : Nat) : (kblock k).getD j 0 = if j < k.length then k.getD j 0 else 0 := by
  have e : keyOf k = k := by unfold keyOf; rw [if_pos h]
  rw [kblock, e]
  split
  · rw [List.getD, List.getD, List.getElem?_append_left (by assumption)]
  · rw [List.getD, List.getElem?_append_right (by omega), List.getElem?_replicate]
    split <;> rfl

set_option maxRecDepth 100000 in
set_option maxHeartbeats 2000000 in
theorem walkMacSums (w : World) (hT : Tab w 1) (ka : Option Addr) (kn kc : Nat) (k : List UInt8) (hk : Rd w ka kn kc k) (a : Option Addr) (n c : Nat) (l : List UInt8) (hr : Rd w a n c l) :
    Calls Tryd.prog 7 #[.slice ka kn kc, .slice a n c] w (Yes3 w) := by
  by_cases hkn : 64 < kn
  · have h1 : (64 : Int) < kn := by omega
    go_enter Tryd.func7, Tryd.ntmps7
    go_wp2_with fail
    refine (macs_any w hT).mono ?_
    rintro e w1 ⟨rfl, hB1⟩
    go_wp2_with fail
    go_ret
    exact Yes3.mk hB1
  have h1 : ¬ (64 : Int) < kn := by omega
  by_cases hn : 131072 < n
  · have h2 : (131072 : Int) < n := by omega
    go_enter Tryd.func7, Tryd.ntmps7
    go_wp2_with fail
    refine (macs_any w hT).mono ?_
    rintro e w1 ⟨rfl, hB1⟩
    go_wp2_with fail
    go_ret
    exact Yes3.mk hB1
  have h2 : ¬ (131072 : Int) < n := by omega
  have hkl := hk.len
  have HKA := Lib.hid (fun j => kblock_at k (by omega) j)
  have hBl := kblock_length k
  have hmac := Lib.hid (show hmac k l = sha (xorb 92 (kblock k) ++ sha (xorb 54 (kblock k) ++ l)) from rfl)
  generalize kblock k = B at *
  have ht64 : B.take 64 = B := List.take_of_length_le (by omega)
  go_enter Tryd.func7, Tryd.ntmps7
  go_wp2_with fail
  go_loopw [5, 6, 7, 8] (fun u v t _ wr => ∃ (j : Nat) (p q : List UInt8) (ai : Option Addr) (ci : Nat) (ao : Option Addr) (co : Nat), j ≤ 64 ∧ t = .int .i64 j ∧ u = .slice ai p.length ci ∧ v = .slice ao q.length co ∧ p = xorb 54 (B.take j) ∧ q = xorb 92 (B.take j) ∧ Two w wr (.slice ai p.length ci) (.slice ao q.length co) p q) (fun _ _ t _ _ => 64 - (intOf t).toNat)
  case atStart => exact ⟨0, [], [], none, 0, none, 0, by omega, rfl, rfl, rfl, by simp [xorb], by simp [xorb], Two.start w⟩
  case round =>
    obtain ⟨j, p, q, ai, ci, ao, co, hj, rfl, rfl, rfl, hp, hq, hTw⟩ := hrel
    have hpl := Lib.hid (show p.length = j by rw [hp, xorb_length, List.length_take]; omega)
    have hql := Lib.hid (show q.length = j by rw [hq, xorb_length, List.length_take]; omega)
    by_cases hlt : j < 64
    · have hp1 := xorb_takeS 54 B j (by omega)
      have hq1 := xorb_takeS 92 B j (by omega)
      rw [← hp] at hp1
      rw [← hq] at hq1
      rw [HKA.out j] at hp1 hq1
      have hj64 : (j : Int) < 64 := by omega
      clear hp hq
      by_cases hjn : j < kn
      case' pos =>
        rw [if_pos (by omega)] at hp1 hq1
        obtain ⟨b, off, rfl, hc⟩ := (hk.below hTw.bel).byte (by omega)
        have hji : (j : Int) < kn := by omega
        have c0 := hc j hjn
        generalize k.getD j 0 = x at *
        clear hc
      case' neg =>
        rw [if_neg (by omega)] at hp1 hq1
        have hji : ¬ (j : Int) < kn := by omega
        obtain ⟨x, hx0⟩ : ∃ x : UInt8, x = 0 := ⟨_, rfl⟩
        rw [← hx0] at hp1 hq1
      all_goals
        have hx1 := u8_xor_c x 54
        have hx2 := u8_xor_c x 92
        have HR1 := Lib.hid (show ∀ W : World, Rd (W.alloc (.cells #[.int .u8 (bits .xor .u8 (x.toNat : Int) 54)] 5)) (some ⟨W.heap.size, 0, none⟩) 1 1 [x ^^^ 54] from fun W => by
          rw [show bits .xor .u8 (x.toNat : Int) 54 = _ from hx1]; exact Rd.lit W [x ^^^ 54] 1 rfl (by decide))
        have HR2 := Lib.hid (show ∀ W : World, Rd (W.alloc (.cells #[.int .u8 (bits .xor .u8 (x.toNat : Int) 92)] 5)) (some ⟨W.heap.size, 0, none⟩) 1 1 [x ^^^ 92] from fun W => by
          rw [show bits .xor .u8 (x.toNat : Int) 92 = _ from hx2]; exact Rd.lit W [x ^^^ 92] 1 rfl (by decide))
        clear hx1 hx2
        try subst hx0
        go_wp2_with (first | (at_builtin; refine wpList_app2 (v := .slice ai p.length ci) rfl (.tmp 31) (.tmp 34) rfl rfl (hTw.alloc _).fst rfl (HR1.out _) (by have := hpl.out; omega) (hTw.alloc _).size ?_; intro a1 c1 w1 hO1 hg1 hx1; have hU := (hTw.alloc _).app hO1 hg1 hx1; have hs1 := hU.size) | (at_builtin; refine wpList_app2 (v := .slice ao q.length co) rfl (.tmp 36) (.tmp 39) rfl rfl (hU.alloc _).symm.fst rfl (HR2.out _) (by have := hql.out; omega) (hU.alloc _).size ?_; intro a2 c2 w2 hO2 hg2 hx2; have hV := ((hU.alloc _).symm.app hO2 hg2 hx2).symm))
        refine ⟨⟨j + 1, _, _, a1, c1, a2, c2, by omega, by go_num, ?_, ?_, hp1.symm, hq1.symm, ?_⟩, by simp [intOf]; omega⟩
        · rw [List.length_append]; rfl
        · rw [List.length_append]; rfl
        · rw [List.length_append, List.length_append]; exact hV
    · obtain rfl : j = 64 := by omega
      rw [ht64] at hp hq
      have HM := Lib.hid (show Go.Proofs.YteanlgakdffibaaDoor.hmac k l = sha (q ++ sha (p ++ l)) by rw [hmac.out, hp, hq])
      clear hp hq ht64 hj hlt
      have hl := Lib.hid hr.len
      have hrd2 := hr.below hTw.bel
      go_wp2_with (at_builtin; refine wpList_app2 (v := .slice ai p.length ci) rfl (.tmp 41) (.tmp 42) rfl rfl hTw.fst rfl hrd2 (by have := hpl.out; omega) hTw.size ?_; intro a1 c1 w1 hO1 hg1 hx1; have hU := hTw.app hO1 hg1 hx1; have hs1 := hU.size)
      have hrp := hU.fst.rd
      refine (sum_any w1 a1 _ c1 _ hrp (hT.below hU.bel) (by have := hpl.out; omega)).mono ?_
      rintro e x2 ⟨rfl, hC2⟩
      have hV := hU.below hC2
      have hD1 := sha_length (p ++ l)
      generalize sha (p ++ l) = D1 at *
      have H1 := Lib.hid (show (Tryd.prog.info? 32).map (·.size) = some (bs D1).length by rw [info_digest, bs_length, hD1])
      have H2 := Lib.hid (show (bs zero32).length = (bs D1).length by rw [bs_length, bs_length, zero32_length, hD1])
      have H3 := bs_one D1
      have hs2 := hV.bel.size
      go_wp2_with (first | ((with_reducible refine wpList_allocB (o := ⟨some 9, _, _, _, _, _⟩) ?_ 32 ?_ zero32_info ?_); rfl; rfl; intro x3 hr3 hg3 hz3) | ((with_reducible refine wpList_storeB (o := ⟨none, .store 32 (.tmp 9) (.tmp 45), _, _, _, _⟩) ?_ 32 (.tmp 9) (.tmp 45) ?_ ?_ ?_ hr3 H1.out H2.out H3 ?_); rfl; rfl; rfl; rfl; intro x4 hr4 hg4 hz4; have hC4 := below_of_grown ((Below.refl _ x2).grown hg3 (Nat.le_refl _) (fun k e => by cases e)) hg4 (Nat.le_refl _); have hW := hV.below hC4; have hrd4 := Rd.block hr4.at_ hD1 (by decide)) | (at_builtin; refine wpList_app2 (v := .slice ao q.length co) rfl (.tmp 46) (.tmp 47) rfl rfl hW.symm.fst rfl hrd4 (by have := hql.out; omega) hW.size ?_; intro a2 c2 x5 hO5 hg5 hx5; have hX := hW.symm.app hO5 hg5 hx5))
      refine (macs_any x5 (hT.below hX.bel)).mono ?_
      rintro e x6 ⟨rfl, hC6⟩
      have hY := hX.below hC6
      go_wp2_with fail
      refine (mac_any x6 ka kn kc k a n c l (hk.below hY.bel) (hr.below hY.bel) (hT.below hY.bel) (by omega) (by omega)).mono ?_
      rintro e x7 ⟨rfl, hC7⟩
      have hZ := hY.below hC7
      have hrq := hZ.fst.rd
      go_wp2_with fail
      refine (sum_any x7 a2 _ c2 _ hrq (hT.below hZ.bel) (by have := hql.out; omega)).mono ?_
      rintro e x8 ⟨rfl, hC8⟩
      rw [← HM.out]
      have heq := eqSameS (Go.Proofs.YteanlgakdffibaaDoor.hmac k l) (hmac_length _ _)
      generalize Go.Proofs.YteanlgakdffibaaDoor.hmac k l = D at *
      go_wp2_with fail
      go_ret
      exact Yes3.mk (hZ.below hC8).bel
end Go.Proofs.YteanlgakdffibaaDoor
