/-
  The statements VersionNext and VersionAt of layer 7.
-/
import Derived.Test.YtbbckjpgmpfkgaaLaw07A
namespace Go.Proofs.Ytbbckjpgmpfkgaa
open Go.RowKit

theorem next_yes {w : World} {a : Option Addr} {n c : Nat} {l : List Vn} (hr : RdV w a n c l) {v : Vn} (h : nextI l v = 0) : Calls Try.prog 15 #[.slice a n c, .agg (vc v).toArray] w
    fun e w' => ∃ a' c', e = .returned (.tuple #[.slice a' (n + 1) c', .int .i64 0]) ∧ OwnV w' w.heap.size (.slice a' (n + 1) c') (l ++ [v]) ∧ Below w.heap.size w w' := by
  refine (next_any w a n c l hr v).mono ?_
  rintro e w' (⟨_, a', c', h1, h2, h3⟩ | ⟨h1, _⟩)
  · rw [hr.len] at h1 h2
    exact ⟨a', c', h1, h2, h3⟩
  · exact absurd h h1
theorem next_no {w : World} {a : Option Addr} {n c : Nat} {l : List Vn} (hr : RdV w a n c l) {v : Vn} {i : Int} (h : nextI l v = i) (h0 : i ≠ 0) : Calls Try.prog 15 #[.slice a n c, .agg (vc v).toArray] w
    fun e w' => e = .returned (.tuple #[.slice none 0 0, .int .i64 i]) ∧ Below w.heap.size w w' := by
  refine (next_any w a n c l hr v).mono ?_
  rintro e w' (⟨h1, _⟩ | ⟨_, h1, h2⟩)
  · exact absurd (h ▸ h1) h0
  · rw [h] at h1
    exact ⟨h1, h2⟩
theorem nextR_yes {w : World} {a : Option Addr} {n c : Nat} {l : List Vn} (hr : RdV w a n c l) (hn : n ≤ 1000) {v : Vn} (h : nextI l v = 0) : Calls Try.prog 16 #[.slice a n c, .agg (vc v).toArray] w
    fun e w' => ∃ a' c', e = .returned (.tuple #[.slice a' (n + 1) c', .int .i64 0]) ∧ OwnV w' w.heap.size (.slice a' (n + 1) c') (l ++ [v]) ∧ Below w.heap.size w w' := by
  refine (nextR_any w a n c l hr hn v).mono ?_
  rintro e w' (⟨_, a', c', h1, h2, h3⟩ | ⟨h1, _⟩)
  · rw [hr.len] at h1 h2
    exact ⟨a', c', h1, h2, h3⟩
  · exact absurd h h1
theorem nextR_no {w : World} {a : Option Addr} {n c : Nat} {l : List Vn} (hr : RdV w a n c l) (hn : n ≤ 1000) {v : Vn} {i : Int} (h : nextI l v = i) (h0 : i ≠ 0) : Calls Try.prog 16 #[.slice a n c, .agg (vc v).toArray] w
    fun e w' => e = .returned (.tuple #[.slice none 0 0, .int .i64 i]) ∧ Below w.heap.size w w' := by
  refine (nextR_any w a n c l hr hn v).mono ?_
  rintro e w' (⟨h1, _⟩ | ⟨_, h1, h2⟩)
  · exact absurd (h ▸ h1) h0
  · rw [h] at h1
    exact ⟨h1, h2⟩

set_option maxRecDepth 100000 in
set_option maxHeartbeats 1000000 in
theorem nexts_any (w : World) : Calls Try.prog 17 #[] w (Yes7 w) := by
  have N1 := Lib.hid (fun (W : World) => next_yes (RdG.nil0 (R := verR) W) nextP)
  rw [Nat.zero_add, List.nil_append] at N1
  have N2 := Lib.hid (fun (W : World) => next_no (RdG.nil0 (R := verR) W) nextR (by decide))
  have N3 := Lib.hid (fun (W : World) (a : Option Addr) (c : Nat) (h : RdV W a 1 c [vP]) => next_no h nextPP (by decide))
  have PU := Lib.hid put_any
  have RO := Lib.hid rotate_any
  go_enter Try.func17, Try.ntmps17
  go_wp2_with fail
  refine (PU.out _).mono ?_
  rintro e w1 ⟨rfl, hB1⟩
  go_wp2_with fail
  refine (N1.out _).mono ?_
  rintro e w2 ⟨a2, c2, rfl, hO2, hB2⟩
  have hB02 := Bt hB1 hB2
  have hr2 := hO2.rd
  clear hO2
  go_wp2_with fail
  refine (RO.out _).mono ?_
  rintro e w3 ⟨rfl, hB3⟩
  have hB03 := Bt hB02 hB3
  have hr3 := hr2.below hB3
  go_wp2_with fail
  refine (N2.out _).mono ?_
  rintro e w4 ⟨rfl, hB4⟩
  have hB04 := Bt hB03 hB4
  have hr4 := hr3.below hB4
  go_wp2_with fail
  refine (PU.out _).mono ?_
  rintro e w5 ⟨rfl, hB5⟩
  have hB05 := Bt hB04 hB5
  have hr5 := hr4.below hB5
  go_wp2_with fail
  refine (N3.out _ _ _ hr5).mono ?_
  rintro e w6 ⟨rfl, hB6⟩
  go_wp2_with fail
  go_ret
  exact Yes7.mk (Bt hB05 hB6)

/-! a key written over, in a row of the call's own -/
def over : ByteArray := ⟨#[111, 118, 101, 114]⟩
theorem vcs_set : ∀ (q : List Vn) (i : Nat) (s : ByteArray), i < q.length → verR.cells (q.set i { q.getD i vn0 with key := s }) = (verR.cells q).set (i * 3 + 2) (.string s)
  | [], _, _, h => absurd h (Nat.not_lt_zero _)
  | x :: q, 0, s, _ => rfl
  | x :: q, i + 1, s, h => by
    have ih := vcs_set q i s (by simpa using h)
    have e1 : verR.cells ((x :: q).set (i + 1) { (x :: q).getD (i + 1) vn0 with key := s }) = vc x ++ verR.cells (q.set i { q.getD i vn0 with key := s }) := rfl
    have e2 : verR.cells (x :: q) = vc x ++ verR.cells q := rfl
    rw [e1, e2, ih, show (i + 1) * 3 + 2 = i * 3 + 2 + 1 + 1 + 1 by omega]
    rfl
theorem OwnG.block {α : Type} {R : Row α} {w : World} {base : Nat} {a : Option Addr} {n c : Nat} {l : List α} (h : OwnG R w base (.slice a n c) l) (hn : 0 < n) : ∃ g, a = some ⟨g, 0, none⟩ ∧ base ≤ g ∧ g < w.heap.size ∧ n ≤ c := by
  rcases h.2.2 with ⟨hv, h2⟩ | ⟨g, cap, cur, hv, hb, hg, hnc, _⟩
  · cases hv; omega
  · cases hv
    exact ⟨g, rfl, hb, lt_of_block hg, hnc⟩
theorem OwnV.key {w : World} {base g n c : Nat} {q : List Vn} (h : OwnV w base (.slice (some ⟨g, 0, none⟩) n c) q) {i : Nat} (hi : i < n) (hq : q.length = n) (s : ByteArray) :
    (∃ u, w.cell? ⟨g, i * 3 + 2, none⟩ = some u) ∧ w.frozen? ⟨g, i * 3 + 2, none⟩ = false ∧ OwnV (w.setCell ⟨g, i * 3 + 2, none⟩ (.string s)) base (.slice (some ⟨g, 0, none⟩) n c) (q.set i { q.getD i vn0 with key := s }) ∧ w.grownBy (w.setCell ⟨g, i * 3 + 2, none⟩ (.string s)) (some g) := by
  subst hq
  have hlen : (verR.cells q).length = q.length * 3 := Row.cells_length (okv q)
  have h1 := World.ownsRow.cellAt h.2 (i * 3 + 2) (show i * 3 + 2 < q.length * 3 by omega)
  have h2 := World.ownsRow.frozenAt h.2 (i * 3 + 2)
  have h3 := World.ownsRow.stored h.2 (i * 3 + 2) (.string s)
  refine ⟨⟨_, h1.trans (List.getElem?_eq_getElem (by omega))⟩, h2, ⟨okv _, ?_⟩, h3.2⟩
  rw [vcs_set q i s hi, List.length_set]
  exact h3.1

set_option maxRecDepth 100000 in
set_option maxHeartbeats 2000000 in
theorem walkVersionNext (w : World) (a : Option Addr) (n c : Nat) (l : List Vn) (hr : RdV w a n c l) (v : Vn) :
    Calls Try.prog 4 #[.slice a n c, .agg (vc v).toArray] w (Yes7 w) := by
  have hS := VAt.start w v
  have hB0 := hS.bel
  have hb0 := hS.blk
  clear hS
  by_cases hn : n ≤ 1000
  · have hn' : ¬ (1000 : Int) < (n : Int) := by omega
    have OW := Lib.hid (fun (W : World) (h : RdV W a n c l) => ownR_any W a n c l h hn)
    have NS := Lib.hid (fun W : World => nexts_any W)
    have SM := Lib.hid (fun (W : World) (h : RdV W a n c l) (a1 : Option Addr) (c1 : Nat) (h' : RdV W a1 n c1 l) => sameV_any W a n c l h a1 n c1 l h')
    rw [show decide (l = l) = true from decide_eq_true rfl] at SM
    have hlen := Lib.hid hr.len
    by_cases hi : nextI l v = 0
    · have NY := Lib.hid (fun (W : World) (h : RdV W a n c l) => next_yes h hi)
      have NR := Lib.hid (fun (W : World) (a1 : Option Addr) (c1 : Nat) (h : RdV W a1 n c1 l) => nextR_yes h hn hi)
      have SX := Lib.hid (fun (W : World) (a1 : Option Addr) (c1 : Nat) (a2 : Option Addr) (c2 : Nat) (h : RdV W a1 (n + 1) c1 (l ++ [v])) (h' : RdV W a2 (n + 1) c2 (l ++ [v])) => sameV_any W a1 (n + 1) c1 (l ++ [v]) h a2 (n + 1) c2 (l ++ [v]) h')
      rw [show decide (l ++ [v] = l ++ [v]) = true from decide_eq_true rfl] at SX
      clear hi
      go_enter Try.func4, Try.ntmps4
      go_wp2_with fail
      refine (OW.out _ (hr.below hB0)).mono ?_
      rintro e w1 ⟨a1, m1, c1, hm1, rfl, hO1, hB1⟩
      obtain rfl : m1 = n := by rw [hm1.out, hlen.out]
      have hB01 := Bt hB0 hB1
      have hr1 := hr.below hB01
      have hr1' := hO1.rd
      have hv1 := (hb0.below hB1).vr
      go_wp2_with ((with_reducible refine wpList_loadV (o := ⟨some 19, _, _, _, _, _⟩) ?_ w.heap.size 0 (.tmp 3) ?_ ?_ hv1 ?_); rfl; rfl; rfl)
      refine (NY.out _ hr1).mono ?_
      rintro e w2 ⟨a2, c2, rfl, hO2, hB2⟩
      have hB02 := Bt hB01 hB2
      have hB12 := Bt hB1 hB2
      have hr2 := hr.below hB02
      have hr2' := hr1'.below hB2
      have hv2 := (hb0.below hB12).vr
      go_wp2_with ((with_reducible refine wpList_loadV (o := ⟨some 25, _, _, _, _, _⟩) ?_ w.heap.size 0 (.tmp 3) ?_ ?_ hv2 ?_); rfl; rfl; rfl)
      refine (NR.out _ _ _ hr2').mono ?_
      rintro e w3 ⟨a3, c3, rfl, hO3, hB3⟩
      have hO23 := hO2.below hB3
      have hB13 := Bt hB2 hB3
      have hB03 := Bt hB02 hB3
      go_wp2_with fail
      refine (SX.out _ _ _ _ _ hO23.rd hO3.rd).mono ?_
      rintro e w4 ⟨rfl, hB4⟩
      have hO4 := hO23.below hB4
      have hB14 := Bt hB13 hB4
      have hB04 := Bt hB03 hB4
      obtain ⟨g, rfl, hg1, hg2, hcap⟩ := hO4.block (by omega)
      have hln : (l ++ [v]).length = m1 + 1 := by rw [List.length_append, hlen.out]; rfl
      have hs01 := hB01.size
      clear SX NR NY OW hr1 hr1' hr2 hr2' hv1 hv2 hO2 hO3 hO23
      go_wp2_with fail
      go_loopw [11] (fun i wr => ∃ (k : Nat) (q : List Vn), k ≤ m1 + 1 ∧ i = .int .i64 (k : Int) ∧ Hid (q.length = m1 + 1) ∧ OwnV wr w1.heap.size (.slice (some ⟨g, 0, none⟩) (m1 + 1) c2) q ∧ Below w1.heap.size w1 wr) (fun i _ => m1 + 1 - (intOf i).toNat)
      case atStart => exact ⟨0, l ++ [v], by omega, rfl, Lib.hid hln, hO4, hB14⟩
      case round =>
        obtain ⟨k, q, hk, rfl, HQ, hO, hB⟩ := hrel
        by_cases hlt : k < m1 + 1
        · obtain ⟨⟨u, hc⟩, hf, hO', hg'⟩ := hO.key hlt HQ.out over
          have hkl : (k : Int) < (m1 : Int) + 1 := by omega
          go_wp2_with fail
          go_roundw
          case rel =>
            exact ⟨k + 1, _, by omega, by go_num, Lib.hid (by rw [List.length_set]; exact HQ.out), hO', hB.grown hg' hB.size (fun y e => by cases e; exact hg1)⟩
          case measure => simp [intOf]; omega
        · obtain rfl : k = m1 + 1 := by omega
          have hkl : ¬ ((m1 + 1 : Nat) : Int) < (m1 : Int) + 1 := by omega
          have hb' : Below w.heap.size w wr := hB01.trans (hB.mono hs01)
          have hr6 := hr.below hb'
          have hr6' := hO1.rd.below hB
          go_wp2_with fail
          refine (NS.out _).mono ?_
          rintro e w5 ⟨rfl, hB5⟩
          go_wp2_with fail
          refine (SM.out _ (hr6.below hB5) _ _ (hr6'.below hB5)).mono ?_
          rintro e w6 ⟨rfl, hB6⟩
          go_wp2_with fail
          go_ret
          exact Yes7.mk (Bt (Bt hb' hB5) hB6)
    · obtain ⟨i, hii⟩ : ∃ i, nextI l v = i := ⟨_, rfl⟩
      have hi0 : i ≠ 0 := by rw [← hii]; exact hi
      have NY := Lib.hid (fun (W : World) (h : RdV W a n c l) => next_no h hii hi0)
      have NR := Lib.hid (fun (W : World) (a1 : Option Addr) (c1 : Nat) (h : RdV W a1 n c1 l) => nextR_no h hn hii hi0)
      have SX := Lib.hid (fun (W : World) => sameV_any W none 0 0 [] (RdG.nil0 W) none 0 0 [] (RdG.nil0 W))
      rw [show decide (([] : List Vn) = []) = true from decide_eq_true rfl] at SX
      clear hi hii
      go_enter Try.func4, Try.ntmps4
      go_wp2_with fail
      refine (OW.out _ (hr.below hB0)).mono ?_
      rintro e w1 ⟨a1, m1, c1, hm1, rfl, hO1, hB1⟩
      obtain rfl : m1 = n := by rw [hm1.out, hlen.out]
      have hB01 := Bt hB0 hB1
      have hr1 := hr.below hB01
      have hr1' := hO1.rd
      have hv1 := (hb0.below hB1).vr
      go_wp2_with ((with_reducible refine wpList_loadV (o := ⟨some 19, _, _, _, _, _⟩) ?_ w.heap.size 0 (.tmp 3) ?_ ?_ hv1 ?_); rfl; rfl; rfl)
      refine (NY.out _ hr1).mono ?_
      rintro e w2 ⟨rfl, hB2⟩
      have hB02 := Bt hB01 hB2
      have hB12 := Bt hB1 hB2
      have hr2' := hr1'.below hB2
      have hv2 := (hb0.below hB12).vr
      go_wp2_with ((with_reducible refine wpList_loadV (o := ⟨some 25, _, _, _, _, _⟩) ?_ w.heap.size 0 (.tmp 3) ?_ ?_ hv2 ?_); rfl; rfl; rfl)
      refine (NR.out _ _ _ hr2').mono ?_
      rintro e w3 ⟨rfl, hB3⟩
      have hB03 := Bt hB02 hB3
      have hB13 := Bt hB2 hB3
      go_wp2_with fail
      refine (SX.out _).mono ?_
      rintro e w4 ⟨rfl, hB4⟩
      have hB04 := Bt hB03 hB4
      have hB14 := Bt hB13 hB4
      go_wp2_with fail
      go_loopw [11] (fun i wr => i = .int .i64 0 ∧ wr = w4) (fun i _ => 0)
      case atStart => exact ⟨rfl, rfl⟩
      case round =>
        obtain ⟨rfl, rfl⟩ := hrel
        have hr6 := hr.below hB04
        have hr6' := hO1.rd.below hB14
        go_wp2_with fail
        refine (NS.out _).mono ?_
        rintro e w5 ⟨rfl, hB5⟩
        go_wp2_with fail
        refine (SM.out _ (hr6.below hB5) _ _ (hr6'.below hB5)).mono ?_
        rintro e w6 ⟨rfl, hB6⟩
        go_wp2_with fail
        go_ret
        exact Yes7.mk (Bt (Bt hB04 hB5) hB6)
  · have hn' : (1000 : Int) < (n : Int) := by omega
    go_enter Try.func4, Try.ntmps4
    go_wp2_with fail
    go_ret
    exact Yes7.mk hB0

theorem atPR : atL [vP, vR] 1 = [vP] := by
  rw [atL, isPR, if_pos rfl]
  simp [upto, vP, vR]

set_option maxRecDepth 100000 in
set_option maxHeartbeats 2000000 in
theorem walkVersionAt (w : World) (a : Option Addr) (n c : Nat) (l : List Vn) (hr : RdV w a n c l) (ep : Int) (_wf : (Lit.int .i64 ep).wf = true) :
    Calls Try.prog 5 #[.slice a n c, .int .i64 ep] w (Yes7 w) := by
  have hB0 := Below.refl w.heap.size w
  by_cases hn : n ≤ 1000
  · have hn' : ¬ (1000 : Int) < (n : Int) := by omega
    have OW := Lib.hid (fun (W : World) (h : RdV W a n c l) => ownR_any W a n c l h hn)
    have AT := Lib.hid (fun (W : World) (h : RdV W a n c l) => at_any W a n c l h ep)
    have AR := Lib.hid (fun (W : World) (a1 : Option Addr) (c1 : Nat) (h : RdV W a1 n c1 l) => atR_any W a1 n c1 l h hn ep)
    have HI := Lib.hid (fun W : World => histories_any W)
    have PU := Lib.hid put_any
    have RO := Lib.hid rotate_any
    have A1 := Lib.hid (fun (W : World) (a : Option Addr) (h : RdV W a 2 2 [vP, vR]) => at_any W a 2 2 [vP, vR] h 1)
    rw [atPR] at A1
    have SM := Lib.hid (fun (W : World) (h : RdV W a n c l) (a1 : Option Addr) (c1 : Nat) (h' : RdV W a1 n c1 l) => sameV_any W a n c l h a1 n c1 l h')
    rw [show decide (l = l) = true from decide_eq_true rfl] at SM
    have hlen := Lib.hid hr.len
    generalize atL l ep = X at *
    have SX := Lib.hid (fun (W : World) (m : Nat) (a1 : Option Addr) (c1 : Nat) (a2 : Option Addr) (c2 : Nat) (h : RdV W a1 m c1 X) (h' : RdV W a2 m c2 X) => sameV_any W a1 m c1 X h a2 m c2 X h')
    rw [show decide (X = X) = true from decide_eq_true rfl] at SX
    go_enter Try.func5, Try.ntmps5
    go_wp2_with fail
    refine (OW.out _ hr).mono ?_
    rintro e w1 ⟨a1, m1, c1, hm1, rfl, hO1, hB1⟩
    obtain rfl : m1 = n := by rw [hm1.out, hlen.out]
    have hr1 := hr.below hB1
    have hr1' := hO1.rd
    go_wp2_with fail
    refine (AT.out _ hr1).mono ?_
    rintro e w2 ⟨a2, m2, c2, hm2, rfl, hO2, hB2⟩
    have hB02 := Bt hB1 hB2
    have hr2' := hr1'.below hB2
    go_wp2_with fail
    refine (AR.out _ _ _ hr2').mono ?_
    rintro e w3 ⟨a3, m3, c3, hm3, rfl, hO3, hB3⟩
    obtain rfl : m3 = m2 := by rw [hm3.out, hm2.out]
    have hO23 := hO2.below hB3
    have hB13 := Bt hB2 hB3
    have hB03 := Bt hB02 hB3
    go_wp2_with fail
    refine (SX.out _ _ _ _ _ _ hO23.rd hO3.rd).mono ?_
    rintro e w4 ⟨rfl, hB4⟩
    have hO4 := hO23.below hB4
    have hB14 := Bt hB13 hB4
    have hB04 := Bt hB03 hB4
    have hln : Hid (X.length = m3) := Lib.hid hm3.out.symm
    have hs01 := hB1.size
    have hmx := hO4.rd.max
    have hmc := hO4.rd.cap
    have hm63 : m3 ≤ 9223372036854775807 := by unfold maxLen at hmx; omega
    clear SX AT AR OW hr1 hr1' hr2' hO2 hO3 hO23 hmx hmc hm1 hm2 hm3
    go_wp2_with fail
    go_loopw [8] (fun i wr => ∃ (k : Nat) (q : List Vn), k ≤ m3 ∧ i = .int .i64 (k : Int) ∧ Hid (q.length = m3) ∧ OwnV wr w1.heap.size (.slice a2 m3 c2) q ∧ Below w1.heap.size w1 wr) (fun i _ => m3 - (intOf i).toNat)
    case atStart => exact ⟨0, X, by omega, rfl, hln, hO4, hB14⟩
    case round =>
      obtain ⟨k, q, hk, rfl, HQ, hO, hB⟩ := hrel
      by_cases hlt : k < m3
      · obtain ⟨g, rfl, hg1, hg2, hcap⟩ := hO.block (by omega)
        obtain ⟨⟨u, hc⟩, hf, hO', hg'⟩ := hO.key hlt HQ.out over
        have hkl : (k : Int) < (m3 : Int) := by omega
        go_wp2_with fail
        go_roundw
        case rel =>
          exact ⟨k + 1, _, by omega, by go_num, Lib.hid (by rw [List.length_set]; exact HQ.out), hO', hB.grown hg' hB.size (fun y e => by cases e; exact hg1)⟩
        case measure => simp [intOf]; omega
      · obtain rfl : k = m3 := by omega
        have hkl : ¬ (k : Int) < (k : Int) := by omega
        have hb' : Below w.heap.size w wr := hB1.trans (hB.mono hs01)
        have hr6 := hr.below hb'
        have hr6' := hO1.rd.below hB
        clear hO hO4
        go_wp2_with fail
        refine (PU.out _).mono ?_
        rintro e w5 ⟨rfl, hB5⟩
        go_wp2_with fail
        refine (RO.out _).mono ?_
        rintro e w6 ⟨rfl, hB6⟩
        have hB56 := Bt hB5 hB6
        go_wp2_with ((with_reducible refine wpList_twoV (o := ⟨some 35, _, _, _, _, _⟩) ?_ (.tmp 33) (.tmp 34) ?_ vP vR ?_ ?_ ?_); rfl; rfl; rfl; rfl; intro w7 hR7 hB7 hz7)
        refine (A1.out _ _ hR7).mono ?_
        rintro e w8 ⟨a8, m8, c8, hm8, rfl, hO8, hB8⟩
        obtain rfl : m8 = 1 := hm8.out
        have hB58 := Bt hB56 (Bt hB7 hB8)
        go_wp2_with fail
        refine (HI.out _).mono ?_
        rintro e w9 ⟨rfl, hB9⟩
        have hB59 := Bt hB58 hB9
        go_wp2_with fail
        refine (SM.out _ (hr6.below hB59) _ _ (hr6'.below hB59)).mono ?_
        rintro e w10 ⟨rfl, hB10⟩
        go_wp2_with fail
        go_ret
        exact Yes7.mk (Bt (Bt hb' hB59) hB10)
  · have hn' : (1000 : Int) < (n : Int) := by omega
    go_enter Try.func5, Try.ntmps5
    go_wp2_with fail
    go_ret
    exact Yes7.mk hB0
end Go.Proofs.Ytbbckjpgmpfkgaa
