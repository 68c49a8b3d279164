/-
  The statements VersionNext and VersionAt of layer 7.
-/
import Derived.Test.YtbbckjpgmpfkgabLaw07A
namespace Go.Proofs.Ytbbckjpgmpfkgab
open Go.RowKit

theorem next_yes {w : World} {a : Option Addr} {n c : Nat} {l : List Vn} (hr : RdV w a n c l) {v : Vn} (h : nextI l v = 0) : Calls Try.prog 5 #[.slice a n c, .agg (vc v).toArray] w
    fun e w' => ∃ a' c', e = .returned (.tuple #[.slice a' (n + 1) c', .int .i64 0]) ∧ OwnV w' w.heap.size (.slice a' (n + 1) c') (l ++ [v]) ∧ Below w.heap.size w w' := by
  refine (next_any w a n c l hr v).mono ?_
  rintro e w' (⟨_, a', c', h1, h2, h3⟩ | ⟨h1, _⟩)
  · rw [hr.len] at h1 h2
    exact ⟨a', c', h1, h2, h3⟩
  · exact absurd h h1
theorem next_no {w : World} {a : Option Addr} {n c : Nat} {l : List Vn} (hr : RdV w a n c l) {v : Vn} {i : Int} (h : nextI l v = i) (h0 : i ≠ 0) : Calls Try.prog 5 #[.slice a n c, .agg (vc v).toArray] w
    fun e w' => e = .returned (.tuple #[.slice none 0 0, .int .i64 i]) ∧ Below w.heap.size w w' := by
  refine (next_any w a n c l hr v).mono ?_
  rintro e w' (⟨h1, _⟩ | ⟨_, h1, h2⟩)
  · exact absurd (h ▸ h1) h0
  · rw [h] at h1
    exact ⟨h1, h2⟩
set_option maxRecDepth 100000 in
set_option maxHeartbeats 1000000 in
theorem nexts_any (w : World) : Calls Try.prog 7 #[] w (Yes7 w) := by
  have N1 := Lib.hid (fun (W : World) => next_yes (RdG.nil0 (R := verR) W) nextP)
  rw [Nat.zero_add, List.nil_append] at N1
  have N2 := Lib.hid (fun (W : World) => next_no (RdG.nil0 (R := verR) W) nextR (by decide))
  have N3 := Lib.hid (fun (W : World) (a : Option Addr) (c : Nat) (h : RdV W a 1 c [vP]) => next_no h nextPP (by decide))
  have PU := Lib.hid put_any
  have RO := Lib.hid rotate_any
  go_enter Try.func7, Try.ntmps7
  go_wp2_with fail
  refine (PU.out _).mono ?_
  rintro e w1 ⟨rfl, hB1⟩
  go_wp2_with fail
  refine (N1.out _).mono ?_
  rintro e w2 ⟨a2, c2, rfl, hO2, hB2⟩
  have hB02 := Bt hB1 hB2
  have hr2 := hO2.rd
  clear hO2
  go_wp2_with fail
  refine (RO.out _).mono ?_
  rintro e w3 ⟨rfl, hB3⟩
  have hB03 := Bt hB02 hB3
  have hr3 := hr2.below hB3
  go_wp2_with fail
  refine (N2.out _).mono ?_
  rintro e w4 ⟨rfl, hB4⟩
  have hB04 := Bt hB03 hB4
  have hr4 := hr3.below hB4
  go_wp2_with fail
  refine (PU.out _).mono ?_
  rintro e w5 ⟨rfl, hB5⟩
  have hB05 := Bt hB04 hB5
  have hr5 := hr4.below hB5
  go_wp2_with fail
  refine (N3.out _ _ _ hr5).mono ?_
  rintro e w6 ⟨rfl, hB6⟩
  go_wp2_with fail
  go_ret
  exact Yes7.mk (Bt hB05 hB6)

/-! a key written over, in a row of the call's own -/
def over : ByteArray := ⟨#[111, 118, 101, 114]⟩
theorem vcs_set : ∀ (q : List Vn) (i : Nat) (s : ByteArray), i < q.length → verR.cells (q.set i { q.getD i vn0 with key := s }) = (verR.cells q).set (i * 3 + 2) (.string s)
  | [], _, _, h => absurd h (Nat.not_lt_zero _)
  | x :: q, 0, s, _ => rfl
  | x :: q, i + 1, s, h => by
    have ih := vcs_set q i s (by simpa using h)
    have e1 : verR.cells ((x :: q).set (i + 1) { (x :: q).getD (i + 1) vn0 with key := s }) = vc x ++ verR.cells (q.set i { q.getD i vn0 with key := s }) := rfl
    have e2 : verR.cells (x :: q) = vc x ++ verR.cells q := rfl
    rw [e1, e2, ih, show (i + 1) * 3 + 2 = i * 3 + 2 + 1 + 1 + 1 by omega]
    rfl
theorem OwnG.block {α : Type} {R : Row α} {w : World} {base : Nat} {a : Option Addr} {n c : Nat} {l : List α} (h : OwnG R w base (.slice a n c) l) (hn : 0 < n) : ∃ g, a = some ⟨g, 0, none⟩ ∧ base ≤ g ∧ g < w.heap.size ∧ n ≤ c := by
  rcases h.2.2 with ⟨hv, h2⟩ | ⟨g, cap, cur, hv, hb, hg, hnc, _⟩
  · cases hv; omega
  · cases hv
    exact ⟨g, rfl, hb, lt_of_block hg, hnc⟩
theorem OwnV.key {w : World} {base g n c : Nat} {q : List Vn} (h : OwnV w base (.slice (some ⟨g, 0, none⟩) n c) q) {i : Nat} (hi : i < n) (hq : q.length = n) (s : ByteArray) :
    (∃ u, w.cell? ⟨g, i * 3 + 2, none⟩ = some u) ∧ w.frozen? ⟨g, i * 3 + 2, none⟩ = false ∧ OwnV (w.setCell ⟨g, i * 3 + 2, none⟩ (.string s)) base (.slice (some ⟨g, 0, none⟩) n c) (q.set i { q.getD i vn0 with key := s }) ∧ w.grownBy (w.setCell ⟨g, i * 3 + 2, none⟩ (.string s)) (some g) := by
  subst hq
  have hlen : (verR.cells q).length = q.length * 3 := Row.cells_length (okv q)
  have h1 := World.ownsRow.cellAt h.2 (i * 3 + 2) (show i * 3 + 2 < q.length * 3 by omega)
  have h2 := World.ownsRow.frozenAt h.2 (i * 3 + 2)
  have h3 := World.ownsRow.stored h.2 (i * 3 + 2) (.string s)
  refine ⟨⟨_, h1.trans (List.getElem?_eq_getElem (by omega))⟩, h2, ⟨okv _, ?_⟩, h3.2⟩
  rw [vcs_set q i s hi, List.length_set]
  exact h3.1

theorem atPR : atL [vP, vR] 1 = [vP] := by
  rw [atL, isPR, if_pos rfl]
  simp [upto, vP, vR]

end Go.Proofs.Ytbbckjpgmpfkgab
