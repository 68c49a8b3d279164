/-
  The statements ProofPuts and ProofGets of layer 6.
-/
import Derived.Test.YtmfnpjfhijmboaaRef06C
import Derived.Test.YtmfnpjfhijmboaaPure01
namespace Go.Proofs.Ytmfnpjfhijmboaa
open Go.RowKit

/-! what is put is read, and what is read was put: of lists alone -/
section
theorem chunks_cons (n : Nat) (l : List UInt8) : chunks (n + 1) l = l.take 32 :: chunks n (l.drop 32) := by
  unfold chunks
  rw [List.range_succ_eq_map, List.map_cons, List.map_map]
  simp only [Nat.zero_mul, List.drop_zero]
  congr 1
  refine List.map_congr_left fun i _ => ?_
  simp only [Function.comp, List.drop_drop]
  congr 2
  omega
theorem chunks_of_flat : ∀ (ds : List (List UInt8)) (t : List UInt8), okd ds → chunks ds.length (ds.flatten ++ t) = ds
  | [], _, _ => rfl
  | d :: ds, t, h => by
    have h2 : d.length = 32 := h d List.mem_cons_self
    have ih := chunks_of_flat ds t (fun x hx => h x (List.mem_cons_of_mem _ hx))
    rw [List.length_cons, chunks_cons, List.flatten_cons, List.append_assoc]
    have e1 : (d ++ (ds.flatten ++ t)).take 32 = d := by rw [← h2, List.take_left]
    have e2 : (d ++ (ds.flatten ++ t)).drop 32 = ds.flatten ++ t := by rw [← h2, List.drop_left]
    rw [e1, e2, ih]
theorem finP_enc (x : Pf) (ds : List (List UInt8)) (h : okd ds) (hn : ds.length ≤ 256) : finP x (encC ds.length ++ ds.flatten) = some (x.put ds) := by
  have hf := flat_length h
  rw [finP_eq, cnt_enc0 _ _ (by omega)]
  simp only
  rw [List.drop_left, if_neg (by omega)]
  have := chunks_of_flat ds [] h
  rw [List.append_nil] at this
  rw [this]
theorem getP_enc (x : Pf) (hx : x.ok) (hf : formB x = true) : getP (encP x) = some x := by
  have hn : x.sibs.length ≤ 256 := by
    simp only [formB, Bool.and_eq_true, decide_eq_true_eq] at hf
    exact hf.1
  have hp : plainB x = true := by
    simp only [formB, Bool.and_eq_true] at hf
    exact hf.2
  unfold encP headP
  cases ho : x.other with
  | false =>
    rw [if_neg (by simp)]
    show getP (0 :: (encC x.sibs.length ++ x.sibs.flatten)) = some x
    rw [getP_zero 0 _ rfl, finP_enc pf0 x.sibs hx.d hn]
    simp only [plainB, ho, Bool.false_or, Bool.and_eq_true, beq_iff_eq] at hp
    obtain ⟨ds, o, p, v⟩ := x
    obtain ⟨h1, h2⟩ := hp
    cases ho; cases h1; cases h2
    rfl
  | true =>
    rw [if_pos rfl]
    have e : 1 :: (x.op ++ x.ov) ++ encC x.sibs.length ++ x.sibs.flatten = 1 :: (x.op ++ (x.ov ++ (encC x.sibs.length ++ x.sibs.flatten))) := by simp
    rw [e, getP_one 1 _ rfl, if_neg (by simp [hx.p, hx.v]; omega)]
    obtain ⟨t, ht⟩ : ∃ t, t = encC x.sibs.length ++ x.sibs.flatten := ⟨_, rfl⟩
    rw [← ht]
    have e1 : (x.op ++ (x.ov ++ t)).take 32 = x.op := by rw [← hx.p, List.take_left]
    have e2 : (x.op ++ (x.ov ++ t)).drop 32 = x.ov ++ t := by rw [← hx.p, List.drop_left]
    have e3 : (x.op ++ (x.ov ++ t)).drop 64 = t := by rw [show 64 = 32 + 32 from rfl, ← List.drop_drop, e2, ← hx.v, List.drop_left]
    have e4 : (x.ov ++ t).take 32 = x.ov := by rw [← hx.v, List.take_left]
    rw [e1, e2, e3, e4, ht, finP_enc _ x.sibs hx.d hn]
    obtain ⟨ds, o, p, v⟩ := x
    cases ho
    rfl
theorem finP_back (x y : Pf) (l : List UInt8) (h : finP x l = some y) : ∃ ds, okd ds ∧ ds.length ≤ 256 ∧ y = x.put ds ∧ l = encC ds.length ++ ds.flatten := by
  rw [finP_eq] at h
  obtain ⟨N, S, E, hc⟩ : ∃ a b c, cnt 0 0 l = (a, b, c) := ⟨_, _, _, rfl⟩
  rw [hc] at h
  simp only at h
  split at h
  · cases h
  · rename_i hh
    have hE : E = 0 := by omega
    subst hE
    obtain ⟨h1, h2⟩ := cnt_back0 l N S hc
    have hl : (l.drop S).length = 32 * N := by omega
    refine ⟨chunks N (l.drop S), chunks_ok (by omega), by rw [chunks_length]; omega, (Option.some.inj h).symm, ?_⟩
    rw [chunks_length, chunks_flat N _ (by omega), List.take_of_length_le (by omega), ← h1, List.take_append_drop]
theorem getP_back {l : List UInt8} {x : Pf} (h : getP l = some x) : x.ok ∧ formB x = true ∧ encP x = l := by
  cases l with
  | nil => rw [getP_nil] at h; cases h
  | cons c r =>
    by_cases h1 : 1 < c.toNat
    · rw [getP_big c r h1] at h; cases h
    · by_cases h2 : c.toNat = 1
      · have hc : c = 1 := UInt8.toNat_inj.1 h2
        subst hc
        rw [getP_one 1 r rfl] at h
        split at h
        · cases h
        · rename_i h64
          obtain ⟨ds, q1, q2, rfl, q4⟩ := finP_back _ _ _ h
          refine ⟨⟨q1, by show (r.take 32).length = 32; simp; omega, by show ((r.drop 32).take 32).length = 32; simp; omega⟩, by simp [formB, plainB, Pf.put, q2], ?_⟩
          show 1 :: (r.take 32 ++ (r.drop 32).take 32) ++ encC ds.length ++ ds.flatten = 1 :: r
          have e : r.take 32 ++ ((r.drop 32).take 32 ++ r.drop 64) = r := by
            rw [show r.drop 64 = (r.drop 32).drop 32 by rw [List.drop_drop], List.take_append_drop, List.take_append_drop]
          rw [List.append_assoc, ← q4, List.cons_append, List.append_assoc, e]
      · have hc0 : c.toNat = 0 := by omega
        have hc : c = 0 := UInt8.toNat_inj.1 hc0
        subst hc
        rw [getP_zero 0 r rfl] at h
        obtain ⟨ds, q1, q2, rfl, q4⟩ := finP_back _ _ _ h
        refine ⟨⟨q1, zero32_length, zero32_length⟩, by simp [formB, plainB, Pf.put, pf0, q2], ?_⟩
        show 0 :: [] ++ encC ds.length ++ ds.flatten = 0 :: r
        rw [List.append_assoc, ← q4]
        rfl
end

/-- what a statement's walk comes to: true, and nothing that was there has turned -/
def Yes6 (w : World) (e : Ending) (w' : World) : Prop := e = .returned (.bool true) ∧ Below w.heap.size w w'
theorem Yes6.mk {w w' : World} (h : Below w.heap.size w w') : Yes6 w (.returned (.bool true)) w' := ⟨rfl, h⟩
theorem rdNil (W : World) : RdP6 W none 0 0 pf0 := ⟨RdD.nil0 W, zero32_length, zero32_length⟩
theorem encP_pf0 : encP pf0 = [0, 0] := by
  unfold encP
  rw [show pf0.sibs.length = 0 from rfl, encC_lt (by decide)]
  rfl
theorem form_pf0 : formB pf0 = true := by decide
theorem getP_00 : getP [0, 0] = some pf0 := by rw [← encP_pf0]; exact getP_enc pf0 pf0_ok form_pf0
theorem getP_0 : getP [0] = none := by rw [getP_zero 0 [] rfl, finP_eq, if_pos (by decide)]
theorem pget_some {w : World} {a : Option Addr} {n c : Nat} {l : List UInt8} {x : Pf} (hr : Rd w a n c l) (hn : n ≤ 1099511627776) (h : getP l = some x) :
    Calls Try.prog 10 #[.slice a n c] w fun e w' => ∃ a' c', e = .returned (.tuple #[.agg (pc a' x.sibs.length c' x).toArray, .int .i64 0]) ∧ RdP6 w' a' x.sibs.length c' x ∧ Below w.heap.size w w' := by
  refine (pget_any w a n c l hr hn).mono ?_
  rintro e w' (⟨y, a', n', c', h1, h2, h3, h4⟩ | ⟨h1, _⟩)
  · rw [h] at h1
    obtain rfl := Option.some.inj h1
    have hl := h3.sib.len
    subst hl
    exact ⟨a', c', h2, h3, h4⟩
  · rw [h] at h1; cases h1
theorem pget_none {w : World} {a : Option Addr} {n c : Nat} {l : List UInt8} (hr : Rd w a n c l) (hn : n ≤ 1099511627776) (h : getP l = none) :
    Calls Try.prog 10 #[.slice a n c] w fun e w' => e = .returned (.tuple #[.agg (pc none 0 0 pf0).toArray, .int .i64 40]) ∧ Below w.heap.size w w' := by
  refine (pget_any w a n c l hr hn).mono ?_
  rintro e w' (⟨y, a', n', c', h1, h2, h3, h4⟩ | ⟨h1, h2, h3⟩)
  · rw [h] at h1; cases h1
  · exact ⟨h2, h3⟩

theorem wpList_twoU {w : World} {ops : Array Oper} {rest : List Oper} {o : Oper} {a : Act} {Q : Exit → Act → World → Prop} (hgd : o.guard = none) (x1 x2 : Operand) (ho : o.op = .buildSlice 28 2 #[(0, x1), (1, x2)])
    {k1 k2 : UInt8} (hx1 : a.eval x1 = .int .u8 (k1.toNat : Int)) (hx2 : a.eval x2 = .int .u8 (k2.toNat : Int)) (base : Nat) (hb : base ≤ w.heap.size)
    (h : ∀ w', Own w' base (.slice (some ⟨w.heap.size, 0, none⟩) 2 2) [k1, k2] → Below w.heap.size w w' → w'.heap.size = w.heap.size + 1 → wpList Try.prog ops Q rest (a.put o.dst (.slice (some ⟨w.heap.size, 0, none⟩) 2 2)) w') : wpList Try.prog ops Q (o :: rest) a w :=
  wpList_manyU hgd 2 _ ho rfl (by decide) (by decide) (by simp [hx1, hx2, bs]) base hb h

set_option maxRecDepth 100000 in
set_option maxHeartbeats 2000000 in
theorem puts_any (w : World) : Calls Try.prog 9 #[] w (Yes6 w) := by
  have HB := Lib.hid built_pf0
  have P0 := Lib.hid (fun W : World => pput_ok W none 0 0 pf0 (rdNil W) form_pf0)
  rw [encP_pf0] at P0
  have G1 := Lib.hid (fun (W : World) (a : Option Addr) (n c : Nat) (hr : Rd W a n c [0, 0]) (hn : n ≤ 1099511627776) => pget_some hr hn getP_00)
  have G2 := Lib.hid (fun (W : World) (a : Option Addr) (n c : Nat) (hr : Rd W a n c [0]) (hn : n ≤ 1099511627776) => pget_none hr hn getP_0)
  rw [show pf0.sibs.length = 0 from rfl] at G1
  have I0 := Lib.hid (size_of (a := none) (n := 0) (c := 0) pf0_ok)
  have O0 := pc_one none 0 0 pf0
  have HI : Hid (∀ a c, (Try.prog.info? 26).map (·.size) = some (pc a 0 c pf0).length ∧ (pc none 0 0 pf0).length = (pc a 0 c pf0).length ∧ ∀ u ∈ pc a 0 c pf0, u.oneCell' = true) := Lib.hid (fun a c => ⟨size_of pf0_ok, cells_len pf0_ok pf0_ok, pc_one _ _ _ _⟩)
  go_enter Try.func9, Try.ntmps9
  go_wp2_with ((with_reducible refine wpList_buildI (dst := some 8) HB.out ?_ ?_); rfl)
  refine (P0.out _).mono ?_
  rintro e w1 ⟨v1, rfl, hO1, hB1⟩
  obtain ⟨a1, c1, rfl⟩ := hO1.shape
  rw [show ([0, 0] : List UInt8).length = 2 from rfl] at hO1
  rw [show ([0, 0] : List UInt8).length = 2 from rfl]
  have hs1 := Nat.le_refl w1.heap.size
  go_wp2_with ((with_reducible refine wpList_twoU (o := ⟨some 13, _, _, _, _, _⟩) ?_ (.const (.int .u8 0)) (.const (.int .u8 0)) ?_ (k1 := 0) (k2 := 0) ?_ ?_ w1.heap.size hs1 ?_); rfl; rfl; rfl; rfl; intro w2 hO2 hB2 hz2)
  refine (G1.out w2 _ 2 2 hO2.rd (by decide)).mono ?_
  rintro e w3 ⟨a3, c3, rfl, hr3, hB3⟩
  obtain ⟨i3, l3, o3⟩ := HI.out a3 c3
  have I3 := Lib.hid i3
  have L3 := Lib.hid l3
  have hB13 := Bt hB2 hB3
  clear hz2 hO2 hr3 l3 i3
  go_wp2_with (first | ((with_reducible refine wpList_allocB (o := ⟨some 3, _, _, _, _, _⟩) ?_ 26 ?_ zeroP_info ?_); rfl; rfl; intro w4 hr4 hg4 hz4) | ((with_reducible refine wpList_storeB (o := ⟨none, .store 26 (.tmp 3) (.tmp 15), _, _, _, _⟩) ?_ 26 (.tmp 3) (.tmp 15) ?_ ?_ ?_ hr4 I3.out L3.out o3 ?_); rfl; rfl; rfl; rfl; intro w5 hr5 hg5 hz5; have hB35 : Below w3.heap.size w3 w5 := ((Below.refl _ w3).grown hg4 (Nat.le_refl _) (fun k e => by cases e)).grown hg5 (by omega) (fun k e => by cases e; omega); have hs5 := Nat.le_refl w5.heap.size; clear hz5) | ((with_reducible refine wpList_oneU (o := ⟨some 18, _, _, _, _, _⟩) ?_ (.const (.int .u8 0)) ?_ (k := 0) ?_ w5.heap.size hs5 ?_); rfl; rfl; rfl; intro w6 hO6 hB6 hz6; clear hz6))
  refine (G2.out w6 _ 1 1 hO6.rd (by decide)).mono ?_
  rintro e w7 ⟨rfl, hB7⟩
  have hB57 := Bt hB6 hB7
  have hr57 := hr5.below hB57
  have hB17 := Bt (Bt hB13 hB35) hB57
  clear hO6 hr4 hg4 hg5
  go_wp2_with (first | ((with_reducible refine wpList_allocB (o := ⟨some 5, _, _, _, _, _⟩) ?_ 26 ?_ zeroP_info ?_); rfl; rfl; intro w8 hr8 hg8 hz8) | ((with_reducible refine wpList_storeB (o := ⟨none, .store 26 (.tmp 5) (.tmp 20), _, _, _, _⟩) ?_ 26 (.tmp 5) (.tmp 20) ?_ ?_ ?_ hr8 I0.out rfl O0 ?_); rfl; rfl; rfl; rfl; intro w9 hr9 hg9 hz9; have hB79 : Below w7.heap.size w7 w9 := ((Below.refl _ w7).grown hg8 (Nat.le_refl _) (fun k e => by cases e)).grown hg9 (by omega) (fun k e => by cases e; omega); have c9 := (hr57.below hB79).cell (j := 0) rfl; have k9 : (convert 28 9 (.slice a1 2 c1)).run Try.prog w9 = .ok (.string ⟨#[0, 0]⟩) w9 := ((hO1.below hB17).below hB79).rd.conv))
  go_ret
  exact Yes6.mk (Bt (Bt hB1 hB17) hB79)
end Go.Proofs.Ytmfnpjfhijmboaa
