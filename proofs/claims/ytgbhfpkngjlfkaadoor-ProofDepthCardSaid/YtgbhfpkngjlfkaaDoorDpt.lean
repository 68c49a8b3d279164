/-
  ProofDepth: on lists, how many siblings a proof has; the walk.
-/
import Derived.Test.YtgbhfpkngjlfkaaDoorMk06
import Derived.Test.YtgbhfpkngjlfkaaDoorCon04BC
namespace Go.Proofs.YtgbhfpkngjlfkaaDoor
open Go.RowKit
set_option maxRecDepth 100000

/-- how many go along with a path for so many bits -/
def goAlong (l : List Lf) (p : List UInt8) (m : Nat) : List Lf := l.filter fun y => decide (m ≤ comm y.path p)
theorem along_zero (l : List Lf) (p : List UInt8) : goAlong l p 0 = l := by
  rw [goAlong, List.filter_eq_self]
  simp
theorem along_half (l : List Lf) (p : List UInt8) (m : Nat) (hm : m < 256) : half (goAlong l p m) m (bitAt p m) = goAlong l p (m + 1) := by
  unfold half goAlong
  rw [List.filter_filter]
  refine List.filter_congr fun y _ => ?_
  rw [Bool.eq_iff_iff]
  simp only [Bool.and_eq_true, decide_eq_true_eq]
  constructor
  · rintro ⟨h1, h2⟩
    rcases Nat.lt_or_ge m (comm y.path p) with h | h
    · omega
    · have he : comm y.path p = m := by omega
      exact absurd (by rw [he]; exact h1) (comm_ne y.path p (by omega))
  · intro h
    exact ⟨comm_same y.path p m (by omega), by omega⟩
theorem depth_spec (x : Nat) (l : List Lf) (p : List UInt8) : ∀ (k m : Nat), m + k = 256 → (descF x k (goAlong l p m) p m).2.length ≤ 1 →
    (∀ j, m ≤ j → j < m + (descF x k (goAlong l p m) p m).1.length → 2 ≤ (goAlong l p j).length) ∧ (goAlong l p (m + (descF x k (goAlong l p m) p m).1.length)).length ≤ 1
  | 0, m, _, h => by
    simp only [descF] at h ⊢
    exact ⟨fun j h1 h2 => by simp at h2; omega, by simpa using h⟩
  | k + 1, m, hk, h => by
    by_cases hf : (goAlong l p m).length ≤ 1
    · rw [descF_end x _ hf]
      exact ⟨fun j h1 h2 => by simp at h2; omega, by simpa using hf⟩
    · rw [descF_more x k hf, along_half l p m (by omega)] at h ⊢
      obtain ⟨h1, h2⟩ := depth_spec x l p k (m + 1) (by omega) h
      simp only [List.length_cons]
      refine ⟨fun j hj1 hj2 => ?_, ?_⟩
      · by_cases he : j = m
        · subst he; omega
        · exact h1 j (by omega) (by omega)
      · rw [show m + ((descF x k (goAlong l p (m + 1)) p (m + 1)).1.length + 1) = m + 1 + (descF x k (goAlong l p (m + 1)) p (m + 1)).1.length by omega]
        exact h2
/-- the two that go along farthest -/
structure Far2 (L : List Lf) (p : List UInt8) (mo nx : Int) : Prop where
  lo : -1 ≤ nx
  le : nx ≤ mo
  hi : mo ≤ 256
  one : ∀ m : Nat, 1 ≤ (goAlong L p m).length ↔ (m : Int) ≤ mo
  two : ∀ m : Nat, 2 ≤ (goAlong L p m).length ↔ (m : Int) ≤ nx
theorem Far2.nil (p : List UInt8) : Far2 [] p (-1) (-1) := ⟨Int.le_refl _, Int.le_refl _, by decide, fun m => by simp [goAlong]; omega, fun m => by simp [goAlong]; omega⟩
theorem along_snoc (L : List Lf) (y : Lf) (p : List UInt8) (m : Nat) : (goAlong (L ++ [y]) p m).length = (goAlong L p m).length + (if m ≤ comm y.path p then 1 else 0) := by
  unfold goAlong
  rw [List.filter_append, List.length_append]
  congr 1
  by_cases h : m ≤ comm y.path p <;> simp [h]
theorem Far2.far {L : List Lf} {p : List UInt8} {mo nx : Int} (h : Far2 L p mo nx) (y : Lf) (hn : mo < (comm y.path p : Int)) : Far2 (L ++ [y]) p (comm y.path p : Int) mo := by
  have hle := h.le
  have hlo := h.lo
  refine ⟨by omega, by omega, by have := comm_le y.path p; omega, fun m => ?_, fun m => ?_⟩
  · have h1 := h.one m
    rw [along_snoc]
    by_cases hc : m ≤ comm y.path p
    · rw [if_pos hc]; constructor <;> intro <;> omega
    · rw [if_neg hc]; constructor <;> intro h2 <;> omega
  · have h1 := h.one m
    have h2 := h.two m
    rw [along_snoc]
    by_cases hc : m ≤ comm y.path p
    · rw [if_pos hc]; constructor <;> intro h3 <;> omega
    · rw [if_neg hc]; constructor <;> intro h3 <;> omega
theorem Far2.near {L : List Lf} {p : List UInt8} {mo nx : Int} (h : Far2 L p mo nx) (y : Lf) (hn : ¬ mo < (comm y.path p : Int)) : Far2 (L ++ [y]) p mo (max nx (comm y.path p : Int)) := by
  have hle := h.le
  have hlo := h.lo
  have hhi := h.hi
  refine ⟨by omega, by omega, hhi, fun m => ?_, fun m => ?_⟩
  · have h1 := h.one m
    rw [along_snoc]
    by_cases hc : m ≤ comm y.path p
    · rw [if_pos hc]; constructor <;> intro h3 <;> omega
    · rw [if_neg hc]; constructor <;> intro h3 <;> omega
  · have h1 := h.one m
    have h2 := h.two m
    rw [along_snoc]
    by_cases hc : m ≤ comm y.path p
    · rw [if_pos hc]; constructor <;> intro h3 <;> omega
    · rw [if_neg hc]; constructor <;> intro h3 <;> omega
theorem mkPf_len (x : Nat) (l : List Lf) (p : List UInt8) : (mkPf x l p).sibs = (descF x 256 l p 0).1 := by
  unfold mkPf
  split <;> rfl
theorem depth_end {x : Nat} {l : List Lf} (hk : oks l) (hu : unlike l) {p : List UInt8} {mo nx : Int} (h : Far2 l p mo nx) : ((mkPf x l p).sibs.length : Int) = nx + 1 := by
  have hfew := descF_few x 256 l p 0 rfl hk hu (fun _ _ _ _ i hi => absurd hi (Nat.not_lt_zero i))
  have hs := depth_spec x l p 256 0 rfl (by rw [along_zero]; exact hfew)
  rw [along_zero] at hs
  rw [mkPf_len]
  generalize (descF x 256 l p 0).1.length = d at hs
  obtain ⟨h1, h2⟩ := hs
  rw [Nat.zero_add] at h2
  have h3 := h.two d
  have h4 := h.lo
  by_cases hd : d = 0
  · subst hd; omega
  · have h5 := h1 (d - 1) (Nat.zero_le _) (by omega)
    have h6 := h.two (d - 1)
    omega
theorem rootE_four (x : Int) (l : List Lf) : rootE x l = 0 ∨ rootE x l = 1 ∨ rootE x l = 2 ∨ rootE x l = 30 := by
  unfold rootE
  split
  · split
    · split <;> simp
    · simp
  · simp
def YesD (w : World) (e : Ending) (w' : World) : Prop := e = .returned (.bool true) ∧ Below w.heap.size w w'

set_option maxHeartbeats 8000000 in
theorem walkProofDepth (w : World) (hT : Tab w 1) (x : Int) (_wf : (Lit.int .i64 x).wf = true) (a : Option Addr) (n c : Nat) (l : List Lf) (hr : RdL w a n c l) (p : List UInt8) (hp : p.length = 32) :
    Calls Tryd.prog 6 #[.int .i64 x, .slice a n c, .agg (bs p).toArray] w (YesD w) := by
  have hb0 := Blk.new w 23 (bs p)
  have hB0 : Below w.heap.size w (w.alloc (.cells (bs p).toArray 23)) := (Below.refl _ w).alloc (Nat.le_refl _) _
  have MK := Lib.hid (fun (W : World) (h : Below w.heap.size w W) => make_any W x a n c l (hr.below h) p hp (hT.below h))
  have MS := Lib.hid (fun (W : World) (h : Below w.heap.size w W) => makes_any W (hT.below h))
  have CM := Lib.hid (fun (W : World) (q : List UInt8) (hq : q.length = 32) => common_any W q p hq hp)
  have H5 := Lib.hid (digP hp)
  have hvl := mV_length (x := x) hr.ok p
  have hln := hr.len
  have IC := Lib.hid (infoClc (b := mB x l p) hvl)
  have LCC := Lib.hid (show (clc false zero32).length = (clc (mB x l p) (mV x l p)).length by rw [clcZ_len, clc_len hvl])
  have OC := clc_one (mB x l p) (mV x l p)
  have ZC := zeroClc_info
  have ZP := zeroP_info
  have HRV := Lib.hid (rootE_four x l)
  have HR := Lib.hid hr
  have HNO : Hid (rootE x l ≠ 0 → (mX x l p).sibs.length = 0) := Lib.hid (fun h => by rw [mX, if_neg h]; rfl)
  have HYES : Hid (rootE x l = 0 → ∀ mo nx, Far2 l p mo nx → ((mX x l p).sibs.length : Int) = nx + 1) := Lib.hid (fun h mo nx ht => by
    by_cases hx : 0 ≤ x ∧ x ≤ 32
    · obtain ⟨k, rfl⟩ := Int.eq_ofNat_of_zero_le hx.1
      rw [mX, if_pos h]
      exact depth_end hr.ok (rootE_in (by omega) h).2 ht
    · rw [rootE_not hx] at h; exact absurd h (by decide))
  unfold MkPost at MK
  by_cases h200 : 200 < n
  · have h200' : (200 : Int) < (n : Int) := by omega
    clear hr
    go_enter Tryd.func6, Tryd.ntmps6
    go_wp2_with fail
    go_ret
    exact ⟨rfl, hB0⟩
  · have h200' : ¬ (200 : Int) < (n : Int) := by omega
    clear hr hT hp hvl
    generalize clc (mB x l p) (mV x l p) = CX at *
    generalize mX x l p = X at *
    generalize rootE x l = er at *
    go_enter Tryd.func6, Tryd.ntmps6
    go_wp2_with (first | ((with_reducible refine wpList_loadB (o := ⟨some 20, _, _, _, _, _⟩) ?_ 23 (.tmp 5) ?_ ?_ hb0 Tryd.underlying23 ?_ H5.out ?_); rfl; rfl; rfl; rfl))
    refine (MK.out _ hB0).mono ?_
    rintro e w1 ⟨a1, n1, c1, rfl, hP1, hB1⟩
    have hB01 := Bt hB0 hB1
    have hp1 := hb0.below hB1
    have IX := Lib.hid (size_of (a := a1) (n := n1) (c := c1) hP1.ok)
    have LX := Lib.hid (cells_len (a := none) (n := 0) (c := 0) (a' := a1) (n' := n1) (c' := c1) pf0_ok hP1.ok)
    have OX := pc_one a1 n1 c1 X
    have HXL := Lib.hid hP1.sib.len
    have HX0 : Hid ((pc a1 n1 c1 X)[0]? = some (.slice a1 n1 c1)) := Lib.hid rfl
    generalize pc a1 n1 c1 X = PX at *
    clear hb0 hB0 hB1 hP1
    rcases HRV.out with her | her | her | her
    · subst her
      go_wp2_with (first
        | (((with_reducible refine wpList_allocB (o := ⟨some 7, _, _, _, _, _⟩) ?_ 25 ?_ ZC ?_); rfl; rfl; intro w2 hr2 hg2 hz2))
        | (((with_reducible refine wpList_allocB (o := ⟨some 8, _, _, _, _, _⟩) ?_ 28 ?_ ZP ?_); rfl; rfl; intro w3 hr3 hg3 hz3); have c3 := hr2.grown hg3 (by simp))
        | (((with_reducible refine wpList_storeB (o := ⟨none, .store 25 (.tmp 7) (.tmp 22), _, _, _, _⟩) ?_ 25 (.tmp 7) (.tmp 22) ?_ ?_ ?_ c3 IC.out LCC.out OC ?_); rfl; rfl; rfl; rfl; intro w4 hr4 hg4 hz4); have x4 := hr3.grown hg4 (fun e => by injection e with e; omega))
        | (((with_reducible refine wpList_storeB (o := ⟨none, .store 28 (.tmp 8) (.tmp 23), _, _, _, _⟩) ?_ 28 (.tmp 8) (.tmp 23) ?_ ?_ ?_ x4 IX.out LX.out OX ?_); rfl; rfl; rfl; rfl; intro w5 hr5 hg5 hz5);
            have b5 := (((((Below.refl _ w1).grown hg2 (Nat.le_refl _) (fun k e => by cases e)).grown hg3 (by omega) (fun k e => by cases e)).grown hg4 (by omega) (fun k e => by cases e; omega)).grown hg5 (by omega) (fun k e => by cases e; omega)); rw [hz2] at hr5; have hr5' := Lib.hid hr5; have hp5 := hp1.below b5; have hB5 := Bt hB01 b5))
      clear hr2 hg2 hr3 hg3 c3 hr4 hg4 x4 hr5 hg5 b5 hz3 hz4 hz5 hB01
      have hyes := Lib.hid (HYES.out (by first | trivial | rfl))
      clear HNO HYES
      go_wp2_with fail
      go_loopw [10, 11, 12] (fun mv nv iv wr => ∃ (k : Nat) (mo nx : Int), k ≤ n ∧ iv = .int .i64 (k : Int) ∧ mv = .int .i64 mo ∧ nv = .int .i64 nx ∧ Far2 (l.take k) p mo nx ∧ Below w5.heap.size w5 wr) (fun _ _ iv _ => n - (intOf iv).toNat)
      case atStart => exact ⟨0, -1, -1, by omega, rfl, rfl, rfl, Far2.nil p, Below.refl _ _⟩
      case round =>
        obtain ⟨k, mo, nx, hk, rfl, rfl, rfl, hTw, hBr⟩ := hrel
        have hBw := Bt hB5 hBr
        by_cases hlt : k < n
        · have hkl : (k : Int) < (n : Int) := by omega
          have hpr := Lib.hid (hp5.below hBr)
          have hy := HR.out.ok (l.getD k lf0) (by
            have e : l.getD k lf0 = l[k]'(by omega) := by simp [List.getD, show k < l.length by omega]
            rw [e]
            exact List.getElem_mem _)
          obtain ⟨bb, off, hae, -, hel⟩ := (HR.out.below hBw).elems (by omega)
          subst hae
          have hlc := Lib.hid (range_path (hel k hlt))
          have IP := Lib.hid (digP hy.1)
          have CY := Lib.hid (fun W : World => CM.out W (l.getD k lf0).path hy.1)
          have htk := Lib.hid (take_succ_lf l k (by omega))
          have HTW := Lib.hid hTw
          have hnl := comm_le (l.getD k lf0).path p
          have HF := Lib.hid (fun (h : mo < (comm (l.getD k lf0).path p : Int)) => HTW.out.far (l.getD k lf0) h)
          have HN := Lib.hid (fun (h : ¬ mo < (comm (l.getD k lf0).path p : Int)) => HTW.out.near (l.getD k lf0) h)
          clear hel hy
          rw [← htk.out] at HF HN
          generalize comm (l.getD k lf0).path p = cm at *
          generalize (l.getD k lf0).path = yp at *
          go_wp2_with fail
          -- REGION depth 10
          refine wp_region_held_drew (S := fun W => Below wr.heap.size wr W) (by kernel_rfl) (Below.refl _ wr).drew (fun hHeld => ?_)
          refine wpAnyH_take (i := 0) (oi := ⟨some 40, .move (.tmp 1), _, _, _, none⟩) (v := ?_) rfl (by kernel_rfl) (by kernel_rfl) (by kernel_rfl) (fun _ _ _ h => h) (Or.inl ⟨by rfl, ?_⟩) hHeld ?_
          rotate_left
          · intro W _; go_simp; try with_reducible rfl
          try simp only [Act.put, List.setIfInBounds_toArray, List.set_cons_zero, List.set_cons_succ]
          refine wpAnyH_take (i := 1) (oi := ⟨some 41, .move (.tmp 12), _, _, _, none⟩) (v := ?_) rfl (by kernel_rfl) (by kernel_rfl) (by kernel_rfl) (fun _ _ _ h => h) (Or.inl ⟨by rfl, ?_⟩) hHeld ?_
          rotate_left
          · intro W _; go_simp; try with_reducible rfl
          try simp only [Act.put, List.setIfInBounds_toArray, List.set_cons_zero, List.set_cons_succ]
          refine wpAnyH_take (i := 2) (oi := ⟨some 42, .indexAddr 41 (.tmp 40) (.tmp 41), _, _, _, none⟩) (v := ?_) rfl (by kernel_rfl) (by kernel_rfl) (by kernel_rfl) (fun _ _ _ h => h) (Or.inl ⟨by rfl, ?_⟩) hHeld ?_
          rotate_left
          · intro W _; go_simp; try with_reducible rfl
          try simp only [Act.put, List.setIfInBounds_toArray, List.set_cons_zero, List.set_cons_succ]
          refine wpAnyH_take (i := 3) (oi := ⟨some 43, .fieldAddr 46 (.tmp 42) 0, _, _, _, none⟩) (v := ?_) rfl (by kernel_rfl) (by kernel_rfl) (by kernel_rfl) (fun _ _ _ h => h) (Or.inl ⟨by rfl, ?_⟩) hHeld ?_
          rotate_left
          · intro W _; go_simp; try with_reducible rfl
          try simp only [Act.put, List.setIfInBounds_toArray, List.set_cons_zero, List.set_cons_succ]
          refine wpAnyH_take (i := 4) (oi := ⟨some 44, .load 23 (.tmp 43), _, _, _, none⟩) (v := .agg (bs yp).toArray) rfl (by kernel_rfl) (by kernel_rfl) (by kernel_rfl) (fun _ _ _ h => h) (yieldsIf_load_mid (by rfl) _ _ rfl bb (off + k * 64) rfl (bs yp) _ (fun W h => (range_below h hlc.out)) Tryd.underlying23 rfl IP.out) hHeld ?_
          try simp only [Act.put, List.setIfInBounds_toArray, List.set_cons_zero, List.set_cons_succ]
          refine wpAnyH_take (i := 5) (oi := ⟨some 45, .load 23 (.tmp 5), _, _, _, none⟩) (v := .agg (bs p).toArray) rfl (by kernel_rfl) (by kernel_rfl) (by kernel_rfl) (fun _ _ _ h => h) (yieldsIf_load_mid (by rfl) _ _ rfl w.heap.size 0 rfl (bs p) _ (fun W h => (hpr.out.below h).allR) Tryd.underlying23 rfl H5.out) hHeld ?_
          try simp only [Act.put, List.setIfInBounds_toArray, List.set_cons_zero, List.set_cons_succ]
          refine wpAnyH_ready (rs := [6]) (by kernel_rfl) (by simp) ?_
          refine AllReadyH.cons (o := ⟨some 46, .call { callee := .value (.func 18), args := #[.tmp 44, .tmp 45], argTypes := #[23, 23] }, _, _, _, none⟩) rfl (fun K hK => ?_) AllReadyH.nil
          refine step_ofR (by rfl) ?_
          go_simp
          refine (CY.out _).mono ?_
          rintro ee W6 ⟨rfl, hb6⟩
          refine hK.out _ _ (Bt hHeld hb6) (fun hHeld => ?_)
          clear hK K
          try simp only [Act.put, List.setIfInBounds_toArray, List.set_cons_zero, List.set_cons_succ]
          refine wpAnyH_ready (rs := [7]) (by kernel_rfl) (by simp) ?_
          refine AllReadyH.cons (o := ⟨some 13, .assign (.tmp 46), _, _, _, none⟩) rfl (fun K hK => ?_) AllReadyH.nil
          refine step_ofR (by rfl) ?_
          go_simp
          refine hK.out _ _ (hHeld) (fun hHeld => ?_)
          clear hK K
          try simp only [Act.put, List.setIfInBounds_toArray, List.set_cons_zero, List.set_cons_succ]
          refine wpAnyH_done (by kernel_rfl) ?_ _
          -- END depth
          have hBd := Bt hBr hHeld
          clear hHeld
          by_cases hfar : mo < (cm : Int)
          · have h1 := HF.out hfar
            go_wp2_with fail
            go_roundw
            case rel => exact ⟨k + 1, _, _, by omega, by go_num, rfl, rfl, h1, hBd⟩
            case measure => simp [intOf]; omega
          · have h1 := HN.out (by omega)
            go_wp2_with fail
            go_roundw
            case rel => exact ⟨k + 1, _, _, by omega, by go_num, rfl, rfl, h1, hBd⟩
            case measure => simp [intOf]; omega
        · obtain rfl : k = n := by omega
          have hkl : ¬ (k : Int) < (k : Int) := by omega
          have htk : l.take k = l := List.take_of_length_le (by omega)
          rw [htk] at hTw
          have hfin := hyes.out _ _ hTw
          rw [HXL.out] at hfin
          have hnx : IntKind.i64.wrap (nx + 1) = nx + 1 := IntWalk.i64_in _ (by have := hTw.lo; have := hTw.le; have := hTw.hi; omega)
          have hxr := hr5'.out.below hBr
          clear hTw hkl htk
          go_wp2_with fail
          refine (MS.out _ hBw).mono ?_
          rintro e w9 ⟨rfl, hB9⟩
          have c0 := (hxr.below hB9).cell HX0.out
          have hBf := Bt hBw hB9
          have hen : ((n1 : Int) == nx + 1) = true := by simpa using hfin
          go_wp2_with fail
          go_ret
          exact ⟨by simp, hBf⟩
    all_goals
      subst her
      go_wp2_with (first
        | (((with_reducible refine wpList_allocB (o := ⟨some 7, _, _, _, _, _⟩) ?_ 25 ?_ ZC ?_); rfl; rfl; intro w2 hr2 hg2 hz2))
        | (((with_reducible refine wpList_allocB (o := ⟨some 8, _, _, _, _, _⟩) ?_ 28 ?_ ZP ?_); rfl; rfl; intro w3 hr3 hg3 hz3); have c3 := hr2.grown hg3 (by simp))
        | (((with_reducible refine wpList_storeB (o := ⟨none, .store 25 (.tmp 7) (.tmp 22), _, _, _, _⟩) ?_ 25 (.tmp 7) (.tmp 22) ?_ ?_ ?_ c3 IC.out LCC.out OC ?_); rfl; rfl; rfl; rfl; intro w4 hr4 hg4 hz4); have x4 := hr3.grown hg4 (fun e => by injection e with e; omega))
        | (((with_reducible refine wpList_storeB (o := ⟨none, .store 28 (.tmp 8) (.tmp 23), _, _, _, _⟩) ?_ 28 (.tmp 8) (.tmp 23) ?_ ?_ ?_ x4 IX.out LX.out OX ?_); rfl; rfl; rfl; rfl; intro w5 hr5 hg5 hz5);
            have b5 := (((((Below.refl _ w1).grown hg2 (Nat.le_refl _) (fun k e => by cases e)).grown hg3 (by omega) (fun k e => by cases e)).grown hg4 (by omega) (fun k e => by cases e; omega)).grown hg5 (by omega) (fun k e => by cases e; omega)); rw [hz2] at hr5; have hr5' := Lib.hid hr5; have hp5 := hp1.below b5; have hB5 := Bt hB01 b5))
      clear hr2 hg2 hr3 hg3 c3 hr4 hg4 x4 hr5 hg5 b5 hz3 hz4 hz5 hB01
      have hno := HNO.out (by decide)
      rw [HXL.out] at hno
      subst hno
      clear HNO HYES
      go_wp2_with fail
      refine (MS.out _ hB5).mono ?_
      rintro e w9 ⟨rfl, hB9⟩
      have c0 := (hr5'.out.below hB9).cell HX0.out
      have hBf := Bt hB5 hB9
      go_wp2_with fail
      go_ret
      exact ⟨rfl, hBf⟩
end Go.Proofs.YtgbhfpkngjlfkaaDoor
