/-
  Rgt0 Rgt1, in one text.
-/
import Derived.Test.YtgbhfpkngjlfkaaGreatDoorMk06
import Derived.Test.YtgbhfpkngjlfkaaGreatDoorChkA
namespace Go.Proofs.YtgbhfpkngjlfkaaGreatDoor
/-! On lists: the root that a claim and Make's proof lead to is the tree's. -/
section
open Go.RowKit

/-- the digest of the leaves where the siblings end -/
def endD (x : Nat) : List Lf → List UInt8
  | [] => emptyD x
  | [y] => leafD x y
  | _ => emptyD x
theorem endD_digest (x : Nat) {l : List Lf} (h : l.length ≤ 1) (k m : Nat) : digestF x k l m = endD x l := by
  match l, h with
  | [], _ => cases k <;> rw [digestF] <;> rfl
  | [y], _ => cases k <;> rw [digestF] <;> rfl
theorem digestF_more (x k : Nat) {l : List Lf} (h : ¬ l.length ≤ 1) (m : Nat) : digestF x (k + 1) l m = nodeD x (digestF x k (half l m 0) (m + 1)) (digestF x k (half l m 1) (m + 1)) := by
  match l, h with
  | [], h => simp at h
  | [_], h => simp at h
  | _ :: _ :: _, _ => rw [digestF]
theorem up_desc (x : Nat) : ∀ (k : Nat) (l : List Lf) (p : List UInt8) (m : Nat), digestF x k l m = upF x p m (descF x k l p m).1 (endD x (descF x k l p m).2)
  | 0, l, p, m => by
    match l with
    | [] => rw [digestF]; rfl
    | [_] => rw [digestF]; rfl
    | _ :: _ :: _ => rw [digestF]; rfl
  | k + 1, l, p, m => by
    by_cases hf : l.length ≤ 1
    · rw [descF_end x _ hf, endD_digest x hf]; rfl
    · rw [descF_more x k hf, digestF_more x k hf]
      simp only [upF]
      have ih := up_desc x k (half l m (bitAt p m)) p (m + 1)
      rw [← ih]
      have hb := bitAt_lt p m
      unfold innerB nodeD
      by_cases h1 : bitAt p m = 1
      · rw [if_pos h1, h1]; simp
      · have h0 : bitAt p m = 0 := by omega
        rw [if_neg h1, h0]; simp
theorem desc_mem (x : Nat) : ∀ (k : Nat) (l : List Lf) (p : List UInt8) (m : Nat) (y : Lf), y ∈ l → y.path = p → y ∈ (descF x k l p m).2
  | 0, _, _, _, _, h, _ => h
  | k + 1, l, p, m, y, h, hp => by
    by_cases hf : l.length ≤ 1
    · rw [descF_end x _ hf]; exact h
    · rw [descF_more x k hf]
      exact desc_mem x k _ p (m + 1) y (List.mem_filter.2 ⟨h, by simp [hp]⟩) hp
theorem findL_mem6 {l : List Lf} {p : List UInt8} {y : Lf} (h : findL l p = some y) : y ∈ l ∧ y.path = p :=
  ⟨List.mem_of_find?_eq_some h, by simpa using List.find?_some h⟩
/-- what is summed first is the digest of where the siblings end -/
theorem start_end (x : Nat) {l : List Lf} (hk : oks l) (hu : unlike l) (p : List UInt8) : shortB x (startB p (findL l p).isSome (valOf (findL l p)) (mkPf x l p)) = endD x (descF x 256 l p 0).2 := by
  have hfew := descF_few x 256 l p 0 rfl hk hu (fun _ _ _ _ i hi => absurd hi (Nat.not_lt_zero i))
  cases hf : findL l p with
  | some y =>
    obtain ⟨h1, h2⟩ := findL_mem6 hf
    have hm := desc_mem x 256 l p 0 y h1 h2
    have he : (descF x 256 l p 0).2 = [y] := by
      match h : (descF x 256 l p 0).2 with
      | [] => rw [h] at hm; cases hm
      | [z] => rw [h] at hm; rw [List.mem_singleton.1 hm]
      | _ :: _ :: _ => rw [h] at hfew; simp at hfew
    rw [he]
    simp [startB, endD, leafD, valOf, h2]
  | none =>
    match h : (descF x 256 l p 0).2 with
    | [] =>
      rw [mkPf_plain (by rw [h]; simp)]
      simp [startB, endD, emptyD]
    | [y] =>
      rw [mkPf_other hf h]
      simp [startB, endD, leafD]
    | _ :: _ :: _ => rw [h] at hfew; simp at hfew
theorem mkPf_sibs (x : Nat) (l : List Lf) (p : List UInt8) : (mkPf x l p).sibs = (descF x 256 l p 0).1 := by
  unfold mkPf
  split <;> rfl
/-- Make's proof leads to the root -/
theorem up_root (x : Nat) {l : List Lf} (hk : oks l) (hu : unlike l) (p : List UInt8) : upF x p 0 (mkPf x l p).sibs (shortB x (startB p (findL l p).isSome (valOf (findL l p)) (mkPf x l p))) = rootL x l := by
  rw [start_end x hk hu, mkPf_sibs, rootL, up_desc x 256 l p 0]
end
/-! ProofRight: on lists, what Make makes is found right; the walk. -/
section
open Go.RowKit
set_option maxRecDepth 100000

theorem desc_agree (x : Nat) : ∀ (k : Nat) (l : List Lf) (p : List UInt8) (m : Nat) (z : Lf), z ∈ (descF x k l p m).2 → z ∈ l ∧ ∀ i, m ≤ i → i < m + (descF x k l p m).1.length → bitAt z.path i = bitAt p i
  | 0, _, _, _, _, h => ⟨h, fun i h1 h2 => by simp [descF] at h2; omega⟩
  | k + 1, l, p, m, z, h => by
    by_cases hf : l.length ≤ 1
    · rw [descF_end x _ hf] at h ⊢
      exact ⟨h, fun i h1 h2 => by simp at h2; omega⟩
    · rw [descF_more x k hf] at h ⊢
      obtain ⟨h1, h2⟩ := desc_agree x k _ p (m + 1) z h
      have h3 := List.mem_filter.1 h1
      refine ⟨h3.1, fun i hi hj => ?_⟩
      rw [List.length_cons] at hj
      by_cases he : i = m
      · subst he
        simpa using h3.2
      · exact h2 i (by omega) (by omega)
theorem comm_ge {a b : List UInt8} {n : Nat} (hn : n ≤ 256) (h : ∀ i, i < n → bitAt a i = bitAt b i) : n ≤ comm a b := by
  rcases Nat.lt_or_ge (comm a b) n with hlt | hge
  · exact absurd (h _ hlt) (comm_ne a b (by omega))
  · exact hge
theorem right_suits {x : Nat} {l : List Lf} (p : List UInt8) : suitsB p (findL l p).isSome (mkPf x l p) = true := by
  have hs := descF_short x 256 l p 0
  have hm := mkPf_sibs x l p
  cases hf : findL l p with
  | some y =>
    have ho : mkPf x l p = ⟨(descF x 256 l p 0).1, false, zero32, zero32⟩ := mkPf_plain (by rw [hf]; simp)
    simp [suitsB, formB, plainB, ho, hs]
  | none =>
    match h : (descF x 256 l p 0).2 with
    | [y] =>
      have ho := mkPf_other (x := x) hf h
      have hy := desc_agree x 256 l p 0 y (by rw [h]; simp)
      have hc : (descF x 256 l p 0).1.length ≤ comm y.path p := comm_ge hs (fun i hi => hy.2 i (Nat.zero_le _) (by omega))
      have hne : y.path ≠ p := fun e => by
        have := List.find?_eq_none.1 hf y hy.1
        simp [e] at this
      simp [suitsB, formB, plainB, ho, hs, hne, hc]
    | [] =>
      have ho : mkPf x l p = ⟨(descF x 256 l p 0).1, false, zero32, zero32⟩ := mkPf_plain (by rw [h]; simp)
      simp [suitsB, formB, plainB, ho, hs]
    | _ :: _ :: _ =>
      have ho : mkPf x l p = ⟨(descF x 256 l p 0).1, false, zero32, zero32⟩ := mkPf_plain (by rw [h]; simp)
      simp [suitsB, formB, plainB, ho, hs]
theorem right_check {x : Nat} (hx : x ≤ 32) {l : List Lf} (hk : oks l) (p : List UInt8) (h : rootE (x : Int) l = 0) : checkE (x : Int) (rootI (x : Int) l) p (mB x l p) (mV x l p) (mX x l p) = 0 := by
  obtain ⟨h4, hu⟩ := rootE_in hx h
  have hr : rootI (x : Int) l = rootL x l := by
    have ht : twiceB l = false := (twiceB_iff l).2 hu
    rw [rootI, if_pos ⟨by omega, by omega⟩, if_pos h4, ht, Int.toNat_natCast, if_neg (by simp)]
  have hB : mB x l p = (findL l p).isSome := by rw [mB, if_pos h]
  have hV : mV x l p = valOf (findL l p) := by rw [mV, if_pos h]
  have hX : mX x l p = mkPf x l p := by rw [mX, if_pos h, Int.toNat_natCast]
  rw [checkE, if_pos ⟨by omega, by omega⟩, hB, hV, hX, right_suits]
  have h1 : (!(findL l p).isSome && valOf (findL l p) != zero32) = false := by
    cases findL l p with
    | some y => rfl
    | none => simp [valOf]
  have h2 : rootB (x : Int).toNat p (findL l p).isSome (valOf (findL l p)) (mkPf x l p) = rootI (x : Int) l := by
    rw [hr, Int.toNat_natCast, rootB]
    exact up_root x hk hu p
  rw [h1, h2]
  simp
/-- is the claim's leaf among these? -/
def thereB (l : List Lf) (p : List UInt8) (b : Bool) (v : List UInt8) : Bool := l.any fun y => y.path == p && (b && y.val == v)
theorem there_all {x : Int} {l : List Lf} (p : List UInt8) (h : rootE x l = 0) : thereB l p (mB x l p) (mV x l p) = mB x l p := by
  rw [mB, mV, if_pos h, if_pos h]
  cases hf : findL l p with
  | none => simp [thereB]
  | some y =>
    obtain ⟨h1, h2⟩ := findL_mem6 hf
    simp only [thereB, Option.isSome_some, List.any_eq_true]
    exact ⟨y, h1, by simp [h2, valOf]⟩
theorem there_step {l : List Lf} {k : Nat} (h : k < l.length) (p : List UInt8) (b : Bool) (v : List UInt8) : thereB (l.take (k + 1)) p b v = (thereB (l.take k) p b v || ((l.getD k lf0).path == p && (b && (l.getD k lf0).val == v))) := by
  rw [take_succ_lf l k h]
  simp [thereB]

theorem rootE_vals (x : Int) (l : List Lf) : rootE x l = 0 ∨ rootE x l = 1 ∨ rootE x l = 2 ∨ rootE x l = 30 := by
  unfold rootE
  split
  · split
    · split <;> simp
    · simp
  · simp
theorem mem_getD6 {l : List Lf} {k : Nat} (h : k < l.length) : l.getD k lf0 ∈ l := by
  have e : l.getD k lf0 = l[k] := by simp [List.getD, h]
  rw [e]
  exact List.getElem_mem h
def YesR (w : World) (e : Ending) (w' : World) : Prop := e = .returned (.bool true) ∧ Below w.heap.size w w'
theorem eqRun (d e : List UInt8) (hd : d.length = 32) (he : e.length = 32) {v : Bool} (hv : (d == e) = v) : ∀ W : World, (binOp .eql 24 (.agg (bs d).toArray) (.agg (bs e).toArray)).run Tryz.prog W = .ok (.bool v) W := fun W => by
  rw [eqD W d e hd he, hv]

/-- what ProofRight's loop holds on to -/
structure RgAt (w W : World) (g : Nat) (p : List UInt8) (C : List Value) : Prop where
  p : Blk W w.heap.size 24 (bs p)
  c : Blk W g 26 C
  bel : Below w.heap.size w W
theorem RgAt.below {w W W' : World} {g : Nat} {p : List UInt8} {C : List Value} (h : RgAt w W g p C) (hb : Below W.heap.size W W') : RgAt w W' g p C := ⟨h.p.below hb, h.c.below hb, Bt h.bel hb⟩

set_option maxHeartbeats 8000000 in
theorem walkProofRight (w : World) (hT : Tab w 0) (x : Int) (_wf : (Lit.int .i64 x).wf = true) (a : Option Addr) (n c : Nat) (l : List Lf) (hr : RdL w a n c l) (p : List UInt8) (hp : p.length = 32) :
    Calls Tryz.prog 3 #[.int .i64 x, .slice a n c, .agg (bs p).toArray] w (YesR w) := by
  have hb0 := Blk.new w 24 (bs p)
  have hB0 : Below w.heap.size w (w.alloc (.cells (bs p).toArray 24)) := (Below.refl _ w).alloc (Nat.le_refl _) _
  have MK := Lib.hid (fun (W : World) (h : Below w.heap.size w W) => make_any W x a n c l (hr.below h) p hp (hT.below h))
  have MS := Lib.hid (fun (W : World) (h : Below w.heap.size w W) => makes_any W (hT.below h))
  have CS := Lib.hid (fun (W : World) (h : Below w.heap.size w W) => checks_any W (hT.below h))
  have RT := Lib.hid (fun (W : World) (h : Below w.heap.size w W) => sroot_all W x a n c l (hr.below h) (hT.below h))
  have H5 := Lib.hid (digP hp)
  have hvl := mV_length (x := x) hr.ok p
  have hil := rootI_length x l
  have hln := hr.len
  have IC := Lib.hid (infoClc (b := mB x l p) hvl)
  have LCC := Lib.hid (show (clc false zero32).length = (clc (mB x l p) (mV x l p)).length by rw [clcZ_len, clc_len hvl])
  have OC := clc_one (mB x l p) (mV x l p)
  have HRI := Lib.hid (digP hil)
  have LRI := Lib.hid (show (bs zero32).length = (bs (rootI x l)).length by rw [bs_length, bs_length, zero32_length, hil])
  have ORI := bs_one (rootI x l)
  have ZC := zeroClc_info
  have ZP := zeroP_info
  have CK := Lib.hid (fun (W : World) (h : Below w.heap.size w W) (a' : Option Addr) (n' c' : Nat) (hX : RdP6 W a' n' c' (mX x l p)) => check_any W x (rootI x l) p hil hp (mB x l p) (mV x l p) hvl a' n' c' (mX x l p) hX (hT.below h))
  have HCK : Hid (rootE x l = 0 → checkE x (rootI x l) p (mB x l p) (mV x l p) (mX x l p) = 0) := Lib.hid (fun h => by
    by_cases hx : 0 ≤ x ∧ x ≤ 32
    · obtain ⟨k, rfl⟩ := Int.eq_ofNat_of_zero_le hx.1
      exact right_check (by omega) hr.ok p h
    · rw [rootE_not hx] at h; exact absurd h (by decide))
  have HTH : Hid (rootE x l = 0 → thereB l p (mB x l p) (mV x l p) = mB x l p) := Lib.hid (there_all p)
  have HRV := Lib.hid (rootE_vals x l)
  have HR := Lib.hid hr
  have HP := Lib.hid hp
  have HVL := Lib.hid hvl
  unfold MkPost at MK
  by_cases h200 : 200 < n
  · have h200' : (200 : Int) < (n : Int) := by omega
    clear hr
    go_enter Tryz.func3, Tryz.ntmps3
    go_wp2_with fail
    go_ret
    exact ⟨rfl, hB0⟩
  · have h200' : ¬ (200 : Int) < (n : Int) := by omega
    clear hr hT hp hvl hil
    have HC0 : Hid ((clc (mB x l p) (mV x l p))[0]? = some (.bool (mB x l p))) := Lib.hid rfl
    have HCV : Hid (∀ (W : World) (g : Nat), Blk W g 26 (clc (mB x l p) (mV x l p)) → W.rangeAt g 1 (bs (mV x l p))) := Lib.hid (fun W g h => h.range 1 (fun j _ => by unfold clc; rw [show 1 + j = j + 1 by omega, List.getElem?_cons_succ]))
    generalize clc (mB x l p) (mV x l p) = CX at *
    generalize checkE x (rootI x l) p (mB x l p) (mV x l p) (mX x l p) = ce at *
    generalize mX x l p = X at *
    generalize mB x l p = mb at *
    generalize mV x l p = mv at *
    generalize rootE x l = er at *
    generalize rootI x l = ri at *
    go_enter Tryz.func3, Tryz.ntmps3
    go_wp2_with (first | ((with_reducible refine wpList_loadB (o := ⟨some 20, _, _, _, _, _⟩) ?_ 24 (.tmp 5) ?_ ?_ hb0 Tryz.underlying24 ?_ H5.out ?_); rfl; rfl; rfl; rfl))
    refine (MK.out _ hB0).mono ?_
    rintro e w1 ⟨a1, n1, c1, rfl, hP1, hB1⟩
    have hB01 := Bt hB0 hB1
    have hp1 := hb0.below hB1
    have IX := Lib.hid (size_of (a := a1) (n := n1) (c := c1) hP1.ok)
    have LX := Lib.hid (cells_len (a := none) (n := 0) (c := 0) (a' := a1) (n' := n1) (c' := c1) pf0_ok hP1.ok)
    have OX := pc_one a1 n1 c1 X
    generalize hPX : pc a1 n1 c1 X = PX at *
    clear hb0 hB0 hB1
    go_wp2_with (first
      | (((with_reducible refine wpList_allocB (o := ⟨some 7, _, _, _, _, _⟩) ?_ 26 ?_ ZC ?_); rfl; rfl; intro w2 hr2 hg2 hz2))
      | (((with_reducible refine wpList_allocB (o := ⟨some 8, _, _, _, _, _⟩) ?_ 29 ?_ ZP ?_); rfl; rfl; intro w3 hr3 hg3 hz3); have c3 := hr2.grown hg3 (by simp))
      | (((with_reducible refine wpList_storeB (o := ⟨none, .store 26 (.tmp 7) (.tmp 22), _, _, _, _⟩) ?_ 26 (.tmp 7) (.tmp 22) ?_ ?_ ?_ c3 IC.out LCC.out OC ?_); rfl; rfl; rfl; rfl; intro w4 hr4 hg4 hz4); have x4 := hr3.grown hg4 (fun e => by injection e with e; omega))
      | (((with_reducible refine wpList_storeB (o := ⟨none, .store 29 (.tmp 8) (.tmp 23), _, _, _, _⟩) ?_ 29 (.tmp 8) (.tmp 23) ?_ ?_ ?_ x4 IX.out LX.out OX ?_); rfl; rfl; rfl; rfl; intro w5 hr5 hg5 hz5); have b5 := (((((Below.refl _ w1).grown hg2 (Nat.le_refl _) (fun k e => by cases e)).grown hg3 (by omega) (fun k e => by cases e)).grown hg4 (by omega) (fun k e => by cases e; omega)).grown hg5 (by omega) (fun k e => by cases e; omega))))
    have c5 := hr4.grown hg5 (fun e => by injection e with e; omega)
    rw [hz2] at hr5
    have hP5 := hP1.below b5
    have hp5 := hp1.below b5
    have hB5 := Bt hB01 b5
    clear hr2 hg2 hr3 hg3 c3 hr4 hg4 x4 hg5 b5 hz3 hz4 hz5 hP1 hp1 hB01
    refine (RT.out _ hB5).mono ?_
    rintro e w6 ⟨rfl, hB6⟩
    have c6 := c5.below hB6
    have x6 := hr5.below hB6
    have hP6 := hP5.below hB6
    have hp6 := hp5.below hB6
    have hB06 := Bt hB5 hB6
    clear c5 hr5 hP5 hp5 hB5 hB6
    rcases HRV.out with her | her | her | her
    · subst her
      go_wp2_with (first
        | (((with_reducible refine wpList_allocB (o := ⟨some 10, _, _, _, _, _⟩) ?_ 24 ?_ zeroD_info ?_); rfl; rfl; intro w7 hr7 hg7 hz7))
        | (((with_reducible refine wpList_storeB (o := ⟨none, .store 24 (.tmp 10) (.tmp 29), _, _, _, _⟩) ?_ 24 (.tmp 10) (.tmp 29) ?_ ?_ ?_ hr7 HRI.out LRI.out ORI ?_); rfl; rfl; rfl; rfl; intro w8 hr8 hg8 hz8);
            have b8 := (((Below.refl _ w6).grown hg7 (Nat.le_refl _) (fun k e => by cases e)).grown hg8 (by omega) (fun k e => by cases e; exact Nat.le_refl _));
            have hr8' := Lib.hid hr8; have hRg := Lib.hid (show RgAt w w8 w1.heap.size p CX from ⟨hp6.below b8, c6.below b8, Bt hB06 b8⟩); have x8 := x6.below b8; have hP8 := hP6.below b8))
      clear hr7 hg7 hr8 hg8 x6 c6 hp6 hP6
      have hthere := HTH.out (by first | trivial | rfl)
      have hce := HCK.out (by first | trivial | rfl)
      subst hce
      go_wp2_with fail
      go_loopw [12, 13] (fun tv iv wr => ∃ k : Nat, k ≤ n ∧ iv = .int .i64 (k : Int) ∧ tv = .bool (thereB (l.take k) p mb mv) ∧ Below w8.heap.size w8 wr) (fun _ iv _ => n - (intOf iv).toNat)
      case atStart => exact ⟨0, by omega, rfl, rfl, Below.refl _ _⟩
      case round =>
        obtain ⟨k, hk, rfl, rfl, hBr⟩ := hrel
        have HG := Lib.hid (hRg.out.below hBr)
        by_cases hlt : k < n
        · have hkl : (k : Int) < (n : Int) := by omega
          have hst := there_step (l := l) (k := k) (by omega) p mb mv
          have hy := HR.out.ok (l.getD k lf0) (mem_getD6 (by omega))
          obtain ⟨bb, off, hae, -, hel⟩ := (HR.out.below HG.out.bel).elems (by omega)
          subst hae
          have hlc := hel k hlt
          have hpr := Lib.hid (range_path hlc)
          have hvr := Lib.hid (range_val hy hlc)
          have IP := Lib.hid (digP hy.1)
          have IV := Lib.hid (digP hy.2)
          have IM := Lib.hid (digP HVL.out)
          have EP := Lib.hid (fun (v : Bool) (hv : ((l.getD k lf0).path == p) = v) => eqRun _ p hy.1 HP.out hv)
          have EV := Lib.hid (fun (v : Bool) (hv : ((l.getD k lf0).val == mv) = v) => eqRun _ mv hy.2 HVL.out hv)
          have HST := Lib.hid hst
          clear hel hlc hy hst
          generalize thereB (l.take k) p mb mv = t0 at *
          generalize l.getD k lf0 = y at *
          cases t0 with
          | true =>
            have HT1 : Hid (thereB (l.take (k + 1)) p mb mv = true) := Lib.hid (by rw [HST.out]; rfl)
            go_wp2_with fail
            -- REGION rightA 12
            refine wp_region_held_drew (S := fun W => Below wr.heap.size wr W) (by kernel_rfl) (Below.refl _ wr).drew (fun hHeld => ?_)
            refine wpAnyH_take (i := 0) (oi := ⟨some 52, .move (.tmp 12), _, _, _, none⟩) (v := ?_) rfl (by kernel_rfl) (by kernel_rfl) (by kernel_rfl) (fun _ _ _ h => h) (Or.inl ⟨by rfl, ?_⟩) hHeld ?_
            rotate_left
            · intro W _; go_simp; try with_reducible rfl
            try simp only [Act.put, List.setIfInBounds_toArray, List.set_cons_zero, List.set_cons_succ]
            refine wpAnyH_take (i := 1) (oi := ⟨some 53, .move (.tmp 52), _, _, _, none⟩) (v := ?_) rfl (by kernel_rfl) (by kernel_rfl) (by kernel_rfl) (fun _ _ _ h => h) (Or.inl ⟨by rfl, ?_⟩) hHeld ?_
            rotate_left
            · intro W _; go_simp; try with_reducible rfl
            try simp only [Act.put, List.setIfInBounds_toArray, List.set_cons_zero, List.set_cons_succ]
            refine wpAnyH_take (i := 2) (oi := ⟨some 54, .move (.tmp 1), _, _, _, some (1, false)⟩) (v := undef) rfl (by kernel_rfl) (by kernel_rfl) (by kernel_rfl) (fun _ _ _ h => h) (Or.inr ⟨by rfl, rfl⟩) hHeld ?_
            try simp only [Act.put, List.setIfInBounds_toArray, List.set_cons_zero, List.set_cons_succ]
            refine wpAnyH_take (i := 3) (oi := ⟨some 55, .move (.tmp 13), _, _, _, some (1, false)⟩) (v := undef) rfl (by kernel_rfl) (by kernel_rfl) (by kernel_rfl) (fun _ _ _ h => h) (Or.inr ⟨by rfl, rfl⟩) hHeld ?_
            try simp only [Act.put, List.setIfInBounds_toArray, List.set_cons_zero, List.set_cons_succ]
            refine wpAnyH_take (i := 4) (oi := ⟨some 56, .indexAddr 22 (.tmp 54) (.tmp 55), _, _, _, some (1, false)⟩) (v := undef) rfl (by kernel_rfl) (by kernel_rfl) (by kernel_rfl) (fun _ _ _ h => h) (Or.inr ⟨by rfl, rfl⟩) hHeld ?_
            try simp only [Act.put, List.setIfInBounds_toArray, List.set_cons_zero, List.set_cons_succ]
            refine wpAnyH_take (i := 5) (oi := ⟨some 57, .fieldAddr 37 (.tmp 56) 0, _, _, _, some (1, false)⟩) (v := undef) rfl (by kernel_rfl) (by kernel_rfl) (by kernel_rfl) (fun _ _ _ h => h) (Or.inr ⟨by rfl, rfl⟩) hHeld ?_
            try simp only [Act.put, List.setIfInBounds_toArray, List.set_cons_zero, List.set_cons_succ]
            refine wpAnyH_take (i := 6) (oi := ⟨some 58, .load 24 (.tmp 57), _, _, _, some (1, false)⟩) (v := undef) rfl (by kernel_rfl) (by kernel_rfl) (by kernel_rfl) (fun _ _ _ h => h) (Or.inr ⟨by rfl, rfl⟩) hHeld ?_
            try simp only [Act.put, List.setIfInBounds_toArray, List.set_cons_zero, List.set_cons_succ]
            refine wpAnyH_take (i := 7) (oi := ⟨some 59, .load 24 (.tmp 5), _, _, _, some (1, false)⟩) (v := undef) rfl (by kernel_rfl) (by kernel_rfl) (by kernel_rfl) (fun _ _ _ h => h) (Or.inr ⟨by rfl, rfl⟩) hHeld ?_
            try simp only [Act.put, List.setIfInBounds_toArray, List.set_cons_zero, List.set_cons_succ]
            refine wpAnyH_take (i := 8) (oi := ⟨some 60, .binOp .eql 24 (.tmp 58) (.tmp 59) 24, _, _, _, some (1, false)⟩) (v := undef) rfl (by kernel_rfl) (by kernel_rfl) (by kernel_rfl) (fun _ _ _ h => h) (Or.inr ⟨by rfl, rfl⟩) hHeld ?_
            try simp only [Act.put, List.setIfInBounds_toArray, List.set_cons_zero, List.set_cons_succ]
            refine wpAnyH_take (i := 9) (oi := ⟨some 61, .move (.tmp 60), _, _, _, some (1, false)⟩) (v := undef) rfl (by kernel_rfl) (by kernel_rfl) (by kernel_rfl) (fun _ _ _ h => h) (Or.inr ⟨by rfl, rfl⟩) hHeld ?_
            try simp only [Act.put, List.setIfInBounds_toArray, List.set_cons_zero, List.set_cons_succ]
            refine wpAnyH_take (i := 10) (oi := ⟨some 62, .fieldAddr 26 (.tmp 7) 0, _, _, _, some (9, true)⟩) (v := undef) rfl (by kernel_rfl) (by kernel_rfl) (by kernel_rfl) (fun _ _ _ h => h) (Or.inr ⟨by rfl, rfl⟩) hHeld ?_
            try simp only [Act.put, List.setIfInBounds_toArray, List.set_cons_zero, List.set_cons_succ]
            refine wpAnyH_take (i := 11) (oi := ⟨some 63, .load 4 (.tmp 62), _, _, _, some (9, true)⟩) (v := undef) rfl (by kernel_rfl) (by kernel_rfl) (by kernel_rfl) (fun _ _ _ h => h) (Or.inr ⟨by rfl, rfl⟩) hHeld ?_
            try simp only [Act.put, List.setIfInBounds_toArray, List.set_cons_zero, List.set_cons_succ]
            refine wpAnyH_take (i := 12) (oi := ⟨some 64, .pick (.tmp 61) (.tmp 63) (.const (.bool false)), _, _, _, some (1, false)⟩) (v := undef) rfl (by kernel_rfl) (by kernel_rfl) (by kernel_rfl) (fun _ _ _ h => h) (Or.inr ⟨by rfl, rfl⟩) hHeld ?_
            try simp only [Act.put, List.setIfInBounds_toArray, List.set_cons_zero, List.set_cons_succ]
            refine wpAnyH_take (i := 13) (oi := ⟨some 65, .move (.tmp 64), _, _, _, some (1, false)⟩) (v := undef) rfl (by kernel_rfl) (by kernel_rfl) (by kernel_rfl) (fun _ _ _ h => h) (Or.inr ⟨by rfl, rfl⟩) hHeld ?_
            try simp only [Act.put, List.setIfInBounds_toArray, List.set_cons_zero, List.set_cons_succ]
            refine wpAnyH_take (i := 14) (oi := ⟨some 66, .move (.tmp 1), _, _, _, some (13, true)⟩) (v := undef) rfl (by kernel_rfl) (by kernel_rfl) (by kernel_rfl) (fun _ _ _ h => h) (Or.inr ⟨by rfl, rfl⟩) hHeld ?_
            try simp only [Act.put, List.setIfInBounds_toArray, List.set_cons_zero, List.set_cons_succ]
            refine wpAnyH_take (i := 15) (oi := ⟨some 67, .move (.tmp 13), _, _, _, some (13, true)⟩) (v := undef) rfl (by kernel_rfl) (by kernel_rfl) (by kernel_rfl) (fun _ _ _ h => h) (Or.inr ⟨by rfl, rfl⟩) hHeld ?_
            try simp only [Act.put, List.setIfInBounds_toArray, List.set_cons_zero, List.set_cons_succ]
            refine wpAnyH_take (i := 16) (oi := ⟨some 68, .indexAddr 22 (.tmp 66) (.tmp 67), _, _, _, some (13, true)⟩) (v := undef) rfl (by kernel_rfl) (by kernel_rfl) (by kernel_rfl) (fun _ _ _ h => h) (Or.inr ⟨by rfl, rfl⟩) hHeld ?_
            try simp only [Act.put, List.setIfInBounds_toArray, List.set_cons_zero, List.set_cons_succ]
            refine wpAnyH_take (i := 17) (oi := ⟨some 69, .fieldAddr 37 (.tmp 68) 1, _, _, _, some (13, true)⟩) (v := undef) rfl (by kernel_rfl) (by kernel_rfl) (by kernel_rfl) (fun _ _ _ h => h) (Or.inr ⟨by rfl, rfl⟩) hHeld ?_
            try simp only [Act.put, List.setIfInBounds_toArray, List.set_cons_zero, List.set_cons_succ]
            refine wpAnyH_take (i := 18) (oi := ⟨some 70, .load 24 (.tmp 69), _, _, _, some (13, true)⟩) (v := undef) rfl (by kernel_rfl) (by kernel_rfl) (by kernel_rfl) (fun _ _ _ h => h) (Or.inr ⟨by rfl, rfl⟩) hHeld ?_
            try simp only [Act.put, List.setIfInBounds_toArray, List.set_cons_zero, List.set_cons_succ]
            refine wpAnyH_take (i := 19) (oi := ⟨some 71, .fieldAddr 26 (.tmp 7) 1, _, _, _, some (13, true)⟩) (v := undef) rfl (by kernel_rfl) (by kernel_rfl) (by kernel_rfl) (fun _ _ _ h => h) (Or.inr ⟨by rfl, rfl⟩) hHeld ?_
            try simp only [Act.put, List.setIfInBounds_toArray, List.set_cons_zero, List.set_cons_succ]
            refine wpAnyH_take (i := 20) (oi := ⟨some 72, .load 24 (.tmp 71), _, _, _, some (13, true)⟩) (v := undef) rfl (by kernel_rfl) (by kernel_rfl) (by kernel_rfl) (fun _ _ _ h => h) (Or.inr ⟨by rfl, rfl⟩) hHeld ?_
            try simp only [Act.put, List.setIfInBounds_toArray, List.set_cons_zero, List.set_cons_succ]
            refine wpAnyH_take (i := 21) (oi := ⟨some 73, .binOp .eql 24 (.tmp 70) (.tmp 72) 24, _, _, _, some (13, true)⟩) (v := undef) rfl (by kernel_rfl) (by kernel_rfl) (by kernel_rfl) (fun _ _ _ h => h) (Or.inr ⟨by rfl, rfl⟩) hHeld ?_
            try simp only [Act.put, List.setIfInBounds_toArray, List.set_cons_zero, List.set_cons_succ]
            refine wpAnyH_take (i := 22) (oi := ⟨some 74, .pick (.tmp 65) (.tmp 73) (.const (.bool false)), _, _, _, some (1, false)⟩) (v := undef) rfl (by kernel_rfl) (by kernel_rfl) (by kernel_rfl) (fun _ _ _ h => h) (Or.inr ⟨by rfl, rfl⟩) hHeld ?_
            try simp only [Act.put, List.setIfInBounds_toArray, List.set_cons_zero, List.set_cons_succ]
            refine wpAnyH_take (i := 23) (oi := ⟨some 75, .pick (.tmp 53) (.const (.bool true)) (.tmp 74), _, _, _, none⟩) (v := ?_) rfl (by kernel_rfl) (by kernel_rfl) (by kernel_rfl) (fun _ _ _ h => h) (Or.inl ⟨by rfl, ?_⟩) hHeld ?_
            rotate_left
            · intro W _; go_simp; try with_reducible rfl
            try simp only [Act.put, List.setIfInBounds_toArray, List.set_cons_zero, List.set_cons_succ]
            refine wpAnyH_ready (rs := [24]) (by kernel_rfl) (by simp) ?_
            refine AllReadyH.cons (o := ⟨some 12, .assign (.tmp 75), _, _, _, none⟩) rfl (fun K hK => ?_) AllReadyH.nil
            refine step_ofR (by rfl) ?_
            go_simp
            refine hK.out _ _ (hHeld) (fun hHeld => ?_)
            clear hK K
            try simp only [Act.put, List.setIfInBounds_toArray, List.set_cons_zero, List.set_cons_succ]
            refine wpAnyH_done (by kernel_rfl) ?_ _
            -- END rightA
            have hBd := Bt hBr hHeld
            clear hHeld
            go_wp2_with fail
            go_roundw
            case rel => exact ⟨k + 1, by omega, by go_num, by rw [HT1.out], hBd⟩
            case measure => simp [intOf]; omega
          | false =>
            cases hpb : (y.path == p) with
            | false =>
              have E1 := Lib.hid (EP.out false hpb)
              have HT1 : Hid (thereB (l.take (k + 1)) p mb mv = false) := Lib.hid (by rw [HST.out, hpb]; rfl)
              go_wp2_with fail
              -- REGION rightB 14
              refine wp_region_held_drew (S := fun W => Below wr.heap.size wr W) (by kernel_rfl) (Below.refl _ wr).drew (fun hHeld => ?_)
              refine wpAnyH_take (i := 0) (oi := ⟨some 52, .move (.tmp 12), _, _, _, none⟩) (v := ?_) rfl (by kernel_rfl) (by kernel_rfl) (by kernel_rfl) (fun _ _ _ h => h) (Or.inl ⟨by rfl, ?_⟩) hHeld ?_
              rotate_left
              · intro W _; go_simp; try with_reducible rfl
              try simp only [Act.put, List.setIfInBounds_toArray, List.set_cons_zero, List.set_cons_succ]
              refine wpAnyH_take (i := 1) (oi := ⟨some 53, .move (.tmp 52), _, _, _, none⟩) (v := ?_) rfl (by kernel_rfl) (by kernel_rfl) (by kernel_rfl) (fun _ _ _ h => h) (Or.inl ⟨by rfl, ?_⟩) hHeld ?_
              rotate_left
              · intro W _; go_simp; try with_reducible rfl
              try simp only [Act.put, List.setIfInBounds_toArray, List.set_cons_zero, List.set_cons_succ]
              refine wpAnyH_take (i := 2) (oi := ⟨some 54, .move (.tmp 1), _, _, _, some (1, false)⟩) (v := ?_) rfl (by kernel_rfl) (by kernel_rfl) (by kernel_rfl) (fun _ _ _ h => h) (Or.inl ⟨by rfl, ?_⟩) hHeld ?_
              rotate_left
              · intro W _; go_simp; try with_reducible rfl
              try simp only [Act.put, List.setIfInBounds_toArray, List.set_cons_zero, List.set_cons_succ]
              refine wpAnyH_take (i := 3) (oi := ⟨some 55, .move (.tmp 13), _, _, _, some (1, false)⟩) (v := ?_) rfl (by kernel_rfl) (by kernel_rfl) (by kernel_rfl) (fun _ _ _ h => h) (Or.inl ⟨by rfl, ?_⟩) hHeld ?_
              rotate_left
              · intro W _; go_simp; try with_reducible rfl
              try simp only [Act.put, List.setIfInBounds_toArray, List.set_cons_zero, List.set_cons_succ]
              refine wpAnyH_take (i := 4) (oi := ⟨some 56, .indexAddr 22 (.tmp 54) (.tmp 55), _, _, _, some (1, false)⟩) (v := ?_) rfl (by kernel_rfl) (by kernel_rfl) (by kernel_rfl) (fun _ _ _ h => h) (Or.inl ⟨by rfl, ?_⟩) hHeld ?_
              rotate_left
              · intro W _; go_simp; try with_reducible rfl
              try simp only [Act.put, List.setIfInBounds_toArray, List.set_cons_zero, List.set_cons_succ]
              refine wpAnyH_take (i := 5) (oi := ⟨some 57, .fieldAddr 37 (.tmp 56) 0, _, _, _, some (1, false)⟩) (v := ?_) rfl (by kernel_rfl) (by kernel_rfl) (by kernel_rfl) (fun _ _ _ h => h) (Or.inl ⟨by rfl, ?_⟩) hHeld ?_
              rotate_left
              · intro W _; go_simp; try with_reducible rfl
              try simp only [Act.put, List.setIfInBounds_toArray, List.set_cons_zero, List.set_cons_succ]
              refine wpAnyH_take (i := 6) (oi := ⟨some 58, .load 24 (.tmp 57), _, _, _, some (1, false)⟩) (v := .agg (bs y.path).toArray) rfl (by kernel_rfl) (by kernel_rfl) (by kernel_rfl) (fun _ _ _ h => h) (yieldsIf_load_mid (by rfl) _ _ rfl bb (off + k * 64) rfl (bs y.path) _ (fun W h => (range_below h hpr.out)) Tryz.underlying24 rfl IP.out) hHeld ?_
              try simp only [Act.put, List.setIfInBounds_toArray, List.set_cons_zero, List.set_cons_succ]
              refine wpAnyH_take (i := 7) (oi := ⟨some 59, .load 24 (.tmp 5), _, _, _, some (1, false)⟩) (v := .agg (bs p).toArray) rfl (by kernel_rfl) (by kernel_rfl) (by kernel_rfl) (fun _ _ _ h => h) (yieldsIf_load_mid (by rfl) _ _ rfl w.heap.size 0 rfl (bs p) _ (fun W h => (HG.out.below h).p.allR) Tryz.underlying24 rfl H5.out) hHeld ?_
              try simp only [Act.put, List.setIfInBounds_toArray, List.set_cons_zero, List.set_cons_succ]
              refine wpAnyH_take (i := 8) (oi := ⟨some 60, .binOp .eql 24 (.tmp 58) (.tmp 59) 24, _, _, _, some (1, false)⟩) (v := .bool false) rfl (by kernel_rfl) (by kernel_rfl) (by kernel_rfl) (fun _ _ _ h => h) (yieldsIf_eqH (by rfl) .eql 24 24 (.tmp 58) (.tmp 59) rfl _ _ rfl rfl guardH _ E1.out) hHeld ?_
              try simp only [Act.put, List.setIfInBounds_toArray, List.set_cons_zero, List.set_cons_succ]
              refine wpAnyH_take (i := 9) (oi := ⟨some 61, .move (.tmp 60), _, _, _, some (1, false)⟩) (v := ?_) rfl (by kernel_rfl) (by kernel_rfl) (by kernel_rfl) (fun _ _ _ h => h) (Or.inl ⟨by rfl, ?_⟩) hHeld ?_
              rotate_left
              · intro W _; go_simp; try with_reducible rfl
              try simp only [Act.put, List.setIfInBounds_toArray, List.set_cons_zero, List.set_cons_succ]
              refine wpAnyH_take (i := 10) (oi := ⟨some 62, .fieldAddr 26 (.tmp 7) 0, _, _, _, some (9, true)⟩) (v := undef) rfl (by kernel_rfl) (by kernel_rfl) (by kernel_rfl) (fun _ _ _ h => h) (Or.inr ⟨by rfl, rfl⟩) hHeld ?_
              try simp only [Act.put, List.setIfInBounds_toArray, List.set_cons_zero, List.set_cons_succ]
              refine wpAnyH_take (i := 11) (oi := ⟨some 63, .load 4 (.tmp 62), _, _, _, some (9, true)⟩) (v := undef) rfl (by kernel_rfl) (by kernel_rfl) (by kernel_rfl) (fun _ _ _ h => h) (Or.inr ⟨by rfl, rfl⟩) hHeld ?_
              try simp only [Act.put, List.setIfInBounds_toArray, List.set_cons_zero, List.set_cons_succ]
              refine wpAnyH_take (i := 12) (oi := ⟨some 64, .pick (.tmp 61) (.tmp 63) (.const (.bool false)), _, _, _, some (1, false)⟩) (v := ?_) rfl (by kernel_rfl) (by kernel_rfl) (by kernel_rfl) (fun _ _ _ h => h) (Or.inl ⟨by rfl, ?_⟩) hHeld ?_
              rotate_left
              · intro W _; go_simp; try with_reducible rfl
              try simp only [Act.put, List.setIfInBounds_toArray, List.set_cons_zero, List.set_cons_succ]
              refine wpAnyH_take (i := 13) (oi := ⟨some 65, .move (.tmp 64), _, _, _, some (1, false)⟩) (v := ?_) rfl (by kernel_rfl) (by kernel_rfl) (by kernel_rfl) (fun _ _ _ h => h) (Or.inl ⟨by rfl, ?_⟩) hHeld ?_
              rotate_left
              · intro W _; go_simp; try with_reducible rfl
              try simp only [Act.put, List.setIfInBounds_toArray, List.set_cons_zero, List.set_cons_succ]
              refine wpAnyH_take (i := 14) (oi := ⟨some 66, .move (.tmp 1), _, _, _, some (13, true)⟩) (v := undef) rfl (by kernel_rfl) (by kernel_rfl) (by kernel_rfl) (fun _ _ _ h => h) (Or.inr ⟨by rfl, rfl⟩) hHeld ?_
              try simp only [Act.put, List.setIfInBounds_toArray, List.set_cons_zero, List.set_cons_succ]
              refine wpAnyH_take (i := 15) (oi := ⟨some 67, .move (.tmp 13), _, _, _, some (13, true)⟩) (v := undef) rfl (by kernel_rfl) (by kernel_rfl) (by kernel_rfl) (fun _ _ _ h => h) (Or.inr ⟨by rfl, rfl⟩) hHeld ?_
              try simp only [Act.put, List.setIfInBounds_toArray, List.set_cons_zero, List.set_cons_succ]
              refine wpAnyH_take (i := 16) (oi := ⟨some 68, .indexAddr 22 (.tmp 66) (.tmp 67), _, _, _, some (13, true)⟩) (v := undef) rfl (by kernel_rfl) (by kernel_rfl) (by kernel_rfl) (fun _ _ _ h => h) (Or.inr ⟨by rfl, rfl⟩) hHeld ?_
              try simp only [Act.put, List.setIfInBounds_toArray, List.set_cons_zero, List.set_cons_succ]
              refine wpAnyH_take (i := 17) (oi := ⟨some 69, .fieldAddr 37 (.tmp 68) 1, _, _, _, some (13, true)⟩) (v := undef) rfl (by kernel_rfl) (by kernel_rfl) (by kernel_rfl) (fun _ _ _ h => h) (Or.inr ⟨by rfl, rfl⟩) hHeld ?_
              try simp only [Act.put, List.setIfInBounds_toArray, List.set_cons_zero, List.set_cons_succ]
              refine wpAnyH_take (i := 18) (oi := ⟨some 70, .load 24 (.tmp 69), _, _, _, some (13, true)⟩) (v := undef) rfl (by kernel_rfl) (by kernel_rfl) (by kernel_rfl) (fun _ _ _ h => h) (Or.inr ⟨by rfl, rfl⟩) hHeld ?_
              try simp only [Act.put, List.setIfInBounds_toArray, List.set_cons_zero, List.set_cons_succ]
              refine wpAnyH_take (i := 19) (oi := ⟨some 71, .fieldAddr 26 (.tmp 7) 1, _, _, _, some (13, true)⟩) (v := undef) rfl (by kernel_rfl) (by kernel_rfl) (by kernel_rfl) (fun _ _ _ h => h) (Or.inr ⟨by rfl, rfl⟩) hHeld ?_
              try simp only [Act.put, List.setIfInBounds_toArray, List.set_cons_zero, List.set_cons_succ]
              refine wpAnyH_take (i := 20) (oi := ⟨some 72, .load 24 (.tmp 71), _, _, _, some (13, true)⟩) (v := undef) rfl (by kernel_rfl) (by kernel_rfl) (by kernel_rfl) (fun _ _ _ h => h) (Or.inr ⟨by rfl, rfl⟩) hHeld ?_
              try simp only [Act.put, List.setIfInBounds_toArray, List.set_cons_zero, List.set_cons_succ]
              refine wpAnyH_take (i := 21) (oi := ⟨some 73, .binOp .eql 24 (.tmp 70) (.tmp 72) 24, _, _, _, some (13, true)⟩) (v := undef) rfl (by kernel_rfl) (by kernel_rfl) (by kernel_rfl) (fun _ _ _ h => h) (Or.inr ⟨by rfl, rfl⟩) hHeld ?_
              try simp only [Act.put, List.setIfInBounds_toArray, List.set_cons_zero, List.set_cons_succ]
              refine wpAnyH_take (i := 22) (oi := ⟨some 74, .pick (.tmp 65) (.tmp 73) (.const (.bool false)), _, _, _, some (1, false)⟩) (v := ?_) rfl (by kernel_rfl) (by kernel_rfl) (by kernel_rfl) (fun _ _ _ h => h) (Or.inl ⟨by rfl, ?_⟩) hHeld ?_
              rotate_left
              · intro W _; go_simp; try with_reducible rfl
              try simp only [Act.put, List.setIfInBounds_toArray, List.set_cons_zero, List.set_cons_succ]
              refine wpAnyH_take (i := 23) (oi := ⟨some 75, .pick (.tmp 53) (.const (.bool true)) (.tmp 74), _, _, _, none⟩) (v := ?_) rfl (by kernel_rfl) (by kernel_rfl) (by kernel_rfl) (fun _ _ _ h => h) (Or.inl ⟨by rfl, ?_⟩) hHeld ?_
              rotate_left
              · intro W _; go_simp; try with_reducible rfl
              try simp only [Act.put, List.setIfInBounds_toArray, List.set_cons_zero, List.set_cons_succ]
              refine wpAnyH_ready (rs := [24]) (by kernel_rfl) (by simp) ?_
              refine AllReadyH.cons (o := ⟨some 12, .assign (.tmp 75), _, _, _, none⟩) rfl (fun K hK => ?_) AllReadyH.nil
              refine step_ofR (by rfl) ?_
              go_simp
              refine hK.out _ _ (hHeld) (fun hHeld => ?_)
              clear hK K
              try simp only [Act.put, List.setIfInBounds_toArray, List.set_cons_zero, List.set_cons_succ]
              refine wpAnyH_done (by kernel_rfl) ?_ _
              -- END rightB
              have hBd := Bt hBr hHeld
              clear hHeld
              go_wp2_with fail
              go_roundw
              case rel => exact ⟨k + 1, by omega, by go_num, by rw [HT1.out], hBd⟩
              case measure => simp [intOf]; omega
            | true =>
              have E1 := Lib.hid (EP.out true hpb)
              cases mb with
              | false =>
                have HT1 : Hid (thereB (l.take (k + 1)) p false mv = false) := Lib.hid (by rw [HST.out, hpb]; rfl)
                go_wp2_with fail
                -- REGION rightC 16
                refine wp_region_held_drew (S := fun W => Below wr.heap.size wr W) (by kernel_rfl) (Below.refl _ wr).drew (fun hHeld => ?_)
                refine wpAnyH_take (i := 0) (oi := ⟨some 52, .move (.tmp 12), _, _, _, none⟩) (v := ?_) rfl (by kernel_rfl) (by kernel_rfl) (by kernel_rfl) (fun _ _ _ h => h) (Or.inl ⟨by rfl, ?_⟩) hHeld ?_
                rotate_left
                · intro W _; go_simp; try with_reducible rfl
                try simp only [Act.put, List.setIfInBounds_toArray, List.set_cons_zero, List.set_cons_succ]
                refine wpAnyH_take (i := 1) (oi := ⟨some 53, .move (.tmp 52), _, _, _, none⟩) (v := ?_) rfl (by kernel_rfl) (by kernel_rfl) (by kernel_rfl) (fun _ _ _ h => h) (Or.inl ⟨by rfl, ?_⟩) hHeld ?_
                rotate_left
                · intro W _; go_simp; try with_reducible rfl
                try simp only [Act.put, List.setIfInBounds_toArray, List.set_cons_zero, List.set_cons_succ]
                refine wpAnyH_take (i := 2) (oi := ⟨some 54, .move (.tmp 1), _, _, _, some (1, false)⟩) (v := ?_) rfl (by kernel_rfl) (by kernel_rfl) (by kernel_rfl) (fun _ _ _ h => h) (Or.inl ⟨by rfl, ?_⟩) hHeld ?_
                rotate_left
                · intro W _; go_simp; try with_reducible rfl
                try simp only [Act.put, List.setIfInBounds_toArray, List.set_cons_zero, List.set_cons_succ]
                refine wpAnyH_take (i := 3) (oi := ⟨some 55, .move (.tmp 13), _, _, _, some (1, false)⟩) (v := ?_) rfl (by kernel_rfl) (by kernel_rfl) (by kernel_rfl) (fun _ _ _ h => h) (Or.inl ⟨by rfl, ?_⟩) hHeld ?_
                rotate_left
                · intro W _; go_simp; try with_reducible rfl
                try simp only [Act.put, List.setIfInBounds_toArray, List.set_cons_zero, List.set_cons_succ]
                refine wpAnyH_take (i := 4) (oi := ⟨some 56, .indexAddr 22 (.tmp 54) (.tmp 55), _, _, _, some (1, false)⟩) (v := ?_) rfl (by kernel_rfl) (by kernel_rfl) (by kernel_rfl) (fun _ _ _ h => h) (Or.inl ⟨by rfl, ?_⟩) hHeld ?_
                rotate_left
                · intro W _; go_simp; try with_reducible rfl
                try simp only [Act.put, List.setIfInBounds_toArray, List.set_cons_zero, List.set_cons_succ]
                refine wpAnyH_take (i := 5) (oi := ⟨some 57, .fieldAddr 37 (.tmp 56) 0, _, _, _, some (1, false)⟩) (v := ?_) rfl (by kernel_rfl) (by kernel_rfl) (by kernel_rfl) (fun _ _ _ h => h) (Or.inl ⟨by rfl, ?_⟩) hHeld ?_
                rotate_left
                · intro W _; go_simp; try with_reducible rfl
                try simp only [Act.put, List.setIfInBounds_toArray, List.set_cons_zero, List.set_cons_succ]
                refine wpAnyH_take (i := 6) (oi := ⟨some 58, .load 24 (.tmp 57), _, _, _, some (1, false)⟩) (v := .agg (bs y.path).toArray) rfl (by kernel_rfl) (by kernel_rfl) (by kernel_rfl) (fun _ _ _ h => h) (yieldsIf_load_mid (by rfl) _ _ rfl bb (off + k * 64) rfl (bs y.path) _ (fun W h => (range_below h hpr.out)) Tryz.underlying24 rfl IP.out) hHeld ?_
                try simp only [Act.put, List.setIfInBounds_toArray, List.set_cons_zero, List.set_cons_succ]
                refine wpAnyH_take (i := 7) (oi := ⟨some 59, .load 24 (.tmp 5), _, _, _, some (1, false)⟩) (v := .agg (bs p).toArray) rfl (by kernel_rfl) (by kernel_rfl) (by kernel_rfl) (fun _ _ _ h => h) (yieldsIf_load_mid (by rfl) _ _ rfl w.heap.size 0 rfl (bs p) _ (fun W h => (HG.out.below h).p.allR) Tryz.underlying24 rfl H5.out) hHeld ?_
                try simp only [Act.put, List.setIfInBounds_toArray, List.set_cons_zero, List.set_cons_succ]
                refine wpAnyH_take (i := 8) (oi := ⟨some 60, .binOp .eql 24 (.tmp 58) (.tmp 59) 24, _, _, _, some (1, false)⟩) (v := .bool true) rfl (by kernel_rfl) (by kernel_rfl) (by kernel_rfl) (fun _ _ _ h => h) (yieldsIf_eqH (by rfl) .eql 24 24 (.tmp 58) (.tmp 59) rfl _ _ rfl rfl guardH _ E1.out) hHeld ?_
                try simp only [Act.put, List.setIfInBounds_toArray, List.set_cons_zero, List.set_cons_succ]
                refine wpAnyH_take (i := 9) (oi := ⟨some 61, .move (.tmp 60), _, _, _, some (1, false)⟩) (v := ?_) rfl (by kernel_rfl) (by kernel_rfl) (by kernel_rfl) (fun _ _ _ h => h) (Or.inl ⟨by rfl, ?_⟩) hHeld ?_
                rotate_left
                · intro W _; go_simp; try with_reducible rfl
                try simp only [Act.put, List.setIfInBounds_toArray, List.set_cons_zero, List.set_cons_succ]
                refine wpAnyH_take (i := 10) (oi := ⟨some 62, .fieldAddr 26 (.tmp 7) 0, _, _, _, some (9, true)⟩) (v := ?_) rfl (by kernel_rfl) (by kernel_rfl) (by kernel_rfl) (fun _ _ _ h => h) (Or.inl ⟨by rfl, ?_⟩) hHeld ?_
                rotate_left
                · intro W _; go_simp; try with_reducible rfl
                try simp only [Act.put, List.setIfInBounds_toArray, List.set_cons_zero, List.set_cons_succ]
                refine wpAnyH_take (i := 11) (oi := ⟨some 63, .load 4 (.tmp 62), _, _, _, some (9, true)⟩) (v := ?_) rfl (by kernel_rfl) (by kernel_rfl) (by kernel_rfl) (fun _ _ _ h => h) (Or.inl ⟨by rfl, ?_⟩) hHeld ?_
                rotate_left
                · intro W h; have h0 := (HG.out.below h).c.cell HC0.out; go_simp; try with_reducible rfl
                try simp only [Act.put, List.setIfInBounds_toArray, List.set_cons_zero, List.set_cons_succ]
                refine wpAnyH_take (i := 12) (oi := ⟨some 64, .pick (.tmp 61) (.tmp 63) (.const (.bool false)), _, _, _, some (1, false)⟩) (v := ?_) rfl (by kernel_rfl) (by kernel_rfl) (by kernel_rfl) (fun _ _ _ h => h) (Or.inl ⟨by rfl, ?_⟩) hHeld ?_
                rotate_left
                · intro W _; go_simp; try with_reducible rfl
                try simp only [Act.put, List.setIfInBounds_toArray, List.set_cons_zero, List.set_cons_succ]
                refine wpAnyH_take (i := 13) (oi := ⟨some 65, .move (.tmp 64), _, _, _, some (1, false)⟩) (v := ?_) rfl (by kernel_rfl) (by kernel_rfl) (by kernel_rfl) (fun _ _ _ h => h) (Or.inl ⟨by rfl, ?_⟩) hHeld ?_
                rotate_left
                · intro W _; go_simp; try with_reducible rfl
                try simp only [Act.put, List.setIfInBounds_toArray, List.set_cons_zero, List.set_cons_succ]
                refine wpAnyH_take (i := 14) (oi := ⟨some 66, .move (.tmp 1), _, _, _, some (13, true)⟩) (v := undef) rfl (by kernel_rfl) (by kernel_rfl) (by kernel_rfl) (fun _ _ _ h => h) (Or.inr ⟨by rfl, rfl⟩) hHeld ?_
                try simp only [Act.put, List.setIfInBounds_toArray, List.set_cons_zero, List.set_cons_succ]
                refine wpAnyH_take (i := 15) (oi := ⟨some 67, .move (.tmp 13), _, _, _, some (13, true)⟩) (v := undef) rfl (by kernel_rfl) (by kernel_rfl) (by kernel_rfl) (fun _ _ _ h => h) (Or.inr ⟨by rfl, rfl⟩) hHeld ?_
                try simp only [Act.put, List.setIfInBounds_toArray, List.set_cons_zero, List.set_cons_succ]
                refine wpAnyH_take (i := 16) (oi := ⟨some 68, .indexAddr 22 (.tmp 66) (.tmp 67), _, _, _, some (13, true)⟩) (v := undef) rfl (by kernel_rfl) (by kernel_rfl) (by kernel_rfl) (fun _ _ _ h => h) (Or.inr ⟨by rfl, rfl⟩) hHeld ?_
                try simp only [Act.put, List.setIfInBounds_toArray, List.set_cons_zero, List.set_cons_succ]
                refine wpAnyH_take (i := 17) (oi := ⟨some 69, .fieldAddr 37 (.tmp 68) 1, _, _, _, some (13, true)⟩) (v := undef) rfl (by kernel_rfl) (by kernel_rfl) (by kernel_rfl) (fun _ _ _ h => h) (Or.inr ⟨by rfl, rfl⟩) hHeld ?_
                try simp only [Act.put, List.setIfInBounds_toArray, List.set_cons_zero, List.set_cons_succ]
                refine wpAnyH_take (i := 18) (oi := ⟨some 70, .load 24 (.tmp 69), _, _, _, some (13, true)⟩) (v := undef) rfl (by kernel_rfl) (by kernel_rfl) (by kernel_rfl) (fun _ _ _ h => h) (Or.inr ⟨by rfl, rfl⟩) hHeld ?_
                try simp only [Act.put, List.setIfInBounds_toArray, List.set_cons_zero, List.set_cons_succ]
                refine wpAnyH_take (i := 19) (oi := ⟨some 71, .fieldAddr 26 (.tmp 7) 1, _, _, _, some (13, true)⟩) (v := undef) rfl (by kernel_rfl) (by kernel_rfl) (by kernel_rfl) (fun _ _ _ h => h) (Or.inr ⟨by rfl, rfl⟩) hHeld ?_
                try simp only [Act.put, List.setIfInBounds_toArray, List.set_cons_zero, List.set_cons_succ]
                refine wpAnyH_take (i := 20) (oi := ⟨some 72, .load 24 (.tmp 71), _, _, _, some (13, true)⟩) (v := undef) rfl (by kernel_rfl) (by kernel_rfl) (by kernel_rfl) (fun _ _ _ h => h) (Or.inr ⟨by rfl, rfl⟩) hHeld ?_
                try simp only [Act.put, List.setIfInBounds_toArray, List.set_cons_zero, List.set_cons_succ]
                refine wpAnyH_take (i := 21) (oi := ⟨some 73, .binOp .eql 24 (.tmp 70) (.tmp 72) 24, _, _, _, some (13, true)⟩) (v := undef) rfl (by kernel_rfl) (by kernel_rfl) (by kernel_rfl) (fun _ _ _ h => h) (Or.inr ⟨by rfl, rfl⟩) hHeld ?_
                try simp only [Act.put, List.setIfInBounds_toArray, List.set_cons_zero, List.set_cons_succ]
                refine wpAnyH_take (i := 22) (oi := ⟨some 74, .pick (.tmp 65) (.tmp 73) (.const (.bool false)), _, _, _, some (1, false)⟩) (v := ?_) rfl (by kernel_rfl) (by kernel_rfl) (by kernel_rfl) (fun _ _ _ h => h) (Or.inl ⟨by rfl, ?_⟩) hHeld ?_
                rotate_left
                · intro W _; go_simp; try with_reducible rfl
                try simp only [Act.put, List.setIfInBounds_toArray, List.set_cons_zero, List.set_cons_succ]
                refine wpAnyH_take (i := 23) (oi := ⟨some 75, .pick (.tmp 53) (.const (.bool true)) (.tmp 74), _, _, _, none⟩) (v := ?_) rfl (by kernel_rfl) (by kernel_rfl) (by kernel_rfl) (fun _ _ _ h => h) (Or.inl ⟨by rfl, ?_⟩) hHeld ?_
                rotate_left
                · intro W _; go_simp; try with_reducible rfl
                try simp only [Act.put, List.setIfInBounds_toArray, List.set_cons_zero, List.set_cons_succ]
                refine wpAnyH_ready (rs := [24]) (by kernel_rfl) (by simp) ?_
                refine AllReadyH.cons (o := ⟨some 12, .assign (.tmp 75), _, _, _, none⟩) rfl (fun K hK => ?_) AllReadyH.nil
                refine step_ofR (by rfl) ?_
                go_simp
                refine hK.out _ _ (hHeld) (fun hHeld => ?_)
                clear hK K
                try simp only [Act.put, List.setIfInBounds_toArray, List.set_cons_zero, List.set_cons_succ]
                refine wpAnyH_done (by kernel_rfl) ?_ _
                -- END rightC
                have hBd := Bt hBr hHeld
                clear hHeld
                go_wp2_with fail
                go_roundw
                case rel => exact ⟨k + 1, by omega, by go_num, by rw [HT1.out], hBd⟩
                case measure => simp [intOf]; omega
              | true =>
                cases hvb : (y.val == mv) with
                | false =>
                  have E2 := Lib.hid (EV.out false hvb)
                  have HT1 : Hid (thereB (l.take (k + 1)) p true mv = false) := Lib.hid (by rw [HST.out, hpb, hvb]; rfl)
                  go_wp2_with fail
                  -- REGION rightD 18
                  refine wp_region_held_drew (S := fun W => Below wr.heap.size wr W) (by kernel_rfl) (Below.refl _ wr).drew (fun hHeld => ?_)
                  refine wpAnyH_take (i := 0) (oi := ⟨some 52, .move (.tmp 12), _, _, _, none⟩) (v := ?_) rfl (by kernel_rfl) (by kernel_rfl) (by kernel_rfl) (fun _ _ _ h => h) (Or.inl ⟨by rfl, ?_⟩) hHeld ?_
                  rotate_left
                  · intro W _; go_simp; try with_reducible rfl
                  try simp only [Act.put, List.setIfInBounds_toArray, List.set_cons_zero, List.set_cons_succ]
                  refine wpAnyH_take (i := 1) (oi := ⟨some 53, .move (.tmp 52), _, _, _, none⟩) (v := ?_) rfl (by kernel_rfl) (by kernel_rfl) (by kernel_rfl) (fun _ _ _ h => h) (Or.inl ⟨by rfl, ?_⟩) hHeld ?_
                  rotate_left
                  · intro W _; go_simp; try with_reducible rfl
                  try simp only [Act.put, List.setIfInBounds_toArray, List.set_cons_zero, List.set_cons_succ]
                  refine wpAnyH_take (i := 2) (oi := ⟨some 54, .move (.tmp 1), _, _, _, some (1, false)⟩) (v := ?_) rfl (by kernel_rfl) (by kernel_rfl) (by kernel_rfl) (fun _ _ _ h => h) (Or.inl ⟨by rfl, ?_⟩) hHeld ?_
                  rotate_left
                  · intro W _; go_simp; try with_reducible rfl
                  try simp only [Act.put, List.setIfInBounds_toArray, List.set_cons_zero, List.set_cons_succ]
                  refine wpAnyH_take (i := 3) (oi := ⟨some 55, .move (.tmp 13), _, _, _, some (1, false)⟩) (v := ?_) rfl (by kernel_rfl) (by kernel_rfl) (by kernel_rfl) (fun _ _ _ h => h) (Or.inl ⟨by rfl, ?_⟩) hHeld ?_
                  rotate_left
                  · intro W _; go_simp; try with_reducible rfl
                  try simp only [Act.put, List.setIfInBounds_toArray, List.set_cons_zero, List.set_cons_succ]
                  refine wpAnyH_take (i := 4) (oi := ⟨some 56, .indexAddr 22 (.tmp 54) (.tmp 55), _, _, _, some (1, false)⟩) (v := ?_) rfl (by kernel_rfl) (by kernel_rfl) (by kernel_rfl) (fun _ _ _ h => h) (Or.inl ⟨by rfl, ?_⟩) hHeld ?_
                  rotate_left
                  · intro W _; go_simp; try with_reducible rfl
                  try simp only [Act.put, List.setIfInBounds_toArray, List.set_cons_zero, List.set_cons_succ]
                  refine wpAnyH_take (i := 5) (oi := ⟨some 57, .fieldAddr 37 (.tmp 56) 0, _, _, _, some (1, false)⟩) (v := ?_) rfl (by kernel_rfl) (by kernel_rfl) (by kernel_rfl) (fun _ _ _ h => h) (Or.inl ⟨by rfl, ?_⟩) hHeld ?_
                  rotate_left
                  · intro W _; go_simp; try with_reducible rfl
                  try simp only [Act.put, List.setIfInBounds_toArray, List.set_cons_zero, List.set_cons_succ]
                  refine wpAnyH_take (i := 6) (oi := ⟨some 58, .load 24 (.tmp 57), _, _, _, some (1, false)⟩) (v := .agg (bs y.path).toArray) rfl (by kernel_rfl) (by kernel_rfl) (by kernel_rfl) (fun _ _ _ h => h) (yieldsIf_load_mid (by rfl) _ _ rfl bb (off + k * 64) rfl (bs y.path) _ (fun W h => (range_below h hpr.out)) Tryz.underlying24 rfl IP.out) hHeld ?_
                  try simp only [Act.put, List.setIfInBounds_toArray, List.set_cons_zero, List.set_cons_succ]
                  refine wpAnyH_take (i := 7) (oi := ⟨some 59, .load 24 (.tmp 5), _, _, _, some (1, false)⟩) (v := .agg (bs p).toArray) rfl (by kernel_rfl) (by kernel_rfl) (by kernel_rfl) (fun _ _ _ h => h) (yieldsIf_load_mid (by rfl) _ _ rfl w.heap.size 0 rfl (bs p) _ (fun W h => (HG.out.below h).p.allR) Tryz.underlying24 rfl H5.out) hHeld ?_
                  try simp only [Act.put, List.setIfInBounds_toArray, List.set_cons_zero, List.set_cons_succ]
                  refine wpAnyH_take (i := 8) (oi := ⟨some 60, .binOp .eql 24 (.tmp 58) (.tmp 59) 24, _, _, _, some (1, false)⟩) (v := .bool true) rfl (by kernel_rfl) (by kernel_rfl) (by kernel_rfl) (fun _ _ _ h => h) (yieldsIf_eqH (by rfl) .eql 24 24 (.tmp 58) (.tmp 59) rfl _ _ rfl rfl guardH _ E1.out) hHeld ?_
                  try simp only [Act.put, List.setIfInBounds_toArray, List.set_cons_zero, List.set_cons_succ]
                  refine wpAnyH_take (i := 9) (oi := ⟨some 61, .move (.tmp 60), _, _, _, some (1, false)⟩) (v := ?_) rfl (by kernel_rfl) (by kernel_rfl) (by kernel_rfl) (fun _ _ _ h => h) (Or.inl ⟨by rfl, ?_⟩) hHeld ?_
                  rotate_left
                  · intro W _; go_simp; try with_reducible rfl
                  try simp only [Act.put, List.setIfInBounds_toArray, List.set_cons_zero, List.set_cons_succ]
                  refine wpAnyH_take (i := 10) (oi := ⟨some 62, .fieldAddr 26 (.tmp 7) 0, _, _, _, some (9, true)⟩) (v := ?_) rfl (by kernel_rfl) (by kernel_rfl) (by kernel_rfl) (fun _ _ _ h => h) (Or.inl ⟨by rfl, ?_⟩) hHeld ?_
                  rotate_left
                  · intro W _; go_simp; try with_reducible rfl
                  try simp only [Act.put, List.setIfInBounds_toArray, List.set_cons_zero, List.set_cons_succ]
                  refine wpAnyH_take (i := 11) (oi := ⟨some 63, .load 4 (.tmp 62), _, _, _, some (9, true)⟩) (v := ?_) rfl (by kernel_rfl) (by kernel_rfl) (by kernel_rfl) (fun _ _ _ h => h) (Or.inl ⟨by rfl, ?_⟩) hHeld ?_
                  rotate_left
                  · intro W h; have h0 := (HG.out.below h).c.cell HC0.out; go_simp; try with_reducible rfl
                  try simp only [Act.put, List.setIfInBounds_toArray, List.set_cons_zero, List.set_cons_succ]
                  refine wpAnyH_take (i := 12) (oi := ⟨some 64, .pick (.tmp 61) (.tmp 63) (.const (.bool false)), _, _, _, some (1, false)⟩) (v := ?_) rfl (by kernel_rfl) (by kernel_rfl) (by kernel_rfl) (fun _ _ _ h => h) (Or.inl ⟨by rfl, ?_⟩) hHeld ?_
                  rotate_left
                  · intro W _; go_simp; try with_reducible rfl
                  try simp only [Act.put, List.setIfInBounds_toArray, List.set_cons_zero, List.set_cons_succ]
                  refine wpAnyH_take (i := 13) (oi := ⟨some 65, .move (.tmp 64), _, _, _, some (1, false)⟩) (v := ?_) rfl (by kernel_rfl) (by kernel_rfl) (by kernel_rfl) (fun _ _ _ h => h) (Or.inl ⟨by rfl, ?_⟩) hHeld ?_
                  rotate_left
                  · intro W _; go_simp; try with_reducible rfl
                  try simp only [Act.put, List.setIfInBounds_toArray, List.set_cons_zero, List.set_cons_succ]
                  refine wpAnyH_take (i := 14) (oi := ⟨some 66, .move (.tmp 1), _, _, _, some (13, true)⟩) (v := ?_) rfl (by kernel_rfl) (by kernel_rfl) (by kernel_rfl) (fun _ _ _ h => h) (Or.inl ⟨by rfl, ?_⟩) hHeld ?_
                  rotate_left
                  · intro W _; go_simp; try with_reducible rfl
                  try simp only [Act.put, List.setIfInBounds_toArray, List.set_cons_zero, List.set_cons_succ]
                  refine wpAnyH_take (i := 15) (oi := ⟨some 67, .move (.tmp 13), _, _, _, some (13, true)⟩) (v := ?_) rfl (by kernel_rfl) (by kernel_rfl) (by kernel_rfl) (fun _ _ _ h => h) (Or.inl ⟨by rfl, ?_⟩) hHeld ?_
                  rotate_left
                  · intro W _; go_simp; try with_reducible rfl
                  try simp only [Act.put, List.setIfInBounds_toArray, List.set_cons_zero, List.set_cons_succ]
                  refine wpAnyH_take (i := 16) (oi := ⟨some 68, .indexAddr 22 (.tmp 66) (.tmp 67), _, _, _, some (13, true)⟩) (v := ?_) rfl (by kernel_rfl) (by kernel_rfl) (by kernel_rfl) (fun _ _ _ h => h) (Or.inl ⟨by rfl, ?_⟩) hHeld ?_
                  rotate_left
                  · intro W _; go_simp; try with_reducible rfl
                  try simp only [Act.put, List.setIfInBounds_toArray, List.set_cons_zero, List.set_cons_succ]
                  refine wpAnyH_take (i := 17) (oi := ⟨some 69, .fieldAddr 37 (.tmp 68) 1, _, _, _, some (13, true)⟩) (v := ?_) rfl (by kernel_rfl) (by kernel_rfl) (by kernel_rfl) (fun _ _ _ h => h) (Or.inl ⟨by rfl, ?_⟩) hHeld ?_
                  rotate_left
                  · intro W _; go_simp; try with_reducible rfl
                  try simp only [Act.put, List.setIfInBounds_toArray, List.set_cons_zero, List.set_cons_succ]
                  refine wpAnyH_take (i := 18) (oi := ⟨some 70, .load 24 (.tmp 69), _, _, _, some (13, true)⟩) (v := .agg (bs y.val).toArray) rfl (by kernel_rfl) (by kernel_rfl) (by kernel_rfl) (fun _ _ _ h => h) (yieldsIf_load_mid (by rfl) _ _ rfl bb (off + k * 64 + 32) rfl (bs y.val) _ (fun W h => (range_below h hvr.out)) Tryz.underlying24 rfl IV.out) hHeld ?_
                  try simp only [Act.put, List.setIfInBounds_toArray, List.set_cons_zero, List.set_cons_succ]
                  refine wpAnyH_take (i := 19) (oi := ⟨some 71, .fieldAddr 26 (.tmp 7) 1, _, _, _, some (13, true)⟩) (v := ?_) rfl (by kernel_rfl) (by kernel_rfl) (by kernel_rfl) (fun _ _ _ h => h) (Or.inl ⟨by rfl, ?_⟩) hHeld ?_
                  rotate_left
                  · intro W _; go_simp; try with_reducible rfl
                  try simp only [Act.put, List.setIfInBounds_toArray, List.set_cons_zero, List.set_cons_succ]
                  refine wpAnyH_take (i := 20) (oi := ⟨some 72, .load 24 (.tmp 71), _, _, _, some (13, true)⟩) (v := .agg (bs mv).toArray) rfl (by kernel_rfl) (by kernel_rfl) (by kernel_rfl) (fun _ _ _ h => h) (yieldsIf_load_mid (by rfl) _ _ rfl w1.heap.size 1 rfl (bs mv) _ (fun W h => (HCV.out _ _ (HG.out.below h).c)) Tryz.underlying24 rfl IM.out) hHeld ?_
                  try simp only [Act.put, List.setIfInBounds_toArray, List.set_cons_zero, List.set_cons_succ]
                  refine wpAnyH_take (i := 21) (oi := ⟨some 73, .binOp .eql 24 (.tmp 70) (.tmp 72) 24, _, _, _, some (13, true)⟩) (v := .bool false) rfl (by kernel_rfl) (by kernel_rfl) (by kernel_rfl) (fun _ _ _ h => h) (yieldsIf_eqH (by rfl) .eql 24 24 (.tmp 70) (.tmp 72) rfl _ _ rfl rfl guardH _ E2.out) hHeld ?_
                  try simp only [Act.put, List.setIfInBounds_toArray, List.set_cons_zero, List.set_cons_succ]
                  refine wpAnyH_take (i := 22) (oi := ⟨some 74, .pick (.tmp 65) (.tmp 73) (.const (.bool false)), _, _, _, some (1, false)⟩) (v := ?_) rfl (by kernel_rfl) (by kernel_rfl) (by kernel_rfl) (fun _ _ _ h => h) (Or.inl ⟨by rfl, ?_⟩) hHeld ?_
                  rotate_left
                  · intro W _; go_simp; try with_reducible rfl
                  try simp only [Act.put, List.setIfInBounds_toArray, List.set_cons_zero, List.set_cons_succ]
                  refine wpAnyH_take (i := 23) (oi := ⟨some 75, .pick (.tmp 53) (.const (.bool true)) (.tmp 74), _, _, _, none⟩) (v := ?_) rfl (by kernel_rfl) (by kernel_rfl) (by kernel_rfl) (fun _ _ _ h => h) (Or.inl ⟨by rfl, ?_⟩) hHeld ?_
                  rotate_left
                  · intro W _; go_simp; try with_reducible rfl
                  try simp only [Act.put, List.setIfInBounds_toArray, List.set_cons_zero, List.set_cons_succ]
                  refine wpAnyH_ready (rs := [24]) (by kernel_rfl) (by simp) ?_
                  refine AllReadyH.cons (o := ⟨some 12, .assign (.tmp 75), _, _, _, none⟩) rfl (fun K hK => ?_) AllReadyH.nil
                  refine step_ofR (by rfl) ?_
                  go_simp
                  refine hK.out _ _ (hHeld) (fun hHeld => ?_)
                  clear hK K
                  try simp only [Act.put, List.setIfInBounds_toArray, List.set_cons_zero, List.set_cons_succ]
                  refine wpAnyH_done (by kernel_rfl) ?_ _
                  -- END rightD
                  have hBd := Bt hBr hHeld
                  clear hHeld
                  go_wp2_with fail
                  go_roundw
                  case rel => exact ⟨k + 1, by omega, by go_num, by rw [HT1.out], hBd⟩
                  case measure => simp [intOf]; omega
                | true =>
                  have E2 := Lib.hid (EV.out true hvb)
                  have HT1 : Hid (thereB (l.take (k + 1)) p true mv = true) := Lib.hid (by rw [HST.out, hpb, hvb]; rfl)
                  go_wp2_with fail
                  -- REGION rightE 18
                  refine wp_region_held_drew (S := fun W => Below wr.heap.size wr W) (by kernel_rfl) (Below.refl _ wr).drew (fun hHeld => ?_)
                  refine wpAnyH_take (i := 0) (oi := ⟨some 52, .move (.tmp 12), _, _, _, none⟩) (v := ?_) rfl (by kernel_rfl) (by kernel_rfl) (by kernel_rfl) (fun _ _ _ h => h) (Or.inl ⟨by rfl, ?_⟩) hHeld ?_
                  rotate_left
                  · intro W _; go_simp; try with_reducible rfl
                  try simp only [Act.put, List.setIfInBounds_toArray, List.set_cons_zero, List.set_cons_succ]
                  refine wpAnyH_take (i := 1) (oi := ⟨some 53, .move (.tmp 52), _, _, _, none⟩) (v := ?_) rfl (by kernel_rfl) (by kernel_rfl) (by kernel_rfl) (fun _ _ _ h => h) (Or.inl ⟨by rfl, ?_⟩) hHeld ?_
                  rotate_left
                  · intro W _; go_simp; try with_reducible rfl
                  try simp only [Act.put, List.setIfInBounds_toArray, List.set_cons_zero, List.set_cons_succ]
                  refine wpAnyH_take (i := 2) (oi := ⟨some 54, .move (.tmp 1), _, _, _, some (1, false)⟩) (v := ?_) rfl (by kernel_rfl) (by kernel_rfl) (by kernel_rfl) (fun _ _ _ h => h) (Or.inl ⟨by rfl, ?_⟩) hHeld ?_
                  rotate_left
                  · intro W _; go_simp; try with_reducible rfl
                  try simp only [Act.put, List.setIfInBounds_toArray, List.set_cons_zero, List.set_cons_succ]
                  refine wpAnyH_take (i := 3) (oi := ⟨some 55, .move (.tmp 13), _, _, _, some (1, false)⟩) (v := ?_) rfl (by kernel_rfl) (by kernel_rfl) (by kernel_rfl) (fun _ _ _ h => h) (Or.inl ⟨by rfl, ?_⟩) hHeld ?_
                  rotate_left
                  · intro W _; go_simp; try with_reducible rfl
                  try simp only [Act.put, List.setIfInBounds_toArray, List.set_cons_zero, List.set_cons_succ]
                  refine wpAnyH_take (i := 4) (oi := ⟨some 56, .indexAddr 22 (.tmp 54) (.tmp 55), _, _, _, some (1, false)⟩) (v := ?_) rfl (by kernel_rfl) (by kernel_rfl) (by kernel_rfl) (fun _ _ _ h => h) (Or.inl ⟨by rfl, ?_⟩) hHeld ?_
                  rotate_left
                  · intro W _; go_simp; try with_reducible rfl
                  try simp only [Act.put, List.setIfInBounds_toArray, List.set_cons_zero, List.set_cons_succ]
                  refine wpAnyH_take (i := 5) (oi := ⟨some 57, .fieldAddr 37 (.tmp 56) 0, _, _, _, some (1, false)⟩) (v := ?_) rfl (by kernel_rfl) (by kernel_rfl) (by kernel_rfl) (fun _ _ _ h => h) (Or.inl ⟨by rfl, ?_⟩) hHeld ?_
                  rotate_left
                  · intro W _; go_simp; try with_reducible rfl
                  try simp only [Act.put, List.setIfInBounds_toArray, List.set_cons_zero, List.set_cons_succ]
                  refine wpAnyH_take (i := 6) (oi := ⟨some 58, .load 24 (.tmp 57), _, _, _, some (1, false)⟩) (v := .agg (bs y.path).toArray) rfl (by kernel_rfl) (by kernel_rfl) (by kernel_rfl) (fun _ _ _ h => h) (yieldsIf_load_mid (by rfl) _ _ rfl bb (off + k * 64) rfl (bs y.path) _ (fun W h => (range_below h hpr.out)) Tryz.underlying24 rfl IP.out) hHeld ?_
                  try simp only [Act.put, List.setIfInBounds_toArray, List.set_cons_zero, List.set_cons_succ]
                  refine wpAnyH_take (i := 7) (oi := ⟨some 59, .load 24 (.tmp 5), _, _, _, some (1, false)⟩) (v := .agg (bs p).toArray) rfl (by kernel_rfl) (by kernel_rfl) (by kernel_rfl) (fun _ _ _ h => h) (yieldsIf_load_mid (by rfl) _ _ rfl w.heap.size 0 rfl (bs p) _ (fun W h => (HG.out.below h).p.allR) Tryz.underlying24 rfl H5.out) hHeld ?_
                  try simp only [Act.put, List.setIfInBounds_toArray, List.set_cons_zero, List.set_cons_succ]
                  refine wpAnyH_take (i := 8) (oi := ⟨some 60, .binOp .eql 24 (.tmp 58) (.tmp 59) 24, _, _, _, some (1, false)⟩) (v := .bool true) rfl (by kernel_rfl) (by kernel_rfl) (by kernel_rfl) (fun _ _ _ h => h) (yieldsIf_eqH (by rfl) .eql 24 24 (.tmp 58) (.tmp 59) rfl _ _ rfl rfl guardH _ E1.out) hHeld ?_
                  try simp only [Act.put, List.setIfInBounds_toArray, List.set_cons_zero, List.set_cons_succ]
                  refine wpAnyH_take (i := 9) (oi := ⟨some 61, .move (.tmp 60), _, _, _, some (1, false)⟩) (v := ?_) rfl (by kernel_rfl) (by kernel_rfl) (by kernel_rfl) (fun _ _ _ h => h) (Or.inl ⟨by rfl, ?_⟩) hHeld ?_
                  rotate_left
                  · intro W _; go_simp; try with_reducible rfl
                  try simp only [Act.put, List.setIfInBounds_toArray, List.set_cons_zero, List.set_cons_succ]
                  refine wpAnyH_take (i := 10) (oi := ⟨some 62, .fieldAddr 26 (.tmp 7) 0, _, _, _, some (9, true)⟩) (v := ?_) rfl (by kernel_rfl) (by kernel_rfl) (by kernel_rfl) (fun _ _ _ h => h) (Or.inl ⟨by rfl, ?_⟩) hHeld ?_
                  rotate_left
                  · intro W _; go_simp; try with_reducible rfl
                  try simp only [Act.put, List.setIfInBounds_toArray, List.set_cons_zero, List.set_cons_succ]
                  refine wpAnyH_take (i := 11) (oi := ⟨some 63, .load 4 (.tmp 62), _, _, _, some (9, true)⟩) (v := ?_) rfl (by kernel_rfl) (by kernel_rfl) (by kernel_rfl) (fun _ _ _ h => h) (Or.inl ⟨by rfl, ?_⟩) hHeld ?_
                  rotate_left
                  · intro W h; have h0 := (HG.out.below h).c.cell HC0.out; go_simp; try with_reducible rfl
                  try simp only [Act.put, List.setIfInBounds_toArray, List.set_cons_zero, List.set_cons_succ]
                  refine wpAnyH_take (i := 12) (oi := ⟨some 64, .pick (.tmp 61) (.tmp 63) (.const (.bool false)), _, _, _, some (1, false)⟩) (v := ?_) rfl (by kernel_rfl) (by kernel_rfl) (by kernel_rfl) (fun _ _ _ h => h) (Or.inl ⟨by rfl, ?_⟩) hHeld ?_
                  rotate_left
                  · intro W _; go_simp; try with_reducible rfl
                  try simp only [Act.put, List.setIfInBounds_toArray, List.set_cons_zero, List.set_cons_succ]
                  refine wpAnyH_take (i := 13) (oi := ⟨some 65, .move (.tmp 64), _, _, _, some (1, false)⟩) (v := ?_) rfl (by kernel_rfl) (by kernel_rfl) (by kernel_rfl) (fun _ _ _ h => h) (Or.inl ⟨by rfl, ?_⟩) hHeld ?_
                  rotate_left
                  · intro W _; go_simp; try with_reducible rfl
                  try simp only [Act.put, List.setIfInBounds_toArray, List.set_cons_zero, List.set_cons_succ]
                  refine wpAnyH_take (i := 14) (oi := ⟨some 66, .move (.tmp 1), _, _, _, some (13, true)⟩) (v := ?_) rfl (by kernel_rfl) (by kernel_rfl) (by kernel_rfl) (fun _ _ _ h => h) (Or.inl ⟨by rfl, ?_⟩) hHeld ?_
                  rotate_left
                  · intro W _; go_simp; try with_reducible rfl
                  try simp only [Act.put, List.setIfInBounds_toArray, List.set_cons_zero, List.set_cons_succ]
                  refine wpAnyH_take (i := 15) (oi := ⟨some 67, .move (.tmp 13), _, _, _, some (13, true)⟩) (v := ?_) rfl (by kernel_rfl) (by kernel_rfl) (by kernel_rfl) (fun _ _ _ h => h) (Or.inl ⟨by rfl, ?_⟩) hHeld ?_
                  rotate_left
                  · intro W _; go_simp; try with_reducible rfl
                  try simp only [Act.put, List.setIfInBounds_toArray, List.set_cons_zero, List.set_cons_succ]
                  refine wpAnyH_take (i := 16) (oi := ⟨some 68, .indexAddr 22 (.tmp 66) (.tmp 67), _, _, _, some (13, true)⟩) (v := ?_) rfl (by kernel_rfl) (by kernel_rfl) (by kernel_rfl) (fun _ _ _ h => h) (Or.inl ⟨by rfl, ?_⟩) hHeld ?_
                  rotate_left
                  · intro W _; go_simp; try with_reducible rfl
                  try simp only [Act.put, List.setIfInBounds_toArray, List.set_cons_zero, List.set_cons_succ]
                  refine wpAnyH_take (i := 17) (oi := ⟨some 69, .fieldAddr 37 (.tmp 68) 1, _, _, _, some (13, true)⟩) (v := ?_) rfl (by kernel_rfl) (by kernel_rfl) (by kernel_rfl) (fun _ _ _ h => h) (Or.inl ⟨by rfl, ?_⟩) hHeld ?_
                  rotate_left
                  · intro W _; go_simp; try with_reducible rfl
                  try simp only [Act.put, List.setIfInBounds_toArray, List.set_cons_zero, List.set_cons_succ]
                  refine wpAnyH_take (i := 18) (oi := ⟨some 70, .load 24 (.tmp 69), _, _, _, some (13, true)⟩) (v := .agg (bs y.val).toArray) rfl (by kernel_rfl) (by kernel_rfl) (by kernel_rfl) (fun _ _ _ h => h) (yieldsIf_load_mid (by rfl) _ _ rfl bb (off + k * 64 + 32) rfl (bs y.val) _ (fun W h => (range_below h hvr.out)) Tryz.underlying24 rfl IV.out) hHeld ?_
                  try simp only [Act.put, List.setIfInBounds_toArray, List.set_cons_zero, List.set_cons_succ]
                  refine wpAnyH_take (i := 19) (oi := ⟨some 71, .fieldAddr 26 (.tmp 7) 1, _, _, _, some (13, true)⟩) (v := ?_) rfl (by kernel_rfl) (by kernel_rfl) (by kernel_rfl) (fun _ _ _ h => h) (Or.inl ⟨by rfl, ?_⟩) hHeld ?_
                  rotate_left
                  · intro W _; go_simp; try with_reducible rfl
                  try simp only [Act.put, List.setIfInBounds_toArray, List.set_cons_zero, List.set_cons_succ]
                  refine wpAnyH_take (i := 20) (oi := ⟨some 72, .load 24 (.tmp 71), _, _, _, some (13, true)⟩) (v := .agg (bs mv).toArray) rfl (by kernel_rfl) (by kernel_rfl) (by kernel_rfl) (fun _ _ _ h => h) (yieldsIf_load_mid (by rfl) _ _ rfl w1.heap.size 1 rfl (bs mv) _ (fun W h => (HCV.out _ _ (HG.out.below h).c)) Tryz.underlying24 rfl IM.out) hHeld ?_
                  try simp only [Act.put, List.setIfInBounds_toArray, List.set_cons_zero, List.set_cons_succ]
                  refine wpAnyH_take (i := 21) (oi := ⟨some 73, .binOp .eql 24 (.tmp 70) (.tmp 72) 24, _, _, _, some (13, true)⟩) (v := .bool true) rfl (by kernel_rfl) (by kernel_rfl) (by kernel_rfl) (fun _ _ _ h => h) (yieldsIf_eqH (by rfl) .eql 24 24 (.tmp 70) (.tmp 72) rfl _ _ rfl rfl guardH _ E2.out) hHeld ?_
                  try simp only [Act.put, List.setIfInBounds_toArray, List.set_cons_zero, List.set_cons_succ]
                  refine wpAnyH_take (i := 22) (oi := ⟨some 74, .pick (.tmp 65) (.tmp 73) (.const (.bool false)), _, _, _, some (1, false)⟩) (v := ?_) rfl (by kernel_rfl) (by kernel_rfl) (by kernel_rfl) (fun _ _ _ h => h) (Or.inl ⟨by rfl, ?_⟩) hHeld ?_
                  rotate_left
                  · intro W _; go_simp; try with_reducible rfl
                  try simp only [Act.put, List.setIfInBounds_toArray, List.set_cons_zero, List.set_cons_succ]
                  refine wpAnyH_take (i := 23) (oi := ⟨some 75, .pick (.tmp 53) (.const (.bool true)) (.tmp 74), _, _, _, none⟩) (v := ?_) rfl (by kernel_rfl) (by kernel_rfl) (by kernel_rfl) (fun _ _ _ h => h) (Or.inl ⟨by rfl, ?_⟩) hHeld ?_
                  rotate_left
                  · intro W _; go_simp; try with_reducible rfl
                  try simp only [Act.put, List.setIfInBounds_toArray, List.set_cons_zero, List.set_cons_succ]
                  refine wpAnyH_ready (rs := [24]) (by kernel_rfl) (by simp) ?_
                  refine AllReadyH.cons (o := ⟨some 12, .assign (.tmp 75), _, _, _, none⟩) rfl (fun K hK => ?_) AllReadyH.nil
                  refine step_ofR (by rfl) ?_
                  go_simp
                  refine hK.out _ _ (hHeld) (fun hHeld => ?_)
                  clear hK K
                  try simp only [Act.put, List.setIfInBounds_toArray, List.set_cons_zero, List.set_cons_succ]
                  refine wpAnyH_done (by kernel_rfl) ?_ _
                  -- END rightE
                  have hBd := Bt hBr hHeld
                  clear hHeld
                  go_wp2_with fail
                  go_roundw
                  case rel => exact ⟨k + 1, by omega, by go_num, by rw [HT1.out], hBd⟩
                  case measure => simp [intOf]; omega
        · obtain rfl : k = n := by omega
          have hkl : ¬ (k : Int) < (k : Int) := by omega
          have htk : l.take k = l := List.take_of_length_le (by omega)
          rw [htk, hthere] at *
          have hPr := hP8.below hBr
          have xr := x8.below hBr
          have rr := (hr8'.out.below hBr)
          have hBw := HG.out.bel
          go_wp2_with fail
          refine (MS.out _ hBw).mono ?_
          rintro e w9 ⟨rfl, hB9⟩
          have HG9 := Lib.hid (HG.out.below hB9)
          go_wp2_with fail
          refine (CS.out _ HG9.out.bel).mono ?_
          rintro e w10 ⟨rfl, hB10⟩
          have HG10 := Lib.hid (HG9.out.below hB10)
          have hB810 := Bt hB9 hB10
          have cm := HG10.out.c.cell HC0.out
          have q1 := (rr.below hB810).allR
          have q2 := HG10.out.p.allR
          have q3 := HG10.out.c.allR
          have q4 := (xr.below hB810).allR
          have hP10 := hPr.below hB810
          cases mb
          all_goals
            go_wp2_with (first
              | ((with_reducible refine wpList_loadP (o := ⟨some 88, _, _, _, _, _⟩) ?_ w6.heap.size 0 24 (.tmp 10) ?_ ?_ q1 Tryz.underlying24 ?_ HRI.out ?_); rfl; rfl; rfl; rfl)
              | ((with_reducible refine wpList_loadP (o := ⟨some 89, _, _, _, _, _⟩) ?_ w.heap.size 0 24 (.tmp 5) ?_ ?_ q2 Tryz.underlying24 ?_ H5.out ?_); rfl; rfl; rfl; rfl)
              | ((with_reducible refine wpList_loadP (o := ⟨some 90, _, _, _, _, _⟩) ?_ w1.heap.size 0 26 (.tmp 7) ?_ ?_ q3 Tryz.underlying26 ?_ IC.out ?_); rfl; rfl; rfl; rfl)
              | ((with_reducible refine wpList_loadP (o := ⟨some 91, _, _, _, _, _⟩) ?_ (w1.heap.size + 1) 0 29 (.tmp 8) ?_ ?_ q4 Tryz.underlying29 ?_ IX.out ?_); rfl; rfl; rfl; rfl))
            subst hPX
            refine (CK.out _ HG10.out.bel a1 n1 c1 hP10).mono ?_
            rintro e w11 ⟨rfl, hB11⟩
            have hBf := Bt HG10.out.bel hB11
            go_wp2_with fail
            go_ret
            exact ⟨rfl, hBf⟩
    all_goals
      subst her
      go_wp2_with (first
        | (((with_reducible refine wpList_allocB (o := ⟨some 10, _, _, _, _, _⟩) ?_ 24 ?_ zeroD_info ?_); rfl; rfl; intro w7 hr7 hg7 hz7))
        | (((with_reducible refine wpList_storeB (o := ⟨none, .store 24 (.tmp 10) (.tmp 29), _, _, _, _⟩) ?_ 24 (.tmp 10) (.tmp 29) ?_ ?_ ?_ hr7 HRI.out LRI.out ORI ?_); rfl; rfl; rfl; rfl; intro w8 hr8 hg8 hz8);
            have b8 := (((Below.refl _ w6).grown hg7 (Nat.le_refl _) (fun k e => by cases e)).grown hg8 (by omega) (fun k e => by cases e; exact Nat.le_refl _));
            have hr8' := Lib.hid hr8; have hRg := Lib.hid (show RgAt w w8 w1.heap.size p CX from ⟨hp6.below b8, c6.below b8, Bt hB06 b8⟩); have x8 := x6.below b8; have hP8 := hP6.below b8))
      clear hr7 hg7 hr8 hg8 x6 c6 hp6 hP6
      have hBw := hRg.out.bel
      go_wp2_with fail
      refine (MS.out _ hBw).mono ?_
      rintro e w9 ⟨rfl, hB9⟩
      have hB09 := Bt hBw hB9
      go_wp2_with fail
      refine (CS.out _ hB09).mono ?_
      rintro e w10 ⟨rfl, hB10⟩
      have hBf := Bt hB09 hB10
      go_wp2_with fail
      go_ret
      exact ⟨rfl, hBf⟩
end
end Go.Proofs.YtgbhfpkngjlfkaaGreatDoor
