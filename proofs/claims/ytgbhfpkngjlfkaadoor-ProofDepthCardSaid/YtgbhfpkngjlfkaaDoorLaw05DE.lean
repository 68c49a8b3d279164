/-
  Law05D Law05E, in one text.
-/
import Derived.Test.YtgbhfpkngjlfkaaDoorCon05T5
import Derived.Test.YtgbhfpkngjlfkaaDoorLibW
import Derived.Test.YtgbhfpkngjlfkaaDoorLibE
import Derived.Test.YtgbhfpkngjlfkaaDoorSmt1
import Derived.Test.YtgbhfpkngjlfkaaDoorCon05F
import Derived.Test.YtgbhfpkngjlfkaaDoorRef05G
import Derived.Test.YtgbhfpkngjlfkaaDoorLibG
namespace Go.Proofs.YtgbhfpkngjlfkaaDoor
/-! Law05A Law05D, in one text. -/
section
/-! Law05A Law05B, in one text. -/
section
/-! The walks of layer 5's statements: roots. -/
section
open Go.RowKit

/-- what a statement's walk comes to: true, and nothing that was there has turned -/
def Yes5 (w : World) (e : Ending) (w' : World) : Prop := e = .returned (.bool true) ∧ Below w.heap.size w w'
theorem Yes5.mk {w w' : World} (h : Below w.heap.size w w') : Yes5 w (.returned (.bool true)) w' := ⟨rfl, h⟩
theorem below5 {w w1 w2 : World} {g : Nat} (h : Below w.heap.size w w1) (hg : w1.grownBy w2 (some g)) (hb : w.heap.size ≤ g) : Below w.heap.size w w2 := h.grown hg h.size (fun k e => by cases e; exact hb)

theorem root_a : rootI 32 [lfA] = shortI 32 ([0] ++ lfA.path ++ lfA.val) := by
  simp [rootI, shortI, twiceB, rootL, digestF, leafD]
theorem rootE_a : rootE 32 [lfA] = 0 := by decide
theorem half_ba0 : half [lfB, lfA] 0 0 = [lfA] := by
  have h1 : bitAt lfB.path 0 = 1 := by decide
  have h2 : bitAt lfA.path 0 = 0 := by decide
  simp [half, h1, h2]
theorem half_ba1 : half [lfB, lfA] 0 1 = [lfB] := by
  have h1 : bitAt lfB.path 0 = 1 := by decide
  have h2 : bitAt lfA.path 0 = 0 := by decide
  simp [half, h1, h2]
theorem twice_ba : twiceB [lfB, lfA] = false := by decide
theorem root_ba : rootI 32 [lfB, lfA] = shortI 32 ([1] ++ shortI 32 ([0] ++ lfA.path ++ lfA.val) ++ shortI 32 ([0] ++ lfB.path ++ lfB.val)) := by
  have h := half_ba0
  have k := half_ba1
  simp [rootI, shortI, twice_ba, rootL, digestF, leafD, nodeD, h, k]
theorem rootE_ba : rootE 32 [lfB, lfA] = 0 := by decide
theorem rootE_aa : rootE 32 [lfA, lfA] = 30 := by decide
theorem root_nil : rootI 32 [] = shortI 32 [2] := by
  simp [rootI, shortI, twiceB, rootL, digestF, emptyD]
theorem rootE_nil : rootE 32 [] = 0 := by decide
set_option maxRecDepth 1000000 in
theorem empty_a : (shortI 32 [2] == shortI 32 ([0] ++ lfA.path ++ lfA.val)) = false := by decide +kernel

/-- what the last region of roots knows of a world: the three digests -/
structure RootsAt (w W : World) (x y z : List UInt8) (g1 g3 g7 : Nat) : Prop where
  b1 : Blk W g1 23 (bs x)
  b3 : Blk W g3 23 (bs y)
  b7 : Blk W g7 23 (bs z)
  bel : Below w.heap.size w W
theorem RootsAt.below {w W W' : World} {x y z : List UInt8} {g1 g3 g7 : Nat} (h : RootsAt w W x y z g1 g3 g7) (hb : Below W.heap.size W W') : RootsAt w W' x y z g1 g3 g7 :=
  ⟨h.b1.below hb, h.b3.below hb, h.b7.below hb, Bt h.bel hb⟩
theorem RootsAt.drew {w W : World} {x y z : List UInt8} {g1 g3 g7 : Nat} (h : RootsAt w W x y z g1 g3 g7) : RootsAt w W.drew x y z g1 g3 g7 := h.below ⟨rfl, rfl, rfl, Nat.le_refl _, fun _ _ => rfl⟩
theorem dig5 {d : List UInt8} (h : d.length = 32) : (Tryd.prog.info? 23).map (·.size) = some (bs d).length ∧ (bs zero32).length = (bs d).length :=
  ⟨by rw [info_digest, bs_length, h], by rw [bs_length, bs_length, zero32_length, h]⟩

end
/-! The walk of SmtShort. -/
section
open Go.RowKit

/-- what the last region of SmtShort knows of a world -/
structure ShortAt (w W : World) (y : Lf) (p q d : List UInt8) (g h : Nat) : Prop where
  b7 : Blk W w.heap.size 46 (lc y)
  b8 : Blk W (w.heap.size + 1) 23 (bs p)
  b9 : Blk W (w.heap.size + 1 + 1) 23 (bs q)
  b11 : Blk W g 23 (bs d)
  b13 : Blk W h 23 (bs d)
  bel : Below w.heap.size w W
theorem ShortAt.below {w W W' : World} {y : Lf} {p q d : List UInt8} {g h : Nat} (s : ShortAt w W y p q d g h) (hb : Below W.heap.size W W') : ShortAt w W' y p q d g h :=
  ⟨s.b7.below hb, s.b8.below hb, s.b9.below hb, s.b11.below hb, s.b13.below hb, Bt s.bel hb⟩
theorem ShortAt.drew {w W : World} {y : Lf} {p q d : List UInt8} {g h : Nat} (s : ShortAt w W y p q d g h) : ShortAt w W.drew y p q d g h := s.below ⟨rfl, rfl, rfl, Nat.le_refl _, fun _ _ => rfl⟩
theorem eq5 {d : List UInt8} (h : d.length = 32) : ∀ W : World, (binOp .eql 23 (.agg (bs d).toArray) (.agg (bs d).toArray)).run Tryd.prog W = .ok (.bool true) W := fun W => by rw [eqD W _ _ h h]; simp

end
end
/-! Con05Z Law05D, in one text. -/
section
/-! Con05V Con05Z, in one text. -/
section
/-! Con05M Con05V, in one text. -/
section
/-! Get, Len. -/
section
open Go.RowKit

/-- what Get answers -/
def valOf (o : Option Lf) : List UInt8 := match o with | some y => y.val | none => zero32
/-- how high the node of a pointer is -/
def hgtAt (G : Tag) : Value → Nat
  | .pointer (some a) => match G a.block with | some u => u.hgt | none => 0
  | _ => 0
theorem hgtAt_of {G : Tag} {q : Nat} {u : T} (h : G q = some u) : hgtAt G (.pointer (some ⟨q, 0, none⟩)) = u.hgt := by simp [hgtAt, h]

/-- what Get's loop knows of a world -/
structure GetAt (w W : World) (G : Tag) (t : T) (d : List UInt8) (q k : Nat) (u : T) : Prop where
  top : G q = some u
  wf : u.wf k
  agr : agree u.lvs k
  way : T.way u d k = T.way t d 0
  box : Blk W w.heap.size 23 (bs d)
  res : Blk W (w.heap.size + 1) 23 (bs zero32)
  bel : Below w.heap.size w W

set_option maxRecDepth 100000 in
set_option maxHeartbeats 2000000 in
theorem get_any (base x : Nat) (G : Tag) (w : World) (tp pn pt : Nat) (t : T) (d : List UInt8) (hd : d.length = 32) (hI : Inv base x G noL w) (hTr : Tr base G w tp pn pt t) (hw : t.wf 0) :
    Calls Tryd.prog 32 #[.pointer (some ⟨tp, 0, none⟩), .agg (bs d).toArray] w fun e w' => e = .returned (.tuple #[.agg (bs (valOf (findL t.lvs d))).toArray, .bool (findL t.lvs d).isSome]) ∧ Below w.heap.size w w' := by
  have HF := Lib.hid (T.way_spec d t 0 hw)
  have HV : ∀ y ∈ t.lvs, y.ok := T.wf_oks t 0 hw
  have HWW := Lib.hid (T.way_wf d t 0 hw)
  have H5 := Lib.hid (show (Tryd.prog.info? 23).map (·.size) = some (bs d).length by rw [info_digest, bs_length, hd])
  have H6 := Lib.hid (show (Tryd.prog.info? 23).map (·.size) = some (bs zero32).length by rw [info_digest, bs_length, zero32_length])
  have H7 := bs_one zero32
  have HBT := Lib.hid built0
  have HB := Lib.hid (fun (W : World) (k : Nat) (hk : k < 256) => bitIs1_any W d hd k hk)
  have hb0 := Blk.new w 23 (bs d)
  have hB0 : Below w.heap.size w (w.alloc (.cells (bs d).toArray 23)) := (Below.refl _ w).alloc (Nat.le_refl _) _
  have hz0 : (w.alloc (.cells (bs d).toArray 23)).heap.size = w.heap.size + 1 := by simp
  have hc1 := hTr.c1
  have CB := Lib.hid (fun (W : World) (h : Below w.heap.size w W) => cell_later h hc1)
  clear hc1
  go_enter Tryd.func32, Tryd.ntmps32
  go_wp2_with ((with_reducible refine wpList_allocB (o := ⟨some 4, _, _, _, _, _⟩) ?_ 23 ?_ zeroD_info ?_); rfl; rfl; intro w1 hr1 hg1 hz1; rw [hz0] at hr1; have hB1 := hB0.grown hg1 hB0.size (fun k e => by cases e); have c1 := CB.out w1 hB1)
  have hb1 := hb0.grown hg1 (by simp)
  have hS : GetAt w w1 G t d pt 0 t := ⟨hTr.top, hw, fun _ _ _ _ i hi => by omega, rfl, hb1, hr1, hB1⟩
  clear c1 hb0 hB0 hz0 hg1 hz1
  go_loopw [6, 7] (fun s6 s7 wr => ∃ (q k : Nat) (u : T), s6 = .pointer (some ⟨q, 0, none⟩) ∧ s7 = .int .i64 (k : Int) ∧ GetAt w wr G t d q k u) (fun s6 _ _ => hgtAt G s6)
  case atStart => exact ⟨pt, 0, t, rfl, rfl, hS⟩
  case round =>
    obtain ⟨q, k, u, rfl, rfl, hS⟩ := hrel
    have hIr := hI.below hS.bel
    obtain ⟨dn, sum, lf, le, ri, hN⟩ := hIr.nd hS.top
    have c2 := hN.size
    have hu := hS.wf
    have hway := hS.way
    have hkids := hN.kids
    have HH := Lib.hid (hgtAt_of hS.top)
    cases u with
    | two l r =>
      have h2 := T.size_two hu
      have hk256 : k < 256 := by
        rcases Nat.lt_or_ge k 256 with h' | h'
        · exact h'
        · have := T.deep hu hS.agr h'; omega
      have h2' : (1 : Int) < ((T.two l r).lvs.length : Int) := by omega
      generalize (T.two l r).lvs.length = m at *
      obtain ⟨pl, pr, rfl, rfl, hpl, hpr⟩ := hkids
      have hrg := hS.box.allR
      have c3 := hN.left
      have c4 := hN.right
      have hbx := HB.out wr k hk256
      by_cases hbit : bitAt d k = 1
      · rw [show (bitAt d k == 1) = true by simp [hbit]] at hbx
        have hS2 := Lib.hid (fun (W : World) (hb : Below wr.heap.size wr W) => (⟨hpr, hu.2.2.1, T.agree_right hu hS.agr, by rw [← hway]; exact (if_pos hbit).symm, hS.box.below hb, hS.res.below hb, Bt hS.bel hb⟩ : GetAt w W G t d pr (k + 1) r))
        have HM := Lib.hid (show hgtAt G (.pointer (some ⟨pr, 0, none⟩)) < (T.two l r).hgt from by rw [hgtAt_of hpr]; simp [T.hgt]; omega)
        clear hway hbit
        go_wp2_with ((with_reducible refine wpList_loadG (o := ⟨some 22, _, _, _, _, _⟩) ?_ w.heap.size 0 23 (.tmp 3) ?_ ?_ hrg Tryd.underlying23 ?_ H5.out ?_); rfl; rfl; rfl; rfl)
        refine hbx.mono ?_
        rintro e w2 ⟨rfl, hb2⟩
        have c4 := cell_later hb2 c4
        go_wp2_with fail
        exact ⟨⟨pr, k + 1, r, rfl, by go_num, hS2.out _ hb2⟩, by rw [HH.out]; exact HM.out⟩
      · rw [show (bitAt d k == 1) = false by simp [hbit]] at hbx
        have hS2 := Lib.hid (fun (W : World) (hb : Below wr.heap.size wr W) => (⟨hpl, hu.2.1, T.agree_left hu hS.agr, by rw [← hway]; exact (if_neg hbit).symm, hS.box.below hb, hS.res.below hb, Bt hS.bel hb⟩ : GetAt w W G t d pl (k + 1) l))
        have HM := Lib.hid (show hgtAt G (.pointer (some ⟨pl, 0, none⟩)) < (T.two l r).hgt from by rw [hgtAt_of hpl]; simp [T.hgt]; omega)
        clear hway hbit
        go_wp2_with ((with_reducible refine wpList_loadG (o := ⟨some 22, _, _, _, _, _⟩) ?_ w.heap.size 0 23 (.tmp 3) ?_ ?_ hrg Tryd.underlying23 ?_ H5.out ?_); rfl; rfl; rfl; rfl)
        refine hbx.mono ?_
        rintro e w2 ⟨rfl, hb2⟩
        have c3 := cell_later hb2 c3
        go_wp2_with fail
        exact ⟨⟨pl, k + 1, l, rfl, by go_num, hS2.out _ hb2⟩, by rw [HH.out]; exact HM.out⟩
    | none =>
      have c2' : wr.cell? ⟨q, 36, none⟩ = some (.int .i64 0) := c2
      have hfind : findL t.lvs d = none := by rw [HF.out, ← hway]; rfl
      have HAS := has_any wr base x G hIr q .none hS.top k hu d hd
      have hrg := hS.box.allR
      rw [show T.hasB .none d = false from rfl] at HAS
      have HE := Lib.hid hfind
      have hres := hS.res
      have hbel := hS.bel
      clear hfind hway c2 hS
      go_wp2_with ((with_reducible refine wpList_loadG (o := ⟨some 34, _, _, _, _, _⟩) ?_ w.heap.size 0 23 (.tmp 3) ?_ ?_ hrg Tryd.underlying23 ?_ H5.out ?_); rfl; rfl; rfl; rfl)
      refine HAS.mono ?_
      rintro e w2 ⟨rfl, hb2⟩
      have hr2 := hres.below hb2
      go_wp2_with (first | ((with_reducible refine wpList_buildI (dst := some 37) HBT.out ?_ ?_); rfl) | ((with_reducible refine wpList_storeB (o := ⟨none, .store 23 (.tmp 4) (.tmp 37), _, _, _, _⟩) ?_ 23 (.tmp 4) (.tmp 37) ?_ ?_ ?_ hr2 H6.out rfl H7 ?_); rfl; rfl; rfl; rfl; intro w8 hb8 hg8 hz8))
      try simp only [Exit.inBlock, Exit.then]
      refine bodyPost_ret (results_digest2 rfl _ _ _ _ _ zero32_length rfl hb8.at_) rfl ⟨by rw [HE.out]; rfl, ?_⟩
      exact below_of_grown' (Bt hbel hb2) hg8 (by omega)
    | one y =>
      have c2' : wr.cell? ⟨q, 36, none⟩ = some (.int .i64 1) := c2
      have hfind : findL t.lvs d = findL [y] d := by rw [HF.out, ← hway]; rfl
      have HAS := has_any wr base x G hIr q (.one y) hS.top k hu d hd
      have hrg := hS.box.allR
      have hres := hS.res
      have hbel := hS.bel
      rw [show T.hasB (.one y) d = (y.path == d) from rfl] at HAS
      have c3 := hN.leaf
      obtain ⟨ql, rfl, hql, hqb⟩ := hkids
      cases hyd : (y.path == d) with
      | false =>
        rw [hyd] at HAS
        have HE := Lib.hid (show findL t.lvs d = none from by rw [hfind]; simp [findL, hyd])
        clear hfind hway c2 hS c3
        go_wp2_with ((with_reducible refine wpList_loadG (o := ⟨some 34, _, _, _, _, _⟩) ?_ w.heap.size 0 23 (.tmp 3) ?_ ?_ hrg Tryd.underlying23 ?_ H5.out ?_); rfl; rfl; rfl; rfl)
        refine HAS.mono ?_
        rintro e w2 ⟨rfl, hb2⟩
        have hr2 := hres.below hb2
        go_wp2_with (first | ((with_reducible refine wpList_buildI (dst := some 37) HBT.out ?_ ?_); rfl) | ((with_reducible refine wpList_storeB (o := ⟨none, .store 23 (.tmp 4) (.tmp 37), _, _, _, _⟩) ?_ 23 (.tmp 4) (.tmp 37) ?_ ?_ ?_ hr2 H6.out rfl H7 ?_); rfl; rfl; rfl; rfl; intro w8 hb8 hg8 hz8))
        try simp only [Exit.inBlock, Exit.then]
        refine bodyPost_ret (results_digest2 rfl _ _ _ _ _ zero32_length rfl hb8.at_) rfl ⟨by rw [HE.out]; rfl, ?_⟩
        exact below_of_grown' (Bt hbel hb2) hg8 (by omega)
      | true =>
        rw [hyd] at HAS
        have HE := Lib.hid (show findL t.lvs d = some y from by rw [hfind]; simp [findL, hyd])
        have hyo : y.ok := hu
        have hvl := hyo.2
        have H8 := Lib.hid (show (Tryd.prog.info? 23).map (·.size) = some (bs y.val).length by rw [info_digest, bs_length, hvl])
        have H9 := Lib.hid (show (bs zero32).length = (bs y.val).length by rw [bs_length, bs_length, zero32_length, hvl])
        have H10 := bs_one y.val
        have hrv := range_val hyo (hqb.range 0 (cs := lc y) (fun j hj => by rw [Nat.zero_add]))
        rw [Nat.zero_add] at hrv
        clear hfind hway c2 hS hqb
        go_wp2_with ((with_reducible refine wpList_loadG (o := ⟨some 34, _, _, _, _, _⟩) ?_ w.heap.size 0 23 (.tmp 3) ?_ ?_ hrg Tryd.underlying23 ?_ H5.out ?_); rfl; rfl; rfl; rfl)
        refine HAS.mono ?_
        rintro e w2 ⟨rfl, hb2⟩
        have hr2 := hres.below hb2
        have c4 := cell_later hb2 c3
        have hrv2 := rangeAt_below hb2 hrv
        go_wp2_with (first | ((with_reducible refine wpList_loadG (o := ⟨some 44, _, _, _, _, _⟩) ?_ ql 32 23 (.tmp 43) ?_ ?_ hrv2 Tryd.underlying23 ?_ H8.out ?_); rfl; rfl; rfl; rfl) | ((with_reducible refine wpList_storeB (o := ⟨none, .store 23 (.tmp 4) (.tmp 44), _, _, _, _⟩) ?_ 23 (.tmp 4) (.tmp 44) ?_ ?_ ?_ hr2 H8.out H9.out H10 ?_); rfl; rfl; rfl; rfl; intro w8 hb8 hg8 hz8))
        try simp only [Exit.inBlock, Exit.then]
        refine bodyPost_ret (results_digest2 rfl _ _ _ _ _ hvl rfl hb8.at_) rfl ⟨by rw [HE.out]; rfl, ?_⟩
        exact below_of_grown' (Bt hbel hb2) hg8 (by omega)

end
/-! Drop: a tree without a leaf. -/
section
open Go.RowKit

/-- what without knows of a world -/
structure WoAt (w W : World) (d : List UInt8) (p : Nat) (le ri : Option Addr) : Prop where
  box : Blk W w.heap.size 23 (bs d)
  left : W.cell? ⟨p, 38, none⟩ = some (.pointer le)
  right : W.cell? ⟨p, 39, none⟩ = some (.pointer ri)
theorem WoAt.below {w W W' : World} {d : List UInt8} {p : Nat} {le ri : Option Addr} (h : WoAt w W d p le ri) (hb : Below W.heap.size W W') : WoAt w W' d p le ri :=
  ⟨h.box.below hb, cell_later hb h.left, cell_later hb h.right⟩
theorem WoAt.drew {w W : World} {d : List UInt8} {p : Nat} {le ri : Option Addr} (h : WoAt w W d p le ri) : WoAt w W.drew d p le ri := h.below ⟨rfl, rfl, rfl, Nat.le_refl _, fun _ _ => rfl⟩

theorem cut_len (d : List UInt8) : ∀ (t : T) (n : Nat), (T.cut t d n).lvs.length ≤ t.lvs.length
  | .none, _ => Nat.le_refl _
  | .one _, _ => by simp [T.cut, T.lvs]
  | .two l r, n => by
    unfold T.cut
    have h1 := cut_len d l (n + 1)
    have h2 := cut_len d r (n + 1)
    split <;> rw [T.joined_lvs] <;> simp only [T.lvs, List.length_append] <;> omega

/-- what Drop's last region knows of a world -/
structure DrAt (w W : World) (tp pn pt : Nat) (d : List UInt8) : Prop where
  box : Blk W w.heap.size 23 (bs d)
  tree : Blk W tp 90 [.pointer (some ⟨pn, 0, none⟩), .pointer (some ⟨pt, 0, none⟩)]
theorem DrAt.below {w W W' : World} {tp pn pt : Nat} {d : List UInt8} (h : DrAt w W tp pn pt d) (hb : Below W.heap.size W W') : DrAt w W' tp pn pt d := ⟨h.box.below hb, h.tree.below hb⟩
theorem DrAt.drew {w W : World} {tp pn pt : Nat} {d : List UInt8} (h : DrAt w W tp pn pt d) : DrAt w W.drew tp pn pt d := h.below ⟨rfl, rfl, rfl, Nat.le_refl _, fun _ _ => rfl⟩
theorem drop_cut {t : T} (h : t.wf 0) {d : List UInt8} (hm : ∃ y ∈ t.lvs, y.path = d) : (T.cut t d 0).wf 0 ∧ ∀ y, y ∈ (T.cut t d 0).lvs ↔ y ∈ dropL t.lvs d := cut_whole h hm
theorem find_some {l : List Lf} {d : List UInt8} : (findL l d).isSome = true ↔ ∃ y ∈ l, y.path = d := by
  unfold findL
  simp [List.find?_isSome]
theorem drop_same {l : List Lf} {d : List UInt8} (h : (findL l d).isSome = false) : dropL l d = l := by
  unfold dropL
  rw [List.filter_eq_self]
  intro y hy
  cases e : (y.path == d)
  · rfl
  · have : (findL l d).isSome = true := find_some.2 ⟨y, hy, by simpa using e⟩
    rw [h] at this; cases this

end
end
/-! A tree as the set of its leaves: what the calls make of it. -/
section
open Go.RowKit

theorem perm_of_mem {l m : List Lf} (hl : unlike l) (hm : unlike m) (h : ∀ y, y ∈ l ↔ y ∈ m) : l.Perm m :=
  (List.perm_ext_iff_of_nodup (unlike_nodup hl) (unlike_nodup hm)).2 h
theorem setF_perm {l m k : List Lf} (h : ∀ y, y ∈ l ↔ y ∈ m) (hl : unlike l) (hm : unlike m) (hk : unlike k) : (setF l k).Perm (setF m k) :=
  perm_of_mem (setF_unlike k l hl) (setF_unlike k m hm) fun y => by rw [setF_mem k l hk, setF_mem k m hk, h]
theorem set_same {l m k : List Lf} (h : ∀ y, y ∈ l ↔ y ∈ m) (hl : unlike l) (hm : unlike m) : setE l k = setE m k ∧ ∀ y, y ∈ setI l k ↔ y ∈ setI m k := by
  unfold setE setI
  by_cases h1 : 4096 < k.length
  · simp only [if_pos h1]; exact ⟨trivial, h⟩
  · simp only [if_neg h1]
    cases ht : twiceB k
    · have hp := setF_perm h hl hm ((twiceB_iff k).1 ht)
      rw [hp.length_eq]
      simp only [Bool.false_eq_true, if_false]
      by_cases h2 : 4096 < (setF m k).length
      · simp only [if_pos h2]; exact ⟨trivial, h⟩
      · simp only [if_neg h2]; exact ⟨trivial, fun y => hp.mem_iff⟩
    · exact ⟨rfl, h⟩
theorem setI_unlike {l k : List Lf} (hl : unlike l) : unlike (setI l k) := by
  unfold setI
  split
  · exact hl
  · split
    · exact hl
    · split
      · exact hl
      · exact setF_unlike k l hl
theorem setI_len {l k : List Lf} (hl : l.length ≤ 4096) : (setI l k).length ≤ 4096 := by
  unfold setI
  split
  · exact hl
  · split
    · exact hl
    · split
      · exact hl
      · omega
theorem find_same {l m : List Lf} (h : ∀ y, y ∈ l ↔ y ∈ m) (hl : unlike l) (hm : unlike m) (d : List UInt8) : findL l d = findL m d := by
  cases e : findL m d with
  | none =>
    refine find_not fun x hx e2 => ?_
    have := find_mem hm ((h x).1 hx)
    rw [e2, e] at this; cases this
  | some y =>
    have h1 := List.mem_of_find?_eq_some e
    have h2 : y.path = d := by have := List.find?_some e; simpa using this
    rw [← h2]
    exact find_mem hl ((h y).2 h1)

/-- a tree of width x whose leaves are L -/
structure Sm (w0 : World) (x tp : Nat) (L : List Lf) (W : World) : Prop where
  out : ∃ G pn pt t, Inv w0.heap.size x G noL W ∧ Tr w0.heap.size G W tp pn pt t ∧ t.wf 0 ∧ ∀ y, y ∈ t.lvs ↔ y ∈ L
  bel : Below w0.heap.size w0 W
  unl : unlike L
  few : L.length ≤ 4096
section
variable {w0 W W' : World} {x tp : Nat} {L : List Lf}
theorem Sm.below (h : Sm w0 x tp L W) (hb : Below W.heap.size W W') : Sm w0 x tp L W' := by
  obtain ⟨⟨G, pn, pt, t, h1, h2, h3, h4⟩, h5, h6, h7⟩ := h
  exact ⟨⟨G, pn, pt, t, h1.below hb, h2.later (fun _ _ h => h) hb, h3, h4⟩, Bt h5 hb, h6, h7⟩
theorem Sm.low (h : Sm w0 x tp L W) : w0.heap.size ≤ tp ∧ tp < W.heap.size := by
  obtain ⟨⟨G, pn, pt, t, h1, h2, h3, h4⟩, h5, h6, h7⟩ := h
  exact ⟨h2.low, h2.blk.lt⟩
/-- a variable of a kind that no tree has, behind it -/
theorem Sm.put (h : Sm w0 x tp L W) {g : Nat} {ty : TypeId} {vs : List Value} (hg : W.grownBy W' (some g)) (hk : Blk W g ty vs) (h1 : ty ≠ 88) (h2 : ty ≠ 46) (h3 : ty ≠ 90) (h0 : w0.heap.size ≤ g) : Sm w0 x tp L W' := by
  obtain ⟨⟨G, pn, pt, t, q1, q2, q3, q4⟩, h5, h6, h7⟩ := h
  have hne : g ≠ tp := fun e => by subst e; exact h3 (hk.kind q2.blk).1
  exact ⟨⟨G, pn, pt, t, q1.grown hg (hk.not h1) (hk.not h2), ⟨q2.blk.grown hg (by simpa using hne), q2.low, q2.no, q2.top⟩, q3, q4⟩, h5.grown hg h5.size (fun k e => by cases e; exact h0), h6, h7⟩

theorem sm_new (w0 W : World) (x : Nat) (hx : x ≤ 32) (hb : Below w0.heap.size w0 W) :
    Calls Tryd.prog 19 #[.int .i64 (x : Int)] W fun e w' => ∃ tp, e = .returned (.tuple #[.pointer (some ⟨tp, 0, none⟩), .int .i64 0]) ∧ Sm w0 x tp [] w' ∧ Below W.heap.size W w' := by
  refine (snew_any W x hx w0.heap.size hb.size (fun _ => none) (Inv.start _ x noL W)).mono ?_
  rintro e w' ⟨tp, pn, G, rfl, h1, h2, -, -, h5⟩
  exact ⟨tp, rfl, ⟨⟨G, pn, pn, .none, h2, h1, trivial, fun y => by simp [T.lvs]⟩, Bt hb h5, List.Pairwise.nil, by simp⟩, h5⟩
theorem sm_set (h : Sm w0 x tp L W) (a : Option Addr) (n c : Nat) (l : List Lf) (hr : RdL W a n c l) (hs : n ≤ 4096 → SortsAt n) :
    Calls Tryd.prog 31 #[.pointer (some ⟨tp, 0, none⟩), .slice a n c] W fun e w' => e = .returned (.int .i64 (setE L l)) ∧ Sm w0 x tp (setI L l) w' ∧ W.grownBy w' (some tp) := by
  obtain ⟨⟨G, pn, pt, t, q1, q2, q3, q4⟩, h5, h6, h7⟩ := h
  have hp := whole_perm q3 h6 q4
  obtain ⟨e1, e2⟩ := set_same (k := l) q4 (T.wf_unlike t 0 q3) h6
  refine (set_any w0.heap.size x G W tp pn pt t a n c l h5.size q1 q2 q3 (by rw [hp.length_eq]; exact h7) hr hs).mono ?_
  rintro e w' ⟨rfl, ⟨G', pt', t', r1, r2, r3, r4, r5⟩, hg⟩
  exact ⟨by rw [e1], ⟨⟨G', pn, pt', t', r2, r1, r4, fun y => (r5 y).trans (e2 y)⟩, h5.grown hg h5.size (fun k e => by cases e; exact q2.low), setI_unlike h6, setI_len h7⟩, hg⟩
theorem sm_get (h : Sm w0 x tp L W) (d : List UInt8) (hd : d.length = 32) :
    Calls Tryd.prog 32 #[.pointer (some ⟨tp, 0, none⟩), .agg (bs d).toArray] W fun e w' => e = .returned (.tuple #[.agg (bs (valOf (findL L d))).toArray, .bool (findL L d).isSome]) ∧ Below W.heap.size W w' := by
  obtain ⟨⟨G, pn, pt, t, q1, q2, q3, q4⟩, h5, h6, h7⟩ := h
  have hf := find_same q4 (T.wf_unlike t 0 q3) h6 d
  refine (get_any w0.heap.size x G W tp pn pt t d hd q1 q2 q3).mono ?_
  rintro e w' ⟨rfl, hb⟩
  exact ⟨by rw [hf], hb⟩
theorem Sm.ok (h : Sm w0 x tp L W) : oks L := by
  obtain ⟨⟨G, pn, pt, t, q1, q2, q3, q4⟩, h5, h6, h7⟩ := h
  exact fun y hy => T.wf_oks t 0 q3 y ((q4 y).2 hy)
theorem Sm.val (h : Sm w0 x tp L W) (d : List UInt8) : (valOf (findL L d)).length = 32 := by
  cases e : findL L d with
  | none => exact zero32_length
  | some y => exact (h.ok y (List.mem_of_find?_eq_some e)).2
/-- whatever has another kind stands beside the tree -/
theorem Sm.ne (h : Sm w0 x tp L W) {k : Nat} {ty : TypeId} {vs : List Value} (hb : Blk W k ty vs) (ht : ty ≠ 90) : tp ≠ k := by
  obtain ⟨⟨G, pn, pt, t, q1, q2, q3, q4⟩, h5, h6, h7⟩ := h
  intro e
  subst e
  exact ht (hb.kind q2.blk).1
/-- what isn't a node stays as it is -/
def Keeps (W W' : World) : Prop := ∀ k ty vs, Blk W k ty vs → ty ≠ 88 → Blk W' k ty vs
end
end
end
/-! Law05N Law05D, in one text. -/
section
/-! A tree that leaves came into and went from; no tree: SmtNil. -/
section
open Go.RowKit

theorem run_field0 (W : World) {y : Lf} (hy : y.ok) : (Instr.field 46 (.agg (lc y).toArray) 0).run Tryd.prog W = .ok (.agg (bs y.path).toArray) W := by
  have hf := leaf_fields
  have hu := leaf_under
  generalize Tryd.prog.fieldsOf 46 = F at *
  obtain ⟨f, g, hF⟩ : ∃ f g, F.toList = [f, g] := by
    match h : F.toList with
    | [f, g] => exact ⟨f, g, rfl⟩
    | [] => rw [h] at hf; simp at hf
    | [_] => rw [h] at hf; simp at hf
    | _ :: _ :: _ :: _ => rw [h] at hf; simp at hf
  rw [hF] at hf
  simp only [List.map_cons, List.map_nil, List.cons.injEq, Prod.mk.injEq, and_true] at hf
  obtain ⟨⟨f1, f2, f3⟩, -⟩ := hf
  have h0 : F[0]? = some f := by rw [← Array.getElem?_toList, hF]; rfl
  unfold Instr.field
  rw [Sem.run_bind, run_underlying hu W]
  simp only [Result.andThen_ok, h0, Sem.run_bind, asAgg, Sem.run_pure, f2, f3, part_digest, lc_path hy]
theorem neq_ab : (lfA.path == lfB.path) = false := by decide
theorem setF_ab : setF [] [lfA, lfB] = [lfA, lfB] := by
  have h := neq_ab
  simp [setF, dropL, h]
theorem set_ba : setE [] [lfA, lfB] = 0 ∧ setI [] [lfA, lfB] = [lfA, lfB] := by
  obtain ⟨h1, h2⟩ := set_nil [lfA, lfB]
  have ht : twiceB [lfA, lfB] = false := by decide
  rw [h1, h2, ht, setF_ab]
  exact ⟨rfl, rfl⟩
theorem drop_b : (findL [lfA, lfB] lfB.path).isSome = true ∧ dropL [lfA, lfB] lfB.path = [lfA] := by
  have h := neq_ab
  simp [findL, dropL, h]
theorem find_b : findL [lfA] lfB.path = none := by
  have h := neq_ab
  simp [findL, h]
theorem rootA : rootL 32 [lfA] = shortI 32 ([0] ++ lfA.path ++ lfA.val) := by
  simp [rootL, digestF, leafD, shortI]

/-- a composite literal whose cells are known, under a guard -/
theorem wpList_buildW {w : World} {ops : Array Oper} {rest : List Oper} {o : Oper} {a : Act} {Q : Exit → Act → World → Prop} (hw : Region.wanted o (yielded ops a.tmps) = true) (T : TypeId) (parts : Array (Nat × Operand)) (ho : o.op = .build T parts)
    {vs : List Value} {ps : List (Nat × Value)} (hp : parts.toList.map (fun p => (p.1, a.eval p.2)) = ps) (hb : Tryd.prog.built T ps = some vs.toArray)
    (h : wpList Tryd.prog ops Q rest (a.put o.dst (.agg vs.toArray)) w) : wpList Tryd.prog ops Q (o :: rest) a w := by
  have hb : Tryd.prog.built T (parts.map fun (i, x) => (i, a.eval x)).toList = some vs.toArray := by rw [Array.toList_map]; rw [← hb, ← hp]
  refine wpList_step fun K hK => ?_
  rw [if_pos hw]
  refine wp_build T parts ho (by rw [hb]; rfl) ?_
  rw [hb]
  exact hK _ _ h

/-! ### no tree -/
section
set_option maxRecDepth 100000
theorem get_no (w : World) (d : List UInt8) :
    Calls Tryd.prog 32 #[.pointer none, .agg (bs d).toArray] w fun e w' => e = .returned (.tuple #[.agg (bs zero32).toArray, .bool false]) ∧ Below w.heap.size w w' := by
  have H6 := Lib.hid (show (Tryd.prog.info? 23).map (·.size) = some (bs zero32).length by rw [info_digest, bs_length, zero32_length])
  have H7 := bs_one zero32
  have HBT := Lib.hid built0
  have hB0 : Below w.heap.size w (w.alloc (.cells (bs d).toArray 23)) := (Below.refl _ w).alloc (Nat.le_refl _) _
  have hz0 : (w.alloc (.cells (bs d).toArray 23)).heap.size = w.heap.size + 1 := by simp
  go_enter Tryd.func32, Tryd.ntmps32
  go_wp2_with (first | ((with_reducible refine wpList_allocB (o := ⟨some 4, _, _, _, _, _⟩) ?_ 23 ?_ zeroD_info ?_); rfl; rfl; intro w1 hr1 hg1 hz1; rw [hz0] at hr1) | ((with_reducible refine wpList_buildI (dst := some 10) HBT.out ?_ ?_); rfl) | ((with_reducible refine wpList_storeB (o := ⟨none, .store 23 (.tmp 4) (.tmp 10), _, _, _, _⟩) ?_ 23 (.tmp 4) (.tmp 10) ?_ ?_ ?_ hr1 H6.out rfl H7 ?_); rfl; rfl; rfl; rfl; intro w8 hb8 hg8 hz8))
  try simp only [Exit.inBlock, Exit.then]
  refine bodyPost_ret (results_digest2 rfl _ _ _ _ _ zero32_length rfl hb8.at_) rfl ⟨rfl, ?_⟩
  exact below_of_grown' (hB0.grown hg1 hB0.size (fun k e => by cases e)) hg8 (by omega)
theorem set_no (w : World) (a : Option Addr) (n c : Nat) :
    Calls Tryd.prog 31 #[.pointer none, .slice a n c] w fun e w' => e = .returned (.int .i64 3) ∧ Below w.heap.size w w' := by
  go_enter Tryd.func31, Tryd.ntmps31
  go_wp2_with fail
  go_ret
  exact ⟨rfl, Below.refl _ _⟩
theorem leaves_no (w : World) : Calls Tryd.prog 34 #[.pointer none] w fun e w' => e = .returned (.slice none 0 0) ∧ Below w.heap.size w w' := by
  go_enter Tryd.func34, Tryd.ntmps34
  go_wp2_with fail
  go_ret
  exact ⟨rfl, Below.refl _ _⟩
end

end
/-! SmtBack: a leaf that comes and goes. -/
section
open Go.RowKit

/-- what SmtBack's last region knows of a world -/
structure BackAt (w W : World) (b g : Nat) (y : Lf) (d : List UInt8) : Prop where
  box : Blk W b 46 (lc y)
  dig : Blk W g 23 (bs d)
  bel : Below w.heap.size w W
section
variable {w W W' : World} {b g : Nat} {y : Lf} {d : List UInt8}
theorem BackAt.below (h : BackAt w W b g y d) (hb : Below W.heap.size W W') : BackAt w W' b g y d := ⟨h.box.below hb, h.dig.below hb, Bt h.bel hb⟩
theorem BackAt.drew (h : BackAt w W b g y d) : BackAt w W.drew b g y d := h.below ⟨rfl, rfl, rfl, Nat.le_refl _, fun _ _ => rfl⟩
theorem BackAt.grown (h : BackAt w W b g y d) {tp : Nat} (hg : W.grownBy W' (some tp)) (h1 : tp ≠ b) (h2 : tp ≠ g) (h0 : w.heap.size ≤ tp) : BackAt w W' b g y d :=
  ⟨h.box.grown hg (by simpa using h1), h.dig.grown hg (by simpa using h2), h.bel.grown hg h.bel.size (fun k e => by cases e; exact h0)⟩
theorem BackAt.kept (h : BackAt w W b g y d) (hk : Keeps W W') (hB : Below w.heap.size W W') : BackAt w W' b g y d := ⟨hk _ _ _ h.box (by decide), hk _ _ _ h.dig (by decide), h.bel.trans hB⟩
end

/-- one leaf of a new path -/
theorem set_one {L : List Lf} {y : Lf} (h : (findL L y.path).isSome = false) (hl : L.length + 1 ≤ 4096) : setE L [y] = 0 ∧ setI L [y] = L ++ [y] := by
  have h1 : setF L [y] = L ++ [y] := by rw [setF, setF, drop_same h]
  have h2 : twiceB [y] = false := by simp [twiceB]
  have h3 : ¬ 4096 < [y].length := by simp
  have h4 : ¬ 4096 < (L ++ [y]).length := by simp; omega
  unfold setE setI
  rw [h1, h2, if_neg h3, if_neg h3]
  simp only [Bool.false_eq_true, if_false, if_neg h4]
  exact ⟨trivial, trivial⟩
theorem find_one {L : List Lf} {y : Lf} (h : (findL L y.path).isSome = false) : findL (L ++ [y]) y.path = some y := by
  unfold findL at h ⊢
  rw [List.find?_append]
  cases e : L.find? fun x => x.path == y.path with
  | none => simp
  | some z => rw [e] at h; cases h
theorem drop_one {L : List Lf} {y : Lf} (h : (findL L y.path).isSome = false) : dropL (L ++ [y]) y.path = L := drop_put y (by
  cases e : findL L y.path with
  | none => rfl
  | some z => rw [e] at h; cases h)
/-- leaves set into nothing -/
theorem set_first {l : List Lf} (h : setE [] l = 0) (hl : l.length ≤ 200) : (setI [] l).length = l.length := by
  obtain ⟨h1, h2⟩ := set_nil l
  rw [h1, if_pos (by omega)] at h
  cases ht : twiceB l
  · rw [h2, if_pos (by omega), ht]
    have hu := (twiceB_iff l).1 ht
    exact (perm_of_mem (setF_unlike l [] List.Pairwise.nil) hu (fun y => by rw [setF_mem l [] hu]; simp)).length_eq
  · rw [ht] at h; simp at h

end
end
end
end
/-! Law05C Con05W Law05E, in one text. -/
section
/-! Law05C Law05E, in one text. -/
section
/-! The walk of SmtRoots. -/
section
open Go.RowKit
/-- a whole array out of a variable, behind a guard that says yes -/
theorem wpList_loadF {w : World} {ops : Array Oper} {rest : List Oper} {o : Oper} {a : Act} {Q : Exit → Act → World → Prop} (hw : Region.wanted o (yielded ops a.tmps) = true) (ty : TypeId) (x : Operand) (ho : o.op = .load ty x)
    {g : Nat} (hx : a.eval x = .pointer (some ⟨g, 0, none⟩)) {t : TypeId} {vs : List Value} {d : TypeDesc} (hg : Blk w g t vs) (hu : Tryd.prog.underlying ty = some d) (hd : d.isRow = true)
    (hi : (Tryd.prog.info? ty).map (·.size) = some vs.length)
    (h : wpList Tryd.prog ops Q rest (a.put o.dst (.agg vs.toArray)) w) : wpList Tryd.prog ops Q (o :: rest) a w :=
  wpList_step fun K hK => by
    rw [if_pos hw]
    exact wp_load_mid ty x ho g 0 hx vs d (hg.range 0 (fun j hj => by simp)) hu hd hi (hK _ _ h)
/-- two arrays held against each other, behind a guard that says yes -/
theorem wpList_eqF {w : World} {ops : Array Oper} {rest : List Oper} {o : Oper} {a : Act} {Q : Exit → Act → World → Prop} (hw : Region.wanted o (yielded ops a.tmps) = true) (op : BinOp) (t t' : TypeId) (x y : Operand) (ho : o.op = .binOp op t x y t')
    (xs ys : Array Value) (hx : a.eval x = .agg xs) (hy : a.eval y = .agg ys) (hm : Tryd.prog.eqGuardType Tryd.prog.depth t = false) (v : Value) (hrun : ∀ W : World, (binOp op t (.agg xs) (.agg ys)).run Tryd.prog W = .ok v W)
    (h : wpList Tryd.prog ops Q rest (a.put o.dst v) w) : wpList Tryd.prog ops Q (o :: rest) a w :=
  wpList_step fun K hK => by
    rw [if_pos hw]
    have hr : (execOp a.eval o).run Tryd.prog w = .ok (.value v) w := by
      simp [execOp, ho, hx, hy, run_eqGuard_agg w op t x y xs ys hm, hrun]
    unfold Oper.wp
    rw [hr, Oper.upon_value]
    exact hK _ _ h

/-- the error alone, of many leaves -/
theorem rootE_not {x : Int} (h : ¬ (0 ≤ x ∧ x ≤ 32)) (l : List Lf) : rootE x l = 1 := by simp only [rootE, if_neg h]
theorem rootE_long {x : Int} (h : 0 ≤ x ∧ x ≤ 32) {l : List Lf} (hl : 4096 < l.length) : rootE x l = 2 := by simp only [rootE, if_pos h, if_neg (by omega : ¬ l.length ≤ 4096)]
theorem rootE_fits {x : Int} (h : 0 ≤ x ∧ x ≤ 32) {l : List Lf} (hl : l.length ≤ 4096) : rootE x l = if twiceB l then 30 else 0 := by simp only [rootE, if_pos h, if_pos hl]

end
/-! SmtOrder: leaves in another order. -/
section
open Go.RowKit Go.Sort

theorem RdI.ints {w : World} {a : Option Addr} {n c : Nat} {zs : List Int} (h : RdI w a n c zs) (hn : 0 < n) : ∃ b off, a = some ⟨b, off, none⟩ ∧ ∀ i, i < n → w.cell? ⟨b, off + i, none⟩ = some (.int .i64 (zs.getD i 0)) := by
  cases a with
  | none => have := h.nil rfl; omega
  | some ad =>
    have hl := h.len
    obtain ⟨b, off, sp⟩ := ad
    have h0 := h.cell _ rfl 0 (by omega)
    obtain rfl : sp = none := by simpa [Addr.add] using World.cell?_spot h0
    refine ⟨b, off, rfl, fun i hi => ?_⟩
    have := h.cell _ rfl i (by omega)
    rw [Addr.add_lit] at this
    rw [this]
    simp [List.getD, show i < zs.length by omega]
theorem swap_splice {d : Array Lf} (hok : oks d.toList) {n i j : Nat} (hn : d.size = n) (hi : i < n) (hj : j < n) (rest : List Value) :
    splice (splice (lcs d.toList ++ rest) (i * 64) (lc d[j]!)) (j * 64) (lc d[i]!) = lcs (swp d i j).toList ++ rest := by
  have g : ∀ q, q < n → d[q]!.ok := fun q hq => by rw [getElem!_pos d q (by omega)]; exact hok _ (by simp)
  have hl : (lcs d.toList).length = n * 64 := by rw [lcs_length hok, Array.length_toList, hn]
  have hL : (lcs d.toList ++ rest).length = n * 64 + rest.length := by rw [List.length_append, hl]
  have hxi := lc_length (g i hi)
  have hxj := lc_length (g j hj)
  have hi64 : i * 64 + 64 ≤ n * 64 := by omega
  have hj64 : j * 64 + 64 ≤ n * 64 := by omega
  have hok2 := swp_oks hok (i := i) (j := j) (by omega) (by omega)
  have hsz : (swp d i j).size = n := by rw [size_swp, hn]
  have hs1 : (splice (lcs d.toList ++ rest) (i * 64) (lc d[j]!)).length = n * 64 + rest.length := by
    unfold splice
    simp only [List.length_append, List.length_take, List.length_drop, hxj, hl]
    omega
  refine List.ext_getElem? fun t => ?_
  have hl2 : (lcs (swp d i j).toList).length = n * 64 := by rw [lcs_length hok2, Array.length_toList, hsz]
  rw [splice_get _ _ _ (by rw [hxi, hs1]; omega), splice_get _ _ _ (by rw [hxj, hL]; omega), hxi, hxj]
  by_cases ht : t < n * 64
  · rw [List.getElem?_append_left (by omega : t < (lcs (swp d i j).toList).length), List.getElem?_append_left (by omega : t < (lcs d.toList).length)]
    have hq : t / 64 < n := by omega
    have hr : t % 64 < 64 := Nat.mod_lt _ (by decide)
    have et : t = t / 64 * 64 + t % 64 := by omega
    have a1 := lcs_at hok2 (t / 64) (t % 64) (by simp [size_swp, hn, hq]) hr
    have a2 := lcs_at hok (t / 64) (t % 64) (by simp [hn, hq]) hr
    rw [← et, get_list] at a1 a2
    rw [a1, a2, swp_get d (by omega) (by omega)]
    by_cases h1 : t / 64 = j
    · rw [if_pos (by omega), if_pos h1, show t - j * 64 = t % 64 by omega]
    · rw [if_neg (by omega), if_neg h1]
      by_cases h2 : t / 64 = i
      · rw [if_pos (by omega), if_pos h2, show t - i * 64 = t % 64 by omega]
      · rw [if_neg (by omega), if_neg h2]
  · rw [if_neg (by omega), if_neg (by omega), List.getElem?_append_right (by omega), List.getElem?_append_right (by omega), hl, hl2]

/-- the own row, in whatever order -/
structure Oth (w W : World) (a1 : Option Addr) (n c1 : Nat) (l : List Lf) (d : Array Lf) : Prop where
  rd : RdL W a1 n c1 d.toList
  perm : d.toList.Perm l
  bel : Below w.heap.size w W
  blk : 0 < n → ∃ g rest, a1 = some ⟨g, 0, none⟩ ∧ w.heap.size ≤ g ∧ Blk W g 46 (lcs d.toList ++ rest)
theorem swp_perm {d : Array Lf} {i j : Nat} (hi : i < d.size) (hj : j < d.size) : (swp d i j).toList.Perm d.toList := by
  have h := (swp_permIn d 0 d.size i j (Nat.zero_le _) hi (Nat.zero_le _) hj (Nat.le_refl _)).2.2
  have e1 : (swp d i j).extract 0 d.size = swp d i j := by rw [← size_swp d i j]; simp
  have e2 : d.extract 0 d.size = d := by simp
  rwa [e1, e2] at h

end
end
/-! list: the leaves below a node, appended to a row of one's own. -/
section
open Go.RowKit
theorem below_drew0 {w W : World} {B : Nat} (h : Below B w W) : Below B w W.drew := ⟨h.os, h.tape, h.output, h.size, h.block⟩

set_option maxRecDepth 100000 in
set_option maxHeartbeats 2000000 in
theorem list_any (base x : Nat) (G : Tag) (w0 : World) (hI : Inv base x G noL w0) : ∀ (t : T) (n p : Nat) (W : World) (a : Option Addr) (m c : Nat) (q : List Lf), G p = some t → t.wf n → Below w0.heap.size w0 W → OwnL W w0.heap.size (.slice a m c) q → q.length + t.lvs.length ≤ 100000 →
    Calls Tryd.prog 61 #[.pointer (some ⟨p, 0, none⟩), .slice a m c] W fun e w' => ∃ a' c', e = .returned (.slice a' (m + t.lvs.length) c') ∧ OwnL w' w0.heap.size (.slice a' (m + t.lvs.length) c') (q ++ t.lvs) ∧ Below w0.heap.size w0 w' := by
  intro t
  induction t with
  | none =>
    intro n p W a m c q hp ht hB hO hsz
    obtain ⟨dn, sum, lf, le, ri, hN⟩ := hI.nd hp
    have c2 : W.cell? ⟨p, 36, none⟩ = some (.int .i64 0) := cell_later hB hN.size
    go_enter Tryd.func61, Tryd.ntmps61
    go_wp2_with fail
    go_ret
    exact ⟨a, c, by simp [T.lvs], by simpa [T.lvs] using hO, hB⟩
  | one y =>
    intro n p W a m c q hp ht hB hO hsz
    obtain ⟨dn, sum, lf, le, ri, hN⟩ := hI.nd hp
    have c2 : W.cell? ⟨p, 36, none⟩ = some (.int .i64 1) := cell_later hB hN.size
    have hk := hN.kids
    obtain ⟨ql, rfl, hql, hqb⟩ := hk
    have c3 := cell_later hB hN.leaf
    have hyo : y.ok := ht
    have HY := Lib.hid (show (Tryd.prog.info? 46).map (·.size) = some (lc y).length by rw [lc_length hyo]; exact infoLeafS)
    have hqW := hqb.below hB
    have rl := hqW.allR
    have hm : m = q.length := by
      obtain ⟨a', c', e⟩ := hO.shape
      cases e; rfl
    subst hm
    have hr1 := RdL.one W hyo
    have hO1 := hO.below ((Below.refl _ W).alloc (Nat.le_refl _) (.cells (lc y).toArray 46))
    have hB1 := hB.alloc hB.size (.cells (lc y).toArray 46)
    have hlow := fun z (e : (Value.slice a q.length c).ownBlock = some z) => (hO.lt e).1
    go_enter Tryd.func61, Tryd.ntmps61
    go_wp2_with (first | ((with_reducible refine wpList_loadM (o := ⟨some 20, _, _, _, _, _⟩) ?_ ql 0 46 (.tmp 19) ?_ ?_ rl Tryd.underlying46 ?_ HY.out ?_); rfl; rfl; rfl; rfl) | ((with_reducible refine wpList_oneL (o := ⟨some 21, _, _, _, _, _⟩) ?_ (.tmp 20) ?_ ?_ hyo ?_); rfl; rfl; rfl) | (at_builtin; refine wpList_appL (base := w0.heap.size) (v := .slice a q.length c) (q := q) rfl (.tmp 14) (.tmp 21) rfl rfl hO1 rfl hr1 (by simp [T.lvs] at hsz; omega) (by have := hB1.size; exact this) ?_; intro a3 c3 w3 hO3 hg3 _))
    go_ret
    exact ⟨a3, c3, by simp [T.lvs], by simpa [T.lvs] using hO3, hB1.grown hg3 hB1.size (fun z e => hlow z e)⟩
  | two l r ihl ihr =>
    intro n p W a m c q hp ht hB hO hsz
    obtain ⟨dn, sum, lf, le, ri, hN⟩ := hI.nd hp
    have hk := hN.kids
    obtain ⟨pl, pr, rfl, rfl, hpl, hpr⟩ := hk
    have h2 := T.size_two ht
    have c2 := cell_later hB hN.size
    have hlen : (T.two l r).lvs.length = l.lvs.length + r.lvs.length := by simp [T.lvs]
    have hne0 : (((T.two l r).lvs.length : Int) == 0) = false := by rw [beq_eq_false_iff_ne]; omega
    have hne1 : (((T.two l r).lvs.length : Int) == 1) = false := by rw [beq_eq_false_iff_ne]; omega
    rw [hlen] at hsz
    have IL := Lib.hid (fun (W' : World) (hB' : Below w0.heap.size w0 W') hO' => ihl (n + 1) pl W' a m c q hpl ht.2.1 hB' hO' (by omega))
    have IR := Lib.hid (fun (W' : World) (hB' : Below w0.heap.size w0 W') (a' : Option Addr) (c' : Nat) hO' => ihr (n + 1) pr W' a' (m + l.lvs.length) c' (q ++ l.lvs) hpr ht.2.2.1 hB' hO' (by rw [List.length_append]; omega))
    have HL := Lib.hid (show (T.two l r).lvs = l.lvs ++ r.lvs from rfl)
    have HLEN := Lib.hid hlen
    have hOd := hO.below (below_drew (Below.refl W.heap.size W))
    have hwl := ht.2.1
    generalize (T.two l r).lvs = LV at *
    generalize LV.length = ln at *
    generalize hml : m + l.lvs.length = ml at *
    have HML := Lib.hid hml
    clear hml hsz h2 ht
    clear hlen ihl ihr
    go_enter Tryd.func61, Tryd.ntmps61
    go_wp2_with fail
    -- REGION list 4
    refine wp_region_held_drew (S := fun W => Below w0.heap.size w0 W) (by kernel_rfl) (below_drew0 hB) (fun hHeld => ?_)
    refine wpAnyH_take (i := 0) (oi := ⟨some 23, .move (.tmp 0), _, _, _, none⟩) (v := ?_) rfl (by kernel_rfl) (by kernel_rfl) (by kernel_rfl) (fun _ _ _ h => h) (Or.inl ⟨by rfl, ?_⟩) hHeld ?_
    rotate_left
    · intro W _; go_simp; try with_reducible rfl
    try simp only [Act.put, List.setIfInBounds_toArray, List.set_cons_zero, List.set_cons_succ]
    refine wpAnyH_take (i := 1) (oi := ⟨some 24, .nilCheck (.tmp 23), _, _, _, none⟩) (v := ?_) rfl (by kernel_rfl) (by kernel_rfl) (by kernel_rfl) (fun _ _ _ h => h) (Or.inl ⟨by rfl, ?_⟩) hHeld ?_
    rotate_left
    · intro W _; go_simp; try with_reducible rfl
    try simp only [Act.put, List.setIfInBounds_toArray, List.set_cons_zero, List.set_cons_succ]
    refine wpAnyH_take (i := 2) (oi := ⟨some 25, .fieldAddr 88 (.tmp 24) 5, _, _, _, none⟩) (v := ?_) rfl (by kernel_rfl) (by kernel_rfl) (by kernel_rfl) (fun _ _ _ h => h) (Or.inl ⟨by rfl, ?_⟩) hHeld ?_
    rotate_left
    · intro W _; go_simp; try with_reducible rfl
    try simp only [Act.put, List.setIfInBounds_toArray, List.set_cons_zero, List.set_cons_succ]
    refine wpAnyH_take (i := 3) (oi := ⟨some 26, .load 71 (.tmp 25), _, _, _, none⟩) (v := ?_) rfl (by kernel_rfl) (by kernel_rfl) (by kernel_rfl) (fun _ _ _ h => h) (Or.inl ⟨by rfl, ?_⟩) hHeld ?_
    rotate_left
    · intro W hS; have h0 := cell_later hS hN.right; go_simp; try with_reducible rfl
    try simp only [Act.put, List.setIfInBounds_toArray, List.set_cons_zero, List.set_cons_succ]
    refine wpAnyH_take (i := 4) (oi := ⟨some 27, .move (.tmp 0), _, _, _, none⟩) (v := ?_) rfl (by kernel_rfl) (by kernel_rfl) (by kernel_rfl) (fun _ _ _ h => h) (Or.inl ⟨by rfl, ?_⟩) hHeld ?_
    rotate_left
    · intro W _; go_simp; try with_reducible rfl
    try simp only [Act.put, List.setIfInBounds_toArray, List.set_cons_zero, List.set_cons_succ]
    refine wpAnyH_take (i := 5) (oi := ⟨some 28, .nilCheck (.tmp 27), _, _, _, none⟩) (v := ?_) rfl (by kernel_rfl) (by kernel_rfl) (by kernel_rfl) (fun _ _ _ h => h) (Or.inl ⟨by rfl, ?_⟩) hHeld ?_
    rotate_left
    · intro W _; go_simp; try with_reducible rfl
    try simp only [Act.put, List.setIfInBounds_toArray, List.set_cons_zero, List.set_cons_succ]
    refine wpAnyH_take (i := 6) (oi := ⟨some 29, .fieldAddr 88 (.tmp 28) 4, _, _, _, none⟩) (v := ?_) rfl (by kernel_rfl) (by kernel_rfl) (by kernel_rfl) (fun _ _ _ h => h) (Or.inl ⟨by rfl, ?_⟩) hHeld ?_
    rotate_left
    · intro W _; go_simp; try with_reducible rfl
    try simp only [Act.put, List.setIfInBounds_toArray, List.set_cons_zero, List.set_cons_succ]
    refine wpAnyH_take (i := 7) (oi := ⟨some 30, .load 71 (.tmp 29), _, _, _, none⟩) (v := ?_) rfl (by kernel_rfl) (by kernel_rfl) (by kernel_rfl) (fun _ _ _ h => h) (Or.inl ⟨by rfl, ?_⟩) hHeld ?_
    rotate_left
    · intro W hS; have h0 := cell_later hS hN.left; go_simp; try with_reducible rfl
    try simp only [Act.put, List.setIfInBounds_toArray, List.set_cons_zero, List.set_cons_succ]
    refine wpAnyH_take (i := 8) (oi := ⟨some 31, .move (.tmp 1), _, _, _, none⟩) (v := ?_) rfl (by kernel_rfl) (by kernel_rfl) (by kernel_rfl) (fun _ _ _ h => h) (Or.inl ⟨by rfl, ?_⟩) hHeld ?_
    rotate_left
    · intro W _; go_simp; try with_reducible rfl
    try simp only [Act.put, List.setIfInBounds_toArray, List.set_cons_zero, List.set_cons_succ]
    refine wpAnyH_ready (rs := [9]) (by kernel_rfl) (by simp) ?_
    refine AllReadyH.cons (o := ⟨some 32, .call { callee := .value (.func 61), args := #[.tmp 30, .tmp 31], argTypes := #[71, 41] }, _, _, _, none⟩) rfl (fun K hK => ?_) AllReadyH.nil
    refine step_ofR (by rfl) ?_
    go_simp
    refine (IL.out _ hHeld hOd).mono ?_
    rintro x W1 ⟨a3, c3, rfl, hO3, hB3⟩
    refine hK.out _ _ (hB3) (fun hHeld => ?_)
    clear hK K
    try simp only [Act.put, List.setIfInBounds_toArray, List.set_cons_zero, List.set_cons_succ]
    refine wpAnyH_ready (rs := [10]) (by kernel_rfl) (by simp) ?_
    refine AllReadyH.cons (o := ⟨some 33, .call { callee := .value (.func 61), args := #[.tmp 26, .tmp 32], argTypes := #[71, 41] }, _, _, _, none⟩) rfl (fun K hK => ?_) AllReadyH.nil
    refine step_ofR (by rfl) ?_
    go_simp
    refine (IR.out _ hB3 a3 c3 hO3).mono ?_
    rintro x W1 ⟨a4, c4, rfl, hO4, hB4⟩
    refine hK.out _ _ (hB4) (fun hHeld => ?_)
    clear hK K
    try simp only [Act.put, List.setIfInBounds_toArray, List.set_cons_zero, List.set_cons_succ]
    refine wpAnyH_ready (rs := [11]) (by kernel_rfl) (by simp) ?_
    refine AllReadyH.cons (o := ⟨some 4, .assign (.tmp 33), _, _, _, none⟩) rfl (fun K hK => ?_) AllReadyH.nil
    refine step_ofR (by rfl) ?_
    go_simp
    refine hK.out _ _ (hHeld) (fun hHeld => ?_)
    clear hK K
    try simp only [Act.put, List.setIfInBounds_toArray, List.set_cons_zero, List.set_cons_succ]
    refine wpAnyH_done (by kernel_rfl) ?_ _
    -- END list
    go_wp2_with fail
    go_ret
    have e : m + ln = ml + r.lvs.length := by have := HLEN.out; have := HML.out; omega
    exact ⟨a4, c4, by rw [e]; rfl, by rw [e, HL.out, ← List.append_assoc]; exact hO4, hB4⟩

/-- make([]api.Leaf, 0, n), as one step of a region that draws its order -/
theorem step_makeL {ops : Array Oper} {o : Oper} {a : Act} {w : World} {K : Act → World → Prop} {Q : Exit → Act → World → Prop} {E : Prop} (hgd : o.guard = none) (l c : Operand) (ho : o.op = .makeSlice 41 l c)
    (hl : a.eval l = .int .i64 0) (n : Nat) (hc : a.eval c = .int .i64 (n : Int)) (hn : n ≤ 100000) (base : Nat) (hb : base ≤ w.heap.size)
    (h : ∀ w', OwnL w' base (.slice (some ⟨w.heap.size, 0, none⟩) 0 n) [] → Below w.heap.size w w' → K (a.put o.dst (.slice (some ⟨w.heap.size, 0, none⟩) 0 n)) w') :
    if Region.wanted o (yielded ops a.tmps) = true then Oper.wp Tryd.prog o a w K Q else E := by
  have hw : Region.wanted o (yielded ops a.tmps) = true := by simp [Region.wanted, hgd]
  obtain ⟨i, hi, hz0, hz1, hz2⟩ := info_parts infoLeaf
  obtain ⟨w', hrun, r1, r2⟩ := run_make_own (P := Tryd.prog) w base 41 46 i _ 64 Tryd.underlying41 hi hz0 hz1 .i64 .i64 n (by rw [hz2]; omega) (by unfold maxLen; omega) hb
  have h' := h w' ⟨fun _ h => (by simp at h), r1⟩ ((Below.refl _ w).grown r2 (Nat.le_refl _) (fun k e => by cases e))
  rw [if_pos hw]
  unfold Oper.wp
  simp [execOp, ho, hl, hc, hrun, Result.andThen]
  exact h'

set_option maxRecDepth 100000 in
set_option maxHeartbeats 2000000 in
theorem leaves_any (base x : Nat) (G : Tag) (w : World) (tp pn pt : Nat) (t : T) (hI : Inv base x G noL w) (hTr : Tr base G w tp pn pt t) (hw : t.wf 0) (hsz : t.lvs.length ≤ 100000) :
    Calls Tryd.prog 34 #[.pointer (some ⟨tp, 0, none⟩)] w fun e w' => ∃ a c, e = .returned (.slice a t.lvs.length c) ∧ OwnL w' w.heap.size (.slice a t.lvs.length c) t.lvs ∧ Below w.heap.size w w' := by
  obtain ⟨dn, sum, lf, le, ri, hN⟩ := hI.nd hTr.top
  have hc1 := hTr.c1
  have hcs := hN.size
  have LI := Lib.hid (fun (W : World) (a : Option Addr) (c : Nat) (hB : Below w.heap.size w W) (hO : OwnL W w.heap.size (.slice a 0 c) []) => list_any base x G w hI t 0 pt W a 0 c [] hTr.top hw hB hO (by simpa using hsz))
  generalize hm : t.lvs.length = m at *
  go_enter Tryd.func34, Tryd.ntmps34
  go_wp2_with fail
  -- REGION leaves 2
  refine wp_region_held_drew (S := fun W => Below w.heap.size w W) (by kernel_rfl) (Below.refl _ w).drew (fun hHeld => ?_)
  refine wpAnyH_take (i := 0) (oi := ⟨some 5, .move (.tmp 0), _, _, _, none⟩) (v := ?_) rfl (by kernel_rfl) (by kernel_rfl) (by kernel_rfl) (fun _ _ _ h => h) (Or.inl ⟨by rfl, ?_⟩) hHeld ?_
  rotate_left
  · intro W _; go_simp; try with_reducible rfl
  try simp only [Act.put, List.setIfInBounds_toArray, List.set_cons_zero, List.set_cons_succ]
  refine wpAnyH_take (i := 1) (oi := ⟨some 6, .nilCheck (.tmp 5), _, _, _, none⟩) (v := ?_) rfl (by kernel_rfl) (by kernel_rfl) (by kernel_rfl) (fun _ _ _ h => h) (Or.inl ⟨by rfl, ?_⟩) hHeld ?_
  rotate_left
  · intro W _; go_simp; try with_reducible rfl
  try simp only [Act.put, List.setIfInBounds_toArray, List.set_cons_zero, List.set_cons_succ]
  refine wpAnyH_take (i := 2) (oi := ⟨some 7, .fieldAddr 90 (.tmp 6) 1, _, _, _, none⟩) (v := ?_) rfl (by kernel_rfl) (by kernel_rfl) (by kernel_rfl) (fun _ _ _ h => h) (Or.inl ⟨by rfl, ?_⟩) hHeld ?_
  rotate_left
  · intro W _; go_simp; try with_reducible rfl
  try simp only [Act.put, List.setIfInBounds_toArray, List.set_cons_zero, List.set_cons_succ]
  refine wpAnyH_take (i := 3) (oi := ⟨some 8, .load 71 (.tmp 7), _, _, _, none⟩) (v := ?_) rfl (by kernel_rfl) (by kernel_rfl) (by kernel_rfl) (fun _ _ _ h => h) (Or.inl ⟨by rfl, ?_⟩) hHeld ?_
  rotate_left
  · intro W hS; have h0 := cell_later hS hc1; go_simp; try with_reducible rfl
  try simp only [Act.put, List.setIfInBounds_toArray, List.set_cons_zero, List.set_cons_succ]
  refine wpAnyH_take (i := 4) (oi := ⟨some 9, .move (.tmp 0), _, _, _, none⟩) (v := ?_) rfl (by kernel_rfl) (by kernel_rfl) (by kernel_rfl) (fun _ _ _ h => h) (Or.inl ⟨by rfl, ?_⟩) hHeld ?_
  rotate_left
  · intro W _; go_simp; try with_reducible rfl
  try simp only [Act.put, List.setIfInBounds_toArray, List.set_cons_zero, List.set_cons_succ]
  refine wpAnyH_take (i := 5) (oi := ⟨some 10, .nilCheck (.tmp 9), _, _, _, none⟩) (v := ?_) rfl (by kernel_rfl) (by kernel_rfl) (by kernel_rfl) (fun _ _ _ h => h) (Or.inl ⟨by rfl, ?_⟩) hHeld ?_
  rotate_left
  · intro W _; go_simp; try with_reducible rfl
  try simp only [Act.put, List.setIfInBounds_toArray, List.set_cons_zero, List.set_cons_succ]
  refine wpAnyH_take (i := 6) (oi := ⟨some 11, .fieldAddr 90 (.tmp 10) 1, _, _, _, none⟩) (v := ?_) rfl (by kernel_rfl) (by kernel_rfl) (by kernel_rfl) (fun _ _ _ h => h) (Or.inl ⟨by rfl, ?_⟩) hHeld ?_
  rotate_left
  · intro W _; go_simp; try with_reducible rfl
  try simp only [Act.put, List.setIfInBounds_toArray, List.set_cons_zero, List.set_cons_succ]
  refine wpAnyH_take (i := 7) (oi := ⟨some 12, .load 71 (.tmp 11), _, _, _, none⟩) (v := ?_) rfl (by kernel_rfl) (by kernel_rfl) (by kernel_rfl) (fun _ _ _ h => h) (Or.inl ⟨by rfl, ?_⟩) hHeld ?_
  rotate_left
  · intro W hS; have h0 := cell_later hS hc1; go_simp; try with_reducible rfl
  try simp only [Act.put, List.setIfInBounds_toArray, List.set_cons_zero, List.set_cons_succ]
  refine wpAnyH_take (i := 8) (oi := ⟨some 13, .nilCheck (.tmp 12), _, _, _, none⟩) (v := ?_) rfl (by kernel_rfl) (by kernel_rfl) (by kernel_rfl) (fun _ _ _ h => h) (Or.inl ⟨by rfl, ?_⟩) hHeld ?_
  rotate_left
  · intro W _; go_simp; try with_reducible rfl
  try simp only [Act.put, List.setIfInBounds_toArray, List.set_cons_zero, List.set_cons_succ]
  refine wpAnyH_take (i := 9) (oi := ⟨some 14, .fieldAddr 88 (.tmp 13) 2, _, _, _, none⟩) (v := ?_) rfl (by kernel_rfl) (by kernel_rfl) (by kernel_rfl) (fun _ _ _ h => h) (Or.inl ⟨by rfl, ?_⟩) hHeld ?_
  rotate_left
  · intro W _; go_simp; try with_reducible rfl
  try simp only [Act.put, List.setIfInBounds_toArray, List.set_cons_zero, List.set_cons_succ]
  refine wpAnyH_take (i := 10) (oi := ⟨some 15, .load 3 (.tmp 14), _, _, _, none⟩) (v := ?_) rfl (by kernel_rfl) (by kernel_rfl) (by kernel_rfl) (fun _ _ _ h => h) (Or.inl ⟨by rfl, ?_⟩) hHeld ?_
  rotate_left
  · intro W hS; have h0 := cell_later hS hcs; go_simp; try with_reducible rfl
  try simp only [Act.put, List.setIfInBounds_toArray, List.set_cons_zero, List.set_cons_succ]
  refine wpAnyH_ready (rs := [11]) (by kernel_rfl) (by simp) ?_
  refine AllReadyH.cons (o := ⟨some 16, .makeSlice 41 (.const (.int .i64 0)) (.tmp 15), _, _, _, none⟩) rfl (fun K hK => ?_) AllReadyH.nil
  refine step_makeL rfl _ _ rfl rfl m rfl hsz w.heap.size hHeld.size ?_
  intro W1 hO1 hB1
  refine hK.out _ _ (Bt hHeld hB1) (fun hHeld => ?_)
  clear hK K
  try simp only [Act.put, List.setIfInBounds_toArray, List.set_cons_zero, List.set_cons_succ]
  refine wpAnyH_ready (rs := [12]) (by kernel_rfl) (by simp) ?_
  refine AllReadyH.cons (o := ⟨some 17, .call { callee := .value (.func 61), args := #[.tmp 8, .tmp 16], argTypes := #[71, 41] }, _, _, _, none⟩) rfl (fun K hK => ?_) AllReadyH.nil
  refine step_ofR (by rfl) ?_
  go_simp
  refine (LI.out _ _ _ hHeld hO1).mono ?_
  rintro x W2 ⟨a2, c2, rfl, hO2, hB2⟩
  refine hK.out _ _ (hB2) (fun hHeld => ?_)
  clear hK K
  try simp only [Act.put, List.setIfInBounds_toArray, List.set_cons_zero, List.set_cons_succ]
  refine wpAnyH_ready (rs := [13]) (by kernel_rfl) (by simp) ?_
  refine AllReadyH.cons (o := ⟨some 2, .assign (.tmp 17), _, _, _, none⟩) rfl (fun K hK => ?_) AllReadyH.nil
  refine step_ofR (by rfl) ?_
  go_simp
  refine hK.out _ _ (hHeld) (fun hHeld => ?_)
  clear hK K
  try simp only [Act.put, List.setIfInBounds_toArray, List.set_cons_zero, List.set_cons_succ]
  refine wpAnyH_done (by kernel_rfl) ?_ _
  -- END leaves
  go_wp2_with fail
  go_ret
  exact ⟨a2, c2, by simp, by simpa using hO2, hB2⟩
end
/-! Leaves of a tree as the set of its leaves; slices of one leaf; the walk of SmtGrows. -/
section
open Go.RowKit

theorem leaves_sorted {t : T} {L : List Lf} (hw : t.wf 0) (hu : unlike L) (h : ∀ y, y ∈ t.lvs ↔ y ∈ L) : t.lvs = sortedL L := by
  have hp := whole_perm hw hu h
  have hk : oks t.lvs := T.wf_oks t 0 hw
  have hkL : oks L := fun y hy => hk y ((h y).2 hy)
  exact order_unique hk (T.wf_order t 0 hw (fun _ _ _ _ i hi => by omega)) (sortedL_order hkL) (T.wf_unlike t 0 hw) (hp.trans (sortedL_perm L).symm)
section
variable {w0 W : World} {x tp : Nat} {L : List Lf}
theorem sm_leaves (h : Sm w0 x tp L W) :
    Calls Tryd.prog 34 #[.pointer (some ⟨tp, 0, none⟩)] W fun e w' => ∃ a c, e = .returned (.slice a L.length c) ∧ OwnL w' W.heap.size (.slice a L.length c) (sortedL L) ∧ Below W.heap.size W w' := by
  obtain ⟨⟨G, pn, pt, t, q1, q2, q3, q4⟩, h5, h6, h7⟩ := h
  have hl := (whole_perm q3 h6 q4).length_eq
  have he := leaves_sorted q3 h6 q4
  refine (leaves_any w0.heap.size x G W tp pn pt t q1 q2 q3 (by omega)).mono ?_
  rintro e w' ⟨a, c, rfl, hO, hB⟩
  rw [hl, he] at hO
  exact ⟨a, c, by rw [hl], hO, hB⟩
end

/-! s[i:i+1] of leaves -/
section
theorem cutOne (W : World) (a : Option Addr) (n c k : Nat) (x y : Int) (hx : x = (k : Int)) (hy : y = (k : Int) + 1) (hk : k + 1 ≤ c) :
    (Instr.slice 41 (.slice a n c) (some (.int .i64 x)) (some (.int .i64 y)) none).run Tryd.prog W = .ok (.slice (tailA a c k) 1 (c - k)) W ∧
    (Instr.sliceAt 41 (.slice a n c) (some (.int .i64 x)) (some (.int .i64 y)) none).run Tryd.prog W = .ok (.slice (tailA a c k) 1 (c - k)) W := by
  subst hx; subst hy
  have h : (Instr.slice 41 (.slice a n c) (some (.int .i64 (k : Int))) (some (.int .i64 ((k : Int) + 1))) none).run Tryd.prog W = .ok (.slice (tailA a c k) 1 (c - k)) W := by
    rw [run_slice_lh W 41 a n c underL .i64 .i64 (k : Int) ((k : Int) + 1) (by omega) (by omega) (by omega), elemL, sizeLf]
    have e : ((k : Int) + 1).toNat = k + 1 := by omega
    simp [sliced, Result.andThen, tailA, e]
  exact ⟨h, by rw [run_sliceAt_slice W 41 _ _ _ _ underL]; exact h⟩
theorem leaf_at1 {w : World} {a : Option Addr} {n c : Nat} {l : List Lf} (h : RdL w a n c l) {k : Nat} (hk : k < n) : RdL w (tailA a c k) 1 (c - k) [l.getD k lf0] := by
  have hc := h.cap
  have hm := h.max
  have hl := h.len
  have h2 := h.tailA k (by omega)
  have hd : l.drop k = l.getD k lf0 :: l.drop (k + 1) := by
    rw [List.drop_eq_getElem_cons (by omega)]
    congr 1
    simp [List.getD, show k < l.length by omega]
  rw [hd] at h2
  refine ⟨rfl, oks.single (h.ok.at (by omega)), by omega, by omega, fun e => ?_, fun ad e j u hu => h2.cell ad e j u ?_⟩
  · have := h2.nil e; omega
  · have e2 : lcs (l.getD k lf0 :: l.drop (k + 1)) = lcs [l.getD k lf0] ++ lcs (l.drop (k + 1)) := by simp [lcs]
    rw [e2, List.getElem?_append_left (List.getElem?_eq_some_iff.1 hu).1]
    exact hu
theorem set_single (L : List Lf) (y : Lf) (h : L.length + 1 ≤ 4096) : setE L [y] = 0 ∧ setI L [y] = dropL L y.path ++ [y] := by
  have h1 : setF L [y] = dropL L y.path ++ [y] := by rw [setF, setF]
  have h2 : twiceB [y] = false := by simp [twiceB]
  have h3 : ¬ 4096 < [y].length := by simp
  have h5 : (dropL L y.path).length ≤ L.length := List.length_filter_le _ _
  have h4 : ¬ 4096 < (dropL L y.path ++ [y]).length := by rw [List.length_append]; simp; omega
  unfold setE setI
  rw [h1, h2, if_neg h3, if_neg h3]
  simp only [Bool.false_eq_true, if_false, if_neg h4]
  exact ⟨trivial, trivial⟩
theorem drop_len (L : List Lf) (d : List UInt8) : (dropL L d).length ≤ L.length := List.length_filter_le _ _
end

/-- what SmtGrows' last region knows of a world -/
structure GwAt (w W : World) (g : Nat) (d : List UInt8) : Prop where
  dig : Blk W g 23 (bs d)
  bel : Below w.heap.size w W
section
variable {w W W' : World} {g : Nat} {d : List UInt8}
theorem GwAt.below (h : GwAt w W g d) (hb : Below W.heap.size W W') : GwAt w W' g d := ⟨h.dig.below hb, Bt h.bel hb⟩
theorem GwAt.drew (h : GwAt w W g d) : GwAt w W.drew g d := h.below ⟨rfl, rfl, rfl, Nat.le_refl _, fun _ _ => rfl⟩
theorem GwAt.kept (h : GwAt w W g d) (hk : Keeps W W') (hB : Below w.heap.size W W') : GwAt w W' g d := ⟨hk _ _ _ h.dig (by decide), h.bel.trans hB⟩
end

end
end
end Go.Proofs.YtgbhfpkngjlfkaaDoor
