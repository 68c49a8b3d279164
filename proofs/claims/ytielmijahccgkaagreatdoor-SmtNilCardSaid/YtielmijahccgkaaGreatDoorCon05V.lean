/-
  Con05M Con05V, in one text.
-/
import Derived.Test.YtielmijahccgkaaGreatDoorCon05
namespace Go.Proofs.YtielmijahccgkaaGreatDoor
/-! Get, Len. -/
section
open Go.RowKit

/-- what Get answers -/
def valOf (o : Option Lf) : List UInt8 := match o with | some y => y.val | none => zero32
/-- how high the node of a pointer is -/
def hgtAt (G : Tag) : Value → Nat
  | .pointer (some a) => match G a.block with | some u => u.hgt | none => 0
  | _ => 0
theorem hgtAt_of {G : Tag} {q : Nat} {u : T} (h : G q = some u) : hgtAt G (.pointer (some ⟨q, 0, none⟩)) = u.hgt := by simp [hgtAt, h]

/-- what Get's loop knows of a world -/
structure GetAt (w W : World) (G : Tag) (t : T) (d : List UInt8) (q k : Nat) (u : T) : Prop where
  top : G q = some u
  wf : u.wf k
  agr : agree u.lvs k
  way : T.way u d k = T.way t d 0
  box : Blk W w.heap.size 24 (bs d)
  res : Blk W (w.heap.size + 1) 24 (bs zero32)
  bel : Below w.heap.size w W

set_option maxRecDepth 100000 in
set_option maxHeartbeats 2000000 in
theorem get_any (base x : Nat) (G : Tag) (w : World) (tp pn pt : Nat) (t : T) (d : List UInt8) (hd : d.length = 32) (hI : Inv base x G noL w) (hTr : Tr base G w tp pn pt t) (hw : t.wf 0) :
    Calls Tryz.prog 33 #[.pointer (some ⟨tp, 0, none⟩), .agg (bs d).toArray] w fun e w' => e = .returned (.tuple #[.agg (bs (valOf (findL t.lvs d))).toArray, .bool (findL t.lvs d).isSome]) ∧ Below w.heap.size w w' := by
  have HF := Lib.hid (T.way_spec d t 0 hw)
  have HV : ∀ y ∈ t.lvs, y.ok := T.wf_oks t 0 hw
  have HWW := Lib.hid (T.way_wf d t 0 hw)
  have H5 := Lib.hid (show (Tryz.prog.info? 24).map (·.size) = some (bs d).length by rw [info_digest, bs_length, hd])
  have H6 := Lib.hid (show (Tryz.prog.info? 24).map (·.size) = some (bs zero32).length by rw [info_digest, bs_length, zero32_length])
  have H7 := bs_one zero32
  have HBT := Lib.hid built0
  have HB := Lib.hid (fun (W : World) (k : Nat) (hk : k < 256) => bitIs1_any W d hd k hk)
  have hb0 := Blk.new w 24 (bs d)
  have hB0 : Below w.heap.size w (w.alloc (.cells (bs d).toArray 24)) := (Below.refl _ w).alloc (Nat.le_refl _) _
  have hz0 : (w.alloc (.cells (bs d).toArray 24)).heap.size = w.heap.size + 1 := by simp
  have hc1 := hTr.c1
  have CB := Lib.hid (fun (W : World) (h : Below w.heap.size w W) => cell_later h hc1)
  clear hc1
  go_enter Tryz.func33, Tryz.ntmps33
  go_wp2_with ((with_reducible refine wpList_allocB (o := ⟨some 4, _, _, _, _, _⟩) ?_ 24 ?_ zeroD_info ?_); rfl; rfl; intro w1 hr1 hg1 hz1; rw [hz0] at hr1; have hB1 := hB0.grown hg1 hB0.size (fun k e => by cases e); have c1 := CB.out w1 hB1)
  have hb1 := hb0.grown hg1 (by simp)
  have hS : GetAt w w1 G t d pt 0 t := ⟨hTr.top, hw, fun _ _ _ _ i hi => by omega, rfl, hb1, hr1, hB1⟩
  clear c1 hb0 hB0 hz0 hg1 hz1
  go_loopw [6, 7] (fun s6 s7 wr => ∃ (q k : Nat) (u : T), s6 = .pointer (some ⟨q, 0, none⟩) ∧ s7 = .int .i64 (k : Int) ∧ GetAt w wr G t d q k u) (fun s6 _ _ => hgtAt G s6)
  case atStart => exact ⟨pt, 0, t, rfl, rfl, hS⟩
  case round =>
    obtain ⟨q, k, u, rfl, rfl, hS⟩ := hrel
    have hIr := hI.below hS.bel
    obtain ⟨dn, sum, lf, le, ri, hN⟩ := hIr.nd hS.top
    have c2 := hN.size
    have hu := hS.wf
    have hway := hS.way
    have hkids := hN.kids
    have HH := Lib.hid (hgtAt_of hS.top)
    cases u with
    | two l r =>
      have h2 := T.size_two hu
      have hk256 : k < 256 := by
        rcases Nat.lt_or_ge k 256 with h' | h'
        · exact h'
        · have := T.deep hu hS.agr h'; omega
      have h2' : (1 : Int) < ((T.two l r).lvs.length : Int) := by omega
      generalize (T.two l r).lvs.length = m at *
      obtain ⟨pl, pr, rfl, rfl, hpl, hpr⟩ := hkids
      have hrg := hS.box.allR
      have c3 := hN.left
      have c4 := hN.right
      have hbx := HB.out wr k hk256
      by_cases hbit : bitAt d k = 1
      · rw [show (bitAt d k == 1) = true by simp [hbit]] at hbx
        have hS2 := Lib.hid (fun (W : World) (hb : Below wr.heap.size wr W) => (⟨hpr, hu.2.2.1, T.agree_right hu hS.agr, by rw [← hway]; exact (if_pos hbit).symm, hS.box.below hb, hS.res.below hb, Bt hS.bel hb⟩ : GetAt w W G t d pr (k + 1) r))
        have HM := Lib.hid (show hgtAt G (.pointer (some ⟨pr, 0, none⟩)) < (T.two l r).hgt from by rw [hgtAt_of hpr]; simp [T.hgt]; omega)
        clear hway hbit
        go_wp2_with ((with_reducible refine wpList_loadG (o := ⟨some 22, _, _, _, _, _⟩) ?_ w.heap.size 0 24 (.tmp 3) ?_ ?_ hrg Tryz.underlying24 ?_ H5.out ?_); rfl; rfl; rfl; rfl)
        refine hbx.mono ?_
        rintro e w2 ⟨rfl, hb2⟩
        have c4 := cell_later hb2 c4
        go_wp2_with fail
        exact ⟨⟨pr, k + 1, r, rfl, by go_num, hS2.out _ hb2⟩, by rw [HH.out]; exact HM.out⟩
      · rw [show (bitAt d k == 1) = false by simp [hbit]] at hbx
        have hS2 := Lib.hid (fun (W : World) (hb : Below wr.heap.size wr W) => (⟨hpl, hu.2.1, T.agree_left hu hS.agr, by rw [← hway]; exact (if_neg hbit).symm, hS.box.below hb, hS.res.below hb, Bt hS.bel hb⟩ : GetAt w W G t d pl (k + 1) l))
        have HM := Lib.hid (show hgtAt G (.pointer (some ⟨pl, 0, none⟩)) < (T.two l r).hgt from by rw [hgtAt_of hpl]; simp [T.hgt]; omega)
        clear hway hbit
        go_wp2_with ((with_reducible refine wpList_loadG (o := ⟨some 22, _, _, _, _, _⟩) ?_ w.heap.size 0 24 (.tmp 3) ?_ ?_ hrg Tryz.underlying24 ?_ H5.out ?_); rfl; rfl; rfl; rfl)
        refine hbx.mono ?_
        rintro e w2 ⟨rfl, hb2⟩
        have c3 := cell_later hb2 c3
        go_wp2_with fail
        exact ⟨⟨pl, k + 1, l, rfl, by go_num, hS2.out _ hb2⟩, by rw [HH.out]; exact HM.out⟩
    | none =>
      have c2' : wr.cell? ⟨q, 36, none⟩ = some (.int .i64 0) := c2
      have hfind : findL t.lvs d = none := by rw [HF.out, ← hway]; rfl
      have HAS := has_any wr base x G hIr q .none hS.top k hu d hd
      have hrg := hS.box.allR
      rw [show T.hasB .none d = false from rfl] at HAS
      have HE := Lib.hid hfind
      have hres := hS.res
      have hbel := hS.bel
      clear hfind hway c2 hS
      go_wp2_with ((with_reducible refine wpList_loadG (o := ⟨some 34, _, _, _, _, _⟩) ?_ w.heap.size 0 24 (.tmp 3) ?_ ?_ hrg Tryz.underlying24 ?_ H5.out ?_); rfl; rfl; rfl; rfl)
      refine HAS.mono ?_
      rintro e w2 ⟨rfl, hb2⟩
      have hr2 := hres.below hb2
      go_wp2_with (first | ((with_reducible refine wpList_buildI (dst := some 37) HBT.out ?_ ?_); rfl) | ((with_reducible refine wpList_storeB (o := ⟨none, .store 24 (.tmp 4) (.tmp 37), _, _, _, _⟩) ?_ 24 (.tmp 4) (.tmp 37) ?_ ?_ ?_ hr2 H6.out rfl H7 ?_); rfl; rfl; rfl; rfl; intro w8 hb8 hg8 hz8))
      try simp only [Exit.inBlock, Exit.then]
      refine bodyPost_ret (results_digest2 rfl _ _ _ _ _ zero32_length rfl hb8.at_) rfl ⟨by rw [HE.out]; rfl, ?_⟩
      exact below_of_grown' (Bt hbel hb2) hg8 (by omega)
    | one y =>
      have c2' : wr.cell? ⟨q, 36, none⟩ = some (.int .i64 1) := c2
      have hfind : findL t.lvs d = findL [y] d := by rw [HF.out, ← hway]; rfl
      have HAS := has_any wr base x G hIr q (.one y) hS.top k hu d hd
      have hrg := hS.box.allR
      have hres := hS.res
      have hbel := hS.bel
      rw [show T.hasB (.one y) d = (y.path == d) from rfl] at HAS
      have c3 := hN.leaf
      obtain ⟨ql, rfl, hql, hqb⟩ := hkids
      cases hyd : (y.path == d) with
      | false =>
        rw [hyd] at HAS
        have HE := Lib.hid (show findL t.lvs d = none from by rw [hfind]; simp [findL, hyd])
        clear hfind hway c2 hS c3
        go_wp2_with ((with_reducible refine wpList_loadG (o := ⟨some 34, _, _, _, _, _⟩) ?_ w.heap.size 0 24 (.tmp 3) ?_ ?_ hrg Tryz.underlying24 ?_ H5.out ?_); rfl; rfl; rfl; rfl)
        refine HAS.mono ?_
        rintro e w2 ⟨rfl, hb2⟩
        have hr2 := hres.below hb2
        go_wp2_with (first | ((with_reducible refine wpList_buildI (dst := some 37) HBT.out ?_ ?_); rfl) | ((with_reducible refine wpList_storeB (o := ⟨none, .store 24 (.tmp 4) (.tmp 37), _, _, _, _⟩) ?_ 24 (.tmp 4) (.tmp 37) ?_ ?_ ?_ hr2 H6.out rfl H7 ?_); rfl; rfl; rfl; rfl; intro w8 hb8 hg8 hz8))
        try simp only [Exit.inBlock, Exit.then]
        refine bodyPost_ret (results_digest2 rfl _ _ _ _ _ zero32_length rfl hb8.at_) rfl ⟨by rw [HE.out]; rfl, ?_⟩
        exact below_of_grown' (Bt hbel hb2) hg8 (by omega)
      | true =>
        rw [hyd] at HAS
        have HE := Lib.hid (show findL t.lvs d = some y from by rw [hfind]; simp [findL, hyd])
        have hyo : y.ok := hu
        have hvl := hyo.2
        have H8 := Lib.hid (show (Tryz.prog.info? 24).map (·.size) = some (bs y.val).length by rw [info_digest, bs_length, hvl])
        have H9 := Lib.hid (show (bs zero32).length = (bs y.val).length by rw [bs_length, bs_length, zero32_length, hvl])
        have H10 := bs_one y.val
        have hrv := range_val hyo (hqb.range 0 (cs := lc y) (fun j hj => by rw [Nat.zero_add]))
        rw [Nat.zero_add] at hrv
        clear hfind hway c2 hS hqb
        go_wp2_with ((with_reducible refine wpList_loadG (o := ⟨some 34, _, _, _, _, _⟩) ?_ w.heap.size 0 24 (.tmp 3) ?_ ?_ hrg Tryz.underlying24 ?_ H5.out ?_); rfl; rfl; rfl; rfl)
        refine HAS.mono ?_
        rintro e w2 ⟨rfl, hb2⟩
        have hr2 := hres.below hb2
        have c4 := cell_later hb2 c3
        have hrv2 := rangeAt_below hb2 hrv
        go_wp2_with (first | ((with_reducible refine wpList_loadG (o := ⟨some 44, _, _, _, _, _⟩) ?_ ql 32 24 (.tmp 43) ?_ ?_ hrv2 Tryz.underlying24 ?_ H8.out ?_); rfl; rfl; rfl; rfl) | ((with_reducible refine wpList_storeB (o := ⟨none, .store 24 (.tmp 4) (.tmp 44), _, _, _, _⟩) ?_ 24 (.tmp 4) (.tmp 44) ?_ ?_ ?_ hr2 H8.out H9.out H10 ?_); rfl; rfl; rfl; rfl; intro w8 hb8 hg8 hz8))
        try simp only [Exit.inBlock, Exit.then]
        refine bodyPost_ret (results_digest2 rfl _ _ _ _ _ hvl rfl hb8.at_) rfl ⟨by rw [HE.out]; rfl, ?_⟩
        exact below_of_grown' (Bt hbel hb2) hg8 (by omega)

set_option maxRecDepth 100000 in
theorem tlen_any (base x : Nat) (G : Tag) (w : World) (tp pn pt : Nat) (t : T) (hI : Inv base x G noL w) (hTr : Tr base G w tp pn pt t) :
    Calls Tryz.prog 36 #[.pointer (some ⟨tp, 0, none⟩)] w fun e w' => e = .returned (.int .i64 (t.lvs.length : Int)) ∧ w' = w := by
  obtain ⟨dn, sum, lf, le, ri, hN⟩ := hI.nd hTr.top
  have c1 := hTr.c1
  have c2 := hN.size
  go_enter Tryz.func36, Tryz.ntmps36
  go_wp2_with fail
  go_ret
  exact ⟨rfl, rfl⟩
end
/-! Drop: a tree without a leaf. -/
section
open Go.RowKit

/-- what without knows of a world -/
structure WoAt (w W : World) (d : List UInt8) (p : Nat) (le ri : Option Addr) : Prop where
  box : Blk W w.heap.size 24 (bs d)
  left : W.cell? ⟨p, 38, none⟩ = some (.pointer le)
  right : W.cell? ⟨p, 39, none⟩ = some (.pointer ri)
theorem WoAt.below {w W W' : World} {d : List UInt8} {p : Nat} {le ri : Option Addr} (h : WoAt w W d p le ri) (hb : Below W.heap.size W W') : WoAt w W' d p le ri :=
  ⟨h.box.below hb, cell_later hb h.left, cell_later hb h.right⟩
theorem WoAt.drew {w W : World} {d : List UInt8} {p : Nat} {le ri : Option Addr} (h : WoAt w W d p le ri) : WoAt w W.drew d p le ri := h.below ⟨rfl, rfl, rfl, Nat.le_refl _, fun _ _ => rfl⟩

theorem cut_len (d : List UInt8) : ∀ (t : T) (n : Nat), (T.cut t d n).lvs.length ≤ t.lvs.length
  | .none, _ => Nat.le_refl _
  | .one _, _ => by simp [T.cut, T.lvs]
  | .two l r, n => by
    unfold T.cut
    have h1 := cut_len d l (n + 1)
    have h2 := cut_len d r (n + 1)
    split <;> rw [T.joined_lvs] <;> simp only [T.lvs, List.length_append] <;> omega

set_option maxRecDepth 100000 in
set_option maxHeartbeats 3000000 in
theorem without_any (base x : Nat) (d : List UInt8) (hd : d.length = 32) (tp pn : Nat) : ∀ (t : T) (G : Tag) (w : World) (p n : Nat) (ni : Int), ni = (n : Int) → base ≤ w.heap.size → Inv base x G noL w →
    w.cell? ⟨tp, 0, none⟩ = some (.pointer (some ⟨pn, 0, none⟩)) → G pn = some .none → G p = some t → t.wf n → agree t.lvs n → (∃ y ∈ t.lvs, y.path = d) → t.lvs.length ≤ 100000 →
    Calls Tryz.prog 53 #[.pointer (some ⟨tp, 0, none⟩), .pointer (some ⟨p, 0, none⟩), .agg (bs d).toArray, .int .i64 ni] w (WithPost base x G (T.cut t d n) w) := by
  intro t
  induction t with
  | none => intro _ _ _ _ _ _ _ _ _ _ _ _ _ h; obtain ⟨y, hy, _⟩ := h; simp [T.lvs] at hy
  | one y =>
    intro G w p n ni hni hb hI hc hpn hp ht ha hm hsz
    subst hni
    obtain ⟨dn, sum, lf, le, ri, hN⟩ := hI.nd hp
    have hB0 : Below w.heap.size w (w.alloc (.cells (bs d).toArray 24)) := (Below.refl _ w).alloc (Nat.le_refl _) _
    have c0 := cell_later hB0 hc
    have c1 : (w.alloc (.cells (bs d).toArray 24)).cell? ⟨p, 36, none⟩ = some (.int .i64 1) := cell_later hB0 hN.size
    clear hc
    go_enter Tryz.func53, Tryz.ntmps53
    go_wp2_with fail
    go_ret
    exact ⟨pn, G, rfl, hpn, hI.below hB0, More.refl _ _, hB0⟩
  | two l r ihl ihr =>
    intro G w p n ni hni hb hI hc hpn hp ht ha hm hsz
    subst hni
    obtain ⟨dn, sum, lf, le, ri, hN⟩ := hI.nd hp
    have hk := hN.kids
    obtain ⟨pl, pr, rfl, rfl, hpl, hpr⟩ := hk
    have h2 := T.size_two ht
    have hn256 : n < 256 := by
      rcases Nat.lt_or_ge n 256 with h' | h'
      · exact h'
      · have := T.deep ht ha h'; omega
    have hB0 : Below w.heap.size w (w.alloc (.cells (bs d).toArray 24)) := (Below.refl _ w).alloc (Nat.le_refl _) _
    have hb0 := Blk.new w 24 (bs d)
    have c1 := cell_later hB0 hN.size
    have hS0 : WoAt w (w.alloc (.cells (bs d).toArray 24)) d p (some ⟨pl, 0, none⟩) (some ⟨pr, 0, none⟩) := ⟨hb0, cell_later hB0 hN.left, cell_later hB0 hN.right⟩
    have hrg := hb0.allR
    have H5 := Lib.hid (show (Tryz.prog.info? 24).map (·.size) = some (bs d).length by rw [info_digest, bs_length, hd])
    have HB := Lib.hid (fun W : World => bitIs1_any W d hd n hn256)
    have hne : ((T.two l r).lvs.length : Int) ≠ 1 := by omega
    have hlr : l.lvs.length + r.lvs.length ≤ 100000 := by simpa [T.lvs] using hsz
    have hcl := cut_len d l (n + 1)
    have hcr := cut_len d r (n + 1)
    have hwr : IntKind.i64.wrap ((n : Int) + 1) = (n : Int) + 1 := IntWalk.i64_in _ (by omega)
    have HI := Lib.hid hI
    generalize (T.two l r).lvs.length = m at *
    have hne' : ((m : Int) == 1) = false := by simpa using hne
    by_cases hbit : bitAt d n = 1
    · rw [show (bitAt d n == 1) = true by simp [hbit]] at HB
      have HC := Lib.hid (show T.cut (.two l r) d n = T.joined l (T.cut r d (n + 1)) from if_pos hbit)
      have hmr : ∃ y ∈ r.lvs, y.path = d := by
        obtain ⟨y, hy, e⟩ := hm
        rcases List.mem_append.1 hy with h | h
        · have := ht.2.2.2.1 y h; rw [e, hbit] at this; cases this
        · exact ⟨y, h, e⟩
      have WA := Lib.hid (fun (W : World) (h : Below w.heap.size w W) =>
        ihr G W pr (n + 1) ((n : Int) + 1) (by omega) (Nat.le_trans hb h.size) (hI.below h) (cell_later h hc) hpn hpr ht.2.2.1 (T.agree_right ht ha) hmr (by omega))
      generalize T.cut r d (n + 1) = TR at *
      have JO := Lib.hid (fun (W : World) (G2 : Tag) (s2 : Nat) (hm2 : ∀ k u, G k = some u → G2 k = some u) (h2 : G2 s2 = some TR) (hi : Inv base x G2 noL W) (h : Below w.heap.size w W) =>
        joined_any W base x (Nat.le_trans hb h.size) G2 hi tp pn (cell_later h hc) (hm2 _ _ hpn) pl s2 l TR (hm2 _ _ hpl) h2 (by omega))
      clear hmr hbit hm
      go_enter Tryz.func53, Tryz.ntmps53
      go_wp2_with ((with_reducible refine wpList_loadG (o := ⟨some 18, _, _, _, _, _⟩) ?_ w.heap.size 0 24 (.tmp 6) ?_ ?_ hrg Tryz.underlying24 ?_ H5.out ?_); rfl; rfl; rfl; rfl)
      refine (HB.out _).mono ?_
      rintro e w1 ⟨rfl, hB1⟩
      have hS := hS0.below hB1
      have hB5 := Bt hB0 hB1
      clear hrg c1 hS0 hb0
      go_wp2_with fail
      -- REGION wor 6
      refine wp_region_held_drew (S := fun W => WoAt w W d p (some ⟨pl, 0, none⟩) (some ⟨pr, 0, none⟩)) (by kernel_rfl) hS.drew (fun hHeld => ?_)
      refine wpAnyH_take (i := 0) (oi := ⟨some 21, .move (.tmp 0), _, _, _, none⟩) (v := ?_) rfl (by kernel_rfl) (by kernel_rfl) (by kernel_rfl) (fun _ _ _ h => h) (Or.inl ⟨by rfl, ?_⟩) hHeld ?_
      rotate_left
      · intro W _; go_simp; try with_reducible rfl
      try simp only [Act.put, List.setIfInBounds_toArray, List.set_cons_zero, List.set_cons_succ]
      refine wpAnyH_take (i := 1) (oi := ⟨some 22, .move (.tmp 1), _, _, _, none⟩) (v := ?_) rfl (by kernel_rfl) (by kernel_rfl) (by kernel_rfl) (fun _ _ _ h => h) (Or.inl ⟨by rfl, ?_⟩) hHeld ?_
      rotate_left
      · intro W _; go_simp; try with_reducible rfl
      try simp only [Act.put, List.setIfInBounds_toArray, List.set_cons_zero, List.set_cons_succ]
      refine wpAnyH_take (i := 2) (oi := ⟨some 23, .nilCheck (.tmp 22), _, _, _, none⟩) (v := ?_) rfl (by kernel_rfl) (by kernel_rfl) (by kernel_rfl) (fun _ _ _ h => h) (Or.inl ⟨by rfl, ?_⟩) hHeld ?_
      rotate_left
      · intro W _; go_simp; try with_reducible rfl
      try simp only [Act.put, List.setIfInBounds_toArray, List.set_cons_zero, List.set_cons_succ]
      refine wpAnyH_take (i := 3) (oi := ⟨some 24, .fieldAddr 93 (.tmp 23) 4, _, _, _, none⟩) (v := ?_) rfl (by kernel_rfl) (by kernel_rfl) (by kernel_rfl) (fun _ _ _ h => h) (Or.inl ⟨by rfl, ?_⟩) hHeld ?_
      rotate_left
      · intro W _; go_simp; try with_reducible rfl
      try simp only [Act.put, List.setIfInBounds_toArray, List.set_cons_zero, List.set_cons_succ]
      refine wpAnyH_take (i := 4) (oi := ⟨some 25, .load 76 (.tmp 24), _, _, _, none⟩) (v := ?_) rfl (by kernel_rfl) (by kernel_rfl) (by kernel_rfl) (fun _ _ _ h => h) (Or.inl ⟨by rfl, ?_⟩) hHeld ?_
      rotate_left
      · intro W hS; have h0 := hS.left; go_simp; try with_reducible rfl
      try simp only [Act.put, List.setIfInBounds_toArray, List.set_cons_zero, List.set_cons_succ]
      refine wpAnyH_take (i := 5) (oi := ⟨some 26, .move (.tmp 0), _, _, _, none⟩) (v := ?_) rfl (by kernel_rfl) (by kernel_rfl) (by kernel_rfl) (fun _ _ _ h => h) (Or.inl ⟨by rfl, ?_⟩) hHeld ?_
      rotate_left
      · intro W _; go_simp; try with_reducible rfl
      try simp only [Act.put, List.setIfInBounds_toArray, List.set_cons_zero, List.set_cons_succ]
      refine wpAnyH_take (i := 6) (oi := ⟨some 27, .move (.tmp 1), _, _, _, none⟩) (v := ?_) rfl (by kernel_rfl) (by kernel_rfl) (by kernel_rfl) (fun _ _ _ h => h) (Or.inl ⟨by rfl, ?_⟩) hHeld ?_
      rotate_left
      · intro W _; go_simp; try with_reducible rfl
      try simp only [Act.put, List.setIfInBounds_toArray, List.set_cons_zero, List.set_cons_succ]
      refine wpAnyH_take (i := 7) (oi := ⟨some 28, .nilCheck (.tmp 27), _, _, _, none⟩) (v := ?_) rfl (by kernel_rfl) (by kernel_rfl) (by kernel_rfl) (fun _ _ _ h => h) (Or.inl ⟨by rfl, ?_⟩) hHeld ?_
      rotate_left
      · intro W _; go_simp; try with_reducible rfl
      try simp only [Act.put, List.setIfInBounds_toArray, List.set_cons_zero, List.set_cons_succ]
      refine wpAnyH_take (i := 8) (oi := ⟨some 29, .fieldAddr 93 (.tmp 28) 5, _, _, _, none⟩) (v := ?_) rfl (by kernel_rfl) (by kernel_rfl) (by kernel_rfl) (fun _ _ _ h => h) (Or.inl ⟨by rfl, ?_⟩) hHeld ?_
      rotate_left
      · intro W _; go_simp; try with_reducible rfl
      try simp only [Act.put, List.setIfInBounds_toArray, List.set_cons_zero, List.set_cons_succ]
      refine wpAnyH_take (i := 9) (oi := ⟨some 30, .load 76 (.tmp 29), _, _, _, none⟩) (v := ?_) rfl (by kernel_rfl) (by kernel_rfl) (by kernel_rfl) (fun _ _ _ h => h) (Or.inl ⟨by rfl, ?_⟩) hHeld ?_
      rotate_left
      · intro W hS; have h0 := hS.right; go_simp; try with_reducible rfl
      try simp only [Act.put, List.setIfInBounds_toArray, List.set_cons_zero, List.set_cons_succ]
      refine wpAnyH_take (i := 10) (oi := ⟨some 31, .load 24 (.tmp 6), _, _, _, none⟩) (v := .agg (bs d).toArray) rfl (by kernel_rfl) (by kernel_rfl) (by kernel_rfl) (fun _ _ _ h => h) (yieldsIf_load_mid (by rfl) _ _ rfl w.heap.size 0 rfl (bs d) _ (fun W h => h.box.allR) Tryz.underlying24 rfl H5.out) hHeld ?_
      try simp only [Act.put, List.setIfInBounds_toArray, List.set_cons_zero, List.set_cons_succ]
      refine wpAnyH_take (i := 11) (oi := ⟨some 32, .move (.tmp 3), _, _, _, none⟩) (v := ?_) rfl (by kernel_rfl) (by kernel_rfl) (by kernel_rfl) (fun _ _ _ h => h) (Or.inl ⟨by rfl, ?_⟩) hHeld ?_
      rotate_left
      · intro W _; go_simp; try with_reducible rfl
      try simp only [Act.put, List.setIfInBounds_toArray, List.set_cons_zero, List.set_cons_succ]
      refine wpAnyH_take (i := 12) (oi := ⟨some 33, .binOp .add 3 (.tmp 32) (.const (.int .i64 1)) 3, _, _, _, none⟩) (v := ?_) rfl (by kernel_rfl) (by kernel_rfl) (by kernel_rfl) (fun _ _ _ h => h) (Or.inl ⟨by rfl, ?_⟩) hHeld ?_
      rotate_left
      · intro W _; go_simp; try with_reducible rfl
      try simp only [Act.put, List.setIfInBounds_toArray, List.set_cons_zero, List.set_cons_succ]
      refine wpAnyH_ready (rs := [13]) (by kernel_rfl) (by simp) ?_
      refine AllReadyH.cons (o := ⟨some 34, .call { callee := .value (.func 53), args := #[.tmp 26, .tmp 30, .tmp 31, .tmp 33], argTypes := #[47, 76, 24, 3] }, _, _, _, none⟩) rfl (fun K hK => ?_) AllReadyH.nil
      refine step_ofR (by rfl) ?_
      go_simp
      refine (WA.out _ (below_drew hB5)).mono ?_
      rintro x W1 ⟨s2, G2, rfl, hG2, hI6, hM6, hB6⟩
      refine hK.out _ _ (hHeld.below hB6) (fun hHeld => ?_)
      clear hK K
      try simp only [Act.put, List.setIfInBounds_toArray, List.set_cons_zero, List.set_cons_succ]
      refine wpAnyH_ready (rs := [14]) (by kernel_rfl) (by simp) ?_
      refine AllReadyH.cons (o := ⟨some 35, .call { callee := .value (.func 75), args := #[.tmp 21, .tmp 25, .tmp 34], argTypes := #[47, 76, 76] }, _, _, _, none⟩) rfl (fun K hK => ?_) AllReadyH.nil
      refine step_ofR (by rfl) ?_
      go_simp
      refine (JO.out _ G2 s2 hM6.1 hG2 hI6 (Bt (below_drew hB5) hB6)).mono ?_
      rintro x W1 ⟨s3, G3, rfl, hG3, hI8, hM8, hB8⟩
      refine hK.out _ _ (hHeld.below hB8) (fun hHeld => ?_)
      clear hK K
      try simp only [Act.put, List.setIfInBounds_toArray, List.set_cons_zero, List.set_cons_succ]
      refine wpAnyH_ready (rs := [15]) (by kernel_rfl) (by simp) ?_
      refine AllReadyH.cons (o := ⟨some 8, .assign (.tmp 35), _, _, _, none⟩) rfl (fun K hK => ?_) AllReadyH.nil
      refine step_ofR (by rfl) ?_
      go_simp
      refine hK.out _ _ (hHeld) (fun hHeld => ?_)
      clear hK K
      try simp only [Act.put, List.setIfInBounds_toArray, List.set_cons_zero, List.set_cons_succ]
      refine wpAnyH_done (by kernel_rfl) ?_ _
      -- END wor
      go_wp2_with fail
      go_ret
      exact ⟨s3, G3, rfl, by rw [HC.out]; exact hG3, hI8, ((More.refl w.heap.size G).trans hM6 hB5.size).trans hM8 (Bt (below_drew hB5) hB6).size, Bt (Bt (below_drew hB5) hB6) hB8⟩
    · rw [show (bitAt d n == 1) = false by simp [hbit]] at HB
      have HC := Lib.hid (show T.cut (.two l r) d n = T.joined (T.cut l d (n + 1)) r from if_neg hbit)
      have hml : ∃ y ∈ l.lvs, y.path = d := by
        obtain ⟨y, hy, e⟩ := hm
        rcases List.mem_append.1 hy with h | h
        · exact ⟨y, h, e⟩
        · have := ht.2.2.2.2 y h; rw [e] at this; exact absurd this hbit
      have WA := Lib.hid (fun (W : World) (h : Below w.heap.size w W) =>
        ihl G W pl (n + 1) ((n : Int) + 1) (by omega) (Nat.le_trans hb h.size) (hI.below h) (cell_later h hc) hpn hpl ht.2.1 (T.agree_left ht ha) hml (by omega))
      generalize T.cut l d (n + 1) = TL at *
      have JO := Lib.hid (fun (W : World) (G2 : Tag) (s1 : Nat) (hm2 : ∀ k u, G k = some u → G2 k = some u) (h2 : G2 s1 = some TL) (hi : Inv base x G2 noL W) (h : Below w.heap.size w W) =>
        joined_any W base x (Nat.le_trans hb h.size) G2 hi tp pn (cell_later h hc) (hm2 _ _ hpn) s1 pr TL r h2 (hm2 _ _ hpr) (by omega))
      clear hml hbit hm
      go_enter Tryz.func53, Tryz.ntmps53
      go_wp2_with ((with_reducible refine wpList_loadG (o := ⟨some 18, _, _, _, _, _⟩) ?_ w.heap.size 0 24 (.tmp 6) ?_ ?_ hrg Tryz.underlying24 ?_ H5.out ?_); rfl; rfl; rfl; rfl)
      refine (HB.out _).mono ?_
      rintro e w1 ⟨rfl, hB1⟩
      have hS := hS0.below hB1
      have hB5 := Bt hB0 hB1
      clear hrg c1 hS0 hb0
      go_wp2_with fail
      -- REGION wol 6
      refine wp_region_held_drew (S := fun W => WoAt w W d p (some ⟨pl, 0, none⟩) (some ⟨pr, 0, none⟩)) (by kernel_rfl) hS.drew (fun hHeld => ?_)
      refine wpAnyH_take (i := 0) (oi := ⟨some 36, .move (.tmp 0), _, _, _, none⟩) (v := ?_) rfl (by kernel_rfl) (by kernel_rfl) (by kernel_rfl) (fun _ _ _ h => h) (Or.inl ⟨by rfl, ?_⟩) hHeld ?_
      rotate_left
      · intro W _; go_simp; try with_reducible rfl
      try simp only [Act.put, List.setIfInBounds_toArray, List.set_cons_zero, List.set_cons_succ]
      refine wpAnyH_take (i := 1) (oi := ⟨some 37, .move (.tmp 0), _, _, _, none⟩) (v := ?_) rfl (by kernel_rfl) (by kernel_rfl) (by kernel_rfl) (fun _ _ _ h => h) (Or.inl ⟨by rfl, ?_⟩) hHeld ?_
      rotate_left
      · intro W _; go_simp; try with_reducible rfl
      try simp only [Act.put, List.setIfInBounds_toArray, List.set_cons_zero, List.set_cons_succ]
      refine wpAnyH_take (i := 2) (oi := ⟨some 38, .move (.tmp 1), _, _, _, none⟩) (v := ?_) rfl (by kernel_rfl) (by kernel_rfl) (by kernel_rfl) (fun _ _ _ h => h) (Or.inl ⟨by rfl, ?_⟩) hHeld ?_
      rotate_left
      · intro W _; go_simp; try with_reducible rfl
      try simp only [Act.put, List.setIfInBounds_toArray, List.set_cons_zero, List.set_cons_succ]
      refine wpAnyH_take (i := 3) (oi := ⟨some 39, .nilCheck (.tmp 38), _, _, _, none⟩) (v := ?_) rfl (by kernel_rfl) (by kernel_rfl) (by kernel_rfl) (fun _ _ _ h => h) (Or.inl ⟨by rfl, ?_⟩) hHeld ?_
      rotate_left
      · intro W _; go_simp; try with_reducible rfl
      try simp only [Act.put, List.setIfInBounds_toArray, List.set_cons_zero, List.set_cons_succ]
      refine wpAnyH_take (i := 4) (oi := ⟨some 40, .fieldAddr 93 (.tmp 39) 4, _, _, _, none⟩) (v := ?_) rfl (by kernel_rfl) (by kernel_rfl) (by kernel_rfl) (fun _ _ _ h => h) (Or.inl ⟨by rfl, ?_⟩) hHeld ?_
      rotate_left
      · intro W _; go_simp; try with_reducible rfl
      try simp only [Act.put, List.setIfInBounds_toArray, List.set_cons_zero, List.set_cons_succ]
      refine wpAnyH_take (i := 5) (oi := ⟨some 41, .load 76 (.tmp 40), _, _, _, none⟩) (v := ?_) rfl (by kernel_rfl) (by kernel_rfl) (by kernel_rfl) (fun _ _ _ h => h) (Or.inl ⟨by rfl, ?_⟩) hHeld ?_
      rotate_left
      · intro W hS; have h0 := hS.left; go_simp; try with_reducible rfl
      try simp only [Act.put, List.setIfInBounds_toArray, List.set_cons_zero, List.set_cons_succ]
      refine wpAnyH_take (i := 6) (oi := ⟨some 42, .load 24 (.tmp 6), _, _, _, none⟩) (v := .agg (bs d).toArray) rfl (by kernel_rfl) (by kernel_rfl) (by kernel_rfl) (fun _ _ _ h => h) (yieldsIf_load_mid (by rfl) _ _ rfl w.heap.size 0 rfl (bs d) _ (fun W h => h.box.allR) Tryz.underlying24 rfl H5.out) hHeld ?_
      try simp only [Act.put, List.setIfInBounds_toArray, List.set_cons_zero, List.set_cons_succ]
      refine wpAnyH_take (i := 7) (oi := ⟨some 43, .move (.tmp 3), _, _, _, none⟩) (v := ?_) rfl (by kernel_rfl) (by kernel_rfl) (by kernel_rfl) (fun _ _ _ h => h) (Or.inl ⟨by rfl, ?_⟩) hHeld ?_
      rotate_left
      · intro W _; go_simp; try with_reducible rfl
      try simp only [Act.put, List.setIfInBounds_toArray, List.set_cons_zero, List.set_cons_succ]
      refine wpAnyH_take (i := 8) (oi := ⟨some 44, .binOp .add 3 (.tmp 43) (.const (.int .i64 1)) 3, _, _, _, none⟩) (v := ?_) rfl (by kernel_rfl) (by kernel_rfl) (by kernel_rfl) (fun _ _ _ h => h) (Or.inl ⟨by rfl, ?_⟩) hHeld ?_
      rotate_left
      · intro W _; go_simp; try with_reducible rfl
      try simp only [Act.put, List.setIfInBounds_toArray, List.set_cons_zero, List.set_cons_succ]
      refine wpAnyH_take (i := 10) (oi := ⟨some 46, .move (.tmp 1), _, _, _, none⟩) (v := ?_) rfl (by kernel_rfl) (by kernel_rfl) (by kernel_rfl) (fun _ _ _ h => h) (Or.inl ⟨by rfl, ?_⟩) hHeld ?_
      rotate_left
      · intro W _; go_simp; try with_reducible rfl
      try simp only [Act.put, List.setIfInBounds_toArray, List.set_cons_zero, List.set_cons_succ]
      refine wpAnyH_take (i := 11) (oi := ⟨some 47, .nilCheck (.tmp 46), _, _, _, none⟩) (v := ?_) rfl (by kernel_rfl) (by kernel_rfl) (by kernel_rfl) (fun _ _ _ h => h) (Or.inl ⟨by rfl, ?_⟩) hHeld ?_
      rotate_left
      · intro W _; go_simp; try with_reducible rfl
      try simp only [Act.put, List.setIfInBounds_toArray, List.set_cons_zero, List.set_cons_succ]
      refine wpAnyH_take (i := 12) (oi := ⟨some 48, .fieldAddr 93 (.tmp 47) 5, _, _, _, none⟩) (v := ?_) rfl (by kernel_rfl) (by kernel_rfl) (by kernel_rfl) (fun _ _ _ h => h) (Or.inl ⟨by rfl, ?_⟩) hHeld ?_
      rotate_left
      · intro W _; go_simp; try with_reducible rfl
      try simp only [Act.put, List.setIfInBounds_toArray, List.set_cons_zero, List.set_cons_succ]
      refine wpAnyH_take (i := 13) (oi := ⟨some 49, .load 76 (.tmp 48), _, _, _, none⟩) (v := ?_) rfl (by kernel_rfl) (by kernel_rfl) (by kernel_rfl) (fun _ _ _ h => h) (Or.inl ⟨by rfl, ?_⟩) hHeld ?_
      rotate_left
      · intro W hS; have h0 := hS.right; go_simp; try with_reducible rfl
      try simp only [Act.put, List.setIfInBounds_toArray, List.set_cons_zero, List.set_cons_succ]
      refine wpAnyH_ready (rs := [9]) (by kernel_rfl) (by simp) ?_
      refine AllReadyH.cons (o := ⟨some 45, .call { callee := .value (.func 53), args := #[.tmp 37, .tmp 41, .tmp 42, .tmp 44], argTypes := #[47, 76, 24, 3] }, _, _, _, none⟩) rfl (fun K hK => ?_) AllReadyH.nil
      refine step_ofR (by rfl) ?_
      go_simp
      refine (WA.out _ (below_drew hB5)).mono ?_
      rintro x W1 ⟨s1, G1, rfl, hG1, hI6, hM6, hB6⟩
      refine hK.out _ _ (hHeld.below hB6) (fun hHeld => ?_)
      clear hK K
      try simp only [Act.put, List.setIfInBounds_toArray, List.set_cons_zero, List.set_cons_succ]
      refine wpAnyH_ready (rs := [14]) (by kernel_rfl) (by simp) ?_
      refine AllReadyH.cons (o := ⟨some 50, .call { callee := .value (.func 75), args := #[.tmp 36, .tmp 45, .tmp 49], argTypes := #[47, 76, 76] }, _, _, _, none⟩) rfl (fun K hK => ?_) AllReadyH.nil
      refine step_ofR (by rfl) ?_
      go_simp
      refine (JO.out _ G1 s1 hM6.1 hG1 hI6 (Bt (below_drew hB5) hB6)).mono ?_
      rintro x W1 ⟨s3, G3, rfl, hG3, hI8, hM8, hB8⟩
      refine hK.out _ _ (hHeld.below hB8) (fun hHeld => ?_)
      clear hK K
      try simp only [Act.put, List.setIfInBounds_toArray, List.set_cons_zero, List.set_cons_succ]
      refine wpAnyH_ready (rs := [15]) (by kernel_rfl) (by simp) ?_
      refine AllReadyH.cons (o := ⟨some 8, .assign (.tmp 50), _, _, _, none⟩) rfl (fun K hK => ?_) AllReadyH.nil
      refine step_ofR (by rfl) ?_
      go_simp
      refine hK.out _ _ (hHeld) (fun hHeld => ?_)
      clear hK K
      try simp only [Act.put, List.setIfInBounds_toArray, List.set_cons_zero, List.set_cons_succ]
      refine wpAnyH_done (by kernel_rfl) ?_ _
      -- END wol
      go_wp2_with fail
      go_ret
      exact ⟨s3, G3, rfl, by rw [HC.out]; exact hG3, hI8, ((More.refl w.heap.size G).trans hM6 hB5.size).trans hM8 (Bt (below_drew hB5) hB6).size, Bt (Bt (below_drew hB5) hB6) hB8⟩

/-- what Drop's last region knows of a world -/
structure DrAt (w W : World) (tp pn pt : Nat) (d : List UInt8) : Prop where
  box : Blk W w.heap.size 24 (bs d)
  tree : Blk W tp 95 [.pointer (some ⟨pn, 0, none⟩), .pointer (some ⟨pt, 0, none⟩)]
theorem DrAt.below {w W W' : World} {tp pn pt : Nat} {d : List UInt8} (h : DrAt w W tp pn pt d) (hb : Below W.heap.size W W') : DrAt w W' tp pn pt d := ⟨h.box.below hb, h.tree.below hb⟩
theorem DrAt.drew {w W : World} {tp pn pt : Nat} {d : List UInt8} (h : DrAt w W tp pn pt d) : DrAt w W.drew tp pn pt d := h.below ⟨rfl, rfl, rfl, Nat.le_refl _, fun _ _ => rfl⟩
theorem drop_cut {t : T} (h : t.wf 0) {d : List UInt8} (hm : ∃ y ∈ t.lvs, y.path = d) : (T.cut t d 0).wf 0 ∧ ∀ y, y ∈ (T.cut t d 0).lvs ↔ y ∈ dropL t.lvs d := cut_whole h hm
theorem find_some {l : List Lf} {d : List UInt8} : (findL l d).isSome = true ↔ ∃ y ∈ l, y.path = d := by
  unfold findL
  simp [List.find?_isSome]
theorem drop_same {l : List Lf} {d : List UInt8} (h : (findL l d).isSome = false) : dropL l d = l := by
  unfold dropL
  rw [List.filter_eq_self]
  intro y hy
  cases e : (y.path == d)
  · rfl
  · have : (findL l d).isSome = true := find_some.2 ⟨y, hy, by simpa using e⟩
    rw [h] at this; cases this

set_option maxRecDepth 100000 in
set_option maxHeartbeats 2000000 in
theorem drop_any (base x : Nat) (G : Tag) (w : World) (tp pn pt : Nat) (t : T) (d : List UInt8) (hd : d.length = 32) (hb : base ≤ w.heap.size) (hI : Inv base x G noL w) (hTr : Tr base G w tp pn pt t) (hw : t.wf 0) (hsz : t.lvs.length ≤ 100000) :
    Calls Tryz.prog 32 #[.pointer (some ⟨tp, 0, none⟩), .agg (bs d).toArray] w fun e w' => e = .returned (.bool (findL t.lvs d).isSome) ∧ SetTo base x G w tp pn (dropL t.lvs d) w' := by
  have H5 := Lib.hid (show (Tryz.prog.info? 24).map (·.size) = some (bs d).length by rw [info_digest, bs_length, hd])
  have hB0 : Below w.heap.size w (w.alloc (.cells (bs d).toArray 24)) := (Below.refl _ w).alloc (Nat.le_refl _) _
  have hb0 := Blk.new w 24 (bs d)
  have hrg := hb0.allR
  have GE := get_any base x G (w.alloc (.cells (bs d).toArray 24)) tp pn pt t d hd (hI.below hB0) (hTr.later (fun _ _ h => h) hB0) hw
  have hvl : (valOf (findL t.lvs d)).length = 32 := by
    cases e : findL t.lvs d with
    | none => exact zero32_length
    | some y => exact (T.wf_oks t 0 hw y (List.mem_of_find?_eq_some e)).2
  generalize valOf (findL t.lvs d) = v at *
  have H8 := Lib.hid (show (Tryz.prog.info? 24).map (·.size) = some (bs v).length by rw [info_digest, bs_length, hvl])
  have H9 := Lib.hid (show (bs zero32).length = (bs v).length by rw [bs_length, bs_length, zero32_length, hvl])
  have H10 := bs_one v
  cases hf : (findL t.lvs d).isSome with
  | false =>
    rw [hf] at GE
    have HD := Lib.hid (drop_same hf)
    clear hf
    go_enter Tryz.func32, Tryz.ntmps32
    go_wp2_with ((with_reducible refine wpList_loadG (o := ⟨some 9, _, _, _, _, _⟩) ?_ w.heap.size 0 24 (.tmp 3) ?_ ?_ hrg Tryz.underlying24 ?_ H5.out ?_); rfl; rfl; rfl; rfl)
    refine GE.mono ?_
    rintro e w1 ⟨rfl, hB1⟩
    have hB01 := Bt hB0 hB1
    go_wp2_with (first | ((with_reducible refine wpList_allocB (o := ⟨some 5, _, _, _, _, _⟩) ?_ 24 ?_ zeroD_info ?_); rfl; rfl; intro w4 hr4 hg4 hz4) | ((with_reducible refine wpList_storeB (o := ⟨none, .store 24 (.tmp 5) (.tmp 11), _, _, _, _⟩) ?_ 24 (.tmp 5) (.tmp 11) ?_ ?_ ?_ hr4 H8.out H9.out H10 ?_); rfl; rfl; rfl; rfl; intro w5 hr5 hg5 hz5))
    go_ret
    have hsz1 := hB01.size
    have hB5 : Below w.heap.size w w5 := ((hB01.grown hg4 hsz1 (fun k e => by cases e)).grown hg5 (by omega) (fun k e => by cases e; omega))
    exact ⟨rfl, by rw [HD.out]; exact ⟨⟨G, pt, t, hTr.later (fun _ _ h => h) hB5, hI.below hB5, More.refl _ _, hw, fun _ => Iff.rfl⟩, grown_of hB5 _⟩⟩
  | true =>
    rw [hf] at GE
    have hm := find_some.1 hf
    obtain ⟨q1, q2⟩ := drop_cut hw hm
    have WA := Lib.hid (fun (W : World) (h : Below w.heap.size w W) =>
      without_any base x d hd tp pn t G W pt 0 0 rfl (Nat.le_trans hb h.size) (hI.below h) (cell_later h hTr.c0) hTr.no hTr.top hw (fun _ _ _ _ i hi => by omega) hm hsz)
    generalize T.cut t d 0 = t' at *
    clear hf hm
    go_enter Tryz.func32, Tryz.ntmps32
    go_wp2_with ((with_reducible refine wpList_loadG (o := ⟨some 9, _, _, _, _, _⟩) ?_ w.heap.size 0 24 (.tmp 3) ?_ ?_ hrg Tryz.underlying24 ?_ H5.out ?_); rfl; rfl; rfl; rfl)
    refine GE.mono ?_
    rintro e w1 ⟨rfl, hB1⟩
    have hB01 := Bt hB0 hB1
    go_wp2_with (first | ((with_reducible refine wpList_allocB (o := ⟨some 5, _, _, _, _, _⟩) ?_ 24 ?_ zeroD_info ?_); rfl; rfl; intro w4 hr4 hg4 hz4) | ((with_reducible refine wpList_storeB (o := ⟨none, .store 24 (.tmp 5) (.tmp 11), _, _, _, _⟩) ?_ 24 (.tmp 5) (.tmp 11) ?_ ?_ ?_ hr4 H8.out H9.out H10 ?_); rfl; rfl; rfl; rfl; intro w5 hr5 hg5 hz5))
    have hsz1 := hB01.size
    have hB5 : Below w.heap.size w w5 := ((hB01.grown hg4 hsz1 (fun k e => by cases e)).grown hg5 (by omega) (fun k e => by cases e; omega))
    have hlt := hb0.lt
    have hS : DrAt w w5 tp pn pt d := ⟨((hb0.below hB1).grown hg4 (by simp)).grown hg5 (by have := hB1.size; simp at this ⊢; omega), hTr.blk.below hB5⟩
    clear hrg hb0
    have hne : w.heap.size ≠ tp := by have := hTr.blk.lt; omega
    -- REGION drop 4
    refine wp_region_held_drew (S := fun W => Blk W w.heap.size 24 (bs d)) (by kernel_rfl) hS.box.drew (fun hHeld => ?_)
    have hc1 := hS.drew.tree.cell (j := 1) rfl
    refine wpAnyH_take (i := 0) (oi := ⟨some 14, .move (.tmp 0), _, _, _, none⟩) (v := ?_) rfl (by kernel_rfl) (by kernel_rfl) (by kernel_rfl) (fun _ _ _ h => h) (Or.inl ⟨by rfl, ?_⟩) hHeld ?_
    rotate_left
    · intro W _; go_simp; try with_reducible rfl
    try simp only [Act.put, List.setIfInBounds_toArray, List.set_cons_zero, List.set_cons_succ]
    refine wpAnyH_take (i := 1) (oi := ⟨some 15, .move (.tmp 0), _, _, _, none⟩) (v := ?_) rfl (by kernel_rfl) (by kernel_rfl) (by kernel_rfl) (fun _ _ _ h => h) (Or.inl ⟨by rfl, ?_⟩) hHeld ?_
    rotate_left
    · intro W _; go_simp; try with_reducible rfl
    try simp only [Act.put, List.setIfInBounds_toArray, List.set_cons_zero, List.set_cons_succ]
    refine wpAnyH_take (i := 2) (oi := ⟨some 16, .move (.tmp 0), _, _, _, none⟩) (v := ?_) rfl (by kernel_rfl) (by kernel_rfl) (by kernel_rfl) (fun _ _ _ h => h) (Or.inl ⟨by rfl, ?_⟩) hHeld ?_
    rotate_left
    · intro W _; go_simp; try with_reducible rfl
    try simp only [Act.put, List.setIfInBounds_toArray, List.set_cons_zero, List.set_cons_succ]
    refine wpAnyH_take (i := 3) (oi := ⟨some 17, .nilCheck (.tmp 16), _, _, _, none⟩) (v := ?_) rfl (by kernel_rfl) (by kernel_rfl) (by kernel_rfl) (fun _ _ _ h => h) (Or.inl ⟨by rfl, ?_⟩) hHeld ?_
    rotate_left
    · intro W _; go_simp; try with_reducible rfl
    try simp only [Act.put, List.setIfInBounds_toArray, List.set_cons_zero, List.set_cons_succ]
    refine wpAnyH_take (i := 4) (oi := ⟨some 18, .fieldAddr 95 (.tmp 17) 1, _, _, _, none⟩) (v := ?_) rfl (by kernel_rfl) (by kernel_rfl) (by kernel_rfl) (fun _ _ _ h => h) (Or.inl ⟨by rfl, ?_⟩) hHeld ?_
    rotate_left
    · intro W _; go_simp; try with_reducible rfl
    try simp only [Act.put, List.setIfInBounds_toArray, List.set_cons_zero, List.set_cons_succ]
    refine wpAnyH_take (i := 6) (oi := ⟨some 20, .load 24 (.tmp 3), _, _, _, none⟩) (v := .agg (bs d).toArray) rfl (by kernel_rfl) (by kernel_rfl) (by kernel_rfl) (fun _ _ _ h => h) (yieldsIf_load_mid (by rfl) _ _ rfl w.heap.size 0 rfl (bs d) _ (fun W h => h.allR) Tryz.underlying24 rfl H5.out) hHeld ?_
    try simp only [Act.put, List.setIfInBounds_toArray, List.set_cons_zero, List.set_cons_succ]
    refine wpAnyH_ready (rs := [5]) (by kernel_rfl) (by simp) ?_
    refine AllReadyH.cons (o := ⟨some 19, .load 76 (.tmp 18), _, _, _, none⟩) rfl (fun K hK => ?_) AllReadyH.nil
    refine step_ofR (by rfl) ?_
    go_simp
    refine hK.out _ _ (hHeld) (fun hHeld => ?_)
    clear hK K
    try simp only [Act.put, List.setIfInBounds_toArray, List.set_cons_zero, List.set_cons_succ]
    refine wpAnyH_ready (rs := [7]) (by kernel_rfl) (by simp) ?_
    refine AllReadyH.cons (o := ⟨some 21, .call { callee := .value (.func 53), args := #[.tmp 15, .tmp 19, .tmp 20, .const (.int .i64 0)], argTypes := #[47, 76, 24, 3] }, _, _, _, none⟩) rfl (fun K hK => ?_) AllReadyH.nil
    refine step_ofR (by rfl) ?_
    go_simp
    refine (WA.out _ (below_drew hB5)).mono ?_
    rintro x W1 ⟨s2, G2, rfl, hG2, hI6, hM6, hB6⟩
    refine hK.out _ _ (hHeld.below hB6) (fun hHeld => ?_)
    clear hK K
    try simp only [Act.put, List.setIfInBounds_toArray, List.set_cons_zero, List.set_cons_succ]
    refine wpAnyH_take (i := 8) (oi := ⟨some 22, .nilCheck (.tmp 14), _, _, _, none⟩) (v := ?_) rfl (by kernel_rfl) (by kernel_rfl) (by kernel_rfl) (fun _ _ _ h => h) (Or.inl ⟨by rfl, ?_⟩) hHeld ?_
    rotate_left
    · intro W _; go_simp; try with_reducible rfl
    try simp only [Act.put, List.setIfInBounds_toArray, List.set_cons_zero, List.set_cons_succ]
    refine wpAnyH_take (i := 9) (oi := ⟨some 23, .fieldAddr 95 (.tmp 22) 1, _, _, _, none⟩) (v := ?_) rfl (by kernel_rfl) (by kernel_rfl) (by kernel_rfl) (fun _ _ _ h => h) (Or.inl ⟨by rfl, ?_⟩) hHeld ?_
    rotate_left
    · intro W _; go_simp; try with_reducible rfl
    try simp only [Act.put, List.setIfInBounds_toArray, List.set_cons_zero, List.set_cons_succ]
    have kt6 := hS.drew.tree.below hB6
    have hc6 := kt6.cell (j := 1) rfl
    have hf6 := kt6.free 1
    refine wpAnyH_ready (rs := [10]) (by kernel_rfl) (by simp) ?_
    refine AllReadyH.cons (o := ⟨none, .store 76 (.tmp 23) (.tmp 21), _, _, _, none⟩) rfl (fun K hK => ?_) AllReadyH.nil
    refine step_ofR (by rfl) ?_
    go_simp
    refine hK.out _ _ (hHeld.setOther _ _ hne) (fun hHeld => ?_)
    clear hK K
    try simp only [Act.put, List.setIfInBounds_toArray, List.set_cons_zero, List.set_cons_succ]
    refine wpAnyH_done (by kernel_rfl) ?_ _
    -- END drop
    go_wp2_with fail
    go_ret
    have hB6' := Bt (below_drew hB5) hB6
    have hg7 := set_grown W1 tp 1 (.pointer (some ⟨s2, 0, none⟩))
    exact ⟨rfl, ⟨G2, s2, t', ⟨kt6.set 1 _, hTr.low, hM6.1 _ _ hTr.no, hG2⟩, hI6.grown hg7 (kt6.not (by decide)) (kt6.not (by decide)), (More.refl w.heap.size G).trans hM6 hB5.size, q1, q2⟩, grown2 (grown_of hB6' _) hg7 (fun k e => .inr e)⟩
end
end Go.Proofs.YtielmijahccgkaaGreatDoor
