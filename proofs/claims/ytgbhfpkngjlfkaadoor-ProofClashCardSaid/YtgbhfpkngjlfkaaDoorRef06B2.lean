/-
  Ref06P Ref06B, in one text.
-/
import Derived.Test.YtgbhfpkngjlfkaaDoorPrfC
import Derived.Deep.RegionHeld3
namespace Go.Proofs.YtgbhfpkngjlfkaaDoor
/-! The reference of layer 6: Own, plain. -/
section
open Go.RowKit

theorem Rd.partP {w : World} {g o n : Nat} {l : List UInt8} (h : w.rangeAt g o (bs l)) (hn : l.length = n) (hm : n ≤ maxLen) : Rd w (some ⟨g, o, none⟩) n n l := by
  refine ⟨hn, Nat.le_refl _, hm, (fun e => by cases e), fun ad e j u hu => ?_⟩
  cases e
  rw [Addr.add_lit]
  exact h j u hu

/-- append(nil, x...) of digests -/
theorem wpList_appD0 {w : World} {ops : Array Oper} {rest : List Oper} {o : Oper} {a : Act} {Q : Exit → Act → World → Prop} (hgd : o.guard = none) (s x : Operand)
    (ho : o.op = Op.call { callee := Callee.builtin Builtin.append, args := #[s, x], argTypes := #[26, 26] })
    {l : List (List UInt8)} {ao : Option Addr} {n c : Nat} (hs : a.eval s = .slice none 0 0) (hx : a.eval x = .slice ao n c) (hR : RdD w ao n c l) (hsz : n ≤ 1000000)
    (hK : ∀ ao' c' w', OwnD w' w.heap.size (.slice ao' n c') l → Below w.heap.size w w' → wpList Tryd.prog ops Q rest (a.put o.dst (.slice ao' n c')) w') :
    wpList Tryd.prog ops Q (o :: rest) a w := by
  refine wpList_appD hgd s x ho hs (OwnD.nil0 w w.heap.size) hx hR (by simpa using hsz) (Nat.le_refl _) ?_
  intro a' c' w' hO hg _
  have e : ([] : List (List UInt8)).length + n = n := by simp
  rw [e] at hO ⊢
  exact hK a' c' w' (by simpa using hO) ((Below.refl _ w).grown hg (Nat.le_refl _) (fun k e => by cases e))

set_option maxRecDepth 100000 in
set_option maxHeartbeats 1000000 in
theorem ownPf_ref (w : World) (a : Option Addr) (n c : Nat) (x : Pf) (hr : RdP6 w a n c x) (hn : n ≤ 1000) :
    Calls Tryd.prog 7 #[.agg (pc a n c x).toArray] w fun e w' => ∃ a' c', e = .returned (.agg (pc a' n c' x).toArray) ∧ RdP6 w' a' n c' x ∧ Below w.heap.size w w' := by
  have hS0 : PutAt w (w.alloc (.cells (pc a n c x).toArray 28)) a n c x := ⟨PAt.start w a n c x, hr.below ((Below.refl _ w).alloc (Nat.le_refl _) _)⟩
  have hlen := Lib.hid hr.sib.len
  have HX := Lib.hid hr.ok
  have hz : (w.alloc (.cells (pc a n c x).toArray 28)).heap.size = w.heap.size + 1 := by simp
  have hSZ : Hid (∀ (a : Option Addr) (n c : Nat), (Tryd.prog.info? 28).map (·.size) = some (pc a n c x).length) := Lib.hid (fun a n c => size_of HX.out)
  have hLL : Hid (∀ (a : Option Addr) (n c : Nat), (pc none 0 0 pf0).length = (pc a n c x).length) := Lib.hid (fun a n c => cells_len pf0_ok HX.out)
  have hOO : Hid (∀ (a : Option Addr) (n c : Nat), ∀ u ∈ pc a n c x, u.oneCell' = true) := Lib.hid (fun a n c => pc_one a n c x)
  have hSet : Hid (∀ (a a' : Option Addr) (n c n' c' : Nat), (pc a n c x).set 0 (.slice a' n' c') = pc a' n' c' x) := Lib.hid (fun a a' n c n' c' => rfl)
  clear hr
  go_enter Tryd.func7, Tryd.ntmps7
  go_wp2_with (first | (((with_reducible refine wpList_allocB (o := ⟨some 2, _, _, _, _, _⟩) ?_ 28 ?_ zeroP_info ?_); rfl; rfl; intro w1 hr1 hg1 hz1); have hB1 : Below (w.alloc (.cells (pc a n c x).toArray 28)).heap.size (w.alloc (.cells (pc a n c x).toArray 28)) w1 := (Below.refl _ _).grown hg1 (Nat.le_refl _) (fun k e => by cases e); have hS1 := hS0.below hB1; have c0 := hS1.own.c0; have hR1 := hS1.rd.sib; rw [hz] at hr1; have hn6 : n ≤ 1000000 := (by omega); have hzz : w.heap.size + 1 < w1.heap.size := (by rw [hz1, hz]; omega); clear hz1) | ((with_reducible refine wpList_appD0 (o := ⟨some 7, _, _, _, _, _⟩) ?_ (.tmp 4) (.tmp 6) ?_ ?_ ?_ hR1 hn6 ?_); rfl; rfl; rfl; rfl; intro a2 c2 w2 hO2 hB2; have hS2 := hS1.below hB2; have hr2 := hr1.below hB2; have c02 := hS2.own.c0; have f02 := hS2.own.blk.free 0; have hb3 := hS2.own.blk.set 0 (.slice a2 n c2); rw [hSet.out] at hb3; have hr3 := hr2.setOther ⟨w.heap.size, 0, none⟩ (.slice a2 n c2) (by simp); have I3 := Lib.hid (hSZ.out a2 n c2); have L3 := Lib.hid (hLL.out a2 n c2); have O3 := hOO.out a2 n c2) | ((with_reducible refine wpList_loadB (o := ⟨some 10, _, _, _, _, _⟩) ?_ 28 (.tmp 1) ?_ ?_ hb3 Tryd.underlying28 ?_ I3.out ?_); rfl; rfl; rfl; rfl) | ((with_reducible refine wpList_storeB (o := ⟨none, .store 28 (.tmp 2) (.tmp 10), _, _, _, _⟩) ?_ 28 (.tmp 2) (.tmp 10) ?_ ?_ ?_ hr3 I3.out L3.out O3 ?_); rfl; rfl; rfl; rfl; intro w4 hr4 hg4 hz4))
  try simp only [Exit.inBlock, Exit.then]
  refine bodyPost_blk hr4 Tryd.underlying28 I3.out rfl rfl rfl rfl ⟨a2, c2, rfl, ?_, ?_⟩
  · have hgs := set_grown w2 w.heap.size 0 (.slice a2 n c2)
    have e1 := hO2.kept hgs (fun y e e2 => by have := (hO2.lt e).1; cases e2; omega)
    exact ⟨(e1.kept hg4 (fun y e e2 => by have := (e1.lt e).1; cases e2; omega)).rd, HX.out.p, HX.out.v⟩
  · have hgs := set_grown w2 w.heap.size 0 (.slice a2 n c2)
    have hs2 := hS2.own.bel.size
    exact ((hS2.own.bel.grown hgs hs2 (fun k e => by cases e; exact Nat.le_refl _)).grown hg4 (by simpa using hs2) (fun k e => by cases e; omega))
set_option maxRecDepth 100000 in
set_option maxHeartbeats 1000000 in
theorem plain_ref (w : World) (a : Option Addr) (n c : Nat) (x : Pf) (hx : x.ok) :
    Calls Tryd.prog 43 #[.agg (pc a n c x).toArray] w fun e w' => e = .returned (.bool (plainB x)) ∧ Below w.heap.size w w' := by
  have hS := PAt.start w a n c x
  have c1 := hS.c1
  have r2 := hS.rp
  have r3 := hS.rv hx.p
  have hB := hS.bel
  have HF : Hid (plainB x = (x.other || (x.op == zero32 && x.ov == zero32))) := Lib.hid rfl
  have H5 := Lib.hid (digP hx.p)
  have H6 := Lib.hid (digP hx.v)
  have HBT := Lib.hid built0
  have E1 := fun W : World => eqInD W x.op zero32 hx.p zero32_length
  have E2 := fun W : World => eqInD W x.ov zero32 hx.v zero32_length
  clear hS hx
  generalize hP : pc a n c x = P at *
  clear hP
  generalize x.op = p at *
  generalize x.ov = v at *
  generalize x.other = o at *
  generalize plainB x = F at *
  generalize (p == zero32) = b1 at *
  generalize (v == zero32) = b2 at *
  cases o with
  | true =>
    clear E1 E2
    go_enter Tryd.func43, Tryd.ntmps43
    go_wp2_with fail
    go_ret
    exact ⟨by rw [HF.out]; rfl, hB⟩
  | false =>
    cases b1 with
    | false =>
      go_enter Tryd.func43, Tryd.ntmps43
      have E1' := E1 (w.alloc (.cells P.toArray 28))
      clear E1 E2
      go_wp2_with (first | ((with_reducible refine wpList_loadP (o := ⟨some 7, _, _, _, _, _⟩) ?_ w.heap.size 2 23 (.tmp 6) ?_ ?_ r2 Tryd.underlying23 ?_ H5.out ?_); rfl; rfl; rfl; rfl) | ((with_reducible refine wpList_buildP (o := ⟨some 8, _, _, _, _, _⟩) ?_ 23 #[] ?_ (ps := []) ?_ HBT.out ?_); rfl; rfl; rfl))
      go_ret
      exact ⟨by rw [HF.out]; rfl, hB⟩
    | true =>
      go_enter Tryd.func43, Tryd.ntmps43
      have E1' := E1 (w.alloc (.cells P.toArray 28))
      have E2' := E2 (w.alloc (.cells P.toArray 28))
      clear E1 E2
      go_wp2_with (first | ((with_reducible refine wpList_loadP (o := ⟨some 7, _, _, _, _, _⟩) ?_ w.heap.size 2 23 (.tmp 6) ?_ ?_ r2 Tryd.underlying23 ?_ H5.out ?_); rfl; rfl; rfl; rfl) | ((with_reducible refine wpList_buildP (o := ⟨some 8, _, _, _, _, _⟩) ?_ 23 #[] ?_ (ps := []) ?_ HBT.out ?_); rfl; rfl; rfl) | ((with_reducible refine wpList_loadP (o := ⟨some 12, _, _, _, _, _⟩) ?_ w.heap.size 34 23 (.tmp 11) ?_ ?_ r3 Tryd.underlying23 ?_ H6.out ?_); rfl; rfl; rfl; rfl) | ((with_reducible refine wpList_buildP (o := ⟨some 13, _, _, _, _, _⟩) ?_ 23 #[] ?_ (ps := []) ?_ HBT.out ?_); rfl; rfl; rfl))
      go_ret
      exact ⟨by rw [HF.out]; simp, hB⟩
end
/-! The reference of layer 6: Same, of two proofs that are the same. -/
section
open Go.RowKit

/-- what Same knows of a world -/
structure SmP (w W : World) (a : Option Addr) (n c : Nat) (a' : Option Addr) (c' : Nat) (x : Pf) : Prop where
  one : PAt w W w.heap.size a n c x
  two : PAt w W (w.heap.size + 1) a' n c' x
  fst : RdD W a n c x.sibs
  snd : RdD W a' n c' x.sibs
theorem SmP.below {w W W' : World} {a : Option Addr} {n c : Nat} {a' : Option Addr} {c' : Nat} {x : Pf} (h : SmP w W a n c a' c' x) (hb : Below W.heap.size W W') : SmP w W' a n c a' c' x := ⟨h.one.below hb, h.two.below hb, h.fst.below hb, h.snd.below hb⟩
/-- and in a round -/
structure SmK (w W : World) (b o b' o' : Nat) (n c c' k : Nat) (d : List UInt8) : Prop where
  c1 : W.cell? ⟨w.heap.size, 0, none⟩ = some (.slice (some ⟨b, o, none⟩) n c)
  c2 : W.cell? ⟨w.heap.size + 1, 0, none⟩ = some (.slice (some ⟨b', o', none⟩) n c')
  r1 : W.rangeAt b (o + k * 32) (bs d)
  r2 : W.rangeAt b' (o' + k * 32) (bs d)
theorem SmK.drew {w W : World} {b o b' o' n c c' k : Nat} {d : List UInt8} (h : SmK w W b o b' o' n c c' k d) : SmK w W.drew b o b' o' n c c' k d := ⟨h.c1, h.c2, h.r1, h.r2⟩
theorem neqSelf (d : List UInt8) (h : d.length = 32) : ∀ W : World, (binOp .neq 23 (.agg (bs d).toArray) (.agg (bs d).toArray)).run Tryd.prog W = .ok (.bool false) W := fun W => by rw [neqD W _ _ h h]; simp

set_option maxRecDepth 100000 in
set_option maxHeartbeats 2000000 in
theorem samePf_ref (w : World) (a : Option Addr) (n c : Nat) (a' : Option Addr) (c' : Nat) (x : Pf) (h1 : RdP6 w a n c x) (h2 : RdP6 w a' n c' x) (hn : n ≤ 1000) :
    Calls Tryd.prog 11 #[.agg (pc a n c x).toArray, .agg (pc a' n c' x).toArray] w fun e w' => e = .returned (.bool true) ∧ Below w.heap.size w w' := by
  have hB1 : Below w.heap.size w (w.alloc (.cells (pc a n c x).toArray 28)) := (Below.refl _ w).alloc (Nat.le_refl _) _
  have hB2 : Below (w.alloc (.cells (pc a n c x).toArray 28)).heap.size (w.alloc (.cells (pc a n c x).toArray 28)) ((w.alloc (.cells (pc a n c x).toArray 28)).alloc (.cells (pc a' n c' x).toArray 28)) := (Below.refl _ _).alloc (Nat.le_refl _) _
  have hS : SmP w ((w.alloc (.cells (pc a n c x).toArray 28)).alloc (.cells (pc a' n c' x).toArray 28)) a n c a' c' x := by
    have hz : (w.alloc (.cells (pc a n c x).toArray 28)).heap.size = w.heap.size + 1 := by simp
    have hb := Blk.new (w.alloc (.cells (pc a n c x).toArray 28)) 28 (pc a' n c' x)
    rw [hz] at hb
    exact ⟨(PAt.start w a n c x).below hB2, ⟨hb, Bt hB1 hB2⟩, (h1.sib.below hB1).below hB2, (h2.sib.below hB1).below hB2⟩
  have hlen := Lib.hid h1.sib.len
  have hp := h1.p
  have hv := h1.v
  have hok := Lib.hid h1.sib.ok
  have H5 := Lib.hid (digP hp)
  have H6 := Lib.hid (digP hv)
  have E1 := Lib.hid (neqSelf x.op hp)
  have E2 := Lib.hid (neqSelf x.ov hv)
  have p0 := hS.one.c0
  have p1 := hS.one.c1
  have p2 := hS.one.rp
  have p3 := hS.one.rv hp
  have q0 := hS.two.c0
  have q1 := hS.two.c1
  have q2 := hS.two.rp
  have q3 := hS.two.rv hp
  have hB := hS.one.bel
  clear h1 h2 hB1 hB2 hp hv
  generalize pc a n c x = P at *
  generalize pc a' n c' x = P' at *
  go_enter Tryd.func11, Tryd.ntmps11
  generalize x.op = p at *
  generalize x.ov = v at *
  generalize x.other = o at *
  cases o
  all_goals
    go_wp2_with (first | ((with_reducible refine wpList_loadP (o := ⟨some 13, _, _, _, _, _⟩) ?_ w.heap.size 2 23 (.tmp 12) ?_ ?_ p2 Tryd.underlying23 ?_ H5.out ?_); rfl; rfl; rfl; rfl) | ((with_reducible refine wpList_loadP (o := ⟨some 15, _, _, _, _, _⟩) ?_ (w.heap.size + 1) 2 23 (.tmp 14) ?_ ?_ q2 Tryd.underlying23 ?_ H5.out ?_); rfl; rfl; rfl; rfl) | ((with_reducible refine wpList_eqH (o := ⟨some 16, _, _, _, _, _⟩) ?_ .neq 23 23 (.tmp 13) (.tmp 15) ?_ (bs p).toArray (bs p).toArray ?_ ?_ guardH _ E1.out ?_); rfl; rfl; rfl; rfl) | ((with_reducible refine wpList_loadP (o := ⟨some 20, _, _, _, _, _⟩) ?_ w.heap.size 34 23 (.tmp 19) ?_ ?_ p3 Tryd.underlying23 ?_ H6.out ?_); rfl; rfl; rfl; rfl) | ((with_reducible refine wpList_loadP (o := ⟨some 22, _, _, _, _, _⟩) ?_ (w.heap.size + 1) 34 23 (.tmp 21) ?_ ?_ q3 Tryd.underlying23 ?_ H6.out ?_); rfl; rfl; rfl; rfl) | ((with_reducible refine wpList_eqH (o := ⟨some 23, _, _, _, _, _⟩) ?_ .neq 23 23 (.tmp 20) (.tmp 22) ?_ (bs v).toArray (bs v).toArray ?_ ?_ guardH _ E2.out ?_); rfl; rfl; rfl; rfl))
    generalize hW0 : (w.alloc (.cells P.toArray 28)).alloc (.cells P'.toArray 28) = W0 at *
    clear hW0
    go_loopw [5] (fun i wr => ∃ k : Nat, k ≤ n ∧ i = .int .i64 (k : Int) ∧ Below W0.heap.size W0 wr) (fun i _ => n - (intOf i).toNat)
    case atStart => exact ⟨0, by omega, rfl, Below.refl _ _⟩
    case round =>
      obtain ⟨k, hk, rfl, hBr⟩ := hrel
      have hSr := hS.below hBr
      have r0 := hSr.one.c0
      have s0 := hSr.two.c0
      by_cases hlt : k < n
      · have hkl : (k : Int) < (n : Int) := by omega
        obtain ⟨b, off, hae, -, hel⟩ := hSr.fst.elems (by omega)
        obtain ⟨b', off', hae', -, hel'⟩ := hSr.snd.elems (by omega)
        subst hae
        subst hae'
        have hd := hok.out.at (i := k) (by rw [hlen.out]; exact hlt)
        have hT : SmK w wr b off b' off' n c c' k (x.sibs.getD k []) := ⟨r0, s0, hel k hlt, hel' k hlt⟩
        have I5 := Lib.hid (digP hd)
        have EQ := Lib.hid (neqSelf _ hd)
        clear hel hel' hd hSr p0 q0 p1 q1 p2 q2 p3 q3 hS
        generalize x.sibs.getD k [] = d at *
        go_wp2_with fail
        -- REGION same 8
        refine wp_region_held_drew (S := fun W => SmK w W b off b' off' n c c' k d) (by kernel_rfl) hT.drew (fun hHeld => ?_)
        refine wpAnyH_take (i := 0) (oi := ⟨some 41, .fieldAddr 28 (.tmp 2) 0, _, _, _, none⟩) (v := ?_) rfl (by kernel_rfl) (by kernel_rfl) (by kernel_rfl) (fun _ _ _ h => h) (Or.inl ⟨by rfl, ?_⟩) hHeld ?_
        rotate_left
        · intro W _; go_simp; try with_reducible rfl
        try simp only [Act.put, List.setIfInBounds_toArray, List.set_cons_zero, List.set_cons_succ]
        refine wpAnyH_take (i := 1) (oi := ⟨some 42, .load 26 (.tmp 41), _, _, _, none⟩) (v := ?_) rfl (by kernel_rfl) (by kernel_rfl) (by kernel_rfl) (fun _ _ _ h => h) (Or.inl ⟨by rfl, ?_⟩) hHeld ?_
        rotate_left
        · intro W hS; have h0 := hS.c1; go_simp; try with_reducible rfl
        try simp only [Act.put, List.setIfInBounds_toArray, List.set_cons_zero, List.set_cons_succ]
        refine wpAnyH_take (i := 2) (oi := ⟨some 43, .move (.tmp 5), _, _, _, none⟩) (v := ?_) rfl (by kernel_rfl) (by kernel_rfl) (by kernel_rfl) (fun _ _ _ h => h) (Or.inl ⟨by rfl, ?_⟩) hHeld ?_
        rotate_left
        · intro W _; go_simp; try with_reducible rfl
        try simp only [Act.put, List.setIfInBounds_toArray, List.set_cons_zero, List.set_cons_succ]
        refine wpAnyH_take (i := 3) (oi := ⟨some 44, .indexAddr 26 (.tmp 42) (.tmp 43), _, _, _, none⟩) (v := ?_) rfl (by kernel_rfl) (by kernel_rfl) (by kernel_rfl) (fun _ _ _ h => h) (Or.inl ⟨by rfl, ?_⟩) hHeld ?_
        rotate_left
        · intro W _; go_simp; try with_reducible rfl
        try simp only [Act.put, List.setIfInBounds_toArray, List.set_cons_zero, List.set_cons_succ]
        refine wpAnyH_take (i := 4) (oi := ⟨some 45, .load 23 (.tmp 44), _, _, _, none⟩) (v := .agg (bs d).toArray) rfl (by kernel_rfl) (by kernel_rfl) (by kernel_rfl) (fun _ _ _ h => h) (yieldsIf_load_mid (by rfl) _ _ rfl b (off + k * 32) rfl (bs d) _ (fun W h => h.r1) Tryd.underlying23 rfl I5.out) hHeld ?_
        try simp only [Act.put, List.setIfInBounds_toArray, List.set_cons_zero, List.set_cons_succ]
        refine wpAnyH_take (i := 5) (oi := ⟨some 46, .fieldAddr 28 (.tmp 3) 0, _, _, _, none⟩) (v := ?_) rfl (by kernel_rfl) (by kernel_rfl) (by kernel_rfl) (fun _ _ _ h => h) (Or.inl ⟨by rfl, ?_⟩) hHeld ?_
        rotate_left
        · intro W _; go_simp; try with_reducible rfl
        try simp only [Act.put, List.setIfInBounds_toArray, List.set_cons_zero, List.set_cons_succ]
        refine wpAnyH_take (i := 6) (oi := ⟨some 47, .load 26 (.tmp 46), _, _, _, none⟩) (v := ?_) rfl (by kernel_rfl) (by kernel_rfl) (by kernel_rfl) (fun _ _ _ h => h) (Or.inl ⟨by rfl, ?_⟩) hHeld ?_
        rotate_left
        · intro W hS; have h0 := hS.c2; go_simp; try with_reducible rfl
        try simp only [Act.put, List.setIfInBounds_toArray, List.set_cons_zero, List.set_cons_succ]
        refine wpAnyH_take (i := 7) (oi := ⟨some 48, .move (.tmp 5), _, _, _, none⟩) (v := ?_) rfl (by kernel_rfl) (by kernel_rfl) (by kernel_rfl) (fun _ _ _ h => h) (Or.inl ⟨by rfl, ?_⟩) hHeld ?_
        rotate_left
        · intro W _; go_simp; try with_reducible rfl
        try simp only [Act.put, List.setIfInBounds_toArray, List.set_cons_zero, List.set_cons_succ]
        refine wpAnyH_take (i := 8) (oi := ⟨some 49, .indexAddr 26 (.tmp 47) (.tmp 48), _, _, _, none⟩) (v := ?_) rfl (by kernel_rfl) (by kernel_rfl) (by kernel_rfl) (fun _ _ _ h => h) (Or.inl ⟨by rfl, ?_⟩) hHeld ?_
        rotate_left
        · intro W _; go_simp; try with_reducible rfl
        try simp only [Act.put, List.setIfInBounds_toArray, List.set_cons_zero, List.set_cons_succ]
        refine wpAnyH_take (i := 9) (oi := ⟨some 50, .load 23 (.tmp 49), _, _, _, none⟩) (v := .agg (bs d).toArray) rfl (by kernel_rfl) (by kernel_rfl) (by kernel_rfl) (fun _ _ _ h => h) (yieldsIf_load_mid (by rfl) _ _ rfl b' (off' + k * 32) rfl (bs d) _ (fun W h => h.r2) Tryd.underlying23 rfl I5.out) hHeld ?_
        try simp only [Act.put, List.setIfInBounds_toArray, List.set_cons_zero, List.set_cons_succ]
        refine wpAnyH_take (i := 10) (oi := ⟨some 51, .binOp .neq 23 (.tmp 45) (.tmp 50) 23, _, _, _, none⟩) (v := .bool false) rfl (by kernel_rfl) (by kernel_rfl) (by kernel_rfl) (fun _ _ _ h => h) (yieldsIf_eqH (by rfl) .neq 23 23 (.tmp 45) (.tmp 50) rfl _ _ rfl rfl guardH _ EQ.out) hHeld ?_
        try simp only [Act.put, List.setIfInBounds_toArray, List.set_cons_zero, List.set_cons_succ]
        refine wpAnyH_done (by kernel_rfl) ?_ _
        -- END same
        have hBd := Bt hBr (Below.refl wr.heap.size wr).drew
        go_wp2_with fail
        go_roundw
        case rel => exact ⟨k + 1, by omega, by go_num, hBd⟩
        case measure => simp [intOf]; omega
      · obtain rfl : k = n := by omega
        have hkl : ¬ (k : Int) < (k : Int) := by omega
        have hBf := Bt hB hBr
        go_wp2_with fail
        go_ret
        exact ⟨rfl, hBf⟩
end
end Go.Proofs.YtgbhfpkngjlfkaaDoor
