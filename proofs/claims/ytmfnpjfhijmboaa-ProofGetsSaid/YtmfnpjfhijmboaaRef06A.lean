/-
  The reference of layer 6: Own, plain, Put.
-/
import Derived.Test.YtmfnpjfhijmboaaPrf2
import Derived.Test.YtmfnpjfhijmboaaPrf4
import Derived.Test.YtmfnpjfhijmboaaRef01
namespace Go.Proofs.Ytmfnpjfhijmboaa
open Go.RowKit

theorem Rd.partP {w : World} {g o n : Nat} {l : List UInt8} (h : w.rangeAt g o (bs l)) (hn : l.length = n) (hm : n ≤ maxLen) : Rd w (some ⟨g, o, none⟩) n n l := by
  refine ⟨hn, Nat.le_refl _, hm, (fun e => by cases e), fun ad e j u hu => ?_⟩
  cases e
  rw [Addr.add_lit]
  exact h j u hu

/-- append(nil, x...) of digests -/
theorem wpList_appD0 {w : World} {ops : Array Oper} {rest : List Oper} {o : Oper} {a : Act} {Q : Exit → Act → World → Prop} (hgd : o.guard = none) (s x : Operand)
    (ho : o.op = Op.call { callee := Callee.builtin Builtin.append, args := #[s, x], argTypes := #[22, 22] })
    {l : List (List UInt8)} {ao : Option Addr} {n c : Nat} (hs : a.eval s = .slice none 0 0) (hx : a.eval x = .slice ao n c) (hR : RdD w ao n c l) (hsz : n ≤ 1000000)
    (hK : ∀ ao' c' w', OwnD w' w.heap.size (.slice ao' n c') l → Below w.heap.size w w' → wpList Try.prog ops Q rest (a.put o.dst (.slice ao' n c')) w') :
    wpList Try.prog ops Q (o :: rest) a w := by
  refine wpList_appD hgd s x ho hs (OwnD.nil0 w w.heap.size) hx hR (by simpa using hsz) (Nat.le_refl _) ?_
  intro a' c' w' hO hg _
  have e : ([] : List (List UInt8)).length + n = n := by simp
  rw [e] at hO ⊢
  exact hK a' c' w' (by simpa using hO) ((Below.refl _ w).grown hg (Nat.le_refl _) (fun k e => by cases e))

set_option maxRecDepth 100000 in
set_option maxHeartbeats 1000000 in
theorem own_ref (w : World) (a : Option Addr) (n c : Nat) (x : Pf) (hr : RdP6 w a n c x) (hn : n ≤ 1000) :
    Calls Try.prog 5 #[.agg (pc a n c x).toArray] w fun e w' => ∃ a' c', e = .returned (.agg (pc a' n c' x).toArray) ∧ RdP6 w' a' n c' x ∧ Below w.heap.size w w' := by
  have hS0 : PutAt w (w.alloc (.cells (pc a n c x).toArray 26)) a n c x := ⟨PAt.start w a n c x, hr.below ((Below.refl _ w).alloc (Nat.le_refl _) _)⟩
  have hlen := Lib.hid hr.sib.len
  have HX := Lib.hid hr.ok
  have hz : (w.alloc (.cells (pc a n c x).toArray 26)).heap.size = w.heap.size + 1 := by simp
  have hSZ : Hid (∀ (a : Option Addr) (n c : Nat), (Try.prog.info? 26).map (·.size) = some (pc a n c x).length) := Lib.hid (fun a n c => size_of HX.out)
  have hLL : Hid (∀ (a : Option Addr) (n c : Nat), (pc none 0 0 pf0).length = (pc a n c x).length) := Lib.hid (fun a n c => cells_len pf0_ok HX.out)
  have hOO : Hid (∀ (a : Option Addr) (n c : Nat), ∀ u ∈ pc a n c x, u.oneCell' = true) := Lib.hid (fun a n c => pc_one a n c x)
  have hSet : Hid (∀ (a a' : Option Addr) (n c n' c' : Nat), (pc a n c x).set 0 (.slice a' n' c') = pc a' n' c' x) := Lib.hid (fun a a' n c n' c' => rfl)
  clear hr
  go_enter Try.func5, Try.ntmps5
  go_wp2_with (first | (((with_reducible refine wpList_allocB (o := ⟨some 2, _, _, _, _, _⟩) ?_ 26 ?_ zeroP_info ?_); rfl; rfl; intro w1 hr1 hg1 hz1); have hB1 : Below (w.alloc (.cells (pc a n c x).toArray 26)).heap.size (w.alloc (.cells (pc a n c x).toArray 26)) w1 := (Below.refl _ _).grown hg1 (Nat.le_refl _) (fun k e => by cases e); have hS1 := hS0.below hB1; have c0 := hS1.own.c0; have hR1 := hS1.rd.sib; rw [hz] at hr1; have hn6 : n ≤ 1000000 := (by omega); have hzz : w.heap.size + 1 < w1.heap.size := (by rw [hz1, hz]; omega); clear hz1) | ((with_reducible refine wpList_appD0 (o := ⟨some 7, _, _, _, _, _⟩) ?_ (.tmp 4) (.tmp 6) ?_ ?_ ?_ hR1 hn6 ?_); rfl; rfl; rfl; rfl; intro a2 c2 w2 hO2 hB2; have hS2 := hS1.below hB2; have hr2 := hr1.below hB2; have c02 := hS2.own.c0; have f02 := hS2.own.blk.free 0; have hb3 := hS2.own.blk.set 0 (.slice a2 n c2); rw [hSet.out] at hb3; have hr3 := hr2.setOther ⟨w.heap.size, 0, none⟩ (.slice a2 n c2) (by simp); have I3 := Lib.hid (hSZ.out a2 n c2); have L3 := Lib.hid (hLL.out a2 n c2); have O3 := hOO.out a2 n c2) | ((with_reducible refine wpList_loadB (o := ⟨some 10, _, _, _, _, _⟩) ?_ 26 (.tmp 1) ?_ ?_ hb3 Try.underlying26 ?_ I3.out ?_); rfl; rfl; rfl; rfl) | ((with_reducible refine wpList_storeB (o := ⟨none, .store 26 (.tmp 2) (.tmp 10), _, _, _, _⟩) ?_ 26 (.tmp 2) (.tmp 10) ?_ ?_ ?_ hr3 I3.out L3.out O3 ?_); rfl; rfl; rfl; rfl; intro w4 hr4 hg4 hz4))
  try simp only [Exit.inBlock, Exit.then]
  refine bodyPost_blk hr4 Try.underlying26 I3.out rfl rfl rfl rfl ⟨a2, c2, rfl, ?_, ?_⟩
  · have hgs := set_grown w2 w.heap.size 0 (.slice a2 n c2)
    have e1 := hO2.kept hgs (fun y e e2 => by have := (hO2.lt e).1; cases e2; omega)
    exact ⟨(e1.kept hg4 (fun y e e2 => by have := (e1.lt e).1; cases e2; omega)).rd, HX.out.p, HX.out.v⟩
  · have hgs := set_grown w2 w.heap.size 0 (.slice a2 n c2)
    have hs2 := hS2.own.bel.size
    exact ((hS2.own.bel.grown hgs hs2 (fun k e => by cases e; exact Nat.le_refl _)).grown hg4 (by simpa using hs2) (fun k e => by cases e; omega))
-- PLAIN
set_option maxRecDepth 100000 in
set_option maxHeartbeats 1000000 in
theorem plain_ref (w : World) (a : Option Addr) (n c : Nat) (x : Pf) (hx : x.ok) :
    Calls Try.prog 15 #[.agg (pc a n c x).toArray] w fun e w' => e = .returned (.bool (plainB x)) ∧ Below w.heap.size w w' := by
  have hS := PAt.start w a n c x
  have c1 := hS.c1
  have r2 := hS.rp
  have r3 := hS.rv hx.p
  have hB := hS.bel
  have HF : Hid (plainB x = (x.other || (x.op == zero32 && x.ov == zero32))) := Lib.hid rfl
  have H5 := Lib.hid (digP hx.p)
  have H6 := Lib.hid (digP hx.v)
  have HBT := Lib.hid built0
  have E1 := fun W : World => eqInD W x.op zero32 hx.p zero32_length
  have E2 := fun W : World => eqInD W x.ov zero32 hx.v zero32_length
  clear hS hx
  generalize hP : pc a n c x = P at *
  clear hP
  generalize x.op = p at *
  generalize x.ov = v at *
  generalize x.other = o at *
  generalize plainB x = F at *
  generalize (p == zero32) = b1 at *
  generalize (v == zero32) = b2 at *
  cases o with
  | true =>
    clear E1 E2
    go_enter Try.func15, Try.ntmps15
    go_wp2_with fail
    go_ret
    exact ⟨by rw [HF.out]; rfl, hB⟩
  | false =>
    cases b1 with
    | false =>
      go_enter Try.func15, Try.ntmps15
      have E1' := E1 (w.alloc (.cells P.toArray 26))
      clear E1 E2
      go_wp2_with (first | ((with_reducible refine wpList_loadP (o := ⟨some 7, _, _, _, _, _⟩) ?_ w.heap.size 2 24 (.tmp 6) ?_ ?_ r2 Try.underlying24 ?_ H5.out ?_); rfl; rfl; rfl; rfl) | ((with_reducible refine wpList_buildP (o := ⟨some 8, _, _, _, _, _⟩) ?_ 24 #[] ?_ (ps := []) ?_ HBT.out ?_); rfl; rfl; rfl))
      go_ret
      exact ⟨by rw [HF.out]; rfl, hB⟩
    | true =>
      go_enter Try.func15, Try.ntmps15
      have E1' := E1 (w.alloc (.cells P.toArray 26))
      have E2' := E2 (w.alloc (.cells P.toArray 26))
      clear E1 E2
      go_wp2_with (first | ((with_reducible refine wpList_loadP (o := ⟨some 7, _, _, _, _, _⟩) ?_ w.heap.size 2 24 (.tmp 6) ?_ ?_ r2 Try.underlying24 ?_ H5.out ?_); rfl; rfl; rfl; rfl) | ((with_reducible refine wpList_buildP (o := ⟨some 8, _, _, _, _, _⟩) ?_ 24 #[] ?_ (ps := []) ?_ HBT.out ?_); rfl; rfl; rfl) | ((with_reducible refine wpList_loadP (o := ⟨some 12, _, _, _, _, _⟩) ?_ w.heap.size 34 24 (.tmp 11) ?_ ?_ r3 Try.underlying24 ?_ H6.out ?_); rfl; rfl; rfl; rfl) | ((with_reducible refine wpList_buildP (o := ⟨some 13, _, _, _, _, _⟩) ?_ 24 #[] ?_ (ps := []) ?_ HBT.out ?_); rfl; rfl; rfl))
      go_ret
      exact ⟨by rw [HF.out]; simp, hB⟩


set_option maxRecDepth 100000 in
set_option maxHeartbeats 1000000 in
theorem put_ref_no (w : World) (a : Option Addr) (n c : Nat) (x : Pf) (hr : RdP6 w a n c x) (hf : formB x = false) (hn : n ≤ 1000) :
    Calls Try.prog 7 #[.agg (pc a n c x).toArray] w fun e w' => e = .returned (.tuple #[.slice none 0 0, .int .i64 40]) ∧ Below w.heap.size w w' := by
  have hS := PAt.start w a n c x
  have hb0 := hS.blk
  have c0 := hS.c0
  have hB0 := hS.bel
  have H5 := Lib.hid (show (Try.prog.info? 26).map (·.size) = some (pc a n c x).length by rw [sizeP, pc_length _ _ _ _ hr.p hr.v])
  have HF := Lib.hid (fun W : World => plain_ref W a n c x hr.ok)
  have hlen := hr.sib.len
  by_cases h256 : n ≤ 256
  · have hp : plainB x = false := by
      rw [formB, hlen] at hf
      simpa [h256] using hf
    have h' : ¬ (256 : Int) < (n : Int) := by omega
    rw [hp] at HF
    clear hS hf hlen hp
    generalize pc a n c x = P at *
    go_enter Try.func7, Try.ntmps7
    go_wp2_with ((with_reducible refine wpList_loadR (o := ⟨some 12, _, _, _, _, _⟩) ?_ 26 (.tmp 1) ?_ ?_ hb0 Try.underlying26 ?_ H5.out ?_); rfl; rfl; rfl; rfl)
    refine (HF.out _).mono ?_
    rintro e w1 ⟨rfl, hB1⟩
    have hB01 := Bt hB0 hB1
    go_wp2_with fail
    go_ret2
    exact ⟨rfl, hB01⟩
  · have h' : (256 : Int) < (n : Int) := by omega
    clear hS hf hlen HF
    generalize pc a n c x = P at *
    go_enter Try.func7, Try.ntmps7
    go_wp2_with fail
    go_ret2
    exact ⟨rfl, hB0⟩

/-- what the reference's Put knows in its rounds -/
structure PrAt (w1 W : World) (l : List (List UInt8)) (h : List UInt8) (k : Nat) (v : Value) (q : List UInt8) : Prop where
  own : Own W w1.heap.size v q
  eq : q = h ++ (l.take k).flatten
  bel : Below w1.heap.size w1 W
theorem PrAt.step {w1 W W' : World} {l : List (List UInt8)} {h : List UInt8} {k : Nat} {v v' : Value} {q : List UInt8} (hP : PrAt w1 W l h k v q) (hk : k < l.length) (hO : Own W' w1.heap.size v' (q ++ l.getD k [])) (hg : W.grownBy W' v.ownBlock) : PrAt w1 W' l h (k + 1) v' (q ++ l.getD k []) :=
  ⟨hO, by rw [fol_take l k hk, hP.eq, List.append_assoc], hP.bel.grown hg hP.bel.size (fun x e => (World.ownsRow.lt hP.own x e).1)⟩
theorem dummy : True := trivial
def NewPost2P (w : World) (l : List UInt8) (e : Ending) (w' : World) : Prop :=
  ∃ a n c, e = .returned (.tuple #[.slice a n c, .int .i64 0]) ∧ Own w' w.heap.size (.slice a n c) l ∧ Below w.heap.size w w'

/-- b[0] = 1 -/
theorem own_one {W : World} {base g : Nat} (h : Own W base (.slice (some ⟨g, 0, none⟩) 1 1) [0]) :
    W.cell? ⟨g, 0, none⟩ = some (.int .u8 0) ∧ W.frozen? ⟨g, 0, none⟩ = false ∧ Own (W.setCell ⟨g, 0, none⟩ (.int .u8 1)) base (.slice (some ⟨g, 0, none⟩) 1 1) [1] ∧ W.grownBy (W.setCell ⟨g, 0, none⟩ (.int .u8 1)) (some g) := by
  obtain ⟨h1, h2⟩ := World.ownsRow.stored h 0 (.int .u8 1)
  exact ⟨World.ownsRow.cellAt h 0 (by decide), World.ownsRow.frozenAt h 0, h1, h2⟩

set_option maxRecDepth 100000 in
set_option maxHeartbeats 2000000 in
theorem put_ref_ok (w : World) (a : Option Addr) (n c : Nat) (x : Pf) (hr : RdP6 w a n c x) (hf : formB x = true) :
    Calls Try.prog 7 #[.agg (pc a n c x).toArray] w (NewPost2P w (encP x)) := by
  have hS0 : PutAt w (w.alloc (.cells (pc a n c x).toArray 26)) a n c x := ⟨PAt.start w a n c x, hr.below ((Below.refl _ w).alloc (Nat.le_refl _) _)⟩
  have hb0 := hS0.own.blk
  have c0 := hS0.own.c0
  have H5 := Lib.hid (show (Try.prog.info? 26).map (·.size) = some (pc a n c x).length by rw [sizeP, pc_length _ _ _ _ hr.p hr.v])
  have HF := Lib.hid (fun W : World => plain_ref W a n c x hr.ok)
  have hlen := Lib.hid hr.sib.len
  have hn : n ≤ 256 := by
    have := hr.sib.len
    simp only [formB, Bool.and_eq_true, decide_eq_true_eq] at hf
    omega
  have hp : plainB x = true := by
    simp only [formB, Bool.and_eq_true] at hf
    exact hf.2
  have h' : ¬ (256 : Int) < (n : Int) := by omega
  rw [hp] at HF
  have HR := Lib.hid (And.intro hr.p hr.v)
  have HE : Hid (encP x = headP x ++ encC n ++ x.sibs.flatten) := Lib.hid (by rw [encP, hlen.out])
  have HH : Hid (headP x = if x.other then 1 :: (x.op ++ x.ov) else [0]) := Lib.hid rfl
  have GR := Lib.hid (fun W : World => groups_ref 4 n W (by omega) (by decide))
  have hel := encC_le n (by omega)
  have FIN := Lib.hid (fun (W : World) (a' : Option Addr) (n' c' : Nat) (h1 : Own W w.heap.size (.slice a' n' c') (encP x)) (h2 : Below w.heap.size w W) => (show NewPost2P w (encP x) (.returned (.tuple #[.slice a' n' c', .int .i64 0])) W from ⟨a', n', c', rfl, h1, h2⟩))
  clear hf hp hr
  generalize NewPost2P w (encP x) = RP at *
  generalize encP x = E at *
  generalize headP x = h at *
  generalize hc : encC n = ec at *
  clear hc
  have HP : Hid (∀ W S, PAt w W S a n c x → W.cell? ⟨S, 0, none⟩ = some (.slice a n c) ∧ W.cell? ⟨S, 1, none⟩ = some (.bool x.other) ∧ W.rangeAt S 2 (bs x.op) ∧ W.rangeAt S 34 (bs x.ov)) := Lib.hid (fun W S h => ⟨h.c0, h.c1, h.rp, h.rv HR.out.1⟩)
  generalize pc a n c x = P at *
  go_enter Try.func7, Try.ntmps7
  go_wp2_with ((with_reducible refine wpList_loadR (o := ⟨some 12, _, _, _, _, _⟩) ?_ 26 (.tmp 1) ?_ ?_ hb0 Try.underlying26 ?_ H5.out ?_); rfl; rfl; rfl; rfl)
  refine (HF.out _).mono ?_
  rintro e w1 ⟨rfl, hB1⟩
  have hS1 := hS0.below hB1
  obtain ⟨p0, p1, p2, p3⟩ := HP.out _ _ hS1.own
  have hs1 := Nat.le_refl w1.heap.size
  have hsw : w.heap.size < w1.heap.size := hS1.own.blk.lt
  cases ho : x.other with
  | false =>
    rw [ho] at HH p1
    have hh : h = [0] := HH.out
    have HX := Lib.hid hh
    have hh2 : h.length ≤ 65 := by rw [hh]; decide
    clear hh p2 p3
    go_wp2_with ((with_reducible refine wpList_oneU (o := ⟨some 16, _, _, _, _, _⟩) ?_ (.const (.int .u8 0)) ?_ (k := 0) ?_ w1.heap.size hs1 ?_); rfl; rfl; rfl; intro w4 hO4 hB4 hz4; rw [← HX.out] at hO4; have p1 := cell_later hB4 p1; have p0 := cell_later hB4 p0)
    have hP4 : Below w1.heap.size w1 w4 := hB4
    have hS4 := hS1.below hB4
    obtain ⟨q0, q1, q2, q3⟩ := HP.out _ _ hS4.own
    clear q1 q2 q3
    refine (GR.out w4).mono ?_
    rintro e w5 ⟨a5, n5, c5, rfl, hO5, hB5⟩
    have hl5 := hO5.rd.len
    have hO45 := hO4.below hB5
    have hB45 := hB4.trans (hB5.mono hB4.size)
    have hs5 := hB45.size
    have hR5 := hO5.rd
    have hle5 : n5 ≤ 5 := by omega
    have HL5 := Lib.hid hl5
    have hh65 : h.length ≤ 65 := hh2
    clear hl5 hO5
    have p0' := cell_later hB5 q0
    go_wp2_with ((with_reducible refine wpList_app (o := ⟨some 35, _, _, _, _, _⟩) ?_ (.tmp 33) (.tmp 34) ?_ ?_ hO45 ?_ hR5 ?_ hs5 ?_); rfl; rfl; rfl; rfl; omega; intro a6 c6 w6 hO6 hg6)
    have hB6 := hB45.grown hg6 hs5 (fun x e => (World.ownsRow.lt hO45 x e).1)
    have hP6 : PrAt w1 w6 x.sibs (h ++ ec) 0 (.slice a6 (h.length + n5) c6) (h ++ ec) := ⟨hO6, by simp, hB6⟩
    have HM6 : Hid ((h ++ ec).length = h.length + n5) := Lib.hid (by rw [List.length_append, HL5.out])
    have hm6 : h.length + n5 ≤ 70 := by omega
    have HEQ : Hid (E = (h ++ ec) ++ x.sibs.flatten) := Lib.hid HE.out
    generalize h.length + n5 = m6 at *
    generalize h ++ ec = h6 at *
    clear hO6 hg6 hO45 hB45 hR5 p0' hB6 hP4
    go_loopw [4, 6] (fun v i wr => ∃ (k m' : Nat) (a' : Option Addr) (c' : Nat) (q : List UInt8), k ≤ n ∧ i = .int .i64 (k : Int) ∧ v = .slice a' m' c' ∧ Hid (q.length = m' ∧ m' = m6 + k * 32) ∧ PrAt w1 wr x.sibs h6 k (.slice a' m' c') q) (fun _ i _ => n - (intOf i).toNat)
    case atStart => exact ⟨0, m6, a6, c6, h6, by omega, rfl, rfl, Lib.hid ⟨HM6.out, by omega⟩, hP6⟩
    case round =>
      obtain ⟨k, m', a', c', q, hk, rfl, rfl, HM, hF⟩ := hrel
      have hSr := hS1.below hF.bel
      have r0 := (HP.out _ _ hSr.own).1
      by_cases hlt : k < n
      · obtain ⟨b, off, hae, hblt, hell⟩ := hSr.rd.sib.elems (by omega)
        subst hae
        have hR := Lib.hid (Rd.partP (hell k hlt) (hSr.rd.sib.ok.at (by rw [hlen.out]; exact hlt)) (by decide))
        have hst := Lib.hid (fun (W' : World) (v' : Value) => hF.step (W' := W') (v' := v') (by rw [hlen.out]; exact hlt))
        have hO := hF.own
        have hq' : q.length + 32 ≤ 140737488355328 := by have := HM.out; omega
        have hbs := hF.bel.size
        have hkl : (k : Int) < (n : Int) := by omega
        have hRR := hR.out
        have HQL : Hid (q.length = m') := Lib.hid HM.out.1
        have HDL : Hid ((x.sibs.getD k []).length = 32) := Lib.hid (hSr.rd.sib.ok.at (by rw [hlen.out]; exact hlt))
        clear hell hF
        generalize x.sibs.getD k [] = d at *
        go_wp2_with ((with_reducible refine wpList_app (o := ⟨some 49, _, _, _, _, _⟩) ?_ (.tmp 43) (.tmp 48) ?_ ?_ hO ?_ hRR hq' hbs ?_); rfl; rfl; rfl; rfl; intro a7 c7 w7 hO7 hg7; rw [HQL.out] at hO7)
        go_roundw
        case rel => exact ⟨k + 1, m' + 32, a7, c7, q ++ d, by omega, by go_num, by rw [HQL.out], Lib.hid ⟨by rw [List.length_append, HQL.out, HDL.out], by have := HM.out; omega⟩, hst.out _ _ hO7 hg7⟩
        case measure => simp [intOf]; omega
      · obtain rfl : k = n := by omega
        have hkl : ¬ (k : Int) < (k : Int) := by omega
        have hE := hF.eq
        rw [List.take_of_length_le (by rw [hlen.out]; omega), ← HEQ.out] at hE
        have HE9 := Lib.hid hE
        have hO := hF.own
        have hbel := hS1.own.bel.trans (hF.bel.mono (by omega))
        clear hE hF
        go_wp2_with fail
        try go_ret2
        exact FIN.out _ _ _ _ (by rw [← HE9.out]; exact hO.lower (by omega)) hbel
  | true =>
    rw [ho] at HH p1
    have hh : h = [1] ++ x.op ++ x.ov := HH.out
    have HX := Lib.hid hh
    have hh2 : h.length ≤ 65 := by rw [hh]; simp [HR.out.1, HR.out.2]
    have HA := Lib.hid (fun (W : World) (hB : Below w1.heap.size w1 W) => And.intro (Rd.partP (range_below hB p2) HR.out.1 (by decide)) (Rd.partP (range_below hB p3) HR.out.2 (by decide)))
    have hl1 : x.op.length = 32 := HR.out.1
    have HL1 := Lib.hid hl1
    have HC := Lib.hid (fun (W : World) (hB : Below w1.heap.size w1 W) => And.intro (cell_later hB p0) (cell_later hB p1))
    have hbig : ([1] : List UInt8).length + 32 ≤ 140737488355328 := by decide
    obtain ⟨q1, hq1⟩ : ∃ q, q = [1] ++ x.op := ⟨_, rfl⟩
    have hq1l : q1.length + 32 ≤ 140737488355328 := by rw [hq1]; simp [hl1]
    have HQ1 := Lib.hid hq1
    clear hh p2 p3 hl1 hq1
    go_wp2_with (first | ((with_reducible refine wpList_oneU (o := ⟨some 16, _, _, _, _, _⟩) ?_ (.const (.int .u8 0)) ?_ (k := 0) ?_ w1.heap.size hs1 ?_); rfl; rfl; rfl; intro w2 hO2 hB2 hz2; have p1 := cell_later hB2 p1; have p0 := cell_later hB2 p0; obtain ⟨k1, k2, k3, k4⟩ := own_one hO2; have hB3 := hB2.grown k4 hB2.size (fun k e => by cases e; exact Nat.le_refl _); have hR3 := (HA.out _ hB3).1; have hs3 := hB3.size; clear hz2) | ((with_reducible refine wpList_app (o := ⟨some 24, _, _, _, _, _⟩) ?_ (.tmp 21) (.tmp 23) ?_ ?_ k3 ?_ hR3 hbig hs3 ?_); rfl; rfl; rfl; rfl; intro a3 c3 w3 hO3 hg3; have hO3' : Own w3 w1.heap.size (.slice a3 33 c3) ([1] ++ x.op) := hO3; rw [← HQ1.out] at hO3'; have hB5 := hB3.grown hg3 hs3 (fun x e => (World.ownsRow.lt k3 x e).1); have hR5 := (HA.out _ hB5).2; have hs5 := hB5.size; clear hO3) | ((with_reducible refine wpList_app (o := ⟨some 28, _, _, _, _, _⟩) ?_ (.tmp 25) (.tmp 27) ?_ ?_ hO3' ?_ hR5 hq1l hs5 ?_); rfl; rfl; rfl; rfl; intro a4 c4 w4 hO4 hg4; have hB4 := hB5.grown hg4 hs5 (fun x e => (World.ownsRow.lt hO3' x e).1); rw [HQ1.out, ← HX.out, ← HQ1.out] at hO4; obtain ⟨p0, p1⟩ := HC.out _ hB4))
    have hP4 : Below w1.heap.size w1 w4 := hB4
    have hS4 := hS1.below hB4
    obtain ⟨q0, q1, q2, q3⟩ := HP.out _ _ hS4.own
    clear q1 q2 q3
    refine (GR.out w4).mono ?_
    rintro e w5 ⟨a5, n5, c5, rfl, hO5, hB5⟩
    have hl5 := hO5.rd.len
    have hO45 := hO4.below hB5
    have hB45 := hB4.trans (hB5.mono hB4.size)
    have hs5 := hB45.size
    have hR5 := hO5.rd
    have hle5 : n5 ≤ 5 := by omega
    have HL5 := Lib.hid hl5
    have hh65 : h.length ≤ 65 := hh2
    clear hl5 hO5
    have p0' := cell_later hB5 q0
    go_wp2_with ((with_reducible refine wpList_app (o := ⟨some 35, _, _, _, _, _⟩) ?_ (.tmp 33) (.tmp 34) ?_ ?_ hO45 ?_ hR5 ?_ hs5 ?_); rfl; rfl; rfl; rfl; omega; intro a6 c6 w6 hO6 hg6)
    have hB6 := hB45.grown hg6 hs5 (fun x e => (World.ownsRow.lt hO45 x e).1)
    have hP6 : PrAt w1 w6 x.sibs (h ++ ec) 0 (.slice a6 (h.length + n5) c6) (h ++ ec) := ⟨hO6, by simp, hB6⟩
    have HM6 : Hid ((h ++ ec).length = h.length + n5) := Lib.hid (by rw [List.length_append, HL5.out])
    have hm6 : h.length + n5 ≤ 70 := by omega
    have HEQ : Hid (E = (h ++ ec) ++ x.sibs.flatten) := Lib.hid HE.out
    generalize h.length + n5 = m6 at *
    generalize h ++ ec = h6 at *
    clear hO6 hg6 hO45 hB45 hR5 p0' hB6 hP4
    go_loopw [4, 6] (fun v i wr => ∃ (k m' : Nat) (a' : Option Addr) (c' : Nat) (q : List UInt8), k ≤ n ∧ i = .int .i64 (k : Int) ∧ v = .slice a' m' c' ∧ Hid (q.length = m' ∧ m' = m6 + k * 32) ∧ PrAt w1 wr x.sibs h6 k (.slice a' m' c') q) (fun _ i _ => n - (intOf i).toNat)
    case atStart => exact ⟨0, m6, a6, c6, h6, by omega, rfl, rfl, Lib.hid ⟨HM6.out, by omega⟩, hP6⟩
    case round =>
      obtain ⟨k, m', a', c', q, hk, rfl, rfl, HM, hF⟩ := hrel
      have hSr := hS1.below hF.bel
      have r0 := (HP.out _ _ hSr.own).1
      by_cases hlt : k < n
      · obtain ⟨b, off, hae, hblt, hell⟩ := hSr.rd.sib.elems (by omega)
        subst hae
        have hR := Lib.hid (Rd.partP (hell k hlt) (hSr.rd.sib.ok.at (by rw [hlen.out]; exact hlt)) (by decide))
        have hst := Lib.hid (fun (W' : World) (v' : Value) => hF.step (W' := W') (v' := v') (by rw [hlen.out]; exact hlt))
        have hO := hF.own
        have hq' : q.length + 32 ≤ 140737488355328 := by have := HM.out; omega
        have hbs := hF.bel.size
        have hkl : (k : Int) < (n : Int) := by omega
        have hRR := hR.out
        have HQL : Hid (q.length = m') := Lib.hid HM.out.1
        have HDL : Hid ((x.sibs.getD k []).length = 32) := Lib.hid (hSr.rd.sib.ok.at (by rw [hlen.out]; exact hlt))
        clear hell hF
        generalize x.sibs.getD k [] = d at *
        go_wp2_with ((with_reducible refine wpList_app (o := ⟨some 49, _, _, _, _, _⟩) ?_ (.tmp 43) (.tmp 48) ?_ ?_ hO ?_ hRR hq' hbs ?_); rfl; rfl; rfl; rfl; intro a7 c7 w7 hO7 hg7; rw [HQL.out] at hO7)
        go_roundw
        case rel => exact ⟨k + 1, m' + 32, a7, c7, q ++ d, by omega, by go_num, by rw [HQL.out], Lib.hid ⟨by rw [List.length_append, HQL.out, HDL.out], by have := HM.out; omega⟩, hst.out _ _ hO7 hg7⟩
        case measure => simp [intOf]; omega
      · obtain rfl : k = n := by omega
        have hkl : ¬ (k : Int) < (k : Int) := by omega
        have hE := hF.eq
        rw [List.take_of_length_le (by rw [hlen.out]; omega), ← HEQ.out] at hE
        have HE9 := Lib.hid hE
        have hO := hF.own
        have hbel := hS1.own.bel.trans (hF.bel.mono (by omega))
        clear hE hF
        go_wp2_with fail
        try go_ret2
        exact FIN.out _ _ _ _ (by rw [← HE9.out]; exact hO.lower (by omega)) hbel
end Go.Proofs.Ytmfnpjfhijmboaa
