/-
  The walks of package proof: Put.
-/
import Derived.Test.YtmfnpjfhijmboaaPrf1
namespace Go.Proofs.Ytmfnpjfhijmboaa
open Go.RowKit

/-- what Put makes of a proof -/
def headP (x : Pf) : List UInt8 := if x.other then 1 :: (x.op ++ x.ov) else [0]
def encP (x : Pf) : List UInt8 := headP x ++ encC x.sibs.length ++ x.sibs.flatten
theorem headP_pos (x : Pf) : 0 < (headP x).length := by unfold headP; split <;> simp
theorem headP_le {x : Pf} (h : x.ok) : (headP x).length ≤ 65 := by
  unfold headP
  split
  · simp [h.p, h.v]
  · simp
theorem putLit {W : World} (q : List UInt8) (base : Nat) (hb : base ≤ W.heap.size) (n : Nat) (hn : q.length = n) (hm : n ≤ maxLen) : Own (W.alloc (.cells (bs q).toArray 5)) base (.slice (some ⟨W.heap.size, 0, none⟩) n n) q :=
  ⟨by simp [bs_length], .inr ⟨W.heap.size, n, (bs q).toArray, by rw [hn], hb, World.alloc_heap_new W _, by omega, hm, by simp [bs_length, hn], by rw [Nat.mul_one, ← bs_length q]; simp⟩⟩
theorem encC_le (n : Nat) (h : n ≤ 2147483647) : (encC n).length ≤ 5 := encC_len n h

theorem fill_bytes (z : Array Value) (q : List UInt8) (hz : z.size = q.length) :
    Instr.fill (fun i => some (i * 1, 1)) z (((bs q).zipIdx 0).map fun x => (x.2, x.1)) = some (bs q).toArray := by
  obtain ⟨r, hr, hsz, hc⟩ := Go.Great.fill_dense (s := 1) (by decide) (bs q) 0 z (fun v hv => by
    obtain ⟨y, hy, rfl⟩ := List.mem_map.1 hv
    rfl) (by simp [hz, bs_length])
  rw [hr]
  congr 1
  refine Array.ext_getElem? fun k => ?_
  rw [hc k]
  by_cases h : k < q.length
  · rw [if_pos (by simp [bs_length]; omega)]
    simp [bs, h, Value.cells, Nat.mod_one]
  · have hz' : z[k]? = none := Array.getElem?_eq_none (by omega)
    have hb' : (bs q)[k]? = none := List.getElem?_eq_none (by rw [bs_length]; omega)
    rw [if_neg (by simp [bs_length]; omega), hz', List.getElem?_toArray, hb']
/-- []byte{k, ..} -/
theorem wpList_manyU {w : World} {ops : Array Oper} {rest : List Oper} {o : Oper} {a : Act} {Q : Exit → Act → World → Prop} (hgd : o.guard = none) (n : Nat) (parts : Array (Nat × Operand)) (ho : o.op = .buildSlice 28 n parts)
    {q : List UInt8} (hn : q.length = n) (hnn : n ≤ 4096) (hpos : 0 < n) (hx : (parts.map fun (i, x) => (i, a.eval x)).toList = ((bs q).zipIdx 0).map fun x => (x.2, x.1)) (base : Nat) (hb : base ≤ w.heap.size)
    (h : ∀ w', Own w' base (.slice (some ⟨w.heap.size, 0, none⟩) n n) q → Below w.heap.size w w' → w'.heap.size = w.heap.size + 1 → wpList Try.prog ops Q rest (a.put o.dst (.slice (some ⟨w.heap.size, 0, none⟩) n n)) w') : wpList Try.prog ops Q (o :: rest) a w := by
  obtain ⟨i, hi, hz0, hz1, hz2⟩ := info_parts info5
  refine wpList_buildSlice hgd 28 5 n parts ho (bs q).toArray i _ Try.underlying28 hi hz0 (by rw [hz1]; omega) (by rw [hz1]; omega) ?_ (h _ (putLit q base hb n hn (by unfold maxLen; omega)) ((Below.refl _ w).alloc (Nat.le_refl _) _) (by simp))
  rw [hz1, hx]
  exact fill_bytes _ q (by simp [hn])
theorem wpList_oneU {w : World} {ops : Array Oper} {rest : List Oper} {o : Oper} {a : Act} {Q : Exit → Act → World → Prop} (hgd : o.guard = none) (x : Operand) (ho : o.op = .buildSlice 28 1 #[(0, x)])
    {k : UInt8} (hx : a.eval x = .int .u8 (k.toNat : Int)) (base : Nat) (hb : base ≤ w.heap.size)
    (h : ∀ w', Own w' base (.slice (some ⟨w.heap.size, 0, none⟩) 1 1) [k] → Below w.heap.size w w' → w'.heap.size = w.heap.size + 1 → wpList Try.prog ops Q rest (a.put o.dst (.slice (some ⟨w.heap.size, 0, none⟩) 1 1)) w') : wpList Try.prog ops Q (o :: rest) a w :=
  wpList_manyU hgd 1 _ ho rfl (by decide) (by decide) (by simp [hx, bs]) base hb h

set_option maxRecDepth 100000 in
set_option maxHeartbeats 1000000 in
theorem pput_no (w : World) (a : Option Addr) (n c : Nat) (x : Pf) (hr : RdP6 w a n c x) (hf : formB x = false) :
    Calls Try.prog 6 #[.agg (pc a n c x).toArray] w fun e w' => e = .returned (.tuple #[.slice none 0 0, .int .i64 40]) ∧ Below w.heap.size w w' := by
  have hS := PAt.start w a n c x
  have hb0 := hS.blk
  have hB0 := hS.bel
  have H5 := Lib.hid (show (Try.prog.info? 26).map (·.size) = some (pc a n c x).length by rw [sizeP, pc_length _ _ _ _ hr.p hr.v])
  have HF := Lib.hid (fun W : World => hasForm_any W a n c x hr.ok hr.sib.len)
  rw [hf] at HF
  clear hS hf
  generalize pc a n c x = P at *
  go_enter Try.func6, Try.ntmps6
  go_wp2_with ((with_reducible refine wpList_loadB (o := ⟨some 5, _, _, _, _, _⟩) ?_ 26 (.tmp 1) ?_ ?_ hb0 Try.underlying26 ?_ H5.out ?_); rfl; rfl; rfl; rfl)
  refine (HF.out _).mono ?_
  rintro e w1 ⟨rfl, hB1⟩
  have hB01 := Bt hB0 hB1
  go_wp2_with fail
  go_ret2
  exact ⟨rfl, hB01⟩

/-- what Put knows of a world: its own proof, and the siblings that came in -/
structure PutAt (w W : World) (a : Option Addr) (n c : Nat) (x : Pf) : Prop where
  own : PAt w W w.heap.size a n c x
  rd : RdP6 W a n c x
theorem PutAt.below {w W W' : World} {a : Option Addr} {n c : Nat} {x : Pf} (h : PutAt w W a n c x) (hb : Below W.heap.size W W') : PutAt w W' a n c x := ⟨h.own.below hb, h.rd.below hb⟩

set_option maxRecDepth 100000 in
set_option maxHeartbeats 1000000 in
theorem pput_ok (w : World) (a : Option Addr) (n c : Nat) (x : Pf) (hr : RdP6 w a n c x) (hf : formB x = true) :
    Calls Try.prog 6 #[.agg (pc a n c x).toArray] w (PutPost w (encP x)) := by
  have hS0 : PutAt w (w.alloc (.cells (pc a n c x).toArray 26)) a n c x := ⟨PAt.start w a n c x, hr.below ((Below.refl _ w).alloc (Nat.le_refl _) _)⟩
  have hb0 := hS0.own.blk
  have H5 := Lib.hid (show (Try.prog.info? 26).map (·.size) = some (pc a n c x).length by rw [sizeP, pc_length _ _ _ _ hr.p hr.v])
  have HF := Lib.hid (fun W : World => hasForm_any W a n c x hr.ok hr.sib.len)
  have hn : n ≤ 256 := by
    have := hr.sib.len
    simp only [formB, Bool.and_eq_true, decide_eq_true_eq] at hf
    omega
  have hlt : 0 < n → ∀ ad, a = some ad → ad.block < w.heap.size := fun h0 ad e => by
    subst e
    obtain ⟨b, off, he, hlt, _⟩ := hr.sib.elems h0
    cases he
    exact hlt
  have HLT := Lib.hid hlt
  clear hlt
  rw [hf] at HF
  have HR := Lib.hid hr
  have hlen := Lib.hid hr.sib.len
  clear hf hr
  have HE : Hid (encP x = headP x ++ encC n ++ x.sibs.flatten) := Lib.hid (by rw [encP, hlen.out])
  have hecl := encC_le n (by omega)
  have HP : Hid (∀ W S, PAt w W S a n c x → W.cell? ⟨S, 0, none⟩ = some (.slice a n c) ∧ W.cell? ⟨S, 1, none⟩ = some (.bool x.other) ∧ W.rangeAt S 2 (bs x.op) ∧ W.rangeAt S 34 (bs x.ov)) := Lib.hid (fun W S h => ⟨h.c0, h.c1, h.rp, h.rv HR.out.p⟩)
  have HH : Hid (headP x = if x.other then 1 :: (x.op ++ x.ov) else [0]) := Lib.hid rfl
  generalize encP x = E at *
  generalize hhd : headP x = h at *
  have hh1 : 0 < h.length := by rw [← hhd]; exact headP_pos x
  have hh2 : h.length ≤ 65 := by rw [← hhd]; exact headP_le HR.out.ok
  clear hhd
  generalize pc a n c x = P at *
  cases ho : x.other with
  | false =>
    rw [ho] at HH HP
    have hh : h = [0] := HH.out
    go_enter Try.func6, Try.ntmps6
    go_wp2_with ((with_reducible refine wpList_loadB (o := ⟨some 5, _, _, _, _, _⟩) ?_ 26 (.tmp 1) ?_ ?_ hb0 Try.underlying26 ?_ H5.out ?_); rfl; rfl; rfl; rfl)
    refine (HF.out _).mono ?_
    rintro e w1 ⟨rfl, hB1⟩
    have hS1 := hS0.below hB1
    have hs1 := hS1.own.bel.size
    obtain ⟨p0, p1, p2, p3⟩ := HP.out _ _ hS1.own
    clear p2 p3
    have HX := Lib.hid hh
    clear hh
    go_wp2_with ((with_reducible refine wpList_oneU (o := ⟨some 8, _, _, _, _, _⟩) ?_ (.const (.int .u8 0)) ?_ (k := 0) ?_ w.heap.size hs1 ?_); rfl; rfl; rfl; intro w3 hO3 hB3 hz3; have p1 := cell_later hB3 p1; have p0 := cell_later hB3 p0)
    rw [← HX.out] at hO3
    have hS3 := hS1.below hB3
    refine (putCount_ok w3 _ _ _ n h hO3.rd (by omega) (by omega) (by omega)).mono ?_
    rintro e w4 ⟨v4, rfl, hO4, hB4⟩
    obtain ⟨a4, c4, rfl⟩ := hO4.shape
    have hS4 := hS3.below hB4
    have p4 := cell_later hB4 p0
    have he4 : (h ++ encC (n : Int).toNat).length ≤ 70 := by rw [List.length_append]; simp; omega
    have he5 : 0 < (h ++ encC (n : Int).toNat).length := by rw [List.length_append]; omega
    have HE4 : Hid (E = (h ++ encC (n : Int).toNat) ++ x.sibs.flatten) := Lib.hid (by rw [HE.out]; simp)
    have HW := Lib.hid (fun x e => hO4.lt (x := x) e)
    have hs34 := hS3.own.bel.size
    generalize h ++ encC (n : Int).toNat = h4 at *
    generalize hm4 : h4.length = m4 at *
    have HM4 := Lib.hid hm4
    clear hm4
    go_wp2_with fail
    refine (followed_any w4 w.heap.size a4 m4 c4 h4 (hO4.lower hs34) HM4.out he5 (hS4.own.bel.size) a n c x.sibs hS4.rd.sib (fun h0 ad e e2 => ?_) (by omega)).mono ?_
    · have h1 := (HW.out _ e2).1
      have h2 := HLT.out h0 ad e
      omega
    rintro e w5 ⟨a5, c5, rfl, hO5, hB5⟩
    have hb5 := hS4.own.bel.trans hB5
    go_wp2_with fail
    go_ret2
    exact ⟨_, rfl, by rw [HE4.out, show m4 + n * 32 = m4 + n * 32 from rfl]; exact hO5, hb5⟩
  | true =>
    rw [ho] at HH HP
    have hh : h = 1 :: (x.op ++ x.ov) := HH.out
    have hpv := And.intro HR.out.p HR.out.v
    have hpvk : okd [x.op, x.ov] := fun y hy => by
      simp at hy
      rcases hy with rfl | rfl
      · exact hpv.1
      · exact hpv.2
    have H6 := Lib.hid (digP hpv.1)
    have H7 := Lib.hid (digP hpv.2)
    have HPV := Lib.hid hpv
    clear hpv
    go_enter Try.func6, Try.ntmps6
    go_wp2_with ((with_reducible refine wpList_loadB (o := ⟨some 5, _, _, _, _, _⟩) ?_ 26 (.tmp 1) ?_ ?_ hb0 Try.underlying26 ?_ H5.out ?_); rfl; rfl; rfl; rfl)
    refine (HF.out _).mono ?_
    rintro e w1 ⟨rfl, hB1⟩
    have hS1 := hS0.below hB1
    have hs1 := hS1.own.bel.size
    obtain ⟨p0, p1, p2, p3⟩ := HP.out _ _ hS1.own
    have HX := Lib.hid hh
    clear hh
    go_wp2_with (first | ((with_reducible refine wpList_oneU (o := ⟨some 8, _, _, _, _, _⟩) ?_ (.const (.int .u8 0)) ?_ (k := 0) ?_ w.heap.size hs1 ?_); rfl; rfl; rfl; intro w2 hO2 hB2 hz2; clear hO2 hz2; have p1 := cell_later hB2 p1; have p0 := cell_later hB2 p0; have p2 := range_below hB2 p2; have p3 := range_below hB2 p3; have hs2 := Nat.le_refl w2.heap.size) | ((with_reducible refine wpList_oneU (o := ⟨some 11, _, _, _, _, _⟩) ?_ (.const (.int .u8 1)) ?_ (k := 1) ?_ w2.heap.size hs2 ?_); rfl; rfl; rfl; intro w3 hO3 hB3 hz3; have hz3' : w2.heap.size + 1 ≤ w3.heap.size := (by omega); clear hz3; have p0 := cell_later hB3 p0; have p2 := range_below hB3 p2; have p3 := range_below hB3 p3) | ((with_reducible refine wpList_loadP (o := ⟨some 13, _, _, _, _, _⟩) ?_ w.heap.size 2 24 (.tmp 12) ?_ ?_ p2 Try.underlying24 ?_ H6.out ?_); rfl; rfl; rfl; rfl) | ((with_reducible refine wpList_loadP (o := ⟨some 15, _, _, _, _, _⟩) ?_ w.heap.size 34 24 (.tmp 14) ?_ ?_ p3 Try.underlying24 ?_ H7.out ?_); rfl; rfl; rfl; rfl) | ((with_reducible refine wpList_twoD (o := ⟨some 16, _, _, _, _, _⟩) ?_ (.tmp 13) (.tmp 15) ?_ hpvk ?_ ?_ ?_); rfl; rfl; rfl; rfl))
    have hR4 := RdD.many w3 (n := 2) hpvk rfl (by decide)
    have hB4 : Below w3.heap.size w3 (w3.alloc (.cells (dcs [x.op, x.ov]).toArray 24)) := (Below.refl _ w3).alloc (Nat.le_refl _) _
    have hO4 := hO3.below hB4
    have hB24 := Bt hB3 hB4
    have hS4 := (hS1.below hB2).below hB24
    have p04 := cell_later hB4 p0
    have hs4 := hB2.size
    have hz4 : w3.heap.size + 1 ≤ (w3.alloc (.cells (dcs [x.op, x.ov]).toArray 24)).heap.size := by simp
    generalize w3.alloc (.cells (dcs [x.op, x.ov]).toArray 24) = w4 at *
    refine (followed_any w4 w2.heap.size _ 1 1 [1] hO4 rfl (by decide) (by omega) (some ⟨w3.heap.size, 0, none⟩) 2 2 [x.op, x.ov] hR4 (fun _ y e e2 => ?_) (by decide)).mono ?_
    · cases e
      simp only [Value.ownBlock, Option.some.injEq] at e2
      omega
    rintro e w5 ⟨a5, c5, rfl, hO5, hB5⟩
    have hB25 : Below w2.heap.size w2 w5 := hB24.trans hB5
    have hS3 := (hS1.below hB2).below hB25
    have p0 := cell_later hB25 (cell_later hB2 (HP.out _ _ hS1.own).1)
    have hO3 : Own w5 w2.heap.size (.slice a5 65 c5) h := by
      have e : h = [1] ++ [x.op, x.ov].flatten := by rw [HX.out]; simp
      rw [e]; exact hO5
    have hs5 : w.heap.size ≤ w5.heap.size := by have := hB25.size; omega
    clear hO4 hO5 hB4 hB24 hR4 hB5 hS4 p04 p1 p2 p3
    go_wp2_with fail
    refine (putCount_ok w5 _ _ _ n h hO3.rd (by omega) (by omega) (by omega)).mono ?_
    rintro e w4 ⟨v4, rfl, hO4, hB4⟩
    obtain ⟨a4, c4, rfl⟩ := hO4.shape
    have hS4 := hS3.below hB4
    have p4 := cell_later hB4 p0
    have he4 : (h ++ encC (n : Int).toNat).length ≤ 70 := by rw [List.length_append]; simp; omega
    have he5 : 0 < (h ++ encC (n : Int).toNat).length := by rw [List.length_append]; omega
    have HE4 : Hid (E = (h ++ encC (n : Int).toNat) ++ x.sibs.flatten) := Lib.hid (by rw [HE.out]; simp)
    have HW := Lib.hid (fun x e => hO4.lt (x := x) e)
    have hs34 := hS3.own.bel.size
    generalize h ++ encC (n : Int).toNat = h4 at *
    generalize hm4 : h4.length = m4 at *
    have HM4 := Lib.hid hm4
    clear hm4
    go_wp2_with fail
    refine (followed_any w4 w.heap.size a4 m4 c4 h4 (hO4.lower hs34) HM4.out he5 (hS4.own.bel.size) a n c x.sibs hS4.rd.sib (fun h0 ad e e2 => ?_) (by omega)).mono ?_
    · have h1 := (HW.out _ e2).1
      have h2 := HLT.out h0 ad e
      omega
    rintro e w5 ⟨a5, c5, rfl, hO5, hB5⟩
    have hb5 := hS4.own.bel.trans hB5
    go_wp2_with fail
    go_ret2
    exact ⟨_, rfl, by rw [HE4.out, show m4 + n * 32 = m4 + n * 32 from rfl]; exact hO5, hb5⟩
end Go.Proofs.Ytmfnpjfhijmboaa
