/-
  The walks of package version: counted, add, encode, Put.
-/
import Derived.Test.YtbbckjpgmpfkgaaDoorPure07B
import Derived.Test.YtbbckjpgmpfkgaaDoorOctB
namespace Go.Proofs.YtbbckjpgmpfkgaaDoor
open Go.RowKit
set_option maxRecDepth 100000

set_option maxRecDepth 100000 in
theorem counted_any (w : World) (n : Int) (h0 : 0 ≤ n) (h1 : n ≤ 2147483647) : Calls Tryd.prog 81 #[.int .i64 n] w fun e w' => ∃ a m c, e = .returned (.slice a m c) ∧ Hid (m = (encC n.toNat).length) ∧ m ≤ 5 ∧ Rd w' a m c (encC n.toNat) ∧ Below w.heap.size w w' := by
  have PC := Lib.hid (putCount_ok w none 0 0 n [] (Rd.nil0 w) (by omega) h0 h1)
  have h5 := encC_len n.toNat (by omega)
  rw [List.nil_append] at PC
  generalize encC n.toNat = E at *
  go_enter Tryd.func81, Tryd.ntmps81
  go_wp2_with fail
  refine PC.out.mono ?_
  rintro e w1 ⟨v, rfl, hO, hB⟩
  obtain ⟨a, c, rfl⟩ := hO.shape
  have hR := hO.rd
  obtain ⟨m, hm⟩ : ∃ m, m = E.length := ⟨_, rfl⟩
  rw [← hm] at hR h5 ⊢
  have HM := Lib.hid hm
  clear hm hO
  go_wp2_with fail
  go_ret
  exact ⟨a, m, c, rfl, HM, h5, hR, hB⟩

/-- a text that grows, in memory of the call's own -/
structure Tx (w0 W : World) (T : Nat) (q : List UInt8) : Prop where
  ex : ∃ v, Blk W T 81 [v] ∧ Own W w0.heap.size v q ∧ v.ownBlock ≠ some T
  le : w0.heap.size ≤ T
  bel : Below w0.heap.size w0 W
/-- versions that a call keeps stay -/
def KeepV (W w' : World) : Prop := W.heap.size ≤ w'.heap.size ∧ ∀ g x, Blk W g 87 (vc x) → Blk w' g 87 (vc x)
theorem KeepV.refl (W : World) : KeepV W W := ⟨Nat.le_refl _, fun _ _ h => h⟩
theorem KeepV.trans {a b c : World} (h : KeepV a b) (k : KeepV b c) : KeepV a c := ⟨Nat.le_trans h.1 k.1, fun g x hg => k.2 g x (h.2 g x hg)⟩
theorem KeepV.below {a b : World} (h : Below a.heap.size a b) : KeepV a b := ⟨h.size, fun _ _ hg => hg.below h⟩
theorem Tx.below {w0 W W' : World} {T : Nat} {q : List UInt8} (h : Tx w0 W T q) (hb : Below W.heap.size W W') : Tx w0 W' T q := by
  obtain ⟨v, h1, h2, h3⟩ := h.ex
  exact ⟨⟨v, h1.below hb, h2.below hb, h3⟩, h.le, Bt h.bel hb⟩
theorem text_ne : (81 : TypeId) ≠ 5 := by decide
theorem ver_ne : (87 : TypeId) ≠ 5 := by decide
theorem ver_ne2 : (87 : TypeId) ≠ 81 := by decide

set_option maxRecDepth 100000 in
set_option maxHeartbeats 1000000 in
theorem tadd_any (w0 w : World) (T : Nat) (q : List UInt8) (h : Tx w0 w T q) (a : Option Addr) (n c : Nat) (l : List UInt8) (hr : Rd w a n c l) (hsz : q.length + n ≤ 1000000000) :
    Calls Tryd.prog 49 #[.pointer (some ⟨T, 0, none⟩), .slice a n c] w fun e w' => e = .returned (.tuple #[]) ∧ Tx w0 w' T (q ++ l) ∧ KeepV w w' := by
  obtain ⟨v, h1, h2, h3⟩ := h.ex
  have hc := h1.cell (j := 0) rfl
  have hs := h.bel.size
  have hsz' : q.length + n ≤ 140737488355328 := by omega
  have hT := h1.lt
  have HT := Lib.hid (And.intro h (And.intro h1 (And.intro h2 h3)))
  clear h hsz
  go_enter Tryd.func49, Tryd.ntmps49
  go_wp2_with ((with_reducible refine wpList_app2 (o := ⟨some 10, _, _, _, _, _⟩) ?_ (.tmp 8) (.tmp 9) ?_ ?_ h2 ?_ hr hsz' hs ?_); rfl; rfl; rfl; rfl; intro a1 c1 w1 hO1 hg1 hx1; have hb1 := h1.grown hg1 h3; have hc1 := hb1.cell (j := 0) rfl; have hf1 := hb1.free 0)
  go_end0
  obtain ⟨h, h1, h2, h3⟩ := HT.out
  have hb2 : Blk (w1.setCell ⟨T, 0, none⟩ (.slice a1 (q.length + n) c1)) T 81 [.slice a1 (q.length + n) c1] := hb1.set 0 _
  have hne : (Value.slice a1 (q.length + n) c1).ownBlock ≠ some T := by
    rcases hx1 with hx | hx
    · rw [hx]; exact h3
    · rw [hx]; simp only [ne_eq, Option.some.injEq]; omega
  have hg2 := set_grown w1 T 0 (.slice a1 (q.length + n) c1)
  refine ⟨rfl, ⟨⟨_, hb2, hO1.kept hg2 (fun x e e2 => hne (by rw [e, e2])), hne⟩, h.le, ?_⟩, ?_, ?_⟩
  · exact (h.bel.grown hg1 hs (fun y e => (h2.lt e).1)).grown hg2 (Nat.le_trans hs hg1.size) (fun y e => by cases e; exact h.le)
  · exact Nat.le_trans hg1.size hg2.size
  · intro g x hg
    have n1 : v.ownBlock ≠ some g := h2.ne hg.at_ ver_ne
    have n2 : g ≠ T := fun e => by
      subst e
      have := hg.at_.symm.trans h1.at_
      simp at this
    exact (hg.grown hg1 n1).grown hg2 (by simpa using fun e => n2 e.symm)

theorem encV1_le {v : Vn} (h : putB v) : (encV1 v).length ≤ 65560 := by
  obtain ⟨h1, h2, h3, h4, h5⟩ := h
  have e1 := encC_len v.ep.toNat (by omega)
  have e2 := encC_len v.kd.toNat (by omega)
  have e3 := encC_len (keyB v.key).length (by omega)
  simp only [encV1, List.length_append]
  omega
theorem encVs_take {l : List Vn} {k : Nat} (hk : k < l.length) : encVs (l.take (k + 1)) = encVs (l.take k) ++ encV1 (l.getD k vn0) := by
  have e : l.getD k vn0 = l[k] := by simp [List.getD, hk]
  unfold encVs
  rw [e, List.take_succ_eq_append_getElem hk, List.flatMap_append, List.flatMap_cons, List.flatMap_nil, List.append_nil]
theorem encVs_le {l : List Vn} (h : ∀ v ∈ l, putB v) : ∀ k, k ≤ l.length → (encVs (l.take k)).length ≤ k * 65560
  | 0, _ => by simp [encVs]
  | k + 1, hk => by
    have ih := encVs_le h k (by omega)
    have hl : k < l.length := hk
    have e : l.getD k vn0 = l[k] := by simp [List.getD, hl]
    have h1 := encV1_le (h _ (List.getElem_mem hl))
    rw [encVs_take hl, List.length_append, e]
    omega

/-- add, as the value that Put passes on -/
abbrev addF (T : Nat) : Value := .func (.func 49) #[.pointer (some ⟨T, 0, none⟩)] #[]

set_option maxRecDepth 100000 in
set_option maxHeartbeats 2000000 in
theorem encode_any (w0 w : World) (T : Nat) (q0 : List UInt8) (h : Tx w0 w T q0) (hq0 : q0.length ≤ 1000) (a : Option Addr) (n c : Nat) (l : List Vn) (hr : RdV w0 a n c l) (hn : n ≤ 16) (hp : ∀ v ∈ l, putB v) :
    Calls Tryd.prog 48 #[.slice a n c, addF T] w fun e w' => e = .returned (.tuple #[]) ∧ Tx w0 w' T (q0 ++ encV l) := by
  have hlen := Lib.hid hr.len
  have HEL : Hid (∀ i : Nat, i < n → ∃ b off, a = some ⟨b, off, none⟩ ∧ w0.rangeAt b (off + i * 3) (vc (l.getD i vn0)) ∧ putB (l.getD i vn0)) := Lib.hid (fun i h => by
    obtain ⟨b, off, h1, h2, h3⟩ := RdV.elems hr (by omega)
    refine ⟨b, off, h1, h3 i h, ?_⟩
    have hl : i < l.length := by rw [hr.len]; exact h
    have e : l.getD i vn0 = l[i] := by simp [List.getD, hl]
    rw [e]
    exact hp _ (List.getElem_mem hl))
  have C0 := Lib.hid (counted_any w (n : Int) (by omega) (by omega))
  have HLE := Lib.hid (encVs_le hp)
  have HE : Hid (encV l = encC n ++ encVs (l.take n)) := Lib.hid (by rw [encV, hlen.out, List.take_of_length_le (by rw [hlen.out]; omega)])
  have h5 := encC_len n (by omega)
  rw [show ((n : Int)).toNat = n by omega] at C0
  clear hr hp
  generalize encV l = EV at *
  generalize encC n = E0 at *
  go_enter Tryd.func48, Tryd.ntmps48
  go_wp2_with fail
  refine C0.out.mono ?_
  rintro e w1 ⟨a1, m1, c1, rfl, hm1, hm5, hR1, hB1⟩
  go_wp2_with fail
  refine (tadd_any w0 w1 T q0 (h.below hB1) a1 m1 c1 E0 hR1 (by omega)).mono ?_
  rintro e w2 ⟨rfl, hT2, hK2⟩
  go_wp2_with fail
  go_loopw [15] (fun i wr => ∃ k : Nat, k ≤ n ∧ i = .int .i64 (k : Int) ∧ Tx w0 wr T (q0 ++ E0 ++ encVs (l.take k))) (fun i _ => n - (intOf i).toNat)
  case atStart => exact ⟨0, by omega, rfl, by simpa [encVs] using hT2⟩
  case round =>
    obtain ⟨k, hk, rfl, hT⟩ := hrel
    by_cases hlt : k < n
    · obtain ⟨b, off, rfl, hx0, hpb⟩ := HEL.out k hlt
      have hx := range_below hT.bel hx0
      have hkl : (k : Int) < (n : Int) := by omega
      have HTK := Lib.hid (encVs_take (l := l) (k := k) (by rw [hlen.out]; exact hlt))
      have hlq : (q0 ++ E0 ++ encVs (l.take k)).length ≤ 2000000 := by
        have := HLE.out k (by rw [hlen.out]; exact hk)
        simp only [List.length_append]
        omega
      have hx1 : (encV1 (l.getD k vn0)).length ≤ 65560 := encV1_le hpb
      have HX1 : Hid (encV1 (l.getD k vn0) = encC (l.getD k vn0).ep.toNat ++ (encC (l.getD k vn0).kd.toNat ++ (encC (keyB (l.getD k vn0).key).length ++ keyB (l.getD k vn0).key))) := Lib.hid rfl
      obtain ⟨p1, p2, p3, p4, p5⟩ := hpb
      clear HEL hx0
      generalize l.getD k vn0 = x at *
      generalize encV1 x = X at *
      generalize hQ : q0 ++ E0 ++ encVs (l.take k) = Q at *
      have HQ := Lib.hid hQ
      clear hQ
      have hks : (keyB x.key).length = x.key.size := Array.length_toList
      have PB := Lib.hid (fun W : World => putBytes_ok W none 0 0 x.key [] (Rd.nil0 W) (by omega) (by omega))
      have HPB : Hid ([] ++ encC x.key.size ++ x.key.data.toList = encC (keyB x.key).length ++ keyB x.key) := Lib.hid (by rw [List.nil_append, hks]; rfl)
      rw [HPB.out] at PB
      have hl1 := congrArg List.length HX1.out
      simp only [List.length_append] at hl1
      have HL1 : Hid (X.length = (encC x.ep.toNat).length + ((encC x.kd.toNat).length + (encC (keyB x.key).length ++ keyB x.key).length)) := Lib.hid (by rw [hl1, List.length_append])
      clear hks hl1
      generalize encC (keyB x.key).length ++ keyB x.key = X3 at *
      go_wp2_with (first | ((with_reducible refine wpList_loadV (o := ⟨some 18, _, _, _, _, _⟩) ?_ b (off + k * 3) (.tmp 17) ?_ ?_ hx ?_); rfl; rfl; rfl) | ((with_reducible refine wpList_allocV (o := ⟨some 5, _, _, _, _, _⟩) ?_ ?_ ?_); rfl; rfl; intro w3 hr3 hg3 hz3) | ((with_reducible refine wpList_storeV (o := ⟨none, _, _, _, _, _⟩) ?_ (.tmp 5) (.tmp 18) ?_ x ?_ ?_ hr3 ?_); rfl; rfl; rfl; rfl; intro w4 hr4 hg4 hz4; have hB4 : Below wr.heap.size wr w4 := ((Below.refl _ wr).grown hg3 (Nat.le_refl _) (fun k e => by cases e)).grown hg4 (by omega) (fun k e => by cases e; omega); have k0 := hr4.v0))
      have hT4 := hT.below hB4
      refine (counted_any w4 x.ep p1 p2).mono ?_
      rintro e w5 ⟨a5, m5, c5, rfl, hm5', hm55, hR5, hB5⟩
      have hT5 := hT4.below hB5
      have hr5 := hr4.below hB5
      clear hr3 hg3 hg4 hz3 hz4 k0 hT4 hT hx
      go_wp2_with fail
      refine (tadd_any w0 w5 T Q hT5 a5 m5 c5 _ hR5 (by omega)).mono ?_
      rintro e w6 ⟨rfl, hT6, hK6⟩
      have hr6 := hK6.2 _ _ hr5
      have k1 := hr6.v1
      clear hr5 hR5 hT5
      have hlq6 : (Q ++ encC x.ep.toNat).length ≤ 2000010 := by rw [List.length_append, ← hm5'.out]; omega
      generalize wr.heap.size = B5 at *
      go_wp2_with fail
      refine (counted_any w6 x.kd p3 p4).mono ?_
      rintro e w7 ⟨a7, m7, c7, rfl, hm7, hm75, hR7, hB7⟩
      have hT7 := hT6.below hB7
      have hr7 := hr6.below hB7
      clear hr6 k1 hT6
      go_wp2_with fail
      refine (tadd_any w0 w7 T _ hT7 a7 m7 c7 _ hR7 (by omega)).mono ?_
      rintro e w8 ⟨rfl, hT8, hK8⟩
      have hr8 := hK8.2 _ _ hr7
      have k2 := hr8.v2
      clear hr7 hR7 hT7
      have hlq8 : (Q ++ encC x.ep.toNat ++ encC x.kd.toNat).length ≤ 2000020 := by rw [List.length_append, ← hm7.out]; omega
      go_wp2_with fail
      refine (PB.out w8).mono ?_
      rintro e w9 ⟨v9, rfl, hO9, hB9⟩
      obtain ⟨a9, c9, rfl⟩ := hO9.shape
      have hR9 := hO9.rd
      have hT9 := hT8.below hB9
      have hX3 : X3.length ≤ 65560 := by have := HL1.out; omega
      clear hO9 hT8 hr8 k2
      obtain ⟨m9, hm9⟩ : ∃ m, m = X3.length := ⟨_, rfl⟩
      rw [← hm9] at hR9 hX3 ⊢
      have HM9 := Lib.hid hm9
      clear hm9
      go_wp2_with fail
      refine (tadd_any w0 w9 T _ hT9 a9 m9 c9 _ hR9 (by omega)).mono ?_
      rintro e w10 ⟨rfl, hT10, hK10⟩
      have hT11 : Tx w0 w10 T (q0 ++ E0 ++ encVs (l.take (k + 1))) := by
        rw [← HQ.out] at hT10
        rw [HTK.out, HX1.out]
        simpa [List.append_assoc] using hT10
      go_wp2_with fail
      go_roundw
      case rel => exact ⟨k + 1, by omega, by go_num, hT11⟩
      case measure => simp [intOf]; omega
    · obtain rfl : k = n := by omega
      have hkl : ¬ (k : Int) < (k : Int) := by omega
      have hT' : Tx w0 wr T (q0 ++ EV) := by rw [HE.out, ← List.append_assoc]; exact hT
      go_wp2_with fail
      go_end0
      exact ⟨rfl, hT'⟩

theorem text_info : (Tryd.prog.info? 81).map (fun i => (i.zero, i.size)) = some (some (.agg [Value.slice none 0 0].toArray), 1) := by kernel_rfl
/-- what Put hands back -/
def PutVPost (w : World) (l : List Vn) (e : Ending) (w' : World) : Prop :=
  (isB l = true ∧ ∃ a m c, e = .returned (.tuple #[.slice a m c, .int .i64 0]) ∧ Hid (m = (encV l).length) ∧ Own w' w.heap.size (.slice a m c) (encV l) ∧ Below w.heap.size w w') ∨
  (isB l = false ∧ e = .returned (.tuple #[.slice none 0 0, .int .i64 50]) ∧ Below w.heap.size w w')

set_option maxRecDepth 100000 in
set_option maxHeartbeats 1000000 in
theorem vput_any (w : World) (a : Option Addr) (n c : Nat) (l : List Vn) (hr : RdV w a n c l) : Calls Tryd.prog 20 #[.slice a n c] w (PutVPost w l) := by
  have CK := Lib.hid (check_any w a n c l hr)
  have hmf : ∀ (fn : Fn) (first cap : Array Value) (w : World), (Instr.makeFunc fn first cap).run Tryd.prog w = .ok (.func fn first cap) w := fun _ _ _ _ => rfl
  cases hi : isB l with
  | false =>
    rw [show chkI l = 50 by rw [chkI, hi]; rfl] at CK
    go_enter Tryd.func20, Tryd.ntmps20
    go_wp2_with fail
    refine CK.out.mono ?_
    rintro e w1 ⟨rfl, hB1⟩
    go_wp2_with fail
    go_ret2
    exact .inr ⟨hi, rfl, hB1⟩
  | true =>
    rw [show chkI l = 0 by rw [chkI, hi]; rfl] at CK
    have h16 := isB_len hi
    rw [hr.len] at h16
    have hp := Lib.hid (isB_puts hi)
    have HR := Lib.hid hr
    clear hr
    go_enter Tryd.func20, Tryd.ntmps20
    go_wp2_with fail
    refine CK.out.mono ?_
    rintro e w1 ⟨rfl, hB1⟩
    go_wp2_with ((with_reducible refine wpList_allocB (o := ⟨some 5, _, _, _, _, _⟩) ?_ 81 ?_ text_info ?_); rfl; rfl; intro w2 hr2 hg2 hz2)
    have hB2 : Below w1.heap.size w1 w2 := (Below.refl _ w1).grown hg2 (Nat.le_refl _) (fun k e => by cases e)
    have hT2 : Tx w1 w2 w1.heap.size [] := ⟨⟨_, hr2, Own.nil0 _ _, by simp [Value.ownBlock]⟩, Nat.le_refl _, hB2⟩
    refine (encode_any w1 w2 w1.heap.size [] hT2 (by decide) a n c l (HR.out.below hB1) h16 hp.out).mono ?_
    rintro e w3 ⟨rfl, hT3⟩
    rw [List.nil_append] at hT3
    obtain ⟨v, h1, h2, h3⟩ := hT3.ex
    have hc3 := h1.cell (j := 0) rfl
    obtain ⟨a3, c3, rfl⟩ := h2.shape
    have hbel := hT3.bel
    obtain ⟨m3, hm3⟩ : ∃ m, m = (encV l).length := ⟨_, rfl⟩
    rw [← hm3] at h2 hc3
    have HM3 := Lib.hid hm3
    clear h1 h3 hm3 hT3 hT2 hr2 hg2 hz2
    go_wp2_with fail
    go_ret2
    exact .inl ⟨hi, a3, m3, c3, rfl, HM3, h2.lower hB1.size, Bt hB1 hbel⟩
end Go.Proofs.YtbbckjpgmpfkgaaDoor
