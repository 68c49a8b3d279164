/-
  WirI5 WirI6 WirI7, in one text.
-/
import Derived.Test.YtoclahcibilbhaaGreatWirI3
import Derived.Test.YtoclahcibilbhaaGreatWirY0
import Derived.Test.YtoclahcibilbhaaGreatWirPR
namespace Go.Proofs.YtoclahcibilbhaaGreat
/-! The reference's reader of layer 8: lists of numbers. -/
section
open Go.RowKit
set_option maxRecDepth 100000
section
variable {α : Type} {f : List UInt8 → Option (α × List UInt8)} {s : Option (List UInt8)}
theorem got_none {v : α} (h : nx f s = none) : got f s v := fun l p e1 e2 => by
  subst e1
  simp [nx, e2] at h
theorem many_nx {k : Nat} {zs : List α} {x : α} (h : got (manyG f k) s zs) (hx : got f (nx (manyG f k) s) x) : nx (manyG f (k + 1)) s = nx f (nx (manyG f k) s) ∧ got (manyG f (k + 1)) s (zs ++ [x]) := by
  rcases s with _ | l
  · exact ⟨rfl, fun _ _ e _ => (by cases e)⟩
  rcases e0 : manyG f k l with _ | p
  · exact ⟨by simp [nx, manyG, e0], fun a q i1 i2 => (by cases i1; simp [manyG, e0] at i2)⟩
  have q0 := h l p rfl e0
  rcases e1 : f p.2 with _ | r
  · exact ⟨by simp [nx, manyG, e0, e1], fun a q i1 i2 => (by cases i1; simp [manyG, e0, e1] at i2)⟩
  have q1 := hx p.2 r (by simp [nx, e0]) e1
  exact ⟨by simp [nx, manyG, e0, e1], fun a q i1 i2 => (by cases i1; simp [manyG, e0, e1] at i2; rw [← i2, q0, q1])⟩
theorem many_none {k n : Nat} (h : nx (manyG f k) s = none) (hk : k ≤ n) : nx (manyG f n) s = none := by
  rcases s with _ | l
  · rfl
  rcases e0 : manyG f k l with _ | p
  · simp [nx, manyG_stop e0 n hk]
  · simp [nx, e0] at h
theorem gL_nx {v : Int} (hv : got gM s v) : nx (gL f) s = nx (manyG f v.toNat) (nx gM s) ∧ ∀ zs, got (manyG f v.toNat) (nx gM s) zs → got (gL f) s zs := by
  rcases s with _ | l
  · exact ⟨rfl, fun _ _ _ _ e _ => (by cases e)⟩
  rcases e0 : gN l with _ | p
  · exact ⟨by simp [nx, gL, gM, e0], fun _ _ a q i1 i2 => (by cases i1; simp [gL, e0] at i2)⟩
  by_cases h4 : 4096 < p.1
  · exact ⟨by simp [nx, gL, gM, e0, h4], fun _ _ a q i1 i2 => (by cases i1; simp [gL, e0, h4] at i2)⟩
  have hp : p.1 = v := hv l p rfl (by simp only [gM, e0, Option.bind_some, if_neg h4])
  subst hp
  refine ⟨by simp only [nx, gL, gM, e0, Option.bind_some, if_neg h4, Option.map_some], fun zs hz a q i1 i2 => ?_⟩
  cases i1
  simp only [gL, e0, Option.bind_some, if_neg h4] at i2
  exact hz p.2 q (by simp only [nx, gM, e0, Option.bind_some, if_neg h4, Option.map_some]) i2
end

/-- a list under way: as many numbers are read as zs holds -/
structure IntsAt (a0 : Option Addr) (n0 c0 : Nat) (l0 : List UInt8) (g : Nat) (w W : World) (s : Option (List UInt8)) (zs : List Int) (a : Option Addr) (c : Nat) : Prop where
  own : OwnG intR W w.heap.size (.slice a zs.length c) zs
  got_ : got (manyG gN zs.length) s zs
  st : In1 a0 n0 c0 l0 g W (nx (manyG gN zs.length) s)
  stp : Stp (fun i => i = g) w.heap.size w W
  gl : g < w.heap.size
section
variable {a0 : Option Addr} {n0 c0 : Nat} {l0 : List UInt8} {g : Nat} {w W W1 W2 W3 : World} {s : Option (List UInt8)} {zs : List Int} {a : Option Addr} {c : Nat}
theorem In1.noT (h : In1 a0 n0 c0 l0 g W s) {T : TypeId} (ht : 74 ≠ T) : ∀ cs f, W.heap[g]? ≠ some (.cells cs T f) := by
  obtain ⟨_, _, h1, _⟩ := h
  obtain ⟨_, _, _, h2, _⟩ := h1.blk
  exact h2.noT ht
theorem IntsAt.step (h : IntsAt a0 n0 c0 l0 g w W s zs a c) {x : Int} (hS : Stp (fun i => i = g) W.heap.size W W1) (hst : In1 a0 n0 c0 l0 g W1 (nx gN (nx (manyG gN zs.length) s))) (hx : got gN (nx (manyG gN zs.length) s) x)
    (hB : Below W1.heap.size W1 W2) {a' : Option Addr} {c' : Nat} (hO : OwnG intR W3 w.heap.size (.slice a' (zs.length + 1) c') (zs ++ [x])) (hg : W2.grownBy W3 (Value.slice a zs.length c).ownBlock) :
    IntsAt a0 n0 c0 l0 g w W3 s (zs ++ [x]) a' c' := by
  have hm := many_nx h.got_ hx
  have hlt : ∀ i, (Value.slice a zs.length c).ownBlock = some i → w.heap.size ≤ i := fun i e => (h.own.lt e).1
  have hlen : (zs ++ [x]).length = zs.length + 1 := by simp
  have h2 := hst.below hB
  have h3 : In1 a0 n0 c0 l0 g W3 (nx gN (nx (manyG gN zs.length) s)) := h2.stp (K := fun i => g < i) ((Stp.refl _ _ _).grown hg (Nat.le_refl _) (fun i e => .inl (by have := hlt i e; have := h.gl; omega))) (fun i e => e)
  refine ⟨by rw [hlen]; exact hO, by rw [hlen]; exact hm.2, by rw [hlen, hm.1]; exact h3, ?_, h.gl⟩
  have hS2 := (h.stp.trans (hS.lower h.stp.size)).trans (Stp.of (hB.mono (Nat.le_trans h.stp.size hS.size)))
  exact hS2.grown hg hS2.size (fun i e => .inr (hlt i e))
end

set_option maxHeartbeats 2000000 in
theorem in_ints (a0 : Option Addr) (n0 c0 : Nat) (l0 : List UInt8) (g : Nat) (w : World) (s : Option (List UInt8)) (hI : In1 a0 n0 c0 l0 g w s) :
    Calls Tryz.prog 101 #[.pointer (some ⟨g, 0, none⟩)] w fun e w' => ∃ (zs : List Int) (a : Option Addr) (c : Nat), got (gL gN) s zs ∧ e = .returned (.slice a zs.length c) ∧ OwnG intR w' w.heap.size (.slice a zs.length c) zs ∧ zs.length ≤ 4096 ∧ In1 a0 n0 c0 l0 g w' (nx (gL gN) s) ∧ Stp (fun i => i = g) w.heap.size w w' := by
  have HI := Lib.hid hI
  clear hI
  go_enter Tryz.func101, Tryz.ntmps101
  go_wp2_with fail
  refine (in_many a0 n0 c0 l0 g w s HI.out).mono ?_
  rintro e w1 ⟨v, ⟨hv0, hv1⟩, hvg, hvn, rfl, hI1, hS1⟩
  obtain ⟨k, rfl⟩ := Int.eq_ofNat_of_zero_le hv0
  have HG := Lib.hid (gL_nx (f := gN) hvg)
  rw [Int.toNat_natCast] at HG
  have hz0 : nx (manyG gN 0) (nx gM s) = nx gM s := by cases nx gM s <;> rfl
  have HST : Hid (IntsAt a0 n0 c0 l0 g w w1 (nx gM s) [] none 0) := Lib.hid ⟨OwnG.nil0 _ _, fun l p _ e2 => (by cases e2; rfl), (by show In1 _ _ _ _ _ _ (nx (manyG gN 0) (nx gM s)); rw [hz0]; exact hI1), hS1, HI.out.lt⟩
  clear hz0
  clear hvg hvn hI1 hS1 hv0 HI
  go_wp2_with fail
  go_loopw [3, 5] (fun sl i wr => ∃ (zs : List Int) (a : Option Addr) (c : Nat), zs.length ≤ k ∧ i = .int .i64 (zs.length : Int) ∧ sl = .slice a zs.length c ∧ Hid (IntsAt a0 n0 c0 l0 g w wr (nx gM s) zs a c)) (fun _ i _ => k - (intOf i).toNat)
  case atStart => exact ⟨[], none, 0, by simp, rfl, rfl, HST⟩
  case round =>
    clear HST
    obtain ⟨zs, a, c, hj, rfl, rfl, HA⟩ := hrel
    obtain ⟨bad, l, hI, hlf⟩ := HA.out.st
    obtain ⟨a3, n3, c3, hb3, _⟩ := hI.blk
    have hc1 := hb3.cell (j := 1) rfl
    generalize hjz : zs.length = j at *
    have HJ := Lib.hid hjz
    clear hjz
    by_cases hjk : j < k
    · have hjki : (j : Int) < (k : Int) := by omega
      cases bad
      · clear hlf hI hb3
        go_wp2_with fail
        refine (in_n a0 n0 c0 l0 g wr _ HA.out.st).mono ?_
        rintro e w2 ⟨x, hx, hgx, rfl, hI2, hS2⟩
        have hO0 : OwnG intR w2 w.heap.size (.slice a j c) zs := by rw [← HJ.out]; exact HA.out.own.kpT (KpT.stp hS2 (fun i e => by subst e; exact HA.out.st.noT (by decide)))
        have hln : zs.length + 1 ≤ 1000000 := by have := HJ.out; omega
        have hBB : w.heap.size ≤ w2.heap.size := Nat.le_trans HA.out.stp.size hS2.size
        have HI2 := Lib.hid hI2
        have HS2 := Lib.hid hS2
        have HX := Lib.hid hgx
        clear hx hI2 hS2 hgx hc1
        go_wp2_with (first | ((with_reducible refine wpList_oneInt (o := ⟨some 25, _, _, _, _, _⟩) ?_ (.tmp 24) ?_ x ?_ ?_); rfl; rfl; rfl; intro W1 hR1 hB1; have hO1 := hO0.below hB1; have hB2 := Nat.le_trans hBB hB1.size) | ((with_reducible refine wpList_appG intR (o := ⟨some 26, _, _, _, _, _⟩) ?_ (.tmp 23) (.tmp 25) ?_ ?_ hO1 ?_ hR1 hln hB2 ?_); rfl; rfl; rfl; rfl; intro a' c' W2 hO2 hg2 hx2))
        refine ⟨⟨zs ++ [x], a', c', by have := HJ.out; simp; omega, by have := HJ.out; simp; omega, by simp, Lib.hid (HA.out.step HS2.out HI2.out HX.out hB1 hO2 (by rw [HJ.out]; exact hg2))⟩, ?_⟩
        simp only [intOf]
        omega
      · clear hI hb3
        have hn : nx (manyG gN k) (nx gM s) = none := many_none (k := zs.length) (by rw [HJ.out, ← hlf]; rfl) (by rw [HJ.out]; omega)
        have HF : Hid (got (gL gN) s zs ∧ nx (gL gN) s = nx (manyG gN zs.length) (nx gM s)) := Lib.hid ⟨got_none (by rw [HG.out.1, hn]), by rw [HG.out.1, hn, HJ.out, ← hlf]; rfl⟩
        have HL : Hid (zs.length ≤ 4096) := Lib.hid (by have := HJ.out; omega)
        clear hlf hn
        go_wp2_with fail
        go_ret
        exact ⟨zs, a, c, HF.out.1, by rw [HJ.out]; rfl, HA.out.own, HL.out, HF.out.2 ▸ HA.out.st, HA.out.stp⟩
    · obtain rfl : j = k := by omega
      have HF : Hid (got (gL gN) s zs ∧ nx (gL gN) s = nx (manyG gN zs.length) (nx gM s)) := Lib.hid ⟨HG.out.2 zs (by rw [← HJ.out]; exact HA.out.got_), by rw [HG.out.1, HJ.out]⟩
      have HL : Hid (zs.length ≤ 4096) := Lib.hid (by have := HJ.out; omega)
      clear hI hb3 hlf
      go_wp2_with fail
      go_ret
      exact ⟨zs, a, c, HF.out.1, by rw [HJ.out]; rfl, HA.out.own, HL.out, HF.out.2 ▸ HA.out.st, HA.out.stp⟩
end
/-! The reference's reader of layer 8: council, Entry, Record (written by gen_in3.py). -/
section
open Go.RowKit
set_option maxRecDepth 100000
theorem get_mid {A C vs : List Value} {off : Nat} {x : Value} (hv : vs = A ++ ([x] ++ C)) (ho : off = A.length) : vs[off]? = some x := by
  subst hv ho; simp
theorem set_mid {A C vs : List Value} {off : Nat} {x y : Value} (hv : vs = A ++ ([x] ++ C)) (ho : off = A.length) : vs.set off y = A ++ ([y] ++ C) := by
  subst hv ho; simp
theorem fit_mid {A M M' C vs : List Value} {off : Nat} (hv : vs = A ++ (M ++ C)) (ho : off = A.length) (hl : M.length = M'.length) : off + M'.length ≤ vs.length := by
  subst hv ho; simp [hl]
theorem co0_info : (Tryz.prog.info? 36).map (fun i => (i.zero, i.size)) = some (some (.agg (coc co0).toArray), 2) := by kernel_rfl

theorem chain_council (s : Option (List UInt8)) (v0 : List Int) (v1 : List Int) (h0 : got (gL gN) s v0) (h1 : got (gL gN) (nx (gL gN) s) v1) : got gCo s (⟨v0, none, 0, v1, none, 0⟩ : Co) ∧ nx gCo s = (nx (gL gN) (nx (gL gN) s)) := by
  rcases s with _ | l
  · exact ⟨fun _ _ e _ => (by cases e), rfl⟩
  rcases e0 : (gL gN) l with _ | p0
  · exact ⟨fun a p i1 i2 => (by cases i1; simp [gCo, e0] at i2), by simp [nx, gCo, e0]⟩
  have q0 := h0 l p0 (by simp) e0
  rcases e1 : (gL gN) p0.2 with _ | p1
  · exact ⟨fun a p i1 i2 => (by cases i1; simp [gCo, e0, e1] at i2), by simp [nx, gCo, e0, e1]⟩
  have q1 := h1 p0.2 p1 (by simp [nx, e0]) e1
  exact ⟨fun a p i1 i2 => (by cases i1; simp [gCo, e0, e1, q0, q1] at i2; rw [← i2]), by simp [nx, gCo, e0, e1]⟩
theorem built_council : Tryz.prog.built 36 [] = some (coc co0).toArray := by kernel_rfl
set_option maxHeartbeats 4000000 in
theorem in_council (a0 : Option Addr) (n0 c0 : Nat) (l0 : List UInt8) (g : Nat) (w : World) (s : Option (List UInt8)) (hI : In1 a0 n0 c0 l0 g w s) :
    Calls Tryz.prog 66 #[.pointer (some ⟨g, 0, none⟩)] w fun e w' => ∃ v : Co, v.ok ∧ got gCo s v.cl ∧ e = .returned (.agg (coc v).toArray) ∧ Co.own w' w.heap.size v ∧ In1 a0 n0 c0 l0 g w' (nx gCo s) ∧ Stp (fun i => i = g) w.heap.size w w' := by
  have HI := Lib.hid hI
  have hlt := hI.lt
  clear hI
  have IZ : Hid ((Tryz.prog.info? 36).map (·.size) = some (coc co0).length) := Lib.hid (by rw [show (coc co0).length = 2 from rfl]; kernel_rfl)
  have HOZ : Hid (∀ v ∈ coc co0, v.oneCell' = true) := Lib.hid (coc_one _)
  have HB0 : Hid (Tryz.prog.built 36 [] = some (coc co0).toArray) := Lib.hid built_council
  go_enter Tryz.func66, Tryz.ntmps66
  go_wp2_with (first
    | ((with_reducible refine wpList_allocB (o := ⟨some 2, _, _, _, _, _⟩) ?_ 36 ?_ co0_info ?_); rfl; rfl; intro wa hba hga hza)
    | ((with_reducible refine wpList_buildI (dst := some 4) HB0.out ?_ ?_); rfl)
    | ((with_reducible refine wpList_allocB (o := ⟨some 3, _, _, _, _, _⟩) ?_ 36 ?_ co0_info ?_); rfl; rfl; intro wb hbb hgb hzb)
    | ((with_reducible refine wpList_storeB (o := ⟨none, .store 36 (.tmp 3) (.tmp 4), _, _, _, _⟩) ?_ 36 (.tmp 3) (.tmp 4) ?_ ?_ ?_ hbb IZ.out rfl HOZ.out ?_); rfl; rfl; rfl; rfl; intro wx hb hgx hzx))
  have hBx : Below w.heap.size w wx := (((Below.refl _ w).grown hga (Nat.le_refl _) (by simp)).grown hgb (by omega) (by simp)).grown hgx (by omega) (fun k e => by cases e; omega)
  have hR : Blk wx w.heap.size 36 (coc co0) := (hba.grown hgb (by simp)).grown hgx (fun e => by injection e with e; omega)
  have HI0 := Lib.hid (HI.out.below hBx)
  have HS0 : Hid (Stp (fun i => i = g) w.heap.size w wx) := Lib.hid (Stp.of hBx)
  rw [hza] at hb
  have hXR : w.heap.size < w.heap.size + 1 := by omega
  generalize hX : w.heap.size + 1 = X at *
  have hgX : g < X := by omega
  clear hba hga hza hbb hgb hzb hgx hzx hBx hX
  have hb : Blk wx X 36 (coc (⟨[], none, 0, [], none, 0⟩ : Co)) := hb
  refine (in_ints a0 n0 c0 l0 g wx s HI0.out).mono ?_
  rintro e w0 ⟨v0, v0a, v0c, hg0, rfl, hO, _, hI1, hS1⟩
  have HO0 := Lib.hid (hO.lower HS0.out.size)
  clear hO
  have hR := hR.stp hS1 hR.lt (by omega)
  have hb := hb.stp hS1 hb.lt (by omega)
  have HG0 := Lib.hid hg0
  clear hg0
  have hv : coc (⟨[], none, 0, [], none, 0⟩ : Co) = (([] : List Value)) ++ ([.slice none 0 0] ++ ([.slice none 0 0])) := by simp [coc]
  have hc := hb.cell (j := 0) (get_mid hv (by simp))
  have hf := hb.free 0
  have hsv : (coc (⟨[], none, 0, [], none, 0⟩ : Co)).set 0 (.slice v0a v0.length v0c) = coc (⟨v0, v0a, v0c, [], none, 0⟩ : Co) := (set_mid hv (by simp)).trans (by simp [coc])
  have hK : KpT 3 w0 (w0.setCell ⟨X, 0, none⟩ (.slice v0a v0.length v0c)) := KpT.grown (set_grown w0 X 0 (.slice v0a v0.length v0c)) (fun i e => by cases e; exact hb.noT (by decide))
  have HO0 := Lib.hid (HO0.out.kpT (hK))
  clear hK
  have hb : Blk (w0.setCell ⟨X, 0, none⟩ (.slice v0a v0.length v0c)) X 36 (coc (⟨v0, v0a, v0c, [], none, 0⟩ : Co)) := by have := hb.set 0 (.slice v0a v0.length v0c); rw [hsv] at this; exact this
  have hR := hR.setOther ⟨X, 0, none⟩ (.slice v0a v0.length v0c) (by simp only; omega)
  have HI1 := Lib.hid (hI1.stp (K := fun i => i = X) ((Stp.refl _ _ _).set ⟨X, 0, none⟩ (.slice v0a v0.length v0c) (.inl rfl)) (fun i e => by omega))
  have HS1 := Lib.hid ((HS0.out.trans (hS1.lower HS0.out.size)).set ⟨X, 0, none⟩ (.slice v0a v0.length v0c) (.inr (by simp only; omega)))
  have HR1 := Lib.hid hR
  have HB1 := Lib.hid hb
  clear hI1 hS1 hR hb hv hsv
  go_wp2_with fail
  have hR := HR1.out
  have hb := HB1.out
  clear hc hf HR1 HB1
  generalize w0.setCell ⟨X, 0, none⟩ (.slice v0a v0.length v0c) = y0 at *
  refine (in_ints a0 n0 c0 l0 g y0 (nx (gL gN) s) HI1.out).mono ?_
  rintro e w1 ⟨v1, v1a, v1c, hg1, rfl, hO, _, hI2, hS2⟩
  have hK : KpT 3 y0 w1 := KpT.stp hS2 (fun i e => by subst e; exact HI1.out.noT (by decide))
  have HO0 := Lib.hid (HO0.out.kpT (hK))
  clear hK
  have HO1 := Lib.hid (hO.lower HS1.out.size)
  clear hO
  have hR := hR.stp hS2 hR.lt (by omega)
  have hb := hb.stp hS2 hb.lt (by omega)
  have HG1 := Lib.hid hg1
  clear hg1
  have hv : coc (⟨v0, v0a, v0c, [], none, 0⟩ : Co) = ([.slice v0a v0.length v0c]) ++ ([.slice none 0 0] ++ ([])) := by simp [coc]
  have hc := hb.cell (j := 1) (get_mid hv (by simp))
  have hf := hb.free 1
  have hsv : (coc (⟨v0, v0a, v0c, [], none, 0⟩ : Co)).set 1 (.slice v1a v1.length v1c) = coc (⟨v0, v0a, v0c, v1, v1a, v1c⟩ : Co) := (set_mid hv (by simp)).trans (by simp [coc])
  have hK : KpT 3 w1 (w1.setCell ⟨X, 1, none⟩ (.slice v1a v1.length v1c)) := KpT.grown (set_grown w1 X 1 (.slice v1a v1.length v1c)) (fun i e => by cases e; exact hb.noT (by decide))
  have HO0 := Lib.hid (HO0.out.kpT (hK))
  have HO1 := Lib.hid (HO1.out.kpT (hK))
  clear hK
  have hb : Blk (w1.setCell ⟨X, 1, none⟩ (.slice v1a v1.length v1c)) X 36 (coc (⟨v0, v0a, v0c, v1, v1a, v1c⟩ : Co)) := by have := hb.set 1 (.slice v1a v1.length v1c); rw [hsv] at this; exact this
  have hR := hR.setOther ⟨X, 1, none⟩ (.slice v1a v1.length v1c) (by simp only; omega)
  have HI2 := Lib.hid (hI2.stp (K := fun i => i = X) ((Stp.refl _ _ _).set ⟨X, 1, none⟩ (.slice v1a v1.length v1c) (.inl rfl)) (fun i e => by omega))
  have HS2 := Lib.hid ((HS1.out.trans (hS2.lower HS1.out.size)).set ⟨X, 1, none⟩ (.slice v1a v1.length v1c) (.inr (by simp only; omega)))
  have HR2 := Lib.hid hR
  have HB2 := Lib.hid hb
  clear hI2 hS2 hR hb hv hsv
  have HOK : Hid ((⟨v0, v0a, v0c, v1, v1a, v1c⟩ : Co).ok) := Lib.hid trivial
  have HCL : Hid ((coc co0).length = (coc (⟨v0, v0a, v0c, v1, v1a, v1c⟩ : Co)).length) := Lib.hid ((show (coc co0).length = 2 from rfl).trans (coc_length (x := (⟨v0, v0a, v0c, v1, v1a, v1c⟩ : Co)) trivial).symm)
  have IX : Hid ((Tryz.prog.info? 36).map (·.size) = some (coc (⟨v0, v0a, v0c, v1, v1a, v1c⟩ : Co)).length) := Lib.hid (by rw [← HCL.out]; exact IZ.out)
  have HOX : Hid (∀ v ∈ coc (⟨v0, v0a, v0c, v1, v1a, v1c⟩ : Co), v.oneCell' = true) := Lib.hid (coc_one _)
  have hR := HR2.out
  have hb := HB2.out
  go_wp2_with (first
    | ((with_reducible refine wpList_loadB (o := ⟨some 11, _, _, _, _, _⟩) ?_ 36 (.tmp 3) ?_ ?_ hb Tryz.underlying36 ?_ IX.out ?_); rfl; rfl; rfl; rfl)
    | ((with_reducible refine wpList_storeB (o := ⟨none, .store 36 (.tmp 2) (.tmp 11), _, _, _, _⟩) ?_ 36 (.tmp 2) (.tmp 11) ?_ ?_ ?_ hR IX.out HCL.out HOX.out ?_); rfl; rfl; rfl; rfl; intro wz hbz hgz hzz))
  have hK : KpT 3 _ wz := KpT.grown hgz (fun i e => by cases e; exact hR.noT (by decide))
  have HO0 := Lib.hid (HO0.out.kpT (hK))
  have HO1 := Lib.hid (HO1.out.kpT (hK))
  apply bodyPost_ret
  exact results_blk rfl _ _ _ _ _ _ rfl hbz Tryz.underlying36 rfl IX.out
  rfl
  have hI := HI2.out.stp (K := fun i => g < i) ((Stp.refl (fun i => g < i) _ _).grown hgz (Nat.le_refl _) (fun i e => by cases e; exact .inl hlt)) (fun i e => e)
  have hS := HS2.out.grown hgz HS2.out.size (fun i e => by cases e; exact .inr (Nat.le_refl _))
  have hc := chain_council s _ _ HG0.out HG1.out
  exact ⟨_, HOK.out, hc.1, rfl, ⟨HO0.out, HO1.out⟩, hc.2 ▸ hI, hS⟩

theorem chain_Entry (s : Option (List UInt8)) (v0 : Int) (v1 : Int) (v2 : Int) (v3 : Cm) (v4 : Co) (h0 : got gN s v0) (h1 : got gN (nx gN s) v1) (h2 : got gN (nx gN (nx gN s)) v2) (h3 : got gC (nx gN (nx gN (nx gN s))) v3) (h4 : got gCo (nx gC (nx gN (nx gN (nx gN s)))) v4) : got gE s (⟨v0, v1, v2, v3, v4⟩ : En) ∧ nx gE s = (nx gCo (nx gC (nx gN (nx gN (nx gN s))))) := by
  rcases s with _ | l
  · exact ⟨fun _ _ e _ => (by cases e), rfl⟩
  rcases e0 : gN l with _ | p0
  · exact ⟨fun a p i1 i2 => (by cases i1; simp [gE, e0] at i2), by simp [nx, gE, e0]⟩
  have q0 := h0 l p0 (by simp) e0
  rcases e1 : gN p0.2 with _ | p1
  · exact ⟨fun a p i1 i2 => (by cases i1; simp [gE, e0, e1] at i2), by simp [nx, gE, e0, e1]⟩
  have q1 := h1 p0.2 p1 (by simp [nx, e0]) e1
  rcases e2 : gN p1.2 with _ | p2
  · exact ⟨fun a p i1 i2 => (by cases i1; simp [gE, e0, e1, e2] at i2), by simp [nx, gE, e0, e1, e2]⟩
  have q2 := h2 p1.2 p2 (by simp [nx, e0, e1]) e2
  rcases e3 : gC p2.2 with _ | p3
  · exact ⟨fun a p i1 i2 => (by cases i1; simp [gE, e0, e1, e2, e3] at i2), by simp [nx, gE, e0, e1, e2, e3]⟩
  have q3 := h3 p2.2 p3 (by simp [nx, e0, e1, e2]) e3
  rcases e4 : gCo p3.2 with _ | p4
  · exact ⟨fun a p i1 i2 => (by cases i1; simp [gE, e0, e1, e2, e3, e4] at i2), by simp [nx, gE, e0, e1, e2, e3, e4]⟩
  have q4 := h4 p3.2 p4 (by simp [nx, e0, e1, e2, e3]) e4
  exact ⟨fun a p i1 i2 => (by cases i1; simp [gE, e0, e1, e2, e3, e4, q0, q1, q2, q3, q4] at i2; rw [← i2]), by simp [nx, gE, e0, e1, e2, e3, e4]⟩
theorem built_Entry : Tryz.prog.built 38 [] = some (enc en0).toArray := by kernel_rfl
set_option maxHeartbeats 4000000 in
theorem in_Entry (a0 : Option Addr) (n0 c0 : Nat) (l0 : List UInt8) (g : Nat) (w : World) (s : Option (List UInt8)) (hI : In1 a0 n0 c0 l0 g w s) :
    Calls Tryz.prog 34 #[.pointer (some ⟨g, 0, none⟩)] w fun e w' => ∃ v : En, v.ok ∧ got gE s v.cl ∧ e = .returned (.agg (enc v).toArray) ∧ En.own w' w.heap.size v ∧ In1 a0 n0 c0 l0 g w' (nx gE s) ∧ Stp (fun i => i = g) w.heap.size w w' := by
  have HI := Lib.hid hI
  have hlt := hI.lt
  clear hI
  have IZ : Hid ((Tryz.prog.info? 38).map (·.size) = some (enc en0).length) := Lib.hid (by rw [enc_length en0_ok]; kernel_rfl)
  have HOZ : Hid (∀ v ∈ enc en0, v.oneCell' = true) := Lib.hid (enc_one _)
  have HB0 : Hid (Tryz.prog.built 38 [] = some (enc en0).toArray) := Lib.hid built_Entry
  go_enter Tryz.func34, Tryz.ntmps34
  go_wp2_with (first
    | ((with_reducible refine wpList_allocB (o := ⟨some 2, _, _, _, _, _⟩) ?_ 38 ?_ en0_info ?_); rfl; rfl; intro wa hba hga hza)
    | ((with_reducible refine wpList_buildI (dst := some 5) HB0.out ?_ ?_); rfl)
    | ((with_reducible refine wpList_allocB (o := ⟨some 3, _, _, _, _, _⟩) ?_ 38 ?_ en0_info ?_); rfl; rfl; intro wb hbb hgb hzb)
    | ((with_reducible refine wpList_storeB (o := ⟨none, .store 38 (.tmp 3) (.tmp 5), _, _, _, _⟩) ?_ 38 (.tmp 3) (.tmp 5) ?_ ?_ ?_ hbb IZ.out rfl HOZ.out ?_); rfl; rfl; rfl; rfl; intro wx hb hgx hzx))
  have hBx : Below w.heap.size w wx := (((Below.refl _ w).grown hga (Nat.le_refl _) (by simp)).grown hgb (by omega) (by simp)).grown hgx (by omega) (fun k e => by cases e; omega)
  have hR : Blk wx w.heap.size 38 (enc en0) := (hba.grown hgb (by simp)).grown hgx (fun e => by injection e with e; omega)
  have HI0 := Lib.hid (HI.out.below hBx)
  have HS0 : Hid (Stp (fun i => i = g) w.heap.size w wx) := Lib.hid (Stp.of hBx)
  rw [hza] at hb
  have hXR : w.heap.size < w.heap.size + 1 := by omega
  generalize hX : w.heap.size + 1 = X at *
  have hgX : g < X := by omega
  clear hba hga hza hbb hgb hzb hgx hzx hBx hX
  have hb : Blk wx X 38 (enc (⟨0, 0, 0, cm0, co0⟩ : En)) := hb
  refine (in_n a0 n0 c0 l0 g wx s HI0.out).mono ?_
  rintro e w0 ⟨v0, _, hg0, rfl, hI1, hS1⟩
  have hR := hR.stp hS1 hR.lt (by omega)
  have hb := hb.stp hS1 hb.lt (by omega)
  have HG0 := Lib.hid hg0
  clear hg0
  have hv : enc (⟨0, 0, 0, cm0, co0⟩ : En) = (([] : List Value)) ++ ([.int .i64 0] ++ ([.int .i64 0] ++ [.int .i64 0] ++ (cmc cm0) ++ (coc co0))) := by simp [enc]
  have hc := hb.cell (j := 0) (get_mid hv (by simp))
  have hf := hb.free 0
  have hsv : (enc (⟨0, 0, 0, cm0, co0⟩ : En)).set 0 (.int .i64 v0) = enc (⟨v0, 0, 0, cm0, co0⟩ : En) := (set_mid hv (by simp)).trans (by simp [enc])
  have hb : Blk (w0.setCell ⟨X, 0, none⟩ (.int .i64 v0)) X 38 (enc (⟨v0, 0, 0, cm0, co0⟩ : En)) := by have := hb.set 0 (.int .i64 v0); rw [hsv] at this; exact this
  have hR := hR.setOther ⟨X, 0, none⟩ (.int .i64 v0) (by simp only; omega)
  have HI1 := Lib.hid (hI1.stp (K := fun i => i = X) ((Stp.refl _ _ _).set ⟨X, 0, none⟩ (.int .i64 v0) (.inl rfl)) (fun i e => by omega))
  have HS1 := Lib.hid ((HS0.out.trans (hS1.lower HS0.out.size)).set ⟨X, 0, none⟩ (.int .i64 v0) (.inr (by simp only; omega)))
  have HR1 := Lib.hid hR
  have HB1 := Lib.hid hb
  clear hI1 hS1 hR hb hv hsv
  go_wp2_with fail
  have hR := HR1.out
  have hb := HB1.out
  clear hc hf HR1 HB1
  generalize w0.setCell ⟨X, 0, none⟩ (.int .i64 v0) = y0 at *
  refine (in_n a0 n0 c0 l0 g y0 (nx gN s) HI1.out).mono ?_
  rintro e w1 ⟨v1, _, hg1, rfl, hI2, hS2⟩
  have hR := hR.stp hS2 hR.lt (by omega)
  have hb := hb.stp hS2 hb.lt (by omega)
  have HG1 := Lib.hid hg1
  clear hg1
  have hv : enc (⟨v0, 0, 0, cm0, co0⟩ : En) = ([.int .i64 v0]) ++ ([.int .i64 0] ++ ([.int .i64 0] ++ (cmc cm0) ++ (coc co0))) := by simp [enc]
  have hc := hb.cell (j := 1) (get_mid hv (by simp))
  have hf := hb.free 1
  have hsv : (enc (⟨v0, 0, 0, cm0, co0⟩ : En)).set 1 (.int .i64 v1) = enc (⟨v0, v1, 0, cm0, co0⟩ : En) := (set_mid hv (by simp)).trans (by simp [enc])
  have hb : Blk (w1.setCell ⟨X, 1, none⟩ (.int .i64 v1)) X 38 (enc (⟨v0, v1, 0, cm0, co0⟩ : En)) := by have := hb.set 1 (.int .i64 v1); rw [hsv] at this; exact this
  have hR := hR.setOther ⟨X, 1, none⟩ (.int .i64 v1) (by simp only; omega)
  have HI2 := Lib.hid (hI2.stp (K := fun i => i = X) ((Stp.refl _ _ _).set ⟨X, 1, none⟩ (.int .i64 v1) (.inl rfl)) (fun i e => by omega))
  have HS2 := Lib.hid ((HS1.out.trans (hS2.lower HS1.out.size)).set ⟨X, 1, none⟩ (.int .i64 v1) (.inr (by simp only; omega)))
  have HR2 := Lib.hid hR
  have HB2 := Lib.hid hb
  clear hI2 hS2 hR hb hv hsv
  go_wp2_with fail
  have hR := HR2.out
  have hb := HB2.out
  clear hc hf HR2 HB2
  generalize w1.setCell ⟨X, 1, none⟩ (.int .i64 v1) = y1 at *
  refine (in_n a0 n0 c0 l0 g y1 (nx gN (nx gN s)) HI2.out).mono ?_
  rintro e w2 ⟨v2, _, hg2, rfl, hI3, hS3⟩
  have hR := hR.stp hS3 hR.lt (by omega)
  have hb := hb.stp hS3 hb.lt (by omega)
  have HG2 := Lib.hid hg2
  clear hg2
  have hv : enc (⟨v0, v1, 0, cm0, co0⟩ : En) = ([.int .i64 v0] ++ [.int .i64 v1]) ++ ([.int .i64 0] ++ ((cmc cm0) ++ (coc co0))) := by simp [enc]
  have hc := hb.cell (j := 2) (get_mid hv (by simp))
  have hf := hb.free 2
  have hsv : (enc (⟨v0, v1, 0, cm0, co0⟩ : En)).set 2 (.int .i64 v2) = enc (⟨v0, v1, v2, cm0, co0⟩ : En) := (set_mid hv (by simp)).trans (by simp [enc])
  have hb : Blk (w2.setCell ⟨X, 2, none⟩ (.int .i64 v2)) X 38 (enc (⟨v0, v1, v2, cm0, co0⟩ : En)) := by have := hb.set 2 (.int .i64 v2); rw [hsv] at this; exact this
  have hR := hR.setOther ⟨X, 2, none⟩ (.int .i64 v2) (by simp only; omega)
  have HI3 := Lib.hid (hI3.stp (K := fun i => i = X) ((Stp.refl _ _ _).set ⟨X, 2, none⟩ (.int .i64 v2) (.inl rfl)) (fun i e => by omega))
  have HS3 := Lib.hid ((HS2.out.trans (hS3.lower HS2.out.size)).set ⟨X, 2, none⟩ (.int .i64 v2) (.inr (by simp only; omega)))
  have HR3 := Lib.hid hR
  have HB3 := Lib.hid hb
  clear hI3 hS3 hR hb hv hsv
  go_wp2_with fail
  have hR := HR3.out
  have hb := HB3.out
  clear hc hf HR3 HB3
  generalize w2.setCell ⟨X, 2, none⟩ (.int .i64 v2) = y2 at *
  refine (in_Command a0 n0 c0 l0 g y2 (nx gN (nx gN (nx gN s))) HI3.out).mono ?_
  rintro e w3 ⟨v3, hk3, hg3, rfl, hI4, hS4⟩
  have hR := hR.stp hS4 hR.lt (by omega)
  have hb := hb.stp hS4 hb.lt (by omega)
  have HG3 := Lib.hid hg3
  clear hg3
  have HL3 : Hid ((cmc v3).length = 38) := Lib.hid (cmc_length hk3)
  have IF3 : Hid ((Tryz.prog.info? 27).map (·.size) = some (cmc v3).length) := Lib.hid (by rw [HL3.out]; kernel_rfl)
  have ON3 : Hid (∀ v ∈ (cmc v3), v.oneCell' = true) := Lib.hid (cmc_one _)
  have hv : enc (⟨v0, v1, v2, cm0, co0⟩ : En) = ([.int .i64 v0] ++ [.int .i64 v1] ++ [.int .i64 v2]) ++ ((cmc cm0) ++ ((coc co0))) := by simp [enc]
  have hzl : (cmc cm0).length = (cmc v3).length := by rw [HL3.out]; exact cmc_length cm0_ok
  have FT3 : Hid (3 + (cmc v3).length ≤ (enc (⟨v0, v1, v2, cm0, co0⟩ : En)).length) := Lib.hid (fit_mid hv (by simp) hzl)
  have SP3 : Hid (splice (enc (⟨v0, v1, v2, cm0, co0⟩ : En)) 3 (cmc v3) = enc (⟨v0, v1, v2, v3, co0⟩ : En)) := Lib.hid ((splice_mid hv (by simp) hzl).trans (by simp [enc]))
  have HI4 := Lib.hid hI4
  have HS4 := Lib.hid (HS3.out.trans (hS4.lower HS3.out.size))
  have hRs := HS4.out.size
  have HNT : Hid (∀ cs f, w3.heap[X]? ≠ some (.cells cs 3 f)) := Lib.hid (hb.noT (by decide))
  clear hI4 hS4 hv hzl
  go_wp2_with ((with_reducible refine wpList_storeM (o := ⟨none, .store 27 (.tmp 18) (.tmp 17), _, _, _, _⟩) ?_ X 3 27 (.tmp 18) (.tmp 17) ?_ ?_ ?_ hb FT3.out IF3.out ON3.out ?_); rfl; rfl; rfl; rfl; intro y3 hb3 hgs3 hzs3; rw [SP3.out] at hb3)
  have hR := hR.grown hgs3 (fun e => by injection e with e; omega)
  have hI := HI4.out.stp (K := fun i => i = X) ((Stp.refl _ _ _).grown hgs3 (Nat.le_refl _) (fun i e => by cases e; exact .inl rfl)) (fun i e => by omega)
  have HI4 := Lib.hid hI
  have HS4 := Lib.hid (HS4.out.grown hgs3 HS4.out.size (fun i e => by cases e; exact .inr (by omega)))
  have hb := hb3
  clear hb3 hgs3 hzs3 hI hRs HNT
  refine (in_council a0 n0 c0 l0 g y3 (nx gC (nx gN (nx gN (nx gN s)))) HI4.out).mono ?_
  rintro e w4 ⟨v4, _, hg4, rfl, hO, hI5, hS5⟩
  have HO4 := Lib.hid (Co.own_lower hO HS4.out.size)
  clear hO
  have hR := hR.stp hS5 hR.lt (by omega)
  have hb := hb.stp hS5 hb.lt (by omega)
  have HG4 := Lib.hid hg4
  clear hg4
  have HL4 : Hid ((coc v4).length = 2) := Lib.hid (coc_length trivial)
  have IF4 : Hid ((Tryz.prog.info? 36).map (·.size) = some (coc v4).length) := Lib.hid (by rw [HL4.out]; kernel_rfl)
  have ON4 : Hid (∀ v ∈ (coc v4), v.oneCell' = true) := Lib.hid (coc_one _)
  have hv : enc (⟨v0, v1, v2, v3, co0⟩ : En) = ([.int .i64 v0] ++ [.int .i64 v1] ++ [.int .i64 v2] ++ (cmc v3)) ++ ((coc co0) ++ ([])) := by simp [enc]
  have hzl : (coc co0).length = (coc v4).length := by rw [HL4.out]; exact rfl
  have FT4 : Hid (41 + (coc v4).length ≤ (enc (⟨v0, v1, v2, v3, co0⟩ : En)).length) := Lib.hid (fit_mid hv (by simp [HL3.out]) hzl)
  have SP4 : Hid (splice (enc (⟨v0, v1, v2, v3, co0⟩ : En)) 41 (coc v4) = enc (⟨v0, v1, v2, v3, v4⟩ : En)) := Lib.hid ((splice_mid hv (by simp [HL3.out]) hzl).trans (by simp [enc]))
  have HI5 := Lib.hid hI5
  have HS5 := Lib.hid (HS4.out.trans (hS5.lower HS4.out.size))
  have hRs := HS5.out.size
  have HNT : Hid (∀ cs f, w4.heap[X]? ≠ some (.cells cs 3 f)) := Lib.hid (hb.noT (by decide))
  clear hI5 hS5 hv hzl
  have HOK : Hid ((⟨v0, v1, v2, v3, v4⟩ : En).ok) := Lib.hid hk3
  have HCL : Hid ((enc en0).length = (enc (⟨v0, v1, v2, v3, v4⟩ : En)).length) := Lib.hid ((enc_length en0_ok).trans (enc_length (x := (⟨v0, v1, v2, v3, v4⟩ : En)) HOK.out).symm)
  have IX : Hid ((Tryz.prog.info? 38).map (·.size) = some (enc (⟨v0, v1, v2, v3, v4⟩ : En)).length) := Lib.hid (by rw [← HCL.out]; exact IZ.out)
  have HOX : Hid (∀ v ∈ enc (⟨v0, v1, v2, v3, v4⟩ : En), v.oneCell' = true) := Lib.hid (enc_one _)
  go_wp2_with (first
    | ((with_reducible refine wpList_storeM (o := ⟨none, .store 36 (.tmp 21) (.tmp 20), _, _, _, _⟩) ?_ X 41 36 (.tmp 21) (.tmp 20) ?_ ?_ ?_ hb FT4.out IF4.out ON4.out ?_); rfl; rfl; rfl; rfl; intro y4 hb4 hgs4 hzs4; rw [SP4.out] at hb4; have hR := hR.grown hgs4 (fun e => by injection e with e; omega))
    | ((with_reducible refine wpList_loadB (o := ⟨some 22, _, _, _, _, _⟩) ?_ 38 (.tmp 3) ?_ ?_ hb4 Tryz.underlying38 ?_ IX.out ?_); rfl; rfl; rfl; rfl)
    | ((with_reducible refine wpList_storeB (o := ⟨none, .store 38 (.tmp 2) (.tmp 22), _, _, _, _⟩) ?_ 38 (.tmp 2) (.tmp 22) ?_ ?_ ?_ hR IX.out HCL.out HOX.out ?_); rfl; rfl; rfl; rfl; intro wz hbz hgz hzz))
  have hK : KpT 3 w4 wz := (KpT.grown hgs4 (fun i e => by cases e; exact HNT.out)).trans (KpT.grown hgz (fun i e => by cases e; exact hR.noT (by decide)))
  have HO4 := Lib.hid (Co.own_keep HO4.out (hK))
  apply bodyPost_ret
  exact results_blk rfl _ _ _ _ _ _ rfl hbz Tryz.underlying38 rfl IX.out
  rfl
  have hI := HI5.out.stp (K := fun i => g < i) (((Stp.refl (fun i => g < i) _ _).grown hgs4 (Nat.le_refl _) (fun i e => by cases e; exact .inl hgX)).grown hgz (by omega) (fun i e => by cases e; exact .inl hlt)) (fun i e => e)
  have hS := (HS5.out.grown hgs4 HS5.out.size (fun i e => by cases e; exact .inr (by omega))).grown hgz (by omega) (fun i e => by cases e; exact .inr (Nat.le_refl _))
  have hc := chain_Entry s _ _ _ _ _ HG0.out HG1.out HG2.out HG3.out HG4.out
  exact ⟨_, HOK.out, hc.1, rfl, HO4.out, hc.2 ▸ hI, hS⟩

theorem chain_Record (s : Option (List UInt8)) (v0 : Int) (v1 : Int) (v2 : Int) (v3 : En) (v4 : Int) (v5 : Int) (v6 : Int) (v7 : Co) (v8 : ByteArray) (v9 : Sg) (h0 : got gN s v0) (h1 : got gN (nx gN s) v1) (h2 : got gN (nx gN (nx gN s)) v2) (h3 : got gE (nx gN (nx gN (nx gN s))) v3) (h4 : got gN (nx gE (nx gN (nx gN (nx gN s)))) v4) (h5 : got gN (nx gN (nx gE (nx gN (nx gN (nx gN s))))) v5) (h6 : got gN (nx gN (nx gN (nx gE (nx gN (nx gN (nx gN s)))))) v6) (h7 : got gCo (nx gN (nx gN (nx gN (nx gE (nx gN (nx gN (nx gN s))))))) v7) (h8 : got gT (nx gCo (nx gN (nx gN (nx gN (nx gE (nx gN (nx gN (nx gN s)))))))) v8) (h9 : got gS (nx gT (nx gCo (nx gN (nx gN (nx gN (nx gE (nx gN (nx gN (nx gN s))))))))) v9) : got gR s (⟨v0, v1, v2, v3, v4, ⟨v5, v6, v7, v8⟩, v9⟩ : Re) ∧ nx gR s = (nx gS (nx gT (nx gCo (nx gN (nx gN (nx gN (nx gE (nx gN (nx gN (nx gN s)))))))))) := by
  rcases s with _ | l
  · exact ⟨fun _ _ e _ => (by cases e), rfl⟩
  rcases e0 : gN l with _ | p0
  · exact ⟨fun a p i1 i2 => (by cases i1; simp [gR, gSn, e0] at i2), by simp [nx, gR, gSn, e0]⟩
  have q0 := h0 l p0 (by simp) e0
  rcases e1 : gN p0.2 with _ | p1
  · exact ⟨fun a p i1 i2 => (by cases i1; simp [gR, gSn, e0, e1] at i2), by simp [nx, gR, gSn, e0, e1]⟩
  have q1 := h1 p0.2 p1 (by simp [nx, e0]) e1
  rcases e2 : gN p1.2 with _ | p2
  · exact ⟨fun a p i1 i2 => (by cases i1; simp [gR, gSn, e0, e1, e2] at i2), by simp [nx, gR, gSn, e0, e1, e2]⟩
  have q2 := h2 p1.2 p2 (by simp [nx, e0, e1]) e2
  rcases e3 : gE p2.2 with _ | p3
  · exact ⟨fun a p i1 i2 => (by cases i1; simp [gR, gSn, e0, e1, e2, e3] at i2), by simp [nx, gR, gSn, e0, e1, e2, e3]⟩
  have q3 := h3 p2.2 p3 (by simp [nx, e0, e1, e2]) e3
  rcases e4 : gN p3.2 with _ | p4
  · exact ⟨fun a p i1 i2 => (by cases i1; simp [gR, gSn, e0, e1, e2, e3, e4] at i2), by simp [nx, gR, gSn, e0, e1, e2, e3, e4]⟩
  have q4 := h4 p3.2 p4 (by simp [nx, e0, e1, e2, e3]) e4
  rcases e5 : gN p4.2 with _ | p5
  · exact ⟨fun a p i1 i2 => (by cases i1; simp [gR, gSn, e0, e1, e2, e3, e4, e5] at i2), by simp [nx, gR, gSn, e0, e1, e2, e3, e4, e5]⟩
  have q5 := h5 p4.2 p5 (by simp [nx, e0, e1, e2, e3, e4]) e5
  rcases e6 : gN p5.2 with _ | p6
  · exact ⟨fun a p i1 i2 => (by cases i1; simp [gR, gSn, e0, e1, e2, e3, e4, e5, e6] at i2), by simp [nx, gR, gSn, e0, e1, e2, e3, e4, e5, e6]⟩
  have q6 := h6 p5.2 p6 (by simp [nx, e0, e1, e2, e3, e4, e5]) e6
  rcases e7 : gCo p6.2 with _ | p7
  · exact ⟨fun a p i1 i2 => (by cases i1; simp [gR, gSn, e0, e1, e2, e3, e4, e5, e6, e7] at i2), by simp [nx, gR, gSn, e0, e1, e2, e3, e4, e5, e6, e7]⟩
  have q7 := h7 p6.2 p7 (by simp [nx, e0, e1, e2, e3, e4, e5, e6]) e7
  rcases e8 : gT p7.2 with _ | p8
  · exact ⟨fun a p i1 i2 => (by cases i1; simp [gR, gSn, e0, e1, e2, e3, e4, e5, e6, e7, e8] at i2), by simp [nx, gR, gSn, e0, e1, e2, e3, e4, e5, e6, e7, e8]⟩
  have q8 := h8 p7.2 p8 (by simp [nx, e0, e1, e2, e3, e4, e5, e6, e7]) e8
  rcases e9 : gS p8.2 with _ | p9
  · exact ⟨fun a p i1 i2 => (by cases i1; simp [gR, gSn, e0, e1, e2, e3, e4, e5, e6, e7, e8, e9] at i2), by simp [nx, gR, gSn, e0, e1, e2, e3, e4, e5, e6, e7, e8, e9]⟩
  have q9 := h9 p8.2 p9 (by simp [nx, e0, e1, e2, e3, e4, e5, e6, e7, e8]) e9
  exact ⟨fun a p i1 i2 => (by cases i1; simp [gR, gSn, e0, e1, e2, e3, e4, e5, e6, e7, e8, e9, q0, q1, q2, q3, q4, q5, q6, q7, q8, q9] at i2; rw [← i2]), by simp [nx, gR, gSn, e0, e1, e2, e3, e4, e5, e6, e7, e8, e9]⟩
theorem built_Record : Tryz.prog.built 51 [] = some (rec re0).toArray := by kernel_rfl
set_option maxHeartbeats 4000000 in
theorem in_Record (a0 : Option Addr) (n0 c0 : Nat) (l0 : List UInt8) (g : Nat) (w : World) (s : Option (List UInt8)) (hI : In1 a0 n0 c0 l0 g w s) :
    Calls Tryz.prog 39 #[.pointer (some ⟨g, 0, none⟩)] w fun e w' => ∃ v : Re, v.ok ∧ got gR s v.cl ∧ e = .returned (.agg (rec v).toArray) ∧ Re.own w' w.heap.size v ∧ In1 a0 n0 c0 l0 g w' (nx gR s) ∧ Stp (fun i => i = g) w.heap.size w w' := by
  have HI := Lib.hid hI
  have hlt := hI.lt
  clear hI
  have IZ : Hid ((Tryz.prog.info? 51).map (·.size) = some (rec re0).length) := Lib.hid (by rw [rec_length re0_ok]; kernel_rfl)
  have HOZ : Hid (∀ v ∈ rec re0, v.oneCell' = true) := Lib.hid (rec_one _)
  have HB0 : Hid (Tryz.prog.built 51 [] = some (rec re0).toArray) := Lib.hid built_Record
  go_enter Tryz.func39, Tryz.ntmps39
  go_wp2_with (first
    | ((with_reducible refine wpList_allocB (o := ⟨some 2, _, _, _, _, _⟩) ?_ 51 ?_ re0_info ?_); rfl; rfl; intro wa hba hga hza)
    | ((with_reducible refine wpList_buildI (dst := some 5) HB0.out ?_ ?_); rfl)
    | ((with_reducible refine wpList_allocB (o := ⟨some 3, _, _, _, _, _⟩) ?_ 51 ?_ re0_info ?_); rfl; rfl; intro wb hbb hgb hzb)
    | ((with_reducible refine wpList_storeB (o := ⟨none, .store 51 (.tmp 3) (.tmp 5), _, _, _, _⟩) ?_ 51 (.tmp 3) (.tmp 5) ?_ ?_ ?_ hbb IZ.out rfl HOZ.out ?_); rfl; rfl; rfl; rfl; intro wx hb hgx hzx))
  have hBx : Below w.heap.size w wx := (((Below.refl _ w).grown hga (Nat.le_refl _) (by simp)).grown hgb (by omega) (by simp)).grown hgx (by omega) (fun k e => by cases e; omega)
  have hR : Blk wx w.heap.size 51 (rec re0) := (hba.grown hgb (by simp)).grown hgx (fun e => by injection e with e; omega)
  have HI0 := Lib.hid (HI.out.below hBx)
  have HS0 : Hid (Stp (fun i => i = g) w.heap.size w wx) := Lib.hid (Stp.of hBx)
  rw [hza] at hb
  have hXR : w.heap.size < w.heap.size + 1 := by omega
  generalize hX : w.heap.size + 1 = X at *
  have hgX : g < X := by omega
  clear hba hga hza hbb hgb hzb hgx hzx hBx hX
  have hb : Blk wx X 51 (rec (⟨0, 0, 0, en0, 0, ⟨0, 0, co0, ByteArray.empty⟩, sg0⟩ : Re)) := hb
  refine (in_n a0 n0 c0 l0 g wx s HI0.out).mono ?_
  rintro e w0 ⟨v0, _, hg0, rfl, hI1, hS1⟩
  have hR := hR.stp hS1 hR.lt (by omega)
  have hb := hb.stp hS1 hb.lt (by omega)
  have HG0 := Lib.hid hg0
  clear hg0
  have hv : rec (⟨0, 0, 0, en0, 0, ⟨0, 0, co0, ByteArray.empty⟩, sg0⟩ : Re) = (([] : List Value)) ++ ([.int .i64 0] ++ ([.int .i64 0] ++ [.int .i64 0] ++ (enc en0) ++ [.int .i64 0] ++ [.int .i64 0] ++ [.int .i64 0] ++ (coc co0) ++ [.string ByteArray.empty] ++ (sgc sg0))) := by simp [rec, snc]
  have hc := hb.cell (j := 0) (get_mid hv (by simp))
  have hf := hb.free 0
  have hsv : (rec (⟨0, 0, 0, en0, 0, ⟨0, 0, co0, ByteArray.empty⟩, sg0⟩ : Re)).set 0 (.int .i64 v0) = rec (⟨v0, 0, 0, en0, 0, ⟨0, 0, co0, ByteArray.empty⟩, sg0⟩ : Re) := (set_mid hv (by simp)).trans (by simp [rec, snc])
  have hb : Blk (w0.setCell ⟨X, 0, none⟩ (.int .i64 v0)) X 51 (rec (⟨v0, 0, 0, en0, 0, ⟨0, 0, co0, ByteArray.empty⟩, sg0⟩ : Re)) := by have := hb.set 0 (.int .i64 v0); rw [hsv] at this; exact this
  have hR := hR.setOther ⟨X, 0, none⟩ (.int .i64 v0) (by simp only; omega)
  have HI1 := Lib.hid (hI1.stp (K := fun i => i = X) ((Stp.refl _ _ _).set ⟨X, 0, none⟩ (.int .i64 v0) (.inl rfl)) (fun i e => by omega))
  have HS1 := Lib.hid ((HS0.out.trans (hS1.lower HS0.out.size)).set ⟨X, 0, none⟩ (.int .i64 v0) (.inr (by simp only; omega)))
  have HR1 := Lib.hid hR
  have HB1 := Lib.hid hb
  clear hI1 hS1 hR hb hv hsv
  go_wp2_with fail
  have hR := HR1.out
  have hb := HB1.out
  clear hc hf HR1 HB1
  generalize w0.setCell ⟨X, 0, none⟩ (.int .i64 v0) = y0 at *
  refine (in_n a0 n0 c0 l0 g y0 (nx gN s) HI1.out).mono ?_
  rintro e w1 ⟨v1, _, hg1, rfl, hI2, hS2⟩
  have hR := hR.stp hS2 hR.lt (by omega)
  have hb := hb.stp hS2 hb.lt (by omega)
  have HG1 := Lib.hid hg1
  clear hg1
  have hv : rec (⟨v0, 0, 0, en0, 0, ⟨0, 0, co0, ByteArray.empty⟩, sg0⟩ : Re) = ([.int .i64 v0]) ++ ([.int .i64 0] ++ ([.int .i64 0] ++ (enc en0) ++ [.int .i64 0] ++ [.int .i64 0] ++ [.int .i64 0] ++ (coc co0) ++ [.string ByteArray.empty] ++ (sgc sg0))) := by simp [rec, snc]
  have hc := hb.cell (j := 1) (get_mid hv (by simp))
  have hf := hb.free 1
  have hsv : (rec (⟨v0, 0, 0, en0, 0, ⟨0, 0, co0, ByteArray.empty⟩, sg0⟩ : Re)).set 1 (.int .i64 v1) = rec (⟨v0, v1, 0, en0, 0, ⟨0, 0, co0, ByteArray.empty⟩, sg0⟩ : Re) := (set_mid hv (by simp)).trans (by simp [rec, snc])
  have hb : Blk (w1.setCell ⟨X, 1, none⟩ (.int .i64 v1)) X 51 (rec (⟨v0, v1, 0, en0, 0, ⟨0, 0, co0, ByteArray.empty⟩, sg0⟩ : Re)) := by have := hb.set 1 (.int .i64 v1); rw [hsv] at this; exact this
  have hR := hR.setOther ⟨X, 1, none⟩ (.int .i64 v1) (by simp only; omega)
  have HI2 := Lib.hid (hI2.stp (K := fun i => i = X) ((Stp.refl _ _ _).set ⟨X, 1, none⟩ (.int .i64 v1) (.inl rfl)) (fun i e => by omega))
  have HS2 := Lib.hid ((HS1.out.trans (hS2.lower HS1.out.size)).set ⟨X, 1, none⟩ (.int .i64 v1) (.inr (by simp only; omega)))
  have HR2 := Lib.hid hR
  have HB2 := Lib.hid hb
  clear hI2 hS2 hR hb hv hsv
  go_wp2_with fail
  have hR := HR2.out
  have hb := HB2.out
  clear hc hf HR2 HB2
  generalize w1.setCell ⟨X, 1, none⟩ (.int .i64 v1) = y1 at *
  refine (in_n a0 n0 c0 l0 g y1 (nx gN (nx gN s)) HI2.out).mono ?_
  rintro e w2 ⟨v2, _, hg2, rfl, hI3, hS3⟩
  have hR := hR.stp hS3 hR.lt (by omega)
  have hb := hb.stp hS3 hb.lt (by omega)
  have HG2 := Lib.hid hg2
  clear hg2
  have hv : rec (⟨v0, v1, 0, en0, 0, ⟨0, 0, co0, ByteArray.empty⟩, sg0⟩ : Re) = ([.int .i64 v0] ++ [.int .i64 v1]) ++ ([.int .i64 0] ++ ((enc en0) ++ [.int .i64 0] ++ [.int .i64 0] ++ [.int .i64 0] ++ (coc co0) ++ [.string ByteArray.empty] ++ (sgc sg0))) := by simp [rec, snc]
  have hc := hb.cell (j := 2) (get_mid hv (by simp))
  have hf := hb.free 2
  have hsv : (rec (⟨v0, v1, 0, en0, 0, ⟨0, 0, co0, ByteArray.empty⟩, sg0⟩ : Re)).set 2 (.int .i64 v2) = rec (⟨v0, v1, v2, en0, 0, ⟨0, 0, co0, ByteArray.empty⟩, sg0⟩ : Re) := (set_mid hv (by simp)).trans (by simp [rec, snc])
  have hb : Blk (w2.setCell ⟨X, 2, none⟩ (.int .i64 v2)) X 51 (rec (⟨v0, v1, v2, en0, 0, ⟨0, 0, co0, ByteArray.empty⟩, sg0⟩ : Re)) := by have := hb.set 2 (.int .i64 v2); rw [hsv] at this; exact this
  have hR := hR.setOther ⟨X, 2, none⟩ (.int .i64 v2) (by simp only; omega)
  have HI3 := Lib.hid (hI3.stp (K := fun i => i = X) ((Stp.refl _ _ _).set ⟨X, 2, none⟩ (.int .i64 v2) (.inl rfl)) (fun i e => by omega))
  have HS3 := Lib.hid ((HS2.out.trans (hS3.lower HS2.out.size)).set ⟨X, 2, none⟩ (.int .i64 v2) (.inr (by simp only; omega)))
  have HR3 := Lib.hid hR
  have HB3 := Lib.hid hb
  clear hI3 hS3 hR hb hv hsv
  go_wp2_with fail
  have hR := HR3.out
  have hb := HB3.out
  clear hc hf HR3 HB3
  generalize w2.setCell ⟨X, 2, none⟩ (.int .i64 v2) = y2 at *
  refine (in_Entry a0 n0 c0 l0 g y2 (nx gN (nx gN (nx gN s))) HI3.out).mono ?_
  rintro e w3 ⟨v3, hk3, hg3, rfl, hO, hI4, hS4⟩
  have HO3 := Lib.hid (En.own_lower hO HS3.out.size)
  clear hO
  have hR := hR.stp hS4 hR.lt (by omega)
  have hb := hb.stp hS4 hb.lt (by omega)
  have HG3 := Lib.hid hg3
  clear hg3
  have HL3 : Hid ((enc v3).length = 43) := Lib.hid (enc_length hk3)
  have IF3 : Hid ((Tryz.prog.info? 38).map (·.size) = some (enc v3).length) := Lib.hid (by rw [HL3.out]; kernel_rfl)
  have ON3 : Hid (∀ v ∈ (enc v3), v.oneCell' = true) := Lib.hid (enc_one _)
  have hv : rec (⟨v0, v1, v2, en0, 0, ⟨0, 0, co0, ByteArray.empty⟩, sg0⟩ : Re) = ([.int .i64 v0] ++ [.int .i64 v1] ++ [.int .i64 v2]) ++ ((enc en0) ++ ([.int .i64 0] ++ [.int .i64 0] ++ [.int .i64 0] ++ (coc co0) ++ [.string ByteArray.empty] ++ (sgc sg0))) := by simp [rec, snc]
  have hzl : (enc en0).length = (enc v3).length := by rw [HL3.out]; exact enc_length en0_ok
  have FT3 : Hid (3 + (enc v3).length ≤ (rec (⟨v0, v1, v2, en0, 0, ⟨0, 0, co0, ByteArray.empty⟩, sg0⟩ : Re)).length) := Lib.hid (fit_mid hv (by simp) hzl)
  have SP3 : Hid (splice (rec (⟨v0, v1, v2, en0, 0, ⟨0, 0, co0, ByteArray.empty⟩, sg0⟩ : Re)) 3 (enc v3) = rec (⟨v0, v1, v2, v3, 0, ⟨0, 0, co0, ByteArray.empty⟩, sg0⟩ : Re)) := Lib.hid ((splice_mid hv (by simp) hzl).trans (by simp [rec, snc]))
  have HI4 := Lib.hid hI4
  have HS4 := Lib.hid (HS3.out.trans (hS4.lower HS3.out.size))
  have hRs := HS4.out.size
  have HNT : Hid (∀ cs f, w3.heap[X]? ≠ some (.cells cs 3 f)) := Lib.hid (hb.noT (by decide))
  clear hI4 hS4 hv hzl
  go_wp2_with ((with_reducible refine wpList_storeM (o := ⟨none, .store 38 (.tmp 18) (.tmp 17), _, _, _, _⟩) ?_ X 3 38 (.tmp 18) (.tmp 17) ?_ ?_ ?_ hb FT3.out IF3.out ON3.out ?_); rfl; rfl; rfl; rfl; intro y3 hb3 hgs3 hzs3; rw [SP3.out] at hb3)
  have hR := hR.grown hgs3 (fun e => by injection e with e; omega)
  have hK : KpT 3 w3 y3 := KpT.grown hgs3 (fun i e => by cases e; exact HNT.out)
  have HO3 := Lib.hid (En.own_keep HO3.out (hK))
  clear hK
  have hI := HI4.out.stp (K := fun i => i = X) ((Stp.refl _ _ _).grown hgs3 (Nat.le_refl _) (fun i e => by cases e; exact .inl rfl)) (fun i e => by omega)
  have HI4 := Lib.hid hI
  have HS4 := Lib.hid (HS4.out.grown hgs3 HS4.out.size (fun i e => by cases e; exact .inr (by omega)))
  have hb := hb3
  clear hb3 hgs3 hzs3 hI hRs HNT
  refine (in_n a0 n0 c0 l0 g y3 (nx gE (nx gN (nx gN (nx gN s)))) HI4.out).mono ?_
  rintro e w4 ⟨v4, _, hg4, rfl, hI5, hS5⟩
  have hK : KpT 3 y3 w4 := KpT.stp hS5 (fun i e => by subst e; exact HI4.out.noT (by decide))
  have HO3 := Lib.hid (En.own_keep HO3.out (hK))
  clear hK
  have hR := hR.stp hS5 hR.lt (by omega)
  have hb := hb.stp hS5 hb.lt (by omega)
  have HG4 := Lib.hid hg4
  clear hg4
  have hv : rec (⟨v0, v1, v2, v3, 0, ⟨0, 0, co0, ByteArray.empty⟩, sg0⟩ : Re) = ([.int .i64 v0] ++ [.int .i64 v1] ++ [.int .i64 v2] ++ (enc v3)) ++ ([.int .i64 0] ++ ([.int .i64 0] ++ [.int .i64 0] ++ (coc co0) ++ [.string ByteArray.empty] ++ (sgc sg0))) := by simp [rec, snc]
  have hc := hb.cell (j := 46) (get_mid hv (by simp [HL3.out]))
  have hf := hb.free 46
  have hsv : (rec (⟨v0, v1, v2, v3, 0, ⟨0, 0, co0, ByteArray.empty⟩, sg0⟩ : Re)).set 46 (.int .i64 v4) = rec (⟨v0, v1, v2, v3, v4, ⟨0, 0, co0, ByteArray.empty⟩, sg0⟩ : Re) := (set_mid hv (by simp [HL3.out])).trans (by simp [rec, snc])
  have hK : KpT 3 w4 (w4.setCell ⟨X, 46, none⟩ (.int .i64 v4)) := KpT.grown (set_grown w4 X 46 (.int .i64 v4)) (fun i e => by cases e; exact hb.noT (by decide))
  have HO3 := Lib.hid (En.own_keep HO3.out (hK))
  clear hK
  have hb : Blk (w4.setCell ⟨X, 46, none⟩ (.int .i64 v4)) X 51 (rec (⟨v0, v1, v2, v3, v4, ⟨0, 0, co0, ByteArray.empty⟩, sg0⟩ : Re)) := by have := hb.set 46 (.int .i64 v4); rw [hsv] at this; exact this
  have hR := hR.setOther ⟨X, 46, none⟩ (.int .i64 v4) (by simp only; omega)
  have HI5 := Lib.hid (hI5.stp (K := fun i => i = X) ((Stp.refl _ _ _).set ⟨X, 46, none⟩ (.int .i64 v4) (.inl rfl)) (fun i e => by omega))
  have HS5 := Lib.hid ((HS4.out.trans (hS5.lower HS4.out.size)).set ⟨X, 46, none⟩ (.int .i64 v4) (.inr (by simp only; omega)))
  have HR5 := Lib.hid hR
  have HB5 := Lib.hid hb
  clear hI5 hS5 hR hb hv hsv
  go_wp2_with fail
  have hR := HR5.out
  have hb := HB5.out
  clear hc hf HR5 HB5
  generalize w4.setCell ⟨X, 46, none⟩ (.int .i64 v4) = y4 at *
  refine (in_n a0 n0 c0 l0 g y4 (nx gN (nx gE (nx gN (nx gN (nx gN s))))) HI5.out).mono ?_
  rintro e w5 ⟨v5, _, hg5, rfl, hI6, hS6⟩
  have hK : KpT 3 y4 w5 := KpT.stp hS6 (fun i e => by subst e; exact HI5.out.noT (by decide))
  have HO3 := Lib.hid (En.own_keep HO3.out (hK))
  clear hK
  have hR := hR.stp hS6 hR.lt (by omega)
  have hb := hb.stp hS6 hb.lt (by omega)
  have HG5 := Lib.hid hg5
  clear hg5
  have hv : rec (⟨v0, v1, v2, v3, v4, ⟨0, 0, co0, ByteArray.empty⟩, sg0⟩ : Re) = ([.int .i64 v0] ++ [.int .i64 v1] ++ [.int .i64 v2] ++ (enc v3) ++ [.int .i64 v4]) ++ ([.int .i64 0] ++ ([.int .i64 0] ++ (coc co0) ++ [.string ByteArray.empty] ++ (sgc sg0))) := by simp [rec, snc]
  have hc := hb.cell (j := 47) (get_mid hv (by simp [HL3.out]))
  have hf := hb.free 47
  have hsv : (rec (⟨v0, v1, v2, v3, v4, ⟨0, 0, co0, ByteArray.empty⟩, sg0⟩ : Re)).set 47 (.int .i64 v5) = rec (⟨v0, v1, v2, v3, v4, ⟨v5, 0, co0, ByteArray.empty⟩, sg0⟩ : Re) := (set_mid hv (by simp [HL3.out])).trans (by simp [rec, snc])
  have hK : KpT 3 w5 (w5.setCell ⟨X, 47, none⟩ (.int .i64 v5)) := KpT.grown (set_grown w5 X 47 (.int .i64 v5)) (fun i e => by cases e; exact hb.noT (by decide))
  have HO3 := Lib.hid (En.own_keep HO3.out (hK))
  clear hK
  have hb : Blk (w5.setCell ⟨X, 47, none⟩ (.int .i64 v5)) X 51 (rec (⟨v0, v1, v2, v3, v4, ⟨v5, 0, co0, ByteArray.empty⟩, sg0⟩ : Re)) := by have := hb.set 47 (.int .i64 v5); rw [hsv] at this; exact this
  have hR := hR.setOther ⟨X, 47, none⟩ (.int .i64 v5) (by simp only; omega)
  have HI6 := Lib.hid (hI6.stp (K := fun i => i = X) ((Stp.refl _ _ _).set ⟨X, 47, none⟩ (.int .i64 v5) (.inl rfl)) (fun i e => by omega))
  have HS6 := Lib.hid ((HS5.out.trans (hS6.lower HS5.out.size)).set ⟨X, 47, none⟩ (.int .i64 v5) (.inr (by simp only; omega)))
  have HR6 := Lib.hid hR
  have HB6 := Lib.hid hb
  clear hI6 hS6 hR hb hv hsv
  go_wp2_with fail
  have hR := HR6.out
  have hb := HB6.out
  clear hc hf HR6 HB6
  generalize w5.setCell ⟨X, 47, none⟩ (.int .i64 v5) = y5 at *
  refine (in_n a0 n0 c0 l0 g y5 (nx gN (nx gN (nx gE (nx gN (nx gN (nx gN s)))))) HI6.out).mono ?_
  rintro e w6 ⟨v6, _, hg6, rfl, hI7, hS7⟩
  have hK : KpT 3 y5 w6 := KpT.stp hS7 (fun i e => by subst e; exact HI6.out.noT (by decide))
  have HO3 := Lib.hid (En.own_keep HO3.out (hK))
  clear hK
  have hR := hR.stp hS7 hR.lt (by omega)
  have hb := hb.stp hS7 hb.lt (by omega)
  have HG6 := Lib.hid hg6
  clear hg6
  have hv : rec (⟨v0, v1, v2, v3, v4, ⟨v5, 0, co0, ByteArray.empty⟩, sg0⟩ : Re) = ([.int .i64 v0] ++ [.int .i64 v1] ++ [.int .i64 v2] ++ (enc v3) ++ [.int .i64 v4] ++ [.int .i64 v5]) ++ ([.int .i64 0] ++ ((coc co0) ++ [.string ByteArray.empty] ++ (sgc sg0))) := by simp [rec, snc]
  have hc := hb.cell (j := 48) (get_mid hv (by simp [HL3.out]))
  have hf := hb.free 48
  have hsv : (rec (⟨v0, v1, v2, v3, v4, ⟨v5, 0, co0, ByteArray.empty⟩, sg0⟩ : Re)).set 48 (.int .i64 v6) = rec (⟨v0, v1, v2, v3, v4, ⟨v5, v6, co0, ByteArray.empty⟩, sg0⟩ : Re) := (set_mid hv (by simp [HL3.out])).trans (by simp [rec, snc])
  have hK : KpT 3 w6 (w6.setCell ⟨X, 48, none⟩ (.int .i64 v6)) := KpT.grown (set_grown w6 X 48 (.int .i64 v6)) (fun i e => by cases e; exact hb.noT (by decide))
  have HO3 := Lib.hid (En.own_keep HO3.out (hK))
  clear hK
  have hb : Blk (w6.setCell ⟨X, 48, none⟩ (.int .i64 v6)) X 51 (rec (⟨v0, v1, v2, v3, v4, ⟨v5, v6, co0, ByteArray.empty⟩, sg0⟩ : Re)) := by have := hb.set 48 (.int .i64 v6); rw [hsv] at this; exact this
  have hR := hR.setOther ⟨X, 48, none⟩ (.int .i64 v6) (by simp only; omega)
  have HI7 := Lib.hid (hI7.stp (K := fun i => i = X) ((Stp.refl _ _ _).set ⟨X, 48, none⟩ (.int .i64 v6) (.inl rfl)) (fun i e => by omega))
  have HS7 := Lib.hid ((HS6.out.trans (hS7.lower HS6.out.size)).set ⟨X, 48, none⟩ (.int .i64 v6) (.inr (by simp only; omega)))
  have HR7 := Lib.hid hR
  have HB7 := Lib.hid hb
  clear hI7 hS7 hR hb hv hsv
  go_wp2_with fail
  have hR := HR7.out
  have hb := HB7.out
  clear hc hf HR7 HB7
  generalize w6.setCell ⟨X, 48, none⟩ (.int .i64 v6) = y6 at *
  refine (in_council a0 n0 c0 l0 g y6 (nx gN (nx gN (nx gN (nx gE (nx gN (nx gN (nx gN s))))))) HI7.out).mono ?_
  rintro e w7 ⟨v7, _, hg7, rfl, hO, hI8, hS8⟩
  have hK : KpT 3 y6 w7 := KpT.stp hS8 (fun i e => by subst e; exact HI7.out.noT (by decide))
  have HO3 := Lib.hid (En.own_keep HO3.out (hK))
  clear hK
  have HO7 := Lib.hid (Co.own_lower hO HS7.out.size)
  clear hO
  have hR := hR.stp hS8 hR.lt (by omega)
  have hb := hb.stp hS8 hb.lt (by omega)
  have HG7 := Lib.hid hg7
  clear hg7
  have HL7 : Hid ((coc v7).length = 2) := Lib.hid (coc_length trivial)
  have IF7 : Hid ((Tryz.prog.info? 36).map (·.size) = some (coc v7).length) := Lib.hid (by rw [HL7.out]; kernel_rfl)
  have ON7 : Hid (∀ v ∈ (coc v7), v.oneCell' = true) := Lib.hid (coc_one _)
  have hv : rec (⟨v0, v1, v2, v3, v4, ⟨v5, v6, co0, ByteArray.empty⟩, sg0⟩ : Re) = ([.int .i64 v0] ++ [.int .i64 v1] ++ [.int .i64 v2] ++ (enc v3) ++ [.int .i64 v4] ++ [.int .i64 v5] ++ [.int .i64 v6]) ++ ((coc co0) ++ ([.string ByteArray.empty] ++ (sgc sg0))) := by simp [rec, snc]
  have hzl : (coc co0).length = (coc v7).length := by rw [HL7.out]; exact rfl
  have FT7 : Hid (49 + (coc v7).length ≤ (rec (⟨v0, v1, v2, v3, v4, ⟨v5, v6, co0, ByteArray.empty⟩, sg0⟩ : Re)).length) := Lib.hid (fit_mid hv (by simp [HL3.out]) hzl)
  have SP7 : Hid (splice (rec (⟨v0, v1, v2, v3, v4, ⟨v5, v6, co0, ByteArray.empty⟩, sg0⟩ : Re)) 49 (coc v7) = rec (⟨v0, v1, v2, v3, v4, ⟨v5, v6, v7, ByteArray.empty⟩, sg0⟩ : Re)) := Lib.hid ((splice_mid hv (by simp [HL3.out]) hzl).trans (by simp [rec, snc]))
  have HI8 := Lib.hid hI8
  have HS8 := Lib.hid (HS7.out.trans (hS8.lower HS7.out.size))
  have hRs := HS8.out.size
  have HNT : Hid (∀ cs f, w7.heap[X]? ≠ some (.cells cs 3 f)) := Lib.hid (hb.noT (by decide))
  clear hI8 hS8 hv hzl
  go_wp2_with ((with_reducible refine wpList_storeM (o := ⟨none, .store 36 (.tmp 33) (.tmp 31), _, _, _, _⟩) ?_ X 49 36 (.tmp 33) (.tmp 31) ?_ ?_ ?_ hb FT7.out IF7.out ON7.out ?_); rfl; rfl; rfl; rfl; intro y7 hb7 hgs7 hzs7; rw [SP7.out] at hb7)
  have hR := hR.grown hgs7 (fun e => by injection e with e; omega)
  have hK : KpT 3 w7 y7 := KpT.grown hgs7 (fun i e => by cases e; exact HNT.out)
  have HO3 := Lib.hid (En.own_keep HO3.out (hK))
  have HO7 := Lib.hid (Co.own_keep HO7.out (hK))
  clear hK
  have hI := HI8.out.stp (K := fun i => i = X) ((Stp.refl _ _ _).grown hgs7 (Nat.le_refl _) (fun i e => by cases e; exact .inl rfl)) (fun i e => by omega)
  have HI8 := Lib.hid hI
  have HS8 := Lib.hid (HS8.out.grown hgs7 HS8.out.size (fun i e => by cases e; exact .inr (by omega)))
  have hb := hb7
  clear hb7 hgs7 hzs7 hI hRs HNT
  refine (in_s a0 n0 c0 l0 g y7 (nx gCo (nx gN (nx gN (nx gN (nx gE (nx gN (nx gN (nx gN s)))))))) HI8.out).mono ?_
  rintro e w8 ⟨v8, hg8, rfl, hI9, hS9⟩
  have hK : KpT 3 y7 w8 := KpT.stp hS9 (fun i e => by subst e; exact HI8.out.noT (by decide))
  have HO3 := Lib.hid (En.own_keep HO3.out (hK))
  have HO7 := Lib.hid (Co.own_keep HO7.out (hK))
  clear hK
  have hR := hR.stp hS9 hR.lt (by omega)
  have hb := hb.stp hS9 hb.lt (by omega)
  have HG8 := Lib.hid hg8
  clear hg8
  have hv : rec (⟨v0, v1, v2, v3, v4, ⟨v5, v6, v7, ByteArray.empty⟩, sg0⟩ : Re) = ([.int .i64 v0] ++ [.int .i64 v1] ++ [.int .i64 v2] ++ (enc v3) ++ [.int .i64 v4] ++ [.int .i64 v5] ++ [.int .i64 v6] ++ (coc v7)) ++ ([.string ByteArray.empty] ++ ((sgc sg0))) := by simp [rec, snc]
  have hc := hb.cell (j := 51) (get_mid hv (by simp [HL3.out, HL7.out]))
  have hf := hb.free 51
  have hsv : (rec (⟨v0, v1, v2, v3, v4, ⟨v5, v6, v7, ByteArray.empty⟩, sg0⟩ : Re)).set 51 (.string v8) = rec (⟨v0, v1, v2, v3, v4, ⟨v5, v6, v7, v8⟩, sg0⟩ : Re) := (set_mid hv (by simp [HL3.out, HL7.out])).trans (by simp [rec, snc])
  have hK : KpT 3 w8 (w8.setCell ⟨X, 51, none⟩ (.string v8)) := KpT.grown (set_grown w8 X 51 (.string v8)) (fun i e => by cases e; exact hb.noT (by decide))
  have HO3 := Lib.hid (En.own_keep HO3.out (hK))
  have HO7 := Lib.hid (Co.own_keep HO7.out (hK))
  clear hK
  have hb : Blk (w8.setCell ⟨X, 51, none⟩ (.string v8)) X 51 (rec (⟨v0, v1, v2, v3, v4, ⟨v5, v6, v7, v8⟩, sg0⟩ : Re)) := by have := hb.set 51 (.string v8); rw [hsv] at this; exact this
  have hR := hR.setOther ⟨X, 51, none⟩ (.string v8) (by simp only; omega)
  have HI9 := Lib.hid (hI9.stp (K := fun i => i = X) ((Stp.refl _ _ _).set ⟨X, 51, none⟩ (.string v8) (.inl rfl)) (fun i e => by omega))
  have HS9 := Lib.hid ((HS8.out.trans (hS9.lower HS8.out.size)).set ⟨X, 51, none⟩ (.string v8) (.inr (by simp only; omega)))
  have HR9 := Lib.hid hR
  have HB9 := Lib.hid hb
  clear hI9 hS9 hR hb hv hsv
  go_wp2_with fail
  have hR := HR9.out
  have hb := HB9.out
  clear hc hf HR9 HB9
  generalize w8.setCell ⟨X, 51, none⟩ (.string v8) = y8 at *
  refine (in_Signed a0 n0 c0 l0 g y8 (nx gT (nx gCo (nx gN (nx gN (nx gN (nx gE (nx gN (nx gN (nx gN s))))))))) HI9.out).mono ?_
  rintro e w9 ⟨v9, hk9, hg9, rfl, hI10, hS10⟩
  have hK : KpT 3 y8 w9 := KpT.stp hS10 (fun i e => by subst e; exact HI9.out.noT (by decide))
  have HO3 := Lib.hid (En.own_keep HO3.out (hK))
  have HO7 := Lib.hid (Co.own_keep HO7.out (hK))
  clear hK
  have hR := hR.stp hS10 hR.lt (by omega)
  have hb := hb.stp hS10 hb.lt (by omega)
  have HG9 := Lib.hid hg9
  clear hg9
  have HL9 : Hid ((sgc v9).length = 97) := Lib.hid (sgc_length hk9)
  have IF9 : Hid ((Tryz.prog.info? 49).map (·.size) = some (sgc v9).length) := Lib.hid (by rw [HL9.out]; kernel_rfl)
  have ON9 : Hid (∀ v ∈ (sgc v9), v.oneCell' = true) := Lib.hid (sgc_one _)
  have hv : rec (⟨v0, v1, v2, v3, v4, ⟨v5, v6, v7, v8⟩, sg0⟩ : Re) = ([.int .i64 v0] ++ [.int .i64 v1] ++ [.int .i64 v2] ++ (enc v3) ++ [.int .i64 v4] ++ [.int .i64 v5] ++ [.int .i64 v6] ++ (coc v7) ++ [.string v8]) ++ ((sgc sg0) ++ ([])) := by simp [rec, snc]
  have hzl : (sgc sg0).length = (sgc v9).length := by rw [HL9.out]; exact sgc_length sg0_ok
  have FT9 : Hid (52 + (sgc v9).length ≤ (rec (⟨v0, v1, v2, v3, v4, ⟨v5, v6, v7, v8⟩, sg0⟩ : Re)).length) := Lib.hid (fit_mid hv (by simp [HL3.out, HL7.out]) hzl)
  have SP9 : Hid (splice (rec (⟨v0, v1, v2, v3, v4, ⟨v5, v6, v7, v8⟩, sg0⟩ : Re)) 52 (sgc v9) = rec (⟨v0, v1, v2, v3, v4, ⟨v5, v6, v7, v8⟩, v9⟩ : Re)) := Lib.hid ((splice_mid hv (by simp [HL3.out, HL7.out]) hzl).trans (by simp [rec, snc]))
  have HI10 := Lib.hid hI10
  have HS10 := Lib.hid (HS9.out.trans (hS10.lower HS9.out.size))
  have hRs := HS10.out.size
  have HNT : Hid (∀ cs f, w9.heap[X]? ≠ some (.cells cs 3 f)) := Lib.hid (hb.noT (by decide))
  clear hI10 hS10 hv hzl
  have HOK : Hid ((⟨v0, v1, v2, v3, v4, ⟨v5, v6, v7, v8⟩, v9⟩ : Re).ok) := Lib.hid ⟨hk3, hk9⟩
  have HCL : Hid ((rec re0).length = (rec (⟨v0, v1, v2, v3, v4, ⟨v5, v6, v7, v8⟩, v9⟩ : Re)).length) := Lib.hid ((rec_length re0_ok).trans (rec_length (x := (⟨v0, v1, v2, v3, v4, ⟨v5, v6, v7, v8⟩, v9⟩ : Re)) HOK.out).symm)
  have IX : Hid ((Tryz.prog.info? 51).map (·.size) = some (rec (⟨v0, v1, v2, v3, v4, ⟨v5, v6, v7, v8⟩, v9⟩ : Re)).length) := Lib.hid (by rw [← HCL.out]; exact IZ.out)
  have HOX : Hid (∀ v ∈ rec (⟨v0, v1, v2, v3, v4, ⟨v5, v6, v7, v8⟩, v9⟩ : Re), v.oneCell' = true) := Lib.hid (rec_one _)
  go_wp2_with (first
    | ((with_reducible refine wpList_storeM (o := ⟨none, .store 49 (.tmp 40) (.tmp 39), _, _, _, _⟩) ?_ X 52 49 (.tmp 40) (.tmp 39) ?_ ?_ ?_ hb FT9.out IF9.out ON9.out ?_); rfl; rfl; rfl; rfl; intro y9 hb9 hgs9 hzs9; rw [SP9.out] at hb9; have hR := hR.grown hgs9 (fun e => by injection e with e; omega))
    | ((with_reducible refine wpList_loadB (o := ⟨some 41, _, _, _, _, _⟩) ?_ 51 (.tmp 3) ?_ ?_ hb9 Tryz.underlying51 ?_ IX.out ?_); rfl; rfl; rfl; rfl)
    | ((with_reducible refine wpList_storeB (o := ⟨none, .store 51 (.tmp 2) (.tmp 41), _, _, _, _⟩) ?_ 51 (.tmp 2) (.tmp 41) ?_ ?_ ?_ hR IX.out HCL.out HOX.out ?_); rfl; rfl; rfl; rfl; intro wz hbz hgz hzz))
  have hK : KpT 3 w9 wz := (KpT.grown hgs9 (fun i e => by cases e; exact HNT.out)).trans (KpT.grown hgz (fun i e => by cases e; exact hR.noT (by decide)))
  have HO3 := Lib.hid (En.own_keep HO3.out (hK))
  have HO7 := Lib.hid (Co.own_keep HO7.out (hK))
  apply bodyPost_ret
  exact results_blk rfl _ _ _ _ _ _ rfl hbz Tryz.underlying51 rfl IX.out
  rfl
  have hI := HI10.out.stp (K := fun i => g < i) (((Stp.refl (fun i => g < i) _ _).grown hgs9 (Nat.le_refl _) (fun i e => by cases e; exact .inl hgX)).grown hgz (by omega) (fun i e => by cases e; exact .inl hlt)) (fun i e => e)
  have hS := (HS10.out.grown hgs9 HS10.out.size (fun i e => by cases e; exact .inr (by omega))).grown hgz (by omega) (fun i e => by cases e; exact .inr (Nat.le_refl _))
  have hc := chain_Record s _ _ _ _ _ _ _ _ _ _ HG0.out HG1.out HG2.out HG3.out HG4.out HG5.out HG6.out HG7.out HG8.out HG9.out
  exact ⟨_, HOK.out, hc.1, rfl, ⟨HO3.out, HO7.out⟩, hc.2 ▸ hI, hS⟩
end
/-! The reference's GetEntry and GetRecord of layer 8 (written by gen_in4.py). -/
section
open Go.RowKit
set_option maxRecDepth 100000

set_option maxHeartbeats 1000000 in
theorem getEntryR_any (w : World) (a : Option Addr) (n c : Nat) (l : List UInt8) (hr : Rd w a n c l) :
    Calls Tryz.prog 8 #[.slice a n c] w (GetP_entry w l) := by
  have HR := Lib.hid hr
  have HBI : Hid (Tryz.prog.built 74 [(0, .slice a n c)] = some ([.slice a n c, .bool false] : List Value).toArray) := Lib.hid (built_in a n c)
  have HBZ : Hid (Tryz.prog.built 38 [] = some (enc en0).toArray) := Lib.hid built_Entry
  have IZ : Hid ((Tryz.prog.info? 38).map (·.size) = some (enc en0).length) := Lib.hid (by rw [enc_length en0_ok]; exact info_entry)
  have HOZ : Hid (∀ v ∈ enc en0, v.oneCell' = true) := Lib.hid (enc_one _)
  clear hr
  go_enter Tryz.func8, Tryz.ntmps8
  go_wp2_with (first
    | ((with_reducible refine wpList_allocB (o := ⟨some 2, _, _, _, _, _⟩) ?_ 38 ?_ en0_info ?_); rfl; rfl; intro wa hba hga hza)
    | ((with_reducible refine wpList_buildI (dst := some 7) HBI.out ?_ ?_); rfl))
  have hBa : Below w.heap.size w wa := (Below.refl _ w).grown hga (Nat.le_refl _) (by simp)
  have hI := Blk.new wa 74 [.slice a n c, .bool false]
  have hB1 : Below w.heap.size w (wa.alloc (.cells ([.slice a n c, .bool false] : List Value).toArray 74)) := hBa.alloc hBa.size _
  have hba := hba.alloc (.cells ([.slice a n c, .bool false] : List Value).toArray 74)
  rw [hza] at hI
  have hI1 := In1.start HR.out hB1 (by omega) hI
  generalize hW : wa.alloc (.cells ([.slice a n c, .bool false] : List Value).toArray 74) = w1 at *
  have hgR : w.heap.size < w.heap.size + 1 := by omega
  generalize hX : w.heap.size + 1 = g at *
  clear hga hza hBa hI hW hX
  refine (in_Entry a n c l g w1 (some l) hI1).mono ?_
  rintro e w2 ⟨v, hvk, hvg, rfl, hO, hI2, hS2⟩
  have hba := hba.stp hS2 hba.lt (by omega)
  have hO := En.own_lower hO hB1.size
  have HO2 := Lib.hid hO
  clear hO
  have HB2 : Hid (Below w.heap.size w w2) := Lib.hid (hB1.trans (hS2.below hB1.size (fun i e => by omega)))
  have HI2 := Lib.hid hI2
  have IX : Hid ((Tryz.prog.info? 38).map (·.size) = some (enc v).length) := Lib.hid (by rw [enc_length hvk]; exact info_entry)
  have HLX : Hid ((enc en0).length = (enc v).length) := Lib.hid (by rw [enc_length hvk, enc_length en0_ok])
  have HOX : Hid (∀ u ∈ enc v, u.oneCell' = true) := Lib.hid (enc_one _)
  have HF : Hid ((allIn (nx gE (some l)) = true → gEn l = (v.cl, 0)) ∧ (allIn (nx gE (some l)) = false → gEn l = (en0, 60))) := by
    refine Lib.hid ?_
    unfold gEn nx
    rw [Option.bind_some]
    rcases eg : gE l with _ | ⟨x, l'⟩
    · exact ⟨fun h => (by cases h), fun _ => rfl⟩
    · have hx := hvg l (x, l') rfl eg
      simp only at hx
      rw [← hx]
      cases l' with
      | nil => exact ⟨fun _ => rfl, fun h => (by cases h)⟩
      | cons y l' => exact ⟨fun h => (by cases h), fun _ => rfl⟩
  have HGP : Hid (∀ W (x : En) y, gEn l = (x.cl, y) → x.ok → En.own W w.heap.size x → Below w.heap.size w W → GetP_entry w l (.returned (.tuple #[.agg (enc x).toArray, .int .i64 y])) W) := Lib.hid (fun W x y e hk ho h => by unfold GetP_entry; rw [e]; exact ⟨x, rfl, hk, rfl, ho, h⟩)
  clear hI1 hI2 hS2 hvg hB1
  go_wp2_with (first
    | ((with_reducible refine wpList_allocB (o := ⟨some 5, _, _, _, _, _⟩) ?_ 38 ?_ en0_info ?_); rfl; rfl; intro wc hbc hgc hzc)
    | ((with_reducible refine wpList_storeB (o := ⟨none, .store 38 (.tmp 5) (.tmp 10), _, _, _, _⟩) ?_ 38 (.tmp 5) (.tmp 10) ?_ ?_ ?_ hbc IX.out HLX.out HOX.out ?_); rfl; rfl; rfl; rfl; intro wd hbd hgd hzd))
  have hB24 : Below w2.heap.size w2 wd := ((Below.refl _ w2).grown hgc (Nat.le_refl _) (by simp)).grown hgd (by omega) (fun k e => by cases e; exact Nat.le_refl _)
  have hI4 := HI2.out.below hB24
  have hba := hba.below hB24
  have HO4 := Lib.hid (En.own_keep HO2.out (KpT.below hB24))
  have HB4 := Lib.hid (HB2.out.trans (hB24.mono HB2.out.size))
  clear hbc hgc hzc hgd hzd hB24
  refine (whole_any a n c l g wd _ hI4).mono ?_
  rintro e w5 ⟨rfl, rfl⟩
  clear hI4
  cases hq : allIn (nx gE (some l))
  · have he := HF.out.2 hq
    go_wp2_with (first
      | ((with_reducible refine wpList_buildI (dst := some 14) HBZ.out ?_ ?_); rfl)
      | ((with_reducible refine wpList_storeB (o := ⟨none, .store 38 (.tmp 2) (.tmp 14), _, _, _, _⟩) ?_ 38 (.tmp 2) (.tmp 14) ?_ ?_ ?_ hba IZ.out rfl HOZ.out ?_); rfl; rfl; rfl; rfl; intro wz hbz hgz hzz))
    apply bodyPost_ret
    exact results_blk2 rfl _ _ _ _ _ _ rfl hbz Tryz.underlying38 rfl IZ.out
    rfl
    exact HGP.out _ en0 _ he en0_ok ⟨OwnG.nil0 _ _, OwnG.nil0 _ _⟩ (HB4.out.grown hgz HB4.out.size (fun k e => by cases e; exact Nat.le_refl _))
  · have he := HF.out.1 hq
    go_wp2_with (first
      | ((with_reducible refine wpList_loadB (o := ⟨some 15, _, _, _, _, _⟩) ?_ 38 (.tmp 5) ?_ ?_ hbd Tryz.underlying38 ?_ IX.out ?_); rfl; rfl; rfl; rfl)
      | ((with_reducible refine wpList_storeB (o := ⟨none, .store 38 (.tmp 2) (.tmp 15), _, _, _, _⟩) ?_ 38 (.tmp 2) (.tmp 15) ?_ ?_ ?_ hba IX.out HLX.out HOX.out ?_); rfl; rfl; rfl; rfl; intro wz hbz hgz hzz))
    apply bodyPost_ret
    exact results_blk2 rfl _ _ _ _ _ _ rfl hbz Tryz.underlying38 rfl IX.out
    rfl
    exact HGP.out _ v _ he hvk (En.own_keep HO4.out (KpT.grown hgz (fun i e => by cases e; exact hba.noT (by decide)))) (HB4.out.grown hgz HB4.out.size (fun k e => by cases e; exact Nat.le_refl _))

set_option maxHeartbeats 1000000 in
theorem getRecordR_any (w : World) (a : Option Addr) (n c : Nat) (l : List UInt8) (hr : Rd w a n c l) :
    Calls Tryz.prog 12 #[.slice a n c] w (GetP_record w l) := by
  have HR := Lib.hid hr
  have HBI : Hid (Tryz.prog.built 74 [(0, .slice a n c)] = some ([.slice a n c, .bool false] : List Value).toArray) := Lib.hid (built_in a n c)
  have HBZ : Hid (Tryz.prog.built 51 [] = some (rec re0).toArray) := Lib.hid built_Record
  have IZ : Hid ((Tryz.prog.info? 51).map (·.size) = some (rec re0).length) := Lib.hid (by rw [rec_length re0_ok]; exact info_record)
  have HOZ : Hid (∀ v ∈ rec re0, v.oneCell' = true) := Lib.hid (rec_one _)
  clear hr
  go_enter Tryz.func12, Tryz.ntmps12
  go_wp2_with (first
    | ((with_reducible refine wpList_allocB (o := ⟨some 2, _, _, _, _, _⟩) ?_ 51 ?_ re0_info ?_); rfl; rfl; intro wa hba hga hza)
    | ((with_reducible refine wpList_buildI (dst := some 7) HBI.out ?_ ?_); rfl))
  have hBa : Below w.heap.size w wa := (Below.refl _ w).grown hga (Nat.le_refl _) (by simp)
  have hI := Blk.new wa 74 [.slice a n c, .bool false]
  have hB1 : Below w.heap.size w (wa.alloc (.cells ([.slice a n c, .bool false] : List Value).toArray 74)) := hBa.alloc hBa.size _
  have hba := hba.alloc (.cells ([.slice a n c, .bool false] : List Value).toArray 74)
  rw [hza] at hI
  have hI1 := In1.start HR.out hB1 (by omega) hI
  generalize hW : wa.alloc (.cells ([.slice a n c, .bool false] : List Value).toArray 74) = w1 at *
  have hgR : w.heap.size < w.heap.size + 1 := by omega
  generalize hX : w.heap.size + 1 = g at *
  clear hga hza hBa hI hW hX
  refine (in_Record a n c l g w1 (some l) hI1).mono ?_
  rintro e w2 ⟨v, hvk, hvg, rfl, hO, hI2, hS2⟩
  have hba := hba.stp hS2 hba.lt (by omega)
  have hO := Re.own_lower hO hB1.size
  have HO2 := Lib.hid hO
  clear hO
  have HB2 : Hid (Below w.heap.size w w2) := Lib.hid (hB1.trans (hS2.below hB1.size (fun i e => by omega)))
  have HI2 := Lib.hid hI2
  have IX : Hid ((Tryz.prog.info? 51).map (·.size) = some (rec v).length) := Lib.hid (by rw [rec_length hvk]; exact info_record)
  have HLX : Hid ((rec re0).length = (rec v).length) := Lib.hid (by rw [rec_length hvk, rec_length re0_ok])
  have HOX : Hid (∀ u ∈ rec v, u.oneCell' = true) := Lib.hid (rec_one _)
  have HF : Hid ((allIn (nx gR (some l)) = true → gRe l = (v.cl, 0)) ∧ (allIn (nx gR (some l)) = false → gRe l = (re0, 60))) := by
    refine Lib.hid ?_
    unfold gRe nx
    rw [Option.bind_some]
    rcases eg : gR l with _ | ⟨x, l'⟩
    · exact ⟨fun h => (by cases h), fun _ => rfl⟩
    · have hx := hvg l (x, l') rfl eg
      simp only at hx
      rw [← hx]
      cases l' with
      | nil => exact ⟨fun _ => rfl, fun h => (by cases h)⟩
      | cons y l' => exact ⟨fun h => (by cases h), fun _ => rfl⟩
  have HGP : Hid (∀ W (x : Re) y, gRe l = (x.cl, y) → x.ok → Re.own W w.heap.size x → Below w.heap.size w W → GetP_record w l (.returned (.tuple #[.agg (rec x).toArray, .int .i64 y])) W) := Lib.hid (fun W x y e hk ho h => by unfold GetP_record; rw [e]; exact ⟨x, rfl, hk, rfl, ho, h⟩)
  clear hI1 hI2 hS2 hvg hB1
  go_wp2_with (first
    | ((with_reducible refine wpList_allocB (o := ⟨some 5, _, _, _, _, _⟩) ?_ 51 ?_ re0_info ?_); rfl; rfl; intro wc hbc hgc hzc)
    | ((with_reducible refine wpList_storeB (o := ⟨none, .store 51 (.tmp 5) (.tmp 10), _, _, _, _⟩) ?_ 51 (.tmp 5) (.tmp 10) ?_ ?_ ?_ hbc IX.out HLX.out HOX.out ?_); rfl; rfl; rfl; rfl; intro wd hbd hgd hzd))
  have hB24 : Below w2.heap.size w2 wd := ((Below.refl _ w2).grown hgc (Nat.le_refl _) (by simp)).grown hgd (by omega) (fun k e => by cases e; exact Nat.le_refl _)
  have hI4 := HI2.out.below hB24
  have hba := hba.below hB24
  have HO4 := Lib.hid (Re.own_keep HO2.out (KpT.below hB24))
  have HB4 := Lib.hid (HB2.out.trans (hB24.mono HB2.out.size))
  clear hbc hgc hzc hgd hzd hB24
  refine (whole_any a n c l g wd _ hI4).mono ?_
  rintro e w5 ⟨rfl, rfl⟩
  clear hI4
  cases hq : allIn (nx gR (some l))
  · have he := HF.out.2 hq
    go_wp2_with (first
      | ((with_reducible refine wpList_buildI (dst := some 14) HBZ.out ?_ ?_); rfl)
      | ((with_reducible refine wpList_storeB (o := ⟨none, .store 51 (.tmp 2) (.tmp 14), _, _, _, _⟩) ?_ 51 (.tmp 2) (.tmp 14) ?_ ?_ ?_ hba IZ.out rfl HOZ.out ?_); rfl; rfl; rfl; rfl; intro wz hbz hgz hzz))
    apply bodyPost_ret
    exact results_blk2 rfl _ _ _ _ _ _ rfl hbz Tryz.underlying51 rfl IZ.out
    rfl
    exact HGP.out _ re0 _ he re0_ok ⟨⟨OwnG.nil0 _ _, OwnG.nil0 _ _⟩, ⟨OwnG.nil0 _ _, OwnG.nil0 _ _⟩⟩ (HB4.out.grown hgz HB4.out.size (fun k e => by cases e; exact Nat.le_refl _))
  · have he := HF.out.1 hq
    go_wp2_with (first
      | ((with_reducible refine wpList_loadB (o := ⟨some 15, _, _, _, _, _⟩) ?_ 51 (.tmp 5) ?_ ?_ hbd Tryz.underlying51 ?_ IX.out ?_); rfl; rfl; rfl; rfl)
      | ((with_reducible refine wpList_storeB (o := ⟨none, .store 51 (.tmp 2) (.tmp 15), _, _, _, _⟩) ?_ 51 (.tmp 2) (.tmp 15) ?_ ?_ ?_ hba IX.out HLX.out HOX.out ?_); rfl; rfl; rfl; rfl; intro wz hbz hgz hzz))
    apply bodyPost_ret
    exact results_blk2 rfl _ _ _ _ _ _ rfl hbz Tryz.underlying51 rfl IX.out
    rfl
    exact HGP.out _ v _ he hvk (Re.own_keep HO4.out (KpT.grown hgz (fun i e => by cases e; exact hba.noT (by decide)))) (HB4.out.grown hgz HB4.out.size (fun k e => by cases e; exact Nat.le_refl _))
end
end Go.Proofs.YtoclahcibilbhaaGreat
