/-
  WirI8 WirI9 WirIA WirIB, in one text.
-/
import Derived.Test.YtoclahcibilbhaaGreatWirI5
import Derived.Test.YtoclahcibilbhaaGreatWirY2
import Derived.Test.YtoclahcibilbhaaGreatWirPD
import Derived.Deep.CutBlock
namespace Go.Proofs.YtoclahcibilbhaaGreat
/-! The reference's reader of layer 8: a list of users: what is known on the way. -/
section
open Go.RowKit
set_option maxRecDepth 100000
theorem built_ux00 : Tryz.prog.built 97 [] = some (uxc ux0).toArray := by kernel_rfl
theorem built_vn0 : Tryz.prog.built 103 [] = some (vc vn0).toArray := by kernel_rfl
theorem ux0_infoI : (Tryz.prog.info? 97).map (fun i => (i.zero, i.size)) = some (some (.agg (uxc ux0).toArray), 2) := by kernel_rfl
theorem vn0_infoI : (Tryz.prog.info? 103).map (fun i => (i.zero, i.size)) = some (some (.agg (vc vn0).toArray), 3) := by kernel_rfl

/-- the reader's own frame and what it keeps -/
structure UsAt (a0 : Option Addr) (n0 c0 : Nat) (l0 : List UInt8) (g : Nat) (w W : World) (s : Option (List UInt8)) (us : List Ux) (a : Option Addr) (c : Nat) : Prop where
  own : OwnG usR W w.heap.size (.slice a us.length c) us
  each : ∀ u ∈ us, Ux.own W w.heap.size u
  got_ : got (manyG gU us.length) s (us.map Ux.cl)
  st : In1 a0 n0 c0 l0 g W (nx (manyG gU us.length) s)
  stp : Stp (fun i => i = g) w.heap.size w W
  gl : g < w.heap.size
/-- a user under way in block U: its name, and as many versions as vs holds -/
structure VsAt (a0 : Option Addr) (n0 c0 : Nat) (l0 : List UInt8) (g U : Nat) (w W : World) (s : Option (List UInt8)) (us : List Ux) (a : Option Addr) (c : Nat) (nm : ByteArray) (vs : List Vn) (va : Option Addr) (vc' : Nat) : Prop where
  own : OwnG usR W w.heap.size (.slice a us.length c) us
  each : ∀ u ∈ us, Ux.own W w.heap.size u
  blk : Blk W U 97 (uxc ⟨nm, vs, va, vc'⟩)
  ownv : OwnG verR W U (.slice va vs.length vc') vs
  got_ : got (manyG gV vs.length) s vs
  st : In1 a0 n0 c0 l0 g W (nx (manyG gV vs.length) s)
  stp : Stp (fun i => i = g) w.heap.size w W
  gl : g < w.heap.size
  ul : w.heap.size ≤ U
  lt : ∀ x, (Value.slice a us.length c).ownBlock = some x → x < U
  eachlt : ∀ u ∈ us, ∀ x, (Value.slice u.vsa u.vs.length u.vsc).ownBlock = some x → x < U
section
variable {a0 : Option Addr} {n0 c0 : Nat} {l0 : List UInt8} {g U : Nat} {w W W1 W2 W3 : World} {s : Option (List UInt8)} {us : List Ux} {vs : List Vn} {a va : Option Addr} {c vc' : Nat} {nm : ByteArray}
/-- a user and a version: what the fields' chains say -/
theorem chain_V (s : Option (List UInt8)) (v0 v1 : Int) (v2 : ByteArray) (h0 : got gN s v0) (h1 : got gN (nx gN s) v1) (h2 : got gT (nx gN (nx gN s)) v2) : got gV s ⟨v0, v1, v2⟩ ∧ nx gV s = nx gT (nx gN (nx gN s)) := by
  rcases s with _ | l
  · exact ⟨fun _ _ e _ => (by cases e), rfl⟩
  rcases e0 : gN l with _ | p0
  · exact ⟨fun a p i1 i2 => (by cases i1; simp [gV, e0] at i2), by simp [nx, gV, e0]⟩
  have q0 := h0 l p0 rfl e0
  rcases e1 : gN p0.2 with _ | p1
  · exact ⟨fun a p i1 i2 => (by cases i1; simp [gV, e0, e1] at i2), by simp [nx, gV, e0, e1]⟩
  have q1 := h1 p0.2 p1 (by simp [nx, e0]) e1
  rcases e2 : gT p1.2 with _ | p2
  · exact ⟨fun a p i1 i2 => (by cases i1; simp [gV, e0, e1, e2] at i2), by simp [nx, gV, e0, e1, e2]⟩
  have q2 := h2 p1.2 p2 (by simp [nx, e0, e1]) e2
  exact ⟨fun a p i1 i2 => (by cases i1; simp [gV, e0, e1, e2, q0, q1, q2] at i2; rw [← i2]), by simp [nx, gV, e0, e1, e2]⟩
theorem chain_U (s : Option (List UInt8)) (nm : ByteArray) (vs : List Vn) (h0 : got gT s nm) (h1 : got (gL gV) (nx gT s) vs) : got gU s ⟨nm, vs, none, 0⟩ ∧ nx gU s = nx (gL gV) (nx gT s) := by
  rcases s with _ | l
  · exact ⟨fun _ _ e _ => (by cases e), rfl⟩
  rcases e0 : gT l with _ | p0
  · exact ⟨fun a p i1 i2 => (by cases i1; simp [gU, e0] at i2), by simp [nx, gU, e0]⟩
  have q0 := h0 l p0 rfl e0
  rcases e1 : gL gV p0.2 with _ | p1
  · exact ⟨fun a p i1 i2 => (by cases i1; simp [gU, e0, e1] at i2), by simp [nx, gU, e0, e1]⟩
  have q1 := h1 p0.2 p1 (by simp [nx, e0]) e1
  exact ⟨fun a p i1 i2 => (by cases i1; simp [gU, e0, e1, q0, q1] at i2; rw [← i2]), by simp [nx, gU, e0, e1]⟩
/-- below the frame nothing but the reader changes: what is kept -/
theorem VsAt.keep (h : VsAt a0 n0 c0 l0 g U w W s us a c nm vs va vc') (hS : Stp (fun i => i = g) W.heap.size W W1) {s1 : Option (List UInt8)} (hs : In1 a0 n0 c0 l0 g W1 s1) :
    OwnG usR W1 w.heap.size (.slice a us.length c) us ∧ (∀ u ∈ us, Ux.own W1 w.heap.size u) ∧ Blk W1 U 97 (uxc ⟨nm, vs, va, vc'⟩) ∧ OwnG verR W1 U (.slice va vs.length vc') vs ∧ Stp (fun i => i = g) w.heap.size w W1 := by
  have _ := hs
  have k1 : KpT 97 W W1 := KpT.stp hS (fun i e => by subst e; exact h.st.noT (by decide))
  have k2 : KpT 103 W W1 := KpT.stp hS (fun i e => by subst e; exact h.st.noT (by decide))
  exact ⟨h.own.kpT k1, fun u hu => Ux.own_keep (h.each u hu) k2, h.blk.stp hS h.blk.lt (by have := h.ul; have := h.gl; omega), h.ownv.kpT k2, h.stp.trans (hS.lower h.stp.size)⟩
theorem VsAt.step (h : VsAt a0 n0 c0 l0 g U w W s us a c nm vs va vc') {x : Vn} (hS : Stp (fun i => i = g) W.heap.size W W1) (hst : In1 a0 n0 c0 l0 g W1 (nx gV (nx (manyG gV vs.length) s))) (hx : got gV (nx (manyG gV vs.length) s) x)
    (hB : Below W1.heap.size W1 W2) {a' : Option Addr} {c' : Nat} (hO : OwnG verR W3 U (.slice a' (vs.length + 1) c') (vs ++ [x])) (hg : W2.grownBy W3 (Value.slice va vs.length vc').ownBlock) :
    VsAt a0 n0 c0 l0 g U w (W3.setCell ⟨U, 1, none⟩ (.slice a' (vs.length + 1) c')) s us a c nm (vs ++ [x]) a' c' := by
  obtain ⟨k1, k2, k3, k4, k5⟩ := h.keep hS hst
  have hm := many_nx h.got_ hx
  have hlt : ∀ i, (Value.slice va vs.length vc').ownBlock = some i → U ≤ i := fun i e => (h.ownv.lt e).1
  have hgs := set_grown W3 U 1 (.slice a' (vs.length + 1) c')
  have hlen : (vs ++ [x]).length = vs.length + 1 := by simp
  have hgU : g < U := Nat.lt_of_lt_of_le h.gl h.ul
  have hbU := (k3.below hB).grown hg (fun e => (k4.below hB).noT (T := 97) (by decide) _ e _ _ (k3.below hB).at_)
  refine ⟨((k1.below hB).kept hg (fun i e q => ?_)).kept hgs (fun i e q => ?_), fun u hu => ?_, ?_, ?_, by rw [hlen]; exact hm.2, ?_, ?_, h.gl, h.ul, h.lt, h.eachlt⟩
  · have := h.lt i e; have := hlt i q; omega
  · have := h.lt i e; injection q with q; omega
  · have hu0 : OwnG verR W1 w.heap.size (.slice u.vsa u.vs.length u.vsc) u.vs := k2 u hu
    exact ((hu0.below hB).kept hg (fun i e q => by have := h.eachlt u hu i e; have := hlt i q; omega)).kept hgs (fun i e q => by have := h.eachlt u hu i e; injection q with q; omega)
  · have := hbU.set 1 (.slice a' (vs.length + 1) c')
    simpa [uxc] using this
  · rw [hlen]
    exact hO.kpT (KpT.grown hgs (fun i e => by cases e; exact hbU.noT (by decide)))
  · rw [hlen, hm.1]
    exact (hst.below hB).stp (K := fun i => g < i) (((Stp.refl _ _ _).grown hg (Nat.le_refl _) (fun i e => .inl (by have := hlt i e; omega))).grown hgs hg.size (fun i e => by cases e; exact .inl hgU)) (fun i e => e)
  · have hS2 := k5.trans (Stp.of (hB.mono k5.size))
    exact (hS2.grown hg hS2.size (fun i e => .inr (Nat.le_trans h.ul (hlt i e)))).grown hgs (Nat.le_trans hS2.size hg.size) (fun i e => by cases e; exact .inr h.ul)
/-- the user is whole: it is appended -/
theorem VsAt.done {s0 : Option (List UInt8)} (h : VsAt a0 n0 c0 l0 g U w W s us a c nm vs va vc') (hgot : got (manyG gU us.length) s0 (us.map Ux.cl)) (hx : got gU (nx (manyG gU us.length) s0) ⟨nm, vs, none, 0⟩) (hst : In1 a0 n0 c0 l0 g W (nx gU (nx (manyG gU us.length) s0)))
    (hB : Below W.heap.size W W2) {a' : Option Addr} {c' : Nat} (hO : OwnG usR W3 w.heap.size (.slice a' (us.length + 1) c') (us ++ [⟨nm, vs, va, vc'⟩])) (hg : W2.grownBy W3 (Value.slice a us.length c).ownBlock) :
    UsAt a0 n0 c0 l0 g w W3 s0 (us ++ [⟨nm, vs, va, vc'⟩]) a' c' := by
  have hm := many_nx hgot hx
  have hlen : (us ++ [(⟨nm, vs, va, vc'⟩ : Ux)]).length = us.length + 1 := by simp
  have hlt : ∀ i, (Value.slice a us.length c).ownBlock = some i → w.heap.size ≤ i := fun i e => (h.own.lt e).1
  have kv : KpT 103 W W3 := (KpT.below hB).trans (KpT.grown hg (fun i e => (h.own.below hB).noT (by decide) i e))
  refine ⟨by rw [hlen]; exact hO, fun u hu => ?_, by rw [hlen, List.map_append]; exact hm.2, ?_, ?_, h.gl⟩
  · rcases List.mem_append.1 hu with hu | hu
    · exact Ux.own_keep (h.each u hu) kv
    · simp only [List.mem_singleton] at hu
      subst hu
      exact (h.ownv.lower h.ul).kpT kv
  · rw [hlen, hm.1]
    exact (hst.below hB).stp (K := fun i => g < i) ((Stp.refl _ _ _).grown hg (Nat.le_refl _) (fun i e => .inl (by have := hlt i e; have := h.gl; omega))) (fun i e => e)
  · have hS2 := h.stp.trans (Stp.of (hB.mono h.stp.size))
    exact hS2.grown hg hS2.size (fun i e => .inr (hlt i e))
end
end
/-! The reference's reader of layer 8: a list of users. -/
section
open Go.RowKit
set_option maxRecDepth 100000

set_option maxHeartbeats 8000000 in
theorem in_users (a0 : Option Addr) (n0 c0 : Nat) (l0 : List UInt8) (g : Nat) (w : World) (s : Option (List UInt8)) (hI : In1 a0 n0 c0 l0 g w s) :
    Calls Tryz.prog 83 #[.pointer (some ⟨g, 0, none⟩)] w fun e w' => ∃ (us : List Ux) (a : Option Addr) (c : Nat), got (gL gU) s (us.map Ux.cl) ∧ e = .returned (.slice a us.length c) ∧ OwnG usR w' w.heap.size (.slice a us.length c) us ∧ (∀ u ∈ us, Ux.own w' w.heap.size u) ∧ us.length ≤ 4096 ∧ In1 a0 n0 c0 l0 g w' (nx (gL gU) s) ∧ Stp (fun i => i = g) w.heap.size w w' := by
  have HI := Lib.hid hI
  have HBU := Lib.hid built_ux00
  have HBV := Lib.hid built_vn0
  have IU : Hid ((Tryz.prog.info? 97).map (·.size) = some (uxc ux0).length) := Lib.hid (by kernel_rfl)
  have OU : Hid (∀ v ∈ uxc ux0, v.oneCell' = true) := Lib.hid (by intro v hv; simp [uxc] at hv; rcases hv with rfl | rfl <;> rfl)
  have IV : Hid ((Tryz.prog.info? 103).map (·.size) = some (vc vn0).length) := Lib.hid (by kernel_rfl)
  have OV : Hid (∀ v ∈ vc vn0, v.oneCell' = true) := Lib.hid (vc_one _)
  clear hI
  go_enter Tryz.func83, Tryz.ntmps83
  go_wp2_with fail
  refine (in_many a0 n0 c0 l0 g w s HI.out).mono ?_
  rintro e w1 ⟨v, ⟨hv0, hv1⟩, hvg, hvn, rfl, hI1, hS1⟩
  obtain ⟨k, rfl⟩ := Int.eq_ofNat_of_zero_le hv0
  have HG := Lib.hid (gL_nx (f := gU) hvg)
  rw [Int.toNat_natCast] at HG
  have hz0 : nx (manyG gU 0) (nx gM s) = nx gM s := by cases nx gM s <;> rfl
  have HST : Hid (UsAt a0 n0 c0 l0 g w w1 (nx gM s) [] none 0) := Lib.hid ⟨OwnG.nil0 _ _, (fun u hu => by simp at hu), fun l p _ e2 => (by cases e2; rfl), (by show In1 _ _ _ _ _ _ (nx (manyG gU 0) (nx gM s)); rw [hz0]; exact hI1), hS1, HI.out.lt⟩
  clear hz0 hvg hvn hI1 hS1 hv0 HI
  go_wp2_with fail
  go_loopw [3, 5] (fun sl i wr => ∃ (us : List Ux) (a : Option Addr) (c : Nat), us.length ≤ k ∧ i = .int .i64 (us.length : Int) ∧ sl = .slice a us.length c ∧ Hid (UsAt a0 n0 c0 l0 g w wr (nx gM s) us a c)) (fun _ i _ => k - (intOf i).toNat)
  case atStart => exact ⟨[], none, 0, by simp, rfl, rfl, HST⟩
  case round =>
    clear HST
    obtain ⟨us, a, c, hj, rfl, rfl, HA⟩ := hrel
    obtain ⟨bad, l, hI, hlf⟩ := HA.out.st
    obtain ⟨a3, n3, c3, hb3, _⟩ := hI.blk
    have hc1 := hb3.cell (j := 1) rfl
    generalize hjz : us.length = j at *
    have HJ := Lib.hid hjz
    clear hjz
    by_cases hjk : j < k
    · have hjki : (j : Int) < (k : Int) := by omega
      cases bad
      · clear hlf hI hb3
        go_wp2_with (first
          | ((with_reducible refine wpList_buildI (dst := some 25) HBU.out ?_ ?_); rfl)
          | ((with_reducible refine wpList_allocB (o := ⟨some 6, _, _, _, _, _⟩) ?_ 97 ?_ ux0_infoI ?_); rfl; rfl; intro wa hba hga hza)
          | ((with_reducible refine wpList_storeB (o := ⟨none, .store 97 (.tmp 6) (.tmp 25), _, _, _, _⟩) ?_ 97 (.tmp 6) (.tmp 25) ?_ ?_ ?_ hba IU.out rfl OU.out ?_); rfl; rfl; rfl; rfl; intro wb hb hgb hzb))
        have hSb : Stp (fun i => i = g) wr.heap.size wr wb := ((Stp.refl _ _ _).grown hga (Nat.le_refl _) (by simp)).grown hgb (by omega) (fun k e => by cases e; exact .inr (Nat.le_refl _))
        have hIb := HA.out.st.below (((Below.refl _ wr).grown hga (Nat.le_refl _) (by simp)).grown hgb (by omega) (fun k e => by cases e; exact Nat.le_refl _))
        have hgU : g < wr.heap.size := Nat.lt_of_lt_of_le HA.out.gl HA.out.stp.size
        have hUl : w.heap.size ≤ wr.heap.size := HA.out.stp.size
        clear hba hga hza hgb hzb hc1
        refine (in_s a0 n0 c0 l0 g wb _ hIb).mono ?_
        rintro e w2 ⟨nm, hgn, rfl, hI2, hS2⟩
        have hb := hb.stp hS2 hb.lt (by omega)
        have hc := hb.cell (j := 0) rfl
        have hf := hb.free 0
        have hb : Blk (w2.setCell ⟨wr.heap.size, 0, none⟩ (.string nm)) wr.heap.size 97 (uxc ⟨nm, [], none, 0⟩) := hb.set 0 (.string nm)
        have hI3 := hI2.stp (K := fun i => i = wr.heap.size) ((Stp.refl _ _ _).set ⟨wr.heap.size, 0, none⟩ (.string nm) (.inl rfl)) (fun i e => by omega)
        have hS3 := (hSb.trans (hS2.lower hSb.size)).set ⟨wr.heap.size, 0, none⟩ (.string nm) (.inr (Nat.le_refl _))
        have HN := Lib.hid hgn
        have HI3 := Lib.hid hI3
        have HS3 := Lib.hid hS3
        have HB3 := Lib.hid hb
        clear hSb hIb hI2 hS2 hb hI3 hS3 hgn
        go_wp2_with fail
        generalize w2.setCell ⟨wr.heap.size, 0, none⟩ (.string nm) = w3 at *
        clear hc hf
        refine (in_many a0 n0 c0 l0 g w3 _ HI3.out).mono ?_
        rintro e w4 ⟨v2, ⟨hm0, hm1⟩, hmg, _, rfl, hI4, hS4⟩
        obtain ⟨m, rfl⟩ := Int.eq_ofNat_of_zero_le hm0
        have HM := Lib.hid (gL_nx (f := gV) hmg)
        rw [Int.toNat_natCast] at HM
        have HS4 := Lib.hid (HS3.out.trans (hS4.lower HS3.out.size))
        have hO4 := HA.out.own.kpT (KpT.stp HS4.out (fun i e => by subst e; exact HA.out.st.noT (by decide)))
        have hE4 : ∀ u ∈ us, Ux.own w4 w.heap.size u := fun u hu => Ux.own_keep (HA.out.each u hu) (KpT.stp HS4.out (fun i e => by subst e; exact HA.out.st.noT (by decide)))
        have hz0 : ∀ q, nx (manyG gV 0) q = q := fun q => by cases q <;> rfl
        have HV0 : Hid (VsAt a0 n0 c0 l0 g wr.heap.size w w4 (nx gM (nx gT (nx (manyG gU us.length) (nx gM s)))) us a c nm [] none 0) := Lib.hid ⟨hO4, hE4, HB3.out.stp hS4 HB3.out.lt (by omega), OwnG.nil0 _ _, fun l p _ e2 => (by cases e2; rfl), (by show In1 _ _ _ _ _ _ (nx (manyG gV 0) _); rw [hz0]; exact hI4), HA.out.stp.trans (HS4.out.lower HA.out.stp.size), HA.out.gl, hUl, fun x e => (HA.out.own.lt e).2, fun u hu x e => (OwnG.lt (HA.out.each u hu) e).2⟩
        clear hz0 hmg hI4 hS4 hO4 hE4 hm0 HI3 HS3 HB3
        go_wp2_with fail
        generalize hUw : wr.heap.size = U at *
        clear hUw
        go_loopw [8] (fun i wv => ∃ (vs : List Vn) (va : Option Addr) (vc' : Nat), vs.length ≤ m ∧ i = .int .i64 (vs.length : Int) ∧ Hid (VsAt a0 n0 c0 l0 g U w wv (nx gM (nx gT (nx (manyG gU us.length) (nx gM s)))) us a c nm vs va vc')) (fun i _ => m - (intOf i).toNat)
        case atStart => exact ⟨[], none, 0, by simp, rfl, HV0⟩
        case round =>
          clear HV0
          obtain ⟨vs, va, vcc, hjm, rfl, HV⟩ := hrel
          obtain ⟨bad2, l2, hI, hlf⟩ := HV.out.st
          obtain ⟨a5, n5, c5, hb5, _⟩ := hI.blk
          have hc1 := hb5.cell (j := 1) rfl
          generalize hjv : vs.length = jv at *
          have HJV := Lib.hid hjv
          clear hjv
          by_cases hjmm : jv < m
          · have hjmi : (jv : Int) < (m : Int) := by omega
            cases bad2
            · clear hlf hI hb5
              go_wp2_with (first
                | ((with_reducible refine wpList_buildI (dst := some 43) HBV.out ?_ ?_); rfl)
                | ((with_reducible refine wpList_allocB (o := ⟨some 9, _, _, _, _, _⟩) ?_ 103 ?_ vn0_infoI ?_); rfl; rfl; intro ya hya hga hza)
                | ((with_reducible refine wpList_storeB (o := ⟨none, .store 103 (.tmp 9) (.tmp 43), _, _, _, _⟩) ?_ 103 (.tmp 9) (.tmp 43) ?_ ?_ ?_ hya IV.out rfl OV.out ?_); rfl; rfl; rfl; rfl; intro yb hyb hgb hzb))
              have hSb : Stp (fun i => i = g) wr.heap.size wr yb := ((Stp.refl _ _ _).grown hga (Nat.le_refl _) (by simp)).grown hgb (by omega) (fun k e => by cases e; exact .inr (Nat.le_refl _))
              have hIb := HV.out.st.below (((Below.refl _ wr).grown hga (Nat.le_refl _) (by simp)).grown hgb (by omega) (fun k e => by cases e; exact Nat.le_refl _))
              have hgV : g < wr.heap.size := Nat.lt_of_lt_of_le HV.out.gl HV.out.stp.size
              clear hya hga hza hgb hzb hc1
              refine (in_n a0 n0 c0 l0 g yb _ hIb).mono ?_
              rintro e y1 ⟨x0, _, hx0, rfl, hI1, hS1⟩
              have hyb := hyb.stp hS1 hyb.lt (by omega)
              have hc := hyb.cell (j := 0) rfl
              have hf := hyb.free 0
              have hyb : Blk (y1.setCell ⟨wr.heap.size, 0, none⟩ (.int .i64 x0)) wr.heap.size 103 (vc ⟨x0, 0, ByteArray.empty⟩) := hyb.set 0 (.int .i64 x0)
              have hI1 := hI1.stp (K := fun i => i = wr.heap.size) ((Stp.refl _ _ _).set ⟨wr.heap.size, 0, none⟩ (.int .i64 x0) (.inl rfl)) (fun i e => by omega)
              have HI1 := Lib.hid hI1
              have HS1 := Lib.hid ((hSb.trans (hS1.lower hSb.size)).set ⟨wr.heap.size, 0, none⟩ (.int .i64 x0) (.inr (Nat.le_refl _)))
              have HX0 := Lib.hid hx0
              have HYB := Lib.hid hyb
              clear hSb hIb hI1 hS1 hx0 hyb
              go_wp2_with fail
              have hyb := HYB.out
              clear hc hf HYB
              generalize y1.setCell ⟨wr.heap.size, 0, none⟩ (.int .i64 x0) = y2 at *
              refine (in_n a0 n0 c0 l0 g y2 _ HI1.out).mono ?_
              rintro e y3 ⟨x1, _, hx1, rfl, hI3, hS3⟩
              have hyb := hyb.stp hS3 hyb.lt (by omega)
              have hc := hyb.cell (j := 1) rfl
              have hf := hyb.free 1
              have hyb : Blk (y3.setCell ⟨wr.heap.size, 1, none⟩ (.int .i64 x1)) wr.heap.size 103 (vc ⟨x0, x1, ByteArray.empty⟩) := hyb.set 1 (.int .i64 x1)
              have hI3 := hI3.stp (K := fun i => i = wr.heap.size) ((Stp.refl _ _ _).set ⟨wr.heap.size, 1, none⟩ (.int .i64 x1) (.inl rfl)) (fun i e => by omega)
              have HI3 := Lib.hid hI3
              have HS3 := Lib.hid ((HS1.out.trans (hS3.lower HS1.out.size)).set ⟨wr.heap.size, 1, none⟩ (.int .i64 x1) (.inr (Nat.le_refl _)))
              have HX1 := Lib.hid hx1
              have HYB := Lib.hid hyb
              clear hI3 hS3 hx1 hyb
              go_wp2_with fail
              have hyb := HYB.out
              clear hc hf HYB
              generalize y3.setCell ⟨wr.heap.size, 1, none⟩ (.int .i64 x1) = y4 at *
              refine (in_s a0 n0 c0 l0 g y4 _ HI3.out).mono ?_
              rintro e y5 ⟨x2, hx2, rfl, hI5, hS5⟩
              have hyb := hyb.stp hS5 hyb.lt (by omega)
              have hc := hyb.cell (j := 2) rfl
              have hf := hyb.free 2
              have hyb : Blk (y5.setCell ⟨wr.heap.size, 2, none⟩ (.string x2)) wr.heap.size 103 (vc ⟨x0, x1, x2⟩) := hyb.set 2 (.string x2)
              have hI5 := hI5.stp (K := fun i => i = wr.heap.size) ((Stp.refl _ _ _).set ⟨wr.heap.size, 2, none⟩ (.string x2) (.inl rfl)) (fun i e => by omega)
              have HCV := Lib.hid (chain_V _ x0 x1 x2 HX0.out HX1.out hx2)
              have HI5 : Hid (In1 a0 n0 c0 l0 g _ (nx gV (nx (manyG gV vs.length) (nx gM (nx gT (nx (manyG gU us.length) (nx gM s))))))) := Lib.hid (HCV.out.2 ▸ hI5)
              have HS5 := Lib.hid ((HS3.out.trans (hS5.lower HS3.out.size)).set ⟨wr.heap.size, 2, none⟩ (.string x2) (.inr (Nat.le_refl _)))
              have HKP := Lib.hid (HV.out.keep HS5.out HI5.out)
              have hcU := HKP.out.2.2.1.cell (j := 1) (v := .slice va vs.length vcc) rfl
              rw [HJV.out] at hcU
              have IW : Hid ((Tryz.prog.info? 103).map (·.size) = some (vc ⟨x0, x1, x2⟩).length) := Lib.hid (by kernel_rfl)
              have HYB := Lib.hid hyb
              clear hI5 hS5 hx2 hyb HX0 HX1 HI1 HS1 HI3 HS3
              have HVK : Hid (verR.ok ⟨x0, x1, x2⟩) := Lib.hid trivial
              have HLV : Hid (vs.length + 1 ≤ 1000000) := Lib.hid (by have := HJV.out; omega)
              go_wp2_with (first
                | ((with_reducible refine wpList_loadB (o := ⟨some 56, _, _, _, _, _⟩) ?_ 103 (.tmp 9) ?_ ?_ HYB.out Tryz.underlying103 ?_ IW.out ?_); rfl; rfl; rfl; rfl)
                | ((with_reducible refine wpList_oneG verR (o := ⟨some 57, _, _, _, _, _⟩) ?_ (.tmp 56) ?_ (y1 := ⟨x0, x1, x2⟩) HVK.out ?_ ?_); rfl; rfl; rfl; generalize y5.setCell ⟨wr.heap.size, 2, none⟩ (.string x2) = y6 at *; have hB7 : Below y6.heap.size y6 (y6.alloc (.cells (verR.cells [(⟨x0, x1, x2⟩ : Vn)]).toArray verR.T)) := (Below.refl _ y6).alloc (Nat.le_refl _) _; have hR7 : RdG verR (y6.alloc (.cells (verR.cells [(⟨x0, x1, x2⟩ : Vn)]).toArray verR.T)) (some ⟨y6.heap.size, 0, none⟩) 1 1 [⟨x0, x1, x2⟩] := RdG.many y6 (Row.all.single trivial) rfl (by decide); have hO7 := HKP.out.2.2.2.1.below hB7; rw [HJV.out] at hO7; have hU7 := HKP.out.2.2.1.below hB7; have hBB7 := Nat.le_of_lt hU7.lt)
                | ((with_reducible refine wpList_appG verR (o := ⟨some 58, _, _, _, _, _⟩) ?_ (.tmp 55) (.tmp 57) ?_ ?_ hO7 ?_ hR7 HLV.out hBB7 ?_); rfl; rfl; rfl; rfl; intro a8 c8 y8 hO8 hg8 hx8; have hU8 := hU7.grown hg8 (fun e => hO7.noT (T := 97) (by decide) _ e _ _ hU7.at_); have hc8 := hU8.cell (j := 1) (v := .slice va vs.length vcc) rfl; have hf8 := hU8.free 1))
              refine ⟨⟨vs ++ [⟨x0, x1, x2⟩], a8, c8, by have := HJV.out; simp; omega, by have := HJV.out; simp; omega, Lib.hid (HV.out.step HS5.out HI5.out HCV.out.1 hB7 hO8 (by rw [HJV.out]; exact hg8))⟩, ?_⟩
              simp only [intOf]
              omega
            · have hn : nx (manyG gV m) (nx gM (nx gT (nx (manyG gU us.length) (nx gM s)))) = none := many_none (k := vs.length) (by rw [HJV.out, ← hlf]; rfl) (by rw [HJV.out]; omega)
              have HF : Hid (got (gL gV) (nx gT (nx (manyG gU us.length) (nx gM s))) vs ∧ nx (gL gV) (nx gT (nx (manyG gU us.length) (nx gM s))) = nx (manyG gV vs.length) (nx gM (nx gT (nx (manyG gU us.length) (nx gM s))))) := Lib.hid ⟨got_none (by rw [HM.out.1, hn]), by rw [HM.out.1, hn, HJV.out, ← hlf]; rfl⟩
              clear hI hb5 hlf hn
              have HCU := Lib.hid (chain_U _ nm vs HN.out HF.out.1)
              have HIf : Hid (In1 a0 n0 c0 l0 g wr (nx gU (nx (manyG gU us.length) (nx gM s)))) := Lib.hid (by rw [HCU.out.2, HF.out.2]; exact HV.out.st)
              have IX : Hid ((Tryz.prog.info? 97).map (·.size) = some (uxc ⟨nm, vs, va, vcc⟩).length) := Lib.hid (by kernel_rfl)
              have hUf := Lib.hid HV.out.blk
              have HUK : Hid (usR.ok ⟨nm, vs, va, vcc⟩) := Lib.hid trivial
              have HLU : Hid (us.length + 1 ≤ 1000000) := Lib.hid (by have := HJ.out; omega)
              go_wp2_with (first
                | ((with_reducible refine wpList_loadB (o := ⟨some 61, _, _, _, _, _⟩) ?_ 97 (.tmp 6) ?_ ?_ hUf.out Tryz.underlying97 ?_ IX.out ?_); rfl; rfl; rfl; rfl)
                | ((with_reducible refine wpList_oneG usR (o := ⟨some 62, _, _, _, _, _⟩) ?_ (.tmp 61) ?_ (y1 := ⟨nm, vs, va, vcc⟩) HUK.out ?_ ?_); rfl; rfl; rfl; have hB7 : Below wr.heap.size wr (wr.alloc (.cells (usR.cells [(⟨nm, vs, va, vcc⟩ : Ux)]).toArray usR.T)) := (Below.refl _ wr).alloc (Nat.le_refl _) _; have hR7 : RdG usR (wr.alloc (.cells (usR.cells [(⟨nm, vs, va, vcc⟩ : Ux)]).toArray usR.T)) (some ⟨wr.heap.size, 0, none⟩) 1 1 [⟨nm, vs, va, vcc⟩] := RdG.many wr (Row.all.single trivial) rfl (by decide); have hO7 := HV.out.own.below hB7; rw [HJ.out] at hO7; have hBB7 := Nat.le_trans HV.out.stp.size hB7.size)
                | ((with_reducible refine wpList_appG usR (o := ⟨some 63, _, _, _, _, _⟩) ?_ (.tmp 60) (.tmp 62) ?_ ?_ hO7 ?_ hR7 HLU.out hBB7 ?_); rfl; rfl; rfl; rfl; intro a9 c9 y9 hO9 hg9 hx9))
              refine ⟨⟨us ++ [⟨nm, vs, va, vcc⟩], a9, c9, by have := HJ.out; simp; omega, by have := HJ.out; simp; omega, by simp, Lib.hid (HV.out.done HA.out.got_ HCU.out.1 HIf.out hB7 hO9 (by rw [HJ.out]; exact hg9))⟩, ?_⟩
              simp only [intOf]
              omega
          · obtain rfl : jv = m := by omega
            have HF : Hid (got (gL gV) (nx gT (nx (manyG gU us.length) (nx gM s))) vs ∧ nx (gL gV) (nx gT (nx (manyG gU us.length) (nx gM s))) = nx (manyG gV vs.length) (nx gM (nx gT (nx (manyG gU us.length) (nx gM s))))) := Lib.hid ⟨HM.out.2 vs (by rw [← HJV.out]; exact HV.out.got_), by rw [HM.out.1, HJV.out]⟩
            clear hI hb5 hlf
            have HCU := Lib.hid (chain_U _ nm vs HN.out HF.out.1)
            have HIf : Hid (In1 a0 n0 c0 l0 g wr (nx gU (nx (manyG gU us.length) (nx gM s)))) := Lib.hid (by rw [HCU.out.2, HF.out.2]; exact HV.out.st)
            have IX : Hid ((Tryz.prog.info? 97).map (·.size) = some (uxc ⟨nm, vs, va, vcc⟩).length) := Lib.hid (by kernel_rfl)
            have hUf := Lib.hid HV.out.blk
            have HUK : Hid (usR.ok ⟨nm, vs, va, vcc⟩) := Lib.hid trivial
            have HLU : Hid (us.length + 1 ≤ 1000000) := Lib.hid (by have := HJ.out; omega)
            go_wp2_with (first
              | ((with_reducible refine wpList_loadB (o := ⟨some 61, _, _, _, _, _⟩) ?_ 97 (.tmp 6) ?_ ?_ hUf.out Tryz.underlying97 ?_ IX.out ?_); rfl; rfl; rfl; rfl)
              | ((with_reducible refine wpList_oneG usR (o := ⟨some 62, _, _, _, _, _⟩) ?_ (.tmp 61) ?_ (y1 := ⟨nm, vs, va, vcc⟩) HUK.out ?_ ?_); rfl; rfl; rfl; have hB7 : Below wr.heap.size wr (wr.alloc (.cells (usR.cells [(⟨nm, vs, va, vcc⟩ : Ux)]).toArray usR.T)) := (Below.refl _ wr).alloc (Nat.le_refl _) _; have hR7 : RdG usR (wr.alloc (.cells (usR.cells [(⟨nm, vs, va, vcc⟩ : Ux)]).toArray usR.T)) (some ⟨wr.heap.size, 0, none⟩) 1 1 [⟨nm, vs, va, vcc⟩] := RdG.many wr (Row.all.single trivial) rfl (by decide); have hO7 := HV.out.own.below hB7; rw [HJ.out] at hO7; have hBB7 := Nat.le_trans HV.out.stp.size hB7.size)
              | ((with_reducible refine wpList_appG usR (o := ⟨some 63, _, _, _, _, _⟩) ?_ (.tmp 60) (.tmp 62) ?_ ?_ hO7 ?_ hR7 HLU.out hBB7 ?_); rfl; rfl; rfl; rfl; intro a9 c9 y9 hO9 hg9 hx9))
            refine ⟨⟨us ++ [⟨nm, vs, va, vcc⟩], a9, c9, by have := HJ.out; simp; omega, by have := HJ.out; simp; omega, by simp, Lib.hid (HV.out.done HA.out.got_ HCU.out.1 HIf.out hB7 hO9 (by rw [HJ.out]; exact hg9))⟩, ?_⟩
            simp only [intOf]
            omega
      · clear hI hb3
        have hn : nx (manyG gU k) (nx gM s) = none := many_none (k := us.length) (by rw [HJ.out, ← hlf]; rfl) (by rw [HJ.out]; omega)
        have HF : Hid (got (gL gU) s (us.map Ux.cl) ∧ nx (gL gU) s = nx (manyG gU us.length) (nx gM s)) := Lib.hid ⟨got_none (by rw [HG.out.1, hn]), by rw [HG.out.1, hn, HJ.out, ← hlf]; rfl⟩
        have HL : Hid (us.length ≤ 4096) := Lib.hid (by have := HJ.out; omega)
        clear hlf hn
        go_wp2_with fail
        go_ret
        exact ⟨us, a, c, HF.out.1, by rw [HJ.out]; rfl, HA.out.own, HA.out.each, HL.out, HF.out.2 ▸ HA.out.st, HA.out.stp⟩
    · obtain rfl : j = k := by omega
      have HF : Hid (got (gL gU) s (us.map Ux.cl) ∧ nx (gL gU) s = nx (manyG gU us.length) (nx gM s)) := Lib.hid ⟨HG.out.2 _ (by rw [← HJ.out]; exact HA.out.got_), by rw [HG.out.1, HJ.out]⟩
      have HL : Hid (us.length ≤ 4096) := Lib.hid (by have := HJ.out; omega)
      clear hI hb3 hlf
      go_wp2_with fail
      go_ret
      exact ⟨us, a, c, HF.out.1, by rw [HJ.out]; rfl, HA.out.own, HA.out.each, HL.out, HF.out.2 ▸ HA.out.st, HA.out.stp⟩
end
/-! The reference's reader of layer 8: a directory under way: what is known. -/
section
open Go.RowKit
set_option maxRecDepth 100000

theorem se0_infoI : (Tryz.prog.info? 100).map (fun i => (i.zero, i.size)) = some (some (.agg (sec se0).toArray), 4) := by kernel_rfl
theorem info_headI : (Tryz.prog.info? 47).map (·.size) = some 65 := by kernel_rfl
theorem built_se0 : Tryz.prog.built 100 [] = some (sec se0).toArray := by kernel_rfl
theorem built_di0 : Tryz.prog.built 63 [] = some (dic di0).toArray := by kernel_rfl

theorem chain_Di (s : Option (List UInt8)) (v0 : Int) (v1 : List Ux) (v2 : List Hd) (v3 : List Se) (h0 : got gN s v0) (h1 : got (gL gU) (nx gN s) v1) (h2 : got (gL gH) (nx (gL gU) (nx gN s)) v2) (h3 : got (gL gSe) (nx (gL gH) (nx (gL gU) (nx gN s))) v3) :
    got gDi s (⟨v0, v1, none, 0, v2, none, 0, v3, none, 0⟩ : Di) ∧ nx gDi s = nx (gL gSe) (nx (gL gH) (nx (gL gU) (nx gN s))) := by
  rcases s with _ | l
  · exact ⟨fun _ _ e _ => (by cases e), rfl⟩
  rcases e0 : gN l with _ | p0
  · exact ⟨fun a p i1 i2 => (by cases i1; simp [gDi, e0] at i2), by simp [nx, gDi, e0]⟩
  have q0 := h0 l p0 (by simp) e0
  rcases e1 : gL gU p0.2 with _ | p1
  · exact ⟨fun a p i1 i2 => (by cases i1; simp [gDi, e0, e1] at i2), by simp [nx, gDi, e0, e1]⟩
  have q1 := h1 p0.2 p1 (by simp [nx, e0]) e1
  rcases e2 : gL gH p1.2 with _ | p2
  · exact ⟨fun a p i1 i2 => (by cases i1; simp [gDi, e0, e1, e2] at i2), by simp [nx, gDi, e0, e1, e2]⟩
  have q2 := h2 p1.2 p2 (by simp [nx, e0, e1]) e2
  rcases e3 : gL gSe p2.2 with _ | p3
  · exact ⟨fun a p i1 i2 => (by cases i1; simp [gDi, e0, e1, e2, e3] at i2), by simp [nx, gDi, e0, e1, e2, e3]⟩
  have q3 := h3 p2.2 p3 (by simp [nx, e0, e1, e2]) e3
  exact ⟨fun a p i1 i2 => (by cases i1; simp [gDi, e0, e1, e2, e3, q0, q1, q2, q3] at i2; rw [← i2]), by simp [nx, gDi, e0, e1, e2, e3]⟩
theorem chain_Se (s : Option (List UInt8)) (v0 v1 v2 v3 : Int) (h0 : got gN s v0) (h1 : got gN (nx gN s) v1) (h2 : got gN (nx gN (nx gN s)) v2) (h3 : got gN (nx gN (nx gN (nx gN s))) v3) : got gSe s (⟨v0, v1, v2, v3⟩ : Se) ∧ nx gSe s = nx gN (nx gN (nx gN (nx gN s))) := by
  rcases s with _ | l
  · exact ⟨fun _ _ e _ => (by cases e), rfl⟩
  rcases e0 : gN l with _ | p0
  · exact ⟨fun a p i1 i2 => (by cases i1; simp [gSe, e0] at i2), by simp [nx, gSe, e0]⟩
  have q0 := h0 l p0 (by simp) e0
  rcases e1 : gN p0.2 with _ | p1
  · exact ⟨fun a p i1 i2 => (by cases i1; simp [gSe, e0, e1] at i2), by simp [nx, gSe, e0, e1]⟩
  have q1 := h1 p0.2 p1 (by simp [nx, e0]) e1
  rcases e2 : gN p1.2 with _ | p2
  · exact ⟨fun a p i1 i2 => (by cases i1; simp [gSe, e0, e1, e2] at i2), by simp [nx, gSe, e0, e1, e2]⟩
  have q2 := h2 p1.2 p2 (by simp [nx, e0, e1]) e2
  rcases e3 : gN p2.2 with _ | p3
  · exact ⟨fun a p i1 i2 => (by cases i1; simp [gSe, e0, e1, e2, e3] at i2), by simp [nx, gSe, e0, e1, e2, e3]⟩
  have q3 := h3 p2.2 p3 (by simp [nx, e0, e1, e2]) e3
  exact ⟨fun a p i1 i2 => (by cases i1; simp [gSe, e0, e1, e2, e3, q0, q1, q2, q3] at i2; rw [← i2]), by simp [nx, gSe, e0, e1, e2, e3]⟩

theorem OwnG.len_at {α : Type} {R : Row α} {w : World} {b c j : Nat} {a : Option Addr} {l : List α} (h : OwnG R w b (.slice a l.length c) l) (hj : l.length = j) : OwnG R w b (.slice a j c) l := hj ▸ h
/-- a directory under way in block X; the result's lies at the frame's beginning -/
structure Dk (a0 : Option Addr) (n0 c0 : Nat) (l0 : List UInt8) (g X : Nat) (w W : World) (t : Option (List UInt8)) (d : Di) : Prop where
  blk : Blk W X 63 (dic d)
  res : Blk W w.heap.size 63 (dic di0)
  own : Di.own W w.heap.size d
  st : In1 a0 n0 c0 l0 g W t
  stp : Stp (fun i => i = g) w.heap.size w W
  gl : g < w.heap.size
  xl : w.heap.size < X
section
variable {a0 : Option Addr} {n0 c0 : Nat} {l0 : List UInt8} {g X : Nat} {w W W1 : World} {t t1 : Option (List UInt8)} {d d' : Di}
theorem Dk.kpT (h : Dk a0 n0 c0 l0 g X w W t d) (hS : Stp (fun i => i = g) W.heap.size W W1) {T : TypeId} (hT : (74 : TypeId) ≠ T) : KpT T W W1 := KpT.stp hS (fun i e => by subst e; exact h.st.noT hT)
theorem Dk.keep (h : Dk a0 n0 c0 l0 g X w W t d) (hS : Stp (fun i => i = g) W.heap.size W W1) (hs : In1 a0 n0 c0 l0 g W1 t1) : Dk a0 n0 c0 l0 g X w W1 t1 d := by
  have hg := h.gl
  have hx := h.xl
  exact ⟨h.blk.stp hS h.blk.lt (by omega), h.res.stp hS h.res.lt (by omega), Di.own_keep h.own (h.kpT hS (by decide)) (h.kpT hS (by decide)) (h.kpT hS (by decide)) (h.kpT hS (by decide)), hs, h.stp.trans (hS.lower h.stp.size), hg, hx⟩
theorem Dk.below (h : Dk a0 n0 c0 l0 g X w W t d) (hB : Below W.heap.size W W1) : Dk a0 n0 c0 l0 g X w W1 t d := h.keep (Stp.of hB) (h.st.below hB)
theorem Dk.set (h : Dk a0 n0 c0 l0 g X w W t d) (j : Nat) (v : Value) (he : (dic d).set j v = dic d') (ho : Di.own W w.heap.size d') : Dk a0 n0 c0 l0 g X w (W.setCell ⟨X, j, none⟩ v) t d' := by
  have hg := h.gl
  have hx := h.xl
  have hgs := set_grown W X j v
  have kp : ∀ {T : TypeId}, (63 : TypeId) ≠ T → KpT T W (W.setCell ⟨X, j, none⟩ v) := fun hT => KpT.grown hgs (fun i e => by cases e; exact h.blk.noT hT)
  refine ⟨he ▸ h.blk.set j v, h.res.setOther ⟨X, j, none⟩ v (by simp only; omega), Di.own_keep ho (kp (by decide)) (kp (by decide)) (kp (by decide)) (kp (by decide)), ?_, ?_, hg, hx⟩
  · exact h.st.stp (K := fun i => i = X) ((Stp.refl _ _ _).set ⟨X, j, none⟩ v (.inl rfl)) (fun i e => by omega)
  · exact h.stp.set ⟨X, j, none⟩ v (.inr (by simp only; omega))
theorem Dk.hd (h : Dk a0 n0 c0 l0 g X w W t d) {x : Hd} {a' : Option Addr} {c' : Nat} (hO : OwnG hdR W1 w.heap.size (.slice a' (d.hs.length + 1) c') (d.hs ++ [x])) (hg : W.grownBy W1 (Value.slice d.hsa d.hs.length d.hsc).ownBlock) :
    Dk a0 n0 c0 l0 g X w (W1.setCell ⟨X, 2, none⟩ (.slice a' (d.hs.length + 1) c')) t ⟨d.ep, d.us, d.usa, d.usc, d.hs ++ [x], a', c', d.ss, d.ssa, d.ssc⟩ := by
  obtain ⟨o1, o2, o3, o4⟩ := h.own
  have hgl := h.gl
  have hlen : (d.hs ++ [x]).length = d.hs.length + 1 := by simp
  have hno : ∀ {T : TypeId}, (47 : TypeId) ≠ T → ∀ i, (Value.slice d.hsa d.hs.length d.hsc).ownBlock = some i → ∀ cs f, W.heap[i]? ≠ some (.cells cs T f) := fun hT i e => o3.noT hT i e
  have kp : ∀ {T : TypeId}, (47 : TypeId) ≠ T → KpT T W W1 := fun hT => KpT.grown hg (fun i e => hno hT i e)
  have hlt : ∀ i, (Value.slice d.hsa d.hs.length d.hsc).ownBlock = some i → w.heap.size ≤ i := fun i e => (o3.lt e).1
  have hblk := h.blk.grown hg (fun e => hno (T := 63) (by decide) _ e _ _ h.blk.at_)
  have hres := h.res.grown hg (fun e => hno (T := 63) (by decide) _ e _ _ h.res.at_)
  have hst : In1 a0 n0 c0 l0 g W1 t := h.st.stp (K := fun i => g < i) ((Stp.refl _ _ _).grown hg (Nat.le_refl _) (fun i e => .inl (by have := hlt i e; omega))) (fun i e => e)
  have hstp := h.stp.grown hg h.stp.size (fun i e => .inr (hlt i e))
  have hown : Di.own W1 w.heap.size (⟨d.ep, d.us, d.usa, d.usc, d.hs ++ [x], a', c', d.ss, d.ssa, d.ssc⟩ : Di) := ⟨o1.kpT (kp (by decide)), fun y hy => Ux.own_keep (o2 y hy) (kp (by decide)), by show OwnG hdR W1 w.heap.size (.slice a' (d.hs ++ [x]).length c') _; rw [hlen]; exact hO, o4.kpT (kp (by decide))⟩
  have kp2 : ∀ {T : TypeId}, (63 : TypeId) ≠ T → KpT T W1 (W1.setCell ⟨X, 2, none⟩ (.slice a' (d.hs.length + 1) c')) := fun hT => KpT.grown (set_grown W1 X 2 _) (fun i e => by cases e; exact hblk.noT hT)
  have hx := h.xl
  refine ⟨?_, hres.setOther ⟨X, 2, none⟩ _ (by simp only; omega), Di.own_keep hown (kp2 (by decide)) (kp2 (by decide)) (kp2 (by decide)) (kp2 (by decide)), ?_, ?_, hgl, hx⟩
  · have := hblk.set 2 (.slice a' (d.hs.length + 1) c')
    simpa [dic] using this
  · exact hst.stp (K := fun i => i = X) ((Stp.refl _ _ _).set ⟨X, 2, none⟩ _ (.inl rfl)) (fun i e => by omega)
  · exact hstp.set ⟨X, 2, none⟩ _ (.inr (by simp only; omega))
theorem Dk.se (h : Dk a0 n0 c0 l0 g X w W t d) {x : Se} {a' : Option Addr} {c' : Nat} (hO : OwnG seR W1 w.heap.size (.slice a' (d.ss.length + 1) c') (d.ss ++ [x])) (hg : W.grownBy W1 (Value.slice d.ssa d.ss.length d.ssc).ownBlock) :
    Dk a0 n0 c0 l0 g X w (W1.setCell ⟨X, 3, none⟩ (.slice a' (d.ss.length + 1) c')) t ⟨d.ep, d.us, d.usa, d.usc, d.hs, d.hsa, d.hsc, d.ss ++ [x], a', c'⟩ := by
  obtain ⟨o1, o2, o3, o4⟩ := h.own
  have hgl := h.gl
  have hlen : (d.ss ++ [x]).length = d.ss.length + 1 := by simp
  have hno : ∀ {T : TypeId}, (100 : TypeId) ≠ T → ∀ i, (Value.slice d.ssa d.ss.length d.ssc).ownBlock = some i → ∀ cs f, W.heap[i]? ≠ some (.cells cs T f) := fun hT i e => o4.noT hT i e
  have kp : ∀ {T : TypeId}, (100 : TypeId) ≠ T → KpT T W W1 := fun hT => KpT.grown hg (fun i e => hno hT i e)
  have hlt : ∀ i, (Value.slice d.ssa d.ss.length d.ssc).ownBlock = some i → w.heap.size ≤ i := fun i e => (o4.lt e).1
  have hblk := h.blk.grown hg (fun e => hno (T := 63) (by decide) _ e _ _ h.blk.at_)
  have hres := h.res.grown hg (fun e => hno (T := 63) (by decide) _ e _ _ h.res.at_)
  have hst : In1 a0 n0 c0 l0 g W1 t := h.st.stp (K := fun i => g < i) ((Stp.refl _ _ _).grown hg (Nat.le_refl _) (fun i e => .inl (by have := hlt i e; omega))) (fun i e => e)
  have hstp := h.stp.grown hg h.stp.size (fun i e => .inr (hlt i e))
  have hown : Di.own W1 w.heap.size (⟨d.ep, d.us, d.usa, d.usc, d.hs, d.hsa, d.hsc, d.ss ++ [x], a', c'⟩ : Di) := ⟨o1.kpT (kp (by decide)), fun y hy => Ux.own_keep (o2 y hy) (kp (by decide)), o3.kpT (kp (by decide)), by show OwnG seR W1 w.heap.size (.slice a' (d.ss ++ [x]).length c') _; rw [hlen]; exact hO⟩
  have kp2 : ∀ {T : TypeId}, (63 : TypeId) ≠ T → KpT T W1 (W1.setCell ⟨X, 3, none⟩ (.slice a' (d.ss.length + 1) c')) := fun hT => KpT.grown (set_grown W1 X 3 _) (fun i e => by cases e; exact hblk.noT hT)
  have hx := h.xl
  refine ⟨?_, hres.setOther ⟨X, 3, none⟩ _ (by simp only; omega), Di.own_keep hown (kp2 (by decide)) (kp2 (by decide)) (kp2 (by decide)) (kp2 (by decide)), ?_, ?_, hgl, hx⟩
  · have := hblk.set 3 (.slice a' (d.ss.length + 1) c')
    simpa [dic] using this
  · exact hst.stp (K := fun i => i = X) ((Stp.refl _ _ _).set ⟨X, 3, none⟩ _ (.inl rfl)) (fun i e => by omega)
  · exact hstp.set ⟨X, 3, none⟩ _ (.inr (by simp only; omega))
theorem Dk.other (h : Dk a0 n0 c0 l0 g X w W t d) {S : Nat} {vs : List Value} (hS : Blk W S 100 vs) (j : Nat) (v : Value) (hX : X < S) (hss : ∀ i, (Value.slice d.ssa d.ss.length d.ssc).ownBlock = some i → i < S) : Dk a0 n0 c0 l0 g X w (W.setCell ⟨S, j, none⟩ v) t d := by
  have hg := h.gl
  have hx := h.xl
  have hgs := set_grown W S j v
  have kp : ∀ {T : TypeId}, (100 : TypeId) ≠ T → KpT T W (W.setCell ⟨S, j, none⟩ v) := fun hT => KpT.grown hgs (fun i e => by cases e; exact hS.noT hT)
  obtain ⟨o1, o2, o3, o4⟩ := h.own
  refine ⟨h.blk.setOther ⟨S, j, none⟩ v (by simp only; omega), h.res.setOther ⟨S, j, none⟩ v (by simp only; omega), ⟨o1.kpT (kp (by decide)), fun y hy => Ux.own_keep (o2 y hy) (kp (by decide)), o3.kpT (kp (by decide)), o4.kept hgs (fun i e q => by have := hss i e; injection q with q; omega)⟩, ?_, ?_, hg, hx⟩
  · exact h.st.stp (K := fun i => i = S) ((Stp.refl _ _ _).set ⟨S, j, none⟩ v (.inl rfl)) (fun i e => by omega)
  · exact h.stp.set ⟨S, j, none⟩ v (.inr (by simp only; omega))
end
/-- heads under way -/
structure DhAt (a0 : Option Addr) (n0 c0 : Nat) (l0 : List UInt8) (g X : Nat) (w W : World) (s : Option (List UInt8)) (ep : Int) (us : List Ux) (ua : Option Addr) (uc : Nat) (hs : List Hd) (a : Option Addr) (c : Nat) : Prop where
  k : Dk a0 n0 c0 l0 g X w W (nx (manyG gH hs.length) s) ⟨ep, us, ua, uc, hs, a, c, [], none, 0⟩
  got_ : got (manyG gH hs.length) s hs
/-- sessions under way -/
structure DsAt (a0 : Option Addr) (n0 c0 : Nat) (l0 : List UInt8) (g X : Nat) (w W : World) (s : Option (List UInt8)) (ep : Int) (us : List Ux) (ua : Option Addr) (uc : Nat) (hs : List Hd) (ha : Option Addr) (hc : Nat) (ss : List Se) (a : Option Addr) (c : Nat) : Prop where
  k : Dk a0 n0 c0 l0 g X w W (nx (manyG gSe ss.length) s) ⟨ep, us, ua, uc, hs, ha, hc, ss, a, c⟩
  got_ : got (manyG gSe ss.length) s ss
section
variable {a0 : Option Addr} {n0 c0 : Nat} {l0 : List UInt8} {g X : Nat} {w W0 W W1 : World} {s : Option (List UInt8)} {ep : Int} {us : List Ux} {ua : Option Addr} {uc : Nat} {hs : List Hd} {a ha a' : Option Addr} {c hc c' : Nat} {ss : List Se}
theorem DhAt.step (h : DhAt a0 n0 c0 l0 g X w W0 s ep us ua uc hs a c) {x : Hd} (hx : got gH (nx (manyG gH hs.length) s) x) (hk : Dk a0 n0 c0 l0 g X w W (nx gH (nx (manyG gH hs.length) s)) ⟨ep, us, ua, uc, hs, a, c, [], none, 0⟩)
    (hO : OwnG hdR W1 w.heap.size (.slice a' (hs.length + 1) c') (hs ++ [x])) (hg : W.grownBy W1 (Value.slice a hs.length c).ownBlock) : DhAt a0 n0 c0 l0 g X w (W1.setCell ⟨X, 2, none⟩ (.slice a' (hs.length + 1) c')) s ep us ua uc (hs ++ [x]) a' c' := by
  have hm := many_nx h.got_ hx
  have hlen : (hs ++ [x]).length = hs.length + 1 := by simp
  exact ⟨by rw [hlen, hm.1]; exact hk.hd hO hg, by rw [hlen]; exact hm.2⟩
theorem DsAt.step (h : DsAt a0 n0 c0 l0 g X w W0 s ep us ua uc hs ha hc ss a c) {x : Se} (hx : got gSe (nx (manyG gSe ss.length) s) x) (hk : Dk a0 n0 c0 l0 g X w W (nx gSe (nx (manyG gSe ss.length) s)) ⟨ep, us, ua, uc, hs, ha, hc, ss, a, c⟩)
    (hO : OwnG seR W1 w.heap.size (.slice a' (ss.length + 1) c') (ss ++ [x])) (hg : W.grownBy W1 (Value.slice a ss.length c).ownBlock) : DsAt a0 n0 c0 l0 g X w (W1.setCell ⟨X, 3, none⟩ (.slice a' (ss.length + 1) c')) s ep us ua uc hs ha hc (ss ++ [x]) a' c' := by
  have hm := many_nx h.got_ hx
  have hlen : (ss ++ [x]).length = ss.length + 1 := by simp
  exact ⟨by rw [hlen, hm.1]; exact hk.se hO hg, by rw [hlen]; exact hm.2⟩
end
end
/-! The reference's reader of layer 8: a directory. -/
section
open Go.RowKit
set_option maxRecDepth 100000

set_option maxHeartbeats 8000000 in
theorem in_Directory (a0 : Option Addr) (n0 c0 : Nat) (l0 : List UInt8) (g : Nat) (w : World) (s : Option (List UInt8)) (hI : In1 a0 n0 c0 l0 g w s) :
    Calls Tryz.prog 48 #[.pointer (some ⟨g, 0, none⟩)] w fun e w' => ∃ v : Di, v.ok ∧ got gDi s v.cl ∧ e = .returned (.agg (dic v).toArray) ∧ Di.own w' w.heap.size v ∧ In1 a0 n0 c0 l0 g w' (nx gDi s) ∧ Stp (fun i => i = g) w.heap.size w w' := by
  have HI := Lib.hid hI
  have hlt := hI.lt
  clear hI
  have IZ : Hid ((Tryz.prog.info? 63).map (·.size) = some (dic di0).length) := Lib.hid (by rw [dic_length di0_ok]; exact info_directory)
  have HOZ : Hid (∀ v ∈ dic di0, v.oneCell' = true) := Lib.hid (dic_one _)
  have HB0 : Hid (Tryz.prog.built 63 [] = some (dic di0).toArray) := Lib.hid built_di0
  have HBS := Lib.hid built_se0
  have IS : Hid ((Tryz.prog.info? 100).map (·.size) = some (sec se0).length) := Lib.hid (by kernel_rfl)
  have OS : Hid (∀ v ∈ sec se0, v.oneCell' = true) := Lib.hid (seR.one _)
  go_enter Tryz.func48, Tryz.ntmps48
  go_wp2_with (first
    | ((with_reducible refine wpList_allocB (o := ⟨some 2, _, _, _, _, _⟩) ?_ 63 ?_ di0_info ?_); rfl; rfl; intro wa hba hga hza)
    | ((with_reducible refine wpList_buildI (dst := some 10) HB0.out ?_ ?_); rfl)
    | ((with_reducible refine wpList_allocB (o := ⟨some 3, _, _, _, _, _⟩) ?_ 63 ?_ di0_info ?_); rfl; rfl; intro wb hbb hgb hzb)
    | ((with_reducible refine wpList_storeB (o := ⟨none, .store 63 (.tmp 3) (.tmp 10), _, _, _, _⟩) ?_ 63 (.tmp 3) (.tmp 10) ?_ ?_ ?_ hbb IZ.out rfl HOZ.out ?_); rfl; rfl; rfl; rfl; intro wx hb hgx hzx))
  have hBx : Below w.heap.size w wx := (((Below.refl _ w).grown hga (Nat.le_refl _) (by simp)).grown hgb (by omega) (by simp)).grown hgx (by omega) (fun k e => by cases e; omega)
  have hR : Blk wx w.heap.size 63 (dic di0) := (hba.grown hgb (by simp)).grown hgx (fun e => by injection e with e; omega)
  rw [hza] at hb
  have hXR : w.heap.size < w.heap.size + 1 := by omega
  generalize hX : w.heap.size + 1 = X at *
  have HK0 : Hid (Dk a0 n0 c0 l0 g X w wx s di0) := Lib.hid ⟨hb, hR, di0_own, HI.out.below hBx, Stp.of hBx, hlt, hXR⟩
  clear hba hga hza hbb hgb hzb hgx hzx hBx hX hb hR HI hXR
  refine (in_n a0 n0 c0 l0 g wx s HK0.out.st).mono ?_
  rintro e w0 ⟨ep, _, hg0, rfl, hI1, hS1⟩
  have hK := HK0.out.keep hS1 hI1
  have hc := hK.blk.cell (j := 0) rfl
  have hf := hK.blk.free 0
  have HK1 : Hid (Dk a0 n0 c0 l0 g X w (w0.setCell ⟨X, 0, none⟩ (.int .i64 ep)) (nx gN s) ⟨ep, [], none, 0, [], none, 0, [], none, 0⟩) := Lib.hid (hK.set 0 (.int .i64 ep) rfl hK.own)
  have HG0 := Lib.hid hg0
  clear hK hI1 hS1 hg0 HK0
  go_wp2_with fail
  generalize w0.setCell ⟨X, 0, none⟩ (.int .i64 ep) = y0 at *
  clear hc hf
  refine (in_users a0 n0 c0 l0 g y0 (nx gN s) HK1.out.st).mono ?_
  rintro e w1 ⟨us, ua, uc, hg1, rfl, hOU, hEU, _, hI2, hS2⟩
  have hK := HK1.out.keep hS2 hI2
  have hc := hK.blk.cell (j := 1) rfl
  have hf := hK.blk.free 1
  have HK2 : Hid (Dk a0 n0 c0 l0 g X w (w1.setCell ⟨X, 1, none⟩ (.slice ua us.length uc)) (nx (gL gU) (nx gN s)) ⟨ep, us, ua, uc, [], none, 0, [], none, 0⟩) := Lib.hid (hK.set 1 (.slice ua us.length uc) rfl ⟨hOU.lower HK1.out.stp.size, fun y hy => Ux.own_lower (hEU y hy) HK1.out.stp.size, OwnG.nil0 _ _, OwnG.nil0 _ _⟩)
  have HG1 := Lib.hid hg1
  clear hK hI2 hS2 hg1 HK1 hOU hEU
  go_wp2_with fail
  generalize w1.setCell ⟨X, 1, none⟩ (.slice ua us.length uc) = y1 at *
  clear hc hf
  generalize hs2 : nx (gL gU) (nx gN s) = s2 at *
  have HS2 := Lib.hid hs2
  clear hs2
  refine (in_many a0 n0 c0 l0 g y1 s2 HK2.out.st).mono ?_
  rintro e w2 ⟨v, ⟨hv0, hv1⟩, hvg, hvn, rfl, hI3, hS3⟩
  obtain ⟨k, rfl⟩ := Int.eq_ofNat_of_zero_le hv0
  have HG := Lib.hid (gL_nx (f := gH) hvg)
  rw [Int.toNat_natCast] at HG
  have hz0 : nx (manyG gH 0) (nx gM s2) = nx gM s2 := by cases nx gM s2 <;> rfl
  have HST : Hid (DhAt a0 n0 c0 l0 g X w w2 (nx gM s2) ep us ua uc [] none 0) := Lib.hid ⟨by show Dk a0 n0 c0 l0 g X w w2 (nx (manyG gH 0) (nx gM s2)) _; rw [hz0]; exact HK2.out.keep hS3 hI3, fun l p _ e2 => (by cases e2; rfl)⟩
  clear hz0 hvg hvn hI3 hS3 hv0 HK2
  go_upto_block 0 with fail
  go_cut [5, 6] from 19 to 38 (fun _ _ wc => ∃ (hs : List Hd) (a : Option Addr) (c : Nat), Hid (Dk a0 n0 c0 l0 g X w wc (nx (gL gH) s2) ⟨ep, us, ua, uc, hs, a, c, [], none, 0⟩ ∧ got (gL gH) s2 hs))
  case first =>
    go_wp2_with fail
    go_loopw [5] (fun i wr => ∃ (hs : List Hd) (a : Option Addr) (c : Nat), hs.length ≤ k ∧ i = .int .i64 (hs.length : Int) ∧ Hid (DhAt a0 n0 c0 l0 g X w wr (nx gM s2) ep us ua uc hs a c)) (fun i _ => k - (intOf i).toNat)
    case atStart => exact ⟨[], none, 0, by simp, rfl, HST⟩
    case round =>
      clear HST
      obtain ⟨hs, a, c, hj, rfl, HA⟩ := hrel
      obtain ⟨bad, l, hI, hlf⟩ := HA.out.k.st
      obtain ⟨a3, n3, c3, hb3, _⟩ := hI.blk
      have hc1 := hb3.cell (j := 1) rfl
      generalize hjz : hs.length = j at *
      have HJ := Lib.hid hjz
      clear hjz
      by_cases hjk : j < k
      · have hjki : (j : Int) < (k : Int) := by omega
        cases bad
        · clear hlf hI hb3
          go_wp2_with fail
          refine (in_head a0 n0 c0 l0 g wr _ HA.out.k.st).mono ?_
          rintro e w4 ⟨x, hx, hgx, rfl, hI4, hS4⟩
          have HK4 := Lib.hid (HA.out.k.keep hS4 hI4)
          have HX : Hid (hdR.ok x) := Lib.hid hx
          have HGX := Lib.hid hgx
          have IH : Hid ((Tryz.prog.info? 47).map (·.size) = some (hdc x).length) := Lib.hid (by rw [hdc_length hx]; exact info_headI)
          have HLH : Hid ((hdc hd0).length = (hdc x).length) := Lib.hid (by rw [hdc_length hx, hdc_length hd0_ok])
          have HOH : Hid (∀ v ∈ hdc x, v.oneCell' = true) := Lib.hid (hdc_one _)
          have HL : Hid (hs.length + 1 ≤ 1000000) := Lib.hid (by have := HJ.out; omega)
          clear hc1 hI4 hS4 hx hgx
          go_wp2_with (first
            | ((with_reducible refine wpList_allocB (o := ⟨some 6, _, _, _, _, _⟩) ?_ 47 ?_ hd0_infoI ?_); rfl; rfl; intro ya hya hga hza)
            | ((with_reducible refine wpList_storeB (o := ⟨none, .store 47 (.tmp 6) (.tmp 32), _, _, _, _⟩) ?_ 47 (.tmp 6) (.tmp 32) ?_ ?_ ?_ hya IH.out HLH.out HOH.out ?_); rfl; rfl; rfl; rfl; intro yb hyb hgb hzb; have HKb := Lib.hid (HK4.out.below (((Below.refl _ w4).grown hga (Nat.le_refl _) (by simp)).grown hgb (by omega) (fun k e => by cases e; exact Nat.le_refl _))); have hcX := HKb.out.blk.cell (j := 2) (v := .slice a hs.length c) rfl; rw [HJ.out] at hcX)
            | ((with_reducible refine wpList_loadB (o := ⟨some 35, _, _, _, _, _⟩) ?_ 47 (.tmp 6) ?_ ?_ hyb Tryz.underlying47 ?_ IH.out ?_); rfl; rfl; rfl; rfl)
            | ((with_reducible refine wpList_oneG hdR (o := ⟨some 36, _, _, _, _, _⟩) ?_ (.tmp 35) ?_ (y1 := x) HX.out ?_ ?_); rfl; rfl; rfl; have hB7 : Below yb.heap.size yb (yb.alloc (.cells (hdR.cells [x]).toArray hdR.T)) := (Below.refl _ yb).alloc (Nat.le_refl _) _; have hR7 : RdG hdR (yb.alloc (.cells (hdR.cells [x]).toArray hdR.T)) (some ⟨yb.heap.size, 0, none⟩) 1 1 [x] := RdG.many yb (Row.all.single HX.out) rfl (by decide); have HK7 := Lib.hid (HKb.out.below hB7); have h7 := HK7.out.own.2.2.1; have hO7 := OwnG.len_at h7 HJ.out; have hBB7 := HK7.out.stp.size)
            | ((with_reducible refine wpList_appG hdR (o := ⟨some 37, _, _, _, _, _⟩) ?_ (.tmp 34) (.tmp 36) ?_ ?_ hO7 ?_ hR7 HL.out hBB7 ?_); rfl; rfl; rfl; rfl; intro a8 c8 y8 hO8 hg8 hx8; have hX8 := HK7.out.blk.grown hg8 (fun e => hO7.noT (T := 63) (by decide) _ e _ _ HK7.out.blk.at_); have hc8 := hX8.cell (j := 2) (v := .slice a hs.length c) rfl; have hf8 := hX8.free 2))
          refine ⟨⟨hs ++ [x], a8, c8, by have := HJ.out; simp; omega, by have := HJ.out; simp; omega, Lib.hid (HA.out.step HGX.out HK7.out hO8 (by rw [HJ.out]; exact hg8))⟩, ?_⟩
          simp only [intOf]
          omega
        · clear hI hb3
          have hn : nx (manyG gH k) (nx gM s2) = none := many_none (k := hs.length) (by rw [HJ.out, ← hlf]; rfl) (by rw [HJ.out]; omega)
          have HF : Hid (got (gL gH) s2 hs ∧ nx (gL gH) s2 = nx (manyG gH hs.length) (nx gM s2)) := Lib.hid ⟨got_none (by rw [HG.out.1, hn]), by rw [HG.out.1, hn, HJ.out, ← hlf]; rfl⟩
          clear hlf hn
          go_wp2_with fail
          go_meet
          exact ⟨hs, a, c, Lib.hid ⟨HF.out.2 ▸ HA.out.k, HF.out.1⟩⟩
      · obtain rfl : j = k := by omega
        have HF : Hid (got (gL gH) s2 hs ∧ nx (gL gH) s2 = nx (manyG gH hs.length) (nx gM s2)) := Lib.hid ⟨HG.out.2 _ (by rw [← HJ.out]; exact HA.out.got_), by rw [HG.out.1, HJ.out]⟩
        clear hI hb3 hlf
        go_wp2_with fail
        go_meet
        exact ⟨hs, a, c, Lib.hid ⟨HF.out.2 ▸ HA.out.k, HF.out.1⟩⟩
  case rest =>
    obtain ⟨hs, ha, hac, HK3⟩ := hcut
    clear HST HG
    generalize hs3 : nx (gL gH) s2 = s3 at *
    have HS3 := Lib.hid hs3
    clear hs3
    go_wp2_with fail
    refine (in_many a0 n0 c0 l0 g wc s3 HK3.out.1.st).mono ?_
    rintro e w3 ⟨v, ⟨hv0, hv1⟩, hvg, hvn, rfl, hI3, hS3⟩
    obtain ⟨k, rfl⟩ := Int.eq_ofNat_of_zero_le hv0
    have HG := Lib.hid (gL_nx (f := gSe) hvg)
    rw [Int.toNat_natCast] at HG
    have hz0 : nx (manyG gSe 0) (nx gM s3) = nx gM s3 := by cases nx gM s3 <;> rfl
    have HST : Hid (DsAt a0 n0 c0 l0 g X w w3 (nx gM s3) ep us ua uc hs ha hac [] none 0) := Lib.hid ⟨by show Dk a0 n0 c0 l0 g X w w3 (nx (manyG gSe 0) (nx gM s3)) _; rw [hz0]; exact HK3.out.1.keep hS3 hI3, fun l p _ e2 => (by cases e2; rfl)⟩
    have HGH := Lib.hid HK3.out.2
    clear hz0 hvg hvn hI3 hS3 hv0 HK3
    have HEND : Hid (∀ (ss : List Se) (sa : Option Addr) (sc : Nat) (W W' : World), Dk a0 n0 c0 l0 g X w W (nx (gL gSe) s3) ⟨ep, us, ua, uc, hs, ha, hac, ss, sa, sc⟩ → got (gL gSe) s3 ss → W.grownBy W' (some w.heap.size) → ∃ v : Di, v.ok ∧ got gDi s v.cl ∧ (Ending.returned (.agg (dic (⟨ep, us, ua, uc, hs, ha, hac, ss, sa, sc⟩ : Di)).toArray) = .returned (.agg (dic v).toArray)) ∧ Di.own W' w.heap.size v ∧ In1 a0 n0 c0 l0 g W' (nx gDi s) ∧ Stp (fun i => i = g) w.heap.size w W') := Lib.hid (fun ss sa sc W W' hk hgs hgz => by
      have h3 := HS3.out
      have h2 := HS2.out
      subst h3
      subst h2
      have hch := chain_Di s ep (us.map Ux.cl) hs ss HG0.out HG1.out HGH.out hgs
      have kp : ∀ {T : TypeId}, (63 : TypeId) ≠ T → KpT T W W' := fun hT => KpT.grown hgz (fun i e => by cases e; exact hk.res.noT hT)
      exact ⟨_, hk.own.2.2.1.1, hch.1, rfl, Di.own_keep hk.own (kp (by decide)) (kp (by decide)) (kp (by decide)) (kp (by decide)), hch.2 ▸ hk.st.stp (K := fun i => g < i) ((Stp.refl (fun i => g < i) _ _).grown hgz (Nat.le_refl _) (fun i e => by cases e; exact .inl hlt)) (fun i e => e), hk.stp.grown hgz hk.stp.size (fun i e => by cases e; exact .inr (Nat.le_refl _))⟩)
    go_wp2_with fail
    go_loopw [7] (fun i wr => ∃ (ss : List Se) (a : Option Addr) (c : Nat), ss.length ≤ k ∧ i = .int .i64 (ss.length : Int) ∧ Hid (DsAt a0 n0 c0 l0 g X w wr (nx gM s3) ep us ua uc hs ha hac ss a c)) (fun i _ => k - (intOf i).toNat)
    case atStart => exact ⟨[], none, 0, by simp, rfl, HST⟩
    case round =>
      clear HST
      obtain ⟨ss, a, c, hj, rfl, HA⟩ := hrel
      obtain ⟨bad, l, hI, hlf⟩ := HA.out.k.st
      obtain ⟨a3, n3, c3, hb3, _⟩ := hI.blk
      have hc1 := hb3.cell (j := 1) rfl
      generalize hjz : ss.length = j at *
      have HJ := Lib.hid hjz
      clear hjz
      by_cases hjk : j < k
      · have hjki : (j : Int) < (k : Int) := by omega
        cases bad
        · clear hlf hI hb3
          go_wp2_with (first
            | ((with_reducible refine wpList_buildI (dst := some 53) HBS.out ?_ ?_); rfl)
            | ((with_reducible refine wpList_allocB (o := ⟨some 8, _, _, _, _, _⟩) ?_ 100 ?_ se0_infoI ?_); rfl; rfl; intro ya hya hga hza)
            | ((with_reducible refine wpList_storeB (o := ⟨none, .store 100 (.tmp 8) (.tmp 53), _, _, _, _⟩) ?_ 100 (.tmp 8) (.tmp 53) ?_ ?_ ?_ hya IS.out rfl OS.out ?_); rfl; rfl; rfl; rfl; intro yb hyb hgb hzb))
          have hBb : Below wr.heap.size wr yb := ((Below.refl _ wr).grown hga (Nat.le_refl _) (by simp)).grown hgb (by omega) (fun k e => by cases e; exact Nat.le_refl _)
          have HKb := Lib.hid (HA.out.k.below hBb)
          have hgS : g < wr.heap.size := Nat.lt_of_lt_of_le hlt HA.out.k.stp.size
          have HXS : Hid (X < wr.heap.size) := Lib.hid HA.out.k.blk.lt
          have HSS : Hid (∀ i, (Value.slice a ss.length c).ownBlock = some i → i < wr.heap.size) := Lib.hid (fun i e => (HA.out.k.own.2.2.2.lt e).2)
          generalize hSz : wr.heap.size = S at *
          clear hya hga hza hgb hzb hc1 hSz
          refine (in_n a0 n0 c0 l0 g yb _ HKb.out.st).mono ?_
          rintro e z0 ⟨x0, _, hx0, rfl, hI0, hS0⟩
          have hKn := HKb.out.keep hS0 hI0
          have hyn := hyb.stp hS0 hyb.lt (by omega)
          have hyz := hyn
          have hc := hyn.cell (j := 0) rfl
          have hf := hyn.free 0
          have hyn : Blk (z0.setCell ⟨S, 0, none⟩ (.int .i64 x0)) S 100 (sec ⟨x0, 0, 0, 0⟩) := hyn.set 0 (.int .i64 x0)
          have HK0 := Lib.hid (hKn.other (vs := _) hyz 0 (.int .i64 x0) HXS.out HSS.out)
          have HX0 := Lib.hid hx0
          have HYB0 := Lib.hid hyn
          clear hKn hyn hyz hI0 hS0 hx0
          go_wp2_with fail
          generalize z0.setCell ⟨S, 0, none⟩ (.int .i64 x0) = y0 at *
          have hyb := HYB0.out
          clear hc hf HYB0
          refine (in_n a0 n0 c0 l0 g y0 _ HK0.out.st).mono ?_
          rintro e z1 ⟨x1, _, hx1, rfl, hI1, hS1⟩
          have hKn := HK0.out.keep hS1 hI1
          have hyn := hyb.stp hS1 hyb.lt (by omega)
          have hyz := hyn
          have hc := hyn.cell (j := 1) rfl
          have hf := hyn.free 1
          have hyn : Blk (z1.setCell ⟨S, 1, none⟩ (.int .i64 x1)) S 100 (sec ⟨x0, x1, 0, 0⟩) := hyn.set 1 (.int .i64 x1)
          have HK1 := Lib.hid (hKn.other (vs := _) hyz 1 (.int .i64 x1) HXS.out HSS.out)
          have HX1 := Lib.hid hx1
          have HYB1 := Lib.hid hyn
          clear hKn hyn hyz hI1 hS1 hx1
          go_wp2_with fail
          generalize z1.setCell ⟨S, 1, none⟩ (.int .i64 x1) = y1 at *
          have hyb := HYB1.out
          clear hc hf HYB1
          refine (in_n a0 n0 c0 l0 g y1 _ HK1.out.st).mono ?_
          rintro e z2 ⟨x2, _, hx2, rfl, hI2, hS2⟩
          have hKn := HK1.out.keep hS2 hI2
          have hyn := hyb.stp hS2 hyb.lt (by omega)
          have hyz := hyn
          have hc := hyn.cell (j := 2) rfl
          have hf := hyn.free 2
          have hyn : Blk (z2.setCell ⟨S, 2, none⟩ (.int .i64 x2)) S 100 (sec ⟨x0, x1, x2, 0⟩) := hyn.set 2 (.int .i64 x2)
          have HK2 := Lib.hid (hKn.other (vs := _) hyz 2 (.int .i64 x2) HXS.out HSS.out)
          have HX2 := Lib.hid hx2
          have HYB2 := Lib.hid hyn
          clear hKn hyn hyz hI2 hS2 hx2
          go_wp2_with fail
          generalize z2.setCell ⟨S, 2, none⟩ (.int .i64 x2) = y2 at *
          have hyb := HYB2.out
          clear hc hf HYB2
          refine (in_n a0 n0 c0 l0 g y2 _ HK2.out.st).mono ?_
          rintro e z3 ⟨x3, _, hx3, rfl, hI3, hS3⟩
          have hKn := HK2.out.keep hS3 hI3
          have hyn := hyb.stp hS3 hyb.lt (by omega)
          have hyz := hyn
          have hc := hyn.cell (j := 3) rfl
          have hf := hyn.free 3
          have hyn : Blk (z3.setCell ⟨S, 3, none⟩ (.int .i64 x3)) S 100 (sec ⟨x0, x1, x2, x3⟩) := hyn.set 3 (.int .i64 x3)
          have HK3 := Lib.hid (hKn.other (vs := _) hyz 3 (.int .i64 x3) HXS.out HSS.out)
          have HX3 := Lib.hid hx3
          have HYB3 := Lib.hid hyn
          clear hKn hyn hyz hI3 hS3 hx3
          have HCS := Lib.hid (chain_Se _ x0 x1 x2 x3 HX0.out HX1.out HX2.out HX3.out)
          have HK4 : Hid (Dk a0 n0 c0 l0 g X w (z3.setCell ⟨S, 3, none⟩ (.int .i64 x3)) (nx gSe (nx (manyG gSe ss.length) (nx gM s3))) ⟨ep, us, ua, uc, hs, ha, hac, ss, a, c⟩) := Lib.hid (HCS.out.2 ▸ HK3.out)
          have hcX := HK4.out.blk.cell (j := 3) (v := .slice a ss.length c) rfl
          rw [HJ.out] at hcX
          have IW : Hid ((Tryz.prog.info? 100).map (·.size) = some (sec ⟨x0, x1, x2, x3⟩).length) := Lib.hid (by kernel_rfl)
          have HVK : Hid (seR.ok ⟨x0, x1, x2, x3⟩) := Lib.hid trivial
          have HL : Hid (ss.length + 1 ≤ 1000000) := Lib.hid (by have := HJ.out; omega)
          clear HX0 HX1 HX2 HX3 HK0 HK1 HK2 HK3
          go_wp2_with (first
            | ((with_reducible refine wpList_loadB (o := ⟨some 69, _, _, _, _, _⟩) ?_ 100 (.tmp 8) ?_ ?_ HYB3.out Tryz.underlying100 ?_ IW.out ?_); rfl; rfl; rfl; rfl)
            | ((with_reducible refine wpList_oneG seR (o := ⟨some 70, _, _, _, _, _⟩) ?_ (.tmp 69) ?_ (y1 := ⟨x0, x1, x2, x3⟩) HVK.out ?_ ?_); rfl; rfl; rfl; generalize z3.setCell ⟨S, 3, none⟩ (.int .i64 x3) = y6 at *; have hB7 : Below y6.heap.size y6 (y6.alloc (.cells (seR.cells [(⟨x0, x1, x2, x3⟩ : Se)]).toArray seR.T)) := (Below.refl _ y6).alloc (Nat.le_refl _) _; have hR7 : RdG seR (y6.alloc (.cells (seR.cells [(⟨x0, x1, x2, x3⟩ : Se)]).toArray seR.T)) (some ⟨y6.heap.size, 0, none⟩) 1 1 [⟨x0, x1, x2, x3⟩] := RdG.many y6 (Row.all.single trivial) rfl (by decide); have HK7 := Lib.hid (HK4.out.below hB7); have h7 := HK7.out.own.2.2.2; have hO7 := OwnG.len_at h7 HJ.out; have hBB7 := HK7.out.stp.size)
            | ((with_reducible refine wpList_appG seR (o := ⟨some 71, _, _, _, _, _⟩) ?_ (.tmp 68) (.tmp 70) ?_ ?_ hO7 ?_ hR7 HL.out hBB7 ?_); rfl; rfl; rfl; rfl; intro a8 c8 y8 hO8 hg8 hx8; have hX8 := HK7.out.blk.grown hg8 (fun e => hO7.noT (T := 63) (by decide) _ e _ _ HK7.out.blk.at_); have hc8 := hX8.cell (j := 3) (v := .slice a ss.length c) rfl; have hf8 := hX8.free 3))
          refine ⟨⟨ss ++ [⟨x0, x1, x2, x3⟩], a8, c8, by have := HJ.out; simp; omega, by have := HJ.out; simp; omega, Lib.hid (HA.out.step HCS.out.1 HK7.out hO8 (by rw [HJ.out]; exact hg8))⟩, ?_⟩
          simp only [intOf]
          omega
        · clear hI hb3
          have hn : nx (manyG gSe k) (nx gM s3) = none := many_none (k := ss.length) (by rw [HJ.out, ← hlf]; rfl) (by rw [HJ.out]; omega)
          have HF : Hid (got (gL gSe) s3 ss ∧ nx (gL gSe) s3 = nx (manyG gSe ss.length) (nx gM s3)) := Lib.hid ⟨got_none (by rw [HG.out.1, hn]), by rw [HG.out.1, hn, HJ.out, ← hlf]; rfl⟩
          clear hlf hn
          have HKF : Hid (Dk a0 n0 c0 l0 g X w wr (nx (gL gSe) s3) ⟨ep, us, ua, uc, hs, ha, hac, ss, a, c⟩) := Lib.hid (HF.out.2 ▸ HA.out.k)
          have IX : Hid ((Tryz.prog.info? 63).map (·.size) = some (dic ⟨ep, us, ua, uc, hs, ha, hac, ss, a, c⟩).length) := Lib.hid (by rw [show (dic (⟨ep, us, ua, uc, hs, ha, hac, ss, a, c⟩ : Di)).length = 4 from rfl]; exact info_directory)
          have HOX : Hid (∀ v ∈ dic (⟨ep, us, ua, uc, hs, ha, hac, ss, a, c⟩ : Di), v.oneCell' = true) := Lib.hid (dic_one _)
          have hbX := HKF.out.blk
          have hbR := HKF.out.res
          go_wp2_with (first
            | ((with_reducible refine wpList_loadB (o := ⟨some 73, _, _, _, _, _⟩) ?_ 63 (.tmp 3) ?_ ?_ hbX Tryz.underlying63 ?_ IX.out ?_); rfl; rfl; rfl; rfl)
            | ((with_reducible refine wpList_storeB (o := ⟨none, .store 63 (.tmp 2) (.tmp 73), _, _, _, _⟩) ?_ 63 (.tmp 2) (.tmp 73) ?_ ?_ ?_ hbR IX.out rfl HOX.out ?_); rfl; rfl; rfl; rfl; intro wz hbz hgz hzz))
          apply bodyPost_ret
          exact results_blk rfl _ _ _ _ _ _ rfl hbz Tryz.underlying63 rfl IX.out
          rfl
          exact HEND.out _ _ _ _ _ HKF.out HF.out.1 hgz
      · obtain rfl : j = k := by omega
        have HF : Hid (got (gL gSe) s3 ss ∧ nx (gL gSe) s3 = nx (manyG gSe ss.length) (nx gM s3)) := Lib.hid ⟨HG.out.2 _ (by rw [← HJ.out]; exact HA.out.got_), by rw [HG.out.1, HJ.out]⟩
        clear hI hb3 hlf
        have HKF : Hid (Dk a0 n0 c0 l0 g X w wr (nx (gL gSe) s3) ⟨ep, us, ua, uc, hs, ha, hac, ss, a, c⟩) := Lib.hid (HF.out.2 ▸ HA.out.k)
        have IX : Hid ((Tryz.prog.info? 63).map (·.size) = some (dic ⟨ep, us, ua, uc, hs, ha, hac, ss, a, c⟩).length) := Lib.hid (by rw [show (dic (⟨ep, us, ua, uc, hs, ha, hac, ss, a, c⟩ : Di)).length = 4 from rfl]; exact info_directory)
        have HOX : Hid (∀ v ∈ dic (⟨ep, us, ua, uc, hs, ha, hac, ss, a, c⟩ : Di), v.oneCell' = true) := Lib.hid (dic_one _)
        have hbX := HKF.out.blk
        have hbR := HKF.out.res
        go_wp2_with (first
          | ((with_reducible refine wpList_loadB (o := ⟨some 73, _, _, _, _, _⟩) ?_ 63 (.tmp 3) ?_ ?_ hbX Tryz.underlying63 ?_ IX.out ?_); rfl; rfl; rfl; rfl)
          | ((with_reducible refine wpList_storeB (o := ⟨none, .store 63 (.tmp 2) (.tmp 73), _, _, _, _⟩) ?_ 63 (.tmp 2) (.tmp 73) ?_ ?_ ?_ hbR IX.out rfl HOX.out ?_); rfl; rfl; rfl; rfl; intro wz hbz hgz hzz))
        apply bodyPost_ret
        exact results_blk rfl _ _ _ _ _ _ rfl hbz Tryz.underlying63 rfl IX.out
        rfl
        exact HEND.out _ _ _ _ _ HKF.out HF.out.1 hgz
set_option maxHeartbeats 1000000 in
theorem getDirectoryR_any (w : World) (a : Option Addr) (n c : Nat) (l : List UInt8) (hr : Rd w a n c l) :
    Calls Tryz.prog 19 #[.slice a n c] w (GetP_directory w l) := by
  have HR := Lib.hid hr
  have HBI : Hid (Tryz.prog.built 74 [(0, .slice a n c)] = some ([.slice a n c, .bool false] : List Value).toArray) := Lib.hid (built_in a n c)
  have HBZ : Hid (Tryz.prog.built 63 [] = some (dic di0).toArray) := Lib.hid built_di0
  have IZ : Hid ((Tryz.prog.info? 63).map (·.size) = some (dic di0).length) := Lib.hid (by rw [dic_length di0_ok]; exact info_directory)
  have HOZ : Hid (∀ v ∈ dic di0, v.oneCell' = true) := Lib.hid (dic_one _)
  clear hr
  go_enter Tryz.func19, Tryz.ntmps19
  go_wp2_with (first
    | ((with_reducible refine wpList_allocB (o := ⟨some 2, _, _, _, _, _⟩) ?_ 63 ?_ di0_info ?_); rfl; rfl; intro wa hba hga hza)
    | ((with_reducible refine wpList_buildI (dst := some 7) HBI.out ?_ ?_); rfl))
  have hBa : Below w.heap.size w wa := (Below.refl _ w).grown hga (Nat.le_refl _) (by simp)
  have hI := Blk.new wa 74 [.slice a n c, .bool false]
  have hB1 : Below w.heap.size w (wa.alloc (.cells ([.slice a n c, .bool false] : List Value).toArray 74)) := hBa.alloc hBa.size _
  have hba := hba.alloc (.cells ([.slice a n c, .bool false] : List Value).toArray 74)
  rw [hza] at hI
  have hI1 := In1.start HR.out hB1 (by omega) hI
  generalize hW : wa.alloc (.cells ([.slice a n c, .bool false] : List Value).toArray 74) = w1 at *
  have hgR : w.heap.size < w.heap.size + 1 := by omega
  generalize hX : w.heap.size + 1 = g at *
  clear hga hza hBa hI hW hX
  refine (in_Directory a n c l g w1 (some l) hI1).mono ?_
  rintro e w2 ⟨v, hvk, hvg, rfl, hO, hI2, hS2⟩
  have hba := hba.stp hS2 hba.lt (by omega)
  have hO := Di.own_lower hO hB1.size
  have HO2 := Lib.hid hO
  clear hO
  have HB2 : Hid (Below w.heap.size w w2) := Lib.hid (hB1.trans (hS2.below hB1.size (fun i e => by omega)))
  have HI2 := Lib.hid hI2
  have IX : Hid ((Tryz.prog.info? 63).map (·.size) = some (dic v).length) := Lib.hid (by rw [dic_length hvk]; exact info_directory)
  have HLX : Hid ((dic di0).length = (dic v).length) := Lib.hid (by rw [dic_length hvk, dic_length di0_ok])
  have HOX : Hid (∀ u ∈ dic v, u.oneCell' = true) := Lib.hid (dic_one _)
  have HF : Hid ((allIn (nx gDi (some l)) = true → gDir l = (v.cl, 0)) ∧ (allIn (nx gDi (some l)) = false → gDir l = (di0, 60))) := by
    refine Lib.hid ?_
    unfold gDir nx
    rw [Option.bind_some]
    rcases eg : gDi l with _ | ⟨x, l'⟩
    · exact ⟨fun h => (by cases h), fun _ => rfl⟩
    · have hx := hvg l (x, l') rfl eg
      simp only at hx
      rw [← hx]
      cases l' with
      | nil => exact ⟨fun _ => rfl, fun h => (by cases h)⟩
      | cons y l' => exact ⟨fun h => (by cases h), fun _ => rfl⟩
  have HGP : Hid (∀ W (x : Di) y, gDir l = (x.cl, y) → x.ok → Di.own W w.heap.size x → Below w.heap.size w W → GetP_directory w l (.returned (.tuple #[.agg (dic x).toArray, .int .i64 y])) W) := Lib.hid (fun W x y e hk ho h => by unfold GetP_directory; rw [e]; exact ⟨x, rfl, hk, rfl, ho, h⟩)
  clear hI1 hI2 hS2 hvg hB1
  go_wp2_with (first
    | ((with_reducible refine wpList_allocB (o := ⟨some 5, _, _, _, _, _⟩) ?_ 63 ?_ di0_info ?_); rfl; rfl; intro wc hbc hgc hzc)
    | ((with_reducible refine wpList_storeB (o := ⟨none, .store 63 (.tmp 5) (.tmp 10), _, _, _, _⟩) ?_ 63 (.tmp 5) (.tmp 10) ?_ ?_ ?_ hbc IX.out HLX.out HOX.out ?_); rfl; rfl; rfl; rfl; intro wd hbd hgd hzd))
  have hB24 : Below w2.heap.size w2 wd := ((Below.refl _ w2).grown hgc (Nat.le_refl _) (by simp)).grown hgd (by omega) (fun k e => by cases e; exact Nat.le_refl _)
  have hI4 := HI2.out.below hB24
  have hba := hba.below hB24
  have HO4 := Lib.hid (Di.own_keep HO2.out (KpT.below hB24) (KpT.below hB24) (KpT.below hB24) (KpT.below hB24))
  have HB4 := Lib.hid (HB2.out.trans (hB24.mono HB2.out.size))
  clear hbc hgc hzc hgd hzd hB24
  refine (whole_any a n c l g wd _ hI4).mono ?_
  rintro e w5 ⟨rfl, rfl⟩
  clear hI4
  cases hq : allIn (nx gDi (some l))
  · have he := HF.out.2 hq
    go_wp2_with (first
      | ((with_reducible refine wpList_buildI (dst := some 14) HBZ.out ?_ ?_); rfl)
      | ((with_reducible refine wpList_storeB (o := ⟨none, .store 63 (.tmp 2) (.tmp 14), _, _, _, _⟩) ?_ 63 (.tmp 2) (.tmp 14) ?_ ?_ ?_ hba IZ.out rfl HOZ.out ?_); rfl; rfl; rfl; rfl; intro wz hbz hgz hzz))
    apply bodyPost_ret
    exact results_blk2 rfl _ _ _ _ _ _ rfl hbz Tryz.underlying63 rfl IZ.out
    rfl
    exact HGP.out _ di0 _ he di0_ok di0_own (HB4.out.grown hgz HB4.out.size (fun k e => by cases e; exact Nat.le_refl _))
  · have he := HF.out.1 hq
    go_wp2_with (first
      | ((with_reducible refine wpList_loadB (o := ⟨some 15, _, _, _, _, _⟩) ?_ 63 (.tmp 5) ?_ ?_ hbd Tryz.underlying63 ?_ IX.out ?_); rfl; rfl; rfl; rfl)
      | ((with_reducible refine wpList_storeB (o := ⟨none, .store 63 (.tmp 2) (.tmp 15), _, _, _, _⟩) ?_ 63 (.tmp 2) (.tmp 15) ?_ ?_ ?_ hba IX.out HLX.out HOX.out ?_); rfl; rfl; rfl; rfl; intro wz hbz hgz hzz))
    apply bodyPost_ret
    exact results_blk2 rfl _ _ _ _ _ _ rfl hbz Tryz.underlying63 rfl IX.out
    rfl
    exact HGP.out _ v _ he hvk (Di.own_keep HO4.out (KpT.grown hgz (fun i e => by cases e; exact hba.noT (by decide))) (KpT.grown hgz (fun i e => by cases e; exact hba.noT (by decide))) (KpT.grown hgz (fun i e => by cases e; exact hba.noT (by decide))) (KpT.grown hgz (fun i e => by cases e; exact hba.noT (by decide)))) (HB4.out.grown hgz HB4.out.size (fun k e => by cases e; exact Nat.le_refl _))
end
end Go.Proofs.YtoclahcibilbhaaGreat
