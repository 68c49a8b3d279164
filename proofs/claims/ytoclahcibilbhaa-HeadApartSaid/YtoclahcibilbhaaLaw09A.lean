/-
  The statement HeadApart of layer 9.
-/
import Derived.Test.YtoclahcibilbhaaHedL
namespace Go.Proofs.Ytoclahcibilbhaa
open Go.RowKit
set_option maxRecDepth 100000

theorem u8_xor_h (x y : UInt8) : bits .xor .u8 (x.toNat : Int) (y.toNat : Int) = (((x ^^^ y).toNat : Nat) : Int) := by
  rw [u8_xor_nat _ _ x.toNat_lt y.toNat_lt, UInt8.toNat_xor]
theorem hd_set_root {x : Hd} (hx : x.ok) (k : Nat) (hk : k < 32) (c : UInt8) : (hdc x).set (1 + k) (.int .u8 (c.toNat : Int)) = hdc ⟨x.ep, x.root.set k c, x.prev⟩ := by
  have h1 : k < (bs x.root).length := by rw [bs_length, hx.1]; exact hk
  unfold hdc
  rw [Nat.add_comm 1 k, List.set_cons_succ, List.set_append_left _ _ h1, bs_set _ _ _ (UInt8.toNat_lt c), UInt8.ofNat_toNat]
theorem hd_set_prev {x : Hd} (hx : x.ok) (k : Nat) (c : UInt8) : (hdc x).set (33 + k) (.int .u8 (c.toNat : Int)) = hdc ⟨x.ep, x.root, x.prev.set k c⟩ := by
  have h1 : (bs x.root).length = 32 := by rw [bs_length, hx.1]
  unfold hdc
  rw [show 33 + k = (32 + k) + 1 by omega, List.set_cons_succ, List.set_append_right _ _ (by omega), h1, Nat.add_sub_cancel_left, bs_set _ _ _ (UInt8.toNat_lt c), UInt8.ofNat_toNat]
/-- what is known of the world behind the turned byte -/
structure ApAt (w W : World) (g y : Hd) : Prop where
  ok : y.ok
  b4 : Blk W w.heap.size 25 (hdc g)
  b5 : Blk W (w.heap.size + 1) 25 (hdc y)
  bel : Below w.heap.size w W
theorem ApAt.below {w W W' : World} {g y : Hd} (h : ApAt w W g y) (hB : Below W.heap.size W W') : ApAt w W' g y := ⟨h.ok, h.b4.below hB, h.b5.below hB, Bt h.bel hB⟩

set_option maxHeartbeats 4000000 in
theorem walkHeadApart (w : World) (g : Hd) (hg : g.ok) (h : Hd) (hh : h.ok) (at_ : Int) (_wf2 : (Lit.int .i64 at_).wf = true) (by_ : Int) (wf3 : (Lit.int .u8 by_).wf = true) :
    Calls Try.prog 3 #[.agg (hdc g).toArray, .agg (hdc h).toArray, .int .i64 at_, .int .u8 by_] w (Yes9 w) := by
  have hb0 := (Blk.new w 25 (hdc g)).alloc (.cells (hdc h).toArray 25)
  have hb1 := Blk.new (w.alloc (.cells (hdc g).toArray 25)) 25 (hdc h)
  have hB1 : Below w.heap.size w ((w.alloc (.cells (hdc g).toArray 25)).alloc (.cells (hdc h).toArray 25)) := ((Below.refl _ w).alloc (Nat.le_refl _) _).alloc (by simp) _
  have hz : (w.alloc (.cells (hdc g).toArray 25)).heap.size = w.heap.size + 1 := by simp
  rw [hz] at hb1
  obtain ⟨by8, rfl⟩ : ∃ c : UInt8, by_ = (c.toNat : Int) := by
    have h : 0 ≤ by_ ∧ by_ ≤ 255 := by simpa [Lit.wf, IntKind.min, IntKind.max, IntKind.signed, IntKind.bits] using wf3
    refine ⟨UInt8.ofNat by_.toNat, ?_⟩
    have : (UInt8.ofNat by_.toNat).toNat = by_.toNat := by simp; omega
    omega
  have HG := Lib.hid hg
  have HH := Lib.hid hh
  have IG : Hid ((Try.prog.info? 25).map (·.size) = some (hdc g).length) := Lib.hid (by rw [hdc_length hg]; exact info_head0)
  have HW := Lib.hid hB1
  clear wf3 hz hg hh hB1
  have hcase : (∃ k : Nat, at_ = (k : Int) ∧ k < 32) ∨ (∃ k : Nat, at_ = (k : Int) + 32 ∧ k < 32) ∨ (at_ < 0 ∨ 64 ≤ at_) := by
    by_cases h0 : at_ < 0
    · exact .inr (.inr (.inl h0))
    · by_cases h1 : at_ < 32
      · exact .inl ⟨at_.toNat, by omega, by omega⟩
      · by_cases h2 : at_ < 64
        · exact .inr (.inl ⟨(at_ - 32).toNat, by omega, by omega⟩)
        · exact .inr (.inr (.inr (by omega)))
  have hP : Part (hdc h) 0 (hdc h) := fun j _ => by rw [Nat.zero_add]
  go_enter Try.func3, Try.ntmps3
  go_upto_region 1 with fail
  generalize hW0 : (w.alloc (.cells (hdc g).toArray 25)).alloc (.cells (hdc h).toArray 25) = w0 at *
  clear hW0
  rcases hcase with ⟨k, rfl, hk⟩ | ⟨k, rfl, hk⟩ | hcase
  case' inl =>
    have hk32 : ¬ (32 : Int) ≤ (k : Int) := by omega
    obtain ⟨x, hx0⟩ : ∃ x, h.root.getD k 0 = x := ⟨_, rfl⟩
    have hbx : (hdc h)[1 + k]? = some (.int .u8 (x.toNat : Int)) := by
      have := hP.hd1 HH.out k (by rw [bs_length, HH.out.1]; exact hk)
      rw [Nat.zero_add] at this
      rw [this, ← hx0]
      exact bs_at _ k (by rw [HH.out.1]; exact hk)
    have c0 := hb1.cell hbx
    have f0 := hb1.free (1 + k)
    have HS : ∀ z : Int, z = ((x ^^^ by8).toNat : Int) → Hid (ApAt w (w0.setCell ⟨w.heap.size + 1, 1 + k, none⟩ (.int .u8 z)) g ⟨h.ep, h.root.set k (x ^^^ by8), h.prev⟩) := fun z hz => Lib.hid (by
      subst hz
      refine ⟨⟨by simpa using HH.out.1, HH.out.2⟩, hb0.setOther _ _ (by simp), ?_, HW.out.setCell (by simp) _⟩
      have hs := hb1.set (1 + k) (.int .u8 ((x ^^^ by8).toNat : Int))
      rw [hd_set_root HH.out k hk] at hs
      exact hs)
    have hS := HS _ (u8_xor_h x by8)
    clear HS hbx hx0 hb0 hb1 hP
    go_upto_region 5 with fail
    generalize w0.setCell _ _ = w4 at *
    generalize (⟨h.ep, h.root.set k (x ^^^ by8), h.prev⟩ : Hd) = y at *
    clear c0 f0 hk hk32 HH
  case' inr.inl =>
    have hk0 : (0 : Int) ≤ (k : Int) + 32 := by omega
    have hk32 : ¬ (k : Int) + 32 < 32 := by omega
    have hk64 : (k : Int) + 32 < 64 := by omega
    have hk33 : (32 : Int) ≤ (k : Int) + 32 := by omega
    have hkw : wrap64 ((k : Int) + 32 - 32) = (k : Int) := by simp [wrap64]; omega
    obtain ⟨x, hx0⟩ : ∃ x, h.prev.getD k 0 = x := ⟨_, rfl⟩
    have hbx : (hdc h)[33 + k]? = some (.int .u8 (x.toNat : Int)) := by
      have := hP.hd2 HH.out k (by rw [bs_length, HH.out.2]; exact hk)
      rw [Nat.zero_add] at this
      rw [this, ← hx0]
      exact bs_at _ k (by rw [HH.out.2]; exact hk)
    have c0 := hb1.cell hbx
    have f0 := hb1.free (33 + k)
    have HS : ∀ z : Int, z = ((x ^^^ by8).toNat : Int) → Hid (ApAt w (w0.setCell ⟨w.heap.size + 1, 33 + k, none⟩ (.int .u8 z)) g ⟨h.ep, h.root, h.prev.set k (x ^^^ by8)⟩) := fun z hz => Lib.hid (by
      subst hz
      refine ⟨⟨HH.out.1, by simpa using HH.out.2⟩, hb0.setOther _ _ (by simp), ?_, HW.out.setCell (by simp) _⟩
      have hs := hb1.set (33 + k) (.int .u8 ((x ^^^ by8).toNat : Int))
      rw [hd_set_prev HH.out k] at hs
      exact hs)
    have hS := HS _ (u8_xor_h x by8)
    clear HS hbx hx0 hb0 hb1 hP
    go_upto_region 5 with fail
    generalize w0.setCell _ _ = w4 at *
    generalize (⟨h.ep, h.root, h.prev.set k (x ^^^ by8)⟩ : Hd) = y at *
    clear c0 f0 hk hk32 HH hk0 hk64 hk33 hkw
  case' inr.inr =>
    have hS : Hid (ApAt w w0 g h) := Lib.hid ⟨HH.out, hb0, hb1, HW.out⟩
    clear hb0 hb1 hP HH
    by_cases q1 : 32 ≤ at_
    case' pos =>
      have q0 : 0 ≤ at_ := by omega
      have q2 : ¬ at_ < 32 := by omega
      have q3 : ¬ at_ < 64 := by omega
      clear hcase
      go_upto_region 5 with fail
      clear q0 q1 q2 q3
    case' neg =>
      have q0 : ¬ 0 ≤ at_ := by omega
      clear hcase
      go_upto_region 5 with fail
      clear q0 q1
    all_goals
      generalize w0 = w4 at *
      generalize h = y at *
  all_goals
    clear HW
    have HY := Lib.hid hS.out.ok
    have IY : Hid ((Try.prog.info? 25).map (·.size) = some (hdc y).length) := Lib.hid (by rw [hdc_length HY.out]; exact info_head0)
    have hb4 := hS.out.b4
    cases vg : hvalid g
    · have VG := Lib.hid vg
      clear vg
      go_wp2_with (first | ((with_reducible refine wpList_loadB (o := ⟨some 46, _, _, _, _, _⟩) ?_ 25 (.tmp 4) ?_ ?_ hb4 Try.underlying25 ?_ IG.out ?_); rfl; rfl; rfl; rfl))
      refine (hbytes_no w4 g HG.out VG.out).mono ?_
      rintro e w5 ⟨rfl, hB5⟩
      have HA5 := Lib.hid (hS.out.below hB5)
      have hb5 := HA5.out.b5
      clear hB5 hS hb4
      cases vy : hvalid y
      · have VY := Lib.hid vy
        clear vy
        go_wp2_with (first | ((with_reducible refine wpList_loadB (o := ⟨some 51, _, _, _, _, _⟩) ?_ 25 (.tmp 5) ?_ ?_ hb5 Try.underlying25 ?_ IY.out ?_); rfl; rfl; rfl; rfl))
        refine (hbytes_no w5 y HY.out VY.out).mono ?_
        rintro e w6 ⟨rfl, hB6⟩
        have HA6 := Lib.hid (HA5.out.below hB6)
        clear hB6 HA5 hb5
        go_wp2_with fail
        refine (lays_any w6).mono ?_
        rintro e w7 ⟨rfl, hB7⟩
        have HF := Lib.hid (Bt HA6.out.bel hB7)
        clear hB7
        go_wp2_with fail
        go_ret
        exact Yes9.mk HF.out
      · have VY := Lib.hid vy
        clear vy
        go_wp2_with (first | ((with_reducible refine wpList_loadB (o := ⟨some 51, _, _, _, _, _⟩) ?_ 25 (.tmp 5) ?_ ?_ hb5 Try.underlying25 ?_ IY.out ?_); rfl; rfl; rfl; rfl))
        refine (hbytes_yes w5 y HY.out VY.out).mono ?_
        rintro e w6 ⟨a, n, c, _, rfl, hO, hB6⟩
        have HA6 := Lib.hid (HA5.out.below hB6)
        clear hB6 HA5 hb5 hO
        go_wp2_with fail
        refine (lays_any w6).mono ?_
        rintro e w7 ⟨rfl, hB7⟩
        have HF := Lib.hid (Bt HA6.out.bel hB7)
        clear hB7
        go_wp2_with fail
        go_ret
        exact Yes9.mk HF.out
    · have VG := Lib.hid vg
      clear vg
      go_wp2_with (first | ((with_reducible refine wpList_loadB (o := ⟨some 46, _, _, _, _, _⟩) ?_ 25 (.tmp 4) ?_ ?_ hb4 Try.underlying25 ?_ IG.out ?_); rfl; rfl; rfl; rfl))
      refine (hbytes_yes w4 g HG.out VG.out).mono ?_
      rintro e w5 ⟨a, n, c, _, rfl, hO, hB5⟩
      have HA5 := Lib.hid (hS.out.below hB5)
      have hb5 := HA5.out.b5
      have hr5 := Lib.hid hO.rd
      clear hB5 hS hb4 hO
      cases vy : hvalid y
      · have VY := Lib.hid vy
        clear vy
        go_wp2_with (first | ((with_reducible refine wpList_loadB (o := ⟨some 51, _, _, _, _, _⟩) ?_ 25 (.tmp 5) ?_ ?_ hb5 Try.underlying25 ?_ IY.out ?_); rfl; rfl; rfl; rfl))
        refine (hbytes_no w5 y HY.out VY.out).mono ?_
        rintro e w6 ⟨rfl, hB6⟩
        have HA6 := Lib.hid (HA5.out.below hB6)
        clear hB6 HA5 hb5
        go_wp2_with fail
        refine (lays_any w6).mono ?_
        rintro e w7 ⟨rfl, hB7⟩
        have HF := Lib.hid (Bt HA6.out.bel hB7)
        clear hB7
        go_wp2_with fail
        go_ret
        exact Yes9.mk HF.out
      · have VY := Lib.hid vy
        clear vy
        go_wp2_with (first | ((with_reducible refine wpList_loadB (o := ⟨some 51, _, _, _, _, _⟩) ?_ 25 (.tmp 5) ?_ ?_ hb5 Try.underlying25 ?_ IY.out ?_); rfl; rfl; rfl; rfl))
        refine (hbytes_yes w5 y HY.out VY.out).mono ?_
        rintro e w6 ⟨a2, n2, c2, _, rfl, hO, hB6⟩
        have HA6 := Lib.hid (HA5.out.below hB6)
        have hr6 := Lib.hid hO.rd
        have hr56 := Lib.hid (hr5.out.below hB6)
        have HQ := Lib.hid (encH_eq HG.out HY.out VG.out VY.out)
        clear hB6 HA5 hb5 hO hr5
        go_wp2_with fail
        -- REGION apart 8
        refine wp_region_held_drew (S := fun W => Below w6.heap.size w6 W) (by kernel_rfl) ((Below.refl _ w6).drew) (fun hHeld => ?_)
        refine wpAnyH_ready (rs := [0]) (by kernel_rfl) (by simp) ?_
        refine AllReadyH.cons (o := ⟨some 80, .call { callee := .value (.func 5), args := #[], argTypes := #[] }, _, _, _, none⟩) rfl (fun K hK => ?_) AllReadyH.nil
        refine step_ofR (by rfl) ?_
        go_simp
        refine (lays_any _).mono ?_
        rintro x1 W1 ⟨rfl, hB1⟩
        refine hK.out _ _ (Bt hHeld hB1) (fun hHeld => ?_)
        clear hK K
        try simp only [Act.put, List.setIfInBounds_toArray, List.set_cons_zero, List.set_cons_succ]
        refine wpAnyH_take (i := 1) (oi := ⟨some 81, .move (.tmp 80), _, _, _, none⟩) (v := ?_) rfl (by kernel_rfl) (by kernel_rfl) (by kernel_rfl) (fun _ _ _ h => h) (Or.inl ⟨by rfl, ?_⟩) hHeld ?_
        rotate_left
        · intro W _; go_simp; try with_reducible rfl
        try simp only [Act.put, List.setIfInBounds_toArray, List.set_cons_zero, List.set_cons_succ]
        refine wpAnyH_take (i := 2) (oi := ⟨some 82, .move (.tmp 9), _, _, _, some (1, true)⟩) (v := ?_) rfl (by kernel_rfl) (by kernel_rfl) (by kernel_rfl) (fun _ _ _ h => h) (Or.inl ⟨by rfl, ?_⟩) hHeld ?_
        rotate_left
        · intro W _; go_simp; try with_reducible rfl
        try simp only [Act.put, List.setIfInBounds_toArray, List.set_cons_zero, List.set_cons_succ]
        refine wpAnyH_take (i := 3) (oi := ⟨some 83, .convert 26 9 (.tmp 82), _, _, _, some (1, true)⟩) (v := ?_) rfl (by kernel_rfl) (by kernel_rfl) (by kernel_rfl) (fun _ _ _ h => h) (Or.inl ⟨by rfl, ?_⟩) hHeld ?_
        rotate_left
        · intro W hS; have q0 := (hr56.out.below hS).conv; go_simp; try with_reducible rfl
        try simp only [Act.put, List.setIfInBounds_toArray, List.set_cons_zero, List.set_cons_succ]
        refine wpAnyH_take (i := 4) (oi := ⟨some 84, .move (.tmp 11), _, _, _, some (1, true)⟩) (v := ?_) rfl (by kernel_rfl) (by kernel_rfl) (by kernel_rfl) (fun _ _ _ h => h) (Or.inl ⟨by rfl, ?_⟩) hHeld ?_
        rotate_left
        · intro W _; go_simp; try with_reducible rfl
        try simp only [Act.put, List.setIfInBounds_toArray, List.set_cons_zero, List.set_cons_succ]
        refine wpAnyH_take (i := 5) (oi := ⟨some 85, .convert 26 9 (.tmp 84), _, _, _, some (1, true)⟩) (v := ?_) rfl (by kernel_rfl) (by kernel_rfl) (by kernel_rfl) (fun _ _ _ h => h) (Or.inl ⟨by rfl, ?_⟩) hHeld ?_
        rotate_left
        · intro W hS; have q0 := (hr6.out.below hS).conv; go_simp; try with_reducible rfl
        try simp only [Act.put, List.setIfInBounds_toArray, List.set_cons_zero, List.set_cons_succ]
        refine wpAnyH_take (i := 6) (oi := ⟨some 86, .binOp .eql 9 (.tmp 83) (.tmp 85) 9, _, _, _, some (1, true)⟩) (v := ?_) rfl (by kernel_rfl) (by kernel_rfl) (by kernel_rfl) (fun _ _ _ h => h) (Or.inl ⟨by rfl, ?_⟩) hHeld ?_
        rotate_left
        · intro W hS; have q0 := HQ.out; go_simp; try with_reducible rfl
        try simp only [Act.put, List.setIfInBounds_toArray, List.set_cons_zero, List.set_cons_succ]
        refine wpAnyH_take (i := 7) (oi := ⟨some 87, .load 25 (.tmp 4), _, _, _, some (1, true)⟩) (v := .agg (hdc g).toArray) rfl (by kernel_rfl) (by kernel_rfl) (by kernel_rfl) (fun _ _ _ h => h) (yieldsIf_load_mid (by rfl) _ _ rfl w.heap.size 0 rfl (hdc g) _ (fun W h => (HA6.out.below h).b4.all0) Try.underlying25 rfl IG.out) hHeld ?_
        try simp only [Act.put, List.setIfInBounds_toArray, List.set_cons_zero, List.set_cons_succ]
        refine wpAnyH_take (i := 8) (oi := ⟨some 88, .load 25 (.tmp 5), _, _, _, some (1, true)⟩) (v := .agg (hdc y).toArray) rfl (by kernel_rfl) (by kernel_rfl) (by kernel_rfl) (fun _ _ _ h => h) (yieldsIf_load_mid (by rfl) _ _ rfl (w.heap.size + 1) 0 rfl (hdc y) _ (fun W h => (HA6.out.below h).b5.all0) Try.underlying25 rfl IY.out) hHeld ?_
        try simp only [Act.put, List.setIfInBounds_toArray, List.set_cons_zero, List.set_cons_succ]
        refine wpAnyH_take (i := 9) (oi := ⟨some 89, .binOp .eql 25 (.tmp 87) (.tmp 88) 25, _, _, _, some (1, true)⟩) (v := .bool (eqHd g y)) rfl (by kernel_rfl) (by kernel_rfl) (by kernel_rfl) (fun _ _ _ h => h) (yieldsIf_eqH (by rfl) .eql 25 25 (.tmp 87) (.tmp 88) rfl _ _ rfl rfl guard_head _ (fun W => eql_head W g y HG.out HY.out)) hHeld ?_
        try simp only [Act.put, List.setIfInBounds_toArray, List.set_cons_zero, List.set_cons_succ]
        refine wpAnyH_take (i := 10) (oi := ⟨some 90, .binOp .eql 4 (.tmp 86) (.tmp 89) 4, _, _, _, some (1, true)⟩) (v := ?_) rfl (by kernel_rfl) (by kernel_rfl) (by kernel_rfl) (fun _ _ _ h => h) (Or.inl ⟨by rfl, ?_⟩) hHeld ?_
        rotate_left
        · intro W _; go_simp; try with_reducible rfl
        try simp only [Act.put, List.setIfInBounds_toArray, List.set_cons_zero, List.set_cons_succ]
        refine wpAnyH_take (i := 11) (oi := ⟨some 91, .pick (.tmp 81) (.tmp 90) (.const (.bool false)), _, _, _, none⟩) (v := ?_) rfl (by kernel_rfl) (by kernel_rfl) (by kernel_rfl) (fun _ _ _ h => h) (Or.inl ⟨by rfl, ?_⟩) hHeld ?_
        rotate_left
        · intro W _; go_simp; try with_reducible rfl
        try simp only [Act.put, List.setIfInBounds_toArray, List.set_cons_zero, List.set_cons_succ]
        refine wpAnyH_take (i := 12) (oi := ⟨some 8, .assign (.tmp 91), _, _, _, none⟩) (v := ?_) rfl (by kernel_rfl) (by kernel_rfl) (by kernel_rfl) (fun _ _ _ h => h) (Or.inl ⟨by rfl, ?_⟩) hHeld ?_
        rotate_left
        · intro W _; go_simp; try with_reducible rfl
        try simp only [Act.put, List.setIfInBounds_toArray, List.set_cons_zero, List.set_cons_succ]
        refine wpAnyH_done (by kernel_rfl) ?_ _
        -- END apart
        have HF := Lib.hid (Bt HA6.out.bel hHeld)
        clear hHeld
        go_wp2_with fail
        go_ret
        exact Yes9.mk HF.out
end Go.Proofs.Ytoclahcibilbhaa
