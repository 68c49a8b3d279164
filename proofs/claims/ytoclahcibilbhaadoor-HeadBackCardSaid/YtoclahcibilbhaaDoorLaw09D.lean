/-
  The statement HeadBack of layer 9.
-/
import Derived.Test.YtoclahcibilbhaaDoorLaw09B
namespace Go.Proofs.YtoclahcibilbhaaDoor
open Go.RowKit
set_option maxRecDepth 100000

theorem u8_xor_b (x y : UInt8) : bits .xor .u8 (x.toNat : Int) (y.toNat : Int) = (((x ^^^ y).toNat : Nat) : Int) := by
  rw [u8_xor_nat _ _ x.toNat_lt y.toNat_lt, UInt8.toNat_xor]
theorem sg_set_sign {s : Sg} (hs : s.ok) (k : Nat) (c : UInt8) : (sgc s).set (65 + k) (.int .u8 (c.toNat : Int)) = sgc ⟨s.hd, s.sign.set k c⟩ := by
  have h1 := hdc_length hs.1
  unfold sgc
  rw [List.set_append_right _ _ (by omega), h1, Nat.add_sub_cancel_left, bs_set _ _ _ (UInt8.toNat_lt c), UInt8.ofNat_toNat]
theorem sg_set_root {s : Sg} (hs : s.ok) (k : Nat) (hk : k < 32) (c : UInt8) : (sgc s).set (1 + k) (.int .u8 (c.toNat : Int)) = sgc ⟨⟨s.hd.ep, s.hd.root.set k c, s.hd.prev⟩, s.sign⟩ := by
  have h1 := hdc_length hs.1
  have h2 : k < (bs s.hd.root).length := by rw [bs_length, hs.1.1]; exact hk
  unfold sgc
  rw [List.set_append_left _ _ (by omega)]
  unfold hdc
  rw [Nat.add_comm 1 k, List.set_cons_succ, List.set_append_left _ _ h2, bs_set _ _ _ (UInt8.toNat_lt c), UInt8.ofNat_toNat]
theorem sg_set_prev {s : Sg} (hs : s.ok) (k : Nat) (hk : k < 32) (c : UInt8) : (sgc s).set (33 + k) (.int .u8 (c.toNat : Int)) = sgc ⟨⟨s.hd.ep, s.hd.root, s.hd.prev.set k c⟩, s.sign⟩ := by
  have h1 := hdc_length hs.1
  have h2 : (bs s.hd.root).length = 32 := by rw [bs_length, hs.1.1]
  unfold sgc
  rw [List.set_append_left _ _ (by omega)]
  unfold hdc
  rw [show 33 + k = (32 + k) + 1 by omega, List.set_cons_succ, List.set_append_right _ _ (by omega), h2, Nat.add_sub_cancel_left, bs_set _ _ _ (UInt8.toNat_lt c), UInt8.ofNat_toNat]
/-- what is known behind the turned byte -/
structure BkAt (w W : World) (R : Nat) (x : Hd) (y : Sg) : Prop where
  ok : y.ok
  ep : y.hd.ep = x.ep
  blk : Blk W R 36 (sgc y)
  bel : Below w.heap.size w W
theorem BkAt.below {w W W' : World} {R : Nat} {x : Hd} {y : Sg} (h : BkAt w W R x y) (hB : Below W.heap.size W W') : BkAt w W' R x y := ⟨h.ok, h.ep, h.blk.below hB, Bt h.bel hB⟩
theorem chk_may {k : ByteArray} {x : Hd} {y : Sg} (hm : mayH k x = true) (he : y.hd.ep = x.ep) : mayH k y.hd = true ∧ hvalid y.hd = true ∧ chkH k y = if hmac (byt k) (encH y.hd) == y.sign then 0 else 81 := by
  have h1 : hvalid y.hd = hvalid x := by unfold hvalid; rw [he]
  have h2 : keyok k = true ∧ hvalid x = true := by simpa [mayH] using hm
  have h3 : mayH k y.hd = true := by rw [mayH, h1, h2.1, h2.2]; rfl
  exact ⟨h3, by rw [h1, h2.2], by unfold chkH; rw [h3]; rfl⟩

set_option maxHeartbeats 8000000 in
theorem walkHeadBack (w : World) (hT : Tab w 0) (k : ByteArray) (_hk : k.size ≤ maxLen) (x : Hd) (hx : x.ok) (at_ : Int) (_wf2 : (Lit.int .i64 at_).wf = true) (by_ : Int) (wf3 : (Lit.int .u8 by_).wf = true) :
    Calls Tryd.prog 6 #[.string k, .agg (hdc x).toArray, .int .i64 at_, .int .u8 by_] w (Yes9 w) := by
  have hb0 := Blk.new w 25 (hdc x)
  have hB0 : Below w.heap.size w (w.alloc (.cells (hdc x).toArray 25)) := (Below.refl _ w).alloc (Nat.le_refl _) _
  by_cases hl : (65536 : Int) < (k.size : Int)
  · go_enter Tryd.func6, Tryd.ntmps6
    go_wp2_with fail
    go_ret
    exact ⟨rfl, hB0⟩
  obtain ⟨by8, rfl⟩ : ∃ c : UInt8, by_ = (c.toNat : Int) := by
    have h : 0 ≤ by_ ∧ by_ ≤ 255 := by simpa [Lit.wf, IntKind.min, IntKind.max, IntKind.signed, IntKind.bits] using wf3
    refine ⟨UInt8.ofNat by_.toNat, ?_⟩
    have : (UInt8.ofNat by_.toNat).toNat = by_.toNat := by simp; omega
    omega
  have IS : Hid ((Tryd.prog.info? 25).map (·.size) = some (hdc x).length) := Lib.hid (by rw [hdc_length hx]; exact info_head0)
  have hok := sgnP_ok k hx
  have HOK := Lib.hid hok
  have HX := Lib.hid hx
  have IX : Hid ((Tryd.prog.info? 36).map (·.size) = some (sgc (sgnP k x).1).length) := Lib.hid (by rw [sgc_length hok]; exact info_signed)
  have HLX : Hid ((sgc sgz).length = (sgc (sgnP k x).1).length) := Lib.hid (by rw [sgc_length hok, sgc_length sgz_ok])
  have HOX : Hid (∀ v ∈ sgc (sgnP k x).1, v.oneCell' = true) := Lib.hid (sgc_one _)
  have S1 := Lib.hid (fun W (h : Below w.heap.size w W) => hsign_any W (hT.below h) k x hx)
  have SG := Lib.hid (fun W (h : Below w.heap.size w W) => signs_any W (hT.below h))
  have CK := Lib.hid (fun W (h : Below w.heap.size w W) (s : Sg) (hs : s.ok) => hcheck_any W (hT.below h) k s hs)
  have HT := Lib.hid (fun W (h : Below w.heap.size w W) => hT.below h)
  have HPX : Hid ((mayH k x = true ∧ (sgnP k x).1 = sgnI k x ∧ (sgnP k x).2 = 0) ∨ (sgnP k x).2 = 80) := Lib.hid (by
    unfold sgnP
    cases hm : mayH k x
    · exact .inr rfl
    · exact .inl ⟨rfl, rfl, rfl⟩)
  have HKN : Hid (k.size ≤ 65536) := Lib.hid (by omega)
  clear hT hok wf3 hx
  generalize (sgnP k x).1 = y at *
  generalize (sgnP k x).2 = er at *
  go_enter Tryd.func6, Tryd.ntmps6
  go_wp2_with ((with_reducible refine wpList_loadB (o := ⟨some 20, _, _, _, _, _⟩) ?_ 25 (.tmp 5) ?_ ?_ hb0 Tryd.underlying25 ?_ IS.out ?_); rfl; rfl; rfl; rfl)
  clear hl
  generalize w.alloc (.cells (hdc x).toArray 25) = w0 at *
  refine (S1.out w0 hB0).mono ?_
  rintro e w1 ⟨rfl, hB1⟩
  have HB1 := Lib.hid (Bt hB0 hB1)
  clear hb0 hB0 hB1 S1
  rcases HPX.out with ⟨hm, rfl, rfl⟩ | rfl
  · have HM := Lib.hid hm
    clear hm HPX
    have HCS : Hid (chkH k (sgnI k x) = 0) := Lib.hid (chk_self HM.out)
    have CS := Lib.hid (fun W (h : Below w.heap.size w W) => CK.out W h (sgnI k x) HOK.out)
    rw [HCS.out] at CS
    have HEP : Hid ((sgnI k x).hd.ep = x.ep) := Lib.hid rfl
    generalize sgnI k x = s at *
    go_wp2_with (first
      | ((with_reducible refine wpList_allocB (o := ⟨some 9, _, _, _, _, _⟩) ?_ 36 ?_ sgz_info ?_); rfl; rfl; intro w2 hd2 hg2 hz2)
      | ((with_reducible refine wpList_storeB (o := ⟨none, .store 36 (.tmp 9) (.tmp 22), _, _, _, _⟩) ?_ 36 (.tmp 9) (.tmp 22) ?_ ?_ ?_ hd2 IX.out HLX.out HOX.out ?_); rfl; rfl; rfl; rfl; intro w3 hd3 hg3 hz3; have HB3 := Lib.hid ((HB1.out.grown hg2 HB1.out.size (by simp)).grown hg3 (by have := HB1.out.size; omega) (fun k e => by cases e; exact HB1.out.size)); clear hz2 hz3)
      | ((with_reducible refine wpList_loadB (o := ⟨some 35, _, _, _, _, _⟩) ?_ 36 (.tmp 9) ?_ ?_ hd3 Tryd.underlying36 ?_ IX.out ?_); rfl; rfl; rfl; rfl))
    refine (CS.out w3 HB3.out).mono ?_
    rintro e w4 ⟨rfl, hB4⟩
    have hd4 := hd3.below hB4
    have HB4 := Lib.hid (Bt HB3.out hB4)
    clear hd2 hg2 hd3 hg3 hB4 HB3
    generalize w1.heap.size = R at *
    by_cases hout : at_ < 0 ∨ 96 ≤ at_ ∨ by8 = 0
    · have HEND : Hid True := Lib.hid trivial
      by_cases h1 : at_ < 0
      case' pos => skip
      case' neg =>
        by_cases h2 : 96 ≤ at_
        case' pos => skip
        case' neg =>
          obtain rfl : by8 = 0 := by rcases hout with h | h | h; exact absurd h h1; exact absurd h h2; exact h
          have h3 : ((UInt8.toNat 0 : Nat) : Int) = 0 := rfl
      all_goals
        clear hout
        go_wp2_with fail
        refine (SG.out w4 HB4.out).mono ?_
        rintro e w5 ⟨rfl, hB5⟩
        have hd5 := hd4.below hB5
        have HB5 := Lib.hid (Bt HB4.out hB5)
        clear hB5 hd4
        go_wp2_with fail
        refine (lays_any w5).mono ?_
        rintro e w6 ⟨rfl, hB6⟩
        have hd6 := hd5.below hB6
        have HB6 := Lib.hid (Bt HB5.out hB6)
        clear hB6 hd5
        go_wp2_with ((with_reducible refine wpList_loadR (o := ⟨some 56, _, _, _, _, _⟩) ?_ 36 (.tmp 9) ?_ ?_ hd6 Tryd.underlying36 ?_ IX.out ?_); rfl; rfl; rfl; rfl)
        refine (CS.out w6 HB6.out).mono ?_
        rintro e w7 ⟨rfl, hB7⟩
        have HB7 := Lib.hid (Bt HB6.out hB7)
        clear hB7 hd6
        go_wp2_with fail
        go_ret
        exact ⟨rfl, HB7.out⟩
    · have h1 : ¬ at_ < 0 := by omega
      have h2 : ¬ 96 ≤ at_ := by omega
      have h3 : ¬ by8 = 0 := fun e => hout (.inr (.inr e))
      have h4 : ((by8.toNat : Int) == 0) = false := by
        have : by8.toNat ≠ 0 := fun e => h3 (by rw [← UInt8.ofNat_toNat (x := by8), e]; rfl)
        simpa using this
      clear hout h3
      obtain ⟨j, hj, hcase⟩ : ∃ j : Nat, j < 32 ∧ (at_ = (j : Int) ∨ at_ = (j : Int) + 32 ∨ at_ = (j : Int) + 64) := by
        by_cases a1 : at_ < 32
        · exact ⟨at_.toNat, by omega, .inl (by omega)⟩
        · by_cases a2 : at_ < 64
          · exact ⟨(at_ - 32).toNat, by omega, .inr (.inl (by omega))⟩
          · exact ⟨(at_ - 64).toNat, by omega, .inr (.inr (by omega))⟩
      have hP : Part (sgc s) 0 (sgc s) := fun j _ => by rw [Nat.zero_add]
      have hz4 : w.heap.size ≤ w4.heap.size := HB4.out.size
      have HR2 := Lib.hid hz4
      clear hz4
      go_upto_region 9 with (first
        | ((with_reducible refine wpList_loadB (o := ⟨some 60, _, _, _, _, _⟩) ?_ 36 (.tmp 9) ?_ ?_ hd4 Tryd.underlying36 ?_ IX.out ?_); rfl; rfl; rfl; rfl)
        | ((with_reducible refine wpList_allocB (o := ⟨some 11, _, _, _, _, _⟩) ?_ 36 ?_ sgz_info ?_); rfl; rfl; intro w5 hd5 hg5 hz5)
        | ((with_reducible refine wpList_storeB (o := ⟨none, .store 36 (.tmp 11) (.tmp 60), _, _, _, _⟩) ?_ 36 (.tmp 11) (.tmp 60) ?_ ?_ ?_ hd5 IX.out HLX.out HOX.out ?_); rfl; rfl; rfl; rfl; intro w6 hd6 hg6 hz6; have HB6 := Lib.hid ((HB4.out.grown hg5 HB4.out.size (by simp)).grown hg6 (by have := HB4.out.size; omega) (fun k e => by cases e; exact HB4.out.size)); clear hz5 hz6))
      generalize w4.heap.size = R2 at *
      clear hd4 hd5 hg5 hg6
      have hj0 : ¬ (j : Int) < 0 := by omega
      rcases hcase with rfl | rfl | rfl
      case' inl =>
        have r1 : ((j : Int)).tdiv 32 = 0 := by rw [Int.tdiv_eq_ediv_of_nonneg (by omega)]; omega
        have r2 : ((j : Int)).tmod 32 = (j : Int) := by rw [Int.tmod_eq_emod_of_nonneg (by omega)]; omega
        have r3 : ((j : Int)) / 32 = 0 := by omega
        have r4 : ((j : Int)) % 32 = (j : Int) := by omega
        obtain ⟨c, hc0⟩ : ∃ c, s.sign.getD j 0 = c := ⟨_, rfl⟩
        have hbx : (sgc s)[65 + j]? = some (.int .u8 (c.toNat : Int)) := by
          have := hP.sg1 HOK.out j (by rw [bs_length, HOK.out.2]; exact hj)
          rw [Nat.zero_add] at this
          rw [this, ← hc0]
          exact bs_at _ j (by rw [HOK.out.2]; exact hj)
        have c0 := hd6.cell hbx
        have f0 := hd6.free (65 + j)
        have HS : ∀ z : Int, z = ((c ^^^ by8).toNat : Int) → Hid (BkAt w (w6.setCell ⟨R2, 65 + j, none⟩ (.int .u8 z)) R2 x ⟨s.hd, s.sign.set j (c ^^^ by8)⟩) := fun z hz => Lib.hid (by
          subst hz
          have hs := hd6.set (65 + j) (.int .u8 ((c ^^^ by8).toNat : Int))
          rw [sg_set_sign HOK.out j] at hs
          exact ⟨by { refine ⟨⟨?_, ?_⟩, ?_⟩ <;> simp [HOK.out.1.1, HOK.out.1.2, HOK.out.2] }, HEP.out, hs, HB6.out.setCell HR2.out _⟩)
        have hS := HS _ (u8_xor_b c by8)
        clear HS hbx hc0
        go_upto_region 16 with fail
        generalize w6.setCell _ _ = w7 at *
        generalize (⟨s.hd, s.sign.set j (c ^^^ by8)⟩ : Sg) = y at *
        clear r1 r2 r3 r4 c0 f0 hd6 HB6 HR2
      case' inr.inl =>
        have r1 : ((j : Int) + 32).tdiv 32 = 1 := by rw [Int.tdiv_eq_ediv_of_nonneg (by omega)]; omega
        have r2 : ((j : Int) + 32).tmod 32 = (j : Int) := by rw [Int.tmod_eq_emod_of_nonneg (by omega)]; omega
        have r3 : ((j : Int) + 32) / 32 = 1 := by omega
        have r4 : ((j : Int) + 32) % 32 = (j : Int) := by omega
        obtain ⟨c, hc0⟩ : ∃ c, s.hd.root.getD j 0 = c := ⟨_, rfl⟩
        have hbx : (sgc s)[1 + j]? = some (.int .u8 (c.toNat : Int)) := by
          have := hP.sg0.hd1 HOK.out.1 j (by rw [bs_length, HOK.out.1.1]; exact hj)
          rw [Nat.zero_add] at this
          rw [this, ← hc0]
          exact bs_at _ j (by rw [HOK.out.1.1]; exact hj)
        have c0 := hd6.cell hbx
        have f0 := hd6.free (1 + j)
        have HS : ∀ z : Int, z = ((c ^^^ by8).toNat : Int) → Hid (BkAt w (w6.setCell ⟨R2, 1 + j, none⟩ (.int .u8 z)) R2 x ⟨⟨s.hd.ep, s.hd.root.set j (c ^^^ by8), s.hd.prev⟩, s.sign⟩) := fun z hz => Lib.hid (by
          subst hz
          have hs := hd6.set (1 + j) (.int .u8 ((c ^^^ by8).toNat : Int))
          rw [sg_set_root HOK.out j hj] at hs
          exact ⟨by { refine ⟨⟨?_, ?_⟩, ?_⟩ <;> simp [HOK.out.1.1, HOK.out.1.2, HOK.out.2] }, HEP.out, hs, HB6.out.setCell HR2.out _⟩)
        have hS := HS _ (u8_xor_b c by8)
        clear HS hbx hc0
        go_upto_region 16 with fail
        generalize w6.setCell _ _ = w7 at *
        generalize (⟨⟨s.hd.ep, s.hd.root.set j (c ^^^ by8), s.hd.prev⟩, s.sign⟩ : Sg) = y at *
        clear r1 r2 r3 r4 c0 f0 hd6 HB6 HR2
      case' inr.inr =>
        have r1 : ((j : Int) + 64).tdiv 32 = 2 := by rw [Int.tdiv_eq_ediv_of_nonneg (by omega)]; omega
        have r2 : ((j : Int) + 64).tmod 32 = (j : Int) := by rw [Int.tmod_eq_emod_of_nonneg (by omega)]; omega
        have r3 : ((j : Int) + 64) / 32 = 2 := by omega
        have r4 : ((j : Int) + 64) % 32 = (j : Int) := by omega
        obtain ⟨c, hc0⟩ : ∃ c, s.hd.prev.getD j 0 = c := ⟨_, rfl⟩
        have hbx : (sgc s)[33 + j]? = some (.int .u8 (c.toNat : Int)) := by
          have := hP.sg0.hd2 HOK.out.1 j (by rw [bs_length, HOK.out.1.2]; exact hj)
          rw [Nat.zero_add] at this
          rw [this, ← hc0]
          exact bs_at _ j (by rw [HOK.out.1.2]; exact hj)
        have c0 := hd6.cell hbx
        have f0 := hd6.free (33 + j)
        have HS : ∀ z : Int, z = ((c ^^^ by8).toNat : Int) → Hid (BkAt w (w6.setCell ⟨R2, 33 + j, none⟩ (.int .u8 z)) R2 x ⟨⟨s.hd.ep, s.hd.root, s.hd.prev.set j (c ^^^ by8)⟩, s.sign⟩) := fun z hz => Lib.hid (by
          subst hz
          have hs := hd6.set (33 + j) (.int .u8 ((c ^^^ by8).toNat : Int))
          rw [sg_set_prev HOK.out j hj] at hs
          exact ⟨by { refine ⟨⟨?_, ?_⟩, ?_⟩ <;> simp [HOK.out.1.1, HOK.out.1.2, HOK.out.2] }, HEP.out, hs, HB6.out.setCell HR2.out _⟩)
        have hS := HS _ (u8_xor_b c by8)
        clear HS hbx hc0
        go_upto_region 16 with fail
        generalize w6.setCell _ _ = w7 at *
        generalize (⟨⟨s.hd.ep, s.hd.root, s.hd.prev.set j (c ^^^ by8)⟩, s.sign⟩ : Sg) = y at *
        clear r1 r2 r3 r4 c0 f0 hd6 HB6 HR2
      all_goals
        clear h1 h2 h4 hj hj0 hP HOK IX HLX HOX HCS CS HEP
        have HYK := Lib.hid hS.out.ok
        have HCM := Lib.hid (chk_may HM.out hS.out.ep)
        have IH : Hid ((Tryd.prog.info? 25).map (·.size) = some (hdc y.hd).length) := Lib.hid (by rw [hdc_length HYK.out.1]; exact info_head0)
        have IY : Hid ((Tryd.prog.info? 36).map (·.size) = some (sgc y).length) := Lib.hid (by rw [sgc_length HYK.out]; exact info_signed)
        have ID : Hid ((Tryd.prog.info? 23).map (·.size) = some (bs y.sign).length) := Lib.hid (by rw [info_digest, bs_length, HYK.out.2])
        have hp0 := (hS.out.blk.sgp HYK.out).1
        go_wp2_with ((with_reducible refine wpList_loadMH (o := ⟨some 108, _, _, _, _, _⟩) ?_ R2 0 25 (.tmp 107) ?_ ?_ hp0 Tryd.underlying25 ?_ IH.out ?_); rfl; rfl; rfl; rfl)
        refine (hbytes_yes w7 y.hd HYK.out.1 HCM.out.2.1).mono ?_
        rintro e w8 ⟨a, n, c2, hn, rfl, hO, hB8⟩
        have HS8 := Lib.hid (hS.out.below hB8)
        have hr8 := Lib.hid hO.rd
        have HNN : Hid (n ≤ 66) := Lib.hid (by rw [hn.out]; exact (encH_len HYK.out.1 HCM.out.2.1).2)
        have hd8 := HS8.out.blk
        clear hO hB8 hS hp0 hn
        go_wp2_with ((with_reducible refine wpList_loadB (o := ⟨some 113, _, _, _, _, _⟩) ?_ 36 (.tmp 11) ?_ ?_ hd8 Tryd.underlying36 ?_ IY.out ?_); rfl; rfl; rfl; rfl)
        refine (CK.out w8 HS8.out.bel y HYK.out).mono ?_
        rw [HCM.out.2.2]
        rintro e w9 ⟨rfl, hB9⟩
        have HS9 := Lib.hid (HS8.out.below hB9)
        have hr9 := Lib.hid (hr8.out.below hB9)
        have hd9 := Lib.hid HS9.out.blk
        have HD := Lib.hid (eqD · (hmac (byt k) (encH y.hd)) y.sign (hmac_length _ _) HYK.out.2)
        have hkc := fun (w : World) (s : ByteArray) => run_bytes_of_string (P := Tryd.prog) w 9 26 5 s Tryd.underlying9 Tryd.underlying26 Tryd.underlying5
        clear hd8 hB9 HS8 hr8
        cases hq : (hmac (byt k) (encH y.hd) == y.sign)
        case' false =>
          rw [hq] at HD
          simp only [Bool.false_eq_true, if_false]
          clear hq
          go_wp2_with fail
          -- REGION backF 10
          refine wp_region_held_drew (S := fun W => Below w9.heap.size w9 W) (by kernel_rfl) ((Below.refl _ w9).drew) (fun hHeld => ?_)
          refine wpAnyH_ready (rs := [0]) (by kernel_rfl) (by simp) ?_
          refine AllReadyH.cons (o := ⟨some 115, .call { callee := .value (.func 16), args := #[], argTypes := #[] }, _, _, _, none⟩) rfl (fun K hK => ?_) AllReadyH.nil
          refine step_ofR (by rfl) ?_
          go_simp
          refine (SG.out _ (Bt HS9.out.bel hHeld)).mono ?_
          rintro x1 W1 ⟨rfl, hB1⟩
          refine hK.out _ _ (Bt hHeld hB1) (fun hHeld => ?_)
          clear hK K
          try simp only [Act.put, List.setIfInBounds_toArray, List.set_cons_zero, List.set_cons_succ]
          refine wpAnyH_take (i := 1) (oi := ⟨some 116, .move (.tmp 115), _, _, _, none⟩) (v := ?_) rfl (by kernel_rfl) (by kernel_rfl) (by kernel_rfl) (fun _ _ _ h => h) (Or.inl ⟨by rfl, ?_⟩) hHeld ?_
          rotate_left
          · intro W _; go_simp; try with_reducible rfl
          try simp only [Act.put, List.setIfInBounds_toArray, List.set_cons_zero, List.set_cons_succ]
          refine wpAnyH_ready (rs := [2]) (by kernel_rfl) (by simp) ?_
          refine AllReadyH.cons (o := ⟨some 117, .call { callee := .value (.func 12), args := #[], argTypes := #[] }, _, _, _, some (1, true)⟩) rfl (fun K hK => ?_) AllReadyH.nil
          refine step_ofR (by rfl) ?_
          go_simp
          refine (lays_any _).mono ?_
          rintro x1 W1 ⟨rfl, hB1⟩
          refine hK.out _ _ (Bt hHeld hB1) (fun hHeld => ?_)
          clear hK K
          try simp only [Act.put, List.setIfInBounds_toArray, List.set_cons_zero, List.set_cons_succ]
          refine wpAnyH_take (i := 3) (oi := ⟨some 118, .pick (.tmp 116) (.tmp 117) (.const (.bool false)), _, _, _, none⟩) (v := ?_) rfl (by kernel_rfl) (by kernel_rfl) (by kernel_rfl) (fun _ _ _ h => h) (Or.inl ⟨by rfl, ?_⟩) hHeld ?_
          rotate_left
          · intro W _; go_simp; try with_reducible rfl
          try simp only [Act.put, List.setIfInBounds_toArray, List.set_cons_zero, List.set_cons_succ]
          refine wpAnyH_take (i := 4) (oi := ⟨some 119, .move (.tmp 118), _, _, _, none⟩) (v := ?_) rfl (by kernel_rfl) (by kernel_rfl) (by kernel_rfl) (fun _ _ _ h => h) (Or.inl ⟨by rfl, ?_⟩) hHeld ?_
          rotate_left
          · intro W _; go_simp; try with_reducible rfl
          try simp only [Act.put, List.setIfInBounds_toArray, List.set_cons_zero, List.set_cons_succ]
          refine wpAnyH_take (i := 5) (oi := ⟨some 120, .move (.tmp 13), _, _, _, some (4, true)⟩) (v := ?_) rfl (by kernel_rfl) (by kernel_rfl) (by kernel_rfl) (fun _ _ _ h => h) (Or.inl ⟨by rfl, ?_⟩) hHeld ?_
          rotate_left
          · intro W _; go_simp; try with_reducible rfl
          try simp only [Act.put, List.setIfInBounds_toArray, List.set_cons_zero, List.set_cons_succ]
          refine wpAnyH_take (i := 6) (oi := ⟨some 121, .binOp .eql 27 (.tmp 120) (.const (.int .i64 0)) 27, _, _, _, some (4, true)⟩) (v := ?_) rfl (by kernel_rfl) (by kernel_rfl) (by kernel_rfl) (fun _ _ _ h => h) (Or.inl ⟨by rfl, ?_⟩) hHeld ?_
          rotate_left
          · intro W _; go_simp; try with_reducible rfl
          try simp only [Act.put, List.setIfInBounds_toArray, List.set_cons_zero, List.set_cons_succ]
          refine wpAnyH_take (i := 7) (oi := ⟨some 122, .pick (.tmp 119) (.tmp 121) (.const (.bool false)), _, _, _, none⟩) (v := ?_) rfl (by kernel_rfl) (by kernel_rfl) (by kernel_rfl) (fun _ _ _ h => h) (Or.inl ⟨by rfl, ?_⟩) hHeld ?_
          rotate_left
          · intro W _; go_simp; try with_reducible rfl
          try simp only [Act.put, List.setIfInBounds_toArray, List.set_cons_zero, List.set_cons_succ]
          refine wpAnyH_take (i := 8) (oi := ⟨some 123, .move (.tmp 122), _, _, _, none⟩) (v := ?_) rfl (by kernel_rfl) (by kernel_rfl) (by kernel_rfl) (fun _ _ _ h => h) (Or.inl ⟨by rfl, ?_⟩) hHeld ?_
          rotate_left
          · intro W _; go_simp; try with_reducible rfl
          try simp only [Act.put, List.setIfInBounds_toArray, List.set_cons_zero, List.set_cons_succ]
          refine wpAnyH_take (i := 9) (oi := ⟨some 124, .move (.tmp 14), _, _, _, some (8, true)⟩) (v := ?_) rfl (by kernel_rfl) (by kernel_rfl) (by kernel_rfl) (fun _ _ _ h => h) (Or.inl ⟨by rfl, ?_⟩) hHeld ?_
          rotate_left
          · intro W _; go_simp; try with_reducible rfl
          try simp only [Act.put, List.setIfInBounds_toArray, List.set_cons_zero, List.set_cons_succ]
          refine wpAnyH_take (i := 10) (oi := ⟨some 125, .binOp .eql 27 (.tmp 124) (.const (.int .i64 0)) 27, _, _, _, some (8, true)⟩) (v := ?_) rfl (by kernel_rfl) (by kernel_rfl) (by kernel_rfl) (fun _ _ _ h => h) (Or.inl ⟨by rfl, ?_⟩) hHeld ?_
          rotate_left
          · intro W _; go_simp; try with_reducible rfl
          try simp only [Act.put, List.setIfInBounds_toArray, List.set_cons_zero, List.set_cons_succ]
          refine wpAnyH_take (i := 11) (oi := ⟨some 126, .move (.tmp 0), _, _, _, some (8, true)⟩) (v := ?_) rfl (by kernel_rfl) (by kernel_rfl) (by kernel_rfl) (fun _ _ _ h => h) (Or.inl ⟨by rfl, ?_⟩) hHeld ?_
          rotate_left
          · intro W _; go_simp; try with_reducible rfl
          try simp only [Act.put, List.setIfInBounds_toArray, List.set_cons_zero, List.set_cons_succ]
          refine wpAnyH_take (i := 13) (oi := ⟨some 128, .move (.tmp 12), _, _, _, some (8, true)⟩) (v := ?_) rfl (by kernel_rfl) (by kernel_rfl) (by kernel_rfl) (fun _ _ _ h => h) (Or.inl ⟨by rfl, ?_⟩) hHeld ?_
          rotate_left
          · intro W _; go_simp; try with_reducible rfl
          try simp only [Act.put, List.setIfInBounds_toArray, List.set_cons_zero, List.set_cons_succ]
          refine wpAnyH_take (i := 15) (oi := ⟨some 130, .fieldAddr 36 (.tmp 11) 1, _, _, _, some (8, true)⟩) (v := ?_) rfl (by kernel_rfl) (by kernel_rfl) (by kernel_rfl) (fun _ _ _ h => h) (Or.inl ⟨by rfl, ?_⟩) hHeld ?_
          rotate_left
          · intro W _; go_simp; try with_reducible rfl
          try simp only [Act.put, List.setIfInBounds_toArray, List.set_cons_zero, List.set_cons_succ]
          refine wpAnyH_take (i := 16) (oi := ⟨some 131, .load 23 (.tmp 130), _, _, _, some (8, true)⟩) (v := .agg (bs y.sign).toArray) rfl (by kernel_rfl) (by kernel_rfl) (by kernel_rfl) (fun _ _ _ h => h) (yieldsIf_load_mid (by rfl) _ _ rfl R2 65 rfl (bs y.sign) _ (fun W h => ((hd9.out.below h).sgp HYK.out).2.1) Tryd.underlying23 rfl ID.out) hHeld ?_
          try simp only [Act.put, List.setIfInBounds_toArray, List.set_cons_zero, List.set_cons_succ]
          have hrd : Rd (W1.alloc (.cells (bytesRow k (grownCap W1 k.size 0 5)) 5 ((bytesRow k (grownCap W1 k.size 0 5)).size, (bytesRow k (grownCap W1 k.size 0 5)).size + 1))).drew (some ⟨W1.heap.size, 0, none⟩) k.size (grownCap W1 k.size 0 5) (byt k) := Rd.ofStr W1 k (by have := HKN.out; unfold maxLen; omega)
          have hBc : Below W1.heap.size W1 (W1.alloc (.cells (bytesRow k (grownCap W1 k.size 0 5)) 5 ((bytesRow k (grownCap W1 k.size 0 5)).size, (bytesRow k (grownCap W1 k.size 0 5)).size + 1))).drew := grown_ofStr W1 (bytesRow k (grownCap W1 k.size 0 5)) ((bytesRow k (grownCap W1 k.size 0 5)).size, (bytesRow k (grownCap W1 k.size 0 5)).size + 1)
          refine wpAnyH_ready (rs := [12]) (by kernel_rfl) (by simp) ?_
          refine AllReadyH.cons (o := ⟨some 127, .convert 9 26 (.tmp 126), _, _, _, some (8, true)⟩) rfl (fun K hK => ?_) AllReadyH.nil
          refine step_ofR (by rfl) ?_
          go_simp
          refine hK.out _ _ (Bt hHeld hBc) (fun hHeld => ?_)
          clear hK K
          try simp only [Act.put, List.setIfInBounds_toArray, List.set_cons_zero, List.set_cons_succ]
          generalize (W1.alloc (.cells (bytesRow k (grownCap W1 k.size 0 5)) 5 ((bytesRow k (grownCap W1 k.size 0 5)).size, (bytesRow k (grownCap W1 k.size 0 5)).size + 1))).drew = wc at *
          refine wpAnyH_ready (rs := [14]) (by kernel_rfl) (by simp) ?_
          refine AllReadyH.cons (o := ⟨some 129, .call { callee := .value (.func 19), args := #[.tmp 127, .tmp 128], argTypes := #[26, 26] }, _, _, _, some (8, true)⟩) rfl (fun K hK => ?_) AllReadyH.nil
          refine step_ofR (by rfl) ?_
          go_simp
          refine (mac_any wc _ _ _ (byt k) a n c2 (encH y.hd) hrd (hr9.out.below hHeld) (HT.out _ (Bt HS9.out.bel hHeld)) (by have := HKN.out; omega) (by have := HNN.out; omega)).mono ?_
          rintro x1 W2 ⟨rfl, hB2⟩
          refine hK.out _ _ (Bt hHeld hB2) (fun hHeld => ?_)
          clear hK K
          try simp only [Act.put, List.setIfInBounds_toArray, List.set_cons_zero, List.set_cons_succ]
          refine wpAnyH_take (i := 17) (oi := ⟨some 132, .binOp .eql 23 (.tmp 129) (.tmp 131) 23, _, _, _, some (8, true)⟩) (v := .bool false) rfl (by kernel_rfl) (by kernel_rfl) (by kernel_rfl) (fun _ _ _ h => h) (yieldsIf_eqH (by rfl) .eql 23 23 (.tmp 129) (.tmp 131) rfl _ _ rfl rfl guardH _ HD.out) hHeld ?_
          try simp only [Act.put, List.setIfInBounds_toArray, List.set_cons_zero, List.set_cons_succ]
          refine wpAnyH_take (i := 18) (oi := ⟨some 133, .binOp .eql 4 (.tmp 125) (.tmp 132) 4, _, _, _, some (8, true)⟩) (v := ?_) rfl (by kernel_rfl) (by kernel_rfl) (by kernel_rfl) (fun _ _ _ h => h) (Or.inl ⟨by rfl, ?_⟩) hHeld ?_
          rotate_left
          · intro W _; go_simp; try with_reducible rfl
          try simp only [Act.put, List.setIfInBounds_toArray, List.set_cons_zero, List.set_cons_succ]
          refine wpAnyH_take (i := 19) (oi := ⟨some 134, .pick (.tmp 123) (.tmp 133) (.const (.bool false)), _, _, _, none⟩) (v := ?_) rfl (by kernel_rfl) (by kernel_rfl) (by kernel_rfl) (fun _ _ _ h => h) (Or.inl ⟨by rfl, ?_⟩) hHeld ?_
          rotate_left
          · intro W _; go_simp; try with_reducible rfl
          try simp only [Act.put, List.setIfInBounds_toArray, List.set_cons_zero, List.set_cons_succ]
          refine wpAnyH_take (i := 20) (oi := ⟨some 8, .assign (.tmp 134), _, _, _, none⟩) (v := ?_) rfl (by kernel_rfl) (by kernel_rfl) (by kernel_rfl) (fun _ _ _ h => h) (Or.inl ⟨by rfl, ?_⟩) hHeld ?_
          rotate_left
          · intro W _; go_simp; try with_reducible rfl
          try simp only [Act.put, List.setIfInBounds_toArray, List.set_cons_zero, List.set_cons_succ]
          refine wpAnyH_done (by kernel_rfl) ?_ _
          -- END backF
        case' true =>
          rw [hq] at HD
          simp only [if_true]
          clear hq
          go_wp2_with fail
          -- REGION backT 10
          refine wp_region_held_drew (S := fun W => Below w9.heap.size w9 W) (by kernel_rfl) ((Below.refl _ w9).drew) (fun hHeld => ?_)
          refine wpAnyH_ready (rs := [0]) (by kernel_rfl) (by simp) ?_
          refine AllReadyH.cons (o := ⟨some 115, .call { callee := .value (.func 16), args := #[], argTypes := #[] }, _, _, _, none⟩) rfl (fun K hK => ?_) AllReadyH.nil
          refine step_ofR (by rfl) ?_
          go_simp
          refine (SG.out _ (Bt HS9.out.bel hHeld)).mono ?_
          rintro x1 W1 ⟨rfl, hB1⟩
          refine hK.out _ _ (Bt hHeld hB1) (fun hHeld => ?_)
          clear hK K
          try simp only [Act.put, List.setIfInBounds_toArray, List.set_cons_zero, List.set_cons_succ]
          refine wpAnyH_take (i := 1) (oi := ⟨some 116, .move (.tmp 115), _, _, _, none⟩) (v := ?_) rfl (by kernel_rfl) (by kernel_rfl) (by kernel_rfl) (fun _ _ _ h => h) (Or.inl ⟨by rfl, ?_⟩) hHeld ?_
          rotate_left
          · intro W _; go_simp; try with_reducible rfl
          try simp only [Act.put, List.setIfInBounds_toArray, List.set_cons_zero, List.set_cons_succ]
          refine wpAnyH_ready (rs := [2]) (by kernel_rfl) (by simp) ?_
          refine AllReadyH.cons (o := ⟨some 117, .call { callee := .value (.func 12), args := #[], argTypes := #[] }, _, _, _, some (1, true)⟩) rfl (fun K hK => ?_) AllReadyH.nil
          refine step_ofR (by rfl) ?_
          go_simp
          refine (lays_any _).mono ?_
          rintro x1 W1 ⟨rfl, hB1⟩
          refine hK.out _ _ (Bt hHeld hB1) (fun hHeld => ?_)
          clear hK K
          try simp only [Act.put, List.setIfInBounds_toArray, List.set_cons_zero, List.set_cons_succ]
          refine wpAnyH_take (i := 3) (oi := ⟨some 118, .pick (.tmp 116) (.tmp 117) (.const (.bool false)), _, _, _, none⟩) (v := ?_) rfl (by kernel_rfl) (by kernel_rfl) (by kernel_rfl) (fun _ _ _ h => h) (Or.inl ⟨by rfl, ?_⟩) hHeld ?_
          rotate_left
          · intro W _; go_simp; try with_reducible rfl
          try simp only [Act.put, List.setIfInBounds_toArray, List.set_cons_zero, List.set_cons_succ]
          refine wpAnyH_take (i := 4) (oi := ⟨some 119, .move (.tmp 118), _, _, _, none⟩) (v := ?_) rfl (by kernel_rfl) (by kernel_rfl) (by kernel_rfl) (fun _ _ _ h => h) (Or.inl ⟨by rfl, ?_⟩) hHeld ?_
          rotate_left
          · intro W _; go_simp; try with_reducible rfl
          try simp only [Act.put, List.setIfInBounds_toArray, List.set_cons_zero, List.set_cons_succ]
          refine wpAnyH_take (i := 5) (oi := ⟨some 120, .move (.tmp 13), _, _, _, some (4, true)⟩) (v := ?_) rfl (by kernel_rfl) (by kernel_rfl) (by kernel_rfl) (fun _ _ _ h => h) (Or.inl ⟨by rfl, ?_⟩) hHeld ?_
          rotate_left
          · intro W _; go_simp; try with_reducible rfl
          try simp only [Act.put, List.setIfInBounds_toArray, List.set_cons_zero, List.set_cons_succ]
          refine wpAnyH_take (i := 6) (oi := ⟨some 121, .binOp .eql 27 (.tmp 120) (.const (.int .i64 0)) 27, _, _, _, some (4, true)⟩) (v := ?_) rfl (by kernel_rfl) (by kernel_rfl) (by kernel_rfl) (fun _ _ _ h => h) (Or.inl ⟨by rfl, ?_⟩) hHeld ?_
          rotate_left
          · intro W _; go_simp; try with_reducible rfl
          try simp only [Act.put, List.setIfInBounds_toArray, List.set_cons_zero, List.set_cons_succ]
          refine wpAnyH_take (i := 7) (oi := ⟨some 122, .pick (.tmp 119) (.tmp 121) (.const (.bool false)), _, _, _, none⟩) (v := ?_) rfl (by kernel_rfl) (by kernel_rfl) (by kernel_rfl) (fun _ _ _ h => h) (Or.inl ⟨by rfl, ?_⟩) hHeld ?_
          rotate_left
          · intro W _; go_simp; try with_reducible rfl
          try simp only [Act.put, List.setIfInBounds_toArray, List.set_cons_zero, List.set_cons_succ]
          refine wpAnyH_take (i := 8) (oi := ⟨some 123, .move (.tmp 122), _, _, _, none⟩) (v := ?_) rfl (by kernel_rfl) (by kernel_rfl) (by kernel_rfl) (fun _ _ _ h => h) (Or.inl ⟨by rfl, ?_⟩) hHeld ?_
          rotate_left
          · intro W _; go_simp; try with_reducible rfl
          try simp only [Act.put, List.setIfInBounds_toArray, List.set_cons_zero, List.set_cons_succ]
          refine wpAnyH_take (i := 9) (oi := ⟨some 124, .move (.tmp 14), _, _, _, some (8, true)⟩) (v := ?_) rfl (by kernel_rfl) (by kernel_rfl) (by kernel_rfl) (fun _ _ _ h => h) (Or.inl ⟨by rfl, ?_⟩) hHeld ?_
          rotate_left
          · intro W _; go_simp; try with_reducible rfl
          try simp only [Act.put, List.setIfInBounds_toArray, List.set_cons_zero, List.set_cons_succ]
          refine wpAnyH_take (i := 10) (oi := ⟨some 125, .binOp .eql 27 (.tmp 124) (.const (.int .i64 0)) 27, _, _, _, some (8, true)⟩) (v := ?_) rfl (by kernel_rfl) (by kernel_rfl) (by kernel_rfl) (fun _ _ _ h => h) (Or.inl ⟨by rfl, ?_⟩) hHeld ?_
          rotate_left
          · intro W _; go_simp; try with_reducible rfl
          try simp only [Act.put, List.setIfInBounds_toArray, List.set_cons_zero, List.set_cons_succ]
          refine wpAnyH_take (i := 11) (oi := ⟨some 126, .move (.tmp 0), _, _, _, some (8, true)⟩) (v := ?_) rfl (by kernel_rfl) (by kernel_rfl) (by kernel_rfl) (fun _ _ _ h => h) (Or.inl ⟨by rfl, ?_⟩) hHeld ?_
          rotate_left
          · intro W _; go_simp; try with_reducible rfl
          try simp only [Act.put, List.setIfInBounds_toArray, List.set_cons_zero, List.set_cons_succ]
          refine wpAnyH_take (i := 13) (oi := ⟨some 128, .move (.tmp 12), _, _, _, some (8, true)⟩) (v := ?_) rfl (by kernel_rfl) (by kernel_rfl) (by kernel_rfl) (fun _ _ _ h => h) (Or.inl ⟨by rfl, ?_⟩) hHeld ?_
          rotate_left
          · intro W _; go_simp; try with_reducible rfl
          try simp only [Act.put, List.setIfInBounds_toArray, List.set_cons_zero, List.set_cons_succ]
          refine wpAnyH_take (i := 15) (oi := ⟨some 130, .fieldAddr 36 (.tmp 11) 1, _, _, _, some (8, true)⟩) (v := ?_) rfl (by kernel_rfl) (by kernel_rfl) (by kernel_rfl) (fun _ _ _ h => h) (Or.inl ⟨by rfl, ?_⟩) hHeld ?_
          rotate_left
          · intro W _; go_simp; try with_reducible rfl
          try simp only [Act.put, List.setIfInBounds_toArray, List.set_cons_zero, List.set_cons_succ]
          refine wpAnyH_take (i := 16) (oi := ⟨some 131, .load 23 (.tmp 130), _, _, _, some (8, true)⟩) (v := .agg (bs y.sign).toArray) rfl (by kernel_rfl) (by kernel_rfl) (by kernel_rfl) (fun _ _ _ h => h) (yieldsIf_load_mid (by rfl) _ _ rfl R2 65 rfl (bs y.sign) _ (fun W h => ((hd9.out.below h).sgp HYK.out).2.1) Tryd.underlying23 rfl ID.out) hHeld ?_
          try simp only [Act.put, List.setIfInBounds_toArray, List.set_cons_zero, List.set_cons_succ]
          have hrd : Rd (W1.alloc (.cells (bytesRow k (grownCap W1 k.size 0 5)) 5 ((bytesRow k (grownCap W1 k.size 0 5)).size, (bytesRow k (grownCap W1 k.size 0 5)).size + 1))).drew (some ⟨W1.heap.size, 0, none⟩) k.size (grownCap W1 k.size 0 5) (byt k) := Rd.ofStr W1 k (by have := HKN.out; unfold maxLen; omega)
          have hBc : Below W1.heap.size W1 (W1.alloc (.cells (bytesRow k (grownCap W1 k.size 0 5)) 5 ((bytesRow k (grownCap W1 k.size 0 5)).size, (bytesRow k (grownCap W1 k.size 0 5)).size + 1))).drew := grown_ofStr W1 (bytesRow k (grownCap W1 k.size 0 5)) ((bytesRow k (grownCap W1 k.size 0 5)).size, (bytesRow k (grownCap W1 k.size 0 5)).size + 1)
          refine wpAnyH_ready (rs := [12]) (by kernel_rfl) (by simp) ?_
          refine AllReadyH.cons (o := ⟨some 127, .convert 9 26 (.tmp 126), _, _, _, some (8, true)⟩) rfl (fun K hK => ?_) AllReadyH.nil
          refine step_ofR (by rfl) ?_
          go_simp
          refine hK.out _ _ (Bt hHeld hBc) (fun hHeld => ?_)
          clear hK K
          try simp only [Act.put, List.setIfInBounds_toArray, List.set_cons_zero, List.set_cons_succ]
          generalize (W1.alloc (.cells (bytesRow k (grownCap W1 k.size 0 5)) 5 ((bytesRow k (grownCap W1 k.size 0 5)).size, (bytesRow k (grownCap W1 k.size 0 5)).size + 1))).drew = wc at *
          refine wpAnyH_ready (rs := [14]) (by kernel_rfl) (by simp) ?_
          refine AllReadyH.cons (o := ⟨some 129, .call { callee := .value (.func 19), args := #[.tmp 127, .tmp 128], argTypes := #[26, 26] }, _, _, _, some (8, true)⟩) rfl (fun K hK => ?_) AllReadyH.nil
          refine step_ofR (by rfl) ?_
          go_simp
          refine (mac_any wc _ _ _ (byt k) a n c2 (encH y.hd) hrd (hr9.out.below hHeld) (HT.out _ (Bt HS9.out.bel hHeld)) (by have := HKN.out; omega) (by have := HNN.out; omega)).mono ?_
          rintro x1 W2 ⟨rfl, hB2⟩
          refine hK.out _ _ (Bt hHeld hB2) (fun hHeld => ?_)
          clear hK K
          try simp only [Act.put, List.setIfInBounds_toArray, List.set_cons_zero, List.set_cons_succ]
          refine wpAnyH_take (i := 17) (oi := ⟨some 132, .binOp .eql 23 (.tmp 129) (.tmp 131) 23, _, _, _, some (8, true)⟩) (v := .bool true) rfl (by kernel_rfl) (by kernel_rfl) (by kernel_rfl) (fun _ _ _ h => h) (yieldsIf_eqH (by rfl) .eql 23 23 (.tmp 129) (.tmp 131) rfl _ _ rfl rfl guardH _ HD.out) hHeld ?_
          try simp only [Act.put, List.setIfInBounds_toArray, List.set_cons_zero, List.set_cons_succ]
          refine wpAnyH_take (i := 18) (oi := ⟨some 133, .binOp .eql 4 (.tmp 125) (.tmp 132) 4, _, _, _, some (8, true)⟩) (v := ?_) rfl (by kernel_rfl) (by kernel_rfl) (by kernel_rfl) (fun _ _ _ h => h) (Or.inl ⟨by rfl, ?_⟩) hHeld ?_
          rotate_left
          · intro W _; go_simp; try with_reducible rfl
          try simp only [Act.put, List.setIfInBounds_toArray, List.set_cons_zero, List.set_cons_succ]
          refine wpAnyH_take (i := 19) (oi := ⟨some 134, .pick (.tmp 123) (.tmp 133) (.const (.bool false)), _, _, _, none⟩) (v := ?_) rfl (by kernel_rfl) (by kernel_rfl) (by kernel_rfl) (fun _ _ _ h => h) (Or.inl ⟨by rfl, ?_⟩) hHeld ?_
          rotate_left
          · intro W _; go_simp; try with_reducible rfl
          try simp only [Act.put, List.setIfInBounds_toArray, List.set_cons_zero, List.set_cons_succ]
          refine wpAnyH_take (i := 20) (oi := ⟨some 8, .assign (.tmp 134), _, _, _, none⟩) (v := ?_) rfl (by kernel_rfl) (by kernel_rfl) (by kernel_rfl) (fun _ _ _ h => h) (Or.inl ⟨by rfl, ?_⟩) hHeld ?_
          rotate_left
          · intro W _; go_simp; try with_reducible rfl
          try simp only [Act.put, List.setIfInBounds_toArray, List.set_cons_zero, List.set_cons_succ]
          refine wpAnyH_done (by kernel_rfl) ?_ _
          -- END backT
        all_goals
          have HF := Lib.hid (Bt HS9.out.bel hHeld)
          clear hHeld
          go_wp2_with fail
          go_ret
          exact ⟨rfl, HF.out⟩
  · clear HPX HOK
    go_wp2_with (first
      | ((with_reducible refine wpList_allocB (o := ⟨some 9, _, _, _, _, _⟩) ?_ 36 ?_ sgz_info ?_); rfl; rfl; intro w2 hd2 hg2 hz2)
      | ((with_reducible refine wpList_storeB (o := ⟨none, .store 36 (.tmp 9) (.tmp 22), _, _, _, _⟩) ?_ 36 (.tmp 9) (.tmp 22) ?_ ?_ ?_ hd2 IX.out HLX.out HOX.out ?_); rfl; rfl; rfl; rfl; intro w3 hd3 hg3 hz3; have HB3 := Lib.hid ((HB1.out.grown hg2 HB1.out.size (by simp)).grown hg3 (by have := HB1.out.size; omega) (fun k e => by cases e; exact HB1.out.size)); clear hz2 hz3))
    clear hd2 hg2 hd3 hg3
    refine (SG.out w3 HB3.out).mono ?_
    rintro e w5 ⟨rfl, hB5⟩
    have HB5 := Lib.hid (Bt HB3.out hB5)
    clear hB5
    go_wp2_with fail
    refine (lays_any w5).mono ?_
    rintro e w6 ⟨rfl, hB6⟩
    have HB6 := Lib.hid (Bt HB5.out hB6)
    clear hB6
    go_wp2_with fail
    go_ret
    exact ⟨rfl, HB6.out⟩
end Go.Proofs.YtoclahcibilbhaaDoor
