/-
  WirI3 WirI4, in one text.
-/
import Derived.Test.YtoclahcibilbhaaGreatWirI
namespace Go.Proofs.YtoclahcibilbhaaGreat
/-! The reference's reader of layer 8: head, Signed, Command (written by gen_in.py). -/
section
open Go.RowKit
set_option maxRecDepth 100000
theorem splice_mid {A M M' C vs : List Value} {off : Nat} (hv : vs = A ++ (M ++ C)) (ho : off = A.length) (hl : M.length = M'.length) : splice vs off M' = A ++ (M' ++ C) := by
  subst hv ho
  simp [splice, hl]
theorem hd0_infoI : (Tryz.prog.info? 47).map (fun i => (i.zero, i.size)) = some (some (.agg (hdc hd0).toArray), 65) := by kernel_rfl

theorem chain_head (s : Option (List UInt8)) (v0 : Int) (v1 : List UInt8) (v2 : List UInt8) (h0 : got gN s v0) (h1 : got gD (nx gN s) v1) (h2 : got gD (nx gD (nx gN s)) v2) : got gH s (⟨v0, v1, v2⟩ : Hd) ∧ nx gH s = nx gD (nx gD (nx gN s)) := by
  rcases s with _ | l
  · exact ⟨fun _ _ e _ => (by cases e), rfl⟩
  rcases e0 : gN l with _ | p0
  · exact ⟨fun a p i1 i2 => (by cases i1; simp [gH, e0] at i2), by simp [nx, gH, e0]⟩
  have q0 := h0 l p0 (by simp) e0
  rcases e1 : gD p0.2 with _ | p1
  · exact ⟨fun a p i1 i2 => (by cases i1; simp [gH, e0, e1] at i2), by simp [nx, gH, e0, e1]⟩
  have q1 := h1 p0.2 p1 (by simp [nx, e0]) e1
  rcases e2 : gD p1.2 with _ | p2
  · exact ⟨fun a p i1 i2 => (by cases i1; simp [gH, e0, e1, e2] at i2), by simp [nx, gH, e0, e1, e2]⟩
  have q2 := h2 p1.2 p2 (by simp [nx, e0, e1]) e2
  exact ⟨fun a p i1 i2 => (by cases i1; simp [gH, e0, e1, e2, q0, q1, q2] at i2; rw [← i2]), by simp [nx, gH, e0, e1, e2]⟩
theorem built_head : Tryz.prog.built 47 [] = some (hdc hd0).toArray := by kernel_rfl
set_option maxHeartbeats 1000000 in
theorem in_head (a0 : Option Addr) (n0 c0 : Nat) (l0 : List UInt8) (g : Nat) (w : World) (s : Option (List UInt8)) (hI : In1 a0 n0 c0 l0 g w s) :
    Calls Tryz.prog 75 #[.pointer (some ⟨g, 0, none⟩)] w fun e w' => ∃ v : Hd, v.ok ∧ got gH s v ∧ e = .returned (.agg (hdc v).toArray) ∧ In1 a0 n0 c0 l0 g w' (nx gH s) ∧ Stp (fun i => i = g) w.heap.size w w' := by
  have HI := Lib.hid hI
  have hlt := hI.lt
  clear hI
  have IZ : Hid ((Tryz.prog.info? 47).map (·.size) = some (hdc hd0).length) := Lib.hid (by rw [hdc_length hd0_ok]; kernel_rfl)
  have HOZ : Hid (∀ v ∈ hdc hd0, v.oneCell' = true) := Lib.hid (hdc_one _)
  have HB0 : Hid (Tryz.prog.built 47 [] = some (hdc hd0).toArray) := Lib.hid built_head
  go_enter Tryz.func75, Tryz.ntmps75
  go_wp2_with (first
    | ((with_reducible refine wpList_allocB (o := ⟨some 2, _, _, _, _, _⟩) ?_ 47 ?_ hd0_infoI ?_); rfl; rfl; intro wa hba hga hza)
    | ((with_reducible refine wpList_buildI (dst := some 4) HB0.out ?_ ?_); rfl)
    | ((with_reducible refine wpList_allocB (o := ⟨some 3, _, _, _, _, _⟩) ?_ 47 ?_ hd0_infoI ?_); rfl; rfl; intro wb hbb hgb hzb)
    | ((with_reducible refine wpList_storeB (o := ⟨none, .store 47 (.tmp 3) (.tmp 4), _, _, _, _⟩) ?_ 47 (.tmp 3) (.tmp 4) ?_ ?_ ?_ hbb IZ.out rfl HOZ.out ?_); rfl; rfl; rfl; rfl; intro wx hb hgx hzx))
  have hBx : Below w.heap.size w wx := (((Below.refl _ w).grown hga (Nat.le_refl _) (by simp)).grown hgb (by omega) (by simp)).grown hgx (by omega) (fun k e => by cases e; omega)
  have hR : Blk wx w.heap.size 47 (hdc hd0) := (hba.grown hgb (by simp)).grown hgx (fun e => by injection e with e; omega)
  have HI0 := Lib.hid (HI.out.below hBx)
  have HS0 : Hid (Stp (fun i => i = g) w.heap.size w wx) := Lib.hid (Stp.of hBx)
  rw [hza] at hb
  have hXR : w.heap.size < w.heap.size + 1 := by omega
  generalize hX : w.heap.size + 1 = X at *
  have hgX : g < X := by omega
  clear hba hga hza hbb hgb hzb hgx hzx hBx hX
  refine (in_n a0 n0 c0 l0 g wx s HI0.out).mono ?_
  rintro e w0 ⟨v0, _, hg0, rfl, hI1, hS1⟩
  have hR := hR.stp hS1 hR.lt (by omega)
  have hb := hb.stp hS1 hb.lt (by omega)
  have HG0 := Lib.hid hg0
  clear hg0
  have hc := hb.cell (j := 0) rfl
  have hf := hb.free 0
  have hb : Blk (w0.setCell ⟨X, 0, none⟩ (.int .i64 v0)) X 47 (hdc (⟨v0, zero32, zero32⟩ : Hd)) := hb.set 0 (.int .i64 v0)
  have hR := hR.setOther ⟨X, 0, none⟩ (.int .i64 v0) (by simp only; omega)
  have HI1 := Lib.hid (hI1.stp (K := fun i => i = X) ((Stp.refl _ _ _).set ⟨X, 0, none⟩ (.int .i64 v0) (.inl rfl)) (fun i e => by omega))
  have HS1 := Lib.hid ((HS0.out.trans (hS1.lower HS0.out.size)).set ⟨X, 0, none⟩ (.int .i64 v0) (.inr (by simp only; omega)))
  have HR1 := Lib.hid hR
  have HB1 := Lib.hid hb
  clear hI1 hS1 hR hb
  go_wp2_with fail
  have hR := HR1.out
  have hb := HB1.out
  clear hc hf HR1 HB1
  generalize w0.setCell ⟨X, 0, none⟩ (.int .i64 v0) = y0 at *
  refine (in_d a0 n0 c0 l0 g y0 (nx gN s) HI1.out).mono ?_
  rintro e w1 ⟨v1, hk1, hg1, rfl, hI2, hS2⟩
  have hR := hR.stp hS2 hR.lt (by omega)
  have hb := hb.stp hS2 hb.lt (by omega)
  have HG1 := Lib.hid hg1
  clear hg1
  have HL1 : Hid ((bs v1).length = 32) := Lib.hid (by simp [bs_length, hk1])
  have IF1 : Hid ((Tryz.prog.info? 25).map (·.size) = some (bs v1).length) := Lib.hid (by rw [info_digest]; simp [bs_length, hk1])
  have ON1 : Hid (∀ v ∈ (bs v1), v.oneCell' = true) := Lib.hid (bs_one _)
  have HC1 : Hid ((hdc (⟨v0, zero32, zero32⟩ : Hd)).length = 65) := Lib.hid (by simp [hdc, bs_length, zero32_length])
  have FT1 : Hid (1 + (bs v1).length ≤ (hdc (⟨v0, zero32, zero32⟩ : Hd)).length) := Lib.hid (by have h1 := HC1.out; have h2 := HL1.out; omega)
  have SP1 : Hid (splice (hdc (⟨v0, zero32, zero32⟩ : Hd)) 1 (bs v1) = hdc (⟨v0, v1, zero32⟩ : Hd)) := Lib.hid ((splice_mid (A := [.int .i64 v0]) (M := (bs zero32)) (C := (bs zero32)) (by simp [hdc]) (by simp) (by rw [HL1.out]; first | rfl | exact hdc_length hd0_ok)).trans (by simp [hdc]))
  have HI2 := Lib.hid hI2
  have HS2 := Lib.hid (HS1.out.trans (hS2.lower HS1.out.size))
  have hRs := HS2.out.size
  clear hI2 hS2
  go_wp2_with ((with_reducible refine wpList_storeM (o := ⟨none, .store 25 (.tmp 10) (.tmp 9), _, _, _, _⟩) ?_ X 1 25 (.tmp 10) (.tmp 9) ?_ ?_ ?_ hb FT1.out IF1.out ON1.out ?_); rfl; rfl; rfl; rfl; intro y1 hb1 hgs1 hzs1; rw [SP1.out] at hb1)
  have hR := hR.grown hgs1 (fun e => by injection e with e; omega)
  have hI2 := HI2.out.stp (K := fun i => i = X) ((Stp.refl _ _ _).grown hgs1 (Nat.le_refl _) (fun i e => by cases e; exact .inl rfl)) (fun i e => by omega)
  have HJ2 := Lib.hid hI2
  have HT2 := Lib.hid (HS2.out.grown hgs1 HS2.out.size (fun i e => by cases e; exact .inr (by omega)))
  have hb := hb1
  clear hb1 hgs1 hzs1 hI2 HI2 HS2 hRs
  refine (in_d a0 n0 c0 l0 g y1 (nx gD (nx gN s)) HJ2.out).mono ?_
  rintro e w2 ⟨v2, hk2, hg2, rfl, hI3, hS3⟩
  have hR := hR.stp hS3 hR.lt (by omega)
  have hb := hb.stp hS3 hb.lt (by omega)
  have HG2 := Lib.hid hg2
  clear hg2
  have HL2 : Hid ((bs v2).length = 32) := Lib.hid (by simp [bs_length, hk2])
  have IF2 : Hid ((Tryz.prog.info? 25).map (·.size) = some (bs v2).length) := Lib.hid (by rw [info_digest]; simp [bs_length, hk2])
  have ON2 : Hid (∀ v ∈ (bs v2), v.oneCell' = true) := Lib.hid (bs_one _)
  have HC2 : Hid ((hdc (⟨v0, v1, zero32⟩ : Hd)).length = 65) := Lib.hid (by simp [hdc, bs_length, zero32_length, show v1.length = 32 from hk1])
  have FT2 : Hid (33 + (bs v2).length ≤ (hdc (⟨v0, v1, zero32⟩ : Hd)).length) := Lib.hid (by have h1 := HC2.out; have h2 := HL2.out; omega)
  have SP2 : Hid (splice (hdc (⟨v0, v1, zero32⟩ : Hd)) 33 (bs v2) = hdc (⟨v0, v1, v2⟩ : Hd)) := Lib.hid ((splice_mid (A := [.int .i64 v0] ++ (bs v1)) (M := (bs zero32)) (C := []) (by simp [hdc]) (by simp [bs_length, show v1.length = 32 from hk1]) (by rw [HL2.out]; first | rfl | exact hdc_length hd0_ok)).trans (by simp [hdc]))
  have HI3 := Lib.hid hI3
  have HS3 := Lib.hid (HT2.out.trans (hS3.lower HT2.out.size))
  have hRs := HS3.out.size
  clear hI3 hS3
  have hok : (⟨v0, v1, v2⟩ : Hd).ok := ⟨hk1, hk2⟩
  have IX : Hid ((Tryz.prog.info? 47).map (·.size) = some (hdc (⟨v0, v1, v2⟩ : Hd)).length) := Lib.hid (by rw [hdc_length hok]; kernel_rfl)
  have HLX : Hid ((hdc hd0).length = (hdc (⟨v0, v1, v2⟩ : Hd)).length) := Lib.hid (by rw [hdc_length hok, hdc_length hd0_ok])
  have HOX : Hid (∀ v ∈ hdc (⟨v0, v1, v2⟩ : Hd), v.oneCell' = true) := Lib.hid (hdc_one _)
  have HOK := Lib.hid hok
  clear hok
  go_wp2_with (first
    | ((with_reducible refine wpList_storeM (o := ⟨none, .store 25 (.tmp 13) (.tmp 12), _, _, _, _⟩) ?_ X 33 25 (.tmp 13) (.tmp 12) ?_ ?_ ?_ hb FT2.out IF2.out ON2.out ?_); rfl; rfl; rfl; rfl; intro y2 hb2 hgs2 hzs2; rw [SP2.out] at hb2; have hR := hR.grown hgs2 (fun e => by injection e with e; omega))
    | ((with_reducible refine wpList_loadB (o := ⟨some 14, _, _, _, _, _⟩) ?_ 47 (.tmp 3) ?_ ?_ hb2 Tryz.underlying47 ?_ IX.out ?_); rfl; rfl; rfl; rfl)
    | ((with_reducible refine wpList_storeB (o := ⟨none, .store 47 (.tmp 2) (.tmp 14), _, _, _, _⟩) ?_ 47 (.tmp 2) (.tmp 14) ?_ ?_ ?_ hR IX.out HLX.out HOX.out ?_); rfl; rfl; rfl; rfl; intro wz hbz hgz hzz))
  apply bodyPost_ret
  exact results_blk rfl _ _ _ _ _ _ rfl hbz Tryz.underlying47 rfl IX.out
  rfl
  have hI := HI3.out.stp (K := fun i => g < i) (((Stp.refl (fun i => g < i) _ _).grown hgs2 (Nat.le_refl _) (fun i e => by cases e; exact .inl hgX)).grown hgz (by omega) (fun i e => by cases e; exact .inl hlt)) (fun i e => e)
  have hS := (HS3.out.grown hgs2 HS3.out.size (fun i e => by cases e; exact .inr (by omega))).grown hgz (by omega) (fun i e => by cases e; exact .inr (Nat.le_refl _))
  have hc := chain_head s v0 v1 v2 HG0.out HG1.out HG2.out
  exact ⟨_, HOK.out, hc.1, rfl, hc.2 ▸ hI, hS⟩

theorem chain_Signed (s : Option (List UInt8)) (v0 : Hd) (v1 : List UInt8) (h0 : got gH s v0) (h1 : got gD (nx gH s) v1) : got gS s (⟨v0, v1⟩ : Sg) ∧ nx gS s = nx gD (nx gH s) := by
  rcases s with _ | l
  · exact ⟨fun _ _ e _ => (by cases e), rfl⟩
  rcases e0 : gH l with _ | p0
  · exact ⟨fun a p i1 i2 => (by cases i1; simp [gS, e0] at i2), by simp [nx, gS, e0]⟩
  have q0 := h0 l p0 (by simp) e0
  rcases e1 : gD p0.2 with _ | p1
  · exact ⟨fun a p i1 i2 => (by cases i1; simp [gS, e0, e1] at i2), by simp [nx, gS, e0, e1]⟩
  have q1 := h1 p0.2 p1 (by simp [nx, e0]) e1
  exact ⟨fun a p i1 i2 => (by cases i1; simp [gS, e0, e1, q0, q1] at i2; rw [← i2]), by simp [nx, gS, e0, e1]⟩
theorem built_Signed : Tryz.prog.built 49 [] = some (sgc sg0).toArray := by kernel_rfl
set_option maxHeartbeats 1000000 in
theorem in_Signed (a0 : Option Addr) (n0 c0 : Nat) (l0 : List UInt8) (g : Nat) (w : World) (s : Option (List UInt8)) (hI : In1 a0 n0 c0 l0 g w s) :
    Calls Tryz.prog 44 #[.pointer (some ⟨g, 0, none⟩)] w fun e w' => ∃ v : Sg, v.ok ∧ got gS s v ∧ e = .returned (.agg (sgc v).toArray) ∧ In1 a0 n0 c0 l0 g w' (nx gS s) ∧ Stp (fun i => i = g) w.heap.size w w' := by
  have HI := Lib.hid hI
  have hlt := hI.lt
  clear hI
  have IZ : Hid ((Tryz.prog.info? 49).map (·.size) = some (sgc sg0).length) := Lib.hid (by rw [sgc_length sg0_ok]; kernel_rfl)
  have HOZ : Hid (∀ v ∈ sgc sg0, v.oneCell' = true) := Lib.hid (sgc_one _)
  have HB0 : Hid (Tryz.prog.built 49 [] = some (sgc sg0).toArray) := Lib.hid built_Signed
  go_enter Tryz.func44, Tryz.ntmps44
  go_wp2_with (first
    | ((with_reducible refine wpList_allocB (o := ⟨some 2, _, _, _, _, _⟩) ?_ 49 ?_ sg0_info ?_); rfl; rfl; intro wa hba hga hza)
    | ((with_reducible refine wpList_buildI (dst := some 4) HB0.out ?_ ?_); rfl)
    | ((with_reducible refine wpList_allocB (o := ⟨some 3, _, _, _, _, _⟩) ?_ 49 ?_ sg0_info ?_); rfl; rfl; intro wb hbb hgb hzb)
    | ((with_reducible refine wpList_storeB (o := ⟨none, .store 49 (.tmp 3) (.tmp 4), _, _, _, _⟩) ?_ 49 (.tmp 3) (.tmp 4) ?_ ?_ ?_ hbb IZ.out rfl HOZ.out ?_); rfl; rfl; rfl; rfl; intro wx hb hgx hzx))
  have hBx : Below w.heap.size w wx := (((Below.refl _ w).grown hga (Nat.le_refl _) (by simp)).grown hgb (by omega) (by simp)).grown hgx (by omega) (fun k e => by cases e; omega)
  have hR : Blk wx w.heap.size 49 (sgc sg0) := (hba.grown hgb (by simp)).grown hgx (fun e => by injection e with e; omega)
  have HI0 := Lib.hid (HI.out.below hBx)
  have HS0 : Hid (Stp (fun i => i = g) w.heap.size w wx) := Lib.hid (Stp.of hBx)
  rw [hza] at hb
  have hXR : w.heap.size < w.heap.size + 1 := by omega
  generalize hX : w.heap.size + 1 = X at *
  have hgX : g < X := by omega
  clear hba hga hza hbb hgb hzb hgx hzx hBx hX
  refine (in_head a0 n0 c0 l0 g wx s HI0.out).mono ?_
  rintro e w0 ⟨v0, hk0, hg0, rfl, hI1, hS1⟩
  have hR := hR.stp hS1 hR.lt (by omega)
  have hb := hb.stp hS1 hb.lt (by omega)
  have HG0 := Lib.hid hg0
  clear hg0
  have hb : Blk w0 X 49 (sgc (⟨hd0, zero32⟩ : Sg)) := hb
  have HL0 : Hid ((hdc v0).length = 65) := Lib.hid (hdc_length hk0)
  have IF0 : Hid ((Tryz.prog.info? 47).map (·.size) = some (hdc v0).length) := Lib.hid (by rw [hdc_length hk0]; kernel_rfl)
  have ON0 : Hid (∀ v ∈ (hdc v0), v.oneCell' = true) := Lib.hid (hdc_one _)
  have HC0 : Hid ((sgc (⟨hd0, zero32⟩ : Sg)).length = 97) := Lib.hid (by simp [sgc, hdc, hd0, bs_length, zero32_length])
  have FT0 : Hid (0 + (hdc v0).length ≤ (sgc (⟨hd0, zero32⟩ : Sg)).length) := Lib.hid (by have h1 := HC0.out; have h2 := HL0.out; omega)
  have SP0 : Hid (splice (sgc (⟨hd0, zero32⟩ : Sg)) 0 (hdc v0) = sgc (⟨v0, zero32⟩ : Sg)) := Lib.hid ((splice_mid (A := ([] : List Value)) (M := (hdc hd0)) (C := (bs zero32)) (by simp [sgc]) (by simp) (by rw [HL0.out]; first | rfl | exact hdc_length hd0_ok)).trans (by simp [sgc]))
  have HI1 := Lib.hid hI1
  have HS1 := Lib.hid (HS0.out.trans (hS1.lower HS0.out.size))
  have hRs := HS1.out.size
  clear hI1 hS1
  go_wp2_with ((with_reducible refine wpList_storeM (o := ⟨none, .store 47 (.tmp 7) (.tmp 6), _, _, _, _⟩) ?_ X 0 47 (.tmp 7) (.tmp 6) ?_ ?_ ?_ hb FT0.out IF0.out ON0.out ?_); rfl; rfl; rfl; rfl; intro y0 hb0 hgs0 hzs0; rw [SP0.out] at hb0)
  have hR := hR.grown hgs0 (fun e => by injection e with e; omega)
  have hI1 := HI1.out.stp (K := fun i => i = X) ((Stp.refl _ _ _).grown hgs0 (Nat.le_refl _) (fun i e => by cases e; exact .inl rfl)) (fun i e => by omega)
  have HJ1 := Lib.hid hI1
  have HT1 := Lib.hid (HS1.out.grown hgs0 HS1.out.size (fun i e => by cases e; exact .inr (by omega)))
  have hb := hb0
  clear hb0 hgs0 hzs0 hI1 HI1 HS1 hRs
  refine (in_d a0 n0 c0 l0 g y0 (nx gH s) HJ1.out).mono ?_
  rintro e w1 ⟨v1, hk1, hg1, rfl, hI2, hS2⟩
  have hR := hR.stp hS2 hR.lt (by omega)
  have hb := hb.stp hS2 hb.lt (by omega)
  have HG1 := Lib.hid hg1
  clear hg1
  have HL1 : Hid ((bs v1).length = 32) := Lib.hid (by simp [bs_length, hk1])
  have IF1 : Hid ((Tryz.prog.info? 25).map (·.size) = some (bs v1).length) := Lib.hid (by rw [info_digest]; simp [bs_length, hk1])
  have ON1 : Hid (∀ v ∈ (bs v1), v.oneCell' = true) := Lib.hid (bs_one _)
  have HC1 : Hid ((sgc (⟨v0, zero32⟩ : Sg)).length = 97) := Lib.hid (by simp [sgc, hdc, bs_length, zero32_length, show v0.root.length = 32 from hk0.1, show v0.prev.length = 32 from hk0.2])
  have FT1 : Hid (65 + (bs v1).length ≤ (sgc (⟨v0, zero32⟩ : Sg)).length) := Lib.hid (by have h1 := HC1.out; have h2 := HL1.out; omega)
  have SP1 : Hid (splice (sgc (⟨v0, zero32⟩ : Sg)) 65 (bs v1) = sgc (⟨v0, v1⟩ : Sg)) := Lib.hid ((splice_mid (A := (hdc v0)) (M := (bs zero32)) (C := []) (by simp [sgc]) (by simp [hdc_length hk0]) (by rw [HL1.out]; first | rfl | exact hdc_length hd0_ok)).trans (by simp [sgc]))
  have HI2 := Lib.hid hI2
  have HS2 := Lib.hid (HT1.out.trans (hS2.lower HT1.out.size))
  have hRs := HS2.out.size
  clear hI2 hS2
  have hok : (⟨v0, v1⟩ : Sg).ok := ⟨hk0, hk1⟩
  have IX : Hid ((Tryz.prog.info? 49).map (·.size) = some (sgc (⟨v0, v1⟩ : Sg)).length) := Lib.hid (by rw [sgc_length hok]; kernel_rfl)
  have HLX : Hid ((sgc sg0).length = (sgc (⟨v0, v1⟩ : Sg)).length) := Lib.hid (by rw [sgc_length hok, sgc_length sg0_ok])
  have HOX : Hid (∀ v ∈ sgc (⟨v0, v1⟩ : Sg), v.oneCell' = true) := Lib.hid (sgc_one _)
  have HOK := Lib.hid hok
  clear hok
  go_wp2_with (first
    | ((with_reducible refine wpList_storeM (o := ⟨none, .store 25 (.tmp 10) (.tmp 9), _, _, _, _⟩) ?_ X 65 25 (.tmp 10) (.tmp 9) ?_ ?_ ?_ hb FT1.out IF1.out ON1.out ?_); rfl; rfl; rfl; rfl; intro y1 hb1 hgs1 hzs1; rw [SP1.out] at hb1; have hR := hR.grown hgs1 (fun e => by injection e with e; omega))
    | ((with_reducible refine wpList_loadB (o := ⟨some 11, _, _, _, _, _⟩) ?_ 49 (.tmp 3) ?_ ?_ hb1 Tryz.underlying49 ?_ IX.out ?_); rfl; rfl; rfl; rfl)
    | ((with_reducible refine wpList_storeB (o := ⟨none, .store 49 (.tmp 2) (.tmp 11), _, _, _, _⟩) ?_ 49 (.tmp 2) (.tmp 11) ?_ ?_ ?_ hR IX.out HLX.out HOX.out ?_); rfl; rfl; rfl; rfl; intro wz hbz hgz hzz))
  apply bodyPost_ret
  exact results_blk rfl _ _ _ _ _ _ rfl hbz Tryz.underlying49 rfl IX.out
  rfl
  have hI := HI2.out.stp (K := fun i => g < i) (((Stp.refl (fun i => g < i) _ _).grown hgs1 (Nat.le_refl _) (fun i e => by cases e; exact .inl hgX)).grown hgz (by omega) (fun i e => by cases e; exact .inl hlt)) (fun i e => e)
  have hS := (HS2.out.grown hgs1 HS2.out.size (fun i e => by cases e; exact .inr (by omega))).grown hgz (by omega) (fun i e => by cases e; exact .inr (Nat.le_refl _))
  have hc := chain_Signed s v0 v1 HG0.out HG1.out
  exact ⟨_, HOK.out, hc.1, rfl, hc.2 ▸ hI, hS⟩

theorem chain_Command (s : Option (List UInt8)) (v0 : Int) (v1 : Int) (v2 : Int) (v3 : ByteArray) (v4 : ByteArray) (v5 : Int) (v6 : List UInt8) (h0 : got gN s v0) (h1 : got gN (nx gN s) v1) (h2 : got gN (nx gN (nx gN s)) v2) (h3 : got gT (nx gN (nx gN (nx gN s))) v3) (h4 : got gT (nx gT (nx gN (nx gN (nx gN s)))) v4) (h5 : got gN (nx gT (nx gT (nx gN (nx gN (nx gN s))))) v5) (h6 : got gD (nx gN (nx gT (nx gT (nx gN (nx gN (nx gN s)))))) v6) : got gC s (⟨v0, v1, v2, v3, v4, v5, v6⟩ : Cm) ∧ nx gC s = nx gD (nx gN (nx gT (nx gT (nx gN (nx gN (nx gN s)))))) := by
  rcases s with _ | l
  · exact ⟨fun _ _ e _ => (by cases e), rfl⟩
  rcases e0 : gN l with _ | p0
  · exact ⟨fun a p i1 i2 => (by cases i1; simp [gC, e0] at i2), by simp [nx, gC, e0]⟩
  have q0 := h0 l p0 (by simp) e0
  rcases e1 : gN p0.2 with _ | p1
  · exact ⟨fun a p i1 i2 => (by cases i1; simp [gC, e0, e1] at i2), by simp [nx, gC, e0, e1]⟩
  have q1 := h1 p0.2 p1 (by simp [nx, e0]) e1
  rcases e2 : gN p1.2 with _ | p2
  · exact ⟨fun a p i1 i2 => (by cases i1; simp [gC, e0, e1, e2] at i2), by simp [nx, gC, e0, e1, e2]⟩
  have q2 := h2 p1.2 p2 (by simp [nx, e0, e1]) e2
  rcases e3 : gT p2.2 with _ | p3
  · exact ⟨fun a p i1 i2 => (by cases i1; simp [gC, e0, e1, e2, e3] at i2), by simp [nx, gC, e0, e1, e2, e3]⟩
  have q3 := h3 p2.2 p3 (by simp [nx, e0, e1, e2]) e3
  rcases e4 : gT p3.2 with _ | p4
  · exact ⟨fun a p i1 i2 => (by cases i1; simp [gC, e0, e1, e2, e3, e4] at i2), by simp [nx, gC, e0, e1, e2, e3, e4]⟩
  have q4 := h4 p3.2 p4 (by simp [nx, e0, e1, e2, e3]) e4
  rcases e5 : gN p4.2 with _ | p5
  · exact ⟨fun a p i1 i2 => (by cases i1; simp [gC, e0, e1, e2, e3, e4, e5] at i2), by simp [nx, gC, e0, e1, e2, e3, e4, e5]⟩
  have q5 := h5 p4.2 p5 (by simp [nx, e0, e1, e2, e3, e4]) e5
  rcases e6 : gD p5.2 with _ | p6
  · exact ⟨fun a p i1 i2 => (by cases i1; simp [gC, e0, e1, e2, e3, e4, e5, e6] at i2), by simp [nx, gC, e0, e1, e2, e3, e4, e5, e6]⟩
  have q6 := h6 p5.2 p6 (by simp [nx, e0, e1, e2, e3, e4, e5]) e6
  exact ⟨fun a p i1 i2 => (by cases i1; simp [gC, e0, e1, e2, e3, e4, e5, e6, q0, q1, q2, q3, q4, q5, q6] at i2; rw [← i2]), by simp [nx, gC, e0, e1, e2, e3, e4, e5, e6]⟩
theorem built_Command : Tryz.prog.built 27 [] = some (cmc cm0).toArray := by kernel_rfl
set_option maxHeartbeats 1000000 in
theorem in_Command (a0 : Option Addr) (n0 c0 : Nat) (l0 : List UInt8) (g : Nat) (w : World) (s : Option (List UInt8)) (hI : In1 a0 n0 c0 l0 g w s) :
    Calls Tryz.prog 29 #[.pointer (some ⟨g, 0, none⟩)] w fun e w' => ∃ v : Cm, v.ok ∧ got gC s v ∧ e = .returned (.agg (cmc v).toArray) ∧ In1 a0 n0 c0 l0 g w' (nx gC s) ∧ Stp (fun i => i = g) w.heap.size w w' := by
  have HI := Lib.hid hI
  have hlt := hI.lt
  clear hI
  have IZ : Hid ((Tryz.prog.info? 27).map (·.size) = some (cmc cm0).length) := Lib.hid (by rw [cmc_length cm0_ok]; kernel_rfl)
  have HOZ : Hid (∀ v ∈ cmc cm0, v.oneCell' = true) := Lib.hid (cmc_one _)
  have HB0 : Hid (Tryz.prog.built 27 [] = some (cmc cm0).toArray) := Lib.hid built_Command
  go_enter Tryz.func29, Tryz.ntmps29
  go_wp2_with (first
    | ((with_reducible refine wpList_allocB (o := ⟨some 2, _, _, _, _, _⟩) ?_ 27 ?_ cm0_info ?_); rfl; rfl; intro wa hba hga hza)
    | ((with_reducible refine wpList_buildI (dst := some 5) HB0.out ?_ ?_); rfl)
    | ((with_reducible refine wpList_allocB (o := ⟨some 3, _, _, _, _, _⟩) ?_ 27 ?_ cm0_info ?_); rfl; rfl; intro wb hbb hgb hzb)
    | ((with_reducible refine wpList_storeB (o := ⟨none, .store 27 (.tmp 3) (.tmp 5), _, _, _, _⟩) ?_ 27 (.tmp 3) (.tmp 5) ?_ ?_ ?_ hbb IZ.out rfl HOZ.out ?_); rfl; rfl; rfl; rfl; intro wx hb hgx hzx))
  have hBx : Below w.heap.size w wx := (((Below.refl _ w).grown hga (Nat.le_refl _) (by simp)).grown hgb (by omega) (by simp)).grown hgx (by omega) (fun k e => by cases e; omega)
  have hR : Blk wx w.heap.size 27 (cmc cm0) := (hba.grown hgb (by simp)).grown hgx (fun e => by injection e with e; omega)
  have HI0 := Lib.hid (HI.out.below hBx)
  have HS0 : Hid (Stp (fun i => i = g) w.heap.size w wx) := Lib.hid (Stp.of hBx)
  rw [hza] at hb
  have hXR : w.heap.size < w.heap.size + 1 := by omega
  generalize hX : w.heap.size + 1 = X at *
  have hgX : g < X := by omega
  clear hba hga hza hbb hgb hzb hgx hzx hBx hX
  refine (in_n a0 n0 c0 l0 g wx s HI0.out).mono ?_
  rintro e w0 ⟨v0, _, hg0, rfl, hI1, hS1⟩
  have hR := hR.stp hS1 hR.lt (by omega)
  have hb := hb.stp hS1 hb.lt (by omega)
  have HG0 := Lib.hid hg0
  clear hg0
  have hc := hb.cell (j := 0) rfl
  have hf := hb.free 0
  have hb : Blk (w0.setCell ⟨X, 0, none⟩ (.int .i64 v0)) X 27 (cmc (⟨v0, 0, 0, ByteArray.empty, ByteArray.empty, 0, zero32⟩ : Cm)) := hb.set 0 (.int .i64 v0)
  have hR := hR.setOther ⟨X, 0, none⟩ (.int .i64 v0) (by simp only; omega)
  have HI1 := Lib.hid (hI1.stp (K := fun i => i = X) ((Stp.refl _ _ _).set ⟨X, 0, none⟩ (.int .i64 v0) (.inl rfl)) (fun i e => by omega))
  have HS1 := Lib.hid ((HS0.out.trans (hS1.lower HS0.out.size)).set ⟨X, 0, none⟩ (.int .i64 v0) (.inr (by simp only; omega)))
  have HR1 := Lib.hid hR
  have HB1 := Lib.hid hb
  clear hI1 hS1 hR hb
  go_wp2_with fail
  have hR := HR1.out
  have hb := HB1.out
  clear hc hf HR1 HB1
  generalize w0.setCell ⟨X, 0, none⟩ (.int .i64 v0) = y0 at *
  refine (in_n a0 n0 c0 l0 g y0 (nx gN s) HI1.out).mono ?_
  rintro e w1 ⟨v1, _, hg1, rfl, hI2, hS2⟩
  have hR := hR.stp hS2 hR.lt (by omega)
  have hb := hb.stp hS2 hb.lt (by omega)
  have HG1 := Lib.hid hg1
  clear hg1
  have hc := hb.cell (j := 1) rfl
  have hf := hb.free 1
  have hb : Blk (w1.setCell ⟨X, 1, none⟩ (.int .i64 v1)) X 27 (cmc (⟨v0, v1, 0, ByteArray.empty, ByteArray.empty, 0, zero32⟩ : Cm)) := hb.set 1 (.int .i64 v1)
  have hR := hR.setOther ⟨X, 1, none⟩ (.int .i64 v1) (by simp only; omega)
  have HI2 := Lib.hid (hI2.stp (K := fun i => i = X) ((Stp.refl _ _ _).set ⟨X, 1, none⟩ (.int .i64 v1) (.inl rfl)) (fun i e => by omega))
  have HS2 := Lib.hid ((HS1.out.trans (hS2.lower HS1.out.size)).set ⟨X, 1, none⟩ (.int .i64 v1) (.inr (by simp only; omega)))
  have HR2 := Lib.hid hR
  have HB2 := Lib.hid hb
  clear hI2 hS2 hR hb
  go_wp2_with fail
  have hR := HR2.out
  have hb := HB2.out
  clear hc hf HR2 HB2
  generalize w1.setCell ⟨X, 1, none⟩ (.int .i64 v1) = y1 at *
  refine (in_n a0 n0 c0 l0 g y1 (nx gN (nx gN s)) HI2.out).mono ?_
  rintro e w2 ⟨v2, _, hg2, rfl, hI3, hS3⟩
  have hR := hR.stp hS3 hR.lt (by omega)
  have hb := hb.stp hS3 hb.lt (by omega)
  have HG2 := Lib.hid hg2
  clear hg2
  have hc := hb.cell (j := 2) rfl
  have hf := hb.free 2
  have hb : Blk (w2.setCell ⟨X, 2, none⟩ (.int .i64 v2)) X 27 (cmc (⟨v0, v1, v2, ByteArray.empty, ByteArray.empty, 0, zero32⟩ : Cm)) := hb.set 2 (.int .i64 v2)
  have hR := hR.setOther ⟨X, 2, none⟩ (.int .i64 v2) (by simp only; omega)
  have HI3 := Lib.hid (hI3.stp (K := fun i => i = X) ((Stp.refl _ _ _).set ⟨X, 2, none⟩ (.int .i64 v2) (.inl rfl)) (fun i e => by omega))
  have HS3 := Lib.hid ((HS2.out.trans (hS3.lower HS2.out.size)).set ⟨X, 2, none⟩ (.int .i64 v2) (.inr (by simp only; omega)))
  have HR3 := Lib.hid hR
  have HB3 := Lib.hid hb
  clear hI3 hS3 hR hb
  go_wp2_with fail
  have hR := HR3.out
  have hb := HB3.out
  clear hc hf HR3 HB3
  generalize w2.setCell ⟨X, 2, none⟩ (.int .i64 v2) = y2 at *
  refine (in_s a0 n0 c0 l0 g y2 (nx gN (nx gN (nx gN s))) HI3.out).mono ?_
  rintro e w3 ⟨v3, hg3, rfl, hI4, hS4⟩
  have hR := hR.stp hS4 hR.lt (by omega)
  have hb := hb.stp hS4 hb.lt (by omega)
  have HG3 := Lib.hid hg3
  clear hg3
  have hc := hb.cell (j := 3) rfl
  have hf := hb.free 3
  have hb : Blk (w3.setCell ⟨X, 3, none⟩ (.string v3)) X 27 (cmc (⟨v0, v1, v2, v3, ByteArray.empty, 0, zero32⟩ : Cm)) := hb.set 3 (.string v3)
  have hR := hR.setOther ⟨X, 3, none⟩ (.string v3) (by simp only; omega)
  have HI4 := Lib.hid (hI4.stp (K := fun i => i = X) ((Stp.refl _ _ _).set ⟨X, 3, none⟩ (.string v3) (.inl rfl)) (fun i e => by omega))
  have HS4 := Lib.hid ((HS3.out.trans (hS4.lower HS3.out.size)).set ⟨X, 3, none⟩ (.string v3) (.inr (by simp only; omega)))
  have HR4 := Lib.hid hR
  have HB4 := Lib.hid hb
  clear hI4 hS4 hR hb
  go_wp2_with fail
  have hR := HR4.out
  have hb := HB4.out
  clear hc hf HR4 HB4
  generalize w3.setCell ⟨X, 3, none⟩ (.string v3) = y3 at *
  refine (in_s a0 n0 c0 l0 g y3 (nx gT (nx gN (nx gN (nx gN s)))) HI4.out).mono ?_
  rintro e w4 ⟨v4, hg4, rfl, hI5, hS5⟩
  have hR := hR.stp hS5 hR.lt (by omega)
  have hb := hb.stp hS5 hb.lt (by omega)
  have HG4 := Lib.hid hg4
  clear hg4
  have hc := hb.cell (j := 4) rfl
  have hf := hb.free 4
  have hb : Blk (w4.setCell ⟨X, 4, none⟩ (.string v4)) X 27 (cmc (⟨v0, v1, v2, v3, v4, 0, zero32⟩ : Cm)) := hb.set 4 (.string v4)
  have hR := hR.setOther ⟨X, 4, none⟩ (.string v4) (by simp only; omega)
  have HI5 := Lib.hid (hI5.stp (K := fun i => i = X) ((Stp.refl _ _ _).set ⟨X, 4, none⟩ (.string v4) (.inl rfl)) (fun i e => by omega))
  have HS5 := Lib.hid ((HS4.out.trans (hS5.lower HS4.out.size)).set ⟨X, 4, none⟩ (.string v4) (.inr (by simp only; omega)))
  have HR5 := Lib.hid hR
  have HB5 := Lib.hid hb
  clear hI5 hS5 hR hb
  go_wp2_with fail
  have hR := HR5.out
  have hb := HB5.out
  clear hc hf HR5 HB5
  generalize w4.setCell ⟨X, 4, none⟩ (.string v4) = y4 at *
  refine (in_n a0 n0 c0 l0 g y4 (nx gT (nx gT (nx gN (nx gN (nx gN s))))) HI5.out).mono ?_
  rintro e w5 ⟨v5, _, hg5, rfl, hI6, hS6⟩
  have hR := hR.stp hS6 hR.lt (by omega)
  have hb := hb.stp hS6 hb.lt (by omega)
  have HG5 := Lib.hid hg5
  clear hg5
  have hc := hb.cell (j := 5) rfl
  have hf := hb.free 5
  have hb : Blk (w5.setCell ⟨X, 5, none⟩ (.int .i64 v5)) X 27 (cmc (⟨v0, v1, v2, v3, v4, v5, zero32⟩ : Cm)) := hb.set 5 (.int .i64 v5)
  have hR := hR.setOther ⟨X, 5, none⟩ (.int .i64 v5) (by simp only; omega)
  have HI6 := Lib.hid (hI6.stp (K := fun i => i = X) ((Stp.refl _ _ _).set ⟨X, 5, none⟩ (.int .i64 v5) (.inl rfl)) (fun i e => by omega))
  have HS6 := Lib.hid ((HS5.out.trans (hS6.lower HS5.out.size)).set ⟨X, 5, none⟩ (.int .i64 v5) (.inr (by simp only; omega)))
  have HR6 := Lib.hid hR
  have HB6 := Lib.hid hb
  clear hI6 hS6 hR hb
  go_wp2_with fail
  have hR := HR6.out
  have hb := HB6.out
  clear hc hf HR6 HB6
  generalize w5.setCell ⟨X, 5, none⟩ (.int .i64 v5) = y5 at *
  refine (in_d a0 n0 c0 l0 g y5 (nx gN (nx gT (nx gT (nx gN (nx gN (nx gN s)))))) HI6.out).mono ?_
  rintro e w6 ⟨v6, hk6, hg6, rfl, hI7, hS7⟩
  have hR := hR.stp hS7 hR.lt (by omega)
  have hb := hb.stp hS7 hb.lt (by omega)
  have HG6 := Lib.hid hg6
  clear hg6
  have HL6 : Hid ((bs v6).length = 32) := Lib.hid (by simp [bs_length, hk6])
  have IF6 : Hid ((Tryz.prog.info? 25).map (·.size) = some (bs v6).length) := Lib.hid (by rw [info_digest]; simp [bs_length, hk6])
  have ON6 : Hid (∀ v ∈ (bs v6), v.oneCell' = true) := Lib.hid (bs_one _)
  have HC6 : Hid ((cmc (⟨v0, v1, v2, v3, v4, v5, zero32⟩ : Cm)).length = 38) := Lib.hid (by simp [cmc, bs_length, zero32_length])
  have FT6 : Hid (6 + (bs v6).length ≤ (cmc (⟨v0, v1, v2, v3, v4, v5, zero32⟩ : Cm)).length) := Lib.hid (by have h1 := HC6.out; have h2 := HL6.out; omega)
  have SP6 : Hid (splice (cmc (⟨v0, v1, v2, v3, v4, v5, zero32⟩ : Cm)) 6 (bs v6) = cmc (⟨v0, v1, v2, v3, v4, v5, v6⟩ : Cm)) := Lib.hid ((splice_mid (A := [.int .i64 v0] ++ [.int .i64 v1] ++ [.int .i64 v2] ++ [.string v3] ++ [.string v4] ++ [.int .i64 v5]) (M := (bs zero32)) (C := []) (by simp [cmc]) (by simp) (by rw [HL6.out]; first | rfl | exact hdc_length hd0_ok)).trans (by simp [cmc]))
  have HI7 := Lib.hid hI7
  have HS7 := Lib.hid (HS6.out.trans (hS7.lower HS6.out.size))
  have hRs := HS7.out.size
  clear hI7 hS7
  have hok : (⟨v0, v1, v2, v3, v4, v5, v6⟩ : Cm).ok := hk6
  have IX : Hid ((Tryz.prog.info? 27).map (·.size) = some (cmc (⟨v0, v1, v2, v3, v4, v5, v6⟩ : Cm)).length) := Lib.hid (by rw [cmc_length hok]; kernel_rfl)
  have HLX : Hid ((cmc cm0).length = (cmc (⟨v0, v1, v2, v3, v4, v5, v6⟩ : Cm)).length) := Lib.hid (by rw [cmc_length hok, cmc_length cm0_ok])
  have HOX : Hid (∀ v ∈ cmc (⟨v0, v1, v2, v3, v4, v5, v6⟩ : Cm), v.oneCell' = true) := Lib.hid (cmc_one _)
  have HOK := Lib.hid hok
  clear hok
  go_wp2_with (first
    | ((with_reducible refine wpList_storeM (o := ⟨none, .store 25 (.tmp 27) (.tmp 26), _, _, _, _⟩) ?_ X 6 25 (.tmp 27) (.tmp 26) ?_ ?_ ?_ hb FT6.out IF6.out ON6.out ?_); rfl; rfl; rfl; rfl; intro y6 hb6 hgs6 hzs6; rw [SP6.out] at hb6; have hR := hR.grown hgs6 (fun e => by injection e with e; omega))
    | ((with_reducible refine wpList_loadB (o := ⟨some 28, _, _, _, _, _⟩) ?_ 27 (.tmp 3) ?_ ?_ hb6 Tryz.underlying27 ?_ IX.out ?_); rfl; rfl; rfl; rfl)
    | ((with_reducible refine wpList_storeB (o := ⟨none, .store 27 (.tmp 2) (.tmp 28), _, _, _, _⟩) ?_ 27 (.tmp 2) (.tmp 28) ?_ ?_ ?_ hR IX.out HLX.out HOX.out ?_); rfl; rfl; rfl; rfl; intro wz hbz hgz hzz))
  apply bodyPost_ret
  exact results_blk rfl _ _ _ _ _ _ rfl hbz Tryz.underlying27 rfl IX.out
  rfl
  have hI := HI7.out.stp (K := fun i => g < i) (((Stp.refl (fun i => g < i) _ _).grown hgs6 (Nat.le_refl _) (fun i e => by cases e; exact .inl hgX)).grown hgz (by omega) (fun i e => by cases e; exact .inl hlt)) (fun i e => e)
  have hS := (HS7.out.grown hgs6 HS7.out.size (fun i e => by cases e; exact .inr (by omega))).grown hgz (by omega) (fun i e => by cases e; exact .inr (Nat.le_refl _))
  have hc := chain_Command s v0 v1 v2 v3 v4 v5 v6 HG0.out HG1.out HG2.out HG3.out HG4.out HG5.out HG6.out
  exact ⟨_, HOK.out, hc.1, rfl, hc.2 ▸ hI, hS⟩
end
/-! The reference's GetSigned and GetCommand of layer 8. -/
section
open Go.RowKit
set_option maxRecDepth 100000

def allIn (s : Option (List UInt8)) : Bool := match s with | some [] => true | _ => false
theorem whole_any (a0 : Option Addr) (n0 c0 : Nat) (l0 : List UInt8) (g : Nat) (w : World) (s : Option (List UInt8)) (hI : In1 a0 n0 c0 l0 g w s) :
    Calls Tryz.prog 30 #[.pointer (some ⟨g, 0, none⟩)] w fun e w' => e = .returned (.bool (allIn s)) ∧ w = w' := by
  obtain ⟨bad, l, hI, rfl⟩ := hI
  obtain ⟨a, n, c, h1, h2⟩ := hI.blk
  have hc0 := h1.cell (j := 0) rfl
  have hc1 := h1.cell (j := 1) rfl
  have hl := (h2 w hI.orig).len
  have hm := (h2 w hI.orig).max
  have hcp := (h2 w hI.orig).cap
  have hmx : n ≤ 9223372036854775807 := by unfold maxLen at hm; omega
  clear hI h1 h2 hm hcp
  cases bad
  · have HR : Hid (allIn (lf false l) = decide (n = 0)) := by
      refine Lib.hid ?_
      subst hl
      cases l <;> simp [lf, allIn]
    clear hl
    generalize allIn (lf false l) = q at *
    go_enter Tryz.func30, Tryz.ntmps30
    go_wp2_with fail
    go_ret
    refine ⟨?_, rfl⟩
    rw [HR.out]
    by_cases h : n = 0
    · subst h; rfl
    · have : ((n : Int) == 0) = false := by simp; omega
      simp [this, h]
  · go_enter Tryz.func30, Tryz.ntmps30
    go_wp2_with fail
    go_ret
    exact ⟨rfl, rfl⟩

theorem built_in (a : Option Addr) (n c : Nat) : Tryz.prog.built 74 [(0, .slice a n c)] = some ([.slice a n c, .bool false] : List Value).toArray := by kernel_rfl
/-- a reader at its beginning -/
theorem In1.start {w W : World} {a : Option Addr} {n c : Nat} {l : List UInt8} (hr : Rd w a n c l) (hb : Below w.heap.size w W) {g : Nat} (hg : w.heap.size ≤ g) (hB : Blk W g 74 [.slice a n c, .bool false]) : In1 a n c l g W (some l) := by
  refine ⟨false, l, ⟨hr.below hb, fun ad e hl => ?_, _, _, _, hB, fun _ h => h⟩, rfl⟩
  cases l with
  | nil => exact absurd rfl hl
  | cons x l => 
    have hc := hr.cell ad e 0 _ rfl
    have := World.block_lt_of_cell? _ _ hc
    have hb : (ad.add 0).block = ad.block := by unfold Addr.add; split <;> rfl
    omega

set_option maxHeartbeats 1000000 in
theorem getCommandR_any (w : World) (a : Option Addr) (n c : Nat) (l : List UInt8) (hr : Rd w a n c l) :
    Calls Tryz.prog 5 #[.slice a n c] w (GetP_command w l) := by
  have HR := Lib.hid hr
  have HBI : Hid (Tryz.prog.built 74 [(0, .slice a n c)] = some ([.slice a n c, .bool false] : List Value).toArray) := Lib.hid (built_in a n c)
  have HBZ : Hid (Tryz.prog.built 27 [] = some (cmc cm0).toArray) := Lib.hid built_Command
  have IZ : Hid ((Tryz.prog.info? 27).map (·.size) = some (cmc cm0).length) := Lib.hid (by rw [cmc_length cm0_ok]; exact info_command)
  have HOZ : Hid (∀ v ∈ cmc cm0, v.oneCell' = true) := Lib.hid (cmc_one _)
  clear hr
  go_enter Tryz.func5, Tryz.ntmps5
  go_wp2_with (first
    | ((with_reducible refine wpList_allocB (o := ⟨some 2, _, _, _, _, _⟩) ?_ 27 ?_ cm0_info ?_); rfl; rfl; intro wa hba hga hza)
    | ((with_reducible refine wpList_buildI (dst := some 7) HBI.out ?_ ?_); rfl))
  have hBa : Below w.heap.size w wa := (Below.refl _ w).grown hga (Nat.le_refl _) (by simp)
  have hI := Blk.new wa 74 [.slice a n c, .bool false]
  have hB1 : Below w.heap.size w (wa.alloc (.cells ([.slice a n c, .bool false] : List Value).toArray 74)) := hBa.alloc hBa.size _
  have hba := hba.alloc (.cells ([.slice a n c, .bool false] : List Value).toArray 74)
  rw [hza] at hI
  have hI1 := In1.start HR.out hB1 (by omega) hI
  generalize hW : wa.alloc (.cells ([.slice a n c, .bool false] : List Value).toArray 74) = w1 at *
  have hgR : w.heap.size < w.heap.size + 1 := by omega
  generalize hX : w.heap.size + 1 = g at *
  clear hga hza hBa hI hW hX
  refine (in_Command a n c l g w1 (some l) hI1).mono ?_
  rintro e w2 ⟨v, hvk, hvg, rfl, hI2, hS2⟩
  have hba := hba.stp hS2 hba.lt (by omega)
  have HB2 : Hid (Below w.heap.size w w2) := Lib.hid (hB1.trans (hS2.below hB1.size (fun i e => by omega)))
  have HI2 := Lib.hid hI2
  have IX : Hid ((Tryz.prog.info? 27).map (·.size) = some (cmc v).length) := Lib.hid (by rw [cmc_length hvk]; exact info_command)
  have HLX : Hid ((cmc cm0).length = (cmc v).length) := Lib.hid (by rw [cmc_length hvk, cmc_length cm0_ok])
  have HOX : Hid (∀ u ∈ cmc v, u.oneCell' = true) := Lib.hid (cmc_one _)
  have HF : Hid ((allIn (nx gC (some l)) = true → gCm l = (v, 0)) ∧ (allIn (nx gC (some l)) = false → gCm l = (cm0, 60))) := by
    refine Lib.hid ?_
    unfold gCm nx
    rw [Option.bind_some]
    rcases eg : gC l with _ | ⟨x, l'⟩
    · exact ⟨fun h => (by cases h), fun _ => rfl⟩
    · have hx := hvg l (x, l') rfl eg
      simp only at hx
      subst hx
      cases l' with
      | nil => exact ⟨fun _ => rfl, fun h => (by cases h)⟩
      | cons y l' => exact ⟨fun h => (by cases h), fun _ => rfl⟩
  have HGP : Hid (∀ W x y, gCm l = (x, y) → Below w.heap.size w W → GetP_command w l (.returned (.tuple #[.agg (cmc x).toArray, .int .i64 y])) W) := Lib.hid (fun W x y e h => by unfold GetP_command; rw [e]; exact ⟨rfl, h⟩)
  clear hI1 hI2 hS2 hvg hB1
  go_wp2_with (first
    | ((with_reducible refine wpList_allocB (o := ⟨some 5, _, _, _, _, _⟩) ?_ 27 ?_ cm0_info ?_); rfl; rfl; intro wc hbc hgc hzc)
    | ((with_reducible refine wpList_storeB (o := ⟨none, .store 27 (.tmp 5) (.tmp 10), _, _, _, _⟩) ?_ 27 (.tmp 5) (.tmp 10) ?_ ?_ ?_ hbc IX.out HLX.out HOX.out ?_); rfl; rfl; rfl; rfl; intro wd hbd hgd hzd))
  have hB24 : Below w2.heap.size w2 wd := ((Below.refl _ w2).grown hgc (Nat.le_refl _) (by simp)).grown hgd (by omega) (fun k e => by cases e; exact Nat.le_refl _)
  have hI4 := HI2.out.below hB24
  have hba := hba.below hB24
  have HB4 := Lib.hid (HB2.out.trans (hB24.mono HB2.out.size))
  clear hbc hgc hzc hgd hzd hB24
  refine (whole_any a n c l g wd _ hI4).mono ?_
  rintro e w5 ⟨rfl, rfl⟩
  clear hI4
  cases hq : allIn (nx gC (some l))
  · have he := HF.out.2 hq
    go_wp2_with (first
      | ((with_reducible refine wpList_buildI (dst := some 14) HBZ.out ?_ ?_); rfl)
      | ((with_reducible refine wpList_storeB (o := ⟨none, .store 27 (.tmp 2) (.tmp 14), _, _, _, _⟩) ?_ 27 (.tmp 2) (.tmp 14) ?_ ?_ ?_ hba IZ.out rfl HOZ.out ?_); rfl; rfl; rfl; rfl; intro wz hbz hgz hzz))
    apply bodyPost_ret
    exact results_blk2 rfl _ _ _ _ _ _ rfl hbz Tryz.underlying27 rfl IZ.out
    rfl
    exact HGP.out _ _ _ he (HB4.out.grown hgz HB4.out.size (fun k e => by cases e; exact Nat.le_refl _))
  · have he := HF.out.1 hq
    go_wp2_with (first
      | ((with_reducible refine wpList_loadB (o := ⟨some 15, _, _, _, _, _⟩) ?_ 27 (.tmp 5) ?_ ?_ hbd Tryz.underlying27 ?_ IX.out ?_); rfl; rfl; rfl; rfl)
      | ((with_reducible refine wpList_storeB (o := ⟨none, .store 27 (.tmp 2) (.tmp 15), _, _, _, _⟩) ?_ 27 (.tmp 2) (.tmp 15) ?_ ?_ ?_ hba IX.out HLX.out HOX.out ?_); rfl; rfl; rfl; rfl; intro wz hbz hgz hzz))
    apply bodyPost_ret
    exact results_blk2 rfl _ _ _ _ _ _ rfl hbz Tryz.underlying27 rfl IX.out
    rfl
    exact HGP.out _ _ _ he (HB4.out.grown hgz HB4.out.size (fun k e => by cases e; exact Nat.le_refl _))

set_option maxHeartbeats 1000000 in
theorem getSignedR_any (w : World) (a : Option Addr) (n c : Nat) (l : List UInt8) (hr : Rd w a n c l) :
    Calls Tryz.prog 16 #[.slice a n c] w (GetP_signed w l) := by
  have HR := Lib.hid hr
  have HBI : Hid (Tryz.prog.built 74 [(0, .slice a n c)] = some ([.slice a n c, .bool false] : List Value).toArray) := Lib.hid (built_in a n c)
  have HBZ : Hid (Tryz.prog.built 49 [] = some (sgc sg0).toArray) := Lib.hid built_Signed
  have IZ : Hid ((Tryz.prog.info? 49).map (·.size) = some (sgc sg0).length) := Lib.hid (by rw [sgc_length sg0_ok]; exact info_signed)
  have HOZ : Hid (∀ v ∈ sgc sg0, v.oneCell' = true) := Lib.hid (sgc_one _)
  clear hr
  go_enter Tryz.func16, Tryz.ntmps16
  go_wp2_with (first
    | ((with_reducible refine wpList_allocB (o := ⟨some 2, _, _, _, _, _⟩) ?_ 49 ?_ sg0_info ?_); rfl; rfl; intro wa hba hga hza)
    | ((with_reducible refine wpList_buildI (dst := some 7) HBI.out ?_ ?_); rfl))
  have hBa : Below w.heap.size w wa := (Below.refl _ w).grown hga (Nat.le_refl _) (by simp)
  have hI := Blk.new wa 74 [.slice a n c, .bool false]
  have hB1 : Below w.heap.size w (wa.alloc (.cells ([.slice a n c, .bool false] : List Value).toArray 74)) := hBa.alloc hBa.size _
  have hba := hba.alloc (.cells ([.slice a n c, .bool false] : List Value).toArray 74)
  rw [hza] at hI
  have hI1 := In1.start HR.out hB1 (by omega) hI
  generalize hW : wa.alloc (.cells ([.slice a n c, .bool false] : List Value).toArray 74) = w1 at *
  have hgR : w.heap.size < w.heap.size + 1 := by omega
  generalize hX : w.heap.size + 1 = g at *
  clear hga hza hBa hI hW hX
  refine (in_Signed a n c l g w1 (some l) hI1).mono ?_
  rintro e w2 ⟨v, hvk, hvg, rfl, hI2, hS2⟩
  have hba := hba.stp hS2 hba.lt (by omega)
  have HB2 : Hid (Below w.heap.size w w2) := Lib.hid (hB1.trans (hS2.below hB1.size (fun i e => by omega)))
  have HI2 := Lib.hid hI2
  have IX : Hid ((Tryz.prog.info? 49).map (·.size) = some (sgc v).length) := Lib.hid (by rw [sgc_length hvk]; exact info_signed)
  have HLX : Hid ((sgc sg0).length = (sgc v).length) := Lib.hid (by rw [sgc_length hvk, sgc_length sg0_ok])
  have HOX : Hid (∀ u ∈ sgc v, u.oneCell' = true) := Lib.hid (sgc_one _)
  have HF : Hid ((allIn (nx gS (some l)) = true → gSg l = (v, 0)) ∧ (allIn (nx gS (some l)) = false → gSg l = (sg0, 60))) := by
    refine Lib.hid ?_
    unfold gSg nx
    rw [Option.bind_some]
    rcases eg : gS l with _ | ⟨x, l'⟩
    · exact ⟨fun h => (by cases h), fun _ => rfl⟩
    · have hx := hvg l (x, l') rfl eg
      simp only at hx
      subst hx
      cases l' with
      | nil => exact ⟨fun _ => rfl, fun h => (by cases h)⟩
      | cons y l' => exact ⟨fun h => (by cases h), fun _ => rfl⟩
  have HGP : Hid (∀ W x y, gSg l = (x, y) → Below w.heap.size w W → GetP_signed w l (.returned (.tuple #[.agg (sgc x).toArray, .int .i64 y])) W) := Lib.hid (fun W x y e h => by unfold GetP_signed; rw [e]; exact ⟨rfl, h⟩)
  clear hI1 hI2 hS2 hvg hB1
  go_wp2_with (first
    | ((with_reducible refine wpList_allocB (o := ⟨some 5, _, _, _, _, _⟩) ?_ 49 ?_ sg0_info ?_); rfl; rfl; intro wc hbc hgc hzc)
    | ((with_reducible refine wpList_storeB (o := ⟨none, .store 49 (.tmp 5) (.tmp 10), _, _, _, _⟩) ?_ 49 (.tmp 5) (.tmp 10) ?_ ?_ ?_ hbc IX.out HLX.out HOX.out ?_); rfl; rfl; rfl; rfl; intro wd hbd hgd hzd))
  have hB24 : Below w2.heap.size w2 wd := ((Below.refl _ w2).grown hgc (Nat.le_refl _) (by simp)).grown hgd (by omega) (fun k e => by cases e; exact Nat.le_refl _)
  have hI4 := HI2.out.below hB24
  have hba := hba.below hB24
  have HB4 := Lib.hid (HB2.out.trans (hB24.mono HB2.out.size))
  clear hbc hgc hzc hgd hzd hB24
  refine (whole_any a n c l g wd _ hI4).mono ?_
  rintro e w5 ⟨rfl, rfl⟩
  clear hI4
  cases hq : allIn (nx gS (some l))
  · have he := HF.out.2 hq
    go_wp2_with (first
      | ((with_reducible refine wpList_buildI (dst := some 14) HBZ.out ?_ ?_); rfl)
      | ((with_reducible refine wpList_storeB (o := ⟨none, .store 49 (.tmp 2) (.tmp 14), _, _, _, _⟩) ?_ 49 (.tmp 2) (.tmp 14) ?_ ?_ ?_ hba IZ.out rfl HOZ.out ?_); rfl; rfl; rfl; rfl; intro wz hbz hgz hzz))
    apply bodyPost_ret
    exact results_blk2 rfl _ _ _ _ _ _ rfl hbz Tryz.underlying49 rfl IZ.out
    rfl
    exact HGP.out _ _ _ he (HB4.out.grown hgz HB4.out.size (fun k e => by cases e; exact Nat.le_refl _))
  · have he := HF.out.1 hq
    go_wp2_with (first
      | ((with_reducible refine wpList_loadB (o := ⟨some 15, _, _, _, _, _⟩) ?_ 49 (.tmp 5) ?_ ?_ hbd Tryz.underlying49 ?_ IX.out ?_); rfl; rfl; rfl; rfl)
      | ((with_reducible refine wpList_storeB (o := ⟨none, .store 49 (.tmp 2) (.tmp 15), _, _, _, _⟩) ?_ 49 (.tmp 2) (.tmp 15) ?_ ?_ ?_ hba IX.out HLX.out HOX.out ?_); rfl; rfl; rfl; rfl; intro wz hbz hgz hzz))
    apply bodyPost_ret
    exact results_blk2 rfl _ _ _ _ _ _ rfl hbz Tryz.underlying49 rfl IX.out
    rfl
    exact HGP.out _ _ _ he (HB4.out.grown hgz HB4.out.size (fun k e => by cases e; exact Nat.le_refl _))
end
end Go.Proofs.YtoclahcibilbhaaGreat
