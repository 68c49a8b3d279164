/-
  Snapshots and records held against each other; the example of records.
-/
import Derived.Test.YtoclahcibilbhaaGreatWirV2
import Derived.Test.YtoclahcibilbhaaGreatWirS4
namespace Go.Proofs.YtoclahcibilbhaaGreat
open Go.RowKit
set_option maxRecDepth 100000

theorem sn_parts (x : Sn) : ∀ (W : World) (z b : Nat), W.rangeAt z b (snc x) → W.cell? ⟨z, b, none⟩ = some (.int .i64 x.ix) ∧ W.cell? ⟨z, b + 1, none⟩ = some (.int .i64 x.te) ∧ W.rangeAt z (b + 2) (coc x.co) ∧ W.cell? ⟨z, b + 4, none⟩ = some (.string x.da) := by
  intro W z b hp
  have hp3 : W.rangeAt z b ([.int .i64 x.ix] ++ [.int .i64 x.te] ++ coc x.co ++ [.string x.da]) := hp
  obtain ⟨hp2, f3⟩ := range_app (o := 4) hp3 (by simp [coc_length (x := x.co) trivial])
  obtain ⟨hp1, f2⟩ := range_app (o := 2) hp2 (by simp)
  obtain ⟨hp0, f1⟩ := range_app (o := 1) hp1 (by simp)
  exact ⟨by simpa using range_cell hp0 0 (v := .int .i64 x.ix) rfl, by simpa using range_cell f1 0 (v := .int .i64 x.te) rfl, f2, by simpa using range_cell f3 0 (v := .string x.da) rfl⟩
theorem re_parts {x : Re} (hx : x.ok) : ∀ W z, Blk W z 51 (rec x) → W.cell? ⟨z, 0, none⟩ = some (.int .i64 x.kd) ∧ W.cell? ⟨z, 1, none⟩ = some (.int .i64 x.te) ∧ W.cell? ⟨z, 2, none⟩ = some (.int .i64 x.vo) ∧ W.rangeAt z 3 (enc x.en) ∧ W.cell? ⟨z, 46, none⟩ = some (.int .i64 x.ix) ∧ W.rangeAt z 47 (snc x.sn) ∧ W.rangeAt z 52 (sgc x.sg) := by
  intro W z h
  have hp : W.rangeAt z 0 (rec x) := h.range 0 (fun j _ => by rw [Nat.zero_add])
  have hp6 : W.rangeAt z 0 ([.int .i64 x.kd] ++ [.int .i64 x.te] ++ [.int .i64 x.vo] ++ enc x.en ++ [.int .i64 x.ix] ++ snc x.sn ++ sgc x.sg) := hp
  obtain ⟨hp5, f6⟩ := range_app (o := 52) hp6 (by simp [enc_length (x := x.en) hx.1, snc_length (x := x.sn) trivial])
  obtain ⟨hp4, f5⟩ := range_app (o := 47) hp5 (by simp [enc_length (x := x.en) hx.1])
  obtain ⟨hp3, f4⟩ := range_app (o := 46) hp4 (by simp [enc_length (x := x.en) hx.1])
  obtain ⟨hp2, f3⟩ := range_app (o := 3) hp3 (by simp)
  obtain ⟨hp1, f2⟩ := range_app (o := 2) hp2 (by simp)
  obtain ⟨hp0, f1⟩ := range_app (o := 1) hp1 (by simp)
  exact ⟨by simpa using range_cell hp0 0 (v := .int .i64 x.kd) rfl, by simpa using range_cell f1 0 (v := .int .i64 x.te) rfl, by simpa using range_cell f2 0 (v := .int .i64 x.vo) rfl, by simpa using f3, by simpa using range_cell f4 0 (v := .int .i64 x.ix) rfl, by simpa using f5, by simpa using f6⟩
theorem ren_parts {W : World} {z b : Nat} {x : En} (hx : x.ok) (hp : W.rangeAt z b (enc x)) : W.cell? ⟨z, b + 6, none⟩ = some (.string x.cm.us) ∧ W.cell? ⟨z, b + 7, none⟩ = some (.string x.cm.ky) ∧ W.rangeAt z (b + 41) (coc x.co) := by
  have hp4 : W.rangeAt z b ([.int .i64 x.ix] ++ [.int .i64 x.te] ++ [.int .i64 x.kd] ++ cmc x.cm ++ coc x.co) := hp
  obtain ⟨hp3, f4⟩ := range_app (o := 41) hp4 (by simp [cmc_length (x := x.cm) hx])
  obtain ⟨hp2, f3⟩ := range_app (o := 3) hp3 (by simp)
  exact ⟨range_cell f3 3 (v := .string x.cm.us) rfl, range_cell f3 4 (v := .string x.cm.ky) rfl, f4⟩

set_option maxHeartbeats 2000000 in
theorem same_snap (w : World) (x y : Sn) (he : y.cl = x.cl) (hx : x.co.at w) (hy : y.co.at w) :
    Calls Tryz.prog 41 #[.agg (snc x).toArray, .agg (snc y).toArray] w fun f w' => f = .returned (.bool true) ∧ Below w.heap.size w w' := by
  obtain ⟨ix, te, co, da⟩ := x
  obtain ⟨ix', te', co', da'⟩ := y
  obtain ⟨rfl, rfl, hco, rfl⟩ : ix' = ix ∧ te' = te ∧ co'.cl = co.cl ∧ da' = da := by simp only [Sn.cl, Sn.mk.injEq] at he; exact he
  have h0 := (Blk.new w 45 (snc ⟨ix', te', co, da'⟩)).alloc (.cells (snc ⟨ix', te', co', da'⟩).toArray 45)
  have h1 := Blk.new (w.alloc (.cells (snc ⟨ix', te', co, da'⟩).toArray 45)) 45 (snc ⟨ix', te', co', da'⟩)
  have hz1 : (w.alloc (.cells (snc ⟨ix', te', co, da'⟩).toArray 45)).heap.size = w.heap.size + 1 := by simp
  rw [hz1] at h1
  have hB : Below w.heap.size w ((w.alloc (.cells (snc ⟨ix', te', co, da'⟩).toArray 45)).alloc (.cells (snc ⟨ix', te', co', da'⟩).toArray 45)) := ((Below.refl _ w).alloc (Nat.le_refl _) _).alloc (by simp) _
  have hx := hx.below hB
  have hy := hy.below hB
  obtain ⟨a0, a1, a2, a3⟩ := sn_parts _ _ _ 0 (h0.range 0 (fun j _ => by rw [Nat.zero_add]))
  obtain ⟨b0, b1, b2, b3⟩ := sn_parts _ _ _ 0 (h1.range 0 (fun j _ => by rw [Nat.zero_add]))
  simp only [Nat.zero_add] at a0 a1 a2 a3 b0 b1 b2 b3
  have I4 : Hid ((Tryz.prog.info? 36).map (·.size) = some (coc co).length) := Lib.hid (by rw [coc_length trivial]; kernel_rfl)
  have I4' : Hid ((Tryz.prog.info? 36).map (·.size) = some (coc co').length) := Lib.hid (by rw [coc_length trivial]; kernel_rfl)
  clear h0 h1 he
  go_enter Tryz.func41, Tryz.ntmps41
  go_wp2_with (first
    | ((with_reducible refine wpList_loadQ (o := ⟨some 26, _, _, _, _, _⟩) ?_ w.heap.size 2 36 (.tmp 25) ?_ ?_ a2 Tryz.underlying36 ?_ I4.out ?_); rfl; rfl; rfl; rfl)
    | ((with_reducible refine wpList_loadQ (o := ⟨some 28, _, _, _, _, _⟩) ?_ (w.heap.size + 1) 2 36 (.tmp 27) ?_ ?_ b2 Tryz.underlying36 ?_ I4'.out ?_); rfl; rfl; rfl; rfl))
  generalize ((w.alloc (.cells (snc ⟨ix', te', co, da'⟩).toArray 45)).alloc (.cells (snc ⟨ix', te', co', da'⟩).toArray 45)) = w1 at *
  refine (same_council w1 co co' hco hx hy).mono ?_
  rintro e w2 ⟨rfl, hB2⟩
  have HB := Lib.hid (Bt hB hB2)
  clear hB hB2 hx hy a0 a1 a2 a3 b0 b1 b2 b3
  go_wp2_with fail
  go_ret
  exact ⟨rfl, HB.out⟩

def Re.at (w : World) (x : Re) : Prop := x.en.co.at w ∧ x.sn.co.at w
theorem Re.at.below {w w' : World} {x : Re} (h : x.at w) (hb : Below w.heap.size w w') : x.at w' := ⟨h.1.below hb, h.2.below hb⟩
theorem Re.own_at {w : World} {B : Nat} {x : Re} (h : Re.own w B x) : x.at w := ⟨Co.own_at h.1, Co.own_at h.2⟩
theorem Re.rd_at {w : World} {x : Re} (h : x.rd w) : x.at w := by
  have := h w _ _ (Below.refl _ w) (Nat.le_refl _) (Nat.le_refl _)
  exact ⟨⟨this.1.1.rd, this.1.2.rd⟩, ⟨this.2.1.rd, this.2.2.rd⟩⟩

set_option maxHeartbeats 2000000 in
theorem same_record (w : World) (x y : Re) (he : y.cl = x.cl) (okx : x.ok) (oky : y.ok) (hx : x.at w) (hy : y.at w) :
    Calls Tryz.prog 14 #[.agg (rec x).toArray, .agg (rec y).toArray] w fun f w' => f = .returned (.bool true) ∧ Below w.heap.size w w' := by
  obtain ⟨kd, te, vo, en, ix, sn, sg⟩ := x
  obtain ⟨kd', te', vo', en', ix', sn', sg'⟩ := y
  obtain ⟨rfl, rfl, rfl, hen, rfl, hsn, rfl⟩ : kd' = kd ∧ te' = te ∧ vo' = vo ∧ en'.cl = en.cl ∧ ix' = ix ∧ sn'.cl = sn.cl ∧ sg' = sg := by simp only [Re.cl, Re.mk.injEq] at he; exact he
  have h0 := (Blk.new w 51 (rec ⟨kd', te', vo', en, ix', sn, sg'⟩)).alloc (.cells (rec ⟨kd', te', vo', en', ix', sn', sg'⟩).toArray 51)
  have h1 := Blk.new (w.alloc (.cells (rec ⟨kd', te', vo', en, ix', sn, sg'⟩).toArray 51)) 51 (rec ⟨kd', te', vo', en', ix', sn', sg'⟩)
  have hz1 : (w.alloc (.cells (rec ⟨kd', te', vo', en, ix', sn, sg'⟩).toArray 51)).heap.size = w.heap.size + 1 := by simp
  rw [hz1] at h1
  have hB : Below w.heap.size w ((w.alloc (.cells (rec ⟨kd', te', vo', en, ix', sn, sg'⟩).toArray 51)).alloc (.cells (rec ⟨kd', te', vo', en', ix', sn', sg'⟩).toArray 51)) := ((Below.refl _ w).alloc (Nat.le_refl _) _).alloc (by simp) _
  have hx := hx.below hB
  have hy := hy.below hB
  obtain ⟨a0, a1, a2, a3, a4, a5, a6⟩ := re_parts okx _ _ h0
  obtain ⟨b0, b1, b2, b3, b4, b5, b6⟩ := re_parts oky _ _ h1
  simp only at a0 a1 a2 a3 a4 a5 a6 b0 b1 b2 b3 b4 b5 b6
  have heq := fun W => eqS W sg' okx.2
  have I3 : Hid ((Tryz.prog.info? 38).map (·.size) = some (enc en).length) := Lib.hid (by rw [enc_length okx.1]; exact info_entry)
  have I3' : Hid ((Tryz.prog.info? 38).map (·.size) = some (enc en').length) := Lib.hid (by rw [enc_length oky.1]; exact info_entry)
  have I5 : Hid ((Tryz.prog.info? 45).map (·.size) = some (snc sn).length) := Lib.hid (by rw [snc_length trivial]; kernel_rfl)
  have I5' : Hid ((Tryz.prog.info? 45).map (·.size) = some (snc sn').length) := Lib.hid (by rw [snc_length trivial]; kernel_rfl)
  have I6 : Hid ((Tryz.prog.info? 49).map (·.size) = some (sgc sg').length) := Lib.hid (by rw [sgc_length okx.2]; kernel_rfl)
  have HEN := Lib.hid (fun W h h' => same_entry W en en' hen okx.1 oky.1 h h')
  have HSN := Lib.hid (fun W h h' => same_snap W sn sn' hsn h h')
  clear he okx oky hen hsn
  go_enter Tryz.func14, Tryz.ntmps14
  go_wp2_with (first
    | ((with_reducible refine wpList_loadQ (o := ⟨some 33, _, _, _, _, _⟩) ?_ w.heap.size 52 49 (.tmp 32) ?_ ?_ a6 Tryz.underlying49 ?_ I6.out ?_); rfl; rfl; rfl; rfl)
    | ((with_reducible refine wpList_loadQ (o := ⟨some 35, _, _, _, _, _⟩) ?_ (w.heap.size + 1) 52 49 (.tmp 34) ?_ ?_ b6 Tryz.underlying49 ?_ I6.out ?_); rfl; rfl; rfl; rfl)
    | ((with_reducible refine wpList_loadQ (o := ⟨some 40, _, _, _, _, _⟩) ?_ w.heap.size 3 38 (.tmp 39) ?_ ?_ a3 Tryz.underlying38 ?_ I3.out ?_); rfl; rfl; rfl; rfl)
    | ((with_reducible refine wpList_loadQ (o := ⟨some 42, _, _, _, _, _⟩) ?_ (w.heap.size + 1) 3 38 (.tmp 41) ?_ ?_ b3 Tryz.underlying38 ?_ I3'.out ?_); rfl; rfl; rfl; rfl))
  generalize ((w.alloc (.cells (rec ⟨kd', te', vo', en, ix', sn, sg'⟩).toArray 51)).alloc (.cells (rec ⟨kd', te', vo', en', ix', sn', sg'⟩).toArray 51)) = w1 at *
  refine (HEN.out w1 hx.1 hy.1).mono ?_
  rintro e w2 ⟨rfl, hB2⟩
  have c5 := range_below hB2 a5
  have d5 := range_below hB2 b5
  have hx2 := hx.below hB2
  have hy2 := hy.below hB2
  have HB := Lib.hid (Bt hB hB2)
  clear hB hB2 hx hy a0 a1 a2 a3 a4 a5 a6 b0 b1 b2 b3 b4 b5 b6 h0 h1 hz1 heq
  go_wp2_with (first
    | ((with_reducible refine wpList_loadQ (o := ⟨some 47, _, _, _, _, _⟩) ?_ w.heap.size 47 45 (.tmp 46) ?_ ?_ c5 Tryz.underlying45 ?_ I5.out ?_); rfl; rfl; rfl; rfl)
    | ((with_reducible refine wpList_loadQ (o := ⟨some 49, _, _, _, _, _⟩) ?_ (w.heap.size + 1) 47 45 (.tmp 48) ?_ ?_ d5 Tryz.underlying45 ?_ I5'.out ?_); rfl; rfl; rfl; rfl))
  refine (HSN.out w2 hx2.2 hy2.2).mono ?_
  rintro e w3 ⟨rfl, hB3⟩
  have HB3 := Lib.hid (Bt HB.out hB3)
  clear hB3 hx2 hy2 c5 d5
  go_wp2_with fail
  go_ret
  exact ⟨rfl, HB3.out⟩

theorem gRe_lo (x : Re) (hx : x.ok) (h : (loR x (0, [])).1 = 0) : gRe (loR x (0, [])).2 = (x.cl, 0) := by
  obtain ⟨_, b, e, g⟩ := back_record hx _ h
  have := g []
  rw [List.append_nil] at this
  rw [e, List.nil_append]
  unfold gRe
  rw [this]
theorem gRe_nil : gRe [] = (re0, 60) := by simp [gRe, gR, gN, cnt]
/-- a record's bytes without their last one -/
theorem gRe_cut (x : Re) (hx : x.ok) (h : (loR x (0, [])).1 = 0) (l s : List UInt8) (hs : s ≠ []) (e : (loR x (0, [])).2 = l ++ s) : gRe l = (re0, 60) := by
  obtain ⟨_, b, e1, g⟩ := back_record hx _ h
  rw [List.nil_append, e] at e1
  have h1 := g []
  rw [List.append_nil, ← e1] at h1
  unfold gRe
  cases h2 : gR l with
  | none => rfl
  | some p =>
    obtain ⟨y, t⟩ := p
    cases t with
    | nil => exact absurd h2 (cut_of fwd_record (fun x hx => back_record hx) hs h1)
    | cons _ _ => rfl
def re1 : Re := ⟨1, 3, 2, en0, 0, ⟨0, 0, co0, ByteArray.empty⟩, sg0⟩
theorem re1_ok : re1.ok := ⟨cm0_ok, sg0_ok⟩
theorem re1_own {w : World} {B : Nat} : Re.own w B re1 := ⟨en0_own, ⟨OwnG.nil0 _ _, OwnG.nil0 _ _⟩⟩
theorem built_re1 : Tryz.prog.built 51 [(0, .int .i64 1), (1, .int .i64 3), (2, .int .i64 2)] = some (rec re1).toArray := by kernel_rfl
theorem loN_s {n : Nat} (h : n < 128) : loN (n : Int) = fun o => if o.1 ≠ 0 then o else (0, o.2 ++ [n.toUInt8]) := by
  have e0 : encC n = [n.toUInt8] := encC_lt h
  funext o
  unfold loN
  rw [Int.toNat_natCast, e0, if_pos (show (0 : Int) ≤ (n : Int) ∧ (n : Int) ≤ 2147483647 by omega)]
theorem lo_re1 : (loR re1 (0, [])).1 = 0 ∧ (loR re1 (0, [])).2.length = 149 := by
  have h1 := loN_s (n := 1) (by decide)
  have h2 := loN_s (n := 2) (by decide)
  have h3 := loN_s (n := 3) (by decide)
  have c1 : ((1 : Nat) : Int) = 1 := rfl
  have c2 : ((2 : Nat) : Int) = 2 := rfl
  have c3 : ((3 : Nat) : Int) = 3 := rfl
  rw [c1] at h1; rw [c2] at h2; rw [c3] at h3
  unfold loR re1 loE en0 loSn loS sg0 loH hd0 loCo loC cm0 co0
  simp only [loN_0, h1, h2, h3, loT_0, loL_0, loD]
  decide

set_option maxHeartbeats 2000000 in
theorem records_law (w : World) :
    Calls Tryz.prog 24 #[] w fun f w' => f = .returned (.bool true) ∧ Below w.heap.size w w' := by
  have B1 := Lib.hid built_re1
  go_enter Tryz.func24, Tryz.ntmps24
  go_wp2_with (first | ((with_reducible refine wpList_buildI (dst := some 8) B1.out ?_ ?_); rfl))
  refine (putRecord_any w re1 re1_ok (Re.own_rd (base := 0) re1_own)).mono ?_
  rintro e w1 ⟨v, rfl, hO, hB1⟩
  rw [if_pos lo_re1.1] at hO
  obtain ⟨a1, c1, rfl⟩ := hO.shape
  have hr := hO.rd
  have hgs := gRe_lo re1 re1_ok lo_re1.1
  have hct := fun l s => gRe_cut re1 re1_ok lo_re1.1 l s
  rw [lo_re1.1]
  rw [lo_re1.2] at hr ⊢
  have hcl : re1.cl = re1 := rfl
  rw [hcl] at hgs
  generalize hq : (loR re1 (0, [])).2 = q at hr hgs hct
  have hql : q.length = 149 := hr.len
  obtain ⟨bl, off, rfl, _, _⟩ := hr.at (by decide)
  have hr2 := hr.take 148 (by decide)
  have HCT : Hid (gRe (q.take 148) = (re0, 60)) := Lib.hid (hct (q.take 148) (q.drop 148) (fun e => by have := congrArg List.length e; simp [hql] at this) (by rw [List.take_append_drop]))
  have hcap := hr.cap
  clear hO B1 hct hcl hq hql
  go_wp2_with fail
  refine (getRecord_any w1 _ 149 c1 q hr (by decide)).mono ?_
  rintro e w2 ⟨y, hy1, hy2, rfl, _, hB2⟩
  rw [hgs] at hy1 ⊢
  have IS : Hid ((Tryz.prog.info? 51).map (·.size) = some (rec y).length) := Lib.hid (by rw [rec_length hy2]; exact info_record)
  have HL : Hid ((rec re0).length = (rec y).length) := Lib.hid (by rw [rec_length hy2, rec_length re0_ok])
  have HONE : Hid (∀ v ∈ rec y, v.oneCell' = true) := Lib.hid (rec_one _)
  have hr3 := hr2.below hB2
  have HY : Hid (y.te = 3 ∧ y.vo = 2) := Lib.hid (by
    have h1 := congrArg Re.te hy1
    have h2 := congrArg Re.vo hy1
    exact ⟨h1, h2⟩)
  have HB2 := Lib.hid (Bt hB1 hB2)
  clear hB1 hB2 hgs hr hr2 hy1
  go_wp2_with (first | ((with_reducible refine wpList_allocB (o := ⟨some 3, _, _, _, _, _⟩) ?_ 51 ?_ re0_info ?_); rfl; rfl; intro w3 hb3 hg3 hz3) | ((with_reducible refine wpList_storeB (o := ⟨none, .store 51 (.tmp 3) (.tmp 15), _, _, _, _⟩) ?_ 51 (.tmp 3) (.tmp 15) ?_ ?_ ?_ hb3 IS.out HL.out HONE.out ?_); rfl; rfl; rfl; rfl; intro w4 hb4 hg4 hz4))
  have hB24 : Below w2.heap.size w2 w4 := ((Below.refl _ w2).grown hg3 (Nat.le_refl _) (by simp)).grown hg4 (by omega) (fun k e => by cases e; exact Nat.le_refl _)
  have hr4 := hr3.below hB24
  have hB4 := Bt HB2.out hB24
  clear hb3 hg3 hg4 hz3 hz4 hB24 hr3
  refine (getRecord_any w4 _ 148 c1 _ hr4 (by decide)).mono ?_
  rintro e w5 ⟨z, _, hz2, rfl, _, hB5⟩
  rw [HCT.out]
  have ISz : Hid ((Tryz.prog.info? 51).map (·.size) = some (rec z).length) := Lib.hid (by rw [rec_length hz2]; exact info_record)
  have HLz : Hid ((rec re0).length = (rec z).length) := Lib.hid (by rw [rec_length hz2, rec_length re0_ok])
  have HONEz : Hid (∀ v ∈ rec z, v.oneCell' = true) := Lib.hid (rec_one _)
  have hb5 := hb4.below hB5
  have hwl := hb5.lt
  have HB5 := Lib.hid (Bt hB4 hB5)
  clear hb4 hB4 hB5 hr4
  go_wp2_with (first | ((with_reducible refine wpList_allocB (o := ⟨some 5, _, _, _, _, _⟩) ?_ 51 ?_ re0_info ?_); rfl; rfl; intro w6 hb6 hg6 hz6) | (((with_reducible refine wpList_storeB (o := ⟨none, .store 51 (.tmp 5) (.tmp 27), _, _, _, _⟩) ?_ 51 (.tmp 5) (.tmp 27) ?_ ?_ ?_ hb6 ISz.out HLz.out HONEz.out ?_); rfl; rfl; rfl; rfl; intro w7 hb7 hg7 hz7); have hb8 := (hb5.grown hg6 (by simp)).grown hg7 (by simp; omega); obtain ⟨_, p1, p2, _⟩ := re_parts hy2 _ _ hb8; rw [HY.out.1] at p1; rw [HY.out.2] at p2))
  go_ret
  exact ⟨rfl, (HB5.out.grown hg6 HB5.out.size (by simp)).grown hg7 (by have := HB5.out.size; omega) (fun k e => by cases e; exact HB5.out.size)⟩

theorem loR_len (x : Re) (hx : x.ok) : (loR x (0, [])).2.length ≤ 400000 := by
  have := loR_len3 (x := x) hx (0, [])
  simp only [List.length_nil] at this; omega

end Go.Proofs.YtoclahcibilbhaaGreat
