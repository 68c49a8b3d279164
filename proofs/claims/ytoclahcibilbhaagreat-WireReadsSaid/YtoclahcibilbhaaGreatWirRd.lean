/-
  The statement WireReads of layer 8 (written by gen_reads.py).
-/
import Derived.Test.YtoclahcibilbhaaGreatWirI8
import Derived.Test.YtoclahcibilbhaaGreatWirU
import Derived.Test.YtoclahcibilbhaaGreatWirT3
import Derived.Test.YtoclahcibilbhaaGreatWirT5
import Derived.Deep.CutBlock
namespace Go.Proofs.YtoclahcibilbhaaGreat
open Go.RowKit
set_option maxRecDepth 100000

theorem rd_whole {α : Type} {lo : α → Lo → Lo} {g : List UInt8 → Option (α × List UInt8)} {ok : α → Prop} (hf : Fwd lo g ok) {l : List UInt8} {x : α} (h : g l = some (x, [])) : lo x (0, []) = (0, l) := by
  obtain ⟨_, b, hb, h2⟩ := hf l x [] h
  rw [h2]
  simp [hb]
theorem loL_cl2 (l : List Ux) (o : Lo) : loL loU (l.map Ux.cl) o = loL loU l o := by
  unfold loL
  rw [List.length_map, List.foldl_map]
  rfl
theorem rd_Command (l : List UInt8) : ((gCm l).2 = 0 ∧ loC (gCm l).1 (0, []) = (0, l)) ∨ (gCm l).2 = 60 := by
  unfold gCm
  split
  · rename_i x h
    exact .inl ⟨rfl, rd_whole fwd_command h⟩
  · exact .inr rfl
theorem rd_Signed (l : List UInt8) : ((gSg l).2 = 0 ∧ loS (gSg l).1 (0, []) = (0, l)) ∨ (gSg l).2 = 60 := by
  unfold gSg
  split
  · rename_i x h
    exact .inl ⟨rfl, rd_whole fwd_signed h⟩
  · exact .inr rfl
theorem rd_Entry (l : List UInt8) (y : En) (hy : y.cl = (gEn l).1) : ((gEn l).2 = 0 ∧ loE y (0, []) = (0, l)) ∨ (gEn l).2 = 60 := by
  revert hy
  unfold gEn
  split
  · rename_i x h
    rintro rfl
    exact .inl ⟨rfl, (show loE y (0, []) = loE y.cl (0, []) from rfl).trans (rd_whole fwd_entry h)⟩
  · exact fun _ => .inr rfl
theorem rd_Record (l : List UInt8) (y : Re) (hy : y.cl = (gRe l).1) : ((gRe l).2 = 0 ∧ loR y (0, []) = (0, l)) ∨ (gRe l).2 = 60 := by
  revert hy
  unfold gRe
  split
  · rename_i x h
    rintro rfl
    exact .inl ⟨rfl, (show loR y (0, []) = loR y.cl (0, []) from rfl).trans (rd_whole fwd_record h)⟩
  · exact fun _ => .inr rfl
theorem rd_Directory (l : List UInt8) (y : Di) (hy : y.cl = (gDir l).1) : ((gDir l).2 = 0 ∧ loDi y (0, []) = (0, l)) ∨ (gDir l).2 = 60 := by
  revert hy
  unfold gDir
  split
  · rename_i x h
    rintro rfl
    refine .inl ⟨rfl, ?_⟩
    have h2 := rd_whole fwd_directory h
    unfold loDi Di.cl at h2
    rw [loL_cl2] at h2
    exact h2
  · exact fun _ => .inr rfl
theorem neq_of_eql (w : World) (t : TypeId) (a b : Array Value) (h : (binOp .eql t (.agg a) (.agg b)).run Tryz.prog w = .ok (.bool true) w) : (binOp .neq t (.agg a) (.agg b)).run Tryz.prog w = .ok (.bool false) w := by
  rw [run_eql_struct] at h
  rw [run_neq_struct]
  generalize (Op.equalIn 10000 t (.agg a) (.agg b)).run Tryz.prog w = r at *
  cases r with
  | ok v w' =>
    simp only [Result.andThen_ok, Result.ok.injEq, Value.bool.injEq] at h
    obtain ⟨rfl, rfl⟩ := h
    rfl
  | _ => simp [Result.andThen] at h
theorem guardCm : Tryz.prog.eqGuardType Tryz.prog.depth 27 = false := by kernel_rfl
theorem guardSg : Tryz.prog.eqGuardType Tryz.prog.depth 49 = false := by kernel_rfl
/-- what laying anew makes: where the reading went well the same bytes -/
def Again (w : World) (l : List UInt8) (er : Int) (e : Ending) (w' : World) : Prop :=
  ∃ (a : Option Addr) (n c : Nat) (z : Int), e = .returned (.tuple #[.slice a n c, .int .i64 z]) ∧ (er = 0 → Rd w' a n c l) ∧ Below w.heap.size w w'
theorem again_of {w : World} {l : List UInt8} {er : Int} {o : Lo} {e : Ending} {w' : World} (h : PutP w o e w') (hr : (er = 0 ∧ o = (0, l)) ∨ er = 60) : Again w l er e w' := by
  obtain ⟨v, rfl, hO, hB⟩ := h
  obtain ⟨a, c, rfl⟩ := hO.shape
  refine ⟨a, _, c, o.1, rfl, fun h0 => ?_, hB⟩
  rcases hr with ⟨_, rfl⟩ | h60
  · exact hO.rd
  · omega

set_option maxHeartbeats 8000000 in
theorem walkWireReads (w : World) (a : Option Addr) (n c : Nat) (l : List UInt8) (hr : Rd w a n c l) :
    Calls Tryz.prog 3 #[.slice a n c] w fun f w' => f = .returned (.bool true) ∧ Below w.heap.size w w' := by
  by_cases hl : (262144 : Int) < (n : Int)
  · go_enter Tryz.func3, Tryz.ntmps3
    go_wp2_with fail
    go_ret
    exact ⟨rfl, Below.refl _ _⟩
  have HR := Lib.hid (fun W (h : Below w.heap.size w W) => hr.below h)
  have HN : Hid (n ≤ 70000000000000) := Lib.hid (by omega)
  have HB0 : Hid (Below w.heap.size w w) := Lib.hid (Below.refl _ _)
  clear hr
  go_enter Tryz.func3, Tryz.ntmps3
  go_wp2_with fail
  clear hl
  -- Command
  refine (getCommand_any w a n c l (HR.out _ HB0.out) HN.out).mono ?_
  rintro e wa ⟨rfl, hBa⟩
  have HPUT : Hid (∀ W, Calls Tryz.prog 6 #[.agg (cmc (gCm l).1).toArray] W (Again W l (gCm l).2)) := Lib.hid (fun W => (putCommand_any W _ (gCm_ok l)).mono fun e W' h => again_of h (rd_Command l))
  have HE : Hid ((gCm l).2 = 0 ∨ (gCm l).2 = 60) := Lib.hid ((rd_Command l).imp And.left id)
  have HYK : Hid ((gCm l).1.ok) := Lib.hid (gCm_ok l)
  have HGR : Hid (∀ W (e : Ending) W', GetP_command W l e W' → e = .returned (.tuple #[.agg (cmc (gCm l).1).toArray, .int .i64 (gCm l).2]) ∧ Below W.heap.size W W') := Lib.hid (fun _ _ _ h => h)
  generalize (gCm l).1 = y at *
  generalize (gCm l).2 = er at *
  have IX : Hid ((Tryz.prog.info? 27).map (·.size) = some (cmc y).length) := Lib.hid (by rw [cmc_length HYK.out]; exact info_command)
  have HLX : Hid ((cmc cm0).length = (cmc y).length) := Lib.hid (by rw [cmc_length HYK.out, cmc_length cm0_ok])
  have HOX : Hid (∀ u ∈ cmc y, u.oneCell' = true) := Lib.hid (cmc_one _)
  have HBa := Lib.hid (Bt HB0.out hBa)
  clear HB0 hBa
  go_wp2_with (first
    | ((with_reducible refine wpList_allocB (o := ⟨some 3, _, _, _, _, _⟩) ?_ 27 ?_ cm0_info ?_); rfl; rfl; intro w1 hb1 hg1 hz1)
    | ((with_reducible refine wpList_storeB (o := ⟨none, .store 27 (.tmp 3) (.tmp 31), _, _, _, _⟩) ?_ 27 (.tmp 3) (.tmp 31) ?_ ?_ ?_ hb1 IX.out HLX.out HOX.out ?_); rfl; rfl; rfl; rfl; intro w2 hb2 hg2 hz2))
  have hB2 : Below wa.heap.size wa w2 := ((Below.refl _ wa).grown hg1 (Nat.le_refl _) (by simp)).grown hg2 (by omega) (fun k e => by cases e; exact Nat.le_refl _)
  have HB2 := Lib.hid (Bt HBa.out hB2)
  clear hb1 hg1 hz1 hg2 hz2 hB2 HBa
  generalize hp1 : wa.heap.size = p1 at *
  clear hp1
  refine (getCommandR_any w2 a n c l (HR.out _ HB2.out)).mono ?_
  intro e wb hP
  obtain ⟨rfl, hBb⟩ := HGR.out _ _ _ hP
  clear hP HGR
  have hb3 := hb2.below hBb
  have HB3 := Lib.hid (Bt HB2.out hBb)
  clear hb2 hBb HB2
  go_wp2_with (first
    | ((with_reducible refine wpList_allocB (o := ⟨some 5, _, _, _, _, _⟩) ?_ 27 ?_ cm0_info ?_); rfl; rfl; intro w4 hb4 hg4 hz4)
    | ((with_reducible refine wpList_storeB (o := ⟨none, .store 27 (.tmp 5) (.tmp 36), _, _, _, _⟩) ?_ 27 (.tmp 5) (.tmp 36) ?_ ?_ ?_ hb4 IX.out HLX.out HOX.out ?_); rfl; rfl; rfl; rfl; intro w5 hb5 hg5 hz5; have hB5 : Below wb.heap.size wb w5 := ((Below.refl _ wb).grown hg4 (Nat.le_refl _) (by simp)).grown hg5 (by omega) (fun k e => by cases e; exact Nat.le_refl _); have hb35 := hb3.below hB5)
    | ((with_reducible refine wpList_loadB (o := ⟨some 39, _, _, _, _, _⟩) ?_ 27 (.tmp 3) ?_ ?_ hb35 Tryz.underlying27 ?_ IX.out ?_); rfl; rfl; rfl; rfl))
  have HB5 := Lib.hid (Bt HB3.out hB5)
  clear hb3 hb4 hg4 hz4 hg5 hz5 hB5 HB3
  generalize hp2 : wb.heap.size = p2 at *
  clear hp2
  refine (HPUT.out w5).mono ?_
  rintro e w6 ⟨a1, n1, c1, z1, rfl, hl1, hB6⟩
  have hb36 := hb35.below hB6
  have hb56 := hb5.below hB6
  have HB6 := Lib.hid (Bt HB5.out hB6)
  have HR6 := Lib.hid (HR.out _ HB6.out)
  have HEQ := Lib.hid (fun W => neq_of_eql W _ _ _ (eqCm W y HYK.out))
  clear hb35 hb5 hB6 HB5 HPUT
  generalize hyc : cmc y = Y at *
  clear HYK HLX HOX
  go_upto_region 6 with fail
  go_cut [4, 6, 61] from 28 to 61 (fun _ _ st wx => st = .bool false ∧ Hid (Below w.heap.size w wx))
  case first =>
    rcases HE.out with h0 | h0
    · have hl2 := hl1 h0
      clear hl1
      subst h0
      have k1 := hl2.conv
      have k2 := HR6.out.conv
      clear hl2
      go_wp2_with (first
        | ((with_reducible refine wpList_loadR (o := ⟨some 47, _, _, _, _, _⟩) ?_ 27 (.tmp 3) ?_ ?_ hb36 Tryz.underlying27 ?_ IX.out ?_); rfl; rfl; rfl; rfl)
        | ((with_reducible refine wpList_loadR (o := ⟨some 48, _, _, _, _, _⟩) ?_ 27 (.tmp 5) ?_ ?_ hb56 Tryz.underlying27 ?_ IX.out ?_); rfl; rfl; rfl; rfl)
        | ((with_reducible refine wpList_eqH (o := ⟨some 49, _, _, _, _, _⟩) ?_ .neq 27 27 (.tmp 47) (.tmp 48) ?_ Y.toArray Y.toArray ?_ ?_ guardCm _ HEQ.out ?_); rfl; rfl; rfl; rfl))
      go_meet
      exact ⟨rfl, HB6⟩
    · subst h0
      clear hl1
      go_wp2_with (first
        | ((with_reducible refine wpList_loadR (o := ⟨some 47, _, _, _, _, _⟩) ?_ 27 (.tmp 3) ?_ ?_ hb36 Tryz.underlying27 ?_ IX.out ?_); rfl; rfl; rfl; rfl)
        | ((with_reducible refine wpList_loadR (o := ⟨some 48, _, _, _, _, _⟩) ?_ 27 (.tmp 5) ?_ ?_ hb56 Tryz.underlying27 ?_ IX.out ?_); rfl; rfl; rfl; rfl)
        | ((with_reducible refine wpList_eqH (o := ⟨some 49, _, _, _, _, _⟩) ?_ .neq 27 27 (.tmp 47) (.tmp 48) ?_ Y.toArray Y.toArray ?_ ?_ guardCm _ HEQ.out ?_); rfl; rfl; rfl; rfl))
      go_meet
      exact ⟨rfl, HB6⟩
  case rest =>
    obtain ⟨rfl, HB1⟩ := hcut
    clear hl1 hb36 hb56 HB6 HR6
    go_wp2_with fail
    generalize wc = W1 at *
    -- Entry
    refine (getEntry_any W1 a n c l (HR.out _ HB1.out) HN.out).mono ?_
    rintro e wa ⟨y, hyc, hyk, rfl, hyo, hBa⟩
    have HPUT : Hid (∀ W, En.rd W y → Calls Tryz.prog 9 #[.agg (enc y).toArray] W (Again W l (gEn l).2)) := Lib.hid (fun W h => (putEntry_any W y hyk h).mono fun e W' h => again_of h (rd_Entry l y hyc))
    have HE : Hid ((gEn l).2 = 0 ∨ (gEn l).2 = 60) := Lib.hid ((rd_Entry l y hyc).imp And.left id)
    have HYK := Lib.hid hyk
    have HYC := Lib.hid hyc
    have HYO := Lib.hid hyo
    have HGR : Hid (∀ W (e : Ending) W', GetP_entry W l e W' → ∃ x : En, x.cl = (gEn l).1 ∧ x.ok ∧ e = .returned (.tuple #[.agg (enc x).toArray, .int .i64 (gEn l).2]) ∧ En.own W' W.heap.size x ∧ Below W.heap.size W W') := Lib.hid (fun _ _ _ h => h)
    generalize (gEn l).1 = y0 at *
    generalize (gEn l).2 = er at *
    clear hyc hyk hyo
    have IX : Hid ((Tryz.prog.info? 38).map (·.size) = some (enc y).length) := Lib.hid (by rw [enc_length HYK.out]; exact info_entry)
    have HLX : Hid ((enc en0).length = (enc y).length) := Lib.hid (by rw [enc_length HYK.out, enc_length en0_ok])
    have HOX : Hid (∀ u ∈ enc y, u.oneCell' = true) := Lib.hid (enc_one _)
    have HBa := Lib.hid (Bt HB1.out hBa)
    clear HB1 hBa
    go_wp2_with (first
      | ((with_reducible refine wpList_allocB (o := ⟨some 9, _, _, _, _, _⟩) ?_ 38 ?_ en0_info ?_); rfl; rfl; intro w1 hb1 hg1 hz1)
      | ((with_reducible refine wpList_storeB (o := ⟨none, .store 38 (.tmp 9) (.tmp 65), _, _, _, _⟩) ?_ 38 (.tmp 9) (.tmp 65) ?_ ?_ ?_ hb1 IX.out HLX.out HOX.out ?_); rfl; rfl; rfl; rfl; intro w2 hb2 hg2 hz2))
    have hB2 : Below wa.heap.size wa w2 := ((Below.refl _ wa).grown hg1 (Nat.le_refl _) (by simp)).grown hg2 (by omega) (fun k e => by cases e; exact Nat.le_refl _)
    have HB2 := Lib.hid (Bt HBa.out hB2)
    have HYO := Lib.hid (En.own_rd HYO.out |>.below hB2)
    clear hb1 hg1 hz1 hg2 hz2 hB2 HBa
    generalize hp1 : wa.heap.size = p1 at *
    clear hp1
    refine (getEntryR_any w2 a n c l (HR.out _ HB2.out)).mono ?_
    intro e wb hP
    obtain ⟨x, hxc, hxk, rfl, hxo, hBb⟩ := HGR.out _ _ _ hP
    have HXC : Hid (x.cl = y.cl) := Lib.hid (hxc.trans HYC.out.symm)
    have HXK := Lib.hid hxk
    have HXO := Lib.hid (En.own_rd hxo)
    clear hP HGR hxc hxk hxo
    have hb3 := hb2.below hBb
    have HB3 := Lib.hid (Bt HB2.out hBb)
    have HYO := Lib.hid (HYO.out.below hBb)
    have JX : Hid ((Tryz.prog.info? 38).map (·.size) = some (enc x).length) := Lib.hid (by rw [enc_length HXK.out]; exact info_entry)
    have JLX : Hid ((enc en0).length = (enc x).length) := Lib.hid (by rw [enc_length HXK.out, enc_length en0_ok])
    have JOX : Hid (∀ u ∈ enc x, u.oneCell' = true) := Lib.hid (enc_one _)
    clear hb2 hBb HB2
    go_wp2_with (first
      | ((with_reducible refine wpList_allocB (o := ⟨some 10, _, _, _, _, _⟩) ?_ 38 ?_ en0_info ?_); rfl; rfl; intro w4 hb4 hg4 hz4)
      | ((with_reducible refine wpList_storeB (o := ⟨none, .store 38 (.tmp 10) (.tmp 70), _, _, _, _⟩) ?_ 38 (.tmp 10) (.tmp 70) ?_ ?_ ?_ hb4 JX.out JLX.out JOX.out ?_); rfl; rfl; rfl; rfl; intro w5 hb5 hg5 hz5; have hB5 : Below wb.heap.size wb w5 := ((Below.refl _ wb).grown hg4 (Nat.le_refl _) (by simp)).grown hg5 (by omega) (fun k e => by cases e; exact Nat.le_refl _); have hb35 := hb3.below hB5)
      | ((with_reducible refine wpList_loadB (o := ⟨some 73, _, _, _, _, _⟩) ?_ 38 (.tmp 9) ?_ ?_ hb35 Tryz.underlying38 ?_ IX.out ?_); rfl; rfl; rfl; rfl))
    have HB5 := Lib.hid (Bt HB3.out hB5)
    have HYO := Lib.hid (HYO.out.below hB5)
    have HXO := Lib.hid (HXO.out.below hB5)
    clear hb3 hb4 hg4 hz4 hg5 hz5 hB5 HB3
    generalize hp2 : wb.heap.size = p2 at *
    clear hp2
    refine (HPUT.out w5 HYO.out).mono ?_
    rintro e w6 ⟨a1, n1, c1, z1, rfl, hl1, hB6⟩
    have hb36 := hb35.below hB6
    have hb56 := hb5.below hB6
    have HB6 := Lib.hid (Bt HB5.out hB6)
    have HR6 := Lib.hid (HR.out _ HB6.out)
    have HYO := Lib.hid (HYO.out.below hB6)
    have HXO := Lib.hid (HXO.out.below hB6)
    have HSE := Lib.hid (same_entry w6 y x HXC.out HYK.out HXK.out (En.rd_at HYO.out) (En.rd_at HXO.out))
    clear hb35 hb5 hB6 HB5 HPUT
    generalize hyc : enc y = Y at *
    generalize hxc : enc x = X at *
    clear hyc hxc HYK HXK HXC HYO HXO HLX HOX JLX JOX HYC
    go_upto_region 11 with fail
    go_cut [4, 6, 96] from 62 to 96 (fun _ _ st wx => st = .bool false ∧ Hid (Below w.heap.size w wx))
    case first =>
      rcases HE.out with h0 | h0
      · have hl2 := hl1 h0
        clear hl1
        subst h0
        go_wp2_with (first
          | ((with_reducible refine wpList_loadR (o := ⟨some 81, _, _, _, _, _⟩) ?_ 38 (.tmp 9) ?_ ?_ hb36 Tryz.underlying38 ?_ IX.out ?_); rfl; rfl; rfl; rfl)
          | ((with_reducible refine wpList_loadR (o := ⟨some 82, _, _, _, _, _⟩) ?_ 38 (.tmp 10) ?_ ?_ hb56 Tryz.underlying38 ?_ JX.out ?_); rfl; rfl; rfl; rfl))
        refine HSE.out.mono ?_
        rintro e w7 ⟨rfl, hB7⟩
        have k1 := (hl2.below hB7).conv
        have k2 := (HR6.out.below hB7).conv
        have HB7 := Lib.hid (Bt HB6.out hB7)
        clear hl2 hB7
        go_wp2_with fail
        go_meet
        exact ⟨rfl, HB7⟩
      · subst h0
        clear hl1
        go_wp2_with (first
          | ((with_reducible refine wpList_loadR (o := ⟨some 81, _, _, _, _, _⟩) ?_ 38 (.tmp 9) ?_ ?_ hb36 Tryz.underlying38 ?_ IX.out ?_); rfl; rfl; rfl; rfl)
          | ((with_reducible refine wpList_loadR (o := ⟨some 82, _, _, _, _, _⟩) ?_ 38 (.tmp 10) ?_ ?_ hb56 Tryz.underlying38 ?_ JX.out ?_); rfl; rfl; rfl; rfl))
        refine HSE.out.mono ?_
        rintro e w7 ⟨rfl, hB7⟩
        have HB7 := Lib.hid (Bt HB6.out hB7)
        clear hB7
        go_wp2_with fail
        go_meet
        exact ⟨rfl, HB7⟩
    case rest =>
      obtain ⟨rfl, HB2⟩ := hcut
      clear hl1 hb36 hb56 HB6 HR6
      go_wp2_with fail
      generalize wc = W2 at *
      -- Record
      refine (getRecord_any W2 a n c l (HR.out _ HB2.out) HN.out).mono ?_
      rintro e wa ⟨y, hyc, hyk, rfl, hyo, hBa⟩
      have HPUT : Hid (∀ W, Re.rd W y → Calls Tryz.prog 13 #[.agg (rec y).toArray] W (Again W l (gRe l).2)) := Lib.hid (fun W h => (putRecord_any W y hyk h).mono fun e W' h => again_of h (rd_Record l y hyc))
      have HE : Hid ((gRe l).2 = 0 ∨ (gRe l).2 = 60) := Lib.hid ((rd_Record l y hyc).imp And.left id)
      have HYK := Lib.hid hyk
      have HYC := Lib.hid hyc
      have HYO := Lib.hid hyo
      have HGR : Hid (∀ W (e : Ending) W', GetP_record W l e W' → ∃ x : Re, x.cl = (gRe l).1 ∧ x.ok ∧ e = .returned (.tuple #[.agg (rec x).toArray, .int .i64 (gRe l).2]) ∧ Re.own W' W.heap.size x ∧ Below W.heap.size W W') := Lib.hid (fun _ _ _ h => h)
      generalize (gRe l).1 = y0 at *
      generalize (gRe l).2 = er at *
      clear hyc hyk hyo
      have IX : Hid ((Tryz.prog.info? 51).map (·.size) = some (rec y).length) := Lib.hid (by rw [rec_length HYK.out]; exact info_record)
      have HLX : Hid ((rec re0).length = (rec y).length) := Lib.hid (by rw [rec_length HYK.out, rec_length re0_ok])
      have HOX : Hid (∀ u ∈ rec y, u.oneCell' = true) := Lib.hid (rec_one _)
      have HBa := Lib.hid (Bt HB2.out hBa)
      clear HB2 hBa
      go_wp2_with (first
        | ((with_reducible refine wpList_allocB (o := ⟨some 13, _, _, _, _, _⟩) ?_ 51 ?_ re0_info ?_); rfl; rfl; intro w1 hb1 hg1 hz1)
        | ((with_reducible refine wpList_storeB (o := ⟨none, .store 51 (.tmp 13) (.tmp 100), _, _, _, _⟩) ?_ 51 (.tmp 13) (.tmp 100) ?_ ?_ ?_ hb1 IX.out HLX.out HOX.out ?_); rfl; rfl; rfl; rfl; intro w2 hb2 hg2 hz2))
      have hB2 : Below wa.heap.size wa w2 := ((Below.refl _ wa).grown hg1 (Nat.le_refl _) (by simp)).grown hg2 (by omega) (fun k e => by cases e; exact Nat.le_refl _)
      have HB2 := Lib.hid (Bt HBa.out hB2)
      have HYO := Lib.hid (Re.own_rd HYO.out |>.below hB2)
      clear hb1 hg1 hz1 hg2 hz2 hB2 HBa
      generalize hp1 : wa.heap.size = p1 at *
      clear hp1
      refine (getRecordR_any w2 a n c l (HR.out _ HB2.out)).mono ?_
      intro e wb hP
      obtain ⟨x, hxc, hxk, rfl, hxo, hBb⟩ := HGR.out _ _ _ hP
      have HXC : Hid (x.cl = y.cl) := Lib.hid (hxc.trans HYC.out.symm)
      have HXK := Lib.hid hxk
      have HXO := Lib.hid (Re.own_rd hxo)
      clear hP HGR hxc hxk hxo
      have hb3 := hb2.below hBb
      have HB3 := Lib.hid (Bt HB2.out hBb)
      have HYO := Lib.hid (HYO.out.below hBb)
      have JX : Hid ((Tryz.prog.info? 51).map (·.size) = some (rec x).length) := Lib.hid (by rw [rec_length HXK.out]; exact info_record)
      have JLX : Hid ((rec re0).length = (rec x).length) := Lib.hid (by rw [rec_length HXK.out, rec_length re0_ok])
      have JOX : Hid (∀ u ∈ rec x, u.oneCell' = true) := Lib.hid (rec_one _)
      clear hb2 hBb HB2
      go_wp2_with (first
        | ((with_reducible refine wpList_allocB (o := ⟨some 14, _, _, _, _, _⟩) ?_ 51 ?_ re0_info ?_); rfl; rfl; intro w4 hb4 hg4 hz4)
        | ((with_reducible refine wpList_storeB (o := ⟨none, .store 51 (.tmp 14) (.tmp 105), _, _, _, _⟩) ?_ 51 (.tmp 14) (.tmp 105) ?_ ?_ ?_ hb4 JX.out JLX.out JOX.out ?_); rfl; rfl; rfl; rfl; intro w5 hb5 hg5 hz5; have hB5 : Below wb.heap.size wb w5 := ((Below.refl _ wb).grown hg4 (Nat.le_refl _) (by simp)).grown hg5 (by omega) (fun k e => by cases e; exact Nat.le_refl _); have hb35 := hb3.below hB5)
        | ((with_reducible refine wpList_loadB (o := ⟨some 108, _, _, _, _, _⟩) ?_ 51 (.tmp 13) ?_ ?_ hb35 Tryz.underlying51 ?_ IX.out ?_); rfl; rfl; rfl; rfl))
      have HB5 := Lib.hid (Bt HB3.out hB5)
      have HYO := Lib.hid (HYO.out.below hB5)
      have HXO := Lib.hid (HXO.out.below hB5)
      clear hb3 hb4 hg4 hz4 hg5 hz5 hB5 HB3
      generalize hp2 : wb.heap.size = p2 at *
      clear hp2
      refine (HPUT.out w5 HYO.out).mono ?_
      rintro e w6 ⟨a1, n1, c1, z1, rfl, hl1, hB6⟩
      have hb36 := hb35.below hB6
      have hb56 := hb5.below hB6
      have HB6 := Lib.hid (Bt HB5.out hB6)
      have HR6 := Lib.hid (HR.out _ HB6.out)
      have HYO := Lib.hid (HYO.out.below hB6)
      have HXO := Lib.hid (HXO.out.below hB6)
      have HSE := Lib.hid (same_record w6 y x HXC.out HYK.out HXK.out (Re.rd_at HYO.out) (Re.rd_at HXO.out))
      clear hb35 hb5 hB6 HB5 HPUT
      generalize hyc : rec y = Y at *
      generalize hxc : rec x = X at *
      clear hyc hxc HYK HXK HXC HYO HXO HLX HOX JLX JOX HYC
      go_upto_region 16 with fail
      go_cut [4, 6, 131] from 97 to 131 (fun _ _ st wx => st = .bool false ∧ Hid (Below w.heap.size w wx))
      case first =>
        rcases HE.out with h0 | h0
        · have hl2 := hl1 h0
          clear hl1
          subst h0
          go_wp2_with (first
            | ((with_reducible refine wpList_loadR (o := ⟨some 116, _, _, _, _, _⟩) ?_ 51 (.tmp 13) ?_ ?_ hb36 Tryz.underlying51 ?_ IX.out ?_); rfl; rfl; rfl; rfl)
            | ((with_reducible refine wpList_loadR (o := ⟨some 117, _, _, _, _, _⟩) ?_ 51 (.tmp 14) ?_ ?_ hb56 Tryz.underlying51 ?_ JX.out ?_); rfl; rfl; rfl; rfl))
          refine HSE.out.mono ?_
          rintro e w7 ⟨rfl, hB7⟩
          have k1 := (hl2.below hB7).conv
          have k2 := (HR6.out.below hB7).conv
          have HB7 := Lib.hid (Bt HB6.out hB7)
          clear hl2 hB7
          go_wp2_with fail
          go_meet
          exact ⟨rfl, HB7⟩
        · subst h0
          clear hl1
          go_wp2_with (first
            | ((with_reducible refine wpList_loadR (o := ⟨some 116, _, _, _, _, _⟩) ?_ 51 (.tmp 13) ?_ ?_ hb36 Tryz.underlying51 ?_ IX.out ?_); rfl; rfl; rfl; rfl)
            | ((with_reducible refine wpList_loadR (o := ⟨some 117, _, _, _, _, _⟩) ?_ 51 (.tmp 14) ?_ ?_ hb56 Tryz.underlying51 ?_ JX.out ?_); rfl; rfl; rfl; rfl))
          refine HSE.out.mono ?_
          rintro e w7 ⟨rfl, hB7⟩
          have HB7 := Lib.hid (Bt HB6.out hB7)
          clear hB7
          go_wp2_with fail
          go_meet
          exact ⟨rfl, HB7⟩
      case rest =>
        obtain ⟨rfl, HB3⟩ := hcut
        clear hl1 hb36 hb56 HB6 HR6
        go_wp2_with fail
        generalize wc = W3 at *
        -- Signed
        refine (getSigned_any W3 a n c l (HR.out _ HB3.out) HN.out).mono ?_
        rintro e wa ⟨rfl, hBa⟩
        have HPUT : Hid (∀ W, Calls Tryz.prog 17 #[.agg (sgc (gSg l).1).toArray] W (Again W l (gSg l).2)) := Lib.hid (fun W => (putSigned_any W _ (gSg_ok l)).mono fun e W' h => again_of h (rd_Signed l))
        have HE : Hid ((gSg l).2 = 0 ∨ (gSg l).2 = 60) := Lib.hid ((rd_Signed l).imp And.left id)
        have HYK : Hid ((gSg l).1.ok) := Lib.hid (gSg_ok l)
        have HGR : Hid (∀ W (e : Ending) W', GetP_signed W l e W' → e = .returned (.tuple #[.agg (sgc (gSg l).1).toArray, .int .i64 (gSg l).2]) ∧ Below W.heap.size W W') := Lib.hid (fun _ _ _ h => h)
        generalize (gSg l).1 = y at *
        generalize (gSg l).2 = er at *
        have IX : Hid ((Tryz.prog.info? 49).map (·.size) = some (sgc y).length) := Lib.hid (by rw [sgc_length HYK.out]; exact info_signed)
        have HLX : Hid ((sgc sg0).length = (sgc y).length) := Lib.hid (by rw [sgc_length HYK.out, sgc_length sg0_ok])
        have HOX : Hid (∀ u ∈ sgc y, u.oneCell' = true) := Lib.hid (sgc_one _)
        have HBa := Lib.hid (Bt HB3.out hBa)
        clear HB3 hBa
        go_wp2_with (first
          | ((with_reducible refine wpList_allocB (o := ⟨some 17, _, _, _, _, _⟩) ?_ 49 ?_ sg0_info ?_); rfl; rfl; intro w1 hb1 hg1 hz1)
          | ((with_reducible refine wpList_storeB (o := ⟨none, .store 49 (.tmp 17) (.tmp 135), _, _, _, _⟩) ?_ 49 (.tmp 17) (.tmp 135) ?_ ?_ ?_ hb1 IX.out HLX.out HOX.out ?_); rfl; rfl; rfl; rfl; intro w2 hb2 hg2 hz2))
        have hB2 : Below wa.heap.size wa w2 := ((Below.refl _ wa).grown hg1 (Nat.le_refl _) (by simp)).grown hg2 (by omega) (fun k e => by cases e; exact Nat.le_refl _)
        have HB2 := Lib.hid (Bt HBa.out hB2)
        clear hb1 hg1 hz1 hg2 hz2 hB2 HBa
        generalize hp1 : wa.heap.size = p1 at *
        clear hp1
        refine (getSignedR_any w2 a n c l (HR.out _ HB2.out)).mono ?_
        intro e wb hP
        obtain ⟨rfl, hBb⟩ := HGR.out _ _ _ hP
        clear hP HGR
        have hb3 := hb2.below hBb
        have HB3 := Lib.hid (Bt HB2.out hBb)
        clear hb2 hBb HB2
        go_wp2_with (first
          | ((with_reducible refine wpList_allocB (o := ⟨some 18, _, _, _, _, _⟩) ?_ 49 ?_ sg0_info ?_); rfl; rfl; intro w4 hb4 hg4 hz4)
          | ((with_reducible refine wpList_storeB (o := ⟨none, .store 49 (.tmp 18) (.tmp 140), _, _, _, _⟩) ?_ 49 (.tmp 18) (.tmp 140) ?_ ?_ ?_ hb4 IX.out HLX.out HOX.out ?_); rfl; rfl; rfl; rfl; intro w5 hb5 hg5 hz5; have hB5 : Below wb.heap.size wb w5 := ((Below.refl _ wb).grown hg4 (Nat.le_refl _) (by simp)).grown hg5 (by omega) (fun k e => by cases e; exact Nat.le_refl _); have hb35 := hb3.below hB5)
          | ((with_reducible refine wpList_loadB (o := ⟨some 143, _, _, _, _, _⟩) ?_ 49 (.tmp 17) ?_ ?_ hb35 Tryz.underlying49 ?_ IX.out ?_); rfl; rfl; rfl; rfl))
        have HB5 := Lib.hid (Bt HB3.out hB5)
        clear hb3 hb4 hg4 hz4 hg5 hz5 hB5 HB3
        generalize hp2 : wb.heap.size = p2 at *
        clear hp2
        refine (HPUT.out w5).mono ?_
        rintro e w6 ⟨a1, n1, c1, z1, rfl, hl1, hB6⟩
        have hb36 := hb35.below hB6
        have hb56 := hb5.below hB6
        have HB6 := Lib.hid (Bt HB5.out hB6)
        have HR6 := Lib.hid (HR.out _ HB6.out)
        have HEQ := Lib.hid (fun W => neq_of_eql W _ _ _ (eqS W y HYK.out))
        clear hb35 hb5 hB6 HB5 HPUT
        generalize hyc : sgc y = Y at *
        clear HYK HLX HOX
        go_upto_region 21 with fail
        go_cut [4, 6, 165] from 132 to 165 (fun _ _ st wx => st = .bool false ∧ Hid (Below w.heap.size w wx))
        case first =>
          rcases HE.out with h0 | h0
          · have hl2 := hl1 h0
            clear hl1
            subst h0
            have k1 := hl2.conv
            have k2 := HR6.out.conv
            clear hl2
            go_wp2_with (first
              | ((with_reducible refine wpList_loadR (o := ⟨some 151, _, _, _, _, _⟩) ?_ 49 (.tmp 17) ?_ ?_ hb36 Tryz.underlying49 ?_ IX.out ?_); rfl; rfl; rfl; rfl)
              | ((with_reducible refine wpList_loadR (o := ⟨some 152, _, _, _, _, _⟩) ?_ 49 (.tmp 18) ?_ ?_ hb56 Tryz.underlying49 ?_ IX.out ?_); rfl; rfl; rfl; rfl)
              | ((with_reducible refine wpList_eqH (o := ⟨some 153, _, _, _, _, _⟩) ?_ .neq 49 49 (.tmp 151) (.tmp 152) ?_ Y.toArray Y.toArray ?_ ?_ guardSg _ HEQ.out ?_); rfl; rfl; rfl; rfl))
            go_meet
            exact ⟨rfl, HB6⟩
          · subst h0
            clear hl1
            go_wp2_with (first
              | ((with_reducible refine wpList_loadR (o := ⟨some 151, _, _, _, _, _⟩) ?_ 49 (.tmp 17) ?_ ?_ hb36 Tryz.underlying49 ?_ IX.out ?_); rfl; rfl; rfl; rfl)
              | ((with_reducible refine wpList_loadR (o := ⟨some 152, _, _, _, _, _⟩) ?_ 49 (.tmp 18) ?_ ?_ hb56 Tryz.underlying49 ?_ IX.out ?_); rfl; rfl; rfl; rfl)
              | ((with_reducible refine wpList_eqH (o := ⟨some 153, _, _, _, _, _⟩) ?_ .neq 49 49 (.tmp 151) (.tmp 152) ?_ Y.toArray Y.toArray ?_ ?_ guardSg _ HEQ.out ?_); rfl; rfl; rfl; rfl))
            go_meet
            exact ⟨rfl, HB6⟩
        case rest =>
          obtain ⟨rfl, HB4⟩ := hcut
          clear hl1 hb36 hb56 HB6 HR6
          go_wp2_with fail
          generalize wc = W4 at *
          -- Directory
          refine (getDirectory_any W4 a n c l (HR.out _ HB4.out) HN.out).mono ?_
          rintro e wa ⟨y, hyc, hyk, rfl, hyo, hBa⟩
          have HPUT : Hid (∀ W, Di.rd W y → Calls Tryz.prog 20 #[.agg (dic y).toArray] W (Again W l (gDir l).2)) := Lib.hid (fun W h => (putDirectory_any W y hyk h).mono fun e W' h => again_of h (rd_Directory l y hyc))
          have HE : Hid ((gDir l).2 = 0 ∨ (gDir l).2 = 60) := Lib.hid ((rd_Directory l y hyc).imp And.left id)
          have HYK := Lib.hid hyk
          have HYC := Lib.hid hyc
          have HYO := Lib.hid hyo
          have HGR : Hid (∀ W (e : Ending) W', GetP_directory W l e W' → ∃ x : Di, x.cl = (gDir l).1 ∧ x.ok ∧ e = .returned (.tuple #[.agg (dic x).toArray, .int .i64 (gDir l).2]) ∧ Di.own W' W.heap.size x ∧ Below W.heap.size W W') := Lib.hid (fun _ _ _ h => h)
          generalize (gDir l).1 = y0 at *
          generalize (gDir l).2 = er at *
          clear hyc hyk hyo
          have IX : Hid ((Tryz.prog.info? 63).map (·.size) = some (dic y).length) := Lib.hid (by rw [dic_length HYK.out]; exact info_directory)
          have HLX : Hid ((dic di0).length = (dic y).length) := Lib.hid (by rw [dic_length HYK.out, dic_length di0_ok])
          have HOX : Hid (∀ u ∈ dic y, u.oneCell' = true) := Lib.hid (dic_one _)
          have HBa := Lib.hid (Bt HB4.out hBa)
          clear HB4 hBa
          go_wp2_with (first
            | ((with_reducible refine wpList_allocB (o := ⟨some 21, _, _, _, _, _⟩) ?_ 63 ?_ di0_info ?_); rfl; rfl; intro w1 hb1 hg1 hz1)
            | ((with_reducible refine wpList_storeB (o := ⟨none, .store 63 (.tmp 21) (.tmp 169), _, _, _, _⟩) ?_ 63 (.tmp 21) (.tmp 169) ?_ ?_ ?_ hb1 IX.out HLX.out HOX.out ?_); rfl; rfl; rfl; rfl; intro w2 hb2 hg2 hz2))
          have hB2 : Below wa.heap.size wa w2 := ((Below.refl _ wa).grown hg1 (Nat.le_refl _) (by simp)).grown hg2 (by omega) (fun k e => by cases e; exact Nat.le_refl _)
          have HB2 := Lib.hid (Bt HBa.out hB2)
          have HYO := Lib.hid (Di.own_rd HYO.out |>.below hB2)
          clear hb1 hg1 hz1 hg2 hz2 hB2 HBa
          generalize hp1 : wa.heap.size = p1 at *
          clear hp1
          refine (getDirectoryR_any w2 a n c l (HR.out _ HB2.out)).mono ?_
          intro e wb hP
          obtain ⟨x, hxc, hxk, rfl, hxo, hBb⟩ := HGR.out _ _ _ hP
          have HXC : Hid (x.cl = y.cl) := Lib.hid (hxc.trans HYC.out.symm)
          have HXK := Lib.hid hxk
          have HXO := Lib.hid (Di.own_rd hxo)
          clear hP HGR hxc hxk hxo
          have hb3 := hb2.below hBb
          have HB3 := Lib.hid (Bt HB2.out hBb)
          have HYO := Lib.hid (HYO.out.below hBb)
          have JX : Hid ((Tryz.prog.info? 63).map (·.size) = some (dic x).length) := Lib.hid (by rw [dic_length HXK.out]; exact info_directory)
          have JLX : Hid ((dic di0).length = (dic x).length) := Lib.hid (by rw [dic_length HXK.out, dic_length di0_ok])
          have JOX : Hid (∀ u ∈ dic x, u.oneCell' = true) := Lib.hid (dic_one _)
          clear hb2 hBb HB2
          go_wp2_with (first
            | ((with_reducible refine wpList_allocB (o := ⟨some 22, _, _, _, _, _⟩) ?_ 63 ?_ di0_info ?_); rfl; rfl; intro w4 hb4 hg4 hz4)
            | ((with_reducible refine wpList_storeB (o := ⟨none, .store 63 (.tmp 22) (.tmp 174), _, _, _, _⟩) ?_ 63 (.tmp 22) (.tmp 174) ?_ ?_ ?_ hb4 JX.out JLX.out JOX.out ?_); rfl; rfl; rfl; rfl; intro w5 hb5 hg5 hz5; have hB5 : Below wb.heap.size wb w5 := ((Below.refl _ wb).grown hg4 (Nat.le_refl _) (by simp)).grown hg5 (by omega) (fun k e => by cases e; exact Nat.le_refl _); have hb35 := hb3.below hB5)
            | ((with_reducible refine wpList_loadB (o := ⟨some 177, _, _, _, _, _⟩) ?_ 63 (.tmp 21) ?_ ?_ hb35 Tryz.underlying63 ?_ IX.out ?_); rfl; rfl; rfl; rfl))
          have HB5 := Lib.hid (Bt HB3.out hB5)
          have HYO := Lib.hid (HYO.out.below hB5)
          have HXO := Lib.hid (HXO.out.below hB5)
          clear hb3 hb4 hg4 hz4 hg5 hz5 hB5 HB3
          generalize hp2 : wb.heap.size = p2 at *
          clear hp2
          refine (HPUT.out w5 HYO.out).mono ?_
          rintro e w6 ⟨a1, n1, c1, z1, rfl, hl1, hB6⟩
          have hb36 := hb35.below hB6
          have hb56 := hb5.below hB6
          have HB6 := Lib.hid (Bt HB5.out hB6)
          have HR6 := Lib.hid (HR.out _ HB6.out)
          have HYO := Lib.hid (HYO.out.below hB6)
          have HXO := Lib.hid (HXO.out.below hB6)
          have HSE := Lib.hid (same_directory w6 y x HXC.out HYK.out (Di.rd_at HYO.out) (Di.rd_at HXO.out))
          clear hb35 hb5 hB6 HB5 HPUT
          generalize hyc : dic y = Y at *
          generalize hxc : dic x = X at *
          clear hyc hxc HYK HXK HXC HYO HXO HLX HOX JLX JOX HYC
          go_upto_region 26 with fail
          go_cut [4, 6, 200] from 166 to 200 (fun _ _ st wx => st = .bool false ∧ Hid (Below w.heap.size w wx))
          case first =>
            rcases HE.out with h0 | h0
            · have hl2 := hl1 h0
              clear hl1
              subst h0
              go_wp2_with (first
                | ((with_reducible refine wpList_loadR (o := ⟨some 185, _, _, _, _, _⟩) ?_ 63 (.tmp 21) ?_ ?_ hb36 Tryz.underlying63 ?_ IX.out ?_); rfl; rfl; rfl; rfl)
                | ((with_reducible refine wpList_loadR (o := ⟨some 186, _, _, _, _, _⟩) ?_ 63 (.tmp 22) ?_ ?_ hb56 Tryz.underlying63 ?_ JX.out ?_); rfl; rfl; rfl; rfl))
              refine HSE.out.mono ?_
              rintro e w7 ⟨rfl, hB7⟩
              have k1 := (hl2.below hB7).conv
              have k2 := (HR6.out.below hB7).conv
              have HB7 := Lib.hid (Bt HB6.out hB7)
              clear hl2 hB7
              go_wp2_with fail
              go_meet
              exact ⟨rfl, HB7⟩
            · subst h0
              clear hl1
              go_wp2_with (first
                | ((with_reducible refine wpList_loadR (o := ⟨some 185, _, _, _, _, _⟩) ?_ 63 (.tmp 21) ?_ ?_ hb36 Tryz.underlying63 ?_ IX.out ?_); rfl; rfl; rfl; rfl)
                | ((with_reducible refine wpList_loadR (o := ⟨some 186, _, _, _, _, _⟩) ?_ 63 (.tmp 22) ?_ ?_ hb56 Tryz.underlying63 ?_ JX.out ?_); rfl; rfl; rfl; rfl))
              refine HSE.out.mono ?_
              rintro e w7 ⟨rfl, hB7⟩
              have HB7 := Lib.hid (Bt HB6.out hB7)
              clear hB7
              go_wp2_with fail
              go_meet
              exact ⟨rfl, HB7⟩
          case rest =>
            obtain ⟨rfl, HB5⟩ := hcut
            clear hl1 hb36 hb56 HB6 HR6
            go_wp2_with fail
            generalize wc = W5 at *
            refine (commands_law W5).mono ?_
            rintro e z1 ⟨rfl, hB1⟩
            go_wp2_with fail
            refine (entries_law z1).mono ?_
            rintro e z2 ⟨rfl, hB2⟩
            go_wp2_with fail
            refine (records_law z2).mono ?_
            rintro e z3 ⟨rfl, hB3⟩
            go_wp2_with fail
            refine (signed_law z3).mono ?_
            rintro e z4 ⟨rfl, hB4⟩
            go_wp2_with fail
            refine (directories_law z4).mono ?_
            rintro e z5 ⟨rfl, hB5⟩
            go_wp2_with fail
            go_ret
            exact ⟨rfl, Bt (Bt (Bt (Bt (Bt HB5.out hB1) hB2) hB3) hB4) hB5⟩
end Go.Proofs.YtoclahcibilbhaaGreat
