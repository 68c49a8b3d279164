/-
  Package head: Chain.
-/
import Derived.Test.YtoclahcibilbhaaDoorHedE
import Derived.Test.YtoclahcibilbhaaDoorHedX
namespace Go.Proofs.YtoclahcibilbhaaDoor
open Go.RowKit Go.Shelf
attribute [local go_sem] Oper.semAt_some
set_option maxRecDepth 100000

/-- what the loop of Chain knows: the key's variable, the result's, the digest's -/
structure ChAt (w W : World) (Kb R P : Nat) (k : ByteArray) (v : Int) (D : List UInt8) : Prop where
  key : Blk W Kb 9 [.string k]
  res : Blk W R 27 [.int .i64 v]
  dig : Blk W P 23 (bs D)
  bel : Below w.heap.size w W
theorem Blk.turned {W W' : World} {g : Nat} {t : TypeId} {vs : List Value} {row : Option Nat} (h : Blk W g t vs) (hg : W.grownBy W' row) (hr : ∀ r, row = some r → ∃ o : Obj, W.heap[r]? = some o ∧ o.isCells = false) : Blk W' g t vs :=
  h.grown hg (fun e => by
    obtain ⟨o, ho, hc⟩ := hr g e
    rw [h.at_] at ho
    cases ho
    simp [Obj.isCells] at hc)
theorem ChAt.own {w W W' : World} {Kb R P B : Nat} {k : ByteArray} {v : Int} {D : List UInt8} {row : Option Nat} (h : ChAt w W Kb R P k v D) (hB : w.heap.size ≤ B) (hg : W.grownBy W' row) (hr : ∀ r, row = some r → B ≤ r ∧ ∃ o : Obj, W.heap[r]? = some o ∧ o.isCells = false) : ChAt w W' Kb R P k v D :=
  ⟨h.key.turned hg (fun r e => (hr r e).2), h.res.turned hg (fun r e => (hr r e).2), h.dig.turned hg (fun r e => (hr r e).2), h.bel.grown hg h.bel.size (fun r e => Nat.le_trans hB (hr r e).1)⟩
theorem ChAt.below {w W W' : World} {Kb R P : Nat} {k : ByteArray} {v : Int} {D : List UInt8} (h : ChAt w W Kb R P k v D) (hB : Below W.heap.size W W') : ChAt w W' Kb R P k v D :=
  ⟨h.key.below hB, h.res.below hB, h.dig.below hB, Bt h.bel hB⟩

theorem ChAt.setRes {w W : World} {Kb R P : Nat} {k : ByteArray} {v : Int} {D : List UInt8} (h : ChAt w W Kb R P k v D) (h1 : Kb ≠ R) (h2 : P ≠ R) (h3 : w.heap.size ≤ R) (z : Int) : ChAt w (W.setCell ⟨R, 0, none⟩ (.int .i64 z)) Kb R P k z D :=
  ⟨h.key.setOther ⟨R, 0, none⟩ _ h1, h.res.set 0 (.int .i64 z), h.dig.setOther ⟨R, 0, none⟩ _ h2, h.bel.setCell h3 _⟩
theorem upI_map' {l : List Sg} (hl : sgR.all l) {n : Nat} (hn : l.length = n) (hm : n ≤ 1000000) {k : Nat} (hk : k ≤ n) : (upI l k).map (·.1) = seqI l k := by
  unfold upI seqI
  rw [List.map_map]
  refine List.map_congr_left fun j hj => ?_
  have := List.mem_range.1 hj
  exact atI_ok hl (by omega) (by omega)
theorem upI_map {l : List Sg} (hl : sgR.all l) {n : Nat} (hn : l.length = n) (hm : n ≤ 1000000) : (upI l n).map (·.1) = seqI l n := upI_map' hl hn hm (Nat.le_refl _)
theorem keepsFrom_store {B g : Nat} {W W' : World} {t : TypeId} {vs : List Value} (hg : W.grownBy W' (some g)) (h : Blk W g t vs) : KeepsFrom B W W' := by
  refine KeepsOthers.from ⟨hg.size, fun k o hk ho => ?_⟩ B
  refine (hg.block k (lt_of_block hk) (fun e => ?_)).trans hk
  cases e
  rw [h.at_] at hk
  cases hk
  simp [Obj.isCells] at ho
theorem keepsFrom_of {B : Nat} {W W' : World} (h : Below W.heap.size W W') : KeepsFrom B W W' := KeepsFrom.of_grownBy (below_none h) (fun j e => by cases e)

set_option maxHeartbeats 8000000 in
theorem hchain_in (w : World) (hT : Tab w 0) (k : ByteArray) (a : Option Addr) (n c : Nat) (l : List Sg) (hr : RdG sgR w a n c l) (hn : n ≤ 1000000) :
    CallsIn Fence.wide 6 Tryd.prog 20 #[.string k, .slice a n c] w fun e w' => e = .returned (.int .i64 (chI k l)) ∧ Below w.heap.size w w' := by
  refine callsIn_of_wp_marks Tryd.func20 rfl trivial ?_ rfl
  simp only [Tryd.ntmps20, List.size_toArray, List.length_cons, List.length_nil, Nat.reduceAdd, Nat.reduceSub, Array.replicate_succ, Array.replicate_zero, List.push_toArray, List.append_toArray, List.nil_append, List.cons_append]
  have HT := Lib.hid (fun W (h : Below w.heap.size w W) => hT.below h)
  have HR := Lib.hid hr
  have hf1 : Fence.wide.fn 32 := trivial
  have hf2 : Fence.wide.fn 40 := trivial
  have hK0 : Blk ((w.alloc (.cells #[.string k] 9)).alloc (.cells #[.int .i64 0] 27)) w.heap.size 9 [.string k] := (Blk.new w 9 [.string k]).alloc _
  have hz : (w.alloc (.cells #[.string k] 9)).heap.size = w.heap.size + 1 := by simp
  have hR0 : Blk ((w.alloc (.cells #[.string k] 9)).alloc (.cells #[.int .i64 0] 27)) (w.heap.size + 1) 27 [.int .i64 0] := by
    have := Blk.new (w.alloc (.cells #[.string k] 9)) 27 [.int .i64 0]
    rw [hz] at this
    exact this
  have hB0 : Below w.heap.size w ((w.alloc (.cells #[.string k] 9)).alloc (.cells #[.int .i64 0] 27)) := ((Below.refl _ w).alloc (Nat.le_refl _) _).alloc (by simp) _
  clear hT hr hz
  have HKY := Lib.hid (fun W => hkey_any W k)
  cases hk : keyok k with
  | false =>
    rw [hk] at HKY
    have HE : Hid (chI k l = 80) := Lib.hid (by rw [chI, hk]; rfl)
    clear hk hf2
    gi_wp2_with (first
      | (gi_at_call 32; refine (callsIn_wide.2 (HKY.out _)).mono ?_; rintro e w1 ⟨rfl, hB1⟩; have hR1 := hR0.below hB1; have hc1 := hR1.cell (j := 0) rfl; have hf3 := hR1.free 0))
    have hB2 : Below w.heap.size w (w1.setCell ⟨w.heap.size + 1, 0, none⟩ (.int .i64 80)) := (Bt hB0 hB1).setCell (by simp only; omega) _
    have hcF := (hR1.set 0 (.int .i64 80)).cell (j := 0) (v := .int .i64 80) rfl
    clear hR1 hc1 hf3 hB1
    refine ⟨.int .i64 80, by simp [results, Tryd.results20, go_sem, hcF], ?_, hB2⟩
    rw [HE.out]
  | true =>
    rw [hk] at HKY
    have HE : Hid (chI k l = chX k zero32 (seqI l n)) := Lib.hid (by rw [chI, hk, HR.out.len]; rfl)
    clear hk
    gi_wp2_with (first
      | (gi_at_call 32; refine (callsIn_wide.2 (HKY.out _)).mono ?_; rintro e w1 ⟨rfl, hB1⟩; have hK1 := hK0.below hB1; have hR1 := hR0.below hB1; have hBa := Bt hB0 hB1; clear hB1)
      | ((with_reducible refine wpListIn_allocB (o := ⟨some 5, _, _, _, _, _⟩) ?_ 23 ?_ zeroD_info ?_); rfl; rfl; intro w2 hP2 hg2 hz2)
      | (gi_at_call 40; refine (sall_in _ a n c).mono ?_; rintro e w3 ⟨rfl, rfl⟩))
    have hPR := hR1.lt
    have hP3 := hP2.alloc (.cells #[.slice a n c] 44)
    have hK3 := (hK1.grown hg2 (by simp)).alloc (.cells #[.slice a n c] 44)
    have hR3 := (hR1.grown hg2 (by simp)).alloc (.cells #[.slice a n c] 44)
    have hB3 : Below w.heap.size w (w2.alloc (.cells #[.slice a n c] 44)) := (hBa.grown hg2 hBa.size (by simp)).alloc (by have := hBa.size; omega) _
    have hc3 : (w2.alloc (.cells #[.slice a n c] 44)).cell? ⟨w1.heap.size + 1, 0, none⟩ = some (.slice a n c) := by
      have := (Blk.new w2 44 [.slice a n c]).cell (j := 0) rfl
      rw [hz2] at this
      exact this
    have hz3 : (w2.alloc (.cells #[.slice a n c] 44)).heap.size = w1.heap.size + 2 := by simp [hz2]
    generalize w2.alloc (.cells #[.slice a n c] 44) = W0 at *
    clear hK0 hR0 hB0 hK1 hR1 hg2 hz2 hP2 hBa
    generalize w1.heap.size = P at *
    have HSZ : Hid (w.heap.size ≤ W0.heap.size) := Lib.hid hB3.size
    have HC0 : Hid (ChAt w W0 w.heap.size (w.heap.size + 1) P k 0 zero32) := Lib.hid ⟨hK3, hR3, hP3, hB3⟩
    have HPR := Lib.hid hPR
    have HZ3 := Lib.hid hz3
    clear hK3 hR3 hP3 hPR hz3
    have hfC : Fence.wide.fn 17 := trivial
    have hfD : Fence.wide.fn 11 := trivial
    refine wpIn_rangeFunc_ownH rfl (by omega) (gf := 51) (lb := #[.pointer (some ⟨P + 1, 0, none⟩)]) rfl trivial (enters_of Tryd.func51 (by kernel_rfl) rfl)
      (sall_stops w W0 (P + 1) a n c l HR.out hn hB3 hc3) belowK_t (belowK_b HSZ.out) (Below.refl _ _) (fun _ => rfl)
      (fun pre W => ChAt w W w.heap.size (w.heap.size + 1) P k 0 (lastX zero32 (pre.map (·.1))) ∧ chX k zero32 (pre.map (·.1)) = 0)
      (fun c pre W => c = .ret ∧ chX k zero32 (pre.map (·.1)) ≠ 0 ∧ ∃ D, ChAt w W w.heap.size (w.heap.size + 1) P k (chX k zero32 (pre.map (·.1))) D)
      (by rintro s W W' row ⟨h1, h2⟩ hg hr; exact ⟨h1.own HSZ.out hg hr, h2⟩)
      (by rintro c s W W' row ⟨h1, h2, D, h3⟩ hg hr; exact ⟨h1, h2, D, h3.own HSZ.out hg hr⟩)
      ⟨HC0.out, rfl⟩
      (fun x a' W => ∃ Bx, Blk W Bx 36 (sgc x.1.2) ∧ P < Bx ∧ a' = { tmps := #[.string k, .slice a n c, .pointer (some ⟨w.heap.size, 0, none⟩), undef, .pointer (some ⟨w.heap.size + 1, 0, none⟩), .pointer (some ⟨P, 0, none⟩), .int .i64 (x.1.1 : Int), .pointer (some ⟨Bx, 0, none⟩), undef, .string k, .bool true, .bool false, .slice a n c, .func (.func 51) #[] #[.pointer (some ⟨P + 1, 0, none⟩)], .int .i64 (x.1.1 : Int), .agg (sgc x.1.2).toArray, undef, undef, undef, undef, undef, undef, undef, undef, undef, undef, undef, undef, undef, undef, undef, undef, undef, undef, undef, undef, undef, undef], defers := [] })
      (by rintro x a' _ W W' row ⟨Bx, h1, h2, h3⟩ hg hr; exact ⟨Bx, h1.turned hg (fun r e => (hr r e).2), h2, h3⟩) ?assign ?body ?done ?stop
    case assign =>
      rintro L pre ⟨⟨i, s⟩, hs, hi⟩ W K ⟨hC, h0⟩ hK
      have IX : Hid ((Tryd.prog.info? 36).map (·.size) = some (sgc s).length) := Lib.hid (by rw [sgc_length hs]; exact info_signed)
      have HLX : Hid ((sgc sgz).length = (sgc s).length) := Lib.hid (by rw [sgc_length hs, sgc_length sgz_ok])
      have HOX : Hid (∀ v ∈ sgc s, v.oneCell' = true) := Lib.hid (sgc_one _)
      have HKK := Lib.hid hK
      have HC := Lib.hid hC
      have H0 := Lib.hid h0
      clear hK hC h0
      simp [encI]
      gi_wp2_with (first
        | ((with_reducible refine wpListIn_allocB (o := ⟨some 7, _, _, _, _, _⟩) ?_ 36 ?_ sgz_info ?_); rfl; rfl; intro w4 hb4 hg4 hz4)
        | ((with_reducible refine wpListIn_storeB (o := ⟨none, .store 36 (.tmp 7) (.tmp 15), _, _, _, _⟩) ?_ 36 (.tmp 7) (.tmp 15) ?_ ?_ ?_ hb4 IX.out HLX.out HOX.out ?_); rfl; rfl; rfl; rfl; intro w5 hb5 hg5 hz5))
      have hB5 : Below W.heap.size W w5 := ((Below.refl _ W).grown hg4 (Nat.le_refl _) (by simp)).grown hg5 (by omega) (fun k e => by cases e; exact Nat.le_refl _)
      exact HKK.out _ w5 (keepsFrom_of hB5) (hB5.mono HC.out.bel.size) ⟨HC.out.below hB5, H0.out⟩ ⟨W.heap.size, hb5, HC.out.dig.lt, rfl⟩
    case body =>
      rintro L pre ⟨⟨i, s⟩, hs, hi⟩ a' W hL ⟨r, hr⟩ ⟨hC, h0⟩ ⟨Bx, hbx, hBx, rfl⟩ hlen
      simp only at hs hi hbx
      have IX : Hid ((Tryd.prog.info? 36).map (·.size) = some (sgc s).length) := Lib.hid (by rw [sgc_length hs]; exact info_signed)
      have hck := hC.key.cell (j := 0) rfl
      have hlx := lastX_length zero32 zero32_length (pre.map (·.1))
      have HSX : Hid (∀ z, stepX k (lastX zero32 (pre.map (·.1))) (i, s) = z → chX k zero32 ((pre ++ [(⟨(i, s), hs, hi⟩ : Ix9)]).map (·.1)) = z) := Lib.hid (fun z hz => by rw [List.map_append, List.map_cons, List.map_nil, chX_snoc k zero32 _ _ h0]; exact hz)
      have HLX : Hid (lastX zero32 ((pre ++ [(⟨(i, s), hs, hi⟩ : Ix9)]).map (·.1)) = digH s.hd) := Lib.hid (by rw [List.map_append, List.map_cons, List.map_nil, lastX_snoc])
      have HLN := Lib.hid hlx
      have HS := Lib.hid hs
      have HC := Lib.hid hC
      have hp0 := hbx.all0
      have HCK := Lib.hid (fun W (h : Below w.heap.size w W) => hcheck_any W (HT.out W h) k s hs)
      clear hC h0 hlx hr
      generalize hD : lastX zero32 (pre.map (·.1)) = D at *
      clear hD
      by_cases hq : chkH k s = 0
      · have hw1 : IntKind.i64.wrap ((i : Int) + 1) = (i : Int) + 1 := IntWalk.i64_in _ (by omega)
        have HBU := Lib.hid (built_hd ((i : Int) + 1) s.hd.root D HS.out.1.1 HLN.out)
        have IH : Hid ((Tryd.prog.info? 25).map (·.size) = some (hdc s.hd).length) := Lib.hid (by rw [hdc_length HS.out.1]; exact info_head0)
        have ID1 : Hid ((Tryd.prog.info? 23).map (·.size) = some (bs s.hd.root).length) := Lib.hid (by rw [info_digest, bs_length, HS.out.1.1])
        have ID2 : Hid ((Tryd.prog.info? 23).map (·.size) = some (bs D).length) := Lib.hid (by rw [info_digest, bs_length, HLN.out])
        have HEQ := Lib.hid (fun W' : World => neq_head W' s.hd ⟨(i : Int) + 1, s.hd.root, D⟩ HS.out.1 ⟨HS.out.1.1, HLN.out⟩)
        rw [hq] at HCK
        have hbx' := Lib.hid hbx
        cases he : eqHd s.hd ⟨(i : Int) + 1, s.hd.root, D⟩ with
        | false =>
          rw [he] at HEQ
          have HST : Hid (stepX k D (i, s) = 82) := Lib.hid (by unfold stepX; rw [if_neg (by simp [hq]), if_neg (by simp [he])])
          have HX := Lib.hid (HSX.out _ HST.out)
          clear hq he hbx
          gi_wp2_with (first
            | ((with_reducible refine wpListIn_loadP (o := ⟨some 17, _, _, _, _, _⟩) ?_ Bx 0 36 (.tmp 7) ?_ ?_ hp0 Tryd.underlying36 ?_ IX.out ?_); rfl; rfl; rfl; rfl)
            | (gi_at_call 17; refine (CallsIn.inRound L (callsIn_wide.2 (HCK.out W HC.out.bel))).mono ?_; rintro e W1 ⟨rfl, hB1⟩; have hR1 := HC.out.res.below hB1; have hcr := hR1.cell (j := 0) rfl; have hfr := hR1.free 0; have q1 := ((hbx'.out.below hB1).sgp HS.out).1; have q2 := ((hbx'.out.below hB1).sgp HS.out).2.2.2.1; have q3 := (HC.out.dig.below hB1).all0)
            | ((with_reducible refine wpListIn_loadP (o := ⟨some 23, _, _, _, _, _⟩) ?_ Bx 0 25 (.tmp 22) ?_ ?_ q1 Tryd.underlying25 ?_ IH.out ?_); rfl; rfl; rfl; rfl)
            | ((with_reducible refine wpListIn_loadP (o := ⟨some 28, _, _, _, _, _⟩) ?_ Bx 1 23 (.tmp 27) ?_ ?_ q2 Tryd.underlying23 ?_ ID1.out ?_); rfl; rfl; rfl; rfl)
            | ((with_reducible refine wpListIn_loadP (o := ⟨some 29, _, _, _, _, _⟩) ?_ P 0 23 (.tmp 5) ?_ ?_ q3 Tryd.underlying23 ?_ ID2.out ?_); rfl; rfl; rfl; rfl)
            | ((with_reducible refine wpListIn_buildX (o := ⟨some 30, _, _, _, _, _⟩) ?_ 25 #[(0, .tmp 25), (1, .tmp 28), (2, .tmp 29)] ?_ (ps := [(0, .int .i64 ((i : Int) + 1)), (1, .agg (bs s.hd.root).toArray), (2, .agg (bs D).toArray)]) ?_ HBU.out ?_); rfl; rfl; rfl)
            | ((with_reducible refine wpListIn_eqX (o := ⟨some 31, _, _, _, _, _⟩) ?_ .neq 25 25 (.tmp 23) (.tmp 30) ?_ (hdc s.hd).toArray (hdc ⟨(i : Int) + 1, s.hd.root, D⟩).toArray ?_ ?_ guard_head _ HEQ.out ?_); rfl; rfl; rfl; rfl))
          exact ⟨(keepsFrom_of hB1).trans ((KeepsOthers.setCell W1 ⟨w.heap.size + 1, 0, none⟩ (.int .i64 82)).from _), rfl, by rw [HX.out]; decide, D, by rw [HX.out]; exact (HC.out.below hB1).setRes (by omega) (by have := HPR.out; omega) (by omega) 82⟩
        | true =>
          rw [he] at HEQ
          have HST : Hid (stepX k D (i, s) = 0) := Lib.hid (by unfold stepX; rw [if_neg (by simp [hq]), if_pos he])
          have HX := Lib.hid (HSX.out _ HST.out)
          have HDG := Lib.hid (fun W (h : Below w.heap.size w W) => hdig_any W (HT.out W h) s.hd HS.out.1)
          have ID3 : Hid ((Tryd.prog.info? 23).map (·.size) = some (bs (digH s.hd)).length) := Lib.hid (by rw [info_digest, bs_length, digH_length])
          have HLD : Hid ((bs D).length = (bs (digH s.hd)).length) := Lib.hid (by rw [bs_length, bs_length, HLN.out, digH_length])
          have HOD : Hid (∀ v ∈ bs (digH s.hd), v.oneCell' = true) := Lib.hid (bs_one _)
          clear hq he hbx
          gi_wp2_with (first
            | ((with_reducible refine wpListIn_loadP (o := ⟨some 17, _, _, _, _, _⟩) ?_ Bx 0 36 (.tmp 7) ?_ ?_ hp0 Tryd.underlying36 ?_ IX.out ?_); rfl; rfl; rfl; rfl)
            | (gi_at_call 17; refine (CallsIn.inRound L (callsIn_wide.2 (HCK.out W HC.out.bel))).mono ?_; rintro e W1 ⟨rfl, hB1⟩; have HC1 := Lib.hid (HC.out.below hB1); have q0 := hbx'.out.below hB1; have q1 := (q0.sgp HS.out).1; have q2 := (q0.sgp HS.out).2.2.2.1; have q3 := HC1.out.dig.all0)
            | ((with_reducible refine wpListIn_loadP (o := ⟨some 23, _, _, _, _, _⟩) ?_ Bx 0 25 (.tmp 22) ?_ ?_ q1 Tryd.underlying25 ?_ IH.out ?_); rfl; rfl; rfl; rfl)
            | ((with_reducible refine wpListIn_loadP (o := ⟨some 28, _, _, _, _, _⟩) ?_ Bx 1 23 (.tmp 27) ?_ ?_ q2 Tryd.underlying23 ?_ ID1.out ?_); rfl; rfl; rfl; rfl)
            | ((with_reducible refine wpListIn_loadP (o := ⟨some 29, _, _, _, _, _⟩) ?_ P 0 23 (.tmp 5) ?_ ?_ q3 Tryd.underlying23 ?_ ID2.out ?_); rfl; rfl; rfl; rfl)
            | ((with_reducible refine wpListIn_buildX (o := ⟨some 30, _, _, _, _, _⟩) ?_ 25 #[(0, .tmp 25), (1, .tmp 28), (2, .tmp 29)] ?_ (ps := [(0, .int .i64 ((i : Int) + 1)), (1, .agg (bs s.hd.root).toArray), (2, .agg (bs D).toArray)]) ?_ HBU.out ?_); rfl; rfl; rfl)
            | ((with_reducible refine wpListIn_eqX (o := ⟨some 31, _, _, _, _, _⟩) ?_ .neq 25 25 (.tmp 23) (.tmp 30) ?_ (hdc s.hd).toArray (hdc ⟨(i : Int) + 1, s.hd.root, D⟩).toArray ?_ ?_ guard_head _ HEQ.out ?_); rfl; rfl; rfl; rfl)
            | ((with_reducible refine wpListIn_loadP (o := ⟨some 34, _, _, _, _, _⟩) ?_ Bx 0 25 (.tmp 33) ?_ ?_ q1 Tryd.underlying25 ?_ IH.out ?_); rfl; rfl; rfl; rfl)
            | (gi_at_call 11; refine (CallsIn.inRound L (callsIn_wide.2 (HDG.out W1 HC1.out.bel))).mono ?_; rintro e W2 ⟨rfl, hB2⟩; have HC2 := Lib.hid (HC1.out.below hB2); have q4 := HC2.out.dig)
            | ((with_reducible refine wpListIn_storeB (o := ⟨none, .store 23 (.tmp 5) (.tmp 36), _, _, _, _⟩) ?_ 23 (.tmp 5) (.tmp 36) ?_ ?_ ?_ q4 ID3.out HLD.out HOD.out ?_); rfl; rfl; rfl; rfl; intro W3 q5 hg3 hz3))
          have hPw : w.heap.size ≤ P := by have := HPR.out; omega
          have hB12 := Bt hB1 hB2
          have hBW := (hB12.mono HC.out.bel.size).grown hg3 (Nat.le_trans HC.out.bel.size hB12.size) (fun k e => by cases e; exact hPw)
          refine ⟨(keepsFrom_of hB12).trans (keepsFrom_store hg3 q4), hBW, ⟨HC2.out.key.grown hg3 (by have := HPR.out; simp; omega), HC2.out.res.grown hg3 (by have := HPR.out; simp; omega), by rw [HLX.out]; exact q5, HC.out.bel.trans hBW⟩, HX.out⟩
      · have HST : Hid (stepX k D (i, s) = chkH k s) := Lib.hid (by unfold stepX; rw [if_pos hq])
        have HX := Lib.hid (HSX.out _ HST.out)
        have hq2 : (chkH k s != 0) = true := by simpa using hq
        generalize hz : chkH k s = z at *
        gi_wp2_with (first
          | ((with_reducible refine wpListIn_loadP (o := ⟨some 17, _, _, _, _, _⟩) ?_ Bx 0 36 (.tmp 7) ?_ ?_ hp0 Tryd.underlying36 ?_ IX.out ?_); rfl; rfl; rfl; rfl)
          | (gi_at_call 17; refine (CallsIn.inRound L (callsIn_wide.2 (HCK.out W HC.out.bel))).mono ?_; rintro e W1 ⟨rfl, hB1⟩; have hR1 := HC.out.res.below hB1; have hcr := hR1.cell (j := 0) rfl; have hfr := hR1.free 0))
        exact ⟨(keepsFrom_of hB1).trans ((KeepsOthers.setCell W1 ⟨w.heap.size + 1, 0, none⟩ (.int .i64 z)).from _), rfl, by rw [HX.out]; exact hq, D, by rw [HX.out]; exact (HC.out.below hB1).setRes (by omega) (by have := HPR.out; omega) (by omega) z⟩
    case done =>
      rintro Q xs W hQ rfl ⟨hC, h0⟩ hK
      have hcr := hC.res.cell (j := 0) rfl
      have hfr := hC.res.free 0
      have HR0 : Hid (chI k l = 0) := Lib.hid (by rw [HE.out, ← upI_map HR.out.ok HR.out.len hn]; exact h0)
      have HC := Lib.hid hC
      have HKQ := Lib.hid hK
      clear hC h0 hK
      gi_wp2
      have hK' := (KeepsOthers.setCell W ⟨w.heap.size + 1, 0, none⟩ (.int .i64 0)).same Q _ HKQ.out rfl
      have HC1 := HC.out.setRes (by omega) (by have := HPR.out; omega) (by omega) 0
      have HC2 := HC1.own HSZ.out (grownBy_putObj' _ Q (.deferred none)) (fun r e => by cases e; exact ⟨hQ, _, hK', rfl⟩)
      have hcF := HC2.res.cell (j := 0) (v := .int .i64 0) rfl
      refine ⟨by simp, .inl ⟨_, _, rfl, run_takeDeferred hK', ?_⟩⟩
      refine ⟨.int .i64 0, by simp [results, Tryd.results20, go_sem, hcF], ?_, HC2.bel⟩
      rw [HR0.out]
    case stop =>
      rintro Q c pre W hQ ⟨kk, hkk, rfl⟩ ⟨rfl, hne, Dg, hC⟩ hK
      rw [upI_map' HR.out.ok HR.out.len hn hkk] at hne hC
      obtain ⟨rest, hrest⟩ := seqI_split l hkk
      have HR0 : Hid (chI k l = chX k zero32 (seqI l kk)) := Lib.hid (by rw [HE.out, hrest]; exact chX_stop k zero32 _ _ hne)
      rw [← HR0.out] at hC
      have HC := Lib.hid hC
      have HKQ := Lib.hid hK
      clear hC hne hK hrest
      gi_wp2
      have HC2 := HC.out.own HSZ.out (grownBy_putObj' _ Q (.deferred none)) (fun r e => by cases e; exact ⟨hQ, _, HKQ.out, rfl⟩)
      have hcF := HC2.res.cell (j := 0) rfl
      refine ⟨by simp, .inl ⟨_, _, rfl, run_takeDeferred HKQ.out, ?_⟩⟩
      exact ⟨.int .i64 (chI k l), by simp [results, Tryd.results20, go_sem, hcF], rfl, HC2.bel⟩
end Go.Proofs.YtoclahcibilbhaaDoor
