/-
  The library's slices.All at a list of signed heads: what a range over it is told.
-/
import Derived.Test.YtoclahcibilbhaaDoorHedC
import Derived.Test.YtoclahcibilbhaaDoorLibI
import Derived.RangeFuncNested
import Derived.RangeFuncBound
import Derived.RangeFuncCalls
import Derived.RangeFuncLeaves
import Derived.Shelf.Abstract
import Derived.WalkKit
import Derived.LoopIn
namespace Go.Proofs.YtoclahcibilbhaaDoor
open Go.RowKit Go.Shelf
attribute [local go_sem] Oper.semAt_some
set_option maxRecDepth 100000

/-- what a round is handed: the place, and the signed head -/
abbrev Ix9 := { p : Nat × Sg // p.2.ok ∧ p.1 < 1099511627776 }
def ix0 : Ix9 := ⟨(0, sgz), sgz_ok, by decide⟩
def encI (x : Ix9) : Array Value := #[.int .i64 (x.1.1 : Int), .agg (sgc x.1.2).toArray]
instance (s : Sg) : Decidable s.ok := by unfold Sg.ok Hd.ok; infer_instance
def atI (l : List Sg) (j : Nat) : Ix9 := if h : (l.getD j sgz).ok ∧ j < 1099511627776 then ⟨(j, l.getD j sgz), h.1, h.2⟩ else ix0
theorem atI_ok {l : List Sg} (hl : sgR.all l) {j : Nat} (hj : j < l.length) (hm : l.length ≤ 1000000) : (atI l j).1 = (j, l.getD j sgz) := by
  unfold atI
  rw [dif_pos ⟨hl.at hj, by omega⟩]
def upI (l : List Sg) (k : Nat) : List Ix9 := (List.range k).map (atI l)
theorem upI_succ (l : List Sg) (k : Nat) : upI l (k + 1) = upI l k ++ [atI l k] := by simp [upI, List.range_succ]
theorem upI_length (l : List Sg) (k : Nat) : (upI l k).length = k := by simp [upI]

theorem sall_in (w : World) (a : Option Addr) (n c : Nat) :
    CallsIn Fence.wide 5 Tryd.prog 40 #[.slice a n c] w fun e w' => e = .returned (.func (.func 51) #[] #[.pointer (some ⟨w.heap.size, 0, none⟩)]) ∧ w' = w.alloc (.cells #[.slice a n c] 44) := by
  refine callsIn_of_wp Tryd.func40 rfl trivial ?_ rfl
  simp only [Tryd.ntmps40, List.size_toArray, List.length_cons, List.length_nil, Nat.reduceAdd, Nat.reduceSub, Array.replicate_succ, Array.replicate_zero, List.push_toArray, List.append_toArray, List.nil_append, List.cons_append]
  gi_wp2
  go_ret
  exact ⟨rfl, rfl⟩

set_option maxHeartbeats 4000000 in
theorem sall_stops (w0 w : World) (B : Nat) (a : Option Addr) (n c : Nat) (l : List Sg) (hr : RdG sgR w0 a n c l) (hn : n ≤ 1000000) (hb : Below w0.heap.size w0 w) (hc : w.cell? ⟨B, 0, none⟩ = some (.slice a n c)) :
    SeqStopsK Fence.wide 5 Tryd.prog 51 #[.pointer (some ⟨B, 0, none⟩)] encI (Below w0.heap.size) (fun ys => ys = upI l n) (fun pre => ∃ k, k ≤ n ∧ pre = upI l k) n w := fun L J Jx W hW hJ _ hY h0 => by
  have hc' : W.cell? ⟨B, 0, none⟩ = some (.slice a n c) := cell_later hW hc
  have HB := Lib.hid (Bt hb hW)
  have HR := Lib.hid hr
  have HJ := Lib.hid hJ
  have HWZ := Lib.hid hW.size
  have HOK : Hid (sgR.all l) := Lib.hid hr.ok
  have HLN := Lib.hid hr.len
  clear hr hb hc hW hJ
  refine callsIn_of_wp Tryd.func51 rfl trivial ?_ rfl
  simp only [Tryd.ntmps51, List.size_toArray, List.length_cons, List.length_nil, Nat.reduceAdd, Nat.reduceSub, Array.replicate_succ, Array.replicate_zero, List.push_toArray, List.append_toArray, List.nil_append, List.cons_append]
  gi_wp2
  gi_loopw [7] (fun i wr => ∃ k : Nat, k ≤ n ∧ i = .int .i64 k ∧ J (upI l k) wr ∧ Hid (Below w0.heap.size w0 wr ∧ W.heap.size ≤ wr.heap.size)) (fun i _ => n - (intOf i).toNat)
  case atStart => exact ⟨0, Nat.zero_le _, rfl, h0, Lib.hid ⟨HB.out, Nat.le_refl _⟩⟩
  case round =>
    obtain ⟨k, hk, rfl, hJs, hB⟩ := hrel
    by_cases hlt : k < n
    · have hlti : (k : Int) < (n : Int) := by omega
      obtain ⟨b, off, rfl, hbl, hel⟩ := HR.out.elems (by omega)
      have hx := hel k hlt
      have hxr : wr.rangeAt b (off + k * 97) (sgc (l.getD k sgz)) := fun j v hv => (hB.out.1.cell (p := ⟨b, off + k * 97 + j, none⟩) hbl).trans (hx j v hv)
      have hso : (l.getD k sgz).ok := HOK.out.at (by rw [HLN.out]; exact hlt)
      have HSO := Lib.hid hso
      have IX : Hid ((Tryd.prog.info? 36).map (·.size) = some (sgc (l.getD k sgz)).length) := Lib.hid (by rw [sgc_length hso]; exact info_signed)
      have HLX : Hid ((sgc sgz).length = (sgc (l.getD k sgz)).length) := Lib.hid (by rw [sgc_length hso, sgc_length sgz_ok])
      have HOX : Hid (∀ v ∈ sgc (l.getD k sgz), v.oneCell' = true) := Lib.hid (sgc_one _)
      have HAT := Lib.hid (atI_ok HOK.out (show k < l.length by rw [HLN.out]; exact hlt) (by rw [HLN.out]; exact hn))
      have HKL := Lib.hid (show (upI l k).length < n by rw [upI_length]; exact hlt)
      clear hel hx hso
      generalize hs : l.getD k sgz = s at *
      clear hs
      gi_wp2_with (first
        | ((with_reducible refine wpListIn_loadP (o := ⟨some 11, _, _, _, _, _⟩) ?_ b (off + k * 97) 36 (.tmp 10) ?_ ?_ hxr Tryd.underlying36 ?_ IX.out ?_); rfl; rfl; rfl; rfl)
        | ((with_reducible refine wpListIn_allocB (o := ⟨some 4, _, _, _, _, _⟩) ?_ 36 ?_ sgz_info ?_); rfl; rfl; intro w3 hb3 hg3 hz3)
        | ((with_reducible refine wpListIn_storeB (o := ⟨none, .store 36 (.tmp 4) (.tmp 11), _, _, _, _⟩) ?_ 36 (.tmp 4) (.tmp 11) ?_ ?_ ?_ hb3 IX.out HLX.out HOX.out ?_); rfl; rfl; rfl; rfl; intro w4 hb4 hg4 hz4;
            have hB4 : Below wr.heap.size wr w4 := ((Below.refl _ wr).grown hg3 (Nat.le_refl _) (fun k e => by cases e)).grown hg4 (by omega) (fun k e => by cases e; exact Nat.le_refl _);
            have r4 := hb4.all0;
            obtain ⟨fn, tmps, assign, body, hy, hR⟩ := hY (upI l k) (atI l k) w4 (HJ.out (upI l k) wr w4 none hJs (below_none hB4) (fun r e => by cases e)) HKL.out; dsimp only [encI] at hy; rw [HAT.out] at hy)
        | ((with_reducible refine wpListIn_loadP (o := ⟨some 14, _, _, _, _, _⟩) ?_ wr.heap.size 0 36 (.tmp 4) ?_ ?_ r4 Tryd.underlying36 ?_ IX.out ?_); rfl; rfl; rfl; rfl))
      refine hR.mono ?_
      have HB4 := Lib.hid (hB.out.1.trans (hB4.mono hB.out.1.size))
      have HZ4 := Lib.hid (Nat.le_trans hB.out.2 hB4.size)
      clear hy hR hb3 hg3 hz3 hb4 hg4 hz4 hB4 r4 hxr hJs
      rintro e w5 (⟨rfl, hJ5, hk5⟩ | ⟨rfl, hJx5⟩)
      · rw [← upI_succ] at hJ5
        have HB5 := Lib.hid (HB4.out.trans hk5)
        have HZ5 := Lib.hid (Nat.le_trans HZ4.out hk5.size)
        clear hk5
        gi_wp2
        go_roundw
        case rel => exact ⟨k + 1, by omega, by simp, hJ5, Lib.hid ⟨HB5.out, HZ5.out⟩⟩
        case measure => simp [intOf]; omega
      · rw [← upI_succ] at hJx5
        gi_wp2
        refine bodyPost_ret (results_none rfl _ _ _) rfl ?_
        exact ⟨⟨_, rfl⟩, .inr ⟨_, ⟨k + 1, by omega, rfl⟩, hJx5⟩⟩
    · obtain rfl : k = n := by omega
      gi_wp2
      go_end0
      exact ⟨⟨_, rfl⟩, .inl ⟨_, rfl, hJs⟩⟩
end Go.Proofs.YtoclahcibilbhaaDoor
