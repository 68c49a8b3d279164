/-
  The reference of layer 6: Same, of two proofs that are the same.
-/
import Derived.Test.YtbbckjpgmpfkgaaGreatDoorPrf0
import Derived.Deep.RegionHeld3
namespace Go.Proofs.YtbbckjpgmpfkgaaGreatDoor
open Go.RowKit

/-- what Same knows of a world -/
structure SmP (w W : World) (a : Option Addr) (n c : Nat) (a' : Option Addr) (c' : Nat) (x : Pf) : Prop where
  one : PAt w W w.heap.size a n c x
  two : PAt w W (w.heap.size + 1) a' n c' x
  fst : RdD W a n c x.sibs
  snd : RdD W a' n c' x.sibs
theorem SmP.below {w W W' : World} {a : Option Addr} {n c : Nat} {a' : Option Addr} {c' : Nat} {x : Pf} (h : SmP w W a n c a' c' x) (hb : Below W.heap.size W W') : SmP w W' a n c a' c' x := ⟨h.one.below hb, h.two.below hb, h.fst.below hb, h.snd.below hb⟩
/-- and in a round -/
structure SmK (w W : World) (b o b' o' : Nat) (n c c' k : Nat) (d : List UInt8) : Prop where
  c1 : W.cell? ⟨w.heap.size, 0, none⟩ = some (.slice (some ⟨b, o, none⟩) n c)
  c2 : W.cell? ⟨w.heap.size + 1, 0, none⟩ = some (.slice (some ⟨b', o', none⟩) n c')
  r1 : W.rangeAt b (o + k * 32) (bs d)
  r2 : W.rangeAt b' (o' + k * 32) (bs d)
theorem SmK.drew {w W : World} {b o b' o' n c c' k : Nat} {d : List UInt8} (h : SmK w W b o b' o' n c c' k d) : SmK w W.drew b o b' o' n c c' k d := ⟨h.c1, h.c2, h.r1, h.r2⟩
theorem neqSelf (d : List UInt8) (h : d.length = 32) : ∀ W : World, (binOp .neq 24 (.agg (bs d).toArray) (.agg (bs d).toArray)).run Tryz.prog W = .ok (.bool false) W := fun W => by rw [neqD W _ _ h h]; simp

set_option maxRecDepth 100000 in
set_option maxHeartbeats 2000000 in
theorem samePf_ref (w : World) (a : Option Addr) (n c : Nat) (a' : Option Addr) (c' : Nat) (x : Pf) (h1 : RdP6 w a n c x) (h2 : RdP6 w a' n c' x) (hn : n ≤ 1000) :
    Calls Tryz.prog 10 #[.agg (pc a n c x).toArray, .agg (pc a' n c' x).toArray] w fun e w' => e = .returned (.bool true) ∧ Below w.heap.size w w' := by
  have hB1 : Below w.heap.size w (w.alloc (.cells (pc a n c x).toArray 29)) := (Below.refl _ w).alloc (Nat.le_refl _) _
  have hB2 : Below (w.alloc (.cells (pc a n c x).toArray 29)).heap.size (w.alloc (.cells (pc a n c x).toArray 29)) ((w.alloc (.cells (pc a n c x).toArray 29)).alloc (.cells (pc a' n c' x).toArray 29)) := (Below.refl _ _).alloc (Nat.le_refl _) _
  have hS : SmP w ((w.alloc (.cells (pc a n c x).toArray 29)).alloc (.cells (pc a' n c' x).toArray 29)) a n c a' c' x := by
    have hz : (w.alloc (.cells (pc a n c x).toArray 29)).heap.size = w.heap.size + 1 := by simp
    have hb := Blk.new (w.alloc (.cells (pc a n c x).toArray 29)) 29 (pc a' n c' x)
    rw [hz] at hb
    exact ⟨(PAt.start w a n c x).below hB2, ⟨hb, Bt hB1 hB2⟩, (h1.sib.below hB1).below hB2, (h2.sib.below hB1).below hB2⟩
  have hlen := Lib.hid h1.sib.len
  have hp := h1.p
  have hv := h1.v
  have hok := Lib.hid h1.sib.ok
  have H5 := Lib.hid (digP hp)
  have H6 := Lib.hid (digP hv)
  have E1 := Lib.hid (neqSelf x.op hp)
  have E2 := Lib.hid (neqSelf x.ov hv)
  have p0 := hS.one.c0
  have p1 := hS.one.c1
  have p2 := hS.one.rp
  have p3 := hS.one.rv hp
  have q0 := hS.two.c0
  have q1 := hS.two.c1
  have q2 := hS.two.rp
  have q3 := hS.two.rv hp
  have hB := hS.one.bel
  clear h1 h2 hB1 hB2 hp hv
  generalize pc a n c x = P at *
  generalize pc a' n c' x = P' at *
  go_enter Tryz.func10, Tryz.ntmps10
  generalize x.op = p at *
  generalize x.ov = v at *
  generalize x.other = o at *
  cases o
  all_goals
    go_wp2_with (first | ((with_reducible refine wpList_loadP (o := ⟨some 13, _, _, _, _, _⟩) ?_ w.heap.size 2 24 (.tmp 12) ?_ ?_ p2 Tryz.underlying24 ?_ H5.out ?_); rfl; rfl; rfl; rfl) | ((with_reducible refine wpList_loadP (o := ⟨some 15, _, _, _, _, _⟩) ?_ (w.heap.size + 1) 2 24 (.tmp 14) ?_ ?_ q2 Tryz.underlying24 ?_ H5.out ?_); rfl; rfl; rfl; rfl) | ((with_reducible refine wpList_eqH (o := ⟨some 16, _, _, _, _, _⟩) ?_ .neq 24 24 (.tmp 13) (.tmp 15) ?_ (bs p).toArray (bs p).toArray ?_ ?_ guardH _ E1.out ?_); rfl; rfl; rfl; rfl) | ((with_reducible refine wpList_loadP (o := ⟨some 20, _, _, _, _, _⟩) ?_ w.heap.size 34 24 (.tmp 19) ?_ ?_ p3 Tryz.underlying24 ?_ H6.out ?_); rfl; rfl; rfl; rfl) | ((with_reducible refine wpList_loadP (o := ⟨some 22, _, _, _, _, _⟩) ?_ (w.heap.size + 1) 34 24 (.tmp 21) ?_ ?_ q3 Tryz.underlying24 ?_ H6.out ?_); rfl; rfl; rfl; rfl) | ((with_reducible refine wpList_eqH (o := ⟨some 23, _, _, _, _, _⟩) ?_ .neq 24 24 (.tmp 20) (.tmp 22) ?_ (bs v).toArray (bs v).toArray ?_ ?_ guardH _ E2.out ?_); rfl; rfl; rfl; rfl))
    generalize hW0 : (w.alloc (.cells P.toArray 29)).alloc (.cells P'.toArray 29) = W0 at *
    clear hW0
    go_loopw [5] (fun i wr => ∃ k : Nat, k ≤ n ∧ i = .int .i64 (k : Int) ∧ Below W0.heap.size W0 wr) (fun i _ => n - (intOf i).toNat)
    case atStart => exact ⟨0, by omega, rfl, Below.refl _ _⟩
    case round =>
      obtain ⟨k, hk, rfl, hBr⟩ := hrel
      have hSr := hS.below hBr
      have r0 := hSr.one.c0
      have s0 := hSr.two.c0
      by_cases hlt : k < n
      · have hkl : (k : Int) < (n : Int) := by omega
        obtain ⟨b, off, hae, -, hel⟩ := hSr.fst.elems (by omega)
        obtain ⟨b', off', hae', -, hel'⟩ := hSr.snd.elems (by omega)
        subst hae
        subst hae'
        have hd := hok.out.at (i := k) (by rw [hlen.out]; exact hlt)
        have hT : SmK w wr b off b' off' n c c' k (x.sibs.getD k []) := ⟨r0, s0, hel k hlt, hel' k hlt⟩
        have I5 := Lib.hid (digP hd)
        have EQ := Lib.hid (neqSelf _ hd)
        clear hel hel' hd hSr p0 q0 p1 q1 p2 q2 p3 q3 hS
        generalize x.sibs.getD k [] = d at *
        go_wp2_with fail
        -- REGION same 8
        refine wp_region_held_drew (S := fun W => SmK w W b off b' off' n c c' k d) (by kernel_rfl) hT.drew (fun hHeld => ?_)
        refine wpAnyH_take (i := 0) (oi := ⟨some 41, .fieldAddr 29 (.tmp 2) 0, _, _, _, none⟩) (v := ?_) rfl (by kernel_rfl) (by kernel_rfl) (by kernel_rfl) (fun _ _ _ h => h) (Or.inl ⟨by rfl, ?_⟩) hHeld ?_
        rotate_left
        · intro W _; go_simp; try with_reducible rfl
        try simp only [Act.put, List.setIfInBounds_toArray, List.set_cons_zero, List.set_cons_succ]
        refine wpAnyH_take (i := 1) (oi := ⟨some 42, .load 27 (.tmp 41), _, _, _, none⟩) (v := ?_) rfl (by kernel_rfl) (by kernel_rfl) (by kernel_rfl) (fun _ _ _ h => h) (Or.inl ⟨by rfl, ?_⟩) hHeld ?_
        rotate_left
        · intro W hS; have h0 := hS.c1; go_simp; try with_reducible rfl
        try simp only [Act.put, List.setIfInBounds_toArray, List.set_cons_zero, List.set_cons_succ]
        refine wpAnyH_take (i := 2) (oi := ⟨some 43, .move (.tmp 5), _, _, _, none⟩) (v := ?_) rfl (by kernel_rfl) (by kernel_rfl) (by kernel_rfl) (fun _ _ _ h => h) (Or.inl ⟨by rfl, ?_⟩) hHeld ?_
        rotate_left
        · intro W _; go_simp; try with_reducible rfl
        try simp only [Act.put, List.setIfInBounds_toArray, List.set_cons_zero, List.set_cons_succ]
        refine wpAnyH_take (i := 3) (oi := ⟨some 44, .indexAddr 27 (.tmp 42) (.tmp 43), _, _, _, none⟩) (v := ?_) rfl (by kernel_rfl) (by kernel_rfl) (by kernel_rfl) (fun _ _ _ h => h) (Or.inl ⟨by rfl, ?_⟩) hHeld ?_
        rotate_left
        · intro W _; go_simp; try with_reducible rfl
        try simp only [Act.put, List.setIfInBounds_toArray, List.set_cons_zero, List.set_cons_succ]
        refine wpAnyH_take (i := 4) (oi := ⟨some 45, .load 24 (.tmp 44), _, _, _, none⟩) (v := .agg (bs d).toArray) rfl (by kernel_rfl) (by kernel_rfl) (by kernel_rfl) (fun _ _ _ h => h) (yieldsIf_load_mid (by rfl) _ _ rfl b (off + k * 32) rfl (bs d) _ (fun W h => h.r1) Tryz.underlying24 rfl I5.out) hHeld ?_
        try simp only [Act.put, List.setIfInBounds_toArray, List.set_cons_zero, List.set_cons_succ]
        refine wpAnyH_take (i := 5) (oi := ⟨some 46, .fieldAddr 29 (.tmp 3) 0, _, _, _, none⟩) (v := ?_) rfl (by kernel_rfl) (by kernel_rfl) (by kernel_rfl) (fun _ _ _ h => h) (Or.inl ⟨by rfl, ?_⟩) hHeld ?_
        rotate_left
        · intro W _; go_simp; try with_reducible rfl
        try simp only [Act.put, List.setIfInBounds_toArray, List.set_cons_zero, List.set_cons_succ]
        refine wpAnyH_take (i := 6) (oi := ⟨some 47, .load 27 (.tmp 46), _, _, _, none⟩) (v := ?_) rfl (by kernel_rfl) (by kernel_rfl) (by kernel_rfl) (fun _ _ _ h => h) (Or.inl ⟨by rfl, ?_⟩) hHeld ?_
        rotate_left
        · intro W hS; have h0 := hS.c2; go_simp; try with_reducible rfl
        try simp only [Act.put, List.setIfInBounds_toArray, List.set_cons_zero, List.set_cons_succ]
        refine wpAnyH_take (i := 7) (oi := ⟨some 48, .move (.tmp 5), _, _, _, none⟩) (v := ?_) rfl (by kernel_rfl) (by kernel_rfl) (by kernel_rfl) (fun _ _ _ h => h) (Or.inl ⟨by rfl, ?_⟩) hHeld ?_
        rotate_left
        · intro W _; go_simp; try with_reducible rfl
        try simp only [Act.put, List.setIfInBounds_toArray, List.set_cons_zero, List.set_cons_succ]
        refine wpAnyH_take (i := 8) (oi := ⟨some 49, .indexAddr 27 (.tmp 47) (.tmp 48), _, _, _, none⟩) (v := ?_) rfl (by kernel_rfl) (by kernel_rfl) (by kernel_rfl) (fun _ _ _ h => h) (Or.inl ⟨by rfl, ?_⟩) hHeld ?_
        rotate_left
        · intro W _; go_simp; try with_reducible rfl
        try simp only [Act.put, List.setIfInBounds_toArray, List.set_cons_zero, List.set_cons_succ]
        refine wpAnyH_take (i := 9) (oi := ⟨some 50, .load 24 (.tmp 49), _, _, _, none⟩) (v := .agg (bs d).toArray) rfl (by kernel_rfl) (by kernel_rfl) (by kernel_rfl) (fun _ _ _ h => h) (yieldsIf_load_mid (by rfl) _ _ rfl b' (off' + k * 32) rfl (bs d) _ (fun W h => h.r2) Tryz.underlying24 rfl I5.out) hHeld ?_
        try simp only [Act.put, List.setIfInBounds_toArray, List.set_cons_zero, List.set_cons_succ]
        refine wpAnyH_take (i := 10) (oi := ⟨some 51, .binOp .neq 24 (.tmp 45) (.tmp 50) 24, _, _, _, none⟩) (v := .bool false) rfl (by kernel_rfl) (by kernel_rfl) (by kernel_rfl) (fun _ _ _ h => h) (yieldsIf_eqH (by rfl) .neq 24 24 (.tmp 45) (.tmp 50) rfl _ _ rfl rfl guardH _ EQ.out) hHeld ?_
        try simp only [Act.put, List.setIfInBounds_toArray, List.set_cons_zero, List.set_cons_succ]
        refine wpAnyH_done (by kernel_rfl) ?_ _
        -- END same
        have hBd := Bt hBr (Below.refl wr.heap.size wr).drew
        go_wp2_with fail
        go_roundw
        case rel => exact ⟨k + 1, by omega, by go_num, hBd⟩
        case measure => simp [intOf]; omega
      · obtain rfl : k = n := by omega
        have hkl : ¬ (k : Int) < (k : Int) := by omega
        have hBf := Bt hB hBr
        go_wp2_with fail
        go_ret
        exact ⟨rfl, hBf⟩
end Go.Proofs.YtbbckjpgmpfkgaaGreatDoor
