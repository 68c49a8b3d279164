/-
  The walk of writes.
-/
import Derived.Test.YteanlgakdffibaaDoorLibM
namespace Go.Proofs.YteanlgakdffibaaDoor
open Go.RowKit

theorem HashAt.drewE {W : World} {r : Nat} {l : List UInt8} (h : HashAt W r l) : HashAt W.drew r l := by
  obtain ⟨s, bl, h1, h2⟩ := h
  exact ⟨s, bl, h1, h2.drew⟩
/-- what the last region of writes knows of a world: the hash r holds abc, the variable g holds the digest of ab -/
structure WrAt (w W : World) (r g : Nat) (D : List UInt8) : Prop where
  hash : HashAt W r [97, 98, 99]
  blk : Blk W g 32 (bs D)
  bel : Below w.heap.size w W
theorem WrAt.below {w W W' : World} {r g : Nat} {D : List UInt8} (h : WrAt w W r g D) (hb : Below W.heap.size W W') : WrAt w W' r g D :=
  ⟨h.hash.below hb, h.blk.below hb, Bt h.bel hb⟩
/-- a slice of constants laid, and its sum -/
theorem WrAt.sum {w W : World} {r g : Nat} {D : List UInt8} (h : WrAt w W r g D) (hT : Tab w 1) (l : List UInt8) (n : Nat) (fr : Nat × Nat) (hn : l.length = n) (hm : n ≤ 1000) :
    Calls Tryd.prog 13 #[.slice (some ⟨W.heap.size, 0, none⟩) n n] (W.alloc (.cells (bs l).toArray 5 fr)) fun e w' => e = .returned (.agg (bs (sha l)).toArray) ∧ WrAt w w' r g D := by
  have hb : Below W.heap.size W (W.alloc (.cells (bs l).toArray 5 fr)) := (Below.refl _ W).alloc (Nat.le_refl _) _
  refine (sum_any _ _ n n l (Rd.litm W l n fr hn (by unfold maxLen; omega)) (hT.below (Bt h.bel hb)) (by omega)).mono ?_
  rintro e w' ⟨rfl, hB⟩
  exact ⟨rfl, (h.below hb).below hB⟩
theorem WrAt.sum3 {w W : World} {r g : Nat} {D E : List UInt8} (h : WrAt w W r g D) (hT : Tab w 1)
    (F3 : Hid (∀ (W : World) (g : Nat), Rd W (some ⟨g, 0, none⟩) 3 3 [97, 98, 99] → Tab W 1 → Calls Tryd.prog 13 #[.slice (some ⟨g, 0, none⟩) 3 3] W fun e w' => e = .returned (.agg (bs E).toArray) ∧ Below W.heap.size W w')) :
    Calls Tryd.prog 13 #[.slice (some ⟨W.heap.size, 0, none⟩) 3 3] (W.alloc (.cells #[.int .u8 97, .int .u8 98, .int .u8 99] 5 (3, 4))) fun e w' => e = .returned (.agg (bs E).toArray) ∧ WrAt w w' r g D := by
  have hb : Below W.heap.size W (W.alloc (.cells #[.int .u8 97, .int .u8 98, .int .u8 99] 5 (3, 4))) := (Below.refl _ W).alloc (Nat.le_refl _) _
  refine (F3.out _ _ (Rd.litm W [97, 98, 99] 3 (3, 4) rfl (by decide)) (hT.below (Bt h.bel hb))).mono ?_
  rintro e w' ⟨rfl, hB⟩
  exact ⟨rfl, (h.below hb).below hB⟩
theorem WrAt.built {w W : World} {r g : Nat} {D : List UInt8} (h : WrAt w W r g D) :
    WrAt w (W.alloc (.cells #[.int .u8 97, .int .u8 98, .int .u8 99] 5)) r g D ∧ (W.alloc (.cells #[.int .u8 97, .int .u8 98, .int .u8 99] 5)).heap[W.heap.size]? = some (.cells (bs [97, 98, 99]).toArray 5 (0, 0)) ∧ w.heap.size ≤ W.heap.size ∧ r < W.heap.size ∧ g < W.heap.size :=
  ⟨h.below ((Below.refl _ W).alloc (Nat.le_refl _) _), World.alloc_heap_new W _, h.bel.size, h.hash.lt, h.blk.lt⟩
theorem WrAt.marked {w W W' : World} {r g gA : Nat} {D : List UInt8} (h : WrAt w W r g D) (hg : W.grownBy W' (some gA)) (h1 : w.heap.size ≤ gA) (h2 : r < gA) (h3 : g < gA) : WrAt w W' r g D :=
  ⟨h.hash.grown hg (by simp; omega), h.blk.grown hg (by simp; omega), below_of_grown h.bel hg h1⟩
theorem WrAt.sum2 {w W : World} {r g : Nat} {D E : List UInt8} (h : WrAt w W r g D) (hT : Tab w 1)
    (F2 : Hid (∀ (W : World) (g : Nat), Rd W (some ⟨g, 0, none⟩) 2 2 [97, 98] → Tab W 1 → Calls Tryd.prog 13 #[.slice (some ⟨g, 0, none⟩) 2 2] W fun e w' => e = .returned (.agg (bs E).toArray) ∧ Below W.heap.size W w')) :
    Calls Tryd.prog 13 #[.slice (some ⟨W.heap.size, 0, none⟩) 2 2] (W.alloc (.cells #[.int .u8 97, .int .u8 98] 5 (2, 3))) fun e w' => e = .returned (.agg (bs E).toArray) ∧ WrAt w w' r g D := by
  have hb : Below W.heap.size W (W.alloc (.cells #[.int .u8 97, .int .u8 98] 5 (2, 3))) := (Below.refl _ W).alloc (Nat.le_refl _) _
  refine (F2.out _ _ (Rd.litm W [97, 98] 2 (2, 3) rfl (by decide)) (hT.below (Bt h.bel hb))).mono ?_
  rintro e w' ⟨rfl, hB⟩
  exact ⟨rfl, (h.below hb).below hB⟩
/-- an operation that is wanted, as one step of a region that draws its order -/
theorem step_of {ops : Array Oper} {o : Oper} {a : Act} {w : World} {K : Act → World → Prop} {Q : Exit → Act → World → Prop} {E : Prop} (hw : Region.wanted o (yielded ops a.tmps) = true) (h : Oper.wp Tryd.prog o a w K Q) :
    if Region.wanted o (yielded ops a.tmps) = true then Oper.wp Tryd.prog o a w K Q else E := by
  rw [if_pos hw]; exact h
theorem WrAt.hsum {w W : World} {r g : Nat} {D : List UInt8} (h : WrAt w W r g D) (hT : Tab w 1) :
    Calls Tryd.prog 12 #[.pointer (some ⟨r, 0, none⟩)] W fun e w' => e = .returned (.agg (bs (sha [97, 98, 99])).toArray) ∧ WrAt w w' r g D ∧ Below W.heap.size W w' := by
  refine (hsum_any W r _ h.hash (hT.below h.bel) (by simp)).mono ?_
  rintro e w' ⟨rfl, hB⟩
  exact ⟨rfl, h.below hB, hB⟩

set_option maxRecDepth 100000 in
set_option maxHeartbeats 1000000 in
theorem writes_any (w : World) (hT : Tab w 1) :
    Calls Tryd.prog 16 #[] w fun e w' => e = .returned (.bool true) ∧ Below w.heap.size w w' := by
  have hTl := hT.lt
  have kc := fun (w : World) (C : Array Value) (n c : Nat) => Lib.run_convert_bytes_const (P := Tryd.prog) w 26 5 C n c Tryd.underlying26 Tryd.underlying5
  go_enter Tryd.func16, Tryd.ntmps16
  go_wp2_with fail
  refine (new_any w).mono ?_
  rintro e w1 ⟨r, rfl, hr, hh, hB1⟩
  have hrl := hh.lt
  go_wp2_with fail
  have hR2 := Rd.litm w1 [97, 98] 2 (2, 3) rfl (by decide)
  have hB2 : Below w.heap.size w (w1.alloc (.cells (bs [97, 98]).toArray 5 (2, 3))) := hB1.alloc hB1.size _
  have hh2 := hh.below ((Below.refl _ w1).alloc (Nat.le_refl _) (.cells (bs [97, 98]).toArray 5 (2, 3)))
  have hs2 : (w1.alloc (.cells (bs [97, 98]).toArray 5 (2, 3))).heap.size = w1.heap.size + 1 := by simp
  refine (write_any _ r [] [97, 98] (some ⟨w1.heap.size, 0, none⟩) 2 2 hh2 hR2 (fun _ ad e => by cases e; simp; omega) (hT.below hB2) (by omega) (by simp)).mono ?_
  rintro e w3 ⟨rfl, hh3, hg3⟩
  have hB3 := below_of_grown hB2 hg3 hr
  have hrl3 := hh3.lt
  clear hh2 hh hB2 hR2
  rw [List.nil_append] at hh3
  go_wp2_with fail
  refine (hsum_any w3 r _ hh3 (hT.below hB3) (by simp)).mono ?_
  rintro e w4 ⟨rfl, hB4⟩
  have hB04 := Bt hB3 hB4
  have hh4 := hh3.below hB4
  have hl := sha_length [97, 98]
  have H5 := Lib.hid (show (Tryd.prog.info? 32).map (·.size) = some (bs (sha [97, 98])).length by rw [info_digest, bs_length, hl])
  have H6 := Lib.hid (show (bs zero32).length = (bs (sha [97, 98])).length by rw [bs_length, bs_length, zero32_length, hl])
  have H7 := bs_one (sha [97, 98])
  have F2 := Lib.hid (fun (W : World) (g : Nat) (hR : Rd W (some ⟨g, 0, none⟩) 2 2 [97, 98]) (hT : Tab W 1) => sum_any W _ 2 2 [97, 98] hR hT (by omega))
  have HI := Lib.hid (show (Tryd.prog.info? 32).map (·.size) = some (bs (sha [97, 98])).length by rw [info_digest, bs_length, hl])
  have hl3 := sha_length [97, 98, 99]
  have F3 := Lib.hid (fun (W : World) (g : Nat) (hR : Rd W (some ⟨g, 0, none⟩) 3 3 [97, 98, 99]) (hT : Tab W 1) => sum_any W _ 3 3 [97, 98, 99] hR hT (by omega))
  have F4 := Lib.hid (fun (W : World) (D : List UInt8) (g : Nat) (hW : WrAt w W r g D) => hW.hsum hT)
  have hq3 := Lib.hid (show ∀ W : World, (Op.equalIn 10000 32 (.agg (bs (sha [97, 98, 99])).toArray) (.agg (bs (sha [97, 98, 99])).toArray)).run Tryd.prog W = .ok true W from fun W => by rw [eqInD W _ _ hl3 hl3]; simp)
  generalize sha [97, 98, 99] = D3 at *
  have hq2 := Lib.hid (show ∀ W : World, (Op.equalIn 10000 32 (.agg (bs (sha [97, 98])).toArray) (.agg (bs (sha [97, 98])).toArray)).run Tryd.prog W = .ok true W from fun W => by rw [eqInD W _ _ hl hl]; simp)
  generalize sha [97, 98] = D at *
  go_wp2_with (first | ((with_reducible refine wpList_allocB (o := ⟨some 3, _, _, _, _, _⟩) ?_ 32 ?_ zero32_info ?_); rfl; rfl; intro w5 hr5 hg5 hz5) | ((with_reducible refine wpList_storeB (o := ⟨none, .store 32 (.tmp 3) (.tmp 13), _, _, _, _⟩) ?_ 32 (.tmp 3) (.tmp 13) ?_ ?_ ?_ hr5 H5.out H6.out H7 ?_); rfl; rfl; rfl; rfl; intro w6 hr6 hg6 hz6; have kc6 := (fun (C : Array Value) (n c : Nat) => kc w6 C n c); have hz6' : w6.heap.size = w4.heap.size + 1 := (by omega); simp only [hz6'] at kc6))
  have hB6 : Below w.heap.size w w6 := (hB04.grown hg5 hB04.size (fun k e => by cases e)).grown hg6 (by have := hB04.size; omega) (fun k e => by cases e; exact hB04.size)
  have hh6 := (hh4.grown hg5 (by simp)).grown hg6 (by have := hh4.lt; simp; omega)
  have hR7 := Rd.litm w6 [99] 1 (1, 2) rfl (by decide)
  have hB7 : Below w.heap.size w (w6.alloc (.cells (bs [99]).toArray 5 (1, 2))) := hB6.alloc hB6.size _
  have hh7 := hh6.below ((Below.refl _ w6).alloc (Nat.le_refl _) (.cells (bs [99]).toArray 5 (1, 2)))
  have hr7 := hr6.below ((Below.refl _ w6).alloc (Nat.le_refl _) (.cells (bs [99]).toArray 5 (1, 2)))
  rw [hz6'] at hR7
  refine (write_any _ r [97, 98] [99] _ 1 1 hh7 hR7 (fun _ ad e => by cases e; simp; have := hh4.lt; omega) (hT.below hB7) (by omega) (by simp)).mono ?_
  rintro e w8 ⟨rfl, hh8, hg8⟩
  have hr8 := hr7.grown hg8 (by have := hh4.lt; simp; omega)
  have hB8 := below_of_grown hB7 hg8 hr
  have hW : WrAt w w8 r w4.heap.size D := ⟨hh8, hr8, hB8⟩
  clear hh8 hr8 hB8 hg8 hr7 hh7 hB7 hR7 hh6 hB6 kc6 hz6' hz6 hg6 hr6 hz5 hg5 hr5 H5 H6 H7 hh4 hB04 hB4 hrl3 hB3 hg3 hh3 hs2 hrl hB1
  generalize w4.heap.size + 1 = g5 at *
  generalize w4.heap.size = g4 at *
  generalize w1.heap.size = g1 at *
  go_wp2_with fail
  have hW0 : WrAt w w8.drew r g4 D := ⟨hW.hash.drewE, hW.blk.drew, ⟨hW.bel.os, hW.bel.tape, hW.bel.output, hW.bel.size, hW.bel.block⟩⟩
  clear hW
  refine wp_region_any (by kernel_rfl) ?_
  change wpAny _ _ _ _ _ _ _ (World.drew _)
  generalize w8.drew = W at *
  refine wpAny_take (i := 0) (v := .int .i64 0) rfl (by kernel_rfl) (by kernel_rfl) (by kernel_rfl) (fun _ _ _ h => h) (Or.inl ⟨by rfl, ?_⟩) ?_
  · intro w; go_simp
  refine wpAny_take (i := 1) (v := .bool true) rfl (by kernel_rfl) (by kernel_rfl) (by kernel_rfl) (fun _ _ _ h => h) (Or.inl ⟨by rfl, ?_⟩) ?_
  · intro w; go_simp
  refine wpAny_take (i := 2) (v := .bool true) rfl (by kernel_rfl) (by kernel_rfl) (by kernel_rfl) (fun _ _ _ h => h) (Or.inl ⟨by rfl, ?_⟩) ?_
  · intro w; go_simp
  refine wpAny_take (i := 3) (v := .int .i64 0) rfl (by kernel_rfl) (by kernel_rfl) (by kernel_rfl) (fun _ _ _ h => h) (Or.inl ⟨by rfl, ?_⟩) ?_
  · intro w; go_simp
  refine wpAny_take (i := 4) (v := .bool true) rfl (by kernel_rfl) (by kernel_rfl) (by kernel_rfl) (fun _ _ _ h => h) (Or.inl ⟨by rfl, ?_⟩) ?_
  · intro w; go_simp
  refine wpAny_take (i := 5) (v := .bool true) rfl (by kernel_rfl) (by kernel_rfl) (by kernel_rfl) (fun _ _ _ h => h) (Or.inl ⟨by rfl, ?_⟩) ?_
  · intro w; go_simp
  refine wpAny_take (i := 6) (v := .bool true) rfl (by kernel_rfl) (by kernel_rfl) (by kernel_rfl) (fun _ _ _ h => h) (Or.inl ⟨by rfl, ?_⟩) ?_
  · intro w; go_simp
  generalize hX : Act.put _ _ _ = X
  simp [Act.put] at hX
  subst hX
  -- PATHS
  refine wpAny_ready (rs := [7, 8]) (by kernel_rfl) (by simp) ?_
  refine AllReady.cons (o := ⟨some 25, .load 32 (.tmp 3), _, _, _, some (6, true)⟩) rfl (fun K hK => ?_) (AllReady.cons (o := ⟨some 26, .buildSlice 26 2 #[(0, .const (.int .u8 97)), (1, .const (.int .u8 98))], _, _, _, some (6, true)⟩) rfl (fun K hK => ?_) AllReady.nil)
  · refine step_of (by rfl) ?_
    refine wp_load_mid 32 (.tmp 3) rfl g4 0 rfl (bs D) _ (fun j v hv => by first | (simpa using hW0.blk.cell hv) | exact cell_later ((Below.refl _ _).alloc (Nat.le_refl _) _) (by simpa using hW0.blk.cell hv)) Tryd.underlying32 rfl HI.out ?_
    refine hK _ _ ?_
    clear hK K
    refine wpAny_ready (rs := [8]) (by kernel_rfl) (by simp) ?_
    refine AllReady.cons (o := ⟨some 26, .buildSlice 26 2 #[(0, .const (.int .u8 97)), (1, .const (.int .u8 98))], _, _, _, some (6, true)⟩) rfl (fun K hK => ?_) AllReady.nil
    · refine step_of (by rfl) ?_
      go_simp
      refine hK _ _ ?_
      clear hK K
      refine wpAny_ready (rs := [9]) (by kernel_rfl) (by simp) ?_
      refine AllReady.cons (o := ⟨some 27, .convert 26 26 (.tmp 26), _, _, _, some (6, true)⟩) rfl (fun K hK => ?_) AllReady.nil
      · refine step_of (by rfl) ?_
        go_simp
        refine hK _ _ ?_
        clear hK K
        refine wpAny_ready (rs := [10]) (by kernel_rfl) (by simp) ?_
        refine AllReady.cons (o := ⟨some 28, .call { callee := .value (.func 13), args := #[.tmp 27], argTypes := #[26] }, _, _, _, some (6, true)⟩) rfl (fun K hK => ?_) AllReady.nil
        · refine step_of (by rfl) ?_
          go_simp
          refine (WrAt.sum2 hW0 hT F2).mono ?_
          rintro e W2 ⟨rfl, hW2⟩
          refine hK _ _ ?_
          clear hK K
          refine wpAny_take (i := 11) (v := .bool true) rfl (by kernel_rfl) (by kernel_rfl) (by kernel_rfl) (fun _ _ _ h => h) (Or.inl ⟨by rfl, ?_⟩) ?_
          · intro w; have h := hq2.out w; go_simp
          refine wpAny_take (i := 12) (v := .bool true) rfl (by kernel_rfl) (by kernel_rfl) (by kernel_rfl) (fun _ _ _ h => h) (Or.inl ⟨by rfl, ?_⟩) ?_
          · intro w; go_simp
          refine wpAny_take (i := 13) (v := .bool true) rfl (by kernel_rfl) (by kernel_rfl) (by kernel_rfl) (fun _ _ _ h => h) (Or.inl ⟨by rfl, ?_⟩) ?_
          · intro w; go_simp
          refine wpAny_take (i := 14) (v := .pointer (some ⟨r, 0, none⟩)) rfl (by kernel_rfl) (by kernel_rfl) (by kernel_rfl) (fun _ _ _ h => h) (Or.inl ⟨by rfl, ?_⟩) ?_
          · intro w; go_simp
          generalize hX : Act.put _ _ _ = X
          simp [Act.put] at hX
          subst hX
          refine wpAny_ready (rs := [15, 16]) (by kernel_rfl) (by simp) ?_
          refine AllReady.cons (o := ⟨some 33, .call { callee := .value (.func 12), args := #[.tmp 32], argTypes := #[24] }, _, _, _, some (13, true)⟩) rfl (fun K hK => ?_) (AllReady.cons (o := ⟨some 34, .buildSlice 26 3 #[(0, .const (.int .u8 97)), (1, .const (.int .u8 98)), (2, .const (.int .u8 99))], _, _, _, some (13, true)⟩) rfl (fun K hK => ?_) AllReady.nil)
          · refine step_of (by rfl) ?_
            go_simp
            refine (F4.out _ _ _ hW2).mono ?_
            rintro e W4 ⟨rfl, hW4, hB4⟩
            refine hK _ _ ?_
            clear hK K
            refine wpAny_ready (rs := [16]) (by kernel_rfl) (by simp) ?_
            refine AllReady.cons (o := ⟨some 34, .buildSlice 26 3 #[(0, .const (.int .u8 97)), (1, .const (.int .u8 98)), (2, .const (.int .u8 99))], _, _, _, some (13, true)⟩) rfl (fun K hK => ?_) AllReady.nil
            · refine step_of (by rfl) ?_
              have hb := hW4.built
              go_simp
              refine hK _ _ ?_
              clear hK K
              generalize World.alloc _ _ = WA at hb ⊢
              generalize W4.heap.size = gA at hb ⊢
              obtain ⟨hWA, hgA, hA1, hA2, hA3⟩ := hb
              refine wpAny_ready (rs := [17]) (by kernel_rfl) (by simp) ?_
              refine AllReady.cons (o := ⟨some 35, .convert 26 26 (.tmp 34), _, _, _, some (13, true)⟩) rfl (fun K hK => ?_) AllReady.nil
              · obtain ⟨WC, hrun, hgC, hgr, hsz⟩ := run_convert_marks _ gA _ 3 3 hgA
                refine step_of (by rfl) ?_
                go_simp
                refine hK _ _ ?_
                clear hK K
                have hWC := hWA.marked hgr hA1 hA2 hA3
                have hRC : Rd WC (some ⟨gA, 0, none⟩) 3 3 [97, 98, 99] := Rd.block hgC rfl (by decide)
                refine wpAny_ready (rs := [18]) (by kernel_rfl) (by simp) ?_
                refine AllReady.cons (o := ⟨some 36, .call { callee := .value (.func 13), args := #[.tmp 35], argTypes := #[26] }, _, _, _, some (13, true)⟩) rfl (fun K hK => ?_) AllReady.nil
                · refine step_of (by rfl) ?_
                  go_simp
                  refine (F3.out _ _ hRC (hT.below hWC.bel)).mono ?_
                  rintro e W3 ⟨rfl, hB3⟩
                  refine hK _ _ ?_
                  clear hK K
                  have hW3 := hWC.below hB3
                  refine wpAny_take (i := 19) (v := .bool true) rfl (by kernel_rfl) (by kernel_rfl) (by kernel_rfl) (fun _ _ _ h => h) (Or.inl ⟨by rfl, ?_⟩) ?_
                  · intro w; have h := hq3.out w; go_simp
                  refine wpAny_take (i := 20) (v := .bool true) rfl (by kernel_rfl) (by kernel_rfl) (by kernel_rfl) (fun _ _ _ h => h) (Or.inl ⟨by rfl, ?_⟩) ?_
                  · intro w; go_simp
                  refine wpAny_take (i := 21) (v := .bool true) rfl (by kernel_rfl) (by kernel_rfl) (by kernel_rfl) (fun _ _ _ h => h) (Or.inl ⟨by rfl, ?_⟩) ?_
                  · intro w; go_simp
                  refine wpAny_take (i := 22) (v := .pointer (some ⟨r, 0, none⟩)) rfl (by kernel_rfl) (by kernel_rfl) (by kernel_rfl) (fun _ _ _ h => h) (Or.inl ⟨by rfl, ?_⟩) ?_
                  · intro w; go_simp
                  generalize hX : Act.put _ _ _ = X
                  simp [Act.put] at hX
                  subst hX
                  refine wpAny_ready (rs := [23]) (by kernel_rfl) (by simp) ?_
                  refine AllReady.cons (o := ⟨some 41, .call { callee := .value (.func 14), args := #[.tmp 40], argTypes := #[24] }, _, _, _, some (21, true)⟩) rfl (fun K hK => ?_) AllReady.nil
                  refine step_of (by rfl) ?_
                  go_simp
                  refine (len_any _ _ _ hW3.hash).mono ?_
                  rintro e W5 ⟨rfl, rfl⟩
                  refine hK _ _ ?_
                  clear hK K
                  refine wpAny_take (i := 24) (v := .bool true) rfl (by kernel_rfl) (by kernel_rfl) (by kernel_rfl) (fun _ _ _ h => h) (Or.inl ⟨by rfl, ?_⟩) ?_
                  · intro w; go_simp
                  refine wpAny_take (i := 25) (v := .bool true) rfl (by kernel_rfl) (by kernel_rfl) (by kernel_rfl) (fun _ _ _ h => h) (Or.inl ⟨by rfl, ?_⟩) ?_
                  · intro w; go_simp
                  refine wpAny_take (i := 26) (v := .bool true) rfl (by kernel_rfl) (by kernel_rfl) (by kernel_rfl) (fun _ _ _ h => h) (Or.inl ⟨by rfl, ?_⟩) ?_
                  · intro w; go_simp
                  generalize hX : Act.put _ _ _ = X
                  simp [Act.put] at hX
                  subst hX
                  refine wpAny_done (by kernel_rfl) ?_ _
                  go_wp2_with fail
                  go_ret
                  exact ⟨rfl, hW3.bel⟩
          · refine step_of (by rfl) ?_
            have hb := hW2.built
            go_simp
            refine hK _ _ ?_
            clear hK K
            generalize World.alloc _ _ = WA at hb ⊢
            generalize W2.heap.size = gA at hb ⊢
            obtain ⟨hWA, hgA, hA1, hA2, hA3⟩ := hb
            refine wpAny_ready (rs := [15, 17]) (by kernel_rfl) (by simp) ?_
            refine AllReady.cons (o := ⟨some 33, .call { callee := .value (.func 12), args := #[.tmp 32], argTypes := #[24] }, _, _, _, some (13, true)⟩) rfl (fun K hK => ?_) (AllReady.cons (o := ⟨some 35, .convert 26 26 (.tmp 34), _, _, _, some (13, true)⟩) rfl (fun K hK => ?_) AllReady.nil)
            · refine step_of (by rfl) ?_
              go_simp
              refine (F4.out _ _ _ hWA).mono ?_
              rintro e W4 ⟨rfl, hW4, hB4⟩
              refine hK _ _ ?_
              clear hK K
              have hg4x := (hB4.block gA (lt_of_block hgA)).trans hgA
              refine wpAny_ready (rs := [17]) (by kernel_rfl) (by simp) ?_
              refine AllReady.cons (o := ⟨some 35, .convert 26 26 (.tmp 34), _, _, _, some (13, true)⟩) rfl (fun K hK => ?_) AllReady.nil
              · obtain ⟨WC, hrun, hgC, hgr, hsz⟩ := run_convert_marks _ gA _ 3 3 hg4x
                refine step_of (by rfl) ?_
                go_simp
                refine hK _ _ ?_
                clear hK K
                have hWC := hW4.marked hgr hA1 hA2 hA3
                have hRC : Rd WC (some ⟨gA, 0, none⟩) 3 3 [97, 98, 99] := Rd.block hgC rfl (by decide)
                refine wpAny_ready (rs := [18]) (by kernel_rfl) (by simp) ?_
                refine AllReady.cons (o := ⟨some 36, .call { callee := .value (.func 13), args := #[.tmp 35], argTypes := #[26] }, _, _, _, some (13, true)⟩) rfl (fun K hK => ?_) AllReady.nil
                · refine step_of (by rfl) ?_
                  go_simp
                  refine (F3.out _ _ hRC (hT.below hWC.bel)).mono ?_
                  rintro e W3 ⟨rfl, hB3⟩
                  refine hK _ _ ?_
                  clear hK K
                  have hW3 := hWC.below hB3
                  refine wpAny_take (i := 19) (v := .bool true) rfl (by kernel_rfl) (by kernel_rfl) (by kernel_rfl) (fun _ _ _ h => h) (Or.inl ⟨by rfl, ?_⟩) ?_
                  · intro w; have h := hq3.out w; go_simp
                  refine wpAny_take (i := 20) (v := .bool true) rfl (by kernel_rfl) (by kernel_rfl) (by kernel_rfl) (fun _ _ _ h => h) (Or.inl ⟨by rfl, ?_⟩) ?_
                  · intro w; go_simp
                  refine wpAny_take (i := 21) (v := .bool true) rfl (by kernel_rfl) (by kernel_rfl) (by kernel_rfl) (fun _ _ _ h => h) (Or.inl ⟨by rfl, ?_⟩) ?_
                  · intro w; go_simp
                  refine wpAny_take (i := 22) (v := .pointer (some ⟨r, 0, none⟩)) rfl (by kernel_rfl) (by kernel_rfl) (by kernel_rfl) (fun _ _ _ h => h) (Or.inl ⟨by rfl, ?_⟩) ?_
                  · intro w; go_simp
                  generalize hX : Act.put _ _ _ = X
                  simp [Act.put] at hX
                  subst hX
                  refine wpAny_ready (rs := [23]) (by kernel_rfl) (by simp) ?_
                  refine AllReady.cons (o := ⟨some 41, .call { callee := .value (.func 14), args := #[.tmp 40], argTypes := #[24] }, _, _, _, some (21, true)⟩) rfl (fun K hK => ?_) AllReady.nil
                  refine step_of (by rfl) ?_
                  go_simp
                  refine (len_any _ _ _ hW3.hash).mono ?_
                  rintro e W5 ⟨rfl, rfl⟩
                  refine hK _ _ ?_
                  clear hK K
                  refine wpAny_take (i := 24) (v := .bool true) rfl (by kernel_rfl) (by kernel_rfl) (by kernel_rfl) (fun _ _ _ h => h) (Or.inl ⟨by rfl, ?_⟩) ?_
                  · intro w; go_simp
                  refine wpAny_take (i := 25) (v := .bool true) rfl (by kernel_rfl) (by kernel_rfl) (by kernel_rfl) (fun _ _ _ h => h) (Or.inl ⟨by rfl, ?_⟩) ?_
                  · intro w; go_simp
                  refine wpAny_take (i := 26) (v := .bool true) rfl (by kernel_rfl) (by kernel_rfl) (by kernel_rfl) (fun _ _ _ h => h) (Or.inl ⟨by rfl, ?_⟩) ?_
                  · intro w; go_simp
                  generalize hX : Act.put _ _ _ = X
                  simp [Act.put] at hX
                  subst hX
                  refine wpAny_done (by kernel_rfl) ?_ _
                  go_wp2_with fail
                  go_ret
                  exact ⟨rfl, hW3.bel⟩
            · obtain ⟨WC, hrun, hgC, hgr, hsz⟩ := run_convert_marks _ gA _ 3 3 hgA
              refine step_of (by rfl) ?_
              go_simp
              refine hK _ _ ?_
              clear hK K
              have hWC := hWA.marked hgr hA1 hA2 hA3
              have hRC : Rd WC (some ⟨gA, 0, none⟩) 3 3 [97, 98, 99] := Rd.block hgC rfl (by decide)
              refine wpAny_ready (rs := [15]) (by kernel_rfl) (by simp) ?_
              refine AllReady.cons (o := ⟨some 33, .call { callee := .value (.func 12), args := #[.tmp 32], argTypes := #[24] }, _, _, _, some (13, true)⟩) rfl (fun K hK => ?_) AllReady.nil
              · refine step_of (by rfl) ?_
                go_simp
                refine (F4.out _ _ _ hWC).mono ?_
                rintro e W4 ⟨rfl, hW4, hB4⟩
                refine hK _ _ ?_
                clear hK K
                have hR4 := hRC.below hB4
                refine wpAny_ready (rs := [18]) (by kernel_rfl) (by simp) ?_
                refine AllReady.cons (o := ⟨some 36, .call { callee := .value (.func 13), args := #[.tmp 35], argTypes := #[26] }, _, _, _, some (13, true)⟩) rfl (fun K hK => ?_) AllReady.nil
                · refine step_of (by rfl) ?_
                  go_simp
                  refine (F3.out _ _ hR4 (hT.below hW4.bel)).mono ?_
                  rintro e W3 ⟨rfl, hB3⟩
                  refine hK _ _ ?_
                  clear hK K
                  have hW3 := hW4.below hB3
                  refine wpAny_take (i := 19) (v := .bool true) rfl (by kernel_rfl) (by kernel_rfl) (by kernel_rfl) (fun _ _ _ h => h) (Or.inl ⟨by rfl, ?_⟩) ?_
                  · intro w; have h := hq3.out w; go_simp
                  refine wpAny_take (i := 20) (v := .bool true) rfl (by kernel_rfl) (by kernel_rfl) (by kernel_rfl) (fun _ _ _ h => h) (Or.inl ⟨by rfl, ?_⟩) ?_
                  · intro w; go_simp
                  refine wpAny_take (i := 21) (v := .bool true) rfl (by kernel_rfl) (by kernel_rfl) (by kernel_rfl) (fun _ _ _ h => h) (Or.inl ⟨by rfl, ?_⟩) ?_
                  · intro w; go_simp
                  refine wpAny_take (i := 22) (v := .pointer (some ⟨r, 0, none⟩)) rfl (by kernel_rfl) (by kernel_rfl) (by kernel_rfl) (fun _ _ _ h => h) (Or.inl ⟨by rfl, ?_⟩) ?_
                  · intro w; go_simp
                  generalize hX : Act.put _ _ _ = X
                  simp [Act.put] at hX
                  subst hX
                  refine wpAny_ready (rs := [23]) (by kernel_rfl) (by simp) ?_
                  refine AllReady.cons (o := ⟨some 41, .call { callee := .value (.func 14), args := #[.tmp 40], argTypes := #[24] }, _, _, _, some (21, true)⟩) rfl (fun K hK => ?_) AllReady.nil
                  refine step_of (by rfl) ?_
                  go_simp
                  refine (len_any _ _ _ hW3.hash).mono ?_
                  rintro e W5 ⟨rfl, rfl⟩
                  refine hK _ _ ?_
                  clear hK K
                  refine wpAny_take (i := 24) (v := .bool true) rfl (by kernel_rfl) (by kernel_rfl) (by kernel_rfl) (fun _ _ _ h => h) (Or.inl ⟨by rfl, ?_⟩) ?_
                  · intro w; go_simp
                  refine wpAny_take (i := 25) (v := .bool true) rfl (by kernel_rfl) (by kernel_rfl) (by kernel_rfl) (fun _ _ _ h => h) (Or.inl ⟨by rfl, ?_⟩) ?_
                  · intro w; go_simp
                  refine wpAny_take (i := 26) (v := .bool true) rfl (by kernel_rfl) (by kernel_rfl) (by kernel_rfl) (fun _ _ _ h => h) (Or.inl ⟨by rfl, ?_⟩) ?_
                  · intro w; go_simp
                  generalize hX : Act.put _ _ _ = X
                  simp [Act.put] at hX
                  subst hX
                  refine wpAny_done (by kernel_rfl) ?_ _
                  go_wp2_with fail
                  go_ret
                  exact ⟨rfl, hW3.bel⟩
  · refine step_of (by rfl) ?_
    go_simp
    refine hK _ _ ?_
    clear hK K
    refine wpAny_ready (rs := [7, 9]) (by kernel_rfl) (by simp) ?_
    refine AllReady.cons (o := ⟨some 25, .load 32 (.tmp 3), _, _, _, some (6, true)⟩) rfl (fun K hK => ?_) (AllReady.cons (o := ⟨some 27, .convert 26 26 (.tmp 26), _, _, _, some (6, true)⟩) rfl (fun K hK => ?_) AllReady.nil)
    · refine step_of (by rfl) ?_
      refine wp_load_mid 32 (.tmp 3) rfl g4 0 rfl (bs D) _ (fun j v hv => by first | (simpa using hW0.blk.cell hv) | exact cell_later ((Below.refl _ _).alloc (Nat.le_refl _) _) (by simpa using hW0.blk.cell hv)) Tryd.underlying32 rfl HI.out ?_
      refine hK _ _ ?_
      clear hK K
      refine wpAny_ready (rs := [9]) (by kernel_rfl) (by simp) ?_
      refine AllReady.cons (o := ⟨some 27, .convert 26 26 (.tmp 26), _, _, _, some (6, true)⟩) rfl (fun K hK => ?_) AllReady.nil
      · refine step_of (by rfl) ?_
        go_simp
        refine hK _ _ ?_
        clear hK K
        refine wpAny_ready (rs := [10]) (by kernel_rfl) (by simp) ?_
        refine AllReady.cons (o := ⟨some 28, .call { callee := .value (.func 13), args := #[.tmp 27], argTypes := #[26] }, _, _, _, some (6, true)⟩) rfl (fun K hK => ?_) AllReady.nil
        · refine step_of (by rfl) ?_
          go_simp
          refine (WrAt.sum2 hW0 hT F2).mono ?_
          rintro e W2 ⟨rfl, hW2⟩
          refine hK _ _ ?_
          clear hK K
          refine wpAny_take (i := 11) (v := .bool true) rfl (by kernel_rfl) (by kernel_rfl) (by kernel_rfl) (fun _ _ _ h => h) (Or.inl ⟨by rfl, ?_⟩) ?_
          · intro w; have h := hq2.out w; go_simp
          refine wpAny_take (i := 12) (v := .bool true) rfl (by kernel_rfl) (by kernel_rfl) (by kernel_rfl) (fun _ _ _ h => h) (Or.inl ⟨by rfl, ?_⟩) ?_
          · intro w; go_simp
          refine wpAny_take (i := 13) (v := .bool true) rfl (by kernel_rfl) (by kernel_rfl) (by kernel_rfl) (fun _ _ _ h => h) (Or.inl ⟨by rfl, ?_⟩) ?_
          · intro w; go_simp
          refine wpAny_take (i := 14) (v := .pointer (some ⟨r, 0, none⟩)) rfl (by kernel_rfl) (by kernel_rfl) (by kernel_rfl) (fun _ _ _ h => h) (Or.inl ⟨by rfl, ?_⟩) ?_
          · intro w; go_simp
          generalize hX : Act.put _ _ _ = X
          simp [Act.put] at hX
          subst hX
          refine wpAny_ready (rs := [15, 16]) (by kernel_rfl) (by simp) ?_
          refine AllReady.cons (o := ⟨some 33, .call { callee := .value (.func 12), args := #[.tmp 32], argTypes := #[24] }, _, _, _, some (13, true)⟩) rfl (fun K hK => ?_) (AllReady.cons (o := ⟨some 34, .buildSlice 26 3 #[(0, .const (.int .u8 97)), (1, .const (.int .u8 98)), (2, .const (.int .u8 99))], _, _, _, some (13, true)⟩) rfl (fun K hK => ?_) AllReady.nil)
          · refine step_of (by rfl) ?_
            go_simp
            refine (F4.out _ _ _ hW2).mono ?_
            rintro e W4 ⟨rfl, hW4, hB4⟩
            refine hK _ _ ?_
            clear hK K
            refine wpAny_ready (rs := [16]) (by kernel_rfl) (by simp) ?_
            refine AllReady.cons (o := ⟨some 34, .buildSlice 26 3 #[(0, .const (.int .u8 97)), (1, .const (.int .u8 98)), (2, .const (.int .u8 99))], _, _, _, some (13, true)⟩) rfl (fun K hK => ?_) AllReady.nil
            · refine step_of (by rfl) ?_
              have hb := hW4.built
              go_simp
              refine hK _ _ ?_
              clear hK K
              generalize World.alloc _ _ = WA at hb ⊢
              generalize W4.heap.size = gA at hb ⊢
              obtain ⟨hWA, hgA, hA1, hA2, hA3⟩ := hb
              refine wpAny_ready (rs := [17]) (by kernel_rfl) (by simp) ?_
              refine AllReady.cons (o := ⟨some 35, .convert 26 26 (.tmp 34), _, _, _, some (13, true)⟩) rfl (fun K hK => ?_) AllReady.nil
              · obtain ⟨WC, hrun, hgC, hgr, hsz⟩ := run_convert_marks _ gA _ 3 3 hgA
                refine step_of (by rfl) ?_
                go_simp
                refine hK _ _ ?_
                clear hK K
                have hWC := hWA.marked hgr hA1 hA2 hA3
                have hRC : Rd WC (some ⟨gA, 0, none⟩) 3 3 [97, 98, 99] := Rd.block hgC rfl (by decide)
                refine wpAny_ready (rs := [18]) (by kernel_rfl) (by simp) ?_
                refine AllReady.cons (o := ⟨some 36, .call { callee := .value (.func 13), args := #[.tmp 35], argTypes := #[26] }, _, _, _, some (13, true)⟩) rfl (fun K hK => ?_) AllReady.nil
                · refine step_of (by rfl) ?_
                  go_simp
                  refine (F3.out _ _ hRC (hT.below hWC.bel)).mono ?_
                  rintro e W3 ⟨rfl, hB3⟩
                  refine hK _ _ ?_
                  clear hK K
                  have hW3 := hWC.below hB3
                  refine wpAny_take (i := 19) (v := .bool true) rfl (by kernel_rfl) (by kernel_rfl) (by kernel_rfl) (fun _ _ _ h => h) (Or.inl ⟨by rfl, ?_⟩) ?_
                  · intro w; have h := hq3.out w; go_simp
                  refine wpAny_take (i := 20) (v := .bool true) rfl (by kernel_rfl) (by kernel_rfl) (by kernel_rfl) (fun _ _ _ h => h) (Or.inl ⟨by rfl, ?_⟩) ?_
                  · intro w; go_simp
                  refine wpAny_take (i := 21) (v := .bool true) rfl (by kernel_rfl) (by kernel_rfl) (by kernel_rfl) (fun _ _ _ h => h) (Or.inl ⟨by rfl, ?_⟩) ?_
                  · intro w; go_simp
                  refine wpAny_take (i := 22) (v := .pointer (some ⟨r, 0, none⟩)) rfl (by kernel_rfl) (by kernel_rfl) (by kernel_rfl) (fun _ _ _ h => h) (Or.inl ⟨by rfl, ?_⟩) ?_
                  · intro w; go_simp
                  generalize hX : Act.put _ _ _ = X
                  simp [Act.put] at hX
                  subst hX
                  refine wpAny_ready (rs := [23]) (by kernel_rfl) (by simp) ?_
                  refine AllReady.cons (o := ⟨some 41, .call { callee := .value (.func 14), args := #[.tmp 40], argTypes := #[24] }, _, _, _, some (21, true)⟩) rfl (fun K hK => ?_) AllReady.nil
                  refine step_of (by rfl) ?_
                  go_simp
                  refine (len_any _ _ _ hW3.hash).mono ?_
                  rintro e W5 ⟨rfl, rfl⟩
                  refine hK _ _ ?_
                  clear hK K
                  refine wpAny_take (i := 24) (v := .bool true) rfl (by kernel_rfl) (by kernel_rfl) (by kernel_rfl) (fun _ _ _ h => h) (Or.inl ⟨by rfl, ?_⟩) ?_
                  · intro w; go_simp
                  refine wpAny_take (i := 25) (v := .bool true) rfl (by kernel_rfl) (by kernel_rfl) (by kernel_rfl) (fun _ _ _ h => h) (Or.inl ⟨by rfl, ?_⟩) ?_
                  · intro w; go_simp
                  refine wpAny_take (i := 26) (v := .bool true) rfl (by kernel_rfl) (by kernel_rfl) (by kernel_rfl) (fun _ _ _ h => h) (Or.inl ⟨by rfl, ?_⟩) ?_
                  · intro w; go_simp
                  generalize hX : Act.put _ _ _ = X
                  simp [Act.put] at hX
                  subst hX
                  refine wpAny_done (by kernel_rfl) ?_ _
                  go_wp2_with fail
                  go_ret
                  exact ⟨rfl, hW3.bel⟩
          · refine step_of (by rfl) ?_
            have hb := hW2.built
            go_simp
            refine hK _ _ ?_
            clear hK K
            generalize World.alloc _ _ = WA at hb ⊢
            generalize W2.heap.size = gA at hb ⊢
            obtain ⟨hWA, hgA, hA1, hA2, hA3⟩ := hb
            refine wpAny_ready (rs := [15, 17]) (by kernel_rfl) (by simp) ?_
            refine AllReady.cons (o := ⟨some 33, .call { callee := .value (.func 12), args := #[.tmp 32], argTypes := #[24] }, _, _, _, some (13, true)⟩) rfl (fun K hK => ?_) (AllReady.cons (o := ⟨some 35, .convert 26 26 (.tmp 34), _, _, _, some (13, true)⟩) rfl (fun K hK => ?_) AllReady.nil)
            · refine step_of (by rfl) ?_
              go_simp
              refine (F4.out _ _ _ hWA).mono ?_
              rintro e W4 ⟨rfl, hW4, hB4⟩
              refine hK _ _ ?_
              clear hK K
              have hg4x := (hB4.block gA (lt_of_block hgA)).trans hgA
              refine wpAny_ready (rs := [17]) (by kernel_rfl) (by simp) ?_
              refine AllReady.cons (o := ⟨some 35, .convert 26 26 (.tmp 34), _, _, _, some (13, true)⟩) rfl (fun K hK => ?_) AllReady.nil
              · obtain ⟨WC, hrun, hgC, hgr, hsz⟩ := run_convert_marks _ gA _ 3 3 hg4x
                refine step_of (by rfl) ?_
                go_simp
                refine hK _ _ ?_
                clear hK K
                have hWC := hW4.marked hgr hA1 hA2 hA3
                have hRC : Rd WC (some ⟨gA, 0, none⟩) 3 3 [97, 98, 99] := Rd.block hgC rfl (by decide)
                refine wpAny_ready (rs := [18]) (by kernel_rfl) (by simp) ?_
                refine AllReady.cons (o := ⟨some 36, .call { callee := .value (.func 13), args := #[.tmp 35], argTypes := #[26] }, _, _, _, some (13, true)⟩) rfl (fun K hK => ?_) AllReady.nil
                · refine step_of (by rfl) ?_
                  go_simp
                  refine (F3.out _ _ hRC (hT.below hWC.bel)).mono ?_
                  rintro e W3 ⟨rfl, hB3⟩
                  refine hK _ _ ?_
                  clear hK K
                  have hW3 := hWC.below hB3
                  refine wpAny_take (i := 19) (v := .bool true) rfl (by kernel_rfl) (by kernel_rfl) (by kernel_rfl) (fun _ _ _ h => h) (Or.inl ⟨by rfl, ?_⟩) ?_
                  · intro w; have h := hq3.out w; go_simp
                  refine wpAny_take (i := 20) (v := .bool true) rfl (by kernel_rfl) (by kernel_rfl) (by kernel_rfl) (fun _ _ _ h => h) (Or.inl ⟨by rfl, ?_⟩) ?_
                  · intro w; go_simp
                  refine wpAny_take (i := 21) (v := .bool true) rfl (by kernel_rfl) (by kernel_rfl) (by kernel_rfl) (fun _ _ _ h => h) (Or.inl ⟨by rfl, ?_⟩) ?_
                  · intro w; go_simp
                  refine wpAny_take (i := 22) (v := .pointer (some ⟨r, 0, none⟩)) rfl (by kernel_rfl) (by kernel_rfl) (by kernel_rfl) (fun _ _ _ h => h) (Or.inl ⟨by rfl, ?_⟩) ?_
                  · intro w; go_simp
                  generalize hX : Act.put _ _ _ = X
                  simp [Act.put] at hX
                  subst hX
                  refine wpAny_ready (rs := [23]) (by kernel_rfl) (by simp) ?_
                  refine AllReady.cons (o := ⟨some 41, .call { callee := .value (.func 14), args := #[.tmp 40], argTypes := #[24] }, _, _, _, some (21, true)⟩) rfl (fun K hK => ?_) AllReady.nil
                  refine step_of (by rfl) ?_
                  go_simp
                  refine (len_any _ _ _ hW3.hash).mono ?_
                  rintro e W5 ⟨rfl, rfl⟩
                  refine hK _ _ ?_
                  clear hK K
                  refine wpAny_take (i := 24) (v := .bool true) rfl (by kernel_rfl) (by kernel_rfl) (by kernel_rfl) (fun _ _ _ h => h) (Or.inl ⟨by rfl, ?_⟩) ?_
                  · intro w; go_simp
                  refine wpAny_take (i := 25) (v := .bool true) rfl (by kernel_rfl) (by kernel_rfl) (by kernel_rfl) (fun _ _ _ h => h) (Or.inl ⟨by rfl, ?_⟩) ?_
                  · intro w; go_simp
                  refine wpAny_take (i := 26) (v := .bool true) rfl (by kernel_rfl) (by kernel_rfl) (by kernel_rfl) (fun _ _ _ h => h) (Or.inl ⟨by rfl, ?_⟩) ?_
                  · intro w; go_simp
                  generalize hX : Act.put _ _ _ = X
                  simp [Act.put] at hX
                  subst hX
                  refine wpAny_done (by kernel_rfl) ?_ _
                  go_wp2_with fail
                  go_ret
                  exact ⟨rfl, hW3.bel⟩
            · obtain ⟨WC, hrun, hgC, hgr, hsz⟩ := run_convert_marks _ gA _ 3 3 hgA
              refine step_of (by rfl) ?_
              go_simp
              refine hK _ _ ?_
              clear hK K
              have hWC := hWA.marked hgr hA1 hA2 hA3
              have hRC : Rd WC (some ⟨gA, 0, none⟩) 3 3 [97, 98, 99] := Rd.block hgC rfl (by decide)
              refine wpAny_ready (rs := [15]) (by kernel_rfl) (by simp) ?_
              refine AllReady.cons (o := ⟨some 33, .call { callee := .value (.func 12), args := #[.tmp 32], argTypes := #[24] }, _, _, _, some (13, true)⟩) rfl (fun K hK => ?_) AllReady.nil
              · refine step_of (by rfl) ?_
                go_simp
                refine (F4.out _ _ _ hWC).mono ?_
                rintro e W4 ⟨rfl, hW4, hB4⟩
                refine hK _ _ ?_
                clear hK K
                have hR4 := hRC.below hB4
                refine wpAny_ready (rs := [18]) (by kernel_rfl) (by simp) ?_
                refine AllReady.cons (o := ⟨some 36, .call { callee := .value (.func 13), args := #[.tmp 35], argTypes := #[26] }, _, _, _, some (13, true)⟩) rfl (fun K hK => ?_) AllReady.nil
                · refine step_of (by rfl) ?_
                  go_simp
                  refine (F3.out _ _ hR4 (hT.below hW4.bel)).mono ?_
                  rintro e W3 ⟨rfl, hB3⟩
                  refine hK _ _ ?_
                  clear hK K
                  have hW3 := hW4.below hB3
                  refine wpAny_take (i := 19) (v := .bool true) rfl (by kernel_rfl) (by kernel_rfl) (by kernel_rfl) (fun _ _ _ h => h) (Or.inl ⟨by rfl, ?_⟩) ?_
                  · intro w; have h := hq3.out w; go_simp
                  refine wpAny_take (i := 20) (v := .bool true) rfl (by kernel_rfl) (by kernel_rfl) (by kernel_rfl) (fun _ _ _ h => h) (Or.inl ⟨by rfl, ?_⟩) ?_
                  · intro w; go_simp
                  refine wpAny_take (i := 21) (v := .bool true) rfl (by kernel_rfl) (by kernel_rfl) (by kernel_rfl) (fun _ _ _ h => h) (Or.inl ⟨by rfl, ?_⟩) ?_
                  · intro w; go_simp
                  refine wpAny_take (i := 22) (v := .pointer (some ⟨r, 0, none⟩)) rfl (by kernel_rfl) (by kernel_rfl) (by kernel_rfl) (fun _ _ _ h => h) (Or.inl ⟨by rfl, ?_⟩) ?_
                  · intro w; go_simp
                  generalize hX : Act.put _ _ _ = X
                  simp [Act.put] at hX
                  subst hX
                  refine wpAny_ready (rs := [23]) (by kernel_rfl) (by simp) ?_
                  refine AllReady.cons (o := ⟨some 41, .call { callee := .value (.func 14), args := #[.tmp 40], argTypes := #[24] }, _, _, _, some (21, true)⟩) rfl (fun K hK => ?_) AllReady.nil
                  refine step_of (by rfl) ?_
                  go_simp
                  refine (len_any _ _ _ hW3.hash).mono ?_
                  rintro e W5 ⟨rfl, rfl⟩
                  refine hK _ _ ?_
                  clear hK K
                  refine wpAny_take (i := 24) (v := .bool true) rfl (by kernel_rfl) (by kernel_rfl) (by kernel_rfl) (fun _ _ _ h => h) (Or.inl ⟨by rfl, ?_⟩) ?_
                  · intro w; go_simp
                  refine wpAny_take (i := 25) (v := .bool true) rfl (by kernel_rfl) (by kernel_rfl) (by kernel_rfl) (fun _ _ _ h => h) (Or.inl ⟨by rfl, ?_⟩) ?_
                  · intro w; go_simp
                  refine wpAny_take (i := 26) (v := .bool true) rfl (by kernel_rfl) (by kernel_rfl) (by kernel_rfl) (fun _ _ _ h => h) (Or.inl ⟨by rfl, ?_⟩) ?_
                  · intro w; go_simp
                  generalize hX : Act.put _ _ _ = X
                  simp [Act.put] at hX
                  subst hX
                  refine wpAny_done (by kernel_rfl) ?_ _
                  go_wp2_with fail
                  go_ret
                  exact ⟨rfl, hW3.bel⟩
    · refine step_of (by rfl) ?_
      go_simp
      refine hK _ _ ?_
      clear hK K
      refine wpAny_ready (rs := [7, 10]) (by kernel_rfl) (by simp) ?_
      refine AllReady.cons (o := ⟨some 25, .load 32 (.tmp 3), _, _, _, some (6, true)⟩) rfl (fun K hK => ?_) (AllReady.cons (o := ⟨some 28, .call { callee := .value (.func 13), args := #[.tmp 27], argTypes := #[26] }, _, _, _, some (6, true)⟩) rfl (fun K hK => ?_) AllReady.nil)
      · refine step_of (by rfl) ?_
        refine wp_load_mid 32 (.tmp 3) rfl g4 0 rfl (bs D) _ (fun j v hv => by first | (simpa using hW0.blk.cell hv) | exact cell_later ((Below.refl _ _).alloc (Nat.le_refl _) _) (by simpa using hW0.blk.cell hv)) Tryd.underlying32 rfl HI.out ?_
        refine hK _ _ ?_
        clear hK K
        refine wpAny_ready (rs := [10]) (by kernel_rfl) (by simp) ?_
        refine AllReady.cons (o := ⟨some 28, .call { callee := .value (.func 13), args := #[.tmp 27], argTypes := #[26] }, _, _, _, some (6, true)⟩) rfl (fun K hK => ?_) AllReady.nil
        · refine step_of (by rfl) ?_
          go_simp
          refine (WrAt.sum2 hW0 hT F2).mono ?_
          rintro e W2 ⟨rfl, hW2⟩
          refine hK _ _ ?_
          clear hK K
          refine wpAny_take (i := 11) (v := .bool true) rfl (by kernel_rfl) (by kernel_rfl) (by kernel_rfl) (fun _ _ _ h => h) (Or.inl ⟨by rfl, ?_⟩) ?_
          · intro w; have h := hq2.out w; go_simp
          refine wpAny_take (i := 12) (v := .bool true) rfl (by kernel_rfl) (by kernel_rfl) (by kernel_rfl) (fun _ _ _ h => h) (Or.inl ⟨by rfl, ?_⟩) ?_
          · intro w; go_simp
          refine wpAny_take (i := 13) (v := .bool true) rfl (by kernel_rfl) (by kernel_rfl) (by kernel_rfl) (fun _ _ _ h => h) (Or.inl ⟨by rfl, ?_⟩) ?_
          · intro w; go_simp
          refine wpAny_take (i := 14) (v := .pointer (some ⟨r, 0, none⟩)) rfl (by kernel_rfl) (by kernel_rfl) (by kernel_rfl) (fun _ _ _ h => h) (Or.inl ⟨by rfl, ?_⟩) ?_
          · intro w; go_simp
          generalize hX : Act.put _ _ _ = X
          simp [Act.put] at hX
          subst hX
          refine wpAny_ready (rs := [15, 16]) (by kernel_rfl) (by simp) ?_
          refine AllReady.cons (o := ⟨some 33, .call { callee := .value (.func 12), args := #[.tmp 32], argTypes := #[24] }, _, _, _, some (13, true)⟩) rfl (fun K hK => ?_) (AllReady.cons (o := ⟨some 34, .buildSlice 26 3 #[(0, .const (.int .u8 97)), (1, .const (.int .u8 98)), (2, .const (.int .u8 99))], _, _, _, some (13, true)⟩) rfl (fun K hK => ?_) AllReady.nil)
          · refine step_of (by rfl) ?_
            go_simp
            refine (F4.out _ _ _ hW2).mono ?_
            rintro e W4 ⟨rfl, hW4, hB4⟩
            refine hK _ _ ?_
            clear hK K
            refine wpAny_ready (rs := [16]) (by kernel_rfl) (by simp) ?_
            refine AllReady.cons (o := ⟨some 34, .buildSlice 26 3 #[(0, .const (.int .u8 97)), (1, .const (.int .u8 98)), (2, .const (.int .u8 99))], _, _, _, some (13, true)⟩) rfl (fun K hK => ?_) AllReady.nil
            · refine step_of (by rfl) ?_
              have hb := hW4.built
              go_simp
              refine hK _ _ ?_
              clear hK K
              generalize World.alloc _ _ = WA at hb ⊢
              generalize W4.heap.size = gA at hb ⊢
              obtain ⟨hWA, hgA, hA1, hA2, hA3⟩ := hb
              refine wpAny_ready (rs := [17]) (by kernel_rfl) (by simp) ?_
              refine AllReady.cons (o := ⟨some 35, .convert 26 26 (.tmp 34), _, _, _, some (13, true)⟩) rfl (fun K hK => ?_) AllReady.nil
              · obtain ⟨WC, hrun, hgC, hgr, hsz⟩ := run_convert_marks _ gA _ 3 3 hgA
                refine step_of (by rfl) ?_
                go_simp
                refine hK _ _ ?_
                clear hK K
                have hWC := hWA.marked hgr hA1 hA2 hA3
                have hRC : Rd WC (some ⟨gA, 0, none⟩) 3 3 [97, 98, 99] := Rd.block hgC rfl (by decide)
                refine wpAny_ready (rs := [18]) (by kernel_rfl) (by simp) ?_
                refine AllReady.cons (o := ⟨some 36, .call { callee := .value (.func 13), args := #[.tmp 35], argTypes := #[26] }, _, _, _, some (13, true)⟩) rfl (fun K hK => ?_) AllReady.nil
                · refine step_of (by rfl) ?_
                  go_simp
                  refine (F3.out _ _ hRC (hT.below hWC.bel)).mono ?_
                  rintro e W3 ⟨rfl, hB3⟩
                  refine hK _ _ ?_
                  clear hK K
                  have hW3 := hWC.below hB3
                  refine wpAny_take (i := 19) (v := .bool true) rfl (by kernel_rfl) (by kernel_rfl) (by kernel_rfl) (fun _ _ _ h => h) (Or.inl ⟨by rfl, ?_⟩) ?_
                  · intro w; have h := hq3.out w; go_simp
                  refine wpAny_take (i := 20) (v := .bool true) rfl (by kernel_rfl) (by kernel_rfl) (by kernel_rfl) (fun _ _ _ h => h) (Or.inl ⟨by rfl, ?_⟩) ?_
                  · intro w; go_simp
                  refine wpAny_take (i := 21) (v := .bool true) rfl (by kernel_rfl) (by kernel_rfl) (by kernel_rfl) (fun _ _ _ h => h) (Or.inl ⟨by rfl, ?_⟩) ?_
                  · intro w; go_simp
                  refine wpAny_take (i := 22) (v := .pointer (some ⟨r, 0, none⟩)) rfl (by kernel_rfl) (by kernel_rfl) (by kernel_rfl) (fun _ _ _ h => h) (Or.inl ⟨by rfl, ?_⟩) ?_
                  · intro w; go_simp
                  generalize hX : Act.put _ _ _ = X
                  simp [Act.put] at hX
                  subst hX
                  refine wpAny_ready (rs := [23]) (by kernel_rfl) (by simp) ?_
                  refine AllReady.cons (o := ⟨some 41, .call { callee := .value (.func 14), args := #[.tmp 40], argTypes := #[24] }, _, _, _, some (21, true)⟩) rfl (fun K hK => ?_) AllReady.nil
                  refine step_of (by rfl) ?_
                  go_simp
                  refine (len_any _ _ _ hW3.hash).mono ?_
                  rintro e W5 ⟨rfl, rfl⟩
                  refine hK _ _ ?_
                  clear hK K
                  refine wpAny_take (i := 24) (v := .bool true) rfl (by kernel_rfl) (by kernel_rfl) (by kernel_rfl) (fun _ _ _ h => h) (Or.inl ⟨by rfl, ?_⟩) ?_
                  · intro w; go_simp
                  refine wpAny_take (i := 25) (v := .bool true) rfl (by kernel_rfl) (by kernel_rfl) (by kernel_rfl) (fun _ _ _ h => h) (Or.inl ⟨by rfl, ?_⟩) ?_
                  · intro w; go_simp
                  refine wpAny_take (i := 26) (v := .bool true) rfl (by kernel_rfl) (by kernel_rfl) (by kernel_rfl) (fun _ _ _ h => h) (Or.inl ⟨by rfl, ?_⟩) ?_
                  · intro w; go_simp
                  generalize hX : Act.put _ _ _ = X
                  simp [Act.put] at hX
                  subst hX
                  refine wpAny_done (by kernel_rfl) ?_ _
                  go_wp2_with fail
                  go_ret
                  exact ⟨rfl, hW3.bel⟩
          · refine step_of (by rfl) ?_
            have hb := hW2.built
            go_simp
            refine hK _ _ ?_
            clear hK K
            generalize World.alloc _ _ = WA at hb ⊢
            generalize W2.heap.size = gA at hb ⊢
            obtain ⟨hWA, hgA, hA1, hA2, hA3⟩ := hb
            refine wpAny_ready (rs := [15, 17]) (by kernel_rfl) (by simp) ?_
            refine AllReady.cons (o := ⟨some 33, .call { callee := .value (.func 12), args := #[.tmp 32], argTypes := #[24] }, _, _, _, some (13, true)⟩) rfl (fun K hK => ?_) (AllReady.cons (o := ⟨some 35, .convert 26 26 (.tmp 34), _, _, _, some (13, true)⟩) rfl (fun K hK => ?_) AllReady.nil)
            · refine step_of (by rfl) ?_
              go_simp
              refine (F4.out _ _ _ hWA).mono ?_
              rintro e W4 ⟨rfl, hW4, hB4⟩
              refine hK _ _ ?_
              clear hK K
              have hg4x := (hB4.block gA (lt_of_block hgA)).trans hgA
              refine wpAny_ready (rs := [17]) (by kernel_rfl) (by simp) ?_
              refine AllReady.cons (o := ⟨some 35, .convert 26 26 (.tmp 34), _, _, _, some (13, true)⟩) rfl (fun K hK => ?_) AllReady.nil
              · obtain ⟨WC, hrun, hgC, hgr, hsz⟩ := run_convert_marks _ gA _ 3 3 hg4x
                refine step_of (by rfl) ?_
                go_simp
                refine hK _ _ ?_
                clear hK K
                have hWC := hW4.marked hgr hA1 hA2 hA3
                have hRC : Rd WC (some ⟨gA, 0, none⟩) 3 3 [97, 98, 99] := Rd.block hgC rfl (by decide)
                refine wpAny_ready (rs := [18]) (by kernel_rfl) (by simp) ?_
                refine AllReady.cons (o := ⟨some 36, .call { callee := .value (.func 13), args := #[.tmp 35], argTypes := #[26] }, _, _, _, some (13, true)⟩) rfl (fun K hK => ?_) AllReady.nil
                · refine step_of (by rfl) ?_
                  go_simp
                  refine (F3.out _ _ hRC (hT.below hWC.bel)).mono ?_
                  rintro e W3 ⟨rfl, hB3⟩
                  refine hK _ _ ?_
                  clear hK K
                  have hW3 := hWC.below hB3
                  refine wpAny_take (i := 19) (v := .bool true) rfl (by kernel_rfl) (by kernel_rfl) (by kernel_rfl) (fun _ _ _ h => h) (Or.inl ⟨by rfl, ?_⟩) ?_
                  · intro w; have h := hq3.out w; go_simp
                  refine wpAny_take (i := 20) (v := .bool true) rfl (by kernel_rfl) (by kernel_rfl) (by kernel_rfl) (fun _ _ _ h => h) (Or.inl ⟨by rfl, ?_⟩) ?_
                  · intro w; go_simp
                  refine wpAny_take (i := 21) (v := .bool true) rfl (by kernel_rfl) (by kernel_rfl) (by kernel_rfl) (fun _ _ _ h => h) (Or.inl ⟨by rfl, ?_⟩) ?_
                  · intro w; go_simp
                  refine wpAny_take (i := 22) (v := .pointer (some ⟨r, 0, none⟩)) rfl (by kernel_rfl) (by kernel_rfl) (by kernel_rfl) (fun _ _ _ h => h) (Or.inl ⟨by rfl, ?_⟩) ?_
                  · intro w; go_simp
                  generalize hX : Act.put _ _ _ = X
                  simp [Act.put] at hX
                  subst hX
                  refine wpAny_ready (rs := [23]) (by kernel_rfl) (by simp) ?_
                  refine AllReady.cons (o := ⟨some 41, .call { callee := .value (.func 14), args := #[.tmp 40], argTypes := #[24] }, _, _, _, some (21, true)⟩) rfl (fun K hK => ?_) AllReady.nil
                  refine step_of (by rfl) ?_
                  go_simp
                  refine (len_any _ _ _ hW3.hash).mono ?_
                  rintro e W5 ⟨rfl, rfl⟩
                  refine hK _ _ ?_
                  clear hK K
                  refine wpAny_take (i := 24) (v := .bool true) rfl (by kernel_rfl) (by kernel_rfl) (by kernel_rfl) (fun _ _ _ h => h) (Or.inl ⟨by rfl, ?_⟩) ?_
                  · intro w; go_simp
                  refine wpAny_take (i := 25) (v := .bool true) rfl (by kernel_rfl) (by kernel_rfl) (by kernel_rfl) (fun _ _ _ h => h) (Or.inl ⟨by rfl, ?_⟩) ?_
                  · intro w; go_simp
                  refine wpAny_take (i := 26) (v := .bool true) rfl (by kernel_rfl) (by kernel_rfl) (by kernel_rfl) (fun _ _ _ h => h) (Or.inl ⟨by rfl, ?_⟩) ?_
                  · intro w; go_simp
                  generalize hX : Act.put _ _ _ = X
                  simp [Act.put] at hX
                  subst hX
                  refine wpAny_done (by kernel_rfl) ?_ _
                  go_wp2_with fail
                  go_ret
                  exact ⟨rfl, hW3.bel⟩
            · obtain ⟨WC, hrun, hgC, hgr, hsz⟩ := run_convert_marks _ gA _ 3 3 hgA
              refine step_of (by rfl) ?_
              go_simp
              refine hK _ _ ?_
              clear hK K
              have hWC := hWA.marked hgr hA1 hA2 hA3
              have hRC : Rd WC (some ⟨gA, 0, none⟩) 3 3 [97, 98, 99] := Rd.block hgC rfl (by decide)
              refine wpAny_ready (rs := [15]) (by kernel_rfl) (by simp) ?_
              refine AllReady.cons (o := ⟨some 33, .call { callee := .value (.func 12), args := #[.tmp 32], argTypes := #[24] }, _, _, _, some (13, true)⟩) rfl (fun K hK => ?_) AllReady.nil
              · refine step_of (by rfl) ?_
                go_simp
                refine (F4.out _ _ _ hWC).mono ?_
                rintro e W4 ⟨rfl, hW4, hB4⟩
                refine hK _ _ ?_
                clear hK K
                have hR4 := hRC.below hB4
                refine wpAny_ready (rs := [18]) (by kernel_rfl) (by simp) ?_
                refine AllReady.cons (o := ⟨some 36, .call { callee := .value (.func 13), args := #[.tmp 35], argTypes := #[26] }, _, _, _, some (13, true)⟩) rfl (fun K hK => ?_) AllReady.nil
                · refine step_of (by rfl) ?_
                  go_simp
                  refine (F3.out _ _ hR4 (hT.below hW4.bel)).mono ?_
                  rintro e W3 ⟨rfl, hB3⟩
                  refine hK _ _ ?_
                  clear hK K
                  have hW3 := hW4.below hB3
                  refine wpAny_take (i := 19) (v := .bool true) rfl (by kernel_rfl) (by kernel_rfl) (by kernel_rfl) (fun _ _ _ h => h) (Or.inl ⟨by rfl, ?_⟩) ?_
                  · intro w; have h := hq3.out w; go_simp
                  refine wpAny_take (i := 20) (v := .bool true) rfl (by kernel_rfl) (by kernel_rfl) (by kernel_rfl) (fun _ _ _ h => h) (Or.inl ⟨by rfl, ?_⟩) ?_
                  · intro w; go_simp
                  refine wpAny_take (i := 21) (v := .bool true) rfl (by kernel_rfl) (by kernel_rfl) (by kernel_rfl) (fun _ _ _ h => h) (Or.inl ⟨by rfl, ?_⟩) ?_
                  · intro w; go_simp
                  refine wpAny_take (i := 22) (v := .pointer (some ⟨r, 0, none⟩)) rfl (by kernel_rfl) (by kernel_rfl) (by kernel_rfl) (fun _ _ _ h => h) (Or.inl ⟨by rfl, ?_⟩) ?_
                  · intro w; go_simp
                  generalize hX : Act.put _ _ _ = X
                  simp [Act.put] at hX
                  subst hX
                  refine wpAny_ready (rs := [23]) (by kernel_rfl) (by simp) ?_
                  refine AllReady.cons (o := ⟨some 41, .call { callee := .value (.func 14), args := #[.tmp 40], argTypes := #[24] }, _, _, _, some (21, true)⟩) rfl (fun K hK => ?_) AllReady.nil
                  refine step_of (by rfl) ?_
                  go_simp
                  refine (len_any _ _ _ hW3.hash).mono ?_
                  rintro e W5 ⟨rfl, rfl⟩
                  refine hK _ _ ?_
                  clear hK K
                  refine wpAny_take (i := 24) (v := .bool true) rfl (by kernel_rfl) (by kernel_rfl) (by kernel_rfl) (fun _ _ _ h => h) (Or.inl ⟨by rfl, ?_⟩) ?_
                  · intro w; go_simp
                  refine wpAny_take (i := 25) (v := .bool true) rfl (by kernel_rfl) (by kernel_rfl) (by kernel_rfl) (fun _ _ _ h => h) (Or.inl ⟨by rfl, ?_⟩) ?_
                  · intro w; go_simp
                  refine wpAny_take (i := 26) (v := .bool true) rfl (by kernel_rfl) (by kernel_rfl) (by kernel_rfl) (fun _ _ _ h => h) (Or.inl ⟨by rfl, ?_⟩) ?_
                  · intro w; go_simp
                  generalize hX : Act.put _ _ _ = X
                  simp [Act.put] at hX
                  subst hX
                  refine wpAny_done (by kernel_rfl) ?_ _
                  go_wp2_with fail
                  go_ret
                  exact ⟨rfl, hW3.bel⟩
      · refine step_of (by rfl) ?_
        go_simp
        refine (WrAt.sum2 hW0 hT F2).mono ?_
        rintro e W2 ⟨rfl, hW2⟩
        refine hK _ _ ?_
        clear hK K
        refine wpAny_ready (rs := [7]) (by kernel_rfl) (by simp) ?_
        refine AllReady.cons (o := ⟨some 25, .load 32 (.tmp 3), _, _, _, some (6, true)⟩) rfl (fun K hK => ?_) AllReady.nil
        · refine step_of (by rfl) ?_
          refine wp_load_mid 32 (.tmp 3) rfl g4 0 rfl (bs D) _ (fun j v hv => by first | (simpa using hW2.blk.cell hv) | exact cell_later ((Below.refl _ _).alloc (Nat.le_refl _) _) (by simpa using hW2.blk.cell hv)) Tryd.underlying32 rfl HI.out ?_
          refine hK _ _ ?_
          clear hK K
          refine wpAny_take (i := 11) (v := .bool true) rfl (by kernel_rfl) (by kernel_rfl) (by kernel_rfl) (fun _ _ _ h => h) (Or.inl ⟨by rfl, ?_⟩) ?_
          · intro w; have h := hq2.out w; go_simp
          refine wpAny_take (i := 12) (v := .bool true) rfl (by kernel_rfl) (by kernel_rfl) (by kernel_rfl) (fun _ _ _ h => h) (Or.inl ⟨by rfl, ?_⟩) ?_
          · intro w; go_simp
          refine wpAny_take (i := 13) (v := .bool true) rfl (by kernel_rfl) (by kernel_rfl) (by kernel_rfl) (fun _ _ _ h => h) (Or.inl ⟨by rfl, ?_⟩) ?_
          · intro w; go_simp
          refine wpAny_take (i := 14) (v := .pointer (some ⟨r, 0, none⟩)) rfl (by kernel_rfl) (by kernel_rfl) (by kernel_rfl) (fun _ _ _ h => h) (Or.inl ⟨by rfl, ?_⟩) ?_
          · intro w; go_simp
          generalize hX : Act.put _ _ _ = X
          simp [Act.put] at hX
          subst hX
          refine wpAny_ready (rs := [15, 16]) (by kernel_rfl) (by simp) ?_
          refine AllReady.cons (o := ⟨some 33, .call { callee := .value (.func 12), args := #[.tmp 32], argTypes := #[24] }, _, _, _, some (13, true)⟩) rfl (fun K hK => ?_) (AllReady.cons (o := ⟨some 34, .buildSlice 26 3 #[(0, .const (.int .u8 97)), (1, .const (.int .u8 98)), (2, .const (.int .u8 99))], _, _, _, some (13, true)⟩) rfl (fun K hK => ?_) AllReady.nil)
          · refine step_of (by rfl) ?_
            go_simp
            refine (F4.out _ _ _ hW2).mono ?_
            rintro e W4 ⟨rfl, hW4, hB4⟩
            refine hK _ _ ?_
            clear hK K
            refine wpAny_ready (rs := [16]) (by kernel_rfl) (by simp) ?_
            refine AllReady.cons (o := ⟨some 34, .buildSlice 26 3 #[(0, .const (.int .u8 97)), (1, .const (.int .u8 98)), (2, .const (.int .u8 99))], _, _, _, some (13, true)⟩) rfl (fun K hK => ?_) AllReady.nil
            · refine step_of (by rfl) ?_
              have hb := hW4.built
              go_simp
              refine hK _ _ ?_
              clear hK K
              generalize World.alloc _ _ = WA at hb ⊢
              generalize W4.heap.size = gA at hb ⊢
              obtain ⟨hWA, hgA, hA1, hA2, hA3⟩ := hb
              refine wpAny_ready (rs := [17]) (by kernel_rfl) (by simp) ?_
              refine AllReady.cons (o := ⟨some 35, .convert 26 26 (.tmp 34), _, _, _, some (13, true)⟩) rfl (fun K hK => ?_) AllReady.nil
              · obtain ⟨WC, hrun, hgC, hgr, hsz⟩ := run_convert_marks _ gA _ 3 3 hgA
                refine step_of (by rfl) ?_
                go_simp
                refine hK _ _ ?_
                clear hK K
                have hWC := hWA.marked hgr hA1 hA2 hA3
                have hRC : Rd WC (some ⟨gA, 0, none⟩) 3 3 [97, 98, 99] := Rd.block hgC rfl (by decide)
                refine wpAny_ready (rs := [18]) (by kernel_rfl) (by simp) ?_
                refine AllReady.cons (o := ⟨some 36, .call { callee := .value (.func 13), args := #[.tmp 35], argTypes := #[26] }, _, _, _, some (13, true)⟩) rfl (fun K hK => ?_) AllReady.nil
                · refine step_of (by rfl) ?_
                  go_simp
                  refine (F3.out _ _ hRC (hT.below hWC.bel)).mono ?_
                  rintro e W3 ⟨rfl, hB3⟩
                  refine hK _ _ ?_
                  clear hK K
                  have hW3 := hWC.below hB3
                  refine wpAny_take (i := 19) (v := .bool true) rfl (by kernel_rfl) (by kernel_rfl) (by kernel_rfl) (fun _ _ _ h => h) (Or.inl ⟨by rfl, ?_⟩) ?_
                  · intro w; have h := hq3.out w; go_simp
                  refine wpAny_take (i := 20) (v := .bool true) rfl (by kernel_rfl) (by kernel_rfl) (by kernel_rfl) (fun _ _ _ h => h) (Or.inl ⟨by rfl, ?_⟩) ?_
                  · intro w; go_simp
                  refine wpAny_take (i := 21) (v := .bool true) rfl (by kernel_rfl) (by kernel_rfl) (by kernel_rfl) (fun _ _ _ h => h) (Or.inl ⟨by rfl, ?_⟩) ?_
                  · intro w; go_simp
                  refine wpAny_take (i := 22) (v := .pointer (some ⟨r, 0, none⟩)) rfl (by kernel_rfl) (by kernel_rfl) (by kernel_rfl) (fun _ _ _ h => h) (Or.inl ⟨by rfl, ?_⟩) ?_
                  · intro w; go_simp
                  generalize hX : Act.put _ _ _ = X
                  simp [Act.put] at hX
                  subst hX
                  refine wpAny_ready (rs := [23]) (by kernel_rfl) (by simp) ?_
                  refine AllReady.cons (o := ⟨some 41, .call { callee := .value (.func 14), args := #[.tmp 40], argTypes := #[24] }, _, _, _, some (21, true)⟩) rfl (fun K hK => ?_) AllReady.nil
                  refine step_of (by rfl) ?_
                  go_simp
                  refine (len_any _ _ _ hW3.hash).mono ?_
                  rintro e W5 ⟨rfl, rfl⟩
                  refine hK _ _ ?_
                  clear hK K
                  refine wpAny_take (i := 24) (v := .bool true) rfl (by kernel_rfl) (by kernel_rfl) (by kernel_rfl) (fun _ _ _ h => h) (Or.inl ⟨by rfl, ?_⟩) ?_
                  · intro w; go_simp
                  refine wpAny_take (i := 25) (v := .bool true) rfl (by kernel_rfl) (by kernel_rfl) (by kernel_rfl) (fun _ _ _ h => h) (Or.inl ⟨by rfl, ?_⟩) ?_
                  · intro w; go_simp
                  refine wpAny_take (i := 26) (v := .bool true) rfl (by kernel_rfl) (by kernel_rfl) (by kernel_rfl) (fun _ _ _ h => h) (Or.inl ⟨by rfl, ?_⟩) ?_
                  · intro w; go_simp
                  generalize hX : Act.put _ _ _ = X
                  simp [Act.put] at hX
                  subst hX
                  refine wpAny_done (by kernel_rfl) ?_ _
                  go_wp2_with fail
                  go_ret
                  exact ⟨rfl, hW3.bel⟩
          · refine step_of (by rfl) ?_
            have hb := hW2.built
            go_simp
            refine hK _ _ ?_
            clear hK K
            generalize World.alloc _ _ = WA at hb ⊢
            generalize W2.heap.size = gA at hb ⊢
            obtain ⟨hWA, hgA, hA1, hA2, hA3⟩ := hb
            refine wpAny_ready (rs := [15, 17]) (by kernel_rfl) (by simp) ?_
            refine AllReady.cons (o := ⟨some 33, .call { callee := .value (.func 12), args := #[.tmp 32], argTypes := #[24] }, _, _, _, some (13, true)⟩) rfl (fun K hK => ?_) (AllReady.cons (o := ⟨some 35, .convert 26 26 (.tmp 34), _, _, _, some (13, true)⟩) rfl (fun K hK => ?_) AllReady.nil)
            · refine step_of (by rfl) ?_
              go_simp
              refine (F4.out _ _ _ hWA).mono ?_
              rintro e W4 ⟨rfl, hW4, hB4⟩
              refine hK _ _ ?_
              clear hK K
              have hg4x := (hB4.block gA (lt_of_block hgA)).trans hgA
              refine wpAny_ready (rs := [17]) (by kernel_rfl) (by simp) ?_
              refine AllReady.cons (o := ⟨some 35, .convert 26 26 (.tmp 34), _, _, _, some (13, true)⟩) rfl (fun K hK => ?_) AllReady.nil
              · obtain ⟨WC, hrun, hgC, hgr, hsz⟩ := run_convert_marks _ gA _ 3 3 hg4x
                refine step_of (by rfl) ?_
                go_simp
                refine hK _ _ ?_
                clear hK K
                have hWC := hW4.marked hgr hA1 hA2 hA3
                have hRC : Rd WC (some ⟨gA, 0, none⟩) 3 3 [97, 98, 99] := Rd.block hgC rfl (by decide)
                refine wpAny_ready (rs := [18]) (by kernel_rfl) (by simp) ?_
                refine AllReady.cons (o := ⟨some 36, .call { callee := .value (.func 13), args := #[.tmp 35], argTypes := #[26] }, _, _, _, some (13, true)⟩) rfl (fun K hK => ?_) AllReady.nil
                · refine step_of (by rfl) ?_
                  go_simp
                  refine (F3.out _ _ hRC (hT.below hWC.bel)).mono ?_
                  rintro e W3 ⟨rfl, hB3⟩
                  refine hK _ _ ?_
                  clear hK K
                  have hW3 := hWC.below hB3
                  refine wpAny_take (i := 19) (v := .bool true) rfl (by kernel_rfl) (by kernel_rfl) (by kernel_rfl) (fun _ _ _ h => h) (Or.inl ⟨by rfl, ?_⟩) ?_
                  · intro w; have h := hq3.out w; go_simp
                  refine wpAny_take (i := 20) (v := .bool true) rfl (by kernel_rfl) (by kernel_rfl) (by kernel_rfl) (fun _ _ _ h => h) (Or.inl ⟨by rfl, ?_⟩) ?_
                  · intro w; go_simp
                  refine wpAny_take (i := 21) (v := .bool true) rfl (by kernel_rfl) (by kernel_rfl) (by kernel_rfl) (fun _ _ _ h => h) (Or.inl ⟨by rfl, ?_⟩) ?_
                  · intro w; go_simp
                  refine wpAny_take (i := 22) (v := .pointer (some ⟨r, 0, none⟩)) rfl (by kernel_rfl) (by kernel_rfl) (by kernel_rfl) (fun _ _ _ h => h) (Or.inl ⟨by rfl, ?_⟩) ?_
                  · intro w; go_simp
                  generalize hX : Act.put _ _ _ = X
                  simp [Act.put] at hX
                  subst hX
                  refine wpAny_ready (rs := [23]) (by kernel_rfl) (by simp) ?_
                  refine AllReady.cons (o := ⟨some 41, .call { callee := .value (.func 14), args := #[.tmp 40], argTypes := #[24] }, _, _, _, some (21, true)⟩) rfl (fun K hK => ?_) AllReady.nil
                  refine step_of (by rfl) ?_
                  go_simp
                  refine (len_any _ _ _ hW3.hash).mono ?_
                  rintro e W5 ⟨rfl, rfl⟩
                  refine hK _ _ ?_
                  clear hK K
                  refine wpAny_take (i := 24) (v := .bool true) rfl (by kernel_rfl) (by kernel_rfl) (by kernel_rfl) (fun _ _ _ h => h) (Or.inl ⟨by rfl, ?_⟩) ?_
                  · intro w; go_simp
                  refine wpAny_take (i := 25) (v := .bool true) rfl (by kernel_rfl) (by kernel_rfl) (by kernel_rfl) (fun _ _ _ h => h) (Or.inl ⟨by rfl, ?_⟩) ?_
                  · intro w; go_simp
                  refine wpAny_take (i := 26) (v := .bool true) rfl (by kernel_rfl) (by kernel_rfl) (by kernel_rfl) (fun _ _ _ h => h) (Or.inl ⟨by rfl, ?_⟩) ?_
                  · intro w; go_simp
                  generalize hX : Act.put _ _ _ = X
                  simp [Act.put] at hX
                  subst hX
                  refine wpAny_done (by kernel_rfl) ?_ _
                  go_wp2_with fail
                  go_ret
                  exact ⟨rfl, hW3.bel⟩
            · obtain ⟨WC, hrun, hgC, hgr, hsz⟩ := run_convert_marks _ gA _ 3 3 hgA
              refine step_of (by rfl) ?_
              go_simp
              refine hK _ _ ?_
              clear hK K
              have hWC := hWA.marked hgr hA1 hA2 hA3
              have hRC : Rd WC (some ⟨gA, 0, none⟩) 3 3 [97, 98, 99] := Rd.block hgC rfl (by decide)
              refine wpAny_ready (rs := [15]) (by kernel_rfl) (by simp) ?_
              refine AllReady.cons (o := ⟨some 33, .call { callee := .value (.func 12), args := #[.tmp 32], argTypes := #[24] }, _, _, _, some (13, true)⟩) rfl (fun K hK => ?_) AllReady.nil
              · refine step_of (by rfl) ?_
                go_simp
                refine (F4.out _ _ _ hWC).mono ?_
                rintro e W4 ⟨rfl, hW4, hB4⟩
                refine hK _ _ ?_
                clear hK K
                have hR4 := hRC.below hB4
                refine wpAny_ready (rs := [18]) (by kernel_rfl) (by simp) ?_
                refine AllReady.cons (o := ⟨some 36, .call { callee := .value (.func 13), args := #[.tmp 35], argTypes := #[26] }, _, _, _, some (13, true)⟩) rfl (fun K hK => ?_) AllReady.nil
                · refine step_of (by rfl) ?_
                  go_simp
                  refine (F3.out _ _ hR4 (hT.below hW4.bel)).mono ?_
                  rintro e W3 ⟨rfl, hB3⟩
                  refine hK _ _ ?_
                  clear hK K
                  have hW3 := hW4.below hB3
                  refine wpAny_take (i := 19) (v := .bool true) rfl (by kernel_rfl) (by kernel_rfl) (by kernel_rfl) (fun _ _ _ h => h) (Or.inl ⟨by rfl, ?_⟩) ?_
                  · intro w; have h := hq3.out w; go_simp
                  refine wpAny_take (i := 20) (v := .bool true) rfl (by kernel_rfl) (by kernel_rfl) (by kernel_rfl) (fun _ _ _ h => h) (Or.inl ⟨by rfl, ?_⟩) ?_
                  · intro w; go_simp
                  refine wpAny_take (i := 21) (v := .bool true) rfl (by kernel_rfl) (by kernel_rfl) (by kernel_rfl) (fun _ _ _ h => h) (Or.inl ⟨by rfl, ?_⟩) ?_
                  · intro w; go_simp
                  refine wpAny_take (i := 22) (v := .pointer (some ⟨r, 0, none⟩)) rfl (by kernel_rfl) (by kernel_rfl) (by kernel_rfl) (fun _ _ _ h => h) (Or.inl ⟨by rfl, ?_⟩) ?_
                  · intro w; go_simp
                  generalize hX : Act.put _ _ _ = X
                  simp [Act.put] at hX
                  subst hX
                  refine wpAny_ready (rs := [23]) (by kernel_rfl) (by simp) ?_
                  refine AllReady.cons (o := ⟨some 41, .call { callee := .value (.func 14), args := #[.tmp 40], argTypes := #[24] }, _, _, _, some (21, true)⟩) rfl (fun K hK => ?_) AllReady.nil
                  refine step_of (by rfl) ?_
                  go_simp
                  refine (len_any _ _ _ hW3.hash).mono ?_
                  rintro e W5 ⟨rfl, rfl⟩
                  refine hK _ _ ?_
                  clear hK K
                  refine wpAny_take (i := 24) (v := .bool true) rfl (by kernel_rfl) (by kernel_rfl) (by kernel_rfl) (fun _ _ _ h => h) (Or.inl ⟨by rfl, ?_⟩) ?_
                  · intro w; go_simp
                  refine wpAny_take (i := 25) (v := .bool true) rfl (by kernel_rfl) (by kernel_rfl) (by kernel_rfl) (fun _ _ _ h => h) (Or.inl ⟨by rfl, ?_⟩) ?_
                  · intro w; go_simp
                  refine wpAny_take (i := 26) (v := .bool true) rfl (by kernel_rfl) (by kernel_rfl) (by kernel_rfl) (fun _ _ _ h => h) (Or.inl ⟨by rfl, ?_⟩) ?_
                  · intro w; go_simp
                  generalize hX : Act.put _ _ _ = X
                  simp [Act.put] at hX
                  subst hX
                  refine wpAny_done (by kernel_rfl) ?_ _
                  go_wp2_with fail
                  go_ret
                  exact ⟨rfl, hW3.bel⟩
end Go.Proofs.YteanlgakdffibaaDoor
