/-
  Prf6 Prf7 Prf8 Prf9 PrfA PrfB Ref06M MkA MkB MkC Law06M, in one text.
-/
import Derived.Test.YtgbhfpkngjlfkaaDoorCon05T5
import Derived.Test.YtgbhfpkngjlfkaaDoorLibG
import Derived.Test.YtgbhfpkngjlfkaaDoorPrfC
import Derived.Test.YtgbhfpkngjlfkaaDoorLaw05DE
import Derived.Test.YtgbhfpkngjlfkaaDoorLibR
import Derived.Test.YtgbhfpkngjlfkaaDoorLibW
import Derived.Test.YtgbhfpkngjlfkaaDoorLibE
import Derived.Test.YtgbhfpkngjlfkaaDoorClmE2
namespace Go.Proofs.YtgbhfpkngjlfkaaDoor
/-! The walks of package proof: bitIs1, parted. -/
section
open Go.RowKit

set_option maxRecDepth 100000 in
set_option maxHeartbeats 1000000 in
theorem ppick_any (w : World) (b6 b7 bl off m c i d : Nat) (y : Lf) (hy : y.ok) (hS : PickAt w b6 b7 bl off m c i d y) (hi : i < m) (hd : d < 256) :
    Calls Tryd.prog 84 #[.int .i64 (i : Int), .pointer (some ⟨b6, 0, none⟩), .pointer (some ⟨b7, 0, none⟩)] w fun e w' => e = .returned (.bool (bitAt y.path d == 1)) ∧ Below w.heap.size w w' := by
  have H5 := Lib.hid (show (Tryd.prog.info? 23).map (·.size) = some (bs y.path).length by rw [info_digest, bs_length, hy.1])
  have HB := Lib.hid (fun W : World => pbit_any W y.path hy.1 d hd)
  have hi' : (i : Int) < (m : Int) := by omega
  generalize (bitAt y.path d == 1) = b at *
  go_enter Tryd.func84, Tryd.ntmps84
  go_wp2_with fail
  refine wp_region_held_drew (S := fun W => PickAt W b6 b7 bl off m c i d y) (by kernel_rfl) hS.drew (fun hHeld => ?_)
  refine wpAnyH_take (i := 0) (oi := ⟨some 5, .load 41 (.tmp 1), _, _, _, none⟩) (v := ?_) rfl (by kernel_rfl) (by kernel_rfl) (by kernel_rfl) (fun _ _ _ h => h) (Or.inl ⟨by rfl, ?_⟩) hHeld ?_
  rotate_left
  · intro W hS; have h0 := hS.row; go_simp; try with_reducible rfl
  try simp only [Act.put, List.setIfInBounds_toArray, List.set_cons_zero, List.set_cons_succ]
  refine wpAnyH_take (i := 1) (oi := ⟨some 6, .move (.tmp 0), _, _, _, none⟩) (v := ?_) rfl (by kernel_rfl) (by kernel_rfl) (by kernel_rfl) (fun _ _ _ h => h) (Or.inl ⟨by rfl, ?_⟩) hHeld ?_
  rotate_left
  · intro W _; go_simp; try with_reducible rfl
  try simp only [Act.put, List.setIfInBounds_toArray, List.set_cons_zero, List.set_cons_succ]
  refine wpAnyH_take (i := 2) (oi := ⟨some 7, .indexAddr 41 (.tmp 5) (.tmp 6), _, _, _, none⟩) (v := ?_) rfl (by kernel_rfl) (by kernel_rfl) (by kernel_rfl) (fun _ _ _ h => h) (Or.inl ⟨by rfl, ?_⟩) hHeld ?_
  rotate_left
  · intro W _; go_simp; try with_reducible rfl
  try simp only [Act.put, List.setIfInBounds_toArray, List.set_cons_zero, List.set_cons_succ]
  refine wpAnyH_take (i := 3) (oi := ⟨some 8, .fieldAddr 46 (.tmp 7) 0, _, _, _, none⟩) (v := ?_) rfl (by kernel_rfl) (by kernel_rfl) (by kernel_rfl) (fun _ _ _ h => h) (Or.inl ⟨by rfl, ?_⟩) hHeld ?_
  rotate_left
  · intro W _; go_simp; try with_reducible rfl
  try simp only [Act.put, List.setIfInBounds_toArray, List.set_cons_zero, List.set_cons_succ]
  refine wpAnyH_take (i := 4) (oi := ⟨some 9, .load 23 (.tmp 8), _, _, _, none⟩) (v := .agg (bs y.path).toArray) rfl (by kernel_rfl) (by kernel_rfl) (by kernel_rfl) (fun _ _ _ h => h) (yieldsIf_load_mid (by rfl) _ _ rfl bl (off + i * 64) rfl (bs y.path) _ (fun W h => h.rng) Tryd.underlying23 rfl H5.out) hHeld ?_
  try simp only [Act.put, List.setIfInBounds_toArray, List.set_cons_zero, List.set_cons_succ]
  refine wpAnyH_take (i := 5) (oi := ⟨some 10, .load 3 (.tmp 2), _, _, _, none⟩) (v := ?_) rfl (by kernel_rfl) (by kernel_rfl) (by kernel_rfl) (fun _ _ _ h => h) (Or.inl ⟨by rfl, ?_⟩) hHeld ?_
  rotate_left
  · intro W hS; have h0 := hS.dep; go_simp; try with_reducible rfl
  try simp only [Act.put, List.setIfInBounds_toArray, List.set_cons_zero, List.set_cons_succ]
  refine wpAnyH_ready (rs := [6]) (by kernel_rfl) (by simp) ?_
  refine AllReadyH.cons (o := ⟨some 11, .call { callee := .value (.func 59), args := #[.tmp 9, .tmp 10], argTypes := #[23, 3] }, _, _, _, none⟩) rfl (fun K hK => ?_) AllReadyH.nil
  refine step_ofR (by rfl) ?_
  go_simp
  refine (HB.out _).mono ?_
  rintro x W1 ⟨rfl, hb1⟩
  refine hK.out _ _ (hHeld.below hb1) (fun hHeld => ?_)
  clear hK K
  try simp only [Act.put, List.setIfInBounds_toArray, List.set_cons_zero, List.set_cons_succ]
  refine wpAnyH_ready (rs := [7]) (by kernel_rfl) (by simp) ?_
  refine AllReadyH.cons (o := ⟨some 4, .assign (.tmp 11), _, _, _, none⟩) rfl (fun K hK => ?_) AllReadyH.nil
  refine step_ofR (by rfl) ?_
  go_simp
  refine hK.out _ _ (hHeld) (fun hHeld => ?_)
  clear hK K
  try simp only [Act.put, List.setIfInBounds_toArray, List.set_cons_zero, List.set_cons_succ]
  refine wpAnyH_done (by kernel_rfl) ?_ _
  go_wp2_with fail
  go_ret
  exact ⟨rfl, Bt (below_drew (Below.refl _ _)) hb1⟩

theorem enter_parted1 (args : Array Value) (w : World) : (callFunc 84 args).run Tryd.prog w = .ok (.enter 84 args) w := by go_simp

/-- leaves in order, parted at a bit, are the leaves of either bit -/
theorem half_parts {l : List Lf} {n : Nat} (h : l.Pairwise fun x y => bitAt x.path n = 1 → bitAt y.path n = 1) : half l n 0 = l.take (onesAt l n) ∧ half l n 1 = l.drop (onesAt l n) := by
  obtain ⟨z0, z1⟩ := split_bits h
  generalize onesAt l n = k at *
  have e : ∀ b, half l n b = half (l.take k) n b ++ half (l.drop k) n b := fun b => by
    unfold half
    rw [← List.filter_append, List.take_append_drop]
  have f1 : half (l.take k) n 0 = l.take k := List.filter_eq_self.2 fun x hx => by simp [z0 x hx]
  have f2 : half (l.take k) n 1 = [] := List.filter_eq_nil_iff.2 fun x hx => by simp [z0 x hx]
  have f3 : half (l.drop k) n 0 = [] := List.filter_eq_nil_iff.2 fun x hx => by simp [z1 x hx]
  have f4 : half (l.drop k) n 1 = l.drop k := List.filter_eq_self.2 fun x hx => by simp [z1 x hx]
  rw [e, e, f1, f2, f3, f4]
  simp

set_option maxRecDepth 100000 in
set_option maxHeartbeats 1000000 in
/-- parted: those of bit 0, those of bit 1 -/
theorem parted_any (w : World) (a : Option Addr) (m c : Nat) (l : List Lf) (hr : RdL w a m c l) (ho : inOrder l) (n : Nat) (hn : n < 256) (ha : agree l n) (hm : m ≤ 1000000) :
    Calls Tryd.prog 58 #[.slice a m c, .int .i64 (n : Int)] w fun e w' => ∃ k, k ≤ m ∧ half l n 0 = l.take k ∧ half l n 1 = l.drop k ∧ e = .returned (.tuple #[.slice a k c, .slice (tailA a c k) (m - k) (c - k)]) ∧ Below w.heap.size w w' := by
  have hS0 := TwoBox.start w a m c n
  have hB0 : Below w.heap.size w ((w.alloc (.cells #[.slice a m c] 41)).alloc (.cells #[.int .i64 (n : Int)] 3)) := ((Below.refl _ w).alloc (Nat.le_refl _) _).alloc (by simp) _
  have hmf : ∀ (fn : Fn) (first cap : Array Value) (w : World), (Instr.makeFunc fn first cap).run Tryd.prog w = .ok (.func fn first cap) w := fun _ _ _ _ => rfl
  have hl := hr.len
  have hrise := bits_rise hr.ok ho ha
  obtain ⟨z0, z1⟩ := split_bits hrise
  obtain ⟨h0, h1⟩ := half_parts hrise
  have hkk := onesAt_le l n
  rw [hl] at hkk
  generalize onesAt l n = kk at *
  have CUTHI := Lib.hid (fun W : World => cutHi W a m c kk (by have := hr.cap; omega))
  have CUTLO := Lib.hid (fun W : World => cutLo W a m c kk hkk)
  have SE := Lib.hid (fun (W : World) (h : Below w.heap.size w W) (hb : TwoBox W w.heap.size (w.heap.size + 1) a m c n) =>
    search_any 84 #[.pointer (some ⟨w.heap.size, 0, none⟩), .pointer (some ⟨w.heap.size + 1, 0, none⟩)] m kk (fun i => bitAt (l.getD i lf0).path n == 1) W (by omega)
      (fun W' i hW hi => by
        obtain ⟨bl, off, rfl, hbl, hel⟩ := hr.elems (by omega)
        exact ppick_any W' w.heap.size (w.heap.size + 1) bl off m c i n (l.getD i lf0) (hr.ok.at (by rw [hl]; exact hi))
          ⟨cell_later hW hb.row, cell_later hW hb.dep, rangeAt_below (Bt h hW) (range_path (hel i hi))⟩ hi hn)
      enter_parted1 hkk (fun i hi => by show (bitAt (l.getD i lf0).path n == 1) = false; rw [z0 _ (getD_take hi (by rw [hl]; exact hkk))]; rfl) (fun i h1 h2 => by show (bitAt (l.getD i lf0).path n == 1) = true; rw [z1 _ (getD_drop h1 (by rw [hl]; exact h2))]; rfl))
  have HH0 := Lib.hid h0
  have HH1 := Lib.hid h1
  have d0 := hS0.row
  have d1 := hS0.dep
  clear h0 h1 z0 z1 hrise hl
  go_enter Tryd.func58, Tryd.ntmps58
  go_wp2_with fail
  generalize (w.alloc _).alloc _ = w0 at *
  refine (SE.out w0 hB0 hS0).mono ?_
  rintro e w1 ⟨rfl, hB1⟩
  have hS1 := hS0.below hB1
  have f0 := hS1.row
  have hB := Bt hB0 hB1
  clear d0 d1
  go_wp2_with fail
  -- REGION parted 2
  refine wp_region_held_drew (S := fun W => TwoBox W w.heap.size (w.heap.size + 1) a m c n) (by kernel_rfl) hS1.drew (fun hHeld => ?_)
  refine wpAnyH_take (i := 0) (oi := ⟨some 11, .load 41 (.tmp 2), _, _, _, none⟩) (v := ?_) rfl (by kernel_rfl) (by kernel_rfl) (by kernel_rfl) (fun _ _ _ h => h) (Or.inl ⟨by rfl, ?_⟩) hHeld ?_
  rotate_left
  · intro W hS; have h0 := hS.row; go_simp; try with_reducible rfl
  try simp only [Act.put, List.setIfInBounds_toArray, List.set_cons_zero, List.set_cons_succ]
  refine wpAnyH_take (i := 1) (oi := ⟨some 12, .move (.tmp 6), _, _, _, none⟩) (v := ?_) rfl (by kernel_rfl) (by kernel_rfl) (by kernel_rfl) (fun _ _ _ h => h) (Or.inl ⟨by rfl, ?_⟩) hHeld ?_
  rotate_left
  · intro W _; go_simp; try with_reducible rfl
  try simp only [Act.put, List.setIfInBounds_toArray, List.set_cons_zero, List.set_cons_succ]
  refine wpAnyH_take (i := 2) (oi := ⟨some 13, .slice 41 (.tmp 11) none (some (.tmp 12)) none, _, _, _, none⟩) (v := _) rfl (by kernel_rfl) (by kernel_rfl) (by kernel_rfl) (fun _ _ _ h => h) (yields_slice (by rfl) _ _ _ _ rfl _ (fun W => (CUTHI.out W).2)) hHeld ?_
  try simp only [Act.put, List.setIfInBounds_toArray, List.set_cons_zero, List.set_cons_succ]
  refine wpAnyH_take (i := 3) (oi := ⟨some 14, .load 41 (.tmp 2), _, _, _, none⟩) (v := ?_) rfl (by kernel_rfl) (by kernel_rfl) (by kernel_rfl) (fun _ _ _ h => h) (Or.inl ⟨by rfl, ?_⟩) hHeld ?_
  rotate_left
  · intro W hS; have h0 := hS.row; go_simp; try with_reducible rfl
  try simp only [Act.put, List.setIfInBounds_toArray, List.set_cons_zero, List.set_cons_succ]
  refine wpAnyH_take (i := 4) (oi := ⟨some 15, .move (.tmp 6), _, _, _, none⟩) (v := ?_) rfl (by kernel_rfl) (by kernel_rfl) (by kernel_rfl) (fun _ _ _ h => h) (Or.inl ⟨by rfl, ?_⟩) hHeld ?_
  rotate_left
  · intro W _; go_simp; try with_reducible rfl
  try simp only [Act.put, List.setIfInBounds_toArray, List.set_cons_zero, List.set_cons_succ]
  refine wpAnyH_take (i := 5) (oi := ⟨some 16, .slice 41 (.tmp 14) (some (.tmp 15)) none none, _, _, _, none⟩) (v := _) rfl (by kernel_rfl) (by kernel_rfl) (by kernel_rfl) (fun _ _ _ h => h) (yields_slice (by rfl) _ _ _ _ rfl _ (fun W => (CUTLO.out W).2)) hHeld ?_
  try simp only [Act.put, List.setIfInBounds_toArray, List.set_cons_zero, List.set_cons_succ]
  refine wpAnyH_ready (rs := [6]) (by kernel_rfl) (by simp) ?_
  refine AllReadyH.cons (o := ⟨some 4, .assign (.tmp 13), _, _, _, none⟩) rfl (fun K hK => ?_) AllReadyH.nil
  refine step_ofR (by rfl) ?_
  go_simp
  refine hK.out _ _ (hHeld) (fun hHeld => ?_)
  clear hK K
  try simp only [Act.put, List.setIfInBounds_toArray, List.set_cons_zero, List.set_cons_succ]
  refine wpAnyH_ready (rs := [7]) (by kernel_rfl) (by simp) ?_
  refine AllReadyH.cons (o := ⟨some 5, .assign (.tmp 16), _, _, _, none⟩) rfl (fun K hK => ?_) AllReadyH.nil
  refine step_ofR (by rfl) ?_
  go_simp
  refine hK.out _ _ (hHeld) (fun hHeld => ?_)
  clear hK K
  try simp only [Act.put, List.setIfInBounds_toArray, List.set_cons_zero, List.set_cons_succ]
  refine wpAnyH_done (by kernel_rfl) ?_ _
  -- END parted
  go_wp2_with fail
  go_ret2
  exact ⟨kk, hkk, HH0.out, HH1.out, rfl, below_drew hB⟩
end
/-! The walks of package proof: the digest of leaves in order. -/
section
open Go.RowKit

/-- what digests depend on: its cells -/
def tc (x : Nat) : List Value := .int .i64 (x : Int) :: bs (emptyD x)
theorem tc_length {x : Nat} (hx : x ≤ 32) : (tc x).length = 33 := by simp [tc, bs_length, emptyD, shortB_length _ _ hx]
theorem sizeTc : (Tryd.prog.info? 113).map (·.size) = some 33 := by kernel_rfl
/-- what digest knows of a world: its own two variables -/
structure TdAt (w W : World) (x : Nat) : Prop where
  box : Blk W w.heap.size 113 (tc x)
  res : ∃ ds : List UInt8, ds.length = 32 ∧ Blk W (w.heap.size + 1) 23 (bs ds)
  bel : Below w.heap.size w W
section
variable {w W W' : World} {x : Nat}
theorem TdAt.below (h : TdAt w W x) (hb : Below W.heap.size W W') : TdAt w W' x := by
  obtain ⟨ds, h1, h2⟩ := h.res
  exact ⟨h.box.below hb, ⟨ds, h1, h2.below hb⟩, Bt h.bel hb⟩
theorem TdAt.drew (h : TdAt w W x) : TdAt w W.drew x := h.below (below_drew (Below.refl W.heap.size W))
theorem TdAt.put (h : TdAt w W x) {q : List UInt8} (hl : q.length = 32) (hr : Blk W' (w.heap.size + 1) 23 (bs q)) (hg : W.grownBy W' (some (w.heap.size + 1))) : TdAt w W' x :=
  ⟨h.box.grown hg (by simp), ⟨q, hl, hr⟩, h.bel.grown hg h.bel.size (fun k e => by cases e; omega)⟩
end
theorem half_order {l : List Lf} (h : inOrder l) (n b : Nat) : inOrder (half l n b) := List.Pairwise.sublist List.filter_sublist h

set_option maxRecDepth 100000 in
set_option maxHeartbeats 4000000 in
/-- of no leaf, and of one -/
theorem tdigest_few (x : Nat) (hx : x ≤ 32) (k : Nat) (w : World) (a : Option Addr) (n c : Nat) (l : List Lf) (m : Nat) (hr : RdL w a n c l) (hfew : l.length ≤ 1) (hT : Tab w 1) :
    Calls Tryd.prog 60 #[.agg (tc x).toArray, .slice a n c, .int .i64 (m : Int)] w fun e w' => e = .returned (.agg (bs (digestF x k l m)).toArray) ∧ Below w.heap.size w w' := by
  have hl := hr.len
  have hb0 := Blk.new w 113 (tc x)
  have hB0 : Below w.heap.size w (w.alloc (.cells (tc x).toArray 113)) := (Below.refl _ w).alloc (Nat.le_refl _) _
  have hz : (w.alloc (.cells (tc x).toArray 113)).heap.size = w.heap.size + 1 := by simp
  have HTC := Lib.hid (show (Tryd.prog.info? 113).map (·.size) = some (tc x).length by rw [tc_length hx]; exact sizeTc)
  have hdl := digestF_length x hx k l m
  have H1 := Lib.hid (show (Tryd.prog.info? 23).map (·.size) = some (bs (digestF x k l m)).length by rw [info_digest, bs_length, hdl])
  have H2 := Lib.hid (show (bs zero32).length = (bs (digestF x k l m)).length by rw [bs_length, bs_length, zero32_length, hdl])
  have H3 := bs_one (digestF x k l m)
  match l, hr, hfew, hl, hdl, H1, H2, H3 with
  | [], hr, _, hl, hdl, H1, H2, H3 =>
    obtain rfl : n = 0 := by simpa using hl.symm
    have he : digestF x k [] m = emptyD x := by cases k <;> rw [digestF]
    have hrg : ∀ {W : World}, Blk W w.heap.size 113 (tc x) → W.rangeAt w.heap.size 1 (bs (emptyD x)) := fun h => h.range 1 (fun j hj => by rw [Nat.add_comm]; rfl)
    rw [he] at hdl H1 H2 H3 ⊢
    generalize emptyD x = q at *
    generalize tc x = cs at *
    go_enter Tryd.func60, Tryd.ntmps60
    go_wp2_with (first | ((with_reducible refine wpList_allocB (o := ⟨some 6, _, _, _, _, _⟩) ?_ 23 ?_ zeroD_info ?_); rfl; rfl; intro w0 hr0 hg0 hz0; have hb1 := hb0.grown hg0 (by simp); have rb1 := hrg hb1; rw [hz] at hr0) | ((with_reducible refine wpList_loadM (o := ⟨some 14, _, _, _, _, _⟩) ?_ w.heap.size 1 23 (.tmp 13) ?_ ?_ rb1 Tryd.underlying23 ?_ H1.out ?_); rfl; rfl; rfl; rfl) | ((with_reducible refine wpList_storeB (o := ⟨none, .store 23 (.tmp 6) (.tmp 14), _, _, _, _⟩) ?_ 23 (.tmp 6) (.tmp 14) ?_ ?_ ?_ hr0 H1.out H2.out H3 ?_); rfl; rfl; rfl; rfl; intro w2 hr2 hg2 hz2))
    try simp only [Exit.inBlock, Exit.then]
    refine bodyPost_blk hr2 Tryd.underlying23 H1.out rfl rfl rfl rfl ⟨rfl, ?_⟩
    exact (hB0.grown hg0 hB0.size (fun k e => by cases e)).grown hg2 (by omega) (fun k e => by cases e; omega)
  | [y], hr, _, hl, hdl, H1, H2, H3 =>
    obtain rfl : n = 1 := by simpa using hl.symm
    have hy : y.ok := hr.ok y (by simp)
    obtain ⟨bl, off, rfl, hbl, hel⟩ := hr.elems (by omega)
    have hr1 := hel 0 (by omega)
    rw [Nat.zero_mul, Nat.add_zero] at hr1
    replace hr1 : w.rangeAt bl off (lc y) := hr1
    have he : digestF x k [y] m = shortI (x : Int) ([0] ++ y.path ++ y.val) := by cases k <;> rw [digestF, shortI_nat x hx] <;> rfl
    have SL := Lib.hid (fun (W : World) (h : Below w.heap.size w W) => sleaf_any W (x : Int) y hy (hT.below h))
    rw [he] at hdl H1 H2 H3 ⊢
    have HY := Lib.hid (show (Tryd.prog.info? 46).map (·.size) = some (lc y).length by rw [lc_length hy]; exact infoLeafS)
    generalize shortI (x : Int) ([0] ++ y.path ++ y.val) = q at *
    have HC := Lib.hid (show (tc x)[0]? = some (.int .i64 (x : Int)) from rfl)
    clear hel he
    go_enter Tryd.func60, Tryd.ntmps60
    go_wp2_with ((with_reducible refine wpList_allocB (o := ⟨some 6, _, _, _, _, _⟩) ?_ 23 ?_ zeroD_info ?_); rfl; rfl; intro w0 hr0 hg0 hz0; rw [hz] at hr0)
    have hS : TdAt w w0 x := ⟨hb0.grown hg0 (by simp), ⟨zero32, zero32_length, hr0⟩, hB0.grown hg0 hB0.size (fun k e => by cases e)⟩
    clear hr0 hg0 hz0 hb0 hB0 hz
    -- REGION tdone 6
    refine wp_region_held_drew (S := fun W => TdAt w W x) (by kernel_rfl) hS.drew (fun hHeld => ?_)
    refine wpAnyH_take (i := 0) (oi := ⟨some 17, .fieldAddr 113 (.tmp 3) 0, _, _, _, none⟩) (v := ?_) rfl (by kernel_rfl) (by kernel_rfl) (by kernel_rfl) (fun _ _ _ h => h) (Or.inl ⟨by rfl, ?_⟩) hHeld ?_
    rotate_left
    · intro W _; go_simp; try with_reducible rfl
    try simp only [Act.put, List.setIfInBounds_toArray, List.set_cons_zero, List.set_cons_succ]
    refine wpAnyH_take (i := 1) (oi := ⟨some 18, .load 3 (.tmp 17), _, _, _, none⟩) (v := ?_) rfl (by kernel_rfl) (by kernel_rfl) (by kernel_rfl) (fun _ _ _ h => h) (Or.inl ⟨by rfl, ?_⟩) hHeld ?_
    rotate_left
    · intro W hS; have h0 := hS.box.cell HC.out; go_simp; try with_reducible rfl
    try simp only [Act.put, List.setIfInBounds_toArray, List.set_cons_zero, List.set_cons_succ]
    refine wpAnyH_take (i := 2) (oi := ⟨some 19, .move (.tmp 1), _, _, _, none⟩) (v := ?_) rfl (by kernel_rfl) (by kernel_rfl) (by kernel_rfl) (fun _ _ _ h => h) (Or.inl ⟨by rfl, ?_⟩) hHeld ?_
    rotate_left
    · intro W _; go_simp; try with_reducible rfl
    try simp only [Act.put, List.setIfInBounds_toArray, List.set_cons_zero, List.set_cons_succ]
    refine wpAnyH_take (i := 3) (oi := ⟨some 20, .indexAddr 41 (.tmp 19) (.const (.int .i64 0)), _, _, _, none⟩) (v := ?_) rfl (by kernel_rfl) (by kernel_rfl) (by kernel_rfl) (fun _ _ _ h => h) (Or.inl ⟨by rfl, ?_⟩) hHeld ?_
    rotate_left
    · intro W _; go_simp; try with_reducible rfl
    try simp only [Act.put, List.setIfInBounds_toArray, List.set_cons_zero, List.set_cons_succ]
    refine wpAnyH_take (i := 4) (oi := ⟨some 21, .load 46 (.tmp 20), _, _, _, none⟩) (v := .agg (lc y).toArray) rfl (by kernel_rfl) (by kernel_rfl) (by kernel_rfl) (fun _ _ _ h => h) (yieldsIf_load_mid (by rfl) _ _ rfl bl off rfl (lc y) _ (fun W h => (rangeAt_below h.bel hr1)) Tryd.underlying46 rfl HY.out) hHeld ?_
    try simp only [Act.put, List.setIfInBounds_toArray, List.set_cons_zero, List.set_cons_succ]
    refine wpAnyH_ready (rs := [5]) (by kernel_rfl) (by simp) ?_
    refine AllReadyH.cons (o := ⟨some 22, .call { callee := .value (.func 37), args := #[.tmp 18, .tmp 21], argTypes := #[3, 46] }, _, _, _, none⟩) rfl (fun K hK => ?_) AllReadyH.nil
    refine step_ofR (by rfl) ?_
    go_simp
    refine (SL.out _ hHeld.bel).mono ?_
    rintro x W1 ⟨rfl, hb1⟩
    refine hK.out _ _ (hHeld.below hb1) (fun hHeld => ?_)
    clear hK K
    try simp only [Act.put, List.setIfInBounds_toArray, List.set_cons_zero, List.set_cons_succ]
    refine wpAnyH_ready (rs := [6]) (by kernel_rfl) (by simp) ?_
    refine AllReadyH.cons (o := ⟨none, .store 23 (.tmp 6) (.tmp 22), _, _, _, none⟩) rfl (fun K hK => ?_) AllReadyH.nil
    obtain ⟨ds, hds, hres⟩ := hHeld.res
    refine step_storeW (w.heap.size + 1) 23 (.tmp 6) (.tmp 22) (bs q) (bs ds) _ hres H1.out (by rw [bs_length, bs_length, hds, hdl]) H3 rfl rfl rfl rfl ?_
    intro W2 hr2 hg2 hz2
    refine hK.out _ _ (hHeld.put hdl hr2 hg2) (fun hHeld => ?_)
    clear hK K
    try simp only [Act.put]
    refine wpAnyH_done (by kernel_rfl) ?_ _
    -- END tdone
    go_wp2_with fail
    try simp only [Exit.inBlock, Exit.then]
    refine bodyPost_blk hr2 Tryd.underlying23 H1.out rfl rfl rfl rfl ⟨rfl, ?_⟩
    exact hHeld.bel

set_option maxRecDepth 100000 in
set_option maxHeartbeats 4000000 in
theorem tdigest_any (x : Nat) (hx : x ≤ 32) : ∀ (k : Nat) (w : World) (a : Option Addr) (n c : Nat) (l : List Lf) (m : Nat) (mi : Int), mi = (m : Int) → m + k = 256 → RdL w a n c l → inOrder l → unlike l → agree l m → n ≤ 100000 → Tab w 1 →
    Calls Tryd.prog 60 #[.agg (tc x).toArray, .slice a n c, .int .i64 mi] w fun e w' => e = .returned (.agg (bs (digestF x k l m)).toArray) ∧ Below w.heap.size w w' := by
  intro k
  induction k with
  | zero =>
    intro w a n c l m mi hmi hk hr ho hu ha hn hT
    subst hmi
    exact tdigest_few x hx 0 w a n c l m hr (unlike_agree hr.ok hu ha (by omega)) hT
  | succ k ih =>
    intro w a n c l m mi hmi hk hr ho hu ha hn hT
    subst hmi
    by_cases hfew : l.length ≤ 1
    · exact tdigest_few x hx (k + 1) w a n c l m hr hfew hT
    have hl := hr.len
    have hb0 := Blk.new w 113 (tc x)
    have hB0 : Below w.heap.size w (w.alloc (.cells (tc x).toArray 113)) := (Below.refl _ w).alloc (Nat.le_refl _) _
    have hz : (w.alloc (.cells (tc x).toArray 113)).heap.size = w.heap.size + 1 := by simp
    have HTC := Lib.hid (show (Tryd.prog.info? 113).map (·.size) = some (tc x).length by rw [tc_length hx]; exact sizeTc)
    have hdl := digestF_length x hx (k + 1) l m
    have H1 := Lib.hid (show (Tryd.prog.info? 23).map (·.size) = some (bs (digestF x (k + 1) l m)).length by rw [info_digest, bs_length, hdl])
    have H2 := Lib.hid (show (bs zero32).length = (bs (digestF x (k + 1) l m)).length by rw [bs_length, bs_length, zero32_length, hdl])
    have H3 := bs_one (digestF x (k + 1) l m)
    match l, hr, ho, hu, ha, hl, hfew, hdl, H1, H2, H3 with
    | [], _, _, _, _, _, hfew, _, _, _, _ => simp at hfew
    | [_], _, _, _, _, _, hfew, _, _, _, _ => simp at hfew
    | y :: z :: l, hr, ho, hu, ha, hl, _, hdl, H1, H2, H3 =>
      have hm : m < 256 := by omega
      have hnn : n = l.length + 2 := by simpa using hl.symm
      have he : digestF x (k + 1) (y :: z :: l) m = shortI (x : Int) ([1] ++ digestF x k (half (y :: z :: l) m 0) (m + 1) ++ digestF x k (half (y :: z :: l) m 1) (m + 1)) := by rw [digestF, shortI_nat x hx]; rfl
      have hd0 := digestF_length x hx k (half (y :: z :: l) m 0) (m + 1)
      have hd1 := digestF_length x hx k (half (y :: z :: l) m 1) (m + 1)
      have PA := Lib.hid (fun (W : World) (h : Below w.heap.size w W) => parted_any W a n c (y :: z :: l) (hr.below h) ho m hm ha (by omega))
      have D0 := Lib.hid (fun (W : World) (j : Nat) (hj : j ≤ n) (e : half (y :: z :: l) m 0 = (y :: z :: l).take j) (h : Below w.heap.size w W) =>
        ih W a j c (half (y :: z :: l) m 0) (m + 1) ((m : Int) + 1) (by omega) (by omega) (by rw [e]; exact (hr.below h).take j hj) (half_order ho _ _) (half_unlike hu _ _) (half_agree ha _) (by omega) (hT.below h))
      have D1 := Lib.hid (fun (W : World) (j : Nat) (hj : j ≤ n) (e : half (y :: z :: l) m 1 = (y :: z :: l).drop j) (h : Below w.heap.size w W) =>
        ih W (tailA a c j) (n - j) (c - j) (half (y :: z :: l) m 1) (m + 1) ((m : Int) + 1) (by omega) (by omega) (by rw [e]; exact (hr.below h).tailA j hj) (half_order ho _ _) (half_unlike hu _ _) (half_agree ha _) (by omega) (hT.below h))
      rw [he] at hdl H1 H2 H3 ⊢
      generalize digestF x k (half (y :: z :: l) m 0) (m + 1) = q0 at *
      generalize digestF x k (half (y :: z :: l) m 1) (m + 1) = q1 at *
      have SN := Lib.hid (fun (W : World) (h : Below w.heap.size w W) => snode_any W (x : Int) q0 q1 hd0 hd1 (hT.below h))
      generalize shortI (x : Int) ([1] ++ q0 ++ q1) = q at *
      have HC := Lib.hid (show (tc x)[0]? = some (.int .i64 (x : Int)) from rfl)
      have hwr : IntKind.i64.wrap ((m : Int) + 1) = (m : Int) + 1 := IntWalk.i64_in _ (by omega)
      have n0 : ¬ (n : Int) = 0 := by omega
      have n1 : ¬ (n : Int) = 1 := by omega
      have e0 : ((n : Int) == 0) = false := by simpa using n0
      have e1 : ((n : Int) == 1) = false := by simpa using n1
      clear he ih hnn hl
      go_enter Tryd.func60, Tryd.ntmps60
      go_wp2_with ((with_reducible refine wpList_allocB (o := ⟨some 6, _, _, _, _, _⟩) ?_ 23 ?_ zeroD_info ?_); rfl; rfl; intro w0 hr0 hg0 hz0; rw [hz] at hr0)
      have hS0 : TdAt w w0 x := ⟨hb0.grown hg0 (by simp), ⟨zero32, zero32_length, hr0⟩, hB0.grown hg0 hB0.size (fun k e => by cases e)⟩
      clear hr0 hg0 hz0 hb0 hB0 hz
      refine (PA.out w0 hS0.bel).mono ?_
      rintro e w1 ⟨j, hj, hh0, hh1, rfl, hB1⟩
      have hS := hS0.below hB1
      go_wp2_with fail
      -- REGION tdtwo 6
      refine wp_region_held_drew (S := fun W => TdAt w W x) (by kernel_rfl) hS.drew (fun hHeld => ?_)
      refine wpAnyH_take (i := 0) (oi := ⟨some 29, .fieldAddr 113 (.tmp 3) 0, _, _, _, none⟩) (v := ?_) rfl (by kernel_rfl) (by kernel_rfl) (by kernel_rfl) (fun _ _ _ h => h) (Or.inl ⟨by rfl, ?_⟩) hHeld ?_
      rotate_left
      · intro W _; go_simp; try with_reducible rfl
      try simp only [Act.put, List.setIfInBounds_toArray, List.set_cons_zero, List.set_cons_succ]
      refine wpAnyH_take (i := 1) (oi := ⟨some 30, .load 3 (.tmp 29), _, _, _, none⟩) (v := ?_) rfl (by kernel_rfl) (by kernel_rfl) (by kernel_rfl) (fun _ _ _ h => h) (Or.inl ⟨by rfl, ?_⟩) hHeld ?_
      rotate_left
      · intro W hS; have h0 := hS.box.cell HC.out; go_simp; try with_reducible rfl
      try simp only [Act.put, List.setIfInBounds_toArray, List.set_cons_zero, List.set_cons_succ]
      refine wpAnyH_take (i := 2) (oi := ⟨some 31, .load 113 (.tmp 3), _, _, _, none⟩) (v := .agg (tc x).toArray) rfl (by kernel_rfl) (by kernel_rfl) (by kernel_rfl) (fun _ _ _ h => h) (yieldsIf_load_mid (by rfl) _ _ rfl w.heap.size 0 rfl (tc x) _ (fun W h => h.box.allR) Tryd.underlying113 rfl HTC.out) hHeld ?_
      try simp only [Act.put, List.setIfInBounds_toArray, List.set_cons_zero, List.set_cons_succ]
      refine wpAnyH_take (i := 3) (oi := ⟨some 32, .move (.tmp 7), _, _, _, none⟩) (v := ?_) rfl (by kernel_rfl) (by kernel_rfl) (by kernel_rfl) (fun _ _ _ h => h) (Or.inl ⟨by rfl, ?_⟩) hHeld ?_
      rotate_left
      · intro W _; go_simp; try with_reducible rfl
      try simp only [Act.put, List.setIfInBounds_toArray, List.set_cons_zero, List.set_cons_succ]
      refine wpAnyH_take (i := 4) (oi := ⟨some 33, .move (.tmp 2), _, _, _, none⟩) (v := ?_) rfl (by kernel_rfl) (by kernel_rfl) (by kernel_rfl) (fun _ _ _ h => h) (Or.inl ⟨by rfl, ?_⟩) hHeld ?_
      rotate_left
      · intro W _; go_simp; try with_reducible rfl
      try simp only [Act.put, List.setIfInBounds_toArray, List.set_cons_zero, List.set_cons_succ]
      refine wpAnyH_take (i := 5) (oi := ⟨some 34, .binOp .add 3 (.tmp 33) (.const (.int .i64 1)) 3, _, _, _, none⟩) (v := ?_) rfl (by kernel_rfl) (by kernel_rfl) (by kernel_rfl) (fun _ _ _ h => h) (Or.inl ⟨by rfl, ?_⟩) hHeld ?_
      rotate_left
      · intro W _; go_simp; try with_reducible rfl
      try simp only [Act.put, List.setIfInBounds_toArray, List.set_cons_zero, List.set_cons_succ]
      refine wpAnyH_take (i := 7) (oi := ⟨some 36, .load 113 (.tmp 3), _, _, _, none⟩) (v := .agg (tc x).toArray) rfl (by kernel_rfl) (by kernel_rfl) (by kernel_rfl) (fun _ _ _ h => h) (yieldsIf_load_mid (by rfl) _ _ rfl w.heap.size 0 rfl (tc x) _ (fun W h => h.box.allR) Tryd.underlying113 rfl HTC.out) hHeld ?_
      try simp only [Act.put, List.setIfInBounds_toArray, List.set_cons_zero, List.set_cons_succ]
      refine wpAnyH_take (i := 8) (oi := ⟨some 37, .move (.tmp 8), _, _, _, none⟩) (v := ?_) rfl (by kernel_rfl) (by kernel_rfl) (by kernel_rfl) (fun _ _ _ h => h) (Or.inl ⟨by rfl, ?_⟩) hHeld ?_
      rotate_left
      · intro W _; go_simp; try with_reducible rfl
      try simp only [Act.put, List.setIfInBounds_toArray, List.set_cons_zero, List.set_cons_succ]
      refine wpAnyH_take (i := 9) (oi := ⟨some 38, .move (.tmp 2), _, _, _, none⟩) (v := ?_) rfl (by kernel_rfl) (by kernel_rfl) (by kernel_rfl) (fun _ _ _ h => h) (Or.inl ⟨by rfl, ?_⟩) hHeld ?_
      rotate_left
      · intro W _; go_simp; try with_reducible rfl
      try simp only [Act.put, List.setIfInBounds_toArray, List.set_cons_zero, List.set_cons_succ]
      refine wpAnyH_take (i := 10) (oi := ⟨some 39, .binOp .add 3 (.tmp 38) (.const (.int .i64 1)) 3, _, _, _, none⟩) (v := ?_) rfl (by kernel_rfl) (by kernel_rfl) (by kernel_rfl) (fun _ _ _ h => h) (Or.inl ⟨by rfl, ?_⟩) hHeld ?_
      rotate_left
      · intro W _; go_simp; try with_reducible rfl
      try simp only [Act.put, List.setIfInBounds_toArray, List.set_cons_zero, List.set_cons_succ]
      refine wpAnyH_ready (rs := [6]) (by kernel_rfl) (by simp) ?_
      refine AllReadyH.cons (o := ⟨some 35, .call { callee := .value (.func 60), args := #[.tmp 31, .tmp 32, .tmp 34], argTypes := #[113, 41, 3] }, _, _, _, none⟩) rfl (fun K hK => ?_) AllReadyH.nil
      refine step_ofR (by rfl) ?_
      go_simp
      refine (D0.out _ j hj hh0 hHeld.bel).mono ?_
      rintro x W1 ⟨rfl, hb1⟩
      refine hK.out _ _ (hHeld.below hb1) (fun hHeld => ?_)
      clear hK K
      try simp only [Act.put, List.setIfInBounds_toArray, List.set_cons_zero, List.set_cons_succ]
      refine wpAnyH_ready (rs := [11]) (by kernel_rfl) (by simp) ?_
      refine AllReadyH.cons (o := ⟨some 40, .call { callee := .value (.func 60), args := #[.tmp 36, .tmp 37, .tmp 39], argTypes := #[113, 41, 3] }, _, _, _, none⟩) rfl (fun K hK => ?_) AllReadyH.nil
      refine step_ofR (by rfl) ?_
      go_simp
      refine (D1.out _ j hj hh1 hHeld.bel).mono ?_
      rintro x W1 ⟨rfl, hb2⟩
      refine hK.out _ _ (hHeld.below hb2) (fun hHeld => ?_)
      clear hK K
      try simp only [Act.put, List.setIfInBounds_toArray, List.set_cons_zero, List.set_cons_succ]
      refine wpAnyH_ready (rs := [12]) (by kernel_rfl) (by simp) ?_
      refine AllReadyH.cons (o := ⟨some 41, .call { callee := .value (.func 85), args := #[.tmp 30, .tmp 35, .tmp 40], argTypes := #[3, 23, 23] }, _, _, _, none⟩) rfl (fun K hK => ?_) AllReadyH.nil
      refine step_ofR (by rfl) ?_
      go_simp
      refine (SN.out _ hHeld.bel).mono ?_
      rintro x W1 ⟨rfl, hb3⟩
      refine hK.out _ _ (hHeld.below hb3) (fun hHeld => ?_)
      clear hK K
      try simp only [Act.put, List.setIfInBounds_toArray, List.set_cons_zero, List.set_cons_succ]
      refine wpAnyH_ready (rs := [13]) (by kernel_rfl) (by simp) ?_
      refine AllReadyH.cons (o := ⟨none, .store 23 (.tmp 6) (.tmp 41), _, _, _, none⟩) rfl (fun K hK => ?_) AllReadyH.nil
      obtain ⟨ds, hds, hres⟩ := hHeld.res
      refine step_storeW (w.heap.size + 1) 23 (.tmp 6) (.tmp 41) (bs q) (bs ds) _ hres H1.out (by rw [bs_length, bs_length, hds, hdl]) H3 rfl rfl rfl rfl ?_
      intro W2 hr2 hg2 hz2
      refine hK.out _ _ (hHeld.put hdl hr2 hg2) (fun hHeld => ?_)
      clear hK K
      try simp only [Act.put]
      refine wpAnyH_done (by kernel_rfl) ?_ _
      -- END tdtwo
      go_wp2_with fail
      try simp only [Exit.inBlock, Exit.then]
      refine bodyPost_blk hr2 Tryd.underlying23 H1.out rfl rfl rfl rfl ⟨rfl, ?_⟩
      exact hHeld.bel
end
/-! The walks of package proof: the siblings of a path, and what is left where they end. -/
section
open Go.RowKit

theorem built_tc0 (x : Int) (f : Fin 32 → UInt8) : Tryd.prog.built 113 [(0, .int .i64 x), (1, .agg (bs (List.ofFn f)).toArray)] = some (Value.int .i64 x :: bs (List.ofFn f)).toArray := by kernel_rfl
theorem built_tc {x : Nat} (hx : x ≤ 32) : Tryd.prog.built 113 [(0, .int .i64 (x : Int)), (1, .agg (bs (emptyD x)).toArray)] = some (tc x).toArray := by
  have hl : (emptyD x).length = 32 := shortB_length _ _ hx
  obtain ⟨f, hf⟩ := as_ofFn hl
  unfold tc
  rw [hf]
  exact built_tc0 _ f
theorem zeroTc_info : (Tryd.prog.info? 113).map (fun i => (i.zero, i.size)) = some (some (.agg (Value.int .i64 0 :: bs zero32).toArray), 33) := by kernel_rfl

/-- the siblings of a path, and the leaves left where they end -/
def descF (x : Nat) : Nat → List Lf → List UInt8 → Nat → List (List UInt8) × List Lf
  | 0, l, _, _ => ([], l)
  | k + 1, l, p, m => if l.length ≤ 1 then ([], l) else
      (digestF x k (half l m (1 - bitAt p m)) (m + 1) :: (descF x k (half l m (bitAt p m)) p (m + 1)).1, (descF x k (half l m (bitAt p m)) p (m + 1)).2)
theorem descF_end (x k : Nat) {l : List Lf} (h : l.length ≤ 1) (p : List UInt8) (m : Nat) : descF x k l p m = ([], l) := by
  cases k with
  | zero => rfl
  | succ k => rw [descF, if_pos h]
theorem descF_more (x k : Nat) {l : List Lf} (h : ¬ l.length ≤ 1) (p : List UInt8) (m : Nat) :
    descF x (k + 1) l p m = (digestF x k (half l m (1 - bitAt p m)) (m + 1) :: (descF x k (half l m (bitAt p m)) p (m + 1)).1, (descF x k (half l m (bitAt p m)) p (m + 1)).2) := by
  rw [descF, if_neg h]

/-- what descent knows of a world: its own two variables -/
structure DsAt (w W : World) (b8 x : Nat) (p : List UInt8) : Prop where
  path : Blk W w.heap.size 23 (bs p)
  tree : Blk W b8 113 (tc x)
  bel : Below w.heap.size w W
theorem DsAt.below {w W W' : World} {b8 x : Nat} {p : List UInt8} (h : DsAt w W b8 x p) (hb : Below W.heap.size W W') : DsAt w W' b8 x p := ⟨h.path.below hb, h.tree.below hb, Bt h.bel hb⟩
theorem DsAt.grown {w W W' : World} {b8 x : Nat} {p : List UInt8} (h : DsAt w W b8 x p) {row : Option Nat} (hg : W.grownBy W' row) (h1 : row ≠ some w.heap.size) (h2 : row ≠ some b8) (h3 : ∀ k, row = some k → w.heap.size ≤ k) : DsAt w W' b8 x p :=
  ⟨h.path.grown hg h1, h.tree.grown hg h2, h.bel.grown hg h.bel.size h3⟩

set_option maxRecDepth 100000 in
set_option maxHeartbeats 4000000 in
theorem descent_any (w : World) (x : Nat) (hx : x ≤ 32) (a : Option Addr) (n c : Nat) (l : List Lf) (hr : RdL w a n c l) (ho : inOrder l) (hu : unlike l) (hn : n ≤ 100000) (p : List UInt8) (hp : p.length = 32) (hT : Tab w 1) :
    Calls Tryd.prog 33 #[.int .i64 (x : Int), .slice a n c, .agg (bs p).toArray] w fun e w' => ∃ a1 c1 a2 c2, e = .returned (.tuple #[.slice a1 (descF x 256 l p 0).1.length c1, .slice a2 (descF x 256 l p 0).2.length c2]) ∧
      OwnD w' w.heap.size (.slice a1 (descF x 256 l p 0).1.length c1) (descF x 256 l p 0).1 ∧ RdL w a2 (descF x 256 l p 0).2.length c2 (descF x 256 l p 0).2 ∧ Below w.heap.size w w' := by
  have hb0 := Blk.new w 23 (bs p)
  have hB0 : Below w.heap.size w (w.alloc (.cells (bs p).toArray 23)) := (Below.refl _ w).alloc (Nat.le_refl _) _
  have hz : (w.alloc (.cells (bs p).toArray 23)).heap.size = w.heap.size + 1 := by simp
  have SE := Lib.hid (fun (W : World) (h : Below w.heap.size w W) => sempty_any W (x : Int) (hT.below h))
  rw [show shortI (x : Int) [2] = emptyD x from shortI_nat x hx [2]] at SE
  have BT := Lib.hid (built_tc hx)
  have HTC := Lib.hid (show (Tryd.prog.info? 113).map (·.size) = some (tc x).length by rw [tc_length hx]; exact sizeTc)
  have HTZ := Lib.hid (show (Value.int .i64 0 :: bs zero32).length = (tc x).length by rw [tc_length hx]; simp [bs_length, zero32_length])
  have HT1 : ∀ u ∈ tc x, u.oneCell' = true := by
    intro u hu
    simp only [tc, List.mem_cons] at hu
    rcases hu with rfl | h
    · rfl
    · exact bs_one _ u h
  have HP := Lib.hid (show (Tryd.prog.info? 23).map (·.size) = some (bs p).length by rw [info_digest, bs_length, hp])
  generalize hR : descF x 256 l p 0 = R at *
  have HR := Lib.hid hR
  clear hR
  generalize emptyD x = ed at *
  go_enter Tryd.func33, Tryd.ntmps33
  go_wp2_with fail
  generalize w.alloc _ = w0 at *
  refine (SE.out w0 hB0).mono ?_
  rintro e w1 ⟨rfl, hB1⟩
  have hB01 := Bt hB0 hB1
  have hb1 := hb0.below hB1
  have hlt1 := hb1.lt
  go_wp2_with (first | ((with_reducible refine wpList_buildI (dst := some 15) BT.out ?_ ?_); rfl) | ((with_reducible refine wpList_allocB (o := ⟨some 8, _, _, _, _, _⟩) ?_ 113 ?_ zeroTc_info ?_); rfl; rfl; intro w2 hr2 hg2 hz2) | ((with_reducible refine wpList_storeB (o := ⟨none, .store 113 (.tmp 8) (.tmp 15), _, _, _, _⟩) ?_ 113 (.tmp 8) (.tmp 15) ?_ ?_ ?_ hr2 HTC.out HTZ.out HT1 ?_); rfl; rfl; rfl; rfl; intro w3 hr3 hg3 hz3))
  have hS3 : DsAt w w3 w1.heap.size x p := ⟨(hb1.grown hg2 (by simp)).grown hg3 (by simp; omega), hr3, (hB01.grown hg2 hB01.size (fun k e => by cases e)).grown hg3 (by have := hB01.size; omega) (fun k e => by cases e; exact hB01.size)⟩
  have hge : w.heap.size < w1.heap.size := hlt1
  generalize w1.heap.size = b8 at *
  clear hb0 hb1 hlt1 hr2 hr3 hg2 hg3 hz2 hz3
  go_loopw [1, 6, 9] (fun s r t wr => ∃ (m : Nat) (a' : Option Addr) (n' c' : Nat) (l' : List Lf) (q : List (List UInt8)) (qa : Option Addr) (qc : Nat), m ≤ 256 ∧ t = .int .i64 (m : Int) ∧ s = .slice a' n' c' ∧ RdL w a' n' c' l' ∧ inOrder l' ∧ unlike l' ∧ agree l' m ∧ n' ≤ 100000 ∧
    r = .slice qa q.length qc ∧ OwnD wr (w.heap.size + 1) (.slice qa q.length qc) q ∧ q.length = m ∧ (q ++ (descF x (256 - m) l' p m).1, (descF x (256 - m) l' p m).2) = R ∧ DsAt w wr b8 x p) (fun _ _ t _ => 256 - (intOf t).toNat)
  case atStart => exact ⟨0, a, n, c, l, [], none, 0, by omega, rfl, rfl, hr, ho, hu, (fun _ _ _ _ i hi => absurd hi (Nat.not_lt_zero i)), hn, rfl, OwnD.nil0 _ _, rfl, by rw [← HR.out]; rfl, hS3⟩
  case round =>
    obtain ⟨m, a', n', c', l', q, qa, qc, hm, rfl, rfl, hr', ho', hu', ha', hn', rfl, hO, hqm, hRR, hS⟩ := hrel
    have hl' := hr'.len
    by_cases hfew : l'.length ≤ 1
    · have hnl : ¬ (1 : Int) < (n' : Int) := by omega
      rw [descF_end x _ hfew] at hRR
      have hR1 : q = R.1 := by rw [← hRR]; simp
      have hR2 : l' = R.2 := by rw [← hRR]
      clear hRR
      go_wp2_with fail
      go_ret2
      subst hR1
      subst hR2
      exact ⟨qa, qc, a', c', by rw [hl']; rfl, hO.lower (Nat.le_succ _), by rw [hl']; exact hr', hS.bel⟩
    · have hnl : (1 : Int) < (n' : Int) := by omega
      have hm256 : m < 256 := by
        rcases Nat.lt_or_ge m 256 with h | h
        · exact h
        · exact absurd (unlike_agree hr'.ok hu' ha' h) hfew
      obtain ⟨k, hk⟩ : ∃ k, 256 - m = k + 1 := ⟨255 - m, by omega⟩
      rw [hk, descF_more x k hfew] at hRR
      have PA := Lib.hid (fun (W : World) (h : Below w.heap.size w W) => parted_any W a' n' c' l' (hr'.below h) ho' m hm256 ha' (by omega))
      have PB := Lib.hid (fun (W : World) => pbit_any W p hp m hm256)
      have TD := Lib.hid (fun (W : World) (h : Below w.heap.size w W) (a2 : Option Addr) (n2 c2 : Nat) (b : Nat) (h2 : RdL W a2 n2 c2 (half l' m b)) (hn2 : n2 ≤ 100000) =>
        tdigest_any x hx k W a2 n2 c2 (half l' m b) (m + 1) ((m : Int) + 1) (by omega) (by omega) h2 (half_order ho' _ _) (half_unlike hu' _ _) (half_agree ha' _) hn2 (hT.below h))
      have hb2 : bitAt p m = 0 ∨ bitAt p m = 1 := by have := bitAt_lt p m; omega
      have QL := Lib.hid hqm
      clear hl' hqm
      go_wp2_with fail
      refine (PA.out wr hS.bel).mono ?_
      rintro e w4 ⟨j, hj, hh0, hh1, rfl, hB4⟩
      have hS4 := hS.below hB4
      have hO4 := hO.below hB4
      have hp4 := hS4.path
      go_wp2_with ((with_reducible refine wpList_loadB (o := ⟨some 27, _, _, _, _, _⟩) ?_ 23 (.tmp 5) ?_ ?_ hp4 Tryd.underlying23 ?_ HP.out ?_); rfl; rfl; rfl; rfl)
      rcases hb2 with hb | hb
      · rw [hb] at hRR
        rw [hb] at PB
        have TD2 := Lib.hid (fun (W : World) (h : Below w.heap.size w W) => TD.out W h (tailA a' c' j) (n' - j) (c' - j) 1 (RdL.below (by rw [hh1]; exact hr'.tailA j hj) h) (by omega))
        have hdg := digestF_length x hx k (half l' m 1) (m + 1)
        have RN := Lib.hid (show RdL w a' j c' (half l' m 0) from (by rw [hh0]; exact hr'.take j hj))
        have HOr := Lib.hid (half_order ho' m 0)
        have HUn := Lib.hid (half_unlike hu' m 0)
        have HAg := Lib.hid (half_agree ha' 0)
        have hRR2 := Lib.hid hRR
        clear hRR TD
        generalize digestF x k (half l' m 1) (m + 1) = dg at *
        generalize half l' m 0 = L2 at *
        refine (PB.out w4).mono ?_
        rintro e w5 ⟨rfl, hB5⟩
        have hS5 := hS4.below hB5
        have hO5 := hO4.below hB5
        have ht5 := hS5.tree
        go_wp2_with ((with_reducible refine wpList_loadB (o := ⟨some 33, _, _, _, _, _⟩) ?_ 113 (.tmp 8) ?_ ?_ ht5 Tryd.underlying113 ?_ HTC.out ?_); rfl; rfl; rfl; rfl)
        refine (TD2.out w5 hS5.bel).mono ?_
        rintro e w6 ⟨rfl, hB6⟩
        have hS7 := (hS5.below hB6).below ((Below.refl _ w6).alloc (Nat.le_refl _) (.cells (dcs [dg]).toArray 23))
        have hO7 := (hO5.below hB6).below ((Below.refl _ w6).alloc (Nat.le_refl _) (.cells (dcs [dg]).toArray 23))
        have hr7 := RdD.many w6 (n := 1) (okd.single hdg) rfl (by decide)
        have hbs := hS7.path.lt
        go_wp2_with (first | ((with_reducible refine wpList_oneD (o := ⟨some 38, _, _, _, _, _⟩) ?_ (.tmp 37) ?_ hdg ?_ ?_); rfl; rfl; rfl) | (at_builtin; refine wpList_appD (base := w.heap.size + 1) (v := .slice qa q.length qc) (q := q) rfl (.tmp 32) (.tmp 38) rfl rfl hO7 rfl hr7 (by have := QL.out; omega) hbs ?_; intro a3 c3 w8 hO8 hg8 _))
        have hS8 := hS7.grown hg8 (fun e => by have := (hO7.lt e).1; omega) (hO7.ne hS7.tree.at_ (by decide)) (fun z e => by have := (hO7.lt e).1; omega)
        have hlen : (q ++ [dg]).length = q.length + 1 := by simp
        have hqm := QL.out
        go_roundw
        case rel => exact ⟨m + 1, a', j, c', L2, q ++ [dg], a3, c3, by omega, by go_num, rfl, RN.out, HOr.out, HUn.out, HAg.out, by omega, by rw [hlen], by rw [hlen]; exact hO8, by omega, by rw [show 256 - (m + 1) = k by omega, List.append_assoc]; exact hRR2.out, hS8⟩
        case measure => simp [intOf]; omega
      · rw [hb] at hRR
        rw [hb] at PB
        have TD2 := Lib.hid (fun (W : World) (h : Below w.heap.size w W) => TD.out W h a' j c' 0 (RdL.below (by rw [hh0]; exact hr'.take j hj) h) (by omega))
        have hdg := digestF_length x hx k (half l' m 0) (m + 1)
        have RN := Lib.hid (show RdL w (tailA a' c' j) (n' - j) (c' - j) (half l' m 1) from (by rw [hh1]; exact hr'.tailA j hj))
        have HOr := Lib.hid (half_order ho' m 1)
        have HUn := Lib.hid (half_unlike hu' m 1)
        have HAg := Lib.hid (half_agree ha' 1)
        have hRR2 := Lib.hid hRR
        clear hRR TD
        generalize digestF x k (half l' m 0) (m + 1) = dg at *
        generalize half l' m 1 = L2 at *
        refine (PB.out w4).mono ?_
        rintro e w5 ⟨rfl, hB5⟩
        have hS5 := hS4.below hB5
        have hO5 := hO4.below hB5
        have ht5 := hS5.tree
        go_wp2_with ((with_reducible refine wpList_loadB (o := ⟨some 33, _, _, _, _, _⟩) ?_ 113 (.tmp 8) ?_ ?_ ht5 Tryd.underlying113 ?_ HTC.out ?_); rfl; rfl; rfl; rfl)
        refine (TD2.out w5 hS5.bel).mono ?_
        rintro e w6 ⟨rfl, hB6⟩
        have hS7 := (hS5.below hB6).below ((Below.refl _ w6).alloc (Nat.le_refl _) (.cells (dcs [dg]).toArray 23))
        have hO7 := (hO5.below hB6).below ((Below.refl _ w6).alloc (Nat.le_refl _) (.cells (dcs [dg]).toArray 23))
        have hr7 := RdD.many w6 (n := 1) (okd.single hdg) rfl (by decide)
        have hbs := hS7.path.lt
        go_wp2_with (first | ((with_reducible refine wpList_oneD (o := ⟨some 38, _, _, _, _, _⟩) ?_ (.tmp 37) ?_ hdg ?_ ?_); rfl; rfl; rfl) | (at_builtin; refine wpList_appD (base := w.heap.size + 1) (v := .slice qa q.length qc) (q := q) rfl (.tmp 32) (.tmp 38) rfl rfl hO7 rfl hr7 (by have := QL.out; omega) hbs ?_; intro a3 c3 w8 hO8 hg8 _))
        have hS8 := hS7.grown hg8 (fun e => by have := (hO7.lt e).1; omega) (hO7.ne hS7.tree.at_ (by decide)) (fun z e => by have := (hO7.lt e).1; omega)
        have hlen : (q ++ [dg]).length = q.length + 1 := by simp
        have hqm := QL.out
        go_roundw
        case rel => exact ⟨m + 1, (tailA a' c' j), (n' - j), (c' - j), L2, q ++ [dg], a3, c3, by omega, by go_num, rfl, RN.out, HOr.out, HUn.out, HAg.out, by omega, by rw [hlen], by rw [hlen]; exact hO8, by omega, by rw [show 256 - (m + 1) = k by omega, List.append_assoc]; exact hRR2.out, hS8⟩
        case measure => simp [intOf]; omega
end
/-! What Make makes, on lists: the same whatever the leaves' order. -/
section
open Go.RowKit

theorem descF_perm (x : Nat) : ∀ (k : Nat) (l l' : List Lf) (p : List UInt8) (m : Nat), l.Perm l' → (descF x k l p m).1 = (descF x k l' p m).1 ∧ (descF x k l p m).2.Perm (descF x k l' p m).2
  | 0, _, _, _, _, h => ⟨rfl, h⟩
  | k + 1, l, l', p, m, h => by
    by_cases hf : l.length ≤ 1
    · rw [descF_end x _ hf, descF_end x _ (by rw [← h.length_eq]; exact hf)]
      exact ⟨rfl, h⟩
    · rw [descF_more x k hf, descF_more x k (by rw [← h.length_eq]; exact hf)]
      obtain ⟨h1, h2⟩ := descF_perm x k _ _ p (m + 1) (half_perm h m (bitAt p m))
      exact ⟨by rw [h1, digestF_perm x k _ _ (m + 1) (half_perm h m (1 - bitAt p m))], h2⟩
/-- the proof for a path -/
def mkPf (x : Nat) (l : List Lf) (p : List UInt8) : Pf :=
  match findL l p, (descF x 256 l p 0).2 with
  | .none, [y] => ⟨(descF x 256 l p 0).1, true, y.path, y.val⟩
  | _, _ => ⟨(descF x 256 l p 0).1, false, zero32, zero32⟩
theorem mkPf_perm (x : Nat) {l l' : List Lf} (h : l.Perm l') (hu : unlike l) (p : List UInt8) : mkPf x l p = mkPf x l' p := by
  obtain ⟨h1, h2⟩ := descF_perm x 256 l l' p 0 h
  have h3 := find_same (fun y => h.mem_iff) hu ((unlike_perm h).1 hu) p
  unfold mkPf
  rw [h3, h1]
  generalize (descF x 256 l p 0).2 = e at *
  generalize (descF x 256 l' p 0).2 = e' at *
  match e, h2 with
  | [], h2 => rw [h2.nil_eq]
  | [y], h2 => rw [List.singleton_perm.1 h2]
  | y :: z :: e, h2 =>
    have := h2.length_eq
    match e', this with
    | a :: b :: e', _ => cases findL l' p <;> rfl
theorem descF_few (x : Nat) : ∀ (k : Nat) (l : List Lf) (p : List UInt8) (m : Nat), m + k = 256 → oks l → unlike l → agree l m → (descF x k l p m).2.length ≤ 1
  | 0, l, p, m, hm, hk, hu, ha => unlike_agree hk hu ha (by omega)
  | k + 1, l, p, m, hm, hk, hu, ha => by
    by_cases hf : l.length ≤ 1
    · rw [descF_end x _ hf]; exact hf
    · rw [descF_more x k hf]
      exact descF_few x k _ p (m + 1) (by omega) (half_ok hk _ _) (half_unlike hu _ _) (half_agree ha _)
theorem descF_short (x : Nat) : ∀ (k : Nat) (l : List Lf) (p : List UInt8) (m : Nat), (descF x k l p m).1.length ≤ k
  | 0, _, _, _ => Nat.le_refl _
  | k + 1, l, p, m => by
    by_cases hf : l.length ≤ 1
    · rw [descF_end x _ hf]; exact Nat.zero_le _
    · rw [descF_more x k hf]
      have := descF_short x k (half l m (bitAt p m)) p (m + 1)
      simp only [List.length_cons]
      omega
end
/-! The walk of package proof's Make: where it refuses. (What it makes: not begun.) -/
section
open Go.RowKit

/-- the results of a function that names a claim and a proof first, and hands back something beside them -/
theorem results_blk3 {fn : Func} {p q t : Tmp} {ty ty2 : TypeId} (h : fn.results = #[.cell p ty, .cell q ty2, .tmp t]) (tmps : Array Value) (w : World) (g g2 : Nat) (u u2 : TypeId) (vs vs2 : List Value) (d d2 : TypeDesc)
    (hp : tmps.getD p undef = .pointer (some ⟨g, 0, none⟩)) (hg : Blk w g u vs) (hu : Tryd.prog.underlying ty = some d) (hd : d.isRow = true) (hi : (Tryd.prog.info? ty).map (·.size) = some vs.length)
    (hq : tmps.getD q undef = .pointer (some ⟨g2, 0, none⟩)) (hg2 : Blk w g2 u2 vs2) (hu2 : Tryd.prog.underlying ty2 = some d2) (hd2 : d2.isRow = true) (hi2 : (Tryd.prog.info? ty2).map (·.size) = some vs2.length) :
    (results fn tmps).run Tryd.prog w = .ok (.tuple #[.agg vs.toArray, .agg vs2.toArray, tmps.getD t undef]) w := by
  have hp' : tmps[p]?.getD undef = .pointer (some ⟨g, 0, none⟩) := by simpa using hp
  have hq' : tmps[q]?.getD undef = .pointer (some ⟨g2, 0, none⟩) := by simpa using hq
  simp [results, h, hp', hq', asAddr, run_loadVar_row w g u ty _ (0, 0) _ hg.at_ hu (by cases d <;> simp_all) (by simpa using hi), run_loadVar_row w g2 u2 ty2 _ (0, 0) _ hg2.at_ hu2 (by cases d2 <;> simp_all) (by simpa using hi2)]
theorem built_pcZ : Tryd.prog.built 28 [] = some (pc none 0 0 pf0).toArray := by kernel_rfl
theorem pcZ_len : (pc none 0 0 pf0).length = 66 := by simp [pc, pf0, bs_length, zero32_length]
theorem sizePf : (Tryd.prog.info? 28).map (·.size) = some 66 := by kernel_rfl
theorem pcZ_one : ∀ u ∈ pc none 0 0 pf0, u.oneCell' = true := by
  intro u hu
  simp only [pc, List.mem_cons, List.mem_append] at hu
  rcases hu with rfl | rfl | h | h
  · rfl
  · rfl
  · exact bs_one _ u h
  · exact bs_one _ u h

set_option maxRecDepth 100000 in
set_option maxHeartbeats 2000000 in
/-- Make, of no width -/
theorem make_no (w : World) (x : Int) (hx : x < 0 ∨ 32 < x) (s : Value) (p : List UInt8) :
    Calls Tryd.prog 16 #[.int .i64 x, s, .agg (bs p).toArray] w fun e w' => e = .returned (.tuple #[.agg (clc false zero32).toArray, .agg (pc none 0 0 pf0).toArray, .int .i64 1]) ∧ Below w.heap.size w w' := by
  have hB0 : Below w.heap.size w (w.alloc (.cells (bs p).toArray 23)) := (Below.refl _ w).alloc (Nat.le_refl _) _
  have hz : (w.alloc (.cells (bs p).toArray 23)).heap.size = w.heap.size + 1 := by simp
  have BC := Lib.hid built_clcZ
  have BP := Lib.hid built_pcZ
  have IC := Lib.hid (show (Tryd.prog.info? 25).map (·.size) = some (clc false zero32).length by rw [clcZ_len]; exact sizeClc)
  have IP := Lib.hid (show (Tryd.prog.info? 28).map (·.size) = some (pc none 0 0 pf0).length by rw [pcZ_len]; exact sizePf)
  have OC := clc_one false zero32
  have OP := pcZ_one
  have ZC := zeroClc_info
  have ZP := zeroP_info
  generalize clc false zero32 = C at *
  generalize pc none 0 0 pf0 = P at *
  go_enter Tryd.func16, Tryd.ntmps16
  go_wp2_with (first | ((with_reducible refine wpList_allocB (o := ⟨some 6, _, _, _, _, _⟩) ?_ 25 ?_ ZC ?_); rfl; rfl; intro w1 hr1 hg1 hz1; rw [hz] at hr1 hz1) | ((with_reducible refine wpList_allocB (o := ⟨some 7, _, _, _, _, _⟩) ?_ 28 ?_ ZP ?_); rfl; rfl; intro w2 hr2 hg2 hz2; rw [hz1] at hr2 hz2))
  refine (new_no _ x hx).mono ?_
  rintro e w3 ⟨rfl, rfl⟩
  have hr1' := hr1.grown hg2 (by simp)
  go_wp2_with (first | ((with_reducible refine wpList_buildI (dst := some 23) BC.out ?_ ?_); rfl) | ((with_reducible refine wpList_buildI (dst := some 24) BP.out ?_ ?_); rfl) | ((with_reducible refine wpList_storeB (o := ⟨none, .store 25 (.tmp 6) (.tmp 23), _, _, _, _⟩) ?_ 25 (.tmp 6) (.tmp 23) ?_ ?_ ?_ hr1' IC.out rfl OC ?_); rfl; rfl; rfl; rfl; intro w4 hr4 hg4 hz4; have hr2' := hr2.grown hg4 (fun e => by injection e with e; omega)) | ((with_reducible refine wpList_storeB (o := ⟨none, .store 28 (.tmp 7) (.tmp 24), _, _, _, _⟩) ?_ 28 (.tmp 7) (.tmp 24) ?_ ?_ ?_ hr2' IP.out rfl OP ?_); rfl; rfl; rfl; rfl; intro w5 hr5 hg5 hz5))
  try simp only [Exit.inBlock, Exit.then]
  have hr4' := hr4.grown hg5 (fun e => by injection e with e; omega)
  have hB1 := (hB0.grown hg1 hB0.size (fun k e => by cases e)).grown hg2 (by omega) (fun k e => by cases e)
  refine bodyPost_ret (results_blk3 rfl _ _ _ _ _ _ _ _ _ _ rfl hr4' Tryd.underlying25 rfl IC.out rfl hr5 Tryd.underlying28 rfl IP.out) rfl ⟨rfl, ?_⟩
  exact (hB1.grown hg4 (by omega) (fun k e => by cases e; omega)).grown hg5 (by omega) (fun k e => by cases e; omega)

set_option maxRecDepth 100000 in
set_option maxHeartbeats 2000000 in
/-- Make, of leaves that no tree takes -/
theorem make_err (w : World) (x : Nat) (hx : x ≤ 32) (a : Option Addr) (n c : Nat) (l : List Lf) (hr : RdL w a n c l) (p : List UInt8) (he : setE [] l ≠ 0) :
    Calls Tryd.prog 16 #[.int .i64 (x : Int), .slice a n c, .agg (bs p).toArray] w fun e w' => e = .returned (.tuple #[.agg (clc false zero32).toArray, .agg (pc none 0 0 pf0).toArray, .int .i64 (setE [] l)]) ∧ Below w.heap.size w w' := by
  have hB0 : Below w.heap.size w (w.alloc (.cells (bs p).toArray 23)) := (Below.refl _ w).alloc (Nat.le_refl _) _
  have hz : (w.alloc (.cells (bs p).toArray 23)).heap.size = w.heap.size + 1 := by simp
  have NW := Lib.hid (fun (W : World) (h : Below w.heap.size w W) => sm_new w W x hx h)
  have ST := Lib.hid (fun (W : World) (tp : Nat) (h : Sm w x tp [] W) => sm_set h a n c l (hr.below h.bel) (fun h => sorts_all n (by omega)))
  have BC := Lib.hid built_clcZ
  have BP := Lib.hid built_pcZ
  have IC := Lib.hid (show (Tryd.prog.info? 25).map (·.size) = some (clc false zero32).length by rw [clcZ_len]; exact sizeClc)
  have IP := Lib.hid (show (Tryd.prog.info? 28).map (·.size) = some (pc none 0 0 pf0).length by rw [pcZ_len]; exact sizePf)
  have OC := clc_one false zero32
  have OP := pcZ_one
  have ZC := zeroClc_info
  have ZP := zeroP_info
  generalize clc false zero32 = C at *
  generalize pc none 0 0 pf0 = P at *
  generalize setE [] l = er at *
  have he' : (er == 0) = false := by simpa using he
  go_enter Tryd.func16, Tryd.ntmps16
  go_wp2_with (first | ((with_reducible refine wpList_allocB (o := ⟨some 6, _, _, _, _, _⟩) ?_ 25 ?_ ZC ?_); rfl; rfl; intro w1 hr1 hg1 hz1; rw [hz] at hr1 hz1) | ((with_reducible refine wpList_allocB (o := ⟨some 7, _, _, _, _, _⟩) ?_ 28 ?_ ZP ?_); rfl; rfl; intro w2 hr2 hg2 hz2; rw [hz1] at hr2 hz2))
  have hr1' := hr1.grown hg2 (by simp)
  have hB1 := (hB0.grown hg1 hB0.size (fun k e => by cases e)).grown hg2 (by omega) (fun k e => by cases e)
  refine (NW.out w2 hB1).mono ?_
  rintro e w3 ⟨tp, rfl, hS3, hB3⟩
  go_wp2_with fail
  refine (ST.out w3 tp hS3).mono ?_
  rintro e w4 ⟨rfl, hS4, hg4⟩
  have k1 := hr1'.below hB3
  have k2 := hr2.below hB3
  have q1 := k1.grown hg4 (by simpa using hS3.ne k1 (by decide))
  have q2 := k2.grown hg4 (by simpa using hS3.ne k2 (by decide))
  have hl4 := q2.lt
  go_wp2_with (first | ((with_reducible refine wpList_buildI (dst := some 31) BC.out ?_ ?_); rfl) | ((with_reducible refine wpList_buildI (dst := some 32) BP.out ?_ ?_); rfl) | ((with_reducible refine wpList_storeB (o := ⟨none, .store 25 (.tmp 6) (.tmp 31), _, _, _, _⟩) ?_ 25 (.tmp 6) (.tmp 31) ?_ ?_ ?_ q1 IC.out rfl OC ?_); rfl; rfl; rfl; rfl; intro w5 hr5 hg5 hz5; have q2' := q2.grown hg5 (fun e => by injection e with e; omega)) | ((with_reducible refine wpList_storeB (o := ⟨none, .store 28 (.tmp 7) (.tmp 32), _, _, _, _⟩) ?_ 28 (.tmp 7) (.tmp 32) ?_ ?_ ?_ q2' IP.out rfl OP ?_); rfl; rfl; rfl; rfl; intro w6 hr6 hg6 hz6))
  try simp only [Exit.inBlock, Exit.then]
  have hr5' := hr5.grown hg6 (fun e => by injection e with e; omega)
  refine bodyPost_ret (results_blk3 rfl _ _ _ _ _ _ _ _ _ _ rfl hr5' Tryd.underlying25 rfl IC.out rfl hr6 Tryd.underlying28 rfl IP.out) rfl ⟨rfl, ?_⟩
  exact (hS4.bel.grown hg5 (by omega) (fun k e => by cases e; omega)).grown hg6 (by omega) (fun k e => by cases e; omega)
end
/-! The walk of package proof's Make: what it makes. -/
section
open Go.RowKit
set_option maxRecDepth 100000

theorem setI_perm {l : List Lf} (h : setE [] l = 0) : (setI [] l).Perm l ∧ unlike l ∧ l.length ≤ 4096 := by
  obtain ⟨h1, h2⟩ := set_nil l
  rw [h1] at h
  split at h
  · rename_i hl
    split at h
    · simp at h
    · rename_i ht
      have ht' : twiceB l = false := by simpa using ht
      have hu := (twiceB_iff l).1 ht'
      rw [h2, if_pos hl, if_neg ht]
      refine ⟨?_, hu, hl⟩
      exact perm_of_mem (setF_unlike l [] List.Pairwise.nil) hu (fun y => by rw [setF_mem l [] hu y]; simp)
  · simp at h

theorem mkPf_other {x : Nat} {l : List Lf} {p : List UInt8} {y : Lf} (h : findL l p = none) (h2 : (descF x 256 l p 0).2 = [y]) : mkPf x l p = ⟨(descF x 256 l p 0).1, true, y.path, y.val⟩ := by
  unfold mkPf
  rw [h, h2]
theorem mkPf_plain {x : Nat} {l : List Lf} {p : List UInt8} (h : ¬ (findL l p = none ∧ (descF x 256 l p 0).2.length = 1)) : mkPf x l p = ⟨(descF x 256 l p 0).1, false, zero32, zero32⟩ := by
  unfold mkPf
  cases h1 : findL l p with
  | some y => rfl
  | none =>
    generalize (descF x 256 l p 0).2 = e at *
    match e with
    | [] => rfl
    | [y] => exact absurd ⟨h1, rfl⟩ h
    | _ :: _ :: _ => rfl
theorem built_pc (a : Option Addr) (n c : Nat) (q : List (List UInt8)) : Tryd.prog.built 28 [(0, .slice a n c)] = some (pc a n c ⟨q, false, zero32, zero32⟩).toArray := by kernel_rfl
theorem clc_put (b : Bool) {v : List UInt8} (hv : v.length = 32) : (splice (clc false zero32) 1 (bs v)).set 0 (.bool b) = clc b v := by
  have e1 := splice_app [Value.bool false] (bs zero32) (bs v)
  have d1 : (bs zero32).drop (bs v).length = [] := List.drop_eq_nil_of_le (by rw [bs_length, bs_length, zero32_length, hv]; exact Nat.le_refl _)
  rw [d1, List.append_nil] at e1
  have e2 : splice (clc false zero32) 1 (bs v) = [Value.bool false] ++ bs v := e1
  rw [e2]
  rfl
/-- a claim and a proof of a call's own -/
structure CpAt (W : World) (g h : Nat) (C P : List Value) : Prop where
  c : Blk W g 25 C
  p : Blk W h 28 P
theorem CpAt.grown {W W' : World} {g h : Nat} {C P : List Value} (H : CpAt W g h C P) {row : Option Nat} (hg : W.grownBy W' row) (h1 : row ≠ some g) (h2 : row ≠ some h) : CpAt W' g h C P := ⟨H.c.grown hg h1, H.p.grown hg h2⟩
theorem CpAt.drew {W : World} {g h : Nat} {C P : List Value} (H : CpAt W g h C P) : CpAt W.drew g h C P := ⟨H.c.drew, H.p.drew⟩
theorem splice_lenB (vs cs : List Value) (o : Nat) (h : o + cs.length ≤ vs.length) : (splice vs o cs).length = vs.length := by
  simp [splice]
  omega
theorem pc_setY (a : Option Addr) (n c : Nat) (q : List (List UInt8)) (p v : List UInt8) (hp : p.length = 32) (hv : v.length = 32) : splice (splice ((pc a n c ⟨q, false, zero32, zero32⟩).set 1 (.bool true)) 2 (bs p)) 34 (bs v) = pc a n c ⟨q, true, p, v⟩ := by
  have e0 : (pc a n c ⟨q, false, zero32, zero32⟩).set 1 (.bool true) = [Value.slice a n c, .bool true] ++ (bs zero32 ++ bs zero32) := rfl
  have e1 := splice_app [Value.slice a n c, .bool true] (bs zero32 ++ bs zero32) (bs p)
  have d1 : (bs zero32 ++ bs zero32).drop (bs p).length = bs zero32 := by rw [bs_length, hp, ← zero32_length, ← bs_length zero32, List.drop_left]
  rw [d1] at e1
  have e2 := splice_app ([Value.slice a n c, .bool true] ++ bs p) (bs zero32) (bs v)
  have d2 : (bs zero32).drop (bs v).length = [] := List.drop_eq_nil_of_le (by rw [bs_length, bs_length, zero32_length, hv]; exact Nat.le_refl _)
  have l2 : ([Value.slice a n c, .bool true] ++ bs p).length = 34 := by simp [bs_length, hp]
  rw [d2, l2, List.append_nil] at e2
  rw [e0]
  have e1' : splice ([Value.slice a n c, .bool true] ++ (bs zero32 ++ bs zero32)) 2 (bs p) = [Value.slice a n c, .bool true] ++ (bs p ++ bs zero32) := e1
  rw [e1', ← List.append_assoc, e2]
  rfl
/-- the two parts of a leaf that can be read -/
structure TwoY (W : World) (b off : Nat) (y : Lf) : Prop where
  fst : W.rangeAt b off (bs y.path)
  snd : W.rangeAt b (off + 32) (bs y.val)
theorem TwoY.grown {W W' : World} {b off : Nat} {y : Lf} {row : Option Nat} (h : TwoY W b off y) (hg : W.grownBy W' row) (hne : row ≠ some b) : TwoY W' b off y := ⟨range_kept h.fst hg hne, range_kept h.snd hg hne⟩
theorem TwoY.drew {W : World} {b off : Nat} {y : Lf} (h : TwoY W b off y) : TwoY W.drew b off y := ⟨h.fst, h.snd⟩
theorem RdL.two {W : World} {a : Option Addr} {c : Nat} {y : Lf} (h : RdL W a 1 c [y]) : ∃ b off, a = some ⟨b, off, none⟩ ∧ b < W.heap.size ∧ TwoY W b off y ∧ y.ok := by
  obtain ⟨b, off, e, hb, hr⟩ := h.elems (by decide)
  have hy := h.ok y (by simp)
  have h0 : W.rangeAt b off (lc y) := by simpa using hr 0 (by decide)
  refine ⟨b, off, e, hb, ⟨fun j u hu => h0 j u ?_, fun j u hu => ?_⟩, hy⟩
  · have hj : j < (bs y.path).length := (List.getElem?_eq_some_iff.1 hu).1
    rw [lc, List.getElem?_append_left hj]; exact hu
  · have h1 := h0 (32 + j) u (by
      have hl : (bs y.path).length = 32 := by rw [bs_length, hy.1]
      rw [lc, List.getElem?_append_right (by omega), hl, Nat.add_sub_cancel_left]; exact hu)
    rw [← Nat.add_assoc] at h1
    exact h1
theorem isNone_of {α : Type} {o : Option α} (h : o.isSome = false) : o = none := by
  cases o with
  | none => rfl
  | some y => cases h
/-- what Make knows behind descent: the claim, the results' variables, the siblings -/
structure MkE (w W : World) (g m h : Nat) (C : List Value) (s : Value) (D : List (List UInt8)) : Prop where
  c : Blk W g 25 C
  r1 : Blk W (w.heap.size + 1) 25 (clc false zero32)
  r2 : Blk W (w.heap.size + 1 + 1) 28 (pc none 0 0 pf0)
  o : OwnD W m s D
  ob : ∀ x, s.ownBlock = some x → m ≤ x ∧ x < h
  b : Below w.heap.size w W
  lt1 : w.heap.size + 1 + 1 < g
  lt2 : g < m
  lt3 : m ≤ h
section
variable {w W W' : World} {g m h : Nat} {C : List Value} {s : Value} {D : List (List UInt8)}
theorem MkE.new (H : MkE w W g m h C s D) (hg : W.grownBy W' none) : MkE w W' g m h C s D :=
  ⟨H.c.grown hg (by simp), H.r1.grown hg (by simp), H.r2.grown hg (by simp), H.o.kept hg (fun _ _ e => by cases e), H.ob, H.b.grown hg H.b.size (fun _ e => by cases e), H.lt1, H.lt2, H.lt3⟩
theorem MkE.turn (H : MkE w W g m h C s D) (hg : W.grownBy W' (some h)) : MkE w W' g m h C s D := by
  have h1 := H.lt1; have h2 := H.lt2; have h3 := H.lt3
  refine ⟨H.c.grown hg (fun e => by injection e with e; omega), H.r1.grown hg (fun e => by injection e with e; omega), H.r2.grown hg (fun e => by injection e with e; omega), H.o.kept hg (fun x e e' => ?_), H.ob, H.b.grown hg H.b.size (fun k e => by cases e; omega), h1, h2, h3⟩
  have := H.ob x e
  injection e' with e'
  omega
theorem MkE.drew (H : MkE w W g m h C s D) : MkE w W.drew g m h C s D := H.new ⟨rfl, rfl, rfl, Nat.le_refl _, fun _ _ _ => rfl⟩
theorem MkE.fin {W6 W7 : World} {a : Option Addr} {n c : Nat} (H : MkE w W g m h C (.slice a n c) D) (h6 : W.grownBy W6 (some (w.heap.size + 1))) (h7 : W6.grownBy W7 (some (w.heap.size + 1 + 1))) : RdD W7 a n c D ∧ Below w.heap.size w W7 := by
  have h1 := H.lt1; have h2 := H.lt2; have h3 := H.lt3
  have o6 : OwnD W6 m (.slice a n c) D := H.o.kept h6 (fun x e e' => by have := H.ob x e; injection e' with e'; omega)
  have o7 : OwnD W7 m (.slice a n c) D := o6.kept h7 (fun x e e' => by have := H.ob x e; injection e' with e'; omega)
  have b6 := H.b.grown h6 H.b.size (fun k e => by cases e; omega)
  exact ⟨o7.rd, b6.grown h7 b6.size (fun k e => by cases e; omega)⟩
end
/-- what Make hands back -/
def MakePost (w : World) (b : Bool) (v : List UInt8) (x : Pf) (e : Ending) (w' : World) : Prop :=
  ∃ a n c, e = .returned (.tuple #[.agg (clc b v).toArray, .agg (pc a n c x).toArray, .int .i64 0]) ∧ RdP6 w' a n c x ∧ Below w.heap.size w w'

set_option maxHeartbeats 8000000 in
theorem make_ok (w : World) (x : Nat) (hx : x ≤ 32) (a : Option Addr) (n c : Nat) (l : List Lf) (hr : RdL w a n c l) (p : List UInt8) (hp : p.length = 32) (hT : Tab w 1) (he : setE [] l = 0) :
    Calls Tryd.prog 16 #[.int .i64 (x : Int), .slice a n c, .agg (bs p).toArray] w (MakePost w (findL l p).isSome (valOf (findL l p)) (mkPf x l p)) := by
  have hb0 := Blk.new w 23 (bs p)
  have hB0 : Below w.heap.size w (w.alloc (.cells (bs p).toArray 23)) := (Below.refl _ w).alloc (Nat.le_refl _) _
  have hz : (w.alloc (.cells (bs p).toArray 23)).heap.size = w.heap.size + 1 := by simp
  obtain ⟨hpm, hul, h4096⟩ := setI_perm he
  have hL : (setI [] l).length = l.length := hpm.length_eq
  have hokS : oks (sortedL (setI [] l)) := fun y hy => hr.ok y (hpm.mem_iff.1 ((sortedL_perm _).mem_iff.1 hy))
  have hordS : inOrder (sortedL (setI [] l)) := sortedL_order (fun y hy => hr.ok y (hpm.mem_iff.1 hy))
  have hpS : (sortedL (setI [] l)).Perm l := (sortedL_perm _).trans hpm
  have hunS : unlike (sortedL (setI [] l)) := (unlike_perm hpS).2 hul
  have hmk : mkPf x l p = mkPf x (sortedL (setI [] l)) p := mkPf_perm x hpS.symm hul p
  have hfi : findL (sortedL (setI [] l)) p = findL l p := find_same (fun y => hpS.mem_iff) hunS hul p
  have hfi2 : findL (setI [] l) p = findL l p := find_same (fun y => hpm.mem_iff) ((unlike_perm hpm).2 hul) hul p
  have NW := Lib.hid (fun (W : World) (h : Below w.heap.size w W) => sm_new w W x hx h)
  have ST := Lib.hid (fun (W : World) (tp : Nat) (h : Sm w x tp [] W) => sm_set h a n c l (hr.below h.bel) (fun h => sorts_all n (by omega)))
  rw [he] at ST
  have GT := Lib.hid (fun (W : World) (tp : Nat) (h : Sm w x tp (setI [] l) W) => sm_get h p hp)
  have VL := Lib.hid (fun (W : World) (tp : Nat) (h : Sm w x tp (setI [] l) W) => h.val p)
  rw [hfi2] at GT VL
  have LV := Lib.hid (fun (W : World) (tp : Nat) (h : Sm w x tp (setI [] l) W) => sm_leaves h)
  have hdn : (setI [] l).length ≤ 4096 := by rw [hL]; exact h4096
  have DS := Lib.hid (fun (W : World) (h : Below w.heap.size w W) (a1 : Option Addr) (c1 : Nat) (h1 : RdL W a1 (setI [] l).length c1 (sortedL (setI [] l))) => descent_any W x hx a1 (setI [] l).length c1 (sortedL (setI [] l)) h1 hordS hunS (by omega) p hp (hT.below h))
  have hfew := descF_few x 256 (sortedL (setI [] l)) p 0 rfl hokS hunS (fun _ _ _ _ i hi => absurd hi (Nat.not_lt_zero i))
  have MO := Lib.hid (fun (y : Lf) (h : (findL l p).isSome = false) (h2 : (descF x 256 (sortedL (setI [] l)) p 0).2 = [y]) => hmk.trans (mkPf_other (hfi.trans (isNone_of h)) h2))
  have MP := Lib.hid (fun (h : (findL l p).isSome = true ∨ (descF x 256 (sortedL (setI [] l)) p 0).2.length ≠ 1) => hmk.trans (mkPf_plain (by
    rw [hfi]; rintro ⟨h1, h2⟩
    rcases h with h | h
    · rw [h1] at h; cases h
    · exact h h2)))
  have FIN := Lib.hid (fun (W : World) (a n c : _) (e : Ending) (h1 : e = .returned (.tuple #[.agg (clc (findL l p).isSome (valOf (findL l p))).toArray, .agg (pc a n c (mkPf x l p)).toArray, .int .i64 0])) (h2 : RdP6 W a n c (mkPf x l p)) (h3 : Below w.heap.size w W) => (show MakePost w (findL l p).isSome (valOf (findL l p)) (mkPf x l p) e W from ⟨a, n, c, h1, h2, h3⟩))
  generalize MakePost w (findL l p).isSome (valOf (findL l p)) (mkPf x l p) = RP at *
  generalize descF x 256 (sortedL (setI [] l)) p 0 = D at *
  obtain ⟨D1, D2⟩ := D
  simp only at MO MP DS hfew
  generalize hn1 : D1.length = n1 at DS
  clear hn1
  generalize hn2 : D2.length = n2 at *
  have HN2 := Lib.hid hn2
  generalize sortedL (setI [] l) = LS at *
  generalize hLn : (setI [] l).length = ln at *
  generalize setI [] l = LI at *
  generalize mkPf x l p = PF at *
  generalize (findL l p).isSome = b at *
  generalize valOf (findL l p) = v at *
  clear hr hpm hul hL hokS hordS hpS hunS hmk hfi hfi2 he hLn hn2
  have ZC := zeroClc_info
  have ZP := zeroP_info
  have H5 := Lib.hid (show (Tryd.prog.info? 23).map (·.size) = some (bs p).length by rw [info_digest, bs_length, hp])
  go_enter Tryd.func16, Tryd.ntmps16
  go_wp2_with (first | ((with_reducible refine wpList_allocB (o := ⟨some 6, _, _, _, _, _⟩) ?_ 25 ?_ ZC ?_); rfl; rfl; intro w1 hr1 hg1 hz1; rw [hz] at hr1 hz1) | ((with_reducible refine wpList_allocB (o := ⟨some 7, _, _, _, _, _⟩) ?_ 28 ?_ ZP ?_); rfl; rfl; intro w2 hr2 hg2 hz2; rw [hz1] at hr2 hz2))
  have hr1' := hr1.grown hg2 (by simp)
  have hb2 := (hb0.grown hg1 (by simp)).grown hg2 (by simp)
  have hB1 := (hB0.grown hg1 hB0.size (fun k e => by cases e)).grown hg2 (by omega) (fun k e => by cases e)
  refine (NW.out w2 hB1).mono ?_
  rintro e w3 ⟨tp, rfl, hS3, hB3⟩
  go_wp2_with fail
  refine (ST.out w3 tp hS3).mono ?_
  rintro e w4 ⟨rfl, hS4, hg4⟩
  have k0 := hb2.below hB3
  have k1 := hr1'.below hB3
  have k2 := hr2.below hB3
  have q0 := k0.grown hg4 (by simpa using hS3.ne k0 (by decide))
  have q1 := k1.grown hg4 (by simpa using hS3.ne k1 (by decide))
  have q2 := k2.grown hg4 (by simpa using hS3.ne k2 (by decide))
  have hl4 := q2.lt
  have hvl := VL.out w4 tp hS4
  have hB04 := hS4.bel
  clear k0 k1 k2 hb2 hr1 hr1' hr2 hg1 hg2 hg4 hz1 hz2 hS3 hb0 hB0 hB1 hB3 VL NW ST
  go_wp2_with (first | ((with_reducible refine wpList_allocB (o := ⟨some 12, _, _, _, _, _⟩) ?_ 25 ?_ ZC ?_); rfl; rfl; intro w5 hr5 hg5 hz5; have hB5 : Below w4.heap.size w4 w5 := (Below.refl _ w4).grown hg5 (Nat.le_refl _) (fun k e => by cases e); have p0 := q0.below hB5) | ((with_reducible refine wpList_loadB (o := ⟨some 36, _, _, _, _, _⟩) ?_ 23 (.tmp 5) ?_ ?_ p0 Tryd.underlying23 ?_ H5.out ?_); rfl; rfl; rfl; rfl))
  refine (GT.out w5 tp (hS4.below hB5)).mono ?_
  rintro e w6 ⟨rfl, hB6⟩
  have hr6 := hr5.below hB6
  have hB46 := Bt hB5 hB6
  have HFIT := Lib.hid (show 1 + (bs v).length ≤ (clc false zero32).length by rw [bs_length, hvl, clcZ_len]; decide)
  have HV := Lib.hid (digP hvl)
  have HVL := Lib.hid hvl
  have OV := bs_one v
  clear hvl
  go_wp2_with (first | ((with_reducible refine wpList_storeM (o := ⟨none, .store 23 (.tmp 40) (.tmp 38), _, _, _, _⟩) ?_ w4.heap.size 1 23 (.tmp 40) (.tmp 38) ?_ ?_ ?_ hr6 HFIT.out HV.out OV ?_); rfl; rfl; rfl; rfl; intro w7 hr7 hg7 hz7; have hc7 := hr7.cell (j := 0) rfl; have hf7 := hr7.free 0))
  have hr8 := hr7.set 0 (.bool b)
  rw [clc_put _ HVL.out] at hr8
  have hg8 := set_grown w7 w4.heap.size 0 (.bool b)
  have hB48 : Below w4.heap.size w4 (w7.setCell ⟨w4.heap.size, 0, none⟩ (.bool b)) := (hB46.grown hg7 hB46.size (fun k e => by cases e; exact Nat.le_refl _)).grown hg8 (by have := hB46.size; omega) (fun k e => by cases e; exact Nat.le_refl _)
  generalize w7.setCell ⟨w4.heap.size, 0, none⟩ (.bool b) = w8 at *
  have hS8 := hS4.below hB48
  have p8 := q0.below hB48
  have hs8 := hB48.size
  clear hr5 hg5 hz5 hB5 p0 hB6 hr6 hB46 HFIT HV OV hr7 hg7 hz7 hc7 hf7 hg8 q0
  -- REGION makedesc 2
  refine wp_region_held_drew (S := fun W => Below w8.heap.size w8 W) (by kernel_rfl) (Below.refl _ w8).drew (fun hHeld => ?_)
  refine wpAnyH_take (i := 0) (oi := ⟨some 43, .move (.tmp 0), _, _, _, none⟩) (v := ?_) rfl (by kernel_rfl) (by kernel_rfl) (by kernel_rfl) (fun _ _ _ h => h) (Or.inl ⟨by rfl, ?_⟩) hHeld ?_
  rotate_left
  · intro W _; go_simp; try with_reducible rfl
  try simp only [Act.put, List.setIfInBounds_toArray, List.set_cons_zero, List.set_cons_succ]
  refine wpAnyH_take (i := 1) (oi := ⟨some 44, .move (.tmp 9), _, _, _, none⟩) (v := ?_) rfl (by kernel_rfl) (by kernel_rfl) (by kernel_rfl) (fun _ _ _ h => h) (Or.inl ⟨by rfl, ?_⟩) hHeld ?_
  rotate_left
  · intro W _; go_simp; try with_reducible rfl
  try simp only [Act.put, List.setIfInBounds_toArray, List.set_cons_zero, List.set_cons_succ]
  refine wpAnyH_take (i := 3) (oi := ⟨some 46, .load 23 (.tmp 5), _, _, _, none⟩) (v := .agg (bs p).toArray) rfl (by kernel_rfl) (by kernel_rfl) (by kernel_rfl) (fun _ _ _ h => h) (yieldsIf_load_mid (by rfl) _ _ rfl w.heap.size 0 rfl (bs p) _ (fun W h => (p8.below h).allR) Tryd.underlying23 rfl H5.out) hHeld ?_
  try simp only [Act.put, List.setIfInBounds_toArray, List.set_cons_zero, List.set_cons_succ]
  refine wpAnyH_ready (rs := [2]) (by kernel_rfl) (by simp) ?_
  refine AllReadyH.cons (o := ⟨some 45, .call { callee := .value (.func 34), args := #[.tmp 44], argTypes := #[48] }, _, _, _, none⟩) rfl (fun K hK => ?_) AllReadyH.nil
  refine step_ofR (by rfl) ?_
  go_simp
  refine (LV.out _ tp (hS8.below hHeld)).mono ?_
  rintro x W1 ⟨a1, c1, rfl, hO1, hb1⟩
  refine hK.out _ _ (Bt hHeld hb1) (fun hHeld => ?_)
  clear hK K
  try simp only [Act.put, List.setIfInBounds_toArray, List.set_cons_zero, List.set_cons_succ]
  refine wpAnyH_ready (rs := [4]) (by kernel_rfl) (by simp) ?_
  refine AllReadyH.cons (o := ⟨some 47, .call { callee := .value (.func 33), args := #[.tmp 43, .tmp 45, .tmp 46], argTypes := #[3, 41, 23] }, _, _, _, none⟩) rfl (fun K hK => ?_) AllReadyH.nil
  refine step_ofR (by rfl) ?_
  go_simp
  refine (DS.out _ (Bt hS8.bel hHeld) a1 c1 hO1.rd).mono ?_
  rintro x W2 ⟨a2, c2, a3, c3, rfl, hO2, hr3, hb2⟩
  refine hK.out _ _ (Bt hHeld hb2) (fun hHeld => ?_)
  clear hK K
  try simp only [Act.put, List.setIfInBounds_toArray, List.set_cons_zero, List.set_cons_succ]
  refine wpAnyH_take (i := 5) (oi := ⟨some 42, .move (.tmp 47), _, _, _, none⟩) (v := ?_) rfl (by kernel_rfl) (by kernel_rfl) (by kernel_rfl) (fun _ _ _ h => h) (Or.inl ⟨by rfl, ?_⟩) hHeld ?_
  rotate_left
  · intro W _; go_simp; try with_reducible rfl
  try simp only [Act.put, List.setIfInBounds_toArray, List.set_cons_zero, List.set_cons_succ]
  refine wpAnyH_take (i := 6) (oi := ⟨some 48, .extract (.tmp 42) 0, _, _, _, none⟩) (v := ?_) rfl (by kernel_rfl) (by kernel_rfl) (by kernel_rfl) (fun _ _ _ h => h) (Or.inl ⟨by rfl, ?_⟩) hHeld ?_
  rotate_left
  · intro W _; go_simp; try with_reducible rfl
  try simp only [Act.put, List.setIfInBounds_toArray, List.set_cons_zero, List.set_cons_succ]
  refine wpAnyH_take (i := 7) (oi := ⟨some 49, .extract (.tmp 42) 1, _, _, _, none⟩) (v := ?_) rfl (by kernel_rfl) (by kernel_rfl) (by kernel_rfl) (fun _ _ _ h => h) (Or.inl ⟨by rfl, ?_⟩) hHeld ?_
  rotate_left
  · intro W _; go_simp; try with_reducible rfl
  try simp only [Act.put, List.setIfInBounds_toArray, List.set_cons_zero, List.set_cons_succ]
  refine wpAnyH_ready (rs := [8]) (by kernel_rfl) (by simp) ?_
  refine AllReadyH.cons (o := ⟨some 13, .assign (.tmp 48), _, _, _, none⟩) rfl (fun K hK => ?_) AllReadyH.nil
  refine step_ofR (by rfl) ?_
  go_simp
  refine hK.out _ _ (hHeld) (fun hHeld => ?_)
  clear hK K
  try simp only [Act.put, List.setIfInBounds_toArray, List.set_cons_zero, List.set_cons_succ]
  refine wpAnyH_ready (rs := [9]) (by kernel_rfl) (by simp) ?_
  refine AllReadyH.cons (o := ⟨some 14, .assign (.tmp 49), _, _, _, none⟩) rfl (fun K hK => ?_) AllReadyH.nil
  refine step_ofR (by rfl) ?_
  go_simp
  refine hK.out _ _ (hHeld) (fun hHeld => ?_)
  clear hK K
  try simp only [Act.put, List.setIfInBounds_toArray, List.set_cons_zero, List.set_cons_succ]
  refine wpAnyH_done (by kernel_rfl) ?_ _
  -- END makedesc
  have HO2 := Lib.hid hO2.rd
  have hr4 := hr3.below hb2
  have hs2 := hHeld.size
  have c8 := hr8.below hHeld
  have r1 := (q1.below hB48).below hHeld
  have r2 := (q2.below hB48).below hHeld
  have hBW := Lib.hid (Bt hS8.bel hHeld)
  have BPC := Lib.hid (built_pc a2 n1 c2 D1)
  have hX0 : Pf.ok ⟨D1, false, zero32, zero32⟩ := ⟨hO2.rd.ok, zero32_length, zero32_length⟩
  have HX0 := Lib.hid hX0
  have IP := Lib.hid (size_of (a := a2) (n := n1) (c := c2) hX0)
  have LZ := Lib.hid (cells_len (a := none) (n := 0) (c := 0) (a' := a2) (n' := n1) (c' := c2) pf0_ok hX0)
  have OP := pc_one a2 n1 c2 ⟨D1, false, zero32, zero32⟩
  have HOB := Lib.hid (fun x (e : (Value.slice a2 n1 c2).ownBlock = some x) => hO2.lt e)
  have HOWN := Lib.hid hO2
  have hs1 : w8.heap.size ≤ W1.heap.size := by have := hb1.size; simpa using this
  have hs3 : W1.heap.size ≤ W2.heap.size := hb2.size
  have hlC := hr8.lt
  clear hO1 hb1 hO2 hr3 hb2 hX0 hr8 hB48 hS8 p8 hS4 q1 q2 GT LV DS hdn h4096
  have IC := Lib.hid (infoClc (b := b) HVL.out)
  have LCC := Lib.hid (show (clc false zero32).length = (clc b v).length by rw [clcZ_len, clc_len HVL.out])
  have OC := clc_one b v
  have hM2 : MkE w W2 w4.heap.size W1.heap.size W2.heap.size (clc b v) (.slice a2 n1 c2) D1 := ⟨c8, r1, r2, HOWN.out, HOB.out, hBW.out, hl4, by omega, hs3⟩
  have HM2 := Lib.hid hM2
  have HR4 := Lib.hid hr4
  clear hM2 hr4 HOWN HOB hBW
  by_cases hcond : b = true ∨ n2 ≠ 1
  · obtain rfl := MP.out hcond
    have hx : b = true ∨ (b = false ∧ n2 = 0) := by
      rcases hcond with h | h
      · exact .inl h
      · cases b
        · exact .inr ⟨rfl, by omega⟩
        · exact .inl rfl
    clear MP MO hcond
    rcases hx with rfl | ⟨rfl, rfl⟩
    · go_wp2_with (first | ((with_reducible refine wpList_allocB (o := ⟨some 15, _, _, _, _, _⟩) ?_ 28 ?_ ZP ?_); rfl; rfl; intro w9 hr9 hg9 hz9; have c9 := c8.grown hg9 (by simp)) | ((with_reducible refine wpList_buildI (dst := some 51) BPC.out ?_ ?_); rfl) | ((with_reducible refine wpList_storeB (o := ⟨none, .store 28 (.tmp 15) (.tmp 51), _, _, _, _⟩) ?_ 28 (.tmp 15) (.tmp 51) ?_ ?_ ?_ hr9 IP.out LZ.out OP ?_); rfl; rfl; rfl; rfl; intro w10 hr10 hg10 hz10; have c10 := c9.grown hg10 (fun e => by injection e with e; omega); have cc := c10.cell (j := 0) rfl))
      have hM10 := (HM2.out.new hg9).turn hg10
      have hS13 : CpAt w10 w4.heap.size W2.heap.size (clc true v) (pc a2 n1 c2 ⟨D1, false, zero32, zero32⟩) := ⟨hM10.c, hr10⟩
      have FIN2 := Lib.hid (fun (W : World) (e : Ending) (h1 : e = .returned (.tuple #[.agg (clc true v).toArray, .agg (pc a2 n1 c2 ⟨D1, false, zero32, zero32⟩).toArray, .int .i64 0])) (h2 : RdP6 W a2 n1 c2 ⟨D1, false, zero32, zero32⟩) (h3 : Below w.heap.size w W) => FIN.out W a2 n1 c2 e h1 h2 h3)
      have HPX := Lib.hid (show Pf.ok ⟨D1, false, zero32, zero32⟩ from HX0.out)
      have IPX := Lib.hid (size_of (a := a2) (n := n1) (c := c2) HPX.out)
      have LPX := Lib.hid (cells_len (a := none) (n := 0) (c := 0) (a' := a2) (n' := n1) (c' := c2) pf0_ok HPX.out)
      have OPX := pc_one a2 n1 c2 ⟨D1, false, zero32, zero32⟩
      have HM := Lib.hid hM10
      have z1 := hM10.r1.drew
      have z2 := hM10.r2.drew
      clear FIN r1 r2
      generalize pc a2 n1 c2 ⟨D1, false, zero32, zero32⟩ = PX at *
      generalize clc true v = CX at *
      -- REGION makeend 6
      refine wp_region_held_drew (S := fun W => CpAt W w4.heap.size W2.heap.size CX PX) (by kernel_rfl) hS13.drew (fun hHeld => ?_)
      refine wpAnyH_take (i := 0) (oi := ⟨some 71, .load 25 (.tmp 12), _, _, _, none⟩) (v := .agg CX.toArray) rfl (by kernel_rfl) (by kernel_rfl) (by kernel_rfl) (fun _ _ _ h => h) (yieldsIf_load_mid (by rfl) _ _ rfl w4.heap.size 0 rfl CX _ (fun W h => h.c.allR) Tryd.underlying25 rfl IC.out) hHeld ?_
      try simp only [Act.put, List.setIfInBounds_toArray, List.set_cons_zero, List.set_cons_succ]
      refine wpAnyH_take (i := 1) (oi := ⟨some 72, .load 28 (.tmp 15), _, _, _, none⟩) (v := .agg PX.toArray) rfl (by kernel_rfl) (by kernel_rfl) (by kernel_rfl) (fun _ _ _ h => h) (yieldsIf_load_mid (by rfl) _ _ rfl W2.heap.size 0 rfl PX _ (fun W h => h.p.allR) Tryd.underlying28 rfl IPX.out) hHeld ?_
      try simp only [Act.put, List.setIfInBounds_toArray, List.set_cons_zero, List.set_cons_succ]
      refine wpAnyH_ready (rs := [2]) (by kernel_rfl) (by simp) ?_
      refine AllReadyH.cons (o := ⟨none, .store 25 (.tmp 6) (.tmp 71), _, _, _, none⟩) rfl (fun K hK => ?_) AllReadyH.nil
      refine step_storeW (w.heap.size + 1) 25 (.tmp 6) (.tmp 71) CX _ _ z1 IC.out LCC.out OC rfl rfl rfl rfl ?_
      intro W6 hr6 hg6 hz6
      refine hK.out _ _ (hHeld.grown hg6 (fun e => by injection e with e; omega) (fun e => by injection e with e; omega)) (fun hHeld => ?_)
      clear hK K
      try simp only [Act.put]
      refine wpAnyH_ready (rs := [3]) (by kernel_rfl) (by simp) ?_
      refine AllReadyH.cons (o := ⟨none, .store 28 (.tmp 7) (.tmp 72), _, _, _, none⟩) rfl (fun K hK => ?_) AllReadyH.nil
      refine step_storeW (w.heap.size + 1 + 1) 28 (.tmp 7) (.tmp 72) PX _ _ (z2.grown hg6 (fun e => by injection e with e; omega)) IPX.out LPX.out OPX rfl rfl rfl rfl ?_
      intro W7 hr7 hg7 hz7
      refine hK.out _ _ (hHeld.grown hg7 (fun e => by injection e with e; omega) (fun e => by injection e with e; omega)) (fun hHeld => ?_)
      clear hK K
      try simp only [Act.put]
      refine wpAnyH_ready (rs := [4]) (by kernel_rfl) (by simp) ?_
      refine AllReadyH.cons (o := ⟨some 8, .assign (.const (.int .i64 0)), _, _, _, none⟩) rfl (fun K hK => ?_) AllReadyH.nil
      refine step_ofR (by rfl) ?_
      go_simp
      refine hK.out _ _ (hHeld) (fun hHeld => ?_)
      clear hK K
      try simp only [Act.put, List.setIfInBounds_toArray, List.set_cons_zero, List.set_cons_succ]
      refine wpAnyH_done (by kernel_rfl) ?_ _
      -- END makeend
      have z3 := hr6.grown hg7 (fun e => by injection e with e; omega)
      obtain ⟨y1, y2⟩ := HM.out.drew.fin hg6 hg7
      go_wp2_with fail
      try simp only [Exit.inBlock, Exit.then]
      refine bodyPost_ret (results_blk3 rfl _ _ _ _ _ _ _ _ _ _ rfl z3 Tryd.underlying25 rfl IC.out rfl hr7 Tryd.underlying28 rfl IPX.out) rfl ?_
      exact FIN2.out _ _ rfl ⟨y1, HPX.out.p, HPX.out.v⟩ y2
    · go_wp2_with (first | ((with_reducible refine wpList_allocB (o := ⟨some 15, _, _, _, _, _⟩) ?_ 28 ?_ ZP ?_); rfl; rfl; intro w9 hr9 hg9 hz9; have c9 := c8.grown hg9 (by simp)) | ((with_reducible refine wpList_buildI (dst := some 51) BPC.out ?_ ?_); rfl) | ((with_reducible refine wpList_storeB (o := ⟨none, .store 28 (.tmp 15) (.tmp 51), _, _, _, _⟩) ?_ 28 (.tmp 15) (.tmp 51) ?_ ?_ ?_ hr9 IP.out LZ.out OP ?_); rfl; rfl; rfl; rfl; intro w10 hr10 hg10 hz10; have c10 := c9.grown hg10 (fun e => by injection e with e; omega); have cc := c10.cell (j := 0) rfl))
      have hM10 := (HM2.out.new hg9).turn hg10
      have hS13 : CpAt w10 w4.heap.size W2.heap.size (clc false v) (pc a2 n1 c2 ⟨D1, false, zero32, zero32⟩) := ⟨hM10.c, hr10⟩
      have FIN2 := Lib.hid (fun (W : World) (e : Ending) (h1 : e = .returned (.tuple #[.agg (clc false v).toArray, .agg (pc a2 n1 c2 ⟨D1, false, zero32, zero32⟩).toArray, .int .i64 0])) (h2 : RdP6 W a2 n1 c2 ⟨D1, false, zero32, zero32⟩) (h3 : Below w.heap.size w W) => FIN.out W a2 n1 c2 e h1 h2 h3)
      have HPX := Lib.hid (show Pf.ok ⟨D1, false, zero32, zero32⟩ from HX0.out)
      have IPX := Lib.hid (size_of (a := a2) (n := n1) (c := c2) HPX.out)
      have LPX := Lib.hid (cells_len (a := none) (n := 0) (c := 0) (a' := a2) (n' := n1) (c' := c2) pf0_ok HPX.out)
      have OPX := pc_one a2 n1 c2 ⟨D1, false, zero32, zero32⟩
      have HM := Lib.hid hM10
      have z1 := hM10.r1.drew
      have z2 := hM10.r2.drew
      clear FIN r1 r2
      generalize pc a2 n1 c2 ⟨D1, false, zero32, zero32⟩ = PX at *
      generalize clc false v = CX at *
      -- REGION makeend 6
      refine wp_region_held_drew (S := fun W => CpAt W w4.heap.size W2.heap.size CX PX) (by kernel_rfl) hS13.drew (fun hHeld => ?_)
      refine wpAnyH_take (i := 0) (oi := ⟨some 71, .load 25 (.tmp 12), _, _, _, none⟩) (v := .agg CX.toArray) rfl (by kernel_rfl) (by kernel_rfl) (by kernel_rfl) (fun _ _ _ h => h) (yieldsIf_load_mid (by rfl) _ _ rfl w4.heap.size 0 rfl CX _ (fun W h => h.c.allR) Tryd.underlying25 rfl IC.out) hHeld ?_
      try simp only [Act.put, List.setIfInBounds_toArray, List.set_cons_zero, List.set_cons_succ]
      refine wpAnyH_take (i := 1) (oi := ⟨some 72, .load 28 (.tmp 15), _, _, _, none⟩) (v := .agg PX.toArray) rfl (by kernel_rfl) (by kernel_rfl) (by kernel_rfl) (fun _ _ _ h => h) (yieldsIf_load_mid (by rfl) _ _ rfl W2.heap.size 0 rfl PX _ (fun W h => h.p.allR) Tryd.underlying28 rfl IPX.out) hHeld ?_
      try simp only [Act.put, List.setIfInBounds_toArray, List.set_cons_zero, List.set_cons_succ]
      refine wpAnyH_ready (rs := [2]) (by kernel_rfl) (by simp) ?_
      refine AllReadyH.cons (o := ⟨none, .store 25 (.tmp 6) (.tmp 71), _, _, _, none⟩) rfl (fun K hK => ?_) AllReadyH.nil
      refine step_storeW (w.heap.size + 1) 25 (.tmp 6) (.tmp 71) CX _ _ z1 IC.out LCC.out OC rfl rfl rfl rfl ?_
      intro W6 hr6 hg6 hz6
      refine hK.out _ _ (hHeld.grown hg6 (fun e => by injection e with e; omega) (fun e => by injection e with e; omega)) (fun hHeld => ?_)
      clear hK K
      try simp only [Act.put]
      refine wpAnyH_ready (rs := [3]) (by kernel_rfl) (by simp) ?_
      refine AllReadyH.cons (o := ⟨none, .store 28 (.tmp 7) (.tmp 72), _, _, _, none⟩) rfl (fun K hK => ?_) AllReadyH.nil
      refine step_storeW (w.heap.size + 1 + 1) 28 (.tmp 7) (.tmp 72) PX _ _ (z2.grown hg6 (fun e => by injection e with e; omega)) IPX.out LPX.out OPX rfl rfl rfl rfl ?_
      intro W7 hr7 hg7 hz7
      refine hK.out _ _ (hHeld.grown hg7 (fun e => by injection e with e; omega) (fun e => by injection e with e; omega)) (fun hHeld => ?_)
      clear hK K
      try simp only [Act.put]
      refine wpAnyH_ready (rs := [4]) (by kernel_rfl) (by simp) ?_
      refine AllReadyH.cons (o := ⟨some 8, .assign (.const (.int .i64 0)), _, _, _, none⟩) rfl (fun K hK => ?_) AllReadyH.nil
      refine step_ofR (by rfl) ?_
      go_simp
      refine hK.out _ _ (hHeld) (fun hHeld => ?_)
      clear hK K
      try simp only [Act.put, List.setIfInBounds_toArray, List.set_cons_zero, List.set_cons_succ]
      refine wpAnyH_done (by kernel_rfl) ?_ _
      -- END makeend
      have z3 := hr6.grown hg7 (fun e => by injection e with e; omega)
      obtain ⟨y1, y2⟩ := HM.out.drew.fin hg6 hg7
      go_wp2_with fail
      try simp only [Exit.inBlock, Exit.then]
      refine bodyPost_ret (results_blk3 rfl _ _ _ _ _ _ _ _ _ _ rfl z3 Tryd.underlying25 rfl IC.out rfl hr7 Tryd.underlying28 rfl IPX.out) rfl ?_
      exact FIN2.out _ _ rfl ⟨y1, HPX.out.p, HPX.out.v⟩ y2
  · obtain ⟨rfl, rfl⟩ : b = false ∧ n2 = 1 := by
      cases b
      · refine ⟨rfl, ?_⟩
        by_cases h : n2 = 1
        · exact h
        · exact absurd (.inr h) hcond
      · exact absurd (.inl rfl) hcond
    obtain ⟨y, rfl⟩ : ∃ y, D2 = [y] := List.length_eq_one_iff.1 HN2.out
    obtain rfl := MO.out y rfl rfl
    clear MP MO hcond
    obtain ⟨b3, off, rfl, hb3, hty, hyk⟩ := HR4.out.two
    go_wp2_with (first | ((with_reducible refine wpList_allocB (o := ⟨some 15, _, _, _, _, _⟩) ?_ 28 ?_ ZP ?_); rfl; rfl; intro w9 hr9 hg9 hz9; have c9 := c8.grown hg9 (by simp)) | ((with_reducible refine wpList_buildI (dst := some 51) BPC.out ?_ ?_); rfl) | ((with_reducible refine wpList_storeB (o := ⟨none, .store 28 (.tmp 15) (.tmp 51), _, _, _, _⟩) ?_ 28 (.tmp 15) (.tmp 51) ?_ ?_ ?_ hr9 IP.out LZ.out OP ?_); rfl; rfl; rfl; rfl; intro w10 hr10 hg10 hz10; have c10 := c9.grown hg10 (fun e => by injection e with e; omega); have cc := c10.cell (j := 0) rfl))
    have hM10 := (HM2.out.new hg9).turn hg10
    have hT10 : TwoY w10 b3 off y := (hty.grown hg9 (by simp)).grown hg10 (fun e => by injection e with e; omega)
    have I5 := Lib.hid (digP hyk.1)
    have I6 := Lib.hid (digP hyk.2)
    have O5 := bs_one y.path
    have O6 := bs_one y.val
    have HPV := Lib.hid hyk
    have K1 := hr10.drew
    have hc6 := K1.cell (j := 1) rfl
    have hf6 := K1.free 1
    have K2 := K1.set 1 (.bool true)
    have HLEN : Hid ((pc a2 n1 c2 ⟨D1, false, zero32, zero32⟩).length = 66) := Lib.hid (pc_length _ _ _ _ HX0.out.p HX0.out.v)
    have HFIT : Hid (34 + (bs y.val).length ≤ (splice ((pc a2 n1 c2 ⟨D1, false, zero32, zero32⟩).set 1 (.bool true)) 2 (bs y.path)).length) := Lib.hid (by rw [splice_lenB _ _ _ (by rw [List.length_set, HLEN.out, bs_length, HPV.out.1]; decide), List.length_set, HLEN.out, bs_length, HPV.out.2]; decide)
    have HBH : Hid (b3 < W2.heap.size) := Lib.hid hb3
    clear hyk hty hb3
    -- REGION maketwo 4
    refine wp_region_held_drew (S := fun W => TwoY W b3 off y) (by kernel_rfl) hT10.drew (fun hHeld => ?_)
    refine wpAnyH_take (i := 0) (oi := ⟨some 60, .move (.tmp 14), _, _, _, none⟩) (v := ?_) rfl (by kernel_rfl) (by kernel_rfl) (by kernel_rfl) (fun _ _ _ h => h) (Or.inl ⟨by rfl, ?_⟩) hHeld ?_
    rotate_left
    · intro W _; go_simp; try with_reducible rfl
    try simp only [Act.put, List.setIfInBounds_toArray, List.set_cons_zero, List.set_cons_succ]
    refine wpAnyH_take (i := 1) (oi := ⟨some 61, .indexAddr 41 (.tmp 60) (.const (.int .i64 0)), _, _, _, none⟩) (v := ?_) rfl (by kernel_rfl) (by kernel_rfl) (by kernel_rfl) (fun _ _ _ h => h) (Or.inl ⟨by rfl, ?_⟩) hHeld ?_
    rotate_left
    · intro W _; go_simp; try with_reducible rfl
    try simp only [Act.put, List.setIfInBounds_toArray, List.set_cons_zero, List.set_cons_succ]
    refine wpAnyH_take (i := 2) (oi := ⟨some 62, .fieldAddr 46 (.tmp 61) 0, _, _, _, none⟩) (v := ?_) rfl (by kernel_rfl) (by kernel_rfl) (by kernel_rfl) (fun _ _ _ h => h) (Or.inl ⟨by rfl, ?_⟩) hHeld ?_
    rotate_left
    · intro W _; go_simp; try with_reducible rfl
    try simp only [Act.put, List.setIfInBounds_toArray, List.set_cons_zero, List.set_cons_succ]
    refine wpAnyH_take (i := 3) (oi := ⟨some 63, .load 23 (.tmp 62), _, _, _, none⟩) (v := .agg (bs y.path).toArray) rfl (by kernel_rfl) (by kernel_rfl) (by kernel_rfl) (fun _ _ _ h => h) (yieldsIf_load_mid (by rfl) _ _ rfl b3 off rfl (bs y.path) _ (fun W h => h.fst) Tryd.underlying23 rfl I5.out) hHeld ?_
    try simp only [Act.put, List.setIfInBounds_toArray, List.set_cons_zero, List.set_cons_succ]
    refine wpAnyH_take (i := 4) (oi := ⟨some 64, .move (.tmp 14), _, _, _, none⟩) (v := ?_) rfl (by kernel_rfl) (by kernel_rfl) (by kernel_rfl) (fun _ _ _ h => h) (Or.inl ⟨by rfl, ?_⟩) hHeld ?_
    rotate_left
    · intro W _; go_simp; try with_reducible rfl
    try simp only [Act.put, List.setIfInBounds_toArray, List.set_cons_zero, List.set_cons_succ]
    refine wpAnyH_take (i := 5) (oi := ⟨some 65, .indexAddr 41 (.tmp 64) (.const (.int .i64 0)), _, _, _, none⟩) (v := ?_) rfl (by kernel_rfl) (by kernel_rfl) (by kernel_rfl) (fun _ _ _ h => h) (Or.inl ⟨by rfl, ?_⟩) hHeld ?_
    rotate_left
    · intro W _; go_simp; try with_reducible rfl
    try simp only [Act.put, List.setIfInBounds_toArray, List.set_cons_zero, List.set_cons_succ]
    refine wpAnyH_take (i := 6) (oi := ⟨some 66, .fieldAddr 46 (.tmp 65) 1, _, _, _, none⟩) (v := ?_) rfl (by kernel_rfl) (by kernel_rfl) (by kernel_rfl) (fun _ _ _ h => h) (Or.inl ⟨by rfl, ?_⟩) hHeld ?_
    rotate_left
    · intro W _; go_simp; try with_reducible rfl
    try simp only [Act.put, List.setIfInBounds_toArray, List.set_cons_zero, List.set_cons_succ]
    refine wpAnyH_take (i := 7) (oi := ⟨some 67, .load 23 (.tmp 66), _, _, _, none⟩) (v := .agg (bs y.val).toArray) rfl (by kernel_rfl) (by kernel_rfl) (by kernel_rfl) (fun _ _ _ h => h) (yieldsIf_load_mid (by rfl) _ _ rfl b3 (off + 32) rfl (bs y.val) _ (fun W h => h.snd) Tryd.underlying23 rfl I6.out) hHeld ?_
    try simp only [Act.put, List.setIfInBounds_toArray, List.set_cons_zero, List.set_cons_succ]
    refine wpAnyH_take (i := 8) (oi := ⟨some 68, .fieldAddr 28 (.tmp 15) 1, _, _, _, none⟩) (v := ?_) rfl (by kernel_rfl) (by kernel_rfl) (by kernel_rfl) (fun _ _ _ h => h) (Or.inl ⟨by rfl, ?_⟩) hHeld ?_
    rotate_left
    · intro W _; go_simp; try with_reducible rfl
    try simp only [Act.put, List.setIfInBounds_toArray, List.set_cons_zero, List.set_cons_succ]
    refine wpAnyH_ready (rs := [9]) (by kernel_rfl) (by simp) ?_
    refine AllReadyH.cons (o := ⟨none, .store 4 (.tmp 68) (.const (.bool true)), _, _, _, none⟩) rfl (fun K hK => ?_) AllReadyH.nil
    refine step_ofR (by rfl) ?_
    go_simp
    refine hK.out _ _ (hHeld.grown (set_grown _ _ _ _) (fun e => by have := HBH.out; injection e with e; omega)) (fun hHeld => ?_)
    clear hK K
    try simp only [Act.put, List.setIfInBounds_toArray, List.set_cons_zero, List.set_cons_succ]
    refine wpAnyH_take (i := 10) (oi := ⟨some 69, .fieldAddr 28 (.tmp 15) 2, _, _, _, none⟩) (v := ?_) rfl (by kernel_rfl) (by kernel_rfl) (by kernel_rfl) (fun _ _ _ h => h) (Or.inl ⟨by rfl, ?_⟩) hHeld ?_
    rotate_left
    · intro W _; go_simp; try with_reducible rfl
    try simp only [Act.put, List.setIfInBounds_toArray, List.set_cons_zero, List.set_cons_succ]
    refine wpAnyH_ready (rs := [11]) (by kernel_rfl) (by simp) ?_
    refine AllReadyH.cons (o := ⟨none, .store 23 (.tmp 69) (.tmp 63), _, _, _, none⟩) rfl (fun K hK => ?_) AllReadyH.nil
    refine step_storeM W2.heap.size 2 23 (.tmp 69) (.tmp 63) (bs y.path) _ 28 K2 (by rw [List.length_set, HLEN.out, bs_length, HPV.out.1]; decide) I5.out O5 rfl rfl rfl rfl ?_
    intro W6 hr6 hg6 hz6
    refine hK.out _ _ (hHeld.grown hg6 (fun e => by have := HBH.out; injection e with e; omega)) (fun hHeld => ?_)
    clear hK K
    try simp only [Act.put]
    refine wpAnyH_take (i := 12) (oi := ⟨some 70, .fieldAddr 28 (.tmp 15) 3, _, _, _, none⟩) (v := ?_) rfl (by kernel_rfl) (by kernel_rfl) (by kernel_rfl) (fun _ _ _ h => h) (Or.inl ⟨by rfl, ?_⟩) hHeld ?_
    rotate_left
    · intro W _; go_simp; try with_reducible rfl
    try simp only [Act.put, List.setIfInBounds_toArray, List.set_cons_zero, List.set_cons_succ]
    refine wpAnyH_ready (rs := [13]) (by kernel_rfl) (by simp) ?_
    refine AllReadyH.cons (o := ⟨none, .store 23 (.tmp 70) (.tmp 67), _, _, _, none⟩) rfl (fun K hK => ?_) AllReadyH.nil
    refine step_storeM W2.heap.size 34 23 (.tmp 70) (.tmp 67) (bs y.val) _ 28 hr6 HFIT.out I6.out O6 rfl rfl rfl rfl ?_
    intro W7 hr7 hg7 hz7
    refine hK.out _ _ (hHeld.grown hg7 (fun e => by have := HBH.out; injection e with e; omega)) (fun hHeld => ?_)
    clear hK K
    try simp only [Act.put]
    refine wpAnyH_done (by kernel_rfl) ?_ _
    -- END maketwo
    have hg8 := set_grown w10.drew W2.heap.size 1 (.bool true)
    have hM12 := ((hM10.drew.turn hg8).turn hg6).turn hg7
    rw [pc_setY a2 n1 c2 D1 y.path y.val HPV.out.1 HPV.out.2] at hr7
    have hrX := hr7
    generalize W7 = w12 at *
    clear hr7 hr6 hg6 hg7 hz6 hz7 hg8 K1 K2 hc6 hf6 HFIT HLEN hM10
    go_wp2_with fail
    have hS13 : CpAt w12 w4.heap.size W2.heap.size (clc false v) (pc a2 n1 c2 ⟨D1, true, y.path, y.val⟩) := ⟨hM12.c, hrX⟩
    have FIN2 := Lib.hid (fun (W : World) (e : Ending) (h1 : e = .returned (.tuple #[.agg (clc false v).toArray, .agg (pc a2 n1 c2 ⟨D1, true, y.path, y.val⟩).toArray, .int .i64 0])) (h2 : RdP6 W a2 n1 c2 ⟨D1, true, y.path, y.val⟩) (h3 : Below w.heap.size w W) => FIN.out W a2 n1 c2 e h1 h2 h3)
    have HPX := Lib.hid (show Pf.ok ⟨D1, true, y.path, y.val⟩ from ⟨HX0.out.d, HPV.out.1, HPV.out.2⟩)
    have IPX := Lib.hid (size_of (a := a2) (n := n1) (c := c2) HPX.out)
    have LPX := Lib.hid (cells_len (a := none) (n := 0) (c := 0) (a' := a2) (n' := n1) (c' := c2) pf0_ok HPX.out)
    have OPX := pc_one a2 n1 c2 ⟨D1, true, y.path, y.val⟩
    have HM := Lib.hid hM12
    have z1 := hM12.r1.drew
    have z2 := hM12.r2.drew
    clear FIN r1 r2
    generalize pc a2 n1 c2 ⟨D1, true, y.path, y.val⟩ = PX at *
    generalize clc false v = CX at *
    -- REGION makeend 4
    refine wp_region_held_drew (S := fun W => CpAt W w4.heap.size W2.heap.size CX PX) (by kernel_rfl) hS13.drew (fun hHeld => ?_)
    refine wpAnyH_take (i := 0) (oi := ⟨some 71, .load 25 (.tmp 12), _, _, _, none⟩) (v := .agg CX.toArray) rfl (by kernel_rfl) (by kernel_rfl) (by kernel_rfl) (fun _ _ _ h => h) (yieldsIf_load_mid (by rfl) _ _ rfl w4.heap.size 0 rfl CX _ (fun W h => h.c.allR) Tryd.underlying25 rfl IC.out) hHeld ?_
    try simp only [Act.put, List.setIfInBounds_toArray, List.set_cons_zero, List.set_cons_succ]
    refine wpAnyH_take (i := 1) (oi := ⟨some 72, .load 28 (.tmp 15), _, _, _, none⟩) (v := .agg PX.toArray) rfl (by kernel_rfl) (by kernel_rfl) (by kernel_rfl) (fun _ _ _ h => h) (yieldsIf_load_mid (by rfl) _ _ rfl W2.heap.size 0 rfl PX _ (fun W h => h.p.allR) Tryd.underlying28 rfl IPX.out) hHeld ?_
    try simp only [Act.put, List.setIfInBounds_toArray, List.set_cons_zero, List.set_cons_succ]
    refine wpAnyH_ready (rs := [2]) (by kernel_rfl) (by simp) ?_
    refine AllReadyH.cons (o := ⟨none, .store 25 (.tmp 6) (.tmp 71), _, _, _, none⟩) rfl (fun K hK => ?_) AllReadyH.nil
    refine step_storeW (w.heap.size + 1) 25 (.tmp 6) (.tmp 71) CX _ _ z1 IC.out LCC.out OC rfl rfl rfl rfl ?_
    intro W6 hr6 hg6 hz6
    refine hK.out _ _ (hHeld.grown hg6 (fun e => by injection e with e; omega) (fun e => by injection e with e; omega)) (fun hHeld => ?_)
    clear hK K
    try simp only [Act.put]
    refine wpAnyH_ready (rs := [3]) (by kernel_rfl) (by simp) ?_
    refine AllReadyH.cons (o := ⟨none, .store 28 (.tmp 7) (.tmp 72), _, _, _, none⟩) rfl (fun K hK => ?_) AllReadyH.nil
    refine step_storeW (w.heap.size + 1 + 1) 28 (.tmp 7) (.tmp 72) PX _ _ (z2.grown hg6 (fun e => by injection e with e; omega)) IPX.out LPX.out OPX rfl rfl rfl rfl ?_
    intro W7 hr7 hg7 hz7
    refine hK.out _ _ (hHeld.grown hg7 (fun e => by injection e with e; omega) (fun e => by injection e with e; omega)) (fun hHeld => ?_)
    clear hK K
    try simp only [Act.put]
    refine wpAnyH_ready (rs := [4]) (by kernel_rfl) (by simp) ?_
    refine AllReadyH.cons (o := ⟨some 8, .assign (.const (.int .i64 0)), _, _, _, none⟩) rfl (fun K hK => ?_) AllReadyH.nil
    refine step_ofR (by rfl) ?_
    go_simp
    refine hK.out _ _ (hHeld) (fun hHeld => ?_)
    clear hK K
    try simp only [Act.put, List.setIfInBounds_toArray, List.set_cons_zero, List.set_cons_succ]
    refine wpAnyH_done (by kernel_rfl) ?_ _
    -- END makeend
    have z3 := hr6.grown hg7 (fun e => by injection e with e; omega)
    obtain ⟨y1, y2⟩ := HM.out.drew.fin hg6 hg7
    go_wp2_with fail
    try simp only [Exit.inBlock, Exit.then]
    refine bodyPost_ret (results_blk3 rfl _ _ _ _ _ _ _ _ _ _ rfl z3 Tryd.underlying25 rfl IC.out rfl hr7 Tryd.underlying28 rfl IPX.out) rfl ?_
    exact FIN2.out _ _ rfl ⟨y1, HPX.out.p, HPX.out.v⟩ y2
end
/-! The reference's Make, walked. -/
section
open Go.RowKit
set_option maxRecDepth 100000

/-- rows of digests, as rows of any kind -/
noncomputable def digR : Row (List UInt8) where
  T := 23
  S := 26
  k := 32
  b := 32
  cs := bs
  ok := fun x => x.length = 32
  x0 := []
  z := .agg (bs zero32).toArray
  d := .array 32 5
  pos := by decide
  klt := by decide
  small := by decide
  len := fun x h => by rw [bs_length, h]
  one := bs_one
  und := Tryd.underlying26
  info := infoDig
  zc := by simp [Value.cells, bs_length, zero32_length]
  undT := Tryd.underlying23
  row := rfl
theorem OwnD.gen {w : World} {base : Nat} {v : Value} {l : List (List UInt8)} (h : OwnD w base v l) : OwnG digR w base v l := h
theorem OwnD.ofG {w : World} {base : Nat} {v : Value} {l : List (List UInt8)} (h : OwnG digR w base v l) : OwnD w base v l := h

theorem RdL.kept {W W' : World} {a : Option Addr} {n c : Nat} {l : List Lf} {row : Option Nat} (h : RdL W a n c l) (hg : W.grownBy W' row) (hne : 0 < n → ∀ ad, a = some ad → row ≠ some ad.block) : RdL W' a n c l := by
  refine ⟨h.len, h.ok, h.cap, h.max, h.nil, fun ad e j u hu => ?_⟩
  have hn : 0 < n := by
    rw [← h.len]
    cases l with
    | nil => simp [lcs] at hu
    | cons y l => simp
  refine hg.cell (h.cell ad e j u hu) ?_
  have := hne hn ad e
  have eb : (ad.add j).block = ad.block := by unfold Addr.add; split <;> rfl
  intro e2
  rw [eb] at e2
  first | exact this e2 | exact this e2.symm
theorem valOf_len {l : List Lf} (h : oks l) (p : List UInt8) : (valOf (findL l p)).length = 32 := by
  cases e : findL l p with
  | none => exact zero32_length
  | some y => exact (h y (List.mem_of_find?_eq_some e)).2

/-- what the reference's Make knows in its loop -/
structure RfE (w W : World) (g h m : Nat) (p : List UInt8) (C : List Value) (s : Value) (P : List Value) (q : List (List UInt8)) : Prop where
  pa : Blk W w.heap.size 23 (bs p)
  r1 : Blk W (w.heap.size + 1) 25 (clc false zero32)
  r2 : Blk W (w.heap.size + 1 + 1) 28 (pc none 0 0 pf0)
  c : Blk W g 25 C
  x : Blk W h 28 P
  o : OwnD W m s q
  b : Below w.heap.size w W
  lt1 : w.heap.size + 1 + 1 < g
  lt2 : g < h
  lt3 : h < m
  lt4 : m ≤ W.heap.size
section
variable {w W W' : World} {g h m : Nat} {p : List UInt8} {C : List Value} {s : Value} {P : List Value} {q : List (List UInt8)}
theorem RfE.below (H : RfE w W g h m p C s P q) (hb : Below W.heap.size W W') : RfE w W' g h m p C s P q :=
  ⟨H.pa.below hb, H.r1.below hb, H.r2.below hb, H.c.below hb, H.x.below hb, H.o.below hb, Bt H.b hb, H.lt1, H.lt2, H.lt3, Nat.le_trans H.lt4 hb.size⟩
theorem RfE.drew (H : RfE w W g h m p C s P q) : RfE w W.drew g h m p C s P q := H.below (Below.refl _ W).drew
/-- one digest more in the row -/
theorem RfE.app {s' : Value} {q' : List (List UInt8)} (H : RfE w W g h m p C s P q) (hg : W.grownBy W' s.ownBlock) (ho : OwnD W' m s' q') : RfE w W' g h m p C s' P q' := by
  have h1 := H.lt1; have h2 := H.lt2; have h3 := H.lt3
  have ne : ∀ k, k < m → s.ownBlock ≠ some k := fun k hk e => by have := (H.o.lt e).1; omega
  exact ⟨H.pa.grown hg (ne _ (by omega)), H.r1.grown hg (ne _ (by omega)), H.r2.grown hg (ne _ (by omega)), H.c.grown hg (ne _ (by omega)), H.x.grown hg (ne _ h3), ho, H.b.grown hg H.b.size (fun k e => by have := (H.o.lt e).1; omega), h1, h2, h3, Nat.le_trans H.lt4 hg.size⟩
/-- the proof's own variable set -/
theorem RfE.put {P' : List Value} (H : RfE w W g h m p C s P q) (hg : W.grownBy W' (some h)) (hb : Blk W' h 28 P') : RfE w W' g h m p C s P' q := by
  have h1 := H.lt1; have h2 := H.lt2; have h3 := H.lt3
  exact ⟨H.pa.grown hg (fun e => by injection e with e; omega), H.r1.grown hg (fun e => by injection e with e; omega), H.r2.grown hg (fun e => by injection e with e; omega), H.c.grown hg (fun e => by injection e with e; omega), hb, H.o.kept hg (fun x e e' => by have := (H.o.lt e).1; injection e' with e'; omega), H.b.grown hg H.b.size (fun k e => by cases e; omega), h1, h2, h3, Nat.le_trans H.lt4 hg.size⟩
theorem RfE.fin {W6 W7 : World} {a : Option Addr} {n c : Nat} (H : RfE w W g h m p C (.slice a n c) P q) (h6 : W.grownBy W6 (some (w.heap.size + 1))) (h7 : W6.grownBy W7 (some (w.heap.size + 1 + 1))) : RdD W7 a n c q ∧ Below w.heap.size w W7 := by
  have h1 := H.lt1; have h2 := H.lt2; have h3 := H.lt3
  have o6 : OwnD W6 m (.slice a n c) q := H.o.kept h6 (fun x e e' => by have := (H.o.lt e).1; injection e' with e'; omega)
  have o7 : OwnD W7 m (.slice a n c) q := o6.kept h7 (fun x e e' => by have := (H.o.lt e).1; injection e' with e'; omega)
  have b6 := H.b.grown h6 H.b.size (fun k e => by cases e; omega)
  exact ⟨o7.rd, b6.grown h7 b6.size (fun k e => by cases e; omega)⟩
end
theorem setE_rootE {x : Nat} (hx : x ≤ 32) (l : List Lf) : rootE (x : Int) l = if l.length ≤ 4096 then (if twiceB l then 30 else 0) else 2 := by
  unfold rootE
  rw [if_pos (by omega)]
/-- where a row of leaves lies -/
theorem OwnL.at0 {W : World} {base n c : Nat} {a : Option Addr} {l : List Lf} (h : OwnL W base (.slice a n c) l) : ∀ ad, a = some ad → base ≤ ad.block ∧ ad.block < W.heap.size := by
  rintro ad rfl
  have : (Value.slice (some ad) n c).ownBlock = some ad.block := by
    rcases h.2.2 with ⟨hv, _⟩ | ⟨g, cap, cur, hv, _⟩
    · cases hv
    · cases hv; rfl
  exact World.ownsRow.lt h.2 _ this

end
/-! Make, of any width and leaves: the program's and the reference's say the same. -/
section
open Go.RowKit
set_option maxRecDepth 100000

def mB (x : Int) (l : List Lf) (p : List UInt8) : Bool := if rootE x l = 0 then (findL l p).isSome else false
def mV (x : Int) (l : List Lf) (p : List UInt8) : List UInt8 := if rootE x l = 0 then valOf (findL l p) else zero32
def mX (x : Int) (l : List Lf) (p : List UInt8) : Pf := if rootE x l = 0 then mkPf x.toNat l p else pf0
theorem mV_length {x : Int} {l : List Lf} (h : oks l) (p : List UInt8) : (mV x l p).length = 32 := by
  unfold mV
  split
  · exact valOf_len h p
  · exact zero32_length
/-- what Make hands back, whatever came in -/
def MkPost (w : World) (x : Int) (l : List Lf) (p : List UInt8) (e : Ending) (w' : World) : Prop :=
  ∃ a n c, e = .returned (.tuple #[.agg (clc (mB x l p) (mV x l p)).toArray, .agg (pc a n c (mX x l p)).toArray, .int .i64 (rootE x l)]) ∧ RdP6 w' a n c (mX x l p) ∧ Below w.heap.size w w'
theorem mkPost_no {w w' : World} {x : Int} {l : List Lf} {p : List UInt8} {e : Ending} (h : rootE x l ≠ 0) (he : e = .returned (.tuple #[.agg (clc false zero32).toArray, .agg (pc none 0 0 pf0).toArray, .int .i64 (rootE x l)])) (hb : Below w.heap.size w w') : MkPost w x l p e w' :=
  ⟨none, 0, 0, by rw [he, mB, mV, mX, if_neg h, if_neg h, if_neg h], by rw [mX, if_neg h]; exact ⟨RdD.nil0 _, pf0_ok.p, pf0_ok.v⟩, hb⟩
theorem mkPost_ok {w w' : World} {x : Nat} {l : List Lf} {p : List UInt8} {e : Ending} (h : rootE (x : Int) l = 0) (H : MakePost w (findL l p).isSome (valOf (findL l p)) (mkPf x l p) e w') : MkPost w x l p e w' := by
  obtain ⟨a, n, c, he, hr, hb⟩ := H
  have e1 : mB (x : Int) l p = (findL l p).isSome := if_pos h
  have e2 : mV (x : Int) l p = valOf (findL l p) := if_pos h
  have e3 : mX (x : Int) l p = mkPf x l p := by rw [mX, if_pos h, Int.toNat_natCast]
  exact ⟨a, n, c, by rw [e1, e2, e3, h]; exact he, by rw [e3]; exact hr, hb⟩
theorem rootE_set {x : Nat} (hx : x ≤ 32) (l : List Lf) : setE [] l = rootE (x : Int) l := by
  rw [setE_rootE hx, (set_nil l).1]
theorem rootE_out {x : Int} (hx : x < 0 ∨ 32 < x) (l : List Lf) : rootE x l = 1 := by
  unfold rootE
  rw [if_neg (by omega)]
theorem rootE_in {x : Nat} (hx : x ≤ 32) {l : List Lf} (h : rootE (x : Int) l = 0) : l.length ≤ 4096 ∧ unlike l := by
  rw [setE_rootE hx] at h
  split at h
  · rename_i hl
    split at h
    · simp at h
    · rename_i ht
      exact ⟨hl, (twiceB_iff l).1 (by simpa using ht)⟩
  · simp at h
/-- the program's Make -/
theorem make_any (w : World) (x : Int) (a : Option Addr) (n c : Nat) (l : List Lf) (hr : RdL w a n c l) (p : List UInt8) (hp : p.length = 32) (hT : Tab w 1) :
    Calls Tryd.prog 16 #[.int .i64 x, .slice a n c, .agg (bs p).toArray] w (MkPost w x l p) := by
  by_cases hx : 0 ≤ x ∧ x ≤ 32
  · obtain ⟨k, rfl⟩ := Int.eq_ofNat_of_zero_le hx.1
    have hk : k ≤ 32 := by omega
    by_cases he : setE [] l = 0
    · exact (make_ok w k hk a n c l hr p hp hT he).mono (fun e w' h => mkPost_ok (by rw [← rootE_set hk]; exact he) h)
    · refine (make_err w k hk a n c l hr p he).mono ?_
      rintro e w' ⟨h1, h2⟩
      rw [rootE_set hk] at h1 he
      exact mkPost_no he h1 h2
  · have hx' : x < 0 ∨ 32 < x := by omega
    refine (make_no w x hx' _ p).mono ?_
    rintro e w' ⟨h1, h2⟩
    exact mkPost_no (by rw [rootE_out hx']; decide) (by rw [rootE_out hx']; exact h1) h2
end
/-! The two leaves of layer 6's statements; claims held against each other. -/
section
open Go.RowKit
set_option maxRecDepth 100000

theorem a6_any (w : World) :
    Calls Tryd.prog 35 #[] w fun e w' => e = .returned (.agg (lc lfA).toArray) ∧ Below w.heap.size w w' := by
  have hl := lc_length lfA_ok
  have H5 := Lib.hid (show (Tryd.prog.info? 46).map (·.size) = some (lc lfA).length by rw [sizeL, hl])
  have H6 := Lib.hid (show (bs (zero32 ++ zero32)).length = (lc lfA).length by rw [hl, bs_length]; rfl)
  have H7 := lc_one lfA
  have B1 := Lib.hid built5
  have B2 := Lib.hid built_lfA
  clear hl
  generalize lfA = A at *
  generalize d5 = D at *
  go_enter Tryd.func35, Tryd.ntmps35
  go_wp2_with (first | ((with_reducible refine wpList_allocB (o := ⟨some 0, _, _, _, _, _⟩) ?_ 46 ?_ zeroL_info ?_); rfl; rfl; intro w1 hr1 hg1 hz1) | ((with_reducible refine wpList_buildI (dst := some 1) B1.out ?_ ?_); rfl) | ((with_reducible refine wpList_buildI (dst := some 2) B2.out ?_ ?_); rfl) | ((with_reducible refine wpList_storeB (o := ⟨none, .store 46 (.tmp 0) (.tmp 2), _, _, _, _⟩) ?_ 46 (.tmp 0) (.tmp 2) ?_ ?_ ?_ hr1 H5.out H6.out H7 ?_); rfl; rfl; rfl; rfl; intro w2 hr2 hg2 hz2))
  try simp only [Exit.inBlock, Exit.then]
  refine bodyPost_blk hr2 Tryd.underlying46 H5.out rfl rfl rfl rfl ⟨rfl, ?_⟩
  exact ((Below.refl _ w).grown hg1 (Nat.le_refl _) (fun k e => by cases e)).grown hg2 (by omega) (fun k e => by cases e; exact Nat.le_refl _)
theorem b6_any (w : World) :
    Calls Tryd.prog 36 #[] w fun e w' => e = .returned (.agg (lc lfB).toArray) ∧ Below w.heap.size w w' := by
  have hl := lc_length lfB_ok
  have H5 := Lib.hid (show (Tryd.prog.info? 46).map (·.size) = some (lc lfB).length by rw [sizeL, hl])
  have H6 := Lib.hid (show (bs (zero32 ++ zero32)).length = (lc lfB).length by rw [hl, bs_length]; rfl)
  have H7 := lc_one lfB
  have B1 := Lib.hid builtB
  have B2 := Lib.hid built6
  have B3 := Lib.hid built_lfB
  clear hl
  generalize lfB = A at *
  generalize d6 = D at *
  generalize dB = E at *
  go_enter Tryd.func36, Tryd.ntmps36
  go_wp2_with (first | ((with_reducible refine wpList_allocB (o := ⟨some 0, _, _, _, _, _⟩) ?_ 46 ?_ zeroL_info ?_); rfl; rfl; intro w1 hr1 hg1 hz1) | ((with_reducible refine wpList_buildI (dst := some 1) B1.out ?_ ?_); rfl) | ((with_reducible refine wpList_buildI (dst := some 2) B2.out ?_ ?_); rfl) | ((with_reducible refine wpList_buildI (dst := some 3) B3.out ?_ ?_); rfl) | ((with_reducible refine wpList_storeB (o := ⟨none, .store 46 (.tmp 0) (.tmp 3), _, _, _, _⟩) ?_ 46 (.tmp 0) (.tmp 3) ?_ ?_ ?_ hr1 H5.out H6.out H7 ?_); rfl; rfl; rfl; rfl; intro w2 hr2 hg2 hz2))
  try simp only [Exit.inBlock, Exit.then]
  refine bodyPost_blk hr2 Tryd.underlying46 H5.out rfl rfl rfl rfl ⟨rfl, ?_⟩
  exact ((Below.refl _ w).grown hg1 (Nat.le_refl _) (fun k e => by cases e)).grown hg2 (by omega) (fun k e => by cases e; exact Nat.le_refl _)

/-- a's proof beside b -/
theorem mk_two : rootE 32 [lfA, lfB] = 0 ∧ mB 32 [lfA, lfB] zero32 = true ∧ mV 32 [lfA, lfB] zero32 = d5 ∧ mX 32 [lfA, lfB] zero32 = ⟨[leafD 32 lfB], false, zero32, zero32⟩ := by
  have h0 : rootE 32 [lfA, lfB] = 0 := by decide
  have hf : findL [lfA, lfB] zero32 = some lfA := rfl
  have hl : half [lfA, lfB] 0 0 = [lfA] := rfl
  have hh : half [lfA, lfB] 0 1 = [lfB] := rfl
  have hb : bitAt zero32 0 = 0 := by decide
  have hd : descF 32 256 [lfA, lfB] zero32 0 = ([leafD 32 lfB], [lfA]) := by
    rw [descF_more 32 255 (by decide), hb, hh, hl, descF_end 32 255 (by decide)]
    rfl
  refine ⟨h0, by rw [mB, if_pos h0, hf]; rfl, by rw [mV, if_pos h0, hf]; rfl, ?_⟩
  rw [mX, if_pos h0, show (32 : Int).toNat = 32 from rfl, mkPf_plain (by rw [hf]; rintro ⟨h, -⟩; cases h), hd]
/-- b isn't there: a stands in its place -/
theorem mk_one : rootE 32 [lfA] = 0 ∧ mB 32 [lfA] dB = false ∧ mX 32 [lfA] dB = ⟨[], true, zero32, d5⟩ := by
  have h0 : rootE 32 [lfA] = 0 := by decide
  have hf : findL [lfA] dB = none := rfl
  refine ⟨h0, by rw [mB, if_pos h0, hf]; rfl, ?_⟩
  rw [mX, if_pos h0, show (32 : Int).toNat = 32 from rfl, mkPf_other (y := lfA) hf (by rw [descF_end 32 256 (by decide)]), descF_end 32 256 (by decide)]
  rfl
end
/-! makes: a is there beside b; b is not there, a stands in its place. -/
section
open Go.RowKit
set_option maxRecDepth 100000

/-- the two claims, the two proofs, the sibling -/
structure MsAt (W : World) (g1 g2 g3 g4 : Nat) (C D P Q : List Value) (b off : Nat) (d : List UInt8) : Prop where
  c : Blk W g1 25 C
  x : Blk W g2 28 P
  e : Blk W g3 25 D
  y : Blk W g4 28 Q
  s : W.rangeAt b off (bs d)
  t : Tab W 1
theorem MsAt.below {W W' : World} {g1 g2 g3 g4 : Nat} {C D P Q : List Value} {b off : Nat} {d : List UInt8} (h : MsAt W g1 g2 g3 g4 C D P Q b off d) (hb : Below W.heap.size W W') : MsAt W' g1 g2 g3 g4 C D P Q b off d :=
  ⟨h.c.below hb, h.x.below hb, h.e.below hb, h.y.below hb, range_below hb h.s, h.t.below hb⟩
theorem MsAt.drew {W : World} {g1 g2 g3 g4 : Nat} {C D P Q : List Value} {b off : Nat} {d : List UInt8} (h : MsAt W g1 g2 g3 g4 C D P Q b off d) : MsAt W.drew g1 g2 g3 g4 C D P Q b off d := h.below (Below.refl _ W).drew

theorem MsAt.v1 {W : World} {g1 g2 g3 g4 : Nat} {b1 : Bool} {v : List UInt8} {D P Q : List Value} {b off : Nat} {d : List UInt8} (h : MsAt W g1 g2 g3 g4 (clc b1 v) D P Q b off d) : W.rangeAt g1 1 (bs v) :=
  h.c.range 1 (fun j _ => by unfold clc; rw [show 1 + j = j + 1 by omega, List.getElem?_cons_succ])
theorem MsAt.y2 {W : World} {g1 g2 g3 g4 : Nat} {C D P : List Value} {a : Option Addr} {n c : Nat} {x : Pf} {b off : Nat} {d : List UInt8} (h : MsAt W g1 g2 g3 g4 C D P (pc a n c x) b off d) : W.rangeAt g4 2 (bs x.op) :=
  h.y.range 2 (fun j hj => pc_op _ _ _ _ j hj)
theorem run_field1 (W : World) {y : Lf} (hy : y.ok) : (Instr.field 46 (.agg (lc y).toArray) 1).run Tryd.prog W = .ok (.agg (bs y.val).toArray) W := by
  have hf := leaf_fields
  have hu := leaf_under
  generalize Tryd.prog.fieldsOf 46 = F at *
  obtain ⟨f, g, hF⟩ : ∃ f g, F.toList = [f, g] := by
    match h : F.toList with
    | [f, g] => exact ⟨f, g, rfl⟩
    | [] => rw [h] at hf; simp at hf
    | [_] => rw [h] at hf; simp at hf
    | _ :: _ :: _ :: _ => rw [h] at hf; simp at hf
  rw [hF] at hf
  simp only [List.map_cons, List.map_nil, List.cons.injEq, Prod.mk.injEq, and_true] at hf
  obtain ⟨-, f1, f2, f3⟩ := hf
  have h0 : F[1]? = some g := by rw [← Array.getElem?_toList, hF]; rfl
  unfold Instr.field
  rw [Sem.run_bind, run_underlying hu W]
  simp only [Result.andThen_ok, h0, Sem.run_bind, asAgg, Sem.run_pure, f2, f3, part_digest, lc_val hy]

set_option maxHeartbeats 8000000 in
theorem makes_any (w : World) (hT : Tab w 1) :
    Calls Tryd.prog 17 #[] w fun e w' => e = .returned (.bool true) ∧ Below w.heap.size w w' := by
  obtain ⟨t0, t1, t2, t3⟩ := mk_two
  obtain ⟨u0, u1, u3⟩ := mk_one
  have hAB : oks [lfA, lfB] := fun y hy => by
    rcases List.mem_cons.1 hy with rfl | hy
    · exact lfA_ok
    · rcases List.mem_cons.1 hy with rfl | hy
      · exact lfB_ok
      · cases hy
  have hA1 : oks [lfA] := fun y hy => by
    rcases List.mem_cons.1 hy with rfl | hy
    · exact lfA_ok
    · cases hy
  have M1 := Lib.hid (fun (W : World) (a : Option Addr) (n c : Nat) (h : RdL W a n c [lfA, lfB]) (hb : Below w.heap.size w W) => make_any W 32 a n c [lfA, lfB] h zero32 zero32_length (hT.below hb))
  have M2 := Lib.hid (fun (W : World) (a : Option Addr) (n c : Nat) (h : RdL W a n c [lfA]) (hb : Below w.heap.size w W) => make_any W 32 a n c [lfA] h dB (by decide) (hT.below hb))
  unfold MkPost at M1 M2
  rw [t0, t1, t2, t3] at M1
  rw [u0, u1, u3] at M2
  have hv2 : (mV 32 [lfA] dB).length = 32 := mV_length hA1 dB
  generalize mV 32 [lfA] dB = v2 at *
  have hx1 : Pf.ok ⟨[leafD 32 lfB], false, zero32, zero32⟩ := ⟨fun d hd => by rw [List.mem_singleton.1 hd]; exact shortB_length 32 _ (by decide), zero32_length, zero32_length⟩
  have hx2 : Pf.ok ⟨[], true, zero32, d5⟩ := ⟨okd.nil, zero32_length, by decide⟩
  have SL := Lib.hid (fun (W : World) (h : Tab W 1) => sleaf_any W 32 lfB lfB_ok h)
  rw [show (32 : Int) = ((32 : Nat) : Int) from rfl, shortI_nat 32 (by decide), show shortB 32 ([0] ++ lfB.path ++ lfB.val) = leafD 32 lfB from rfl] at SL
  have hdl : (leafD 32 lfB).length = 32 := shortB_length 32 _ (by decide)
  have A6 := Lib.hid (fun W : World => a6_any W)
  have B6 := Lib.hid (fun W : World => b6_any W)
  have IC1 := Lib.hid (infoClc (b := true) (v := d5) (by decide))
  have IC2 := Lib.hid (infoClc (b := false) hv2)
  have LC1 := Lib.hid (show (clc false zero32).length = (clc true d5).length by rw [clcZ_len, clc_len (by decide)])
  have LC2 := Lib.hid (show (clc false zero32).length = (clc false v2).length by rw [clcZ_len, clc_len hv2])
  have OC1 := clc_one true d5
  have OC2 := clc_one false v2
  have ZC := zeroClc_info
  have ZP := zeroP_info
  have hPA : ∀ W : World, (Instr.field 46 (.agg (lc lfA).toArray) 0).run Tryd.prog W = .ok (.agg (bs zero32).toArray) W := fun W => run_field0 W lfA_ok
  have hPV : ∀ W : World, (Instr.field 46 (.agg (lc lfA).toArray) 1).run Tryd.prog W = .ok (.agg (bs d5).toArray) W := fun W => run_field1 W lfA_ok
  have hPB : ∀ W : World, (Instr.field 46 (.agg (lc lfB).toArray) 0).run Tryd.prog W = .ok (.agg (bs dB).toArray) W := fun W => run_field0 W lfB_ok
  have hAk := lfA_ok
  have h5l : d5.length = 32 := by decide
  have W1 := Lib.hid (fun W : World => RdL.one W hAk)
  have W2 := Lib.hid (fun W : World => RdL.many W hAB (n := 2) rfl (by decide))
  have H0 := Lib.hid (digP zero32_length)
  have H5 := Lib.hid (digP h5l)
  have HD := Lib.hid (digP hdl)
  have E0 := eq5 zero32_length
  have E5 := eq5 h5l
  have ED := eq5 hdl
  have zl := zero32_length
  clear t0 t1 t2 t3 u0 u1 u3 hA1
  generalize leafD 32 lfB = dg at *
  generalize lfA = A at *
  generalize lfB = B at *
  generalize hX1 : (⟨[dg], false, zero32, zero32⟩ : Pf) = X1 at *
  generalize hX2 : (⟨[], true, zero32, d5⟩ : Pf) = X2 at *
  have e1s : X1.sibs = [dg] := by rw [← hX1]
  have e2s : X2.sibs = [] := by rw [← hX2]
  have e2o : X2.other = true := by rw [← hX2]
  have e2p : X2.op = zero32 := by rw [← hX2]
  clear hX1 hX2
  go_enter Tryd.func17, Tryd.ntmps17
  go_wp2_with fail
  refine (A6.out w).mono ?_
  rintro e w1 ⟨rfl, hB1⟩
  go_wp2_with fail
  refine (B6.out w1).mono ?_
  rintro e w2 ⟨rfl, hB2⟩
  have hB12 := Bt hB1 hB2
  have hR3 := W2.out w2
  have hB3 : Below w.heap.size w (w2.alloc (.cells (lcs [A, B]).toArray 46)) := hB12.alloc hB12.size _
  go_wp2_with (((with_reducible refine wpList_twoL (o := ⟨some 10, _, _, _, _, _⟩) ?_ (.tmp 8) (.tmp 9) ?_ (y1 := A) (y2 := B) hAB ?_ ?_ ?_); rfl; rfl; rfl; rfl))
  generalize w2.alloc (.cells (lcs [A, B]).toArray 46) = w3 at *
  refine (A6.out w3).mono ?_
  rintro e w4 ⟨rfl, hB4⟩
  have hB14 := Bt hB3 hB4
  have hR4 := hR3.below hB4
  clear hR3 hB3 hB12
  go_wp2_with fail
  refine (M1.out w4 _ _ _ hR4 hB14).mono ?_
  rintro e w5 ⟨a1, n1, c1, rfl, hP5, hB5⟩
  have hB15 := Bt hB14 hB5
  have hsb := hP5.sib
  rw [e1s] at hsb
  obtain rfl : 1 = n1 := hsb.len
  obtain ⟨sb, so, rfl, hsl, hse⟩ := hsb.elems (by decide)
  have hs0 : w5.rangeAt sb so (bs dg) := by simpa using hse 0 (by decide)
  have IX1 := Lib.hid (size_of (a := some ⟨sb, so, none⟩) (n := 1) (c := c1) hx1)
  have LX1 := Lib.hid (cells_len (a := none) (n := 0) (c := 0) (a' := some ⟨sb, so, none⟩) (n' := 1) (c' := c1) pf0_ok hx1)
  have OX1 := pc_one (some ⟨sb, so, none⟩) 1 c1 X1
  clear hse hsb hP5 hR4 hB14
  go_wp2_with (first | (((with_reducible refine wpList_allocB (o := ⟨some 1, _, _, _, _, _⟩) ?_ 25 ?_ ZC ?_); rfl; rfl; intro w6 hr6 hg6 hz6)) | (((with_reducible refine wpList_allocB (o := ⟨some 2, _, _, _, _, _⟩) ?_ 28 ?_ ZP ?_); rfl; rfl; intro w7 hr7 hg7 hz7); have c7 := hr6.grown hg7 (by simp)) | (((with_reducible refine wpList_storeB (o := ⟨none, .store 25 (.tmp 1) (.tmp 14), _, _, _, _⟩) ?_ 25 (.tmp 1) (.tmp 14) ?_ ?_ ?_ c7 IC1.out LC1.out OC1 ?_); rfl; rfl; rfl; rfl; intro w8 hr8 hg8 hz8); have x8 := hr7.grown hg8 (fun e => by injection e with e; omega)) | (((with_reducible refine wpList_storeB (o := ⟨none, .store 28 (.tmp 2) (.tmp 15), _, _, _, _⟩) ?_ 28 (.tmp 2) (.tmp 15) ?_ ?_ ?_ x8 IX1.out LX1.out OX1 ?_); rfl; rfl; rfl; rfl; intro w9 hr9 hg9 hz9); have c9 := hr8.grown hg9 (fun e => by injection e with e; omega)))
  have b6 := (Below.refl _ w5).grown hg6 (Nat.le_refl _) (fun k e => by cases e)
  have b7 := b6.grown hg7 b6.size (fun k e => by cases e)
  have b8 := b7.grown hg8 b7.size (fun k e => by cases e; omega)
  have b9 := b8.grown hg9 b8.size (fun k e => by cases e; omega)
  have hs9 := range_below b9 hs0
  have hB19 := Bt hB15 b9
  rw [hz6] at hr9
  clear hr6 hg6 hz7 hr7 hg7 c7 hr8 hg8 hz8 x8 hg9 hz9 b6 b7 b8 b9 hs0
  refine (A6.out w9).mono ?_
  rintro e w10 ⟨rfl, hB10⟩
  have hR10 := W1.out w10
  have hA10 : Below w10.heap.size w10 (w10.alloc (.cells (lc A).toArray 46)) := (Below.refl _ w10).alloc (Nat.le_refl _) _
  go_wp2_with ((with_reducible refine wpList_oneL (o := ⟨some 19, _, _, _, _, _⟩) ?_ (.tmp 18) ?_ (y := A) ?_ hAk ?_); rfl; rfl; rfl)
  generalize w10.alloc (.cells (lc A).toArray 46) = w11 at *
  have hB911 := Bt hB10 hA10
  refine (B6.out w11).mono ?_
  rintro e w12 ⟨rfl, hB12⟩
  have hB912 := Bt hB911 hB12
  have hR12 := hR10.below hB12
  go_wp2_with fail
  refine (M2.out w12 _ _ _ hR12 (Bt hB19 hB912)).mono ?_
  rintro e w13 ⟨a2, n2, c2, rfl, hP13, hB13⟩
  have hB913 := Bt hB912 hB13
  have hsb := hP13.sib
  rw [e2s] at hsb
  obtain rfl : 0 = n2 := hsb.len
  have IX2 := Lib.hid (size_of (a := a2) (n := 0) (c := c2) hx2)
  have LX2 := Lib.hid (cells_len (a := none) (n := 0) (c := 0) (a' := a2) (n' := 0) (c' := c2) pf0_ok hx2)
  have OX2 := pc_one a2 0 c2 X2
  clear hsb hP13 hR12 hR10 hB12 hB912 hA10 hB911 hB10
  have c13 := c9.below hB913
  have x13 := hr9.below hB913
  have s13 := range_below hB913 hs9
  have hB113 := Bt hB19 hB913
  clear c9 hr9 hs9 hB913 hB19
  go_wp2_with (first | (((with_reducible refine wpList_allocB (o := ⟨some 4, _, _, _, _, _⟩) ?_ 25 ?_ ZC ?_); rfl; rfl; intro w14 hr14 hg14 hz14)) | (((with_reducible refine wpList_allocB (o := ⟨some 5, _, _, _, _, _⟩) ?_ 28 ?_ ZP ?_); rfl; rfl; intro w15 hr15 hg15 hz15); have c15 := hr14.grown hg15 (by simp)) | (((with_reducible refine wpList_storeB (o := ⟨none, .store 25 (.tmp 4) (.tmp 23), _, _, _, _⟩) ?_ 25 (.tmp 4) (.tmp 23) ?_ ?_ ?_ c15 IC2.out LC2.out OC2 ?_); rfl; rfl; rfl; rfl; intro w16 hr16 hg16 hz16); have x16 := hr15.grown hg16 (fun e => by injection e with e; omega)) | (((with_reducible refine wpList_storeB (o := ⟨none, .store 28 (.tmp 5) (.tmp 24), _, _, _, _⟩) ?_ 28 (.tmp 5) (.tmp 24) ?_ ?_ ?_ x16 IX2.out LX2.out OX2 ?_); rfl; rfl; rfl; rfl; intro w17 hr17 hg17 hz17); have c17 := hr16.grown hg17 (fun e => by injection e with e; omega)))
  have b14 := (Below.refl _ w13).grown hg14 (Nat.le_refl _) (fun k e => by cases e)
  have b15 := b14.grown hg15 b14.size (fun k e => by cases e)
  have b16 := b15.grown hg16 b15.size (fun k e => by cases e; omega)
  have b17 := b16.grown hg17 b16.size (fun k e => by cases e; omega)
  rw [hz14] at hr17
  have hB117 := Bt hB113 b17
  have hM : MsAt w17 w5.heap.size (w5.heap.size + 1) w13.heap.size (w13.heap.size + 1) (clc true d5) (clc false v2) (pc (some ⟨sb, so, none⟩) 1 c1 X1) (pc a2 0 c2 X2) sb so dg :=
    ⟨c13.below b17, x13.below b17, c17, hr17, range_below b17 s13, hT.below hB117⟩
  generalize w5.heap.size = g1 at *
  generalize w13.heap.size = g3 at *
  clear hr14 hg14 hz15 hr15 hg15 c15 hr16 hg16 hz16 x16 hg17 hz17 b14 b15 b16 b17 c17 hr17 c13 x13 s13 hB113 M1 M2 W1 W2
  generalize d5 = v5 at *
  rw [show ((32 : Nat) : Int) = 32 from rfl] at SL
  -- REGION makes 2
  refine wp_region_held_drew (S := fun W => MsAt W g1 (g1 + 1) g3 (g3 + 1) (clc true v5) (clc false v2) (pc (some ⟨sb, so, none⟩) 1 c1 X1) (pc a2 0 c2 X2) sb so dg) (by kernel_rfl) hM.drew (fun hHeld => ?_)
  have hB9 := below_drew hB117
  refine wpAnyH_take (i := 0) (oi := ⟨some 26, .move (.tmp 3), _, _, _, none⟩) (v := ?_) rfl (by kernel_rfl) (by kernel_rfl) (by kernel_rfl) (fun _ _ _ h => h) (Or.inl ⟨by rfl, ?_⟩) hHeld ?_
  rotate_left
  · intro W _; go_simp; try with_reducible rfl
  try simp only [Act.put, List.setIfInBounds_toArray, List.set_cons_zero, List.set_cons_succ]
  refine wpAnyH_take (i := 1) (oi := ⟨some 27, .binOp .eql 30 (.tmp 26) (.const (.int .i64 0)) 30, _, _, _, none⟩) (v := ?_) rfl (by kernel_rfl) (by kernel_rfl) (by kernel_rfl) (fun _ _ _ h => h) (Or.inl ⟨by rfl, ?_⟩) hHeld ?_
  rotate_left
  · intro W _; go_simp; try with_reducible rfl
  try simp only [Act.put, List.setIfInBounds_toArray, List.set_cons_zero, List.set_cons_succ]
  refine wpAnyH_take (i := 2) (oi := ⟨some 28, .move (.tmp 27), _, _, _, none⟩) (v := ?_) rfl (by kernel_rfl) (by kernel_rfl) (by kernel_rfl) (fun _ _ _ h => h) (Or.inl ⟨by rfl, ?_⟩) hHeld ?_
  rotate_left
  · intro W _; go_simp; try with_reducible rfl
  try simp only [Act.put, List.setIfInBounds_toArray, List.set_cons_zero, List.set_cons_succ]
  refine wpAnyH_take (i := 3) (oi := ⟨some 29, .fieldAddr 25 (.tmp 1) 0, _, _, _, some (2, true)⟩) (v := ?_) rfl (by kernel_rfl) (by kernel_rfl) (by kernel_rfl) (fun _ _ _ h => h) (Or.inl ⟨by rfl, ?_⟩) hHeld ?_
  rotate_left
  · intro W _; go_simp; try with_reducible rfl
  try simp only [Act.put, List.setIfInBounds_toArray, List.set_cons_zero, List.set_cons_succ]
  refine wpAnyH_take (i := 4) (oi := ⟨some 30, .load 4 (.tmp 29), _, _, _, some (2, true)⟩) (v := ?_) rfl (by kernel_rfl) (by kernel_rfl) (by kernel_rfl) (fun _ _ _ h => h) (Or.inl ⟨by rfl, ?_⟩) hHeld ?_
  rotate_left
  · intro W hS; have h0 := hS.c.cell (j := 0) (v := .bool true) rfl; go_simp; try with_reducible rfl
  try simp only [Act.put, List.setIfInBounds_toArray, List.set_cons_zero, List.set_cons_succ]
  refine wpAnyH_take (i := 5) (oi := ⟨some 31, .pick (.tmp 28) (.tmp 30) (.const (.bool false)), _, _, _, none⟩) (v := ?_) rfl (by kernel_rfl) (by kernel_rfl) (by kernel_rfl) (fun _ _ _ h => h) (Or.inl ⟨by rfl, ?_⟩) hHeld ?_
  rotate_left
  · intro W _; go_simp; try with_reducible rfl
  try simp only [Act.put, List.setIfInBounds_toArray, List.set_cons_zero, List.set_cons_succ]
  refine wpAnyH_take (i := 6) (oi := ⟨some 32, .move (.tmp 31), _, _, _, none⟩) (v := ?_) rfl (by kernel_rfl) (by kernel_rfl) (by kernel_rfl) (fun _ _ _ h => h) (Or.inl ⟨by rfl, ?_⟩) hHeld ?_
  rotate_left
  · intro W _; go_simp; try with_reducible rfl
  try simp only [Act.put, List.setIfInBounds_toArray, List.set_cons_zero, List.set_cons_succ]
  refine wpAnyH_take (i := 7) (oi := ⟨some 33, .fieldAddr 25 (.tmp 1) 1, _, _, _, some (6, true)⟩) (v := ?_) rfl (by kernel_rfl) (by kernel_rfl) (by kernel_rfl) (fun _ _ _ h => h) (Or.inl ⟨by rfl, ?_⟩) hHeld ?_
  rotate_left
  · intro W _; go_simp; try with_reducible rfl
  try simp only [Act.put, List.setIfInBounds_toArray, List.set_cons_zero, List.set_cons_succ]
  refine wpAnyH_take (i := 8) (oi := ⟨some 34, .load 23 (.tmp 33), _, _, _, some (6, true)⟩) (v := .agg (bs v5).toArray) rfl (by kernel_rfl) (by kernel_rfl) (by kernel_rfl) (fun _ _ _ h => h) (yieldsIf_load_mid (by rfl) _ _ rfl g1 1 rfl (bs v5) _ (fun W h => h.v1) Tryd.underlying23 rfl H5.out) hHeld ?_
  try simp only [Act.put, List.setIfInBounds_toArray, List.set_cons_zero, List.set_cons_succ]
  refine wpAnyH_ready (rs := [9]) (by kernel_rfl) (by simp) ?_
  refine AllReadyH.cons (o := ⟨some 35, .call { callee := .value (.func 35), args := #[], argTypes := #[] }, _, _, _, some (6, true)⟩) rfl (fun K hK => ?_) AllReadyH.nil
  refine step_ofR (by rfl) ?_
  go_simp
  refine (A6.out _).mono ?_
  rintro x W1 ⟨rfl, hb1⟩
  refine hK.out _ _ (hHeld.below hb1) (fun hHeld => ?_)
  clear hK K
  try simp only [Act.put, List.setIfInBounds_toArray, List.set_cons_zero, List.set_cons_succ]
  replace hB9 := Bt hB9 hb1
  refine wpAnyH_take (i := 10) (oi := ⟨some 36, .field 46 (.tmp 35) 1, _, _, _, some (6, true)⟩) (v := ?_) rfl (by kernel_rfl) (by kernel_rfl) (by kernel_rfl) (fun _ _ _ h => h) (Or.inl ⟨by rfl, ?_⟩) hHeld ?_
  rotate_left
  · intro W _; go_simp; try with_reducible rfl
  try simp only [Act.put, List.setIfInBounds_toArray, List.set_cons_zero, List.set_cons_succ]
  refine wpAnyH_take (i := 11) (oi := ⟨some 37, .binOp .eql 23 (.tmp 34) (.tmp 36) 23, _, _, _, some (6, true)⟩) (v := .bool true) rfl (by kernel_rfl) (by kernel_rfl) (by kernel_rfl) (fun _ _ _ h => h) (yieldsIf_eqE (by rfl) .eql 23 23 (.tmp 34) (.tmp 36) rfl _ _ rfl rfl guardR _ E5) hHeld ?_
  try simp only [Act.put, List.setIfInBounds_toArray, List.set_cons_zero, List.set_cons_succ]
  refine wpAnyH_take (i := 12) (oi := ⟨some 38, .pick (.tmp 32) (.tmp 37) (.const (.bool false)), _, _, _, none⟩) (v := ?_) rfl (by kernel_rfl) (by kernel_rfl) (by kernel_rfl) (fun _ _ _ h => h) (Or.inl ⟨by rfl, ?_⟩) hHeld ?_
  rotate_left
  · intro W _; go_simp; try with_reducible rfl
  try simp only [Act.put, List.setIfInBounds_toArray, List.set_cons_zero, List.set_cons_succ]
  refine wpAnyH_take (i := 13) (oi := ⟨some 39, .move (.tmp 38), _, _, _, none⟩) (v := ?_) rfl (by kernel_rfl) (by kernel_rfl) (by kernel_rfl) (fun _ _ _ h => h) (Or.inl ⟨by rfl, ?_⟩) hHeld ?_
  rotate_left
  · intro W _; go_simp; try with_reducible rfl
  try simp only [Act.put, List.setIfInBounds_toArray, List.set_cons_zero, List.set_cons_succ]
  refine wpAnyH_take (i := 14) (oi := ⟨some 40, .fieldAddr 28 (.tmp 2) 0, _, _, _, some (13, true)⟩) (v := ?_) rfl (by kernel_rfl) (by kernel_rfl) (by kernel_rfl) (fun _ _ _ h => h) (Or.inl ⟨by rfl, ?_⟩) hHeld ?_
  rotate_left
  · intro W _; go_simp; try with_reducible rfl
  try simp only [Act.put, List.setIfInBounds_toArray, List.set_cons_zero, List.set_cons_succ]
  refine wpAnyH_take (i := 15) (oi := ⟨some 41, .load 26 (.tmp 40), _, _, _, some (13, true)⟩) (v := ?_) rfl (by kernel_rfl) (by kernel_rfl) (by kernel_rfl) (fun _ _ _ h => h) (Or.inl ⟨by rfl, ?_⟩) hHeld ?_
  rotate_left
  · intro W hS; have h0 := hS.x.cell (j := 0) (v := .slice (some ⟨sb, so, none⟩) 1 c1) rfl; go_simp; try with_reducible rfl
  try simp only [Act.put, List.setIfInBounds_toArray, List.set_cons_zero, List.set_cons_succ]
  refine wpAnyH_take (i := 16) (oi := ⟨some 42, .call { callee := .builtin .len, args := #[.tmp 41], argTypes := #[26] }, _, _, _, some (13, true)⟩) (v := ?_) rfl (by kernel_rfl) (by kernel_rfl) (by kernel_rfl) (fun _ _ _ h => h) (Or.inl ⟨by rfl, ?_⟩) hHeld ?_
  rotate_left
  · intro W _; go_simp; try with_reducible rfl
  try simp only [Act.put, List.setIfInBounds_toArray, List.set_cons_zero, List.set_cons_succ]
  refine wpAnyH_take (i := 17) (oi := ⟨some 43, .binOp .eql 3 (.tmp 42) (.const (.int .i64 1)) 3, _, _, _, some (13, true)⟩) (v := ?_) rfl (by kernel_rfl) (by kernel_rfl) (by kernel_rfl) (fun _ _ _ h => h) (Or.inl ⟨by rfl, ?_⟩) hHeld ?_
  rotate_left
  · intro W _; go_simp; try with_reducible rfl
  try simp only [Act.put, List.setIfInBounds_toArray, List.set_cons_zero, List.set_cons_succ]
  refine wpAnyH_take (i := 18) (oi := ⟨some 44, .pick (.tmp 39) (.tmp 43) (.const (.bool false)), _, _, _, none⟩) (v := ?_) rfl (by kernel_rfl) (by kernel_rfl) (by kernel_rfl) (fun _ _ _ h => h) (Or.inl ⟨by rfl, ?_⟩) hHeld ?_
  rotate_left
  · intro W _; go_simp; try with_reducible rfl
  try simp only [Act.put, List.setIfInBounds_toArray, List.set_cons_zero, List.set_cons_succ]
  refine wpAnyH_take (i := 19) (oi := ⟨some 45, .move (.tmp 44), _, _, _, none⟩) (v := ?_) rfl (by kernel_rfl) (by kernel_rfl) (by kernel_rfl) (fun _ _ _ h => h) (Or.inl ⟨by rfl, ?_⟩) hHeld ?_
  rotate_left
  · intro W _; go_simp; try with_reducible rfl
  try simp only [Act.put, List.setIfInBounds_toArray, List.set_cons_zero, List.set_cons_succ]
  refine wpAnyH_take (i := 20) (oi := ⟨some 46, .fieldAddr 28 (.tmp 2) 0, _, _, _, some (19, true)⟩) (v := ?_) rfl (by kernel_rfl) (by kernel_rfl) (by kernel_rfl) (fun _ _ _ h => h) (Or.inl ⟨by rfl, ?_⟩) hHeld ?_
  rotate_left
  · intro W _; go_simp; try with_reducible rfl
  try simp only [Act.put, List.setIfInBounds_toArray, List.set_cons_zero, List.set_cons_succ]
  refine wpAnyH_take (i := 21) (oi := ⟨some 47, .load 26 (.tmp 46), _, _, _, some (19, true)⟩) (v := ?_) rfl (by kernel_rfl) (by kernel_rfl) (by kernel_rfl) (fun _ _ _ h => h) (Or.inl ⟨by rfl, ?_⟩) hHeld ?_
  rotate_left
  · intro W hS; have h0 := hS.x.cell (j := 0) (v := .slice (some ⟨sb, so, none⟩) 1 c1) rfl; go_simp; try with_reducible rfl
  try simp only [Act.put, List.setIfInBounds_toArray, List.set_cons_zero, List.set_cons_succ]
  refine wpAnyH_take (i := 22) (oi := ⟨some 48, .indexAddr 26 (.tmp 47) (.const (.int .i64 0)), _, _, _, some (19, true)⟩) (v := ?_) rfl (by kernel_rfl) (by kernel_rfl) (by kernel_rfl) (fun _ _ _ h => h) (Or.inl ⟨by rfl, ?_⟩) hHeld ?_
  rotate_left
  · intro W _; go_simp; try with_reducible rfl
  try simp only [Act.put, List.setIfInBounds_toArray, List.set_cons_zero, List.set_cons_succ]
  refine wpAnyH_take (i := 23) (oi := ⟨some 49, .load 23 (.tmp 48), _, _, _, some (19, true)⟩) (v := .agg (bs dg).toArray) rfl (by kernel_rfl) (by kernel_rfl) (by kernel_rfl) (fun _ _ _ h => h) (yieldsIf_load_mid (by rfl) _ _ rfl sb so rfl (bs dg) _ (fun W h => h.s) Tryd.underlying23 rfl HD.out) hHeld ?_
  try simp only [Act.put, List.setIfInBounds_toArray, List.set_cons_zero, List.set_cons_succ]
  refine wpAnyH_ready (rs := [24]) (by kernel_rfl) (by simp) ?_
  refine AllReadyH.cons (o := ⟨some 50, .call { callee := .value (.func 36), args := #[], argTypes := #[] }, _, _, _, some (19, true)⟩) rfl (fun K hK => ?_) AllReadyH.nil
  refine step_ofR (by rfl) ?_
  go_simp
  refine (B6.out _).mono ?_
  rintro x W1 ⟨rfl, hb2⟩
  refine hK.out _ _ (hHeld.below hb2) (fun hHeld => ?_)
  clear hK K
  try simp only [Act.put, List.setIfInBounds_toArray, List.set_cons_zero, List.set_cons_succ]
  replace hB9 := Bt hB9 hb2
  refine wpAnyH_ready (rs := [25]) (by kernel_rfl) (by simp) ?_
  refine AllReadyH.cons (o := ⟨some 51, .call { callee := .value (.func 37), args := #[.const (.int .i64 32), .tmp 50], argTypes := #[3, 46] }, _, _, _, some (19, true)⟩) rfl (fun K hK => ?_) AllReadyH.nil
  refine step_ofR (by rfl) ?_
  go_simp
  refine (SL.out _ hHeld.t).mono ?_
  rintro x W1 ⟨rfl, hb3⟩
  refine hK.out _ _ (hHeld.below hb3) (fun hHeld => ?_)
  clear hK K
  try simp only [Act.put, List.setIfInBounds_toArray, List.set_cons_zero, List.set_cons_succ]
  replace hB9 := Bt hB9 hb3
  refine wpAnyH_take (i := 26) (oi := ⟨some 52, .binOp .eql 23 (.tmp 49) (.tmp 51) 23, _, _, _, some (19, true)⟩) (v := .bool true) rfl (by kernel_rfl) (by kernel_rfl) (by kernel_rfl) (fun _ _ _ h => h) (yieldsIf_eqE (by rfl) .eql 23 23 (.tmp 49) (.tmp 51) rfl _ _ rfl rfl guardR _ ED) hHeld ?_
  try simp only [Act.put, List.setIfInBounds_toArray, List.set_cons_zero, List.set_cons_succ]
  refine wpAnyH_take (i := 27) (oi := ⟨some 53, .pick (.tmp 45) (.tmp 52) (.const (.bool false)), _, _, _, none⟩) (v := ?_) rfl (by kernel_rfl) (by kernel_rfl) (by kernel_rfl) (fun _ _ _ h => h) (Or.inl ⟨by rfl, ?_⟩) hHeld ?_
  rotate_left
  · intro W _; go_simp; try with_reducible rfl
  try simp only [Act.put, List.setIfInBounds_toArray, List.set_cons_zero, List.set_cons_succ]
  refine wpAnyH_take (i := 28) (oi := ⟨some 54, .move (.tmp 53), _, _, _, none⟩) (v := ?_) rfl (by kernel_rfl) (by kernel_rfl) (by kernel_rfl) (fun _ _ _ h => h) (Or.inl ⟨by rfl, ?_⟩) hHeld ?_
  rotate_left
  · intro W _; go_simp; try with_reducible rfl
  try simp only [Act.put, List.setIfInBounds_toArray, List.set_cons_zero, List.set_cons_succ]
  refine wpAnyH_take (i := 29) (oi := ⟨some 55, .move (.tmp 6), _, _, _, some (28, true)⟩) (v := ?_) rfl (by kernel_rfl) (by kernel_rfl) (by kernel_rfl) (fun _ _ _ h => h) (Or.inl ⟨by rfl, ?_⟩) hHeld ?_
  rotate_left
  · intro W _; go_simp; try with_reducible rfl
  try simp only [Act.put, List.setIfInBounds_toArray, List.set_cons_zero, List.set_cons_succ]
  refine wpAnyH_take (i := 30) (oi := ⟨some 56, .binOp .eql 30 (.tmp 55) (.const (.int .i64 0)) 30, _, _, _, some (28, true)⟩) (v := ?_) rfl (by kernel_rfl) (by kernel_rfl) (by kernel_rfl) (fun _ _ _ h => h) (Or.inl ⟨by rfl, ?_⟩) hHeld ?_
  rotate_left
  · intro W _; go_simp; try with_reducible rfl
  try simp only [Act.put, List.setIfInBounds_toArray, List.set_cons_zero, List.set_cons_succ]
  refine wpAnyH_take (i := 31) (oi := ⟨some 57, .pick (.tmp 54) (.tmp 56) (.const (.bool false)), _, _, _, none⟩) (v := ?_) rfl (by kernel_rfl) (by kernel_rfl) (by kernel_rfl) (fun _ _ _ h => h) (Or.inl ⟨by rfl, ?_⟩) hHeld ?_
  rotate_left
  · intro W _; go_simp; try with_reducible rfl
  try simp only [Act.put, List.setIfInBounds_toArray, List.set_cons_zero, List.set_cons_succ]
  refine wpAnyH_take (i := 32) (oi := ⟨some 58, .move (.tmp 57), _, _, _, none⟩) (v := ?_) rfl (by kernel_rfl) (by kernel_rfl) (by kernel_rfl) (fun _ _ _ h => h) (Or.inl ⟨by rfl, ?_⟩) hHeld ?_
  rotate_left
  · intro W _; go_simp; try with_reducible rfl
  try simp only [Act.put, List.setIfInBounds_toArray, List.set_cons_zero, List.set_cons_succ]
  refine wpAnyH_take (i := 33) (oi := ⟨some 59, .fieldAddr 25 (.tmp 4) 0, _, _, _, some (32, true)⟩) (v := ?_) rfl (by kernel_rfl) (by kernel_rfl) (by kernel_rfl) (fun _ _ _ h => h) (Or.inl ⟨by rfl, ?_⟩) hHeld ?_
  rotate_left
  · intro W _; go_simp; try with_reducible rfl
  try simp only [Act.put, List.setIfInBounds_toArray, List.set_cons_zero, List.set_cons_succ]
  refine wpAnyH_take (i := 34) (oi := ⟨some 60, .load 4 (.tmp 59), _, _, _, some (32, true)⟩) (v := ?_) rfl (by kernel_rfl) (by kernel_rfl) (by kernel_rfl) (fun _ _ _ h => h) (Or.inl ⟨by rfl, ?_⟩) hHeld ?_
  rotate_left
  · intro W hS; have h0 := hS.e.cell (j := 0) (v := .bool false) rfl; go_simp; try with_reducible rfl
  try simp only [Act.put, List.setIfInBounds_toArray, List.set_cons_zero, List.set_cons_succ]
  refine wpAnyH_take (i := 35) (oi := ⟨some 61, .unOp .not 4 (.tmp 60), _, _, _, some (32, true)⟩) (v := ?_) rfl (by kernel_rfl) (by kernel_rfl) (by kernel_rfl) (fun _ _ _ h => h) (Or.inl ⟨by rfl, ?_⟩) hHeld ?_
  rotate_left
  · intro W _; go_simp; try with_reducible rfl
  try simp only [Act.put, List.setIfInBounds_toArray, List.set_cons_zero, List.set_cons_succ]
  refine wpAnyH_take (i := 36) (oi := ⟨some 62, .pick (.tmp 58) (.tmp 61) (.const (.bool false)), _, _, _, none⟩) (v := ?_) rfl (by kernel_rfl) (by kernel_rfl) (by kernel_rfl) (fun _ _ _ h => h) (Or.inl ⟨by rfl, ?_⟩) hHeld ?_
  rotate_left
  · intro W _; go_simp; try with_reducible rfl
  try simp only [Act.put, List.setIfInBounds_toArray, List.set_cons_zero, List.set_cons_succ]
  refine wpAnyH_take (i := 37) (oi := ⟨some 63, .move (.tmp 62), _, _, _, none⟩) (v := ?_) rfl (by kernel_rfl) (by kernel_rfl) (by kernel_rfl) (fun _ _ _ h => h) (Or.inl ⟨by rfl, ?_⟩) hHeld ?_
  rotate_left
  · intro W _; go_simp; try with_reducible rfl
  try simp only [Act.put, List.setIfInBounds_toArray, List.set_cons_zero, List.set_cons_succ]
  refine wpAnyH_take (i := 38) (oi := ⟨some 64, .fieldAddr 28 (.tmp 5) 1, _, _, _, some (37, true)⟩) (v := ?_) rfl (by kernel_rfl) (by kernel_rfl) (by kernel_rfl) (fun _ _ _ h => h) (Or.inl ⟨by rfl, ?_⟩) hHeld ?_
  rotate_left
  · intro W _; go_simp; try with_reducible rfl
  try simp only [Act.put, List.setIfInBounds_toArray, List.set_cons_zero, List.set_cons_succ]
  refine wpAnyH_take (i := 39) (oi := ⟨some 65, .load 4 (.tmp 64), _, _, _, some (37, true)⟩) (v := ?_) rfl (by kernel_rfl) (by kernel_rfl) (by kernel_rfl) (fun _ _ _ h => h) (Or.inl ⟨by rfl, ?_⟩) hHeld ?_
  rotate_left
  · intro W hS; have h0 := hS.y.cell (j := 1) (v := .bool X2.other) rfl; rw [e2o] at h0; go_simp; try with_reducible rfl
  try simp only [Act.put, List.setIfInBounds_toArray, List.set_cons_zero, List.set_cons_succ]
  refine wpAnyH_take (i := 40) (oi := ⟨some 66, .pick (.tmp 63) (.tmp 65) (.const (.bool false)), _, _, _, none⟩) (v := ?_) rfl (by kernel_rfl) (by kernel_rfl) (by kernel_rfl) (fun _ _ _ h => h) (Or.inl ⟨by rfl, ?_⟩) hHeld ?_
  rotate_left
  · intro W _; go_simp; try with_reducible rfl
  try simp only [Act.put, List.setIfInBounds_toArray, List.set_cons_zero, List.set_cons_succ]
  refine wpAnyH_take (i := 41) (oi := ⟨some 67, .move (.tmp 66), _, _, _, none⟩) (v := ?_) rfl (by kernel_rfl) (by kernel_rfl) (by kernel_rfl) (fun _ _ _ h => h) (Or.inl ⟨by rfl, ?_⟩) hHeld ?_
  rotate_left
  · intro W _; go_simp; try with_reducible rfl
  try simp only [Act.put, List.setIfInBounds_toArray, List.set_cons_zero, List.set_cons_succ]
  refine wpAnyH_take (i := 42) (oi := ⟨some 68, .fieldAddr 28 (.tmp 5) 2, _, _, _, some (41, true)⟩) (v := ?_) rfl (by kernel_rfl) (by kernel_rfl) (by kernel_rfl) (fun _ _ _ h => h) (Or.inl ⟨by rfl, ?_⟩) hHeld ?_
  rotate_left
  · intro W _; go_simp; try with_reducible rfl
  try simp only [Act.put, List.setIfInBounds_toArray, List.set_cons_zero, List.set_cons_succ]
  refine wpAnyH_take (i := 43) (oi := ⟨some 69, .load 23 (.tmp 68), _, _, _, some (41, true)⟩) (v := .agg (bs zero32).toArray) rfl (by kernel_rfl) (by kernel_rfl) (by kernel_rfl) (fun _ _ _ h => h) (yieldsIf_load_mid (by rfl) _ _ rfl (g3 + 1) 2 rfl (bs zero32) _ (fun W h => (by rw [← e2p]; exact h.y2)) Tryd.underlying23 rfl H0.out) hHeld ?_
  try simp only [Act.put, List.setIfInBounds_toArray, List.set_cons_zero, List.set_cons_succ]
  refine wpAnyH_ready (rs := [44]) (by kernel_rfl) (by simp) ?_
  refine AllReadyH.cons (o := ⟨some 70, .call { callee := .value (.func 35), args := #[], argTypes := #[] }, _, _, _, some (41, true)⟩) rfl (fun K hK => ?_) AllReadyH.nil
  refine step_ofR (by rfl) ?_
  go_simp
  refine (A6.out _).mono ?_
  rintro x W1 ⟨rfl, hb4⟩
  refine hK.out _ _ (hHeld.below hb4) (fun hHeld => ?_)
  clear hK K
  try simp only [Act.put, List.setIfInBounds_toArray, List.set_cons_zero, List.set_cons_succ]
  replace hB9 := Bt hB9 hb4
  refine wpAnyH_take (i := 45) (oi := ⟨some 71, .field 46 (.tmp 70) 0, _, _, _, some (41, true)⟩) (v := ?_) rfl (by kernel_rfl) (by kernel_rfl) (by kernel_rfl) (fun _ _ _ h => h) (Or.inl ⟨by rfl, ?_⟩) hHeld ?_
  rotate_left
  · intro W _; go_simp; try with_reducible rfl
  try simp only [Act.put, List.setIfInBounds_toArray, List.set_cons_zero, List.set_cons_succ]
  refine wpAnyH_take (i := 46) (oi := ⟨some 72, .binOp .eql 23 (.tmp 69) (.tmp 71) 23, _, _, _, some (41, true)⟩) (v := .bool true) rfl (by kernel_rfl) (by kernel_rfl) (by kernel_rfl) (fun _ _ _ h => h) (yieldsIf_eqE (by rfl) .eql 23 23 (.tmp 69) (.tmp 71) rfl _ _ rfl rfl guardR _ E0) hHeld ?_
  try simp only [Act.put, List.setIfInBounds_toArray, List.set_cons_zero, List.set_cons_succ]
  refine wpAnyH_take (i := 47) (oi := ⟨some 73, .pick (.tmp 67) (.tmp 72) (.const (.bool false)), _, _, _, none⟩) (v := ?_) rfl (by kernel_rfl) (by kernel_rfl) (by kernel_rfl) (fun _ _ _ h => h) (Or.inl ⟨by rfl, ?_⟩) hHeld ?_
  rotate_left
  · intro W _; go_simp; try with_reducible rfl
  try simp only [Act.put, List.setIfInBounds_toArray, List.set_cons_zero, List.set_cons_succ]
  refine wpAnyH_take (i := 48) (oi := ⟨some 74, .move (.tmp 73), _, _, _, none⟩) (v := ?_) rfl (by kernel_rfl) (by kernel_rfl) (by kernel_rfl) (fun _ _ _ h => h) (Or.inl ⟨by rfl, ?_⟩) hHeld ?_
  rotate_left
  · intro W _; go_simp; try with_reducible rfl
  try simp only [Act.put, List.setIfInBounds_toArray, List.set_cons_zero, List.set_cons_succ]
  refine wpAnyH_take (i := 49) (oi := ⟨some 75, .fieldAddr 28 (.tmp 5) 0, _, _, _, some (48, true)⟩) (v := ?_) rfl (by kernel_rfl) (by kernel_rfl) (by kernel_rfl) (fun _ _ _ h => h) (Or.inl ⟨by rfl, ?_⟩) hHeld ?_
  rotate_left
  · intro W _; go_simp; try with_reducible rfl
  try simp only [Act.put, List.setIfInBounds_toArray, List.set_cons_zero, List.set_cons_succ]
  refine wpAnyH_take (i := 50) (oi := ⟨some 76, .load 26 (.tmp 75), _, _, _, some (48, true)⟩) (v := ?_) rfl (by kernel_rfl) (by kernel_rfl) (by kernel_rfl) (fun _ _ _ h => h) (Or.inl ⟨by rfl, ?_⟩) hHeld ?_
  rotate_left
  · intro W hS; have h0 := hS.y.cell (j := 0) (v := .slice a2 0 c2) rfl; go_simp; try with_reducible rfl
  try simp only [Act.put, List.setIfInBounds_toArray, List.set_cons_zero, List.set_cons_succ]
  refine wpAnyH_take (i := 51) (oi := ⟨some 77, .call { callee := .builtin .len, args := #[.tmp 76], argTypes := #[26] }, _, _, _, some (48, true)⟩) (v := ?_) rfl (by kernel_rfl) (by kernel_rfl) (by kernel_rfl) (fun _ _ _ h => h) (Or.inl ⟨by rfl, ?_⟩) hHeld ?_
  rotate_left
  · intro W _; go_simp; try with_reducible rfl
  try simp only [Act.put, List.setIfInBounds_toArray, List.set_cons_zero, List.set_cons_succ]
  refine wpAnyH_take (i := 52) (oi := ⟨some 78, .binOp .eql 3 (.tmp 77) (.const (.int .i64 0)) 3, _, _, _, some (48, true)⟩) (v := ?_) rfl (by kernel_rfl) (by kernel_rfl) (by kernel_rfl) (fun _ _ _ h => h) (Or.inl ⟨by rfl, ?_⟩) hHeld ?_
  rotate_left
  · intro W _; go_simp; try with_reducible rfl
  try simp only [Act.put, List.setIfInBounds_toArray, List.set_cons_zero, List.set_cons_succ]
  refine wpAnyH_take (i := 53) (oi := ⟨some 79, .pick (.tmp 74) (.tmp 78) (.const (.bool false)), _, _, _, none⟩) (v := ?_) rfl (by kernel_rfl) (by kernel_rfl) (by kernel_rfl) (fun _ _ _ h => h) (Or.inl ⟨by rfl, ?_⟩) hHeld ?_
  rotate_left
  · intro W _; go_simp; try with_reducible rfl
  try simp only [Act.put, List.setIfInBounds_toArray, List.set_cons_zero, List.set_cons_succ]
  refine wpAnyH_ready (rs := [54]) (by kernel_rfl) (by simp) ?_
  refine AllReadyH.cons (o := ⟨some 0, .assign (.tmp 79), _, _, _, none⟩) rfl (fun K hK => ?_) AllReadyH.nil
  refine step_ofR (by rfl) ?_
  go_simp
  refine hK.out _ _ (hHeld) (fun hHeld => ?_)
  clear hK K
  try simp only [Act.put, List.setIfInBounds_toArray, List.set_cons_zero, List.set_cons_succ]
  refine wpAnyH_done (by kernel_rfl) ?_ _
  -- END makes
  go_wp2_with fail
  go_ret
  exact ⟨rfl, hB9⟩
end
/-! ProofMakes. -/
section
open Go.RowKit
set_option maxRecDepth 100000

theorem mX_short (x : Int) (l : List Lf) (p : List UInt8) : (mX x l p).sibs.length ≤ 256 := by
  unfold mX
  split
  · have h : (mkPf x.toNat l p).sibs = (descF x.toNat 256 l p 0).1 := by
      unfold mkPf
      split <;> rfl
    rw [h]
    exact descF_short _ _ _ _ _
  · exact Nat.zero_le _

end
end Go.Proofs.YtgbhfpkngjlfkaaDoor
