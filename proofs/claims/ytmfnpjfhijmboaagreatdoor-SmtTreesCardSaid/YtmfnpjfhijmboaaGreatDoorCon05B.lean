/-
  Con05B Con05D Con05G, in one text.
-/
import Derived.Test.YtmfnpjfhijmboaaGreatDoorNode0
import Derived.Tactics2
import Derived.Defers
import Derived.Laws.Pointers
import Derived.Laws.LoneSync
import Derived.RegionTactic
import Derived.RegionCalls
import Derived.Test.YtmfnpjfhijmboaaGreatDoorCon05A
namespace Go.Proofs.YtmfnpjfhijmboaaGreatDoor
/-! sync.Once, one goroutine: its lock, its word, Do. -/
section
open Go.RowKit

theorem race_off (w : World) : (callFunc 152 #[]).run Tryz.prog w = .ok (.value (.tuple #[])) w := run_call_mark0 Tryz.func152 (by kernel_rfl) (by kernel_rfl) (by kernel_rfl) .disable (by kernel_rfl) w
theorem race_on (w : World) : (callFunc 154 #[]).run Tryz.prog w = .ok (.value (.tuple #[])) w := run_call_mark0 Tryz.func154 (by kernel_rfl) (by kernel_rfl) (by kernel_rfl) .enable (by kernel_rfl) w
theorem race_acquire (a : Addr) (w : World) : (callFunc 155 #[.pointer (some a)]).run Tryz.prog w = .ok (.value (.tuple #[])) w := run_call_marked Tryz.func155 (by kernel_rfl) (by kernel_rfl) (by kernel_rfl) .acquire (by kernel_rfl) a w
theorem race_release (a : Addr) (w : World) : (callFunc 157 #[.pointer (some a)]).run Tryz.prog w = .ok (.value (.tuple #[])) w := run_call_marked Tryz.func157 (by kernel_rfl) (by kernel_rfl) (by kernel_rfl) .releaseMerge (by kernel_rfl) a w

set_option maxRecDepth 100000 in
theorem store_deferred (a : Addr) (x : Value) (u : FrameMode) (w : World) (hc : w.cell? a = some x) (hz : w.frozen? a = false) :
    CallsD Tryz.prog 141 #[.pointer (some a), .bool true] u w fun e u' w' => u' = u ∧ (e = .returned (.tuple #[]) ∧ w' = w.drew.setCell a (.int .u32 1)) := by
  have hc' : w.drew.cell? a = some x := by go_simp
  have hz' : w.drew.frozen? a = false := by go_simp
  have hst := run_call_store (P := Tryz.prog) Tryz.func148 (by kernel_rfl) (by kernel_rfl) (by kernel_rfl) (by kernel_rfl) (k := .u32) (y := 1) hc' hz'
  go_enter_d Tryz.func141, Tryz.ntmps141
  go_wp2
  go_region_calls
  all_goals (go_end0; exact ⟨rfl, rfl⟩)

set_option maxRecDepth 100000 in
theorem unlock_deferred (a : Addr) (u : FrameMode) (w : World) (hc : w.cell? a = some (.int .i32 1)) (hz : w.frozen? a = false) :
    CallsD Tryz.prog 140 #[.pointer (some a)] u w fun e u' w' => u' = u ∧ (e = .returned (.tuple #[]) ∧ w' = w.setCell a (.int .i32 0)) := by
  have hd := race_off
  have he := race_on
  have hr := race_release
  have hadd := run_call_add (P := Tryz.prog) Tryz.func158 (by kernel_rfl) (by kernel_rfl) (by kernel_rfl) .i32 (by kernel_rfl) (y := -1) (s := 0) hc hz (by simp [go_sem]; rfl)
  have hcv := run_convert_to_unsafe (P := Tryz.prog) (src := 200) (dst := 130) Tryz.underlying200 Tryz.underlying130 (by kernel_rfl) hc
  go_enter_d Tryz.func140, Tryz.ntmps140
  go_wp2
  go_end0
  go_wp2
  go_end0
  exact ⟨rfl, rfl⟩

set_option maxRecDepth 100000 in
theorem lock_free (a : Addr) (w : World) (hc : w.cell? a = some (.int .i32 0)) (hz : w.frozen? a = false) :
    Calls Tryz.prog 139 #[.pointer (some a)] w fun e w' => e = .returned (.tuple #[]) ∧ w' = w.setCell a (.int .i32 1) := by
  have hd := race_off
  have he := race_on
  have ha := race_acquire
  have hcas := run_call_cas_hit (P := Tryz.prog) Tryz.func153 (by kernel_rfl) (by kernel_rfl) (by kernel_rfl) .i32 (by kernel_rfl) (y := 1) hc hz
  have hc' : (w.setCell a (.int .i32 1)).cell? a = some (.int .i32 1) := World.cell?_setCell_same w a _ hc
  have hcv := run_convert_to_unsafe (P := Tryz.prog) (src := 200) (dst := 130) Tryz.underlying200 Tryz.underlying130 (by kernel_rfl) hc'
  go_enter Tryz.func139, Tryz.ntmps139
  go_wp2
  first | go_end0 | (simp only [Exit.inBlock, Exit.then]; refine bodyPost_ret (results_none rfl _ _ _) rfl ?_) | refine bodyPost_ret (results_none rfl _ _ _) rfl ?_
  go_wp2
  go_end0
  exact ⟨rfl, rfl⟩

set_option maxRecDepth 100000 in
/-- the word says no -/
theorem load_not (a : Addr) (w : World) (h0 : w.cell? a = some (.int .u32 0)) :
    Calls Tryz.prog 124 #[.pointer (some a)] w fun e w' => e = .returned (.bool false) ∧ w' = w := by
  have hl := run_call_load (P := Tryz.prog) Tryz.func138 (by kernel_rfl) (by kernel_rfl) (by kernel_rfl) .u32 (by kernel_rfl) h0
  go_enter Tryz.func124, Tryz.ntmps124
  go_wp2_with fail
  go_ret
  exact ⟨rfl, rfl⟩
set_option maxRecDepth 100000 in
/-- the word says yes -/
theorem load_yes (a : Addr) (w : World) (h0 : w.cell? a = some (.int .u32 1)) :
    Calls Tryz.prog 124 #[.pointer (some a)] w fun e w' => e = .returned (.bool true) ∧ w' = w := by
  have hl := run_call_load (P := Tryz.prog) Tryz.func138 (by kernel_rfl) (by kernel_rfl) (by kernel_rfl) .u32 (by kernel_rfl) h0
  go_enter Tryz.func124, Tryz.ntmps124
  go_wp2_with fail
  go_ret
  exact ⟨rfl, rfl⟩

/-- what stands behind a call of Do's slow road: the world behind the function, the word stored, the lock let go -/
def sealedW (p : Nat) (w1 : World) : World := (w1.drew.setCell ⟨p, 0, none⟩ (.int .u32 1)).setCell ⟨p, 1, none⟩ (.int .i32 0)

set_option maxRecDepth 100000 in
set_option maxHeartbeats 1600000 in
theorem slow_any (p g : Nat) (cb : Array Value) (w : World) (R : World → Prop) (eg : ∀ args w, (callFunc g args).run Tryz.prog w = .ok (.enter g args) w)
    (h0 : w.cell? ⟨p, 0, none⟩ = some (.int .u32 0)) (h1 : w.cell? ⟨p, 1, none⟩ = some (.int .i32 0)) (f1 : w.frozen? ⟨p, 1, none⟩ = false)
    (hf : Calls Tryz.prog g cb (w.setCell ⟨p, 1, none⟩ (.int .i32 1)) fun e w' => e = .returned (.tuple #[]) ∧ R w')
    (hR : ∀ w', R w' → w'.cell? ⟨p, 0, none⟩ = some (.int .u32 0) ∧ w'.cell? ⟨p, 1, none⟩ = some (.int .i32 1) ∧ w'.frozen? ⟨p, 0, none⟩ = false ∧ w'.frozen? ⟨p, 1, none⟩ = false) :
    Calls Tryz.prog 125 #[.pointer (some ⟨p, 0, none⟩), .func (.func g) #[] cb] w fun e w' => e = .returned (.tuple #[]) ∧ ∃ w1, R w1 ∧ w' = sealedW p w1 := by
  have hl := run_call_load (P := Tryz.prog) Tryz.func138 (by kernel_rfl) (by kernel_rfl) (by kernel_rfl) .u32 (by kernel_rfl) (w := w.setCell ⟨p, 1, none⟩ (.int .i32 1)) (a := ⟨p, 0, none⟩) (x := 0) ((World.cell?_setCell_other _ ⟨p, 1, none⟩ ⟨p, 0, none⟩ _ (by simp)).trans h0)
  have hnot : ∀ (x : Bool) (w : World), (Op.unary .not (.bool x)).run Tryz.prog w = .ok (.bool (!x)) w := fun _ _ => rfl
  have HR := Lib.hid hR
  have HF := Lib.hid hf
  clear hR hf
  go_enter_defers Tryz.func125, Tryz.ntmps125
  go_wp2_with (go_at_call 139; refine (lock_free ⟨p, 1, none⟩ _ (by go_simp) (by go_simp)).mono ?_; rintro e w' ⟨rfl, rfl⟩)
  refine (load_not _ _ ((World.cell?_setCell_other _ ⟨p, 1, none⟩ ⟨p, 0, none⟩ _ (by simp)).trans h0)).mono ?_
  rintro e w' ⟨rfl, rfl⟩
  clear hl
  go_wp2_with fail
  refine HF.out.mono ?_
  rintro e w1 ⟨rfl, hw1⟩
  go_wp2_with fail
  obtain ⟨r0, r1, z0, z1⟩ := HR.out w1 hw1
  refine leaves_cons (f := 141) (args := #[.pointer (some ⟨p, 0, none⟩), .bool true]) (by simp) (by simp [go_sem]) ?_
  refine (store_deferred ⟨p, 0, none⟩ (.int .u32 0) .returning _ r0 z0).mono ?_
  rintro e u' w'' ⟨rfl, rfl, rfl⟩
  refine leaves_cons (f := 140) (args := #[.pointer (some ⟨p, 1, none⟩)]) (by simp [settle]) (by simp [go_sem]) ?_
  refine (unlock_deferred ⟨p, 1, none⟩ _ _ ?_ (by simp [z1])).mono ?_
  · exact (World.cell?_setCell_other _ ⟨p, 0, none⟩ ⟨p, 1, none⟩ _ (by simp)).trans r1
  rintro e u' w'' ⟨rfl, rfl, rfl⟩
  simp [Leaves, settle, results, Tryz.results125]
  exact ⟨w1, hw1, rfl⟩

set_option maxRecDepth 100000 in
set_option maxHeartbeats 1600000 in
/-- Do, at a Once that isn't done -/
theorem do_first (p g : Nat) (cb : Array Value) (w : World) (R : World → Prop) (eg : ∀ args w, (callFunc g args).run Tryz.prog w = .ok (.enter g args) w)
    (h0 : w.cell? ⟨p, 0, none⟩ = some (.int .u32 0)) (h1 : w.cell? ⟨p, 1, none⟩ = some (.int .i32 0)) (f1 : w.frozen? ⟨p, 1, none⟩ = false)
    (hf : Calls Tryz.prog g cb (w.setCell ⟨p, 1, none⟩ (.int .i32 1)) fun e w' => e = .returned (.tuple #[]) ∧ R w')
    (hR : ∀ w', R w' → w'.cell? ⟨p, 0, none⟩ = some (.int .u32 0) ∧ w'.cell? ⟨p, 1, none⟩ = some (.int .i32 1) ∧ w'.frozen? ⟨p, 0, none⟩ = false ∧ w'.frozen? ⟨p, 1, none⟩ = false) :
    Calls Tryz.prog 94 #[.pointer (some ⟨p, 0, none⟩), .func (.func g) #[] cb] w fun e w' => e = .returned (.tuple #[]) ∧ ∃ w1, R w1 ∧ w' = sealedW p w1 := by
  have HS := Lib.hid (slow_any p g cb w R eg h0 h1 f1 hf hR)
  clear hf hR
  have hnot : ∀ (x : Bool) (w : World), (Op.unary .not (.bool x)).run Tryz.prog w = .ok (.bool (!x)) w := fun _ _ => rfl
  go_enter Tryz.func94, Tryz.ntmps94
  go_wp2_with fail
  refine (load_not _ _ h0).mono ?_
  rintro e w' ⟨rfl, rfl⟩
  go_wp2_with fail
  refine HS.out.mono ?_
  rintro e w1 ⟨rfl, w2, hw2, rfl⟩
  go_wp2_with fail
  go_end0
  exact ⟨rfl, w2, hw2, rfl⟩

set_option maxRecDepth 100000 in
/-- Do, at a Once that is done -/
theorem do_done (p : Nat) (fv : Value) (w : World) (h0 : w.cell? ⟨p, 0, none⟩ = some (.int .u32 1)) :
    Calls Tryz.prog 94 #[.pointer (some ⟨p, 0, none⟩), fv] w fun e w' => e = .returned (.tuple #[]) ∧ w' = w := by
  have hnot : ∀ (x : Bool) (w : World), (Op.unary .not (.bool x)).run Tryz.prog w = .ok (.bool (!x)) w := fun _ _ => rfl
  go_enter Tryz.func94, Tryz.ntmps94
  go_wp2_with fail
  refine (load_yes _ _ h0).mono ?_
  rintro e w' ⟨rfl, rfl⟩
  go_wp2_with fail
  go_end0
  exact ⟨rfl, rfl⟩
end
/-! The walks of package smt: seal and digest: each node's digest, computed once. (gen05C.py writes the regions that draw.) -/
section
open Go.RowKit

theorem Fr.drew {G : Tag} {a b : World} (h : Fr G a b) : Fr G a b.drew := h.trans (Fr.of ⟨rfl, rfl, rfl, Nat.le_refl _, fun _ _ => rfl⟩)
theorem Inv.drew {base x : Nat} {G : Tag} {L : Nat → Bool} {W : World} (h : Inv base x G L W) : Inv base x G L W.drew := h.below ⟨rfl, rfl, rfl, Nat.le_refl _, fun _ _ => rfl⟩
theorem Fr.cell {G : Tag} {a b : World} (h : Fr G a b) {k j : Nat} {v : Value} (hk : G k = none) (hc : a.cell? ⟨k, j, none⟩ = some v) : b.cell? ⟨k, j, none⟩ = some v :=
  (World.cell?_of_block (w := a) (a := ⟨k, j, none⟩) (h.block k (World.block_lt_of_cell? _ _ hc) hk)).trans hc
theorem Fr.far {G : Tag} {a b : World} (h : Fr G a b) {k j : Nat} {v : Value} (hj : 35 ≤ j) (hc : a.cell? ⟨k, j, none⟩ = some v) : b.cell? ⟨k, j, none⟩ = some v :=
  (h.fix k j (World.block_lt_of_cell? _ _ hc) hj).trans hc
theorem Blk.fr {G : Tag} {a b : World} (h : Fr G a b) {k : Nat} {t : TypeId} {vs : List Value} (hk : G k = none) (hb : Blk a k t vs) : Blk b k t vs := ⟨(h.block k hb.lt hk).trans hb.at_⟩
theorem Sealed.fresh {x : Nat} {dn : Int} {sum : List UInt8} {t : T} (h : Sealed x true dn sum t) : dn = 0 ∧ sum.length = 32 := by
  rcases h.say with h1 | ⟨_, h2, _⟩
  · exact ⟨h1, h.len⟩
  · cases h2
theorem nc_splice (lk dn : Int) {sum d : List UInt8} (hs : sum.length = 32) (hd : d.length = 32) {x sz : Nat} {lf le ri : Option Addr} : splice (nc lk dn sum x sz lf le ri) 3 (bs d) = nc lk dn d x sz lf le ri := by
  have h := splice_app [Value.int .u32 dn, .int .i32 lk, .int .u32 0] (bs sum ++ [.int .i64 (x : Int), .int .i64 (sz : Int), .pointer lf, .pointer le, .pointer ri]) (bs d)
  have e : bs sum ++ [Value.int .i64 (x : Int), .int .i64 (sz : Int), .pointer lf, .pointer le, .pointer ri] = bs sum ++ [Value.int .i64 (x : Int), .int .i64 (sz : Int), .pointer lf, .pointer le, .pointer ri] := rfl
  rw [List.drop_append, List.drop_eq_nil_of_le (by rw [bs_length, bs_length, hs, hd]; exact Nat.le_refl _), List.nil_append, bs_length, bs_length, hs, hd, Nat.sub_self, List.drop_zero] at h
  exact h
/-- one node turns, but for what is fixed -/
theorem Fr.node {G : Tag} {W W' : World} {p : Nat} {t : T} (hp : G p = some t) (hg : W.grownBy W' (some p)) {lk lk' dn dn' : Int} {sum sum' : List UInt8} {x sz : Nat} {lf le ri : Option Addr}
    (h : Blk W p 86 (nc lk dn sum x sz lf le ri)) (h' : Blk W' p 86 (nc lk' dn' sum' x sz lf le ri)) (hs : sum.length = 32) (hs' : sum'.length = 32) : Fr G W W' := by
  refine ⟨hg.os, hg.tape, hg.output, hg.size, fun k hk hn => hg.block k hk (fun e => by cases e; rw [hp] at hn; cases hn), fun k j hk hj => ?_⟩
  by_cases e : k = p
  · subst e
    have e1 : W.cell? ⟨k, j, none⟩ = (nc lk dn sum x sz lf le ri)[j]? := by rw [cell_of_row W k j _ _ _ h.at_]; simp
    have e2 : W'.cell? ⟨k, j, none⟩ = (nc lk' dn' sum' x sz lf le ri)[j]? := by rw [cell_of_row W' k j _ _ _ h'.at_]; simp
    obtain ⟨i, rfl⟩ : ∃ i, j = 35 + i := ⟨j - 35, by omega⟩
    rw [e1, e2, nc_tail _ _ hs, nc_tail _ _ hs']
  · exact World.cell?_of_block (w := W) (a := ⟨k, j, none⟩) (hg.block k hk (fun e' => e (by cases e'; rfl)))

theorem tab_drew {W : World} {g : Nat} (h : Tab W g) : Tab W.drew g := h.below ⟨rfl, rfl, rfl, Nat.le_refl _, fun _ _ => rfl⟩
/-- a block of the call's own is written -/
theorem Fr.put {G : Tag} {a b c : World} {g : Nat} (h : Fr G a b) (hg : b.grownBy c (some g)) (ha : a.heap.size ≤ g) : Fr G a c :=
  ⟨hg.os.trans h.os, hg.tape.trans h.tape, hg.output.trans h.output, Nat.le_trans h.size hg.size,
    fun k hk hn => (hg.block k (Nat.lt_of_lt_of_le hk h.size) (fun e => by cases e; omega)).trans (h.block k hk hn),
    fun k j hk hj => (World.cell?_of_block (w := b) (a := ⟨k, j, none⟩) (hg.block k (Nat.lt_of_lt_of_le hk h.size) (fun e => by cases e; omega))).trans (h.fix k j hk hj)⟩
/-- what seal's function knows of a world: its two variables -/
def SealAt (W : World) (b2 b3 p g : Nat) (cb : Array Value) : Prop := W.cell? ⟨b2, 0, none⟩ = some (.pointer (some ⟨p, 0, none⟩)) ∧ W.cell? ⟨b3, 0, none⟩ = some (.func (.func g) #[] cb)
theorem SealAt.drew {W : World} {b2 b3 p g : Nat} {cb : Array Value} (h : SealAt W b2 b3 p g cb) : SealAt W.drew b2 b3 p g cb := h
theorem SealAt.fr {W W' : World} {b2 b3 p g : Nat} {cb : Array Value} {G : Tag} (h : SealAt W b2 b3 p g cb) (hf : Fr G W W') (h2 : G b2 = none) (h3 : G b3 = none) : SealAt W' b2 b3 p g cb := ⟨hf.cell h2 h.1, hf.cell h3 h.2⟩
theorem SealAt.grown {W W' : World} {b2 b3 p g q : Nat} {cb : Array Value} (h : SealAt W b2 b3 p g cb) (hg : W.grownBy W' (some q)) (h2 : b2 ≠ q) (h3 : b3 ≠ q) : SealAt W' b2 b3 p g cb :=
  ⟨hg.cell h.1 (fun e => h2 (by cases e; rfl)), hg.cell h.2 (fun e => h3 (by cases e; rfl))⟩

/-- behind the function that seal hands to Do: the sum is stored, the node still locked -/
def Stored (base x : Nat) (G : Tag) (L : Nat → Bool) (p : Nat) (t : T) (w w' : World) : Prop :=
  Inv base x G L w' ∧ Fr G w w' ∧ ∃ lf le ri, Blk w' p 86 (nc 1 0 (t.dig x) x t.lvs.length lf le ri)

set_option maxRecDepth 100000 in
set_option maxHeartbeats 1600000 in
theorem seal1_any (base x : Nat) (hx : x ≤ 32) (G : Tag) (L : Nat → Bool) (w : World) (p g b2 b3 : Nat) (cb : Array Value) (t : T) (eg : ∀ args w, (callFunc g args).run Tryz.prog w = .ok (.enter g args) w)
    (hI : Inv base x G L w) (hp : G p = some t) (hLp : L p = true) (hT : Tab w 1) (hS : SealAt w b2 b3 p g cb) (hb2 : G b2 = none) (hb3 : G b3 = none)
    (hD : ∀ W, Fr G w W → Inv base x G L W → Tab W 1 → Calls Tryz.prog g cb W fun e w' => e = .returned (.agg (bs (t.dig x)).toArray) ∧ Inv base x G L w' ∧ Fr G W w') :
    Calls Tryz.prog 95 #[.pointer (some ⟨b3, 0, none⟩), .pointer (some ⟨b2, 0, none⟩)] w fun e w' => e = .returned (.tuple #[]) ∧ Stored base x G L p t w w' := by
  have hb2p : b2 ≠ p := fun e => by rw [e, hp] at hb2; cases hb2
  have hb3p : b3 ≠ p := fun e => by rw [e, hp] at hb3; cases hb3
  have HD := Lib.hid hD
  clear hD
  have hD := T.dig_length x hx t
  have H1 := Lib.hid (show (Tryz.prog.info? 25).map (·.size) = some (bs (t.dig x)).length by rw [info_digest, bs_length, hD])
  go_enter Tryz.func95, Tryz.ntmps95
  go_wp2_with fail
  -- REGION seal1 2
  refine wp_region_held_drew (S := fun W => SealAt W b2 b3 p g cb) (by kernel_rfl) hS.drew (fun hHeld => ?_)
  refine wpAnyH_take (i := 0) (oi := ⟨some 2, .load 143 (.tmp 1), _, _, _, none⟩) (v := ?_) rfl (by kernel_rfl) (by kernel_rfl) (by kernel_rfl) (fun _ _ _ h => h) (Or.inl ⟨by rfl, ?_⟩) hHeld ?_
  rotate_left
  · intro W hS; obtain ⟨h1, h2⟩ := hS; go_simp; try with_reducible rfl
  try simp only [Act.put, List.setIfInBounds_toArray, List.set_cons_zero, List.set_cons_succ]
  refine wpAnyH_take (i := 1) (oi := ⟨some 3, .load 47 (.tmp 0), _, _, _, none⟩) (v := ?_) rfl (by kernel_rfl) (by kernel_rfl) (by kernel_rfl) (fun _ _ _ h => h) (Or.inl ⟨by rfl, ?_⟩) hHeld ?_
  rotate_left
  · intro W hS; obtain ⟨h1, h2⟩ := hS; go_simp; try with_reducible rfl
  try simp only [Act.put, List.setIfInBounds_toArray, List.set_cons_zero, List.set_cons_succ]
  refine wpAnyH_ready (rs := [2]) (by kernel_rfl) (by simp) ?_
  refine AllReadyH.cons (o := ⟨some 4, .call { callee := .value (.tmp 3), args := #[], argTypes := #[] }, _, _, _, none⟩) rfl (fun K hK => ?_) AllReadyH.nil
  refine step_ofR (by rfl) ?_
  go_simp
  refine (HD.out _ (Fr.refl G w).drew hI.drew (tab_drew hT)).mono ?_
  rintro x W1 ⟨rfl, hI1, hF1⟩
  refine hK.out _ _ (hHeld.fr hF1 hb2 hb3) (fun hHeld => ?_)
  clear hK K
  try simp only [Act.put, List.setIfInBounds_toArray, List.set_cons_zero, List.set_cons_succ]
  refine wpAnyH_take (i := 3) (oi := ⟨some 5, .nilCheck (.tmp 2), _, _, _, none⟩) (v := ?_) rfl (by kernel_rfl) (by kernel_rfl) (by kernel_rfl) (fun _ _ _ h => h) (Or.inl ⟨by rfl, ?_⟩) hHeld ?_
  rotate_left
  · intro W _; go_simp; try with_reducible rfl
  try simp only [Act.put, List.setIfInBounds_toArray, List.set_cons_zero, List.set_cons_succ]
  refine wpAnyH_take (i := 4) (oi := ⟨some 6, .fieldAddr 83 (.tmp 5) 1, _, _, _, none⟩) (v := ?_) rfl (by kernel_rfl) (by kernel_rfl) (by kernel_rfl) (fun _ _ _ h => h) (Or.inl ⟨by rfl, ?_⟩) hHeld ?_
  rotate_left
  · intro W _; go_simp; try with_reducible rfl
  try simp only [Act.put, List.setIfInBounds_toArray, List.set_cons_zero, List.set_cons_succ]
  obtain ⟨dn, sum, lf, le, ri, hN⟩ := hI1.nd hp
  rw [hLp] at hN
  obtain ⟨rfl, hsl⟩ := hN.part.fresh
  refine wpAnyH_ready (rs := [5]) (by kernel_rfl) (by simp) ?_
  refine AllReadyH.cons (o := ⟨none, .store 25 (.tmp 6) (.tmp 4), _, _, _, none⟩) rfl (fun K hK => ?_) AllReadyH.nil
  refine step_storeM p 3 25 (.tmp 6) (.tmp 4) (bs (t.dig x)) _ 86 hN.blk (by rw [nc_length _ _ hsl, bs_length, hD]; decide) H1.out (bs_one _) rfl rfl rfl rfl ?_
  intro W2 hr2 hg2 hz2
  rw [nc_splice _ _ hsl hD] at hr2
  refine hK.out _ _ (hHeld.grown hg2 hb2p hb3p) (fun hHeld => ?_)
  clear hK K
  try simp only [Act.put]
  refine wpAnyH_done (by kernel_rfl) ?_ _
  -- END seal1
  go_wp2_with fail
  go_end0
  refine ⟨rfl, ?_, ?_, lf, le, ri, hr2⟩
  · exact hI1.turn (L' := L) hp hg2 (fun _ _ => rfl) (by rw [hLp]; exact hr2) ⟨hD, .inl rfl⟩ hN.kids
  · exact (Fr.refl G w).drew.trans (hF1.trans (Fr.node hp hg2 hN.blk hr2 hsl hD))

theorem enter_seal1 (args : Array Value) (w : World) : (callFunc 95 args).run Tryz.prog w = .ok (.enter 95 args) w := by go_simp
theorem enter_digest1 (args : Array Value) (w : World) : (callFunc 75 args).run Tryz.prog w = .ok (.enter 75 args) w := by go_simp
/-- one node more is locked -/
def lockL (L : Nat → Bool) (p : Nat) : Nat → Bool := fun k => if k = p then true else L k
theorem lockL_same (L : Nat → Bool) (p : Nat) : lockL L p p = true := by simp [lockL]
theorem lockL_other (L : Nat → Bool) (p : Nat) : ∀ k, k ≠ p → lockL L p k = L k := fun k h => by simp [lockL, h]
theorem tab_fr {W W' : World} {g : Nat} {G : Tag} (h : Tab W g) (hf : Fr G W W') (hg : G g = none) : Tab W' g := fun j v hv => hf.cell hg (h j v hv)

set_option maxRecDepth 100000 in
set_option maxHeartbeats 1600000 in
theorem do_any (base x : Nat) (hx : x ≤ 32) (G : Tag) (L : Nat → Bool) (w : World) (p g b2 b3 : Nat) (cb : Array Value) (t : T) (eg : ∀ args w, (callFunc g args).run Tryz.prog w = .ok (.enter g args) w)
    (hI : Inv base x G L w) (hp : G p = some t) (hLp : L p = false) (hT : Tab w 1) (hTg : G 1 = none) (hS : SealAt w b2 b3 p g cb) (hb2 : G b2 = none) (hb3 : G b3 = none)
    (hD : ∀ W, Fr G w W → Inv base x G (lockL L p) W → Tab W 1 → Calls Tryz.prog g cb W fun e w' => e = .returned (.agg (bs (t.dig x)).toArray) ∧ Inv base x G (lockL L p) w' ∧ Fr G W w') :
    Calls Tryz.prog 94 #[.pointer (some ⟨p, 0, none⟩), .func (.func 95) #[] #[.pointer (some ⟨b3, 0, none⟩), .pointer (some ⟨b2, 0, none⟩)]] w fun e w' =>
      e = .returned (.tuple #[]) ∧ Inv base x G L w' ∧ Fr G w w' ∧ w'.rangeAt p 3 (bs (t.dig x)) := by
  have hdl := T.dig_length x hx t
  obtain ⟨dn, sum, lf, le, ri, hN⟩ := hI.nd hp
  rw [hLp] at hN
  rcases hN.part.say with h0 | ⟨h1, _, h2⟩
  · subst h0
    have hsl := hN.part.len
    have hb1 := hN.blk.set 1 (.int .i32 1)
    have hg1 := set_grown w p 1 (.int .i32 1)
    have e1 : (nc (lkI false) 0 sum x t.lvs.length lf le ri).set 1 (.int .i32 1) = nc 1 0 sum x t.lvs.length lf le ri := rfl
    rw [e1] at hb1
    have hF1 : Fr G w (w.setCell ⟨p, 1, none⟩ (.int .i32 1)) := Fr.node hp hg1 hN.blk hb1 hsl hsl
    have hI1 : Inv base x G (lockL L p) (w.setCell ⟨p, 1, none⟩ (.int .i32 1)) := hI.turn hp hg1 (lockL_other L p) (by rw [lockL_same]; exact hb1) ⟨hsl, .inl rfl⟩ hN.kids
    have hS1 := hS.fr hF1 hb2 hb3
    have hT1 := tab_fr hT hF1 hTg
    refine (do_first p 95 _ w (Stored base x G (lockL L p) p t (w.setCell ⟨p, 1, none⟩ (.int .i32 1))) enter_seal1 hN.done hN.lock (hN.blk.free 1)
      (seal1_any base x hx G (lockL L p) _ p g b2 b3 cb t eg hI1 hp (lockL_same L p) hT1 hS1 hb2 hb3 (fun W hf hi ht => hD W (hF1.trans hf) hi ht)) ?_).mono ?_
    · rintro w' ⟨_, _, lf', le', ri', hb⟩
      exact ⟨hb.cell rfl, hb.cell rfl, hb.free 0, hb.free 1⟩
    · rintro e w' ⟨rfl, w2, ⟨hI2, hF2, lf', le', ri', hb⟩, rfl⟩
      have hbd : Blk w2.drew p 86 (nc 1 0 (t.dig x) x t.lvs.length lf' le' ri') := hb.drew
      have hb3' := (hbd.set 0 (.int .u32 1)).set 1 (.int .i32 0)
      have e3 : ((nc 1 0 (t.dig x) x t.lvs.length lf' le' ri').set 0 (.int .u32 1)).set 1 (.int .i32 0) = nc 0 1 (t.dig x) x t.lvs.length lf' le' ri' := rfl
      rw [e3] at hb3'
      have hg3 : w2.drew.grownBy (sealedW p w2) (some p) := grown2 (set_grown _ p 0 _) (set_grown _ p 1 _) (fun k e => .inr e)
      obtain ⟨dn2, sum2, lf2, le2, ri2, hN2⟩ := hI2.nd hp
      obtain ⟨_, hcs⟩ := hN2.blk.kind hb
      have hk : Kids base G w2 t lf' le' ri' := by
        have q3 := congrArg (fun l => (l[37]?, l[38]?, l[39]?)) hcs
        have a3 := nc_tail (lkI (lockL L p p)) dn2 hN2.part.len x t.lvs.length lf2 le2 ri2
        have b3 := nc_tail 1 0 hdl x t.lvs.length lf' le' ri'
        have q4 := (a3 2).symm.trans ((congrArg (fun l => l[35 + 2]?) hcs).trans (b3 2))
        have q5 := (a3 3).symm.trans ((congrArg (fun l => l[35 + 3]?) hcs).trans (b3 3))
        have q6 := (a3 4).symm.trans ((congrArg (fun l => l[35 + 4]?) hcs).trans (b3 4))
        simp only [List.getElem?_cons_succ, List.getElem?_cons_zero, Option.some.injEq, Value.pointer.injEq] at q4 q5 q6
        subst q4 q5 q6
        exact hN2.kids
      refine ⟨rfl, ?_, ?_, ?_⟩
      · refine hI2.drew.turn hp hg3 (fun k hk => (lockL_other L p k hk).symm) (by rw [hLp]; exact hb3') ⟨hdl, .inr ⟨rfl, hLp, rfl⟩⟩ (hk.turn (fun _ _ h => h.drew))
      · exact (hF1.trans hF2).drew.trans (Fr.node hp hg3 hbd hb3' hdl hdl)
      · exact hb3'.range 3 (fun j hj => nc_sum _ _ _ _ _ _ _ _ j hj)
  · subst h1
    refine (do_done p _ w hN.done).mono ?_
    rintro e w' ⟨rfl, rfl⟩
    exact ⟨rfl, hI, Fr.refl _ _, by rw [← h2]; exact hN.sums⟩

set_option maxRecDepth 100000 in
set_option maxHeartbeats 1600000 in
theorem seal_any (base x : Nat) (hx : x ≤ 32) (G : Tag) (L : Nat → Bool) (w : World) (p g : Nat) (cb : Array Value) (t : T) (eg : ∀ args w, (callFunc g args).run Tryz.prog w = .ok (.enter g args) w)
    (hI : Inv base x G L w) (hp : G p = some t) (hLp : L p = false) (hT : Tab w 1) (hTg : G 1 = none)
    (hD : ∀ W, Fr G w W → Inv base x G (lockL L p) W → Tab W 1 → Calls Tryz.prog g cb W fun e w' => e = .returned (.agg (bs (t.dig x)).toArray) ∧ Inv base x G (lockL L p) w' ∧ Fr G W w') :
    Calls Tryz.prog 74 #[.pointer (some ⟨p, 0, none⟩), .func (.func g) #[] cb] w fun e w' =>
      e = .returned (.agg (bs (t.dig x)).toArray) ∧ Inv base x G L w' ∧ Fr G w w' := by
  have hmf : ∀ (fn : Fn) (first cap : Array Value) (w : World), (Instr.makeFunc fn first cap).run Tryz.prog w = .ok (.func fn first cap) w := fun _ _ _ _ => rfl
  have HD := Lib.hid hD
  clear hD
  have hdl := T.dig_length x hx t
  have H1 := Lib.hid (show (Tryz.prog.info? 25).map (·.size) = some (bs (t.dig x)).length by rw [info_digest, bs_length, hdl])
  have H2 := Lib.hid (show (bs zero32).length = (bs (t.dig x)).length by rw [bs_length, bs_length, zero32_length, hdl])
  have H3 := bs_one (t.dig x)
  have BX := Lib.hid (fun (w0 : World) (hg : ((w.alloc (.cells #[.pointer (some ⟨p, 0, none⟩)] 143)).alloc (.cells #[.func (.func g) #[] cb] 47)).grownBy w0 none) =>
    (show SealAt w0 w.heap.size (w.heap.size + 1) p g cb ∧ Below w.heap.size w w0 from by
      have hB := (((Below.refl _ w).alloc (Nat.le_refl _) (.cells #[.pointer (some ⟨p, 0, none⟩)] 143)).alloc (by simp) (.cells #[.func (.func g) #[] cb] 47)).grown hg (by simp; omega) (fun k e => by cases e)
      refine ⟨⟨?_, ?_⟩, hB⟩
      · have h0 := (Blk.new w 143 [.pointer (some ⟨p, 0, none⟩)]).alloc (.cells #[.func (.func g) #[] cb] 47)
        exact (h0.grown hg (by simp)).cell rfl
      · have h0 := Blk.new (w.alloc (.cells #[.pointer (some ⟨p, 0, none⟩)] 143)) 47 [.func (.func g) #[] cb]
        rw [show (w.alloc (.cells #[.pointer (some ⟨p, 0, none⟩)] 143)).heap.size = w.heap.size + 1 by simp] at h0
        exact (h0.grown hg (by simp)).cell rfl))
  have hz : ((w.alloc (.cells #[.pointer (some ⟨p, 0, none⟩)] 143)).alloc (.cells #[.func (.func g) #[] cb] 47)).heap.size = w.heap.size + 1 + 1 := by simp
  go_enter Tryz.func74, Tryz.ntmps74
  go_wp2_with ((with_reducible refine wpList_allocB (o := ⟨some 4, _, _, _, _, _⟩) ?_ 25 ?_ zeroD_info ?_); rfl; rfl; intro w0 hr0 hg0 hz0; rw [hz] at hr0; obtain ⟨hS, hB0⟩ := BX.out w0 hg0; have c2 := hS.1; have c3 := hS.2)
  have hf2 := hI.free (p := w.heap.size) (Nat.le_refl _)
  have hf3 := hI.free (p := w.heap.size + 1) (by omega)
  have hf4 := hI.free (p := w.heap.size + 1 + 1) (by omega)
  refine (do_any base x hx G L w0 p g w.heap.size (w.heap.size + 1) cb t eg (hI.below hB0) hp hLp (hT.below hB0) hTg hS hf2 hf3 (fun W hf hi ht => HD.out W ((Fr.of hB0).trans hf) hi ht)).mono ?_
  rintro e w1 ⟨rfl, hI1, hF1, hsum⟩
  have hS1 := hS.fr hF1 hf2 hf3
  have d2 := hS1.1
  have hr1 := Blk.fr hF1 hf4 hr0
  clear c2 c3
  go_wp2_with (first | ((with_reducible refine wpList_loadM (o := ⟨some 13, _, _, _, _, _⟩) ?_ p 3 25 (.tmp 12) ?_ ?_ hsum Tryz.underlying25 ?_ H1.out ?_); rfl; rfl; rfl; rfl) | ((with_reducible refine wpList_storeB (o := ⟨none, .store 25 (.tmp 4) (.tmp 13), _, _, _, _⟩) ?_ 25 (.tmp 4) (.tmp 13) ?_ ?_ ?_ hr1 H1.out H2.out H3 ?_); rfl; rfl; rfl; rfl; intro w8 hb8 hg8 hz8))
  try simp only [Exit.inBlock, Exit.then]
  have hF01 := (Fr.of hB0).trans hF1
  refine bodyPost_blk hb8 Tryz.underlying25 H1.out rfl rfl rfl rfl ⟨rfl, ?_, ?_⟩
  · exact hI1.grown hg8 (hr1.not (by decide)) (hr1.not (by decide))
  · exact hF01.put hg8 (by omega)
end
/-! The walks of package smt: a node's digest. (gen05C.py writes the regions that draw.) -/
section
open Go.RowKit

/-- what the function of a node's digest knows of a world -/
structure DgnAt (W : World) (bn p x : Nat) (lf le ri : Option Addr) (g : Nat) : Prop where
  box : W.cell? ⟨bn, 0, none⟩ = some (.pointer (some ⟨p, 0, none⟩))
  width : W.cell? ⟨p, 35, none⟩ = some (.int .i64 (x : Int))
  leaf : W.cell? ⟨p, 37, none⟩ = some (.pointer lf)
  left : W.cell? ⟨p, 38, none⟩ = some (.pointer le)
  right : W.cell? ⟨p, 39, none⟩ = some (.pointer ri)
  res : ∃ d : List UInt8, d.length = 32 ∧ Blk W g 25 (bs d)
section
variable {W W' : World} {bn p x : Nat} {lf le ri : Option Addr} {g : Nat}
theorem DgnAt.drew (h : DgnAt W bn p x lf le ri g) : DgnAt W.drew bn p x lf le ri g := by
  obtain ⟨d, h1, h2⟩ := h.res
  exact ⟨h.box, h.width, h.leaf, h.left, h.right, d, h1, h2.drew⟩
theorem DgnAt.fr {G : Tag} (h : DgnAt W bn p x lf le ri g) (hf : Fr G W W') (hb : G bn = none) (hg : G g = none) : DgnAt W' bn p x lf le ri g := by
  obtain ⟨d, h1, h2⟩ := h.res
  exact ⟨hf.cell hb h.box, hf.far (by decide) h.width, hf.far (by decide) h.leaf, hf.far (by decide) h.left, hf.far (by decide) h.right, d, h1, Blk.fr hf hg h2⟩
theorem DgnAt.below (h : DgnAt W bn p x lf le ri g) (hb : Below W.heap.size W W') : DgnAt W' bn p x lf le ri g := h.fr (G := fun _ => none) (Fr.of hb) rfl rfl
theorem DgnAt.put (h : DgnAt W bn p x lf le ri g) {q : List UInt8} (hl : q.length = 32) (hr : Blk W' g 25 (bs q)) (hg : W.grownBy W' (some g)) (hb : bn ≠ g) (hp : p ≠ g) : DgnAt W' bn p x lf le ri g :=
  ⟨hg.cell h.box (fun e => hb (by cases e; rfl)), hg.cell h.width (fun e => hp (by cases e; rfl)), hg.cell h.leaf (fun e => hp (by cases e; rfl)), hg.cell h.left (fun e => hp (by cases e; rfl)), hg.cell h.right (fun e => hp (by cases e; rfl)), q, hl, hr⟩
end
structure DgLeaf (W : World) (bn p x : Nat) (lf le ri : Option Addr) (g q : Nat) (y : Lf) : Prop where
  dg : DgnAt W bn p x lf le ri g
  leaf : Blk W q 50 (lc y)
section
variable {W W' : World} {bn p x : Nat} {lf le ri : Option Addr} {g q : Nat} {y : Lf}
theorem DgLeaf.drew (h : DgLeaf W bn p x lf le ri g q y) : DgLeaf W.drew bn p x lf le ri g q y := ⟨h.dg.drew, h.leaf.drew⟩
theorem DgLeaf.below (h : DgLeaf W bn p x lf le ri g q y) (hb : Below W.heap.size W W') : DgLeaf W' bn p x lf le ri g q y := ⟨h.dg.below hb, h.leaf.below hb⟩
theorem DgLeaf.put (h : DgLeaf W bn p x lf le ri g q y) {d : List UInt8} (hl : d.length = 32) (hr : Blk W' g 25 (bs d)) (hg : W.grownBy W' (some g)) (hb : bn ≠ g) (hp : p ≠ g) (hq : q ≠ g) : DgLeaf W' bn p x lf le ri g q y :=
  ⟨h.dg.put hl hr hg hb hp, h.leaf.grown hg (fun e => hq (by cases e; rfl))⟩
end

set_option maxRecDepth 100000 in
set_option maxHeartbeats 1600000 in
theorem digest1_any (base x : Nat) (hx : x ≤ 32) (G : Tag) (L : Nat → Bool) (w : World) (p bn : Nat) (t : T) (hI : Inv base x G L w) (hp : G p = some t) (n : Nat) (ht : t.wf n) (hT : Tab w 1) (hTg : G 1 = none)
    (hbx : w.cell? ⟨bn, 0, none⟩ = some (.pointer (some ⟨p, 0, none⟩))) (hgb : G bn = none)
    (ih : ∀ W p' t' n', t'.hgt < t.hgt → t'.wf n' → Inv base x G L W → G p' = some t' → Tab W 1 → Calls Tryz.prog 48 #[.pointer (some ⟨p', 0, none⟩)] W fun e w' => e = .returned (.agg (bs (t'.dig x)).toArray) ∧ Inv base x G L w' ∧ Fr G W w') :
    Calls Tryz.prog 75 #[.pointer (some ⟨bn, 0, none⟩)] w fun e w' => e = .returned (.agg (bs (t.dig x)).toArray) ∧ Inv base x G L w' ∧ Fr G w w' := by
  obtain ⟨dn, sum, lf, le, ri, hN⟩ := hI.nd hp
  have hdl := T.dig_length x hx t
  have H1 := Lib.hid (show (Tryz.prog.info? 25).map (·.size) = some (bs (t.dig x)).length by rw [info_digest, bs_length, hdl])
  have H2 := Lib.hid (show (bs zero32).length = (bs (t.dig x)).length by rw [bs_length, bs_length, zero32_length, hdl])
  have H3 := bs_one (t.dig x)
  have hgn := hI.free (p := w.heap.size) (Nat.le_refl _)
  have hpl := hI.lt hp
  have hbl := World.block_lt_of_cell? _ _ hbx
  have hgp : p ≠ w.heap.size := by omega
  have hgbn : bn ≠ w.heap.size := by show bn ≠ _; have : bn < w.heap.size := hbl; omega
  have EM := Lib.hid (fun (W : World) (h : Tab W 1) => sempty_any W x h)
  have MK := Lib.hid (fun (w0 : World) (hg : w.grownBy w0 none) => (show w0.cell? ⟨bn, 0, none⟩ = some (.pointer (some ⟨p, 0, none⟩)) ∧ Nd base x G w0 (L p) p t dn sum lf le ri ∧ Inv base x G L w0 ∧ Below w.heap.size w w0 from by
    have hB := (Below.refl _ w).grown hg (Nat.le_refl _) (fun k e => by cases e)
    exact ⟨cell_later hB hbx, ⟨hN.blk.below hB, hN.part, hN.kids.turn (fun _ _ h => h.below hB)⟩, hI.below hB, hB⟩))
  have hk := hN.kids
  cases t with
  | none =>
    have e0 : shortI (x : Int) [2] = T.dig x .none := shortI_nat x hx [2]
    have hsz := Lib.hid (fun (W : World) (h : Nd base x G W (L p) p .none dn sum lf le ri) => (h.size : W.cell? ⟨p, 36, none⟩ = some (.int .i64 0)))
    rw [e0] at EM
    generalize T.dig x .none = D at *
    go_enter Tryz.func75, Tryz.ntmps75
    go_wp2_with ((with_reducible refine wpList_allocB (o := ⟨some 1, _, _, _, _, _⟩) ?_ 25 ?_ zeroD_info ?_); rfl; rfl; intro w0 hr0 hg0 hz0; obtain ⟨c1, hN0, hI0, hB0⟩ := MK.out w0 hg0; have c2 := hsz.out w0 hN0; have c3 := hN0.width)
    refine (EM.out w0 (hT.below hB0)).mono ?_
    rintro e w1 ⟨rfl, hB1⟩
    have hr1 := hr0.below hB1
    go_wp2_with ((with_reducible refine wpList_storeB (o := ⟨none, .store 25 (.tmp 1) (.tmp 12), _, _, _, _⟩) ?_ 25 (.tmp 1) (.tmp 12) ?_ ?_ ?_ hr1 H1.out H2.out H3 ?_); rfl; rfl; rfl; rfl; intro w8 hb8 hg8 hz8)
    try simp only [Exit.inBlock, Exit.then]
    refine bodyPost_blk hb8 Tryz.underlying25 H1.out rfl rfl rfl rfl ⟨rfl, ?_, ?_⟩
    · exact (hI0.below hB1).grown hg8 (hr1.not (by decide)) (hr1.not (by decide))
    · exact ((Fr.of hB0).trans (Fr.of hB1)).put hg8 (Nat.le_refl _)
  | one y =>
    obtain ⟨q, rfl, hq2, hq3⟩ := hk
    have hy : y.ok := ht
    have hql := hq3.lt
    have hgq : q ≠ w.heap.size := by omega
    have e0 : shortI (x : Int) ([0] ++ y.path ++ y.val) = T.dig x (.one y) := shortI_nat x hx _
    have hsz := Lib.hid (fun (W : World) (h : Nd base x G W (L p) p (.one y) dn sum (some ⟨q, 0, none⟩) le ri) => (h.size : W.cell? ⟨p, 36, none⟩ = some (.int .i64 1)))
    have HL0 := Lib.hid (fun (W : World) (h : Tab W 1) => sleaf_any W x y hy h)
    rw [e0] at HL0
    have HY := Lib.hid (show (Tryz.prog.info? 50).map (·.size) = some (lc y).length by rw [lc_length hy]; exact infoLeafS)
    have hlq := Lib.hid hq3
    generalize T.dig x (.one y) = D at *
    go_enter Tryz.func75, Tryz.ntmps75
    go_wp2_with ((with_reducible refine wpList_allocB (o := ⟨some 1, _, _, _, _, _⟩) ?_ 25 ?_ zeroD_info ?_); rfl; rfl; intro w0 hr0 hg0 hz0; obtain ⟨c1, hN0, hI0, hB0⟩ := MK.out w0 hg0; have c2 := hsz.out w0 hN0; have c3 := hN0.width)
    have hT2 := hT.below hB0
    have hS : DgLeaf w0 bn p x (some ⟨q, 0, none⟩) le ri w.heap.size q y := ⟨⟨c1, hN0.width, hN0.leaf, hN0.left, hN0.right, zero32, zero32_length, hr0⟩, hlq.out.below hB0⟩
    have HL := Lib.hid (fun (W : World) (h : Below w0.heap.size w0 W) => HL0.out W (hT2.below h))
    have hsz0 := hB0.size
    clear c1 c2 c3 hr0 hg0 hz0
    -- REGION dleaf 4
    refine wp_region_held_drew (S := fun W => DgLeaf W bn p x (some ⟨q, 0, none⟩) le ri w.heap.size q y) (by kernel_rfl) hS.drew (fun hHeld => ?_)
    refine wpAnyH_take (i := 0) (oi := ⟨some 15, .load 69 (.tmp 0), _, _, _, none⟩) (v := ?_) rfl (by kernel_rfl) (by kernel_rfl) (by kernel_rfl) (fun _ _ _ h => h) (Or.inl ⟨by rfl, ?_⟩) hHeld ?_
    rotate_left
    · intro W hS; have h0 := hS.dg.box; go_simp; try with_reducible rfl
    try simp only [Act.put, List.setIfInBounds_toArray, List.set_cons_zero, List.set_cons_succ]
    refine wpAnyH_take (i := 1) (oi := ⟨some 16, .nilCheck (.tmp 15), _, _, _, none⟩) (v := ?_) rfl (by kernel_rfl) (by kernel_rfl) (by kernel_rfl) (fun _ _ _ h => h) (Or.inl ⟨by rfl, ?_⟩) hHeld ?_
    rotate_left
    · intro W _; go_simp; try with_reducible rfl
    try simp only [Act.put, List.setIfInBounds_toArray, List.set_cons_zero, List.set_cons_succ]
    refine wpAnyH_take (i := 2) (oi := ⟨some 17, .fieldAddr 86 (.tmp 16) 1, _, _, _, none⟩) (v := ?_) rfl (by kernel_rfl) (by kernel_rfl) (by kernel_rfl) (fun _ _ _ h => h) (Or.inl ⟨by rfl, ?_⟩) hHeld ?_
    rotate_left
    · intro W _; go_simp; try with_reducible rfl
    try simp only [Act.put, List.setIfInBounds_toArray, List.set_cons_zero, List.set_cons_succ]
    refine wpAnyH_take (i := 3) (oi := ⟨some 18, .load 3 (.tmp 17), _, _, _, none⟩) (v := ?_) rfl (by kernel_rfl) (by kernel_rfl) (by kernel_rfl) (fun _ _ _ h => h) (Or.inl ⟨by rfl, ?_⟩) hHeld ?_
    rotate_left
    · intro W hS; have h0 := hS.dg.width; go_simp; try with_reducible rfl
    try simp only [Act.put, List.setIfInBounds_toArray, List.set_cons_zero, List.set_cons_succ]
    refine wpAnyH_take (i := 4) (oi := ⟨some 19, .load 69 (.tmp 0), _, _, _, none⟩) (v := ?_) rfl (by kernel_rfl) (by kernel_rfl) (by kernel_rfl) (fun _ _ _ h => h) (Or.inl ⟨by rfl, ?_⟩) hHeld ?_
    rotate_left
    · intro W hS; have h0 := hS.dg.box; go_simp; try with_reducible rfl
    try simp only [Act.put, List.setIfInBounds_toArray, List.set_cons_zero, List.set_cons_succ]
    refine wpAnyH_take (i := 5) (oi := ⟨some 20, .nilCheck (.tmp 19), _, _, _, none⟩) (v := ?_) rfl (by kernel_rfl) (by kernel_rfl) (by kernel_rfl) (fun _ _ _ h => h) (Or.inl ⟨by rfl, ?_⟩) hHeld ?_
    rotate_left
    · intro W _; go_simp; try with_reducible rfl
    try simp only [Act.put, List.setIfInBounds_toArray, List.set_cons_zero, List.set_cons_succ]
    refine wpAnyH_take (i := 6) (oi := ⟨some 21, .fieldAddr 86 (.tmp 20) 3, _, _, _, none⟩) (v := ?_) rfl (by kernel_rfl) (by kernel_rfl) (by kernel_rfl) (fun _ _ _ h => h) (Or.inl ⟨by rfl, ?_⟩) hHeld ?_
    rotate_left
    · intro W _; go_simp; try with_reducible rfl
    try simp only [Act.put, List.setIfInBounds_toArray, List.set_cons_zero, List.set_cons_succ]
    refine wpAnyH_take (i := 7) (oi := ⟨some 22, .load 84 (.tmp 21), _, _, _, none⟩) (v := ?_) rfl (by kernel_rfl) (by kernel_rfl) (by kernel_rfl) (fun _ _ _ h => h) (Or.inl ⟨by rfl, ?_⟩) hHeld ?_
    rotate_left
    · intro W hS; have h0 := hS.dg.leaf; go_simp; try with_reducible rfl
    try simp only [Act.put, List.setIfInBounds_toArray, List.set_cons_zero, List.set_cons_succ]
    refine wpAnyH_take (i := 8) (oi := ⟨some 23, .nilCheck (.tmp 22), _, _, _, none⟩) (v := ?_) rfl (by kernel_rfl) (by kernel_rfl) (by kernel_rfl) (fun _ _ _ h => h) (Or.inl ⟨by rfl, ?_⟩) hHeld ?_
    rotate_left
    · intro W _; go_simp; try with_reducible rfl
    try simp only [Act.put, List.setIfInBounds_toArray, List.set_cons_zero, List.set_cons_succ]
    refine wpAnyH_take (i := 9) (oi := ⟨some 24, .load 50 (.tmp 23), _, _, _, none⟩) (v := .agg (lc y).toArray) rfl (by kernel_rfl) (by kernel_rfl) (by kernel_rfl) (fun _ _ _ h => h) (yieldsIf_load_mid (by rfl) _ _ rfl q 0 rfl (lc y) _ (fun W h => h.leaf.allR) Tryz.underlying50 rfl HY.out) hHeld ?_
    try simp only [Act.put, List.setIfInBounds_toArray, List.set_cons_zero, List.set_cons_succ]
    refine wpAnyH_ready (rs := [10]) (by kernel_rfl) (by simp) ?_
    refine AllReadyH.cons (o := ⟨some 25, .call { callee := .value (.func 38), args := #[.tmp 18, .tmp 24], argTypes := #[3, 50] }, _, _, _, none⟩) rfl (fun K hK => ?_) AllReadyH.nil
    refine step_ofR (by rfl) ?_
    go_simp
    refine (HL.out _ (Below.refl _ _).drew).mono ?_
    rintro x W1 ⟨rfl, hb1⟩
    refine hK.out _ _ (hHeld.below hb1) (fun hHeld => ?_)
    clear hK K
    try simp only [Act.put, List.setIfInBounds_toArray, List.set_cons_zero, List.set_cons_succ]
    obtain ⟨ds, hds, hres⟩ := hHeld.dg.res
    refine wpAnyH_ready (rs := [11]) (by kernel_rfl) (by simp) ?_
    refine AllReadyH.cons (o := ⟨none, .store 25 (.tmp 1) (.tmp 25), _, _, _, none⟩) rfl (fun K hK => ?_) AllReadyH.nil
    refine step_storeW w.heap.size 25 (.tmp 1) (.tmp 25) (bs D) (bs ds) _ hres H1.out (by rw [bs_length, bs_length, hds, hdl]) H3 rfl rfl rfl rfl ?_
    intro W2 hr2 hg2 hz2
    refine hK.out _ _ (hHeld.put hdl hr2 hg2 hgbn hgp hgq) (fun hHeld => ?_)
    clear hK K
    try simp only [Act.put]
    refine wpAnyH_done (by kernel_rfl) ?_ _
    -- END dleaf
    go_wp2_with fail
    try simp only [Exit.inBlock, Exit.then]
    refine bodyPost_blk hr2 Tryz.underlying25 H1.out rfl rfl rfl rfl ⟨rfl, ?_, ?_⟩
    · exact (hI0.drew.below hb1).grown hg2 (hres.not (by decide)) (hres.not (by decide))
    · exact ((Fr.of hB0).drew.trans (Fr.of hb1)).put hg2 (Nat.le_refl _)
  | two l r =>
    obtain ⟨pl, pr, rfl, rfl, hpl, hpr⟩ := hk
    have hl1 : l.hgt < (T.two l r).hgt := by simp only [T.hgt]; omega
    have hl2 : r.hgt < (T.two l r).hgt := by simp only [T.hgt]; omega
    have e0 : shortI (x : Int) ([1] ++ l.dig x ++ r.dig x) = T.dig x (.two l r) := shortI_nat x hx _
    have NO := Lib.hid (fun (W : World) (h : Tab W 1) => snode_any W x (l.dig x) (r.dig x) (T.dig_length x hx l) (T.dig_length x hx r) h)
    rw [e0] at NO
    have IH := Lib.hid ih
    clear ih e0
    generalize T.dig x (.two l r) = D at *
    have hm2 := T.size_two ht
    have hwl := ht.2.1
    have hwr := ht.2.2.1
    generalize hm : (T.two l r).lvs.length = m at *
    have HM := Lib.hid hm
    clear hm
    have hsz := Lib.hid (fun (W : World) (h : Nd base x G W (L p) p (.two l r) dn sum lf (some ⟨pl, 0, none⟩) (some ⟨pr, 0, none⟩)) => (show W.cell? ⟨p, 36, none⟩ = some (.int .i64 (m : Int)) by rw [← HM.out]; exact h.size))
    have n0 : ¬ (m : Int) = 0 := by omega
    have n1 : ¬ (m : Int) = 1 := by omega
    go_enter Tryz.func75, Tryz.ntmps75
    go_wp2_with ((with_reducible refine wpList_allocB (o := ⟨some 1, _, _, _, _, _⟩) ?_ 25 ?_ zeroD_info ?_); rfl; rfl; intro w0 hr0 hg0 hz0; obtain ⟨c1, hN0, hI0, hB0⟩ := MK.out w0 hg0; have c2 := hsz.out w0 hN0)
    have hT2 := hT.below hB0
    have hS : DgnAt w0 bn p x lf (some ⟨pl, 0, none⟩) (some ⟨pr, 0, none⟩) w.heap.size := ⟨c1, hN0.width, hN0.leaf, hN0.left, hN0.right, zero32, zero32_length, hr0⟩
    clear c1 c2 hr0 hg0 hz0
    -- REGION dknot 4
    refine wp_region_held_drew (S := fun W => DgnAt W bn p x lf (some ⟨pl, 0, none⟩) (some ⟨pr, 0, none⟩) w.heap.size) (by kernel_rfl) hS.drew (fun hHeld => ?_)
    refine wpAnyH_take (i := 0) (oi := ⟨some 26, .load 69 (.tmp 0), _, _, _, none⟩) (v := ?_) rfl (by kernel_rfl) (by kernel_rfl) (by kernel_rfl) (fun _ _ _ h => h) (Or.inl ⟨by rfl, ?_⟩) hHeld ?_
    rotate_left
    · intro W hS; have h0 := hS.box; go_simp; try with_reducible rfl
    try simp only [Act.put, List.setIfInBounds_toArray, List.set_cons_zero, List.set_cons_succ]
    refine wpAnyH_take (i := 1) (oi := ⟨some 27, .nilCheck (.tmp 26), _, _, _, none⟩) (v := ?_) rfl (by kernel_rfl) (by kernel_rfl) (by kernel_rfl) (fun _ _ _ h => h) (Or.inl ⟨by rfl, ?_⟩) hHeld ?_
    rotate_left
    · intro W _; go_simp; try with_reducible rfl
    try simp only [Act.put, List.setIfInBounds_toArray, List.set_cons_zero, List.set_cons_succ]
    refine wpAnyH_take (i := 2) (oi := ⟨some 28, .fieldAddr 86 (.tmp 27) 1, _, _, _, none⟩) (v := ?_) rfl (by kernel_rfl) (by kernel_rfl) (by kernel_rfl) (fun _ _ _ h => h) (Or.inl ⟨by rfl, ?_⟩) hHeld ?_
    rotate_left
    · intro W _; go_simp; try with_reducible rfl
    try simp only [Act.put, List.setIfInBounds_toArray, List.set_cons_zero, List.set_cons_succ]
    refine wpAnyH_take (i := 3) (oi := ⟨some 29, .load 3 (.tmp 28), _, _, _, none⟩) (v := ?_) rfl (by kernel_rfl) (by kernel_rfl) (by kernel_rfl) (fun _ _ _ h => h) (Or.inl ⟨by rfl, ?_⟩) hHeld ?_
    rotate_left
    · intro W hS; have h0 := hS.width; go_simp; try with_reducible rfl
    try simp only [Act.put, List.setIfInBounds_toArray, List.set_cons_zero, List.set_cons_succ]
    refine wpAnyH_take (i := 4) (oi := ⟨some 30, .load 69 (.tmp 0), _, _, _, none⟩) (v := ?_) rfl (by kernel_rfl) (by kernel_rfl) (by kernel_rfl) (fun _ _ _ h => h) (Or.inl ⟨by rfl, ?_⟩) hHeld ?_
    rotate_left
    · intro W hS; have h0 := hS.box; go_simp; try with_reducible rfl
    try simp only [Act.put, List.setIfInBounds_toArray, List.set_cons_zero, List.set_cons_succ]
    refine wpAnyH_take (i := 5) (oi := ⟨some 31, .nilCheck (.tmp 30), _, _, _, none⟩) (v := ?_) rfl (by kernel_rfl) (by kernel_rfl) (by kernel_rfl) (fun _ _ _ h => h) (Or.inl ⟨by rfl, ?_⟩) hHeld ?_
    rotate_left
    · intro W _; go_simp; try with_reducible rfl
    try simp only [Act.put, List.setIfInBounds_toArray, List.set_cons_zero, List.set_cons_succ]
    refine wpAnyH_take (i := 6) (oi := ⟨some 32, .fieldAddr 86 (.tmp 31) 4, _, _, _, none⟩) (v := ?_) rfl (by kernel_rfl) (by kernel_rfl) (by kernel_rfl) (fun _ _ _ h => h) (Or.inl ⟨by rfl, ?_⟩) hHeld ?_
    rotate_left
    · intro W _; go_simp; try with_reducible rfl
    try simp only [Act.put, List.setIfInBounds_toArray, List.set_cons_zero, List.set_cons_succ]
    refine wpAnyH_take (i := 7) (oi := ⟨some 33, .load 69 (.tmp 32), _, _, _, none⟩) (v := ?_) rfl (by kernel_rfl) (by kernel_rfl) (by kernel_rfl) (fun _ _ _ h => h) (Or.inl ⟨by rfl, ?_⟩) hHeld ?_
    rotate_left
    · intro W hS; have h0 := hS.left; go_simp; try with_reducible rfl
    try simp only [Act.put, List.setIfInBounds_toArray, List.set_cons_zero, List.set_cons_succ]
    refine wpAnyH_take (i := 9) (oi := ⟨some 35, .load 69 (.tmp 0), _, _, _, none⟩) (v := ?_) rfl (by kernel_rfl) (by kernel_rfl) (by kernel_rfl) (fun _ _ _ h => h) (Or.inl ⟨by rfl, ?_⟩) hHeld ?_
    rotate_left
    · intro W hS; have h0 := hS.box; go_simp; try with_reducible rfl
    try simp only [Act.put, List.setIfInBounds_toArray, List.set_cons_zero, List.set_cons_succ]
    refine wpAnyH_take (i := 10) (oi := ⟨some 36, .nilCheck (.tmp 35), _, _, _, none⟩) (v := ?_) rfl (by kernel_rfl) (by kernel_rfl) (by kernel_rfl) (fun _ _ _ h => h) (Or.inl ⟨by rfl, ?_⟩) hHeld ?_
    rotate_left
    · intro W _; go_simp; try with_reducible rfl
    try simp only [Act.put, List.setIfInBounds_toArray, List.set_cons_zero, List.set_cons_succ]
    refine wpAnyH_take (i := 11) (oi := ⟨some 37, .fieldAddr 86 (.tmp 36) 5, _, _, _, none⟩) (v := ?_) rfl (by kernel_rfl) (by kernel_rfl) (by kernel_rfl) (fun _ _ _ h => h) (Or.inl ⟨by rfl, ?_⟩) hHeld ?_
    rotate_left
    · intro W _; go_simp; try with_reducible rfl
    try simp only [Act.put, List.setIfInBounds_toArray, List.set_cons_zero, List.set_cons_succ]
    refine wpAnyH_take (i := 12) (oi := ⟨some 38, .load 69 (.tmp 37), _, _, _, none⟩) (v := ?_) rfl (by kernel_rfl) (by kernel_rfl) (by kernel_rfl) (fun _ _ _ h => h) (Or.inl ⟨by rfl, ?_⟩) hHeld ?_
    rotate_left
    · intro W hS; have h0 := hS.right; go_simp; try with_reducible rfl
    try simp only [Act.put, List.setIfInBounds_toArray, List.set_cons_zero, List.set_cons_succ]
    refine wpAnyH_ready (rs := [8]) (by kernel_rfl) (by simp) ?_
    refine AllReadyH.cons (o := ⟨some 34, .call { callee := .value (.func 48), args := #[.tmp 33], argTypes := #[69] }, _, _, _, none⟩) rfl (fun K hK => ?_) AllReadyH.nil
    refine step_ofR (by rfl) ?_
    go_simp
    refine (IH.out _ pl l (n + 1) hl1 hwl hI0.drew hpl (tab_drew hT2)).mono ?_
    rintro x W1 ⟨rfl, hI3, hF3⟩
    refine hK.out _ _ (hHeld.fr hF3 hgb hgn) (fun hHeld => ?_)
    clear hK K
    try simp only [Act.put, List.setIfInBounds_toArray, List.set_cons_zero, List.set_cons_succ]
    refine wpAnyH_ready (rs := [13]) (by kernel_rfl) (by simp) ?_
    refine AllReadyH.cons (o := ⟨some 39, .call { callee := .value (.func 48), args := #[.tmp 38], argTypes := #[69] }, _, _, _, none⟩) rfl (fun K hK => ?_) AllReadyH.nil
    refine step_ofR (by rfl) ?_
    go_simp
    refine (IH.out _ pr r (n + 1) hl2 hwr hI3 hpr (tab_fr (tab_drew hT2) hF3 hTg)).mono ?_
    rintro x W1 ⟨rfl, hI4, hF4⟩
    refine hK.out _ _ (hHeld.fr hF4 hgb hgn) (fun hHeld => ?_)
    clear hK K
    try simp only [Act.put, List.setIfInBounds_toArray, List.set_cons_zero, List.set_cons_succ]
    refine wpAnyH_ready (rs := [14]) (by kernel_rfl) (by simp) ?_
    refine AllReadyH.cons (o := ⟨some 40, .call { callee := .value (.func 53), args := #[.tmp 29, .tmp 34, .tmp 39], argTypes := #[3, 25, 25] }, _, _, _, none⟩) rfl (fun K hK => ?_) AllReadyH.nil
    refine step_ofR (by rfl) ?_
    go_simp
    refine (NO.out _ (tab_fr (tab_fr (tab_drew hT2) hF3 hTg) hF4 hTg)).mono ?_
    rintro x W1 ⟨rfl, hb5⟩
    refine hK.out _ _ (hHeld.below hb5) (fun hHeld => ?_)
    clear hK K
    try simp only [Act.put, List.setIfInBounds_toArray, List.set_cons_zero, List.set_cons_succ]
    obtain ⟨ds, hds, hres⟩ := hHeld.res
    refine wpAnyH_ready (rs := [15]) (by kernel_rfl) (by simp) ?_
    refine AllReadyH.cons (o := ⟨none, .store 25 (.tmp 1) (.tmp 40), _, _, _, none⟩) rfl (fun K hK => ?_) AllReadyH.nil
    refine step_storeW w.heap.size 25 (.tmp 1) (.tmp 40) (bs D) (bs ds) _ hres H1.out (by rw [bs_length, bs_length, hds, hdl]) H3 rfl rfl rfl rfl ?_
    intro W2 hr2 hg2 hz2
    refine hK.out _ _ (hHeld.put hdl hr2 hg2 hgbn hgp) (fun hHeld => ?_)
    clear hK K
    try simp only [Act.put]
    refine wpAnyH_done (by kernel_rfl) ?_ _
    -- END dknot
    go_wp2_with fail
    try simp only [Exit.inBlock, Exit.then]
    refine bodyPost_blk hr2 Tryz.underlying25 H1.out rfl rfl rfl rfl ⟨rfl, ?_, ?_⟩
    · exact (hI4.below hb5).grown hg2 (hres.not (by decide)) (hres.not (by decide))
    · exact ((((Fr.of hB0).drew.trans hF3).trans hF4).trans (Fr.of hb5)).put hg2 (Nat.le_refl _)

set_option maxRecDepth 100000 in
set_option maxHeartbeats 1600000 in
theorem digest_any (base x : Nat) (hx : x ≤ 32) (G : Tag) (hTg : G 1 = none) : ∀ (h : Nat) (L : Nat → Bool) (w : World) (p : Nat) (t : T) (n : Nat), t.hgt < h → t.wf n → Inv base x G L w → G p = some t → (∀ q, L q = true → ∃ u, G q = some u ∧ t.hgt < u.hgt) → Tab w 1 →
    Calls Tryz.prog 48 #[.pointer (some ⟨p, 0, none⟩)] w fun e w' => e = .returned (.agg (bs (t.dig x)).toArray) ∧ Inv base x G L w' ∧ Fr G w w' := by
  intro h
  induction h with
  | zero => intro _ _ _ t _ ht; omega
  | succ h ih =>
    intro L w p t n hh ht hI hp hL hT
    have hLp : L p = false := by
      cases e : L p with
      | false => rfl
      | true =>
        obtain ⟨u, hu, hlt⟩ := hL p e
        rw [hp] at hu
        cases hu
        omega
    have hdl := T.dig_length x hx t
    have H1 := Lib.hid (show (Tryz.prog.info? 25).map (·.size) = some (bs (t.dig x)).length by rw [info_digest, bs_length, hdl])
    have H2 := Lib.hid (show (bs zero32).length = (bs (t.dig x)).length by rw [bs_length, bs_length, zero32_length, hdl])
    have H3 := bs_one (t.dig x)
    have hmf : ∀ (fn : Fn) (first cap : Array Value) (w : World), (Instr.makeFunc fn first cap).run Tryz.prog w = .ok (.func fn first cap) w := fun _ _ _ _ => rfl
    have BX := Lib.hid (fun (w0 : World) (hg : (w.alloc (.cells #[.pointer (some ⟨p, 0, none⟩)] 69)).grownBy w0 none) =>
      (show w0.cell? ⟨w.heap.size, 0, none⟩ = some (.pointer (some ⟨p, 0, none⟩)) ∧ Below w.heap.size w w0 from by
        refine ⟨((Blk.new w 69 [.pointer (some ⟨p, 0, none⟩)]).grown hg (by simp)).cell rfl, ((Below.refl _ w).alloc (Nat.le_refl _) _).grown hg (by simp) (fun k e => by cases e)⟩))
    have hz : (w.alloc (.cells #[.pointer (some ⟨p, 0, none⟩)] 69)).heap.size = w.heap.size + 1 := by simp
    have hfb := hI.free (p := w.heap.size) (Nat.le_refl _)
    have hfg := hI.free (p := w.heap.size + 1) (by omega)
    have SE := Lib.hid (fun (w0 : World) (hB0 : Below w.heap.size w w0) (c2 : w0.cell? ⟨w.heap.size, 0, none⟩ = some (.pointer (some ⟨p, 0, none⟩))) =>
      seal_any base x hx G L w0 p 75 #[.pointer (some ⟨w.heap.size, 0, none⟩)] t enter_digest1 (hI.below hB0) hp hLp (hT.below hB0) hTg (fun W hf hi htb =>
        digest1_any base x hx G (lockL L p) W p w.heap.size t hi hp n ht htb hTg (hf.cell hfb c2) hfb (fun W' p' t' n' hlt hw' hi' hp' htb' =>
          ih (lockL L p) W' p' t' n' (by omega) hw' hi' hp' (fun q hq => by
            by_cases e : q = p
            · subst e; exact ⟨t, hp, hlt⟩
            · rw [lockL_other L p q e] at hq
              obtain ⟨u, hu, hlu⟩ := hL q hq
              exact ⟨u, hu, by omega⟩) htb')))
    generalize T.dig x t = D at *
    clear ih
    go_enter Tryz.func48, Tryz.ntmps48
    go_wp2_with ((with_reducible refine wpList_allocB (o := ⟨some 2, _, _, _, _, _⟩) ?_ 25 ?_ zeroD_info ?_); rfl; rfl; intro w0 hr0 hg0 hz0; rw [hz] at hr0; obtain ⟨c2, hB0⟩ := BX.out w0 hg0)
    refine (SE.out w0 hB0 c2).mono ?_
    rintro e w1 ⟨rfl, hI1, hF1⟩
    have hr1 := Blk.fr hF1 hfg hr0
    go_wp2_with ((with_reducible refine wpList_storeB (o := ⟨none, .store 25 (.tmp 2) (.tmp 7), _, _, _, _⟩) ?_ 25 (.tmp 2) (.tmp 7) ?_ ?_ ?_ hr1 H1.out H2.out H3 ?_); rfl; rfl; rfl; rfl; intro w8 hb8 hg8 hz8)
    try simp only [Exit.inBlock, Exit.then]
    refine bodyPost_blk hb8 Tryz.underlying25 H1.out rfl rfl rfl rfl ⟨rfl, ?_, ?_⟩
    · exact hI1.grown hg8 (hr1.not (by decide)) (hr1.not (by decide))
    · exact ((Fr.of hB0).trans hF1).put hg8 (by omega)
end
end Go.Proofs.YtmfnpjfhijmboaaGreatDoor
