/-
  The walks of package proof: read, Get.
-/
import Derived.Test.YtmfnpjfhijmboaaPrf3
import Derived.Deep.RegionHeld3
namespace Go.Proofs.Ytmfnpjfhijmboaa
open Go.RowKit

def pf0 : Pf := ⟨[], false, zero32, zero32⟩
theorem pf0_ok : pf0.ok := ⟨okd.nil, zero32_length, zero32_length⟩
theorem zeroP_info : (Try.prog.info? 26).map (fun i => (i.zero, i.size)) = some (some (.agg (pc none 0 0 pf0).toArray), 66) := by kernel_rfl
/-- the results of a function that names a proof first, and hands back something beside it -/
theorem results_blk2 {fn : Func} {p t : Tmp} {ty : TypeId} (h : fn.results = #[.cell p ty, .tmp t]) (tmps : Array Value) (w : World) (g : Nat) (u : TypeId) (vs : List Value) (d : TypeDesc)
    (hp : tmps.getD p undef = .pointer (some ⟨g, 0, none⟩)) (hg : Blk w g u vs) (hu : Try.prog.underlying ty = some d) (hd : d.isRow = true) (hi : (Try.prog.info? ty).map (·.size) = some vs.length) :
    (results fn tmps).run Try.prog w = .ok (.tuple #[.agg vs.toArray, tmps.getD t undef]) w := by
  have hp' : tmps[p]?.getD undef = .pointer (some ⟨g, 0, none⟩) := by simpa using hp
  simp [results, h, hp', asAddr, run_loadVar_row w g u ty _ (0, 0) _ hg.at_ hu (by cases d <;> simp_all) (by simpa using hi)]

/-- the rest of a proof's bytes: the siblings -/
def tailP (x : Pf) (l : List UInt8) : Option (Pf × List UInt8) :=
  if (cnt 0 0 l).2.2 ≠ 0 ∨ 256 < (cnt 0 0 l).1 then none
  else if (l.drop (cnt 0 0 l).2.1).length < (cnt 0 0 l).1 * 32 then none
  else some ({ x with sibs := chunks (cnt 0 0 l).1 (l.drop (cnt 0 0 l).2.1) }, (l.drop (cnt 0 0 l).2.1).drop ((cnt 0 0 l).1 * 32))
/-- a proof at the front of bytes -/
def rdPf (l : List UInt8) : Option (Pf × List UInt8) :=
  if (cnt 0 0 l).2.2 ≠ 0 ∨ 1 < (cnt 0 0 l).1 then none
  else if (cnt 0 0 l).1 = 1 then
    if (l.drop (cnt 0 0 l).2.1).length < 64 then none
    else tailP ⟨[], true, (l.drop (cnt 0 0 l).2.1).take 32, ((l.drop (cnt 0 0 l).2.1).drop 32).take 32⟩ ((l.drop (cnt 0 0 l).2.1).drop 64)
  else tailP pf0 (l.drop (cnt 0 0 l).2.1)

/-- a proof whose siblings are a row of the call's own -/
structure OwP (w : World) (base : Nat) (a : Option Addr) (n c : Nat) (x : Pf) : Prop where
  own : OwnD w base (.slice a n c) x.sibs
  p : x.op.length = 32
  v : x.ov.length = 32
theorem OwP.rd {w : World} {base : Nat} {a : Option Addr} {n c : Nat} {x : Pf} (h : OwP w base a n c x) : RdP6 w a n c x := ⟨h.own.rd, h.p, h.v⟩
theorem OwP.ok {w : World} {base : Nat} {a : Option Addr} {n c : Nat} {x : Pf} (h : OwP w base a n c x) : x.ok := h.rd.ok
theorem OwP.below {w w' : World} {base : Nat} {a : Option Addr} {n c : Nat} {x : Pf} (h : OwP w base a n c x) (hb : Below w.heap.size w w') : OwP w' base a n c x := ⟨h.own.below hb, h.p, h.v⟩
theorem OwP.other {w w' : World} {base g : Nat} {a : Option Addr} {n c : Nat} {x : Pf} (h : OwP w base a n c x) (hg : w.grownBy w' (some g)) (hb : g < base) : OwP w' base a n c x :=
  ⟨h.own.kept hg (fun y e e2 => by have := (h.own.lt e).1; cases e2; omega), h.p, h.v⟩

/-- what read hands back -/
def ReadPost (w : World) (r : Nat) (l : List UInt8) (e : Ending) (w' : World) : Prop :=
  (∃ x l' a n c, rdPf l = some (x, l') ∧ e = .returned (.tuple #[.agg (pc a n c x).toArray, .bool true]) ∧ OwP w' w.heap.size a n c x ∧ Rdq w w' r l') ∨
  (∃ x, rdPf l = none ∧ e = .returned (.tuple #[.agg (pc none 0 0 x).toArray, .bool false]) ∧ x.ok ∧ w.grownBy w' (some r))

/-- what read knows of a world: its reader, its result's variable, the proof at work -/
structure Rb (w W : World) (r : Nat) (l : List UInt8) (P : List Value) : Prop where
  rd : Rdq w W r l
  b2 : Blk W w.heap.size 26 (pc none 0 0 pf0)
  b4 : Blk W (w.heap.size + 1) 26 P
theorem Rb.reader {w W W' : World} {r : Nat} {l l' : List UInt8} {P : List Value} (h : Rb w W r l P) (hq : Rdq w W' r l') (hg : W.grownBy W' (some r)) : Rb w W' r l' P := by
  have := h.rd.lt
  exact ⟨hq, h.b2.grown hg (by simp; omega), h.b4.grown hg (by simp; omega)⟩
theorem Rb.le {w W : World} {r : Nat} {l : List UInt8} {P : List Value} (h : Rb w W r l P) : w.heap.size ≤ W.heap.size := h.rd.grown.size
theorem cells_len {a a' : Option Addr} {n c n' c' : Nat} {x y : Pf} (hx : x.ok) (hy : y.ok) : (pc a n c x).length = (pc a' n' c' y).length := by
  rw [pc_length _ _ _ _ hx.p hx.v, pc_length _ _ _ _ hy.p hy.v]
theorem size_of {a : Option Addr} {n c : Nat} {x : Pf} (hx : x.ok) : (Try.prog.info? 26).map (·.size) = some (pc a n c x).length := by rw [sizeP, pc_length _ _ _ _ hx.p hx.v]
theorem grown_end {w W W' : World} {r g : Nat} (h : w.grownBy W (some r)) (hg : W.grownBy W' (some g)) (hb : w.heap.size ≤ g) : w.grownBy W' (some r) := grown_below h hg (fun k e => by cases e; exact .inl hb)
theorem pc_setP (p v : List UInt8) (hp : p.length = 32) (hv : v.length = 32) : splice (splice ((pc none 0 0 pf0).set 1 (.bool true)) 2 (bs p)) 34 (bs v) = pc none 0 0 ⟨[], true, p, v⟩ := by
  have e0 : (pc none 0 0 pf0).set 1 (.bool true) = [Value.slice none 0 0, .bool true] ++ (bs zero32 ++ bs zero32) := rfl
  have e1 := splice_app [Value.slice none 0 0, .bool true] (bs zero32 ++ bs zero32) (bs p)
  have d1 : (bs zero32 ++ bs zero32).drop (bs p).length = bs zero32 := by rw [bs_length, hp, ← zero32_length, ← bs_length zero32, List.drop_left]
  rw [d1] at e1
  have e2 := splice_app ([Value.slice none 0 0, .bool true] ++ bs p) (bs zero32) (bs v)
  have d2 : (bs zero32).drop (bs v).length = [] := List.drop_eq_nil_of_le (by rw [bs_length, bs_length, zero32_length, hv]; exact Nat.le_refl _)
  have l2 : ([Value.slice none 0 0, .bool true] ++ bs p).length = 34 := by simp [bs_length, hp]
  rw [d2, l2, List.append_nil] at e2
  rw [e0]
  have e1' : splice ([Value.slice none 0 0, .bool true] ++ (bs zero32 ++ bs zero32)) 2 (bs p) = [Value.slice none 0 0, .bool true] ++ (bs p ++ bs zero32) := e1
  rw [e1', ← List.append_assoc, e2]
  rfl
theorem splice_len (vs cs : List Value) (o : Nat) (h : o + cs.length ≤ vs.length) : (splice vs o cs).length = vs.length := by
  simp [splice]
  omega
/-- two digests that can be read -/
structure TwoR (W : World) (g off : Nat) (p v : List UInt8) : Prop where
  fst : W.rangeAt g off (bs p)
  snd : W.rangeAt g (off + 32) (bs v)
theorem TwoR.grown {W W' : World} {g off : Nat} {p v : List UInt8} {row : Option Nat} (h : TwoR W g off p v) (hg : W.grownBy W' row) (hne : row ≠ some g) : TwoR W' g off p v := ⟨range_kept h.fst hg hne, range_kept h.snd hg hne⟩
theorem chunks_two (l : List UInt8) : chunks 2 l = [l.take 32, (l.drop 32).take 32] := by simp [chunks, List.range_succ]
theorem pf_sibs {x : Pf} (h : x.sibs = []) : ({ x with sibs := [] } : Pf) = x := by cases x; cases h; rfl

set_option maxRecDepth 100000 in
set_option maxHeartbeats 2000000 in
theorem read_any (w : World) (r : Nat) (l : List UInt8) (hr : Rdr w r l) :
    Calls Try.prog 18 #[.pointer (some ⟨r, 0, none⟩)] w (ReadPost w r l) := by
  have hq0 := Rdq.start hr
  have hrl := hq0.lt
  obtain ⟨-, -, k3, -, -⟩ := cnt_le l 0 0 (by omega)
  obtain ⟨A, S, E, hcnt⟩ : ∃ x y z, cnt 0 0 l = (x, y, z) := ⟨_, _, _, rfl⟩
  have CT := Lib.hid (fun (W : World) (h : Rdq w W r l) => rdq_count h)
  have hR : rdPf l = if E ≠ 0 ∨ 1 < A then none else if A = 1 then if (l.drop S).length < 64 then none else tailP ⟨[], true, (l.drop S).take 32, ((l.drop S).drop 32).take 32⟩ ((l.drop S).drop 64) else tailP pf0 (l.drop S) := by
    unfold rdPf; rw [hcnt]
  rw [hcnt] at CT k3
  simp only at CT k3
  have HR := Lib.hid hR
  have I0 := Lib.hid (size_of (a := none) (n := 0) (c := 0) pf0_ok)
  have O0 := pc_one none 0 0 pf0
  have HP0 := Lib.hid pf0_ok
  clear hcnt hR hr
  have FS := Lib.hid (fun (W : World) (e : Ending) x l' a n c (h1 : rdPf l = some (x, l')) (h2 : e = .returned (.tuple #[.agg (pc a n c x).toArray, .bool true])) (h3 : OwP W w.heap.size a n c x) (h4 : Rdq w W r l') => (show ReadPost w r l e W from .inl ⟨x, l', a, n, c, h1, h2, h3, h4⟩))
  have FN := Lib.hid (fun (W : World) (e : Ending) x (h1 : rdPf l = none) (h2 : e = .returned (.tuple #[.agg (pc none 0 0 x).toArray, .bool false])) (h3 : x.ok) (h4 : w.grownBy W (some r)) => (show ReadPost w r l e W from .inr ⟨x, h1, h2, h3, h4⟩))
  generalize ReadPost w r l = RP at *
  generalize rdPf l = RES at *
  go_enter Try.func18, Try.ntmps18
  go_wp2_with (first | ((with_reducible refine wpList_allocB (o := ⟨some 2, _, _, _, _, _⟩) ?_ 26 ?_ zeroP_info ?_); rfl; rfl; intro w1 hr1 hg1 hz1) | ((with_reducible refine wpList_allocB (o := ⟨some 4, _, _, _, _, _⟩) ?_ 26 ?_ zeroP_info ?_); rfl; rfl; intro w2 hr2 hg2 hz2))
  have hS2 : Rb w w2 r l (pc none 0 0 pf0) := by
    refine ⟨(hq0.other hg1 (fun k e => by cases e)).other hg2 (fun k e => by cases e), hr1.grown hg2 (by simp), ?_⟩
    rw [← hz1]; exact hr2
  clear hr1 hr2 hg1 hg2 hz2 hq0
  clear hz1
  refine (CT.out _ hS2.rd).mono ?_
  rintro e w3 ⟨rfl, hq3, hg3⟩
  have hS3 := hS2.reader hq3 hg3
  clear hq3 hg3 CT hS2
  by_cases hE : E = 0
  · subst hE
    by_cases hA : 1 < A
    · have hA' : (1 : Int) < (A : Int) := by omega
      have hS := hS3
      have hb4 := hS.b4
      have hb2 := hS.b2
      have HG := Lib.hid hS.rd.grown
      have HRES := Lib.hid (show RES = none by rw [HR.out, if_pos (.inr hA)])
      go_wp2_with (first | ((with_reducible refine wpList_loadB (o := ⟨some 23, _, _, _, _, _⟩) ?_ 26 (.tmp 4) ?_ ?_ hb4 Try.underlying26 ?_ I0.out ?_); rfl; rfl; rfl; rfl) | ((with_reducible refine wpList_storeB (o := ⟨none, .store 26 (.tmp 2) (.tmp 23), _, _, _, _⟩) ?_ 26 (.tmp 2) (.tmp 23) ?_ ?_ ?_ hb2 I0.out rfl O0 ?_); rfl; rfl; rfl; rfl; intro w9 hr9 hg9 hz9))
      try simp only [Exit.inBlock, Exit.then]
      exact bodyPost_ret (results_blk2 rfl _ _ _ _ _ _ rfl hr9 Try.underlying26 rfl I0.out) rfl (FN.out _ _ pf0 HRES.out rfl HP0.out (grown_end HG.out hg9 (Nat.le_refl _)))
    · by_cases hA1 : A = 1
      · subst hA1
        have RD2 := readDigests_any w w3 r (l.drop S) hS3.rd hS3.le 2 (by decide)
        rw [show ((2 : Nat) : Int) = 2 from rfl] at RD2
        have HRD := Lib.hid RD2
        clear RD2
        go_wp2_with fail
        refine HRD.out.mono ?_
        rintro e w5 (⟨h1, a5, c5, rfl, hO5, hq5, hg5⟩ | ⟨h1, rfl, hg5⟩)
        · have hS5 := hS3.reader hq5 hg5
          have hb5 : w3.heap.size ≤ w5.heap.size := hg5.size
          rw [chunks_two] at hO5
          have hp : ((l.drop S).take 32).length = 32 := by rw [List.length_take]; omega
          have hv : (((l.drop S).drop 32).take 32).length = 32 := by rw [List.length_take, List.length_drop]; omega
          have HT := Lib.hid (show RES = tailP ⟨[], true, (l.drop S).take 32, ((l.drop S).drop 32).take 32⟩ ((l.drop S).drop 64) by rw [HR.out, if_neg (by simp), if_pos trivial, if_neg (by omega)])
          clear hq5 hg5 h1
          generalize (l.drop S).take 32 = p at *
          generalize ((l.drop S).drop 32).take 32 = v at *
          generalize hl4 : (l.drop S).drop 64 = l4 at *
          clear hl4
          have hRD5 := hO5.rd
          obtain ⟨g, off, rfl, hglt, hel⟩ := hRD5.elems (by decide)
          have hgb := (hO5.lt (x := g) rfl).1
          have hT5 : TwoR w5 g off p v := by
            have e0 := hel 0 (by decide)
            have e1 := hel 1 (by decide)
            rw [Nat.zero_mul, Nat.add_zero] at e0
            rw [Nat.one_mul] at e1
            exact ⟨e0, e1⟩
          clear hel hO5
          have hb4lt : w.heap.size + 1 < w3.heap.size := hS3.b4.lt
          have hgne : g ≠ w.heap.size + 1 := by omega
          have I5 := Lib.hid (digP hp)
          have I6 := Lib.hid (digP hv)
          have O5 := bs_one p
          have O6 := bs_one v
          have HPV := Lib.hid (And.intro hp hv)
          have K1 := hS5.b4.drew
          have hc6 := K1.cell (j := 1) rfl
          have hf6 := K1.free 1
          have K2 := K1.set 1 (.bool true)
          have HQ5 := Lib.hid hS5
          have hx4 : Pf.ok ⟨[], true, p, v⟩ := ⟨okd.nil, hp, hv⟩
          have HX4 := Lib.hid hx4
          have I4 := Lib.hid (size_of (a := none) (n := 0) (c := 0) hx4)
          have L4 := Lib.hid (cells_len (a := none) (n := 0) (c := 0) (a' := none) (n' := 0) (c' := 0) HP0.out hx4)
          have O4 := pc_one none 0 0 ⟨[], true, p, v⟩
          have HPX : Hid (∀ P : List Value, P = splice (splice ((pc none 0 0 pf0).set 1 (.bool true)) 2 (bs p)) 34 (bs v) → P = pc none 0 0 ⟨[], true, p, v⟩) := Lib.hid (fun P e => by rw [e, pc_setP p v HPV.out.1 HPV.out.2])
          have HLEN : Hid ((pc none 0 0 pf0).length = 66) := Lib.hid (pc_length _ _ _ _ HP0.out.p HP0.out.v)
          have HFIT : Hid (34 + (bs v).length ≤ (splice ((pc none 0 0 pf0).set 1 (.bool true)) 2 (bs p)).length) := Lib.hid (by rw [splice_len _ _ _ (by rw [List.length_set, HLEN.out, bs_length, HPV.out.1]; decide), List.length_set, HLEN.out, bs_length, HPV.out.2]; decide)
          clear hp hv hx4
          go_wp2_with fail
          -- REGION read 5
          refine wp_region_held_drew (S := fun W => TwoR W g off p v) (by kernel_rfl) (TwoR.grown hT5 (row := none) ⟨rfl, rfl, rfl, Nat.le_refl _, fun _ _ _ => rfl⟩ (by simp)) (fun hHeld => ?_)
          refine wpAnyH_take (i := 0) (oi := ⟨some 34, .move (.tmp 7), _, _, _, none⟩) (v := ?_) rfl (by kernel_rfl) (by kernel_rfl) (by kernel_rfl) (fun _ _ _ h => h) (Or.inl ⟨by rfl, ?_⟩) hHeld ?_
          rotate_left
          · intro W _; go_simp; try with_reducible rfl
          try simp only [Act.put, List.setIfInBounds_toArray, List.set_cons_zero, List.set_cons_succ]
          refine wpAnyH_take (i := 1) (oi := ⟨some 35, .indexAddr 22 (.tmp 34) (.const (.int .i64 0)), _, _, _, none⟩) (v := ?_) rfl (by kernel_rfl) (by kernel_rfl) (by kernel_rfl) (fun _ _ _ h => h) (Or.inl ⟨by rfl, ?_⟩) hHeld ?_
          rotate_left
          · intro W _; go_simp; try with_reducible rfl
          try simp only [Act.put, List.setIfInBounds_toArray, List.set_cons_zero, List.set_cons_succ]
          refine wpAnyH_take (i := 2) (oi := ⟨some 36, .load 24 (.tmp 35), _, _, _, none⟩) (v := .agg (bs p).toArray) rfl (by kernel_rfl) (by kernel_rfl) (by kernel_rfl) (fun _ _ _ h => h) (yieldsIf_load_mid (by rfl) _ _ rfl g off rfl (bs p) _ (fun W h => h.fst) Try.underlying24 rfl I5.out) hHeld ?_
          try simp only [Act.put, List.setIfInBounds_toArray, List.set_cons_zero, List.set_cons_succ]
          refine wpAnyH_take (i := 3) (oi := ⟨some 37, .move (.tmp 7), _, _, _, none⟩) (v := ?_) rfl (by kernel_rfl) (by kernel_rfl) (by kernel_rfl) (fun _ _ _ h => h) (Or.inl ⟨by rfl, ?_⟩) hHeld ?_
          rotate_left
          · intro W _; go_simp; try with_reducible rfl
          try simp only [Act.put, List.setIfInBounds_toArray, List.set_cons_zero, List.set_cons_succ]
          refine wpAnyH_take (i := 4) (oi := ⟨some 38, .indexAddr 22 (.tmp 37) (.const (.int .i64 1)), _, _, _, none⟩) (v := ?_) rfl (by kernel_rfl) (by kernel_rfl) (by kernel_rfl) (fun _ _ _ h => h) (Or.inl ⟨by rfl, ?_⟩) hHeld ?_
          rotate_left
          · intro W _; go_simp; try with_reducible rfl
          try simp only [Act.put, List.setIfInBounds_toArray, List.set_cons_zero, List.set_cons_succ]
          refine wpAnyH_take (i := 5) (oi := ⟨some 39, .load 24 (.tmp 38), _, _, _, none⟩) (v := .agg (bs v).toArray) rfl (by kernel_rfl) (by kernel_rfl) (by kernel_rfl) (fun _ _ _ h => h) (yieldsIf_load_mid (by rfl) _ _ rfl g (off + 32) rfl (bs v) _ (fun W h => h.snd) Try.underlying24 rfl I6.out) hHeld ?_
          try simp only [Act.put, List.setIfInBounds_toArray, List.set_cons_zero, List.set_cons_succ]
          refine wpAnyH_take (i := 6) (oi := ⟨some 40, .fieldAddr 26 (.tmp 4) 1, _, _, _, none⟩) (v := ?_) rfl (by kernel_rfl) (by kernel_rfl) (by kernel_rfl) (fun _ _ _ h => h) (Or.inl ⟨by rfl, ?_⟩) hHeld ?_
          rotate_left
          · intro W _; go_simp; try with_reducible rfl
          try simp only [Act.put, List.setIfInBounds_toArray, List.set_cons_zero, List.set_cons_succ]
          refine wpAnyH_ready (rs := [7]) (by kernel_rfl) (by simp) ?_
          refine AllReadyH.cons (o := ⟨none, .store 4 (.tmp 40) (.const (.bool true)), _, _, _, none⟩) rfl (fun K hK => ?_) AllReadyH.nil
          refine step_ofR (by rfl) ?_
          go_simp
          refine hK.out _ _ (hHeld.grown (set_grown _ _ _ _) (by simp; omega)) (fun hHeld => ?_)
          clear hK K
          try simp only [Act.put, List.setIfInBounds_toArray, List.set_cons_zero, List.set_cons_succ]
          refine wpAnyH_take (i := 8) (oi := ⟨some 41, .fieldAddr 26 (.tmp 4) 2, _, _, _, none⟩) (v := ?_) rfl (by kernel_rfl) (by kernel_rfl) (by kernel_rfl) (fun _ _ _ h => h) (Or.inl ⟨by rfl, ?_⟩) hHeld ?_
          rotate_left
          · intro W _; go_simp; try with_reducible rfl
          try simp only [Act.put, List.setIfInBounds_toArray, List.set_cons_zero, List.set_cons_succ]
          refine wpAnyH_ready (rs := [9]) (by kernel_rfl) (by simp) ?_
          refine AllReadyH.cons (o := ⟨none, .store 24 (.tmp 41) (.tmp 36), _, _, _, none⟩) rfl (fun K hK => ?_) AllReadyH.nil
          refine step_storeM (w.heap.size + 1) 2 24 (.tmp 41) (.tmp 36) (bs p) _ 26 K2 (by rw [List.length_set, HLEN.out, bs_length, HPV.out.1]; decide) I5.out O5 rfl rfl rfl rfl ?_
          intro W6 hr6 hg6 hz6
          refine hK.out _ _ (hHeld.grown hg6 (by simp; omega)) (fun hHeld => ?_)
          clear hK K
          try simp only [Act.put]
          refine wpAnyH_take (i := 10) (oi := ⟨some 42, .fieldAddr 26 (.tmp 4) 3, _, _, _, none⟩) (v := ?_) rfl (by kernel_rfl) (by kernel_rfl) (by kernel_rfl) (fun _ _ _ h => h) (Or.inl ⟨by rfl, ?_⟩) hHeld ?_
          rotate_left
          · intro W _; go_simp; try with_reducible rfl
          try simp only [Act.put, List.setIfInBounds_toArray, List.set_cons_zero, List.set_cons_succ]
          refine wpAnyH_ready (rs := [11]) (by kernel_rfl) (by simp) ?_
          refine AllReadyH.cons (o := ⟨none, .store 24 (.tmp 42) (.tmp 39), _, _, _, none⟩) rfl (fun K hK => ?_) AllReadyH.nil
          refine step_storeM (w.heap.size + 1) 34 24 (.tmp 42) (.tmp 39) (bs v) _ 26 hr6 HFIT.out I6.out O6 rfl rfl rfl rfl ?_
          intro W7 hr7 hg7 hz7
          refine hK.out _ _ (hHeld.grown hg7 (by simp; omega)) (fun hHeld => ?_)
          clear hK K
          try simp only [Act.put]
          refine wpAnyH_done (by kernel_rfl) ?_ _
          -- END read
          rw [HPX.out _ rfl] at hr7
          have hS8 : Rb w W7 r l4 (pc none 0 0 ⟨[], true, p, v⟩) := by
            have q0 := HQ5.out
            have e1 := set_grown w5.drew (w.heap.size + 1) 1 (.bool true)
            refine ⟨((q0.rd.below (Below.refl _ w5).drew).other e1 (fun k e => by cases e; omega)).other hg6 (fun k e => by cases e; omega) |>.other hg7 (fun k e => by cases e; omega), ?_, hr7⟩
            exact (((q0.b2.drew).setOther _ _ (by simp)).grown hg6 (by simp)).grown hg7 (by simp)
          clear hr7 hr6 hg6 hg7 hz6 hz7
          generalize hx4 : (⟨[], true, p, v⟩ : Pf) = x4 at *
          obtain ⟨-, -, m3, -, -⟩ := cnt_le (l4) 0 0 (by omega)
          obtain ⟨N, S1, E1, hcnt1⟩ : ∃ x y z, cnt 0 0 (l4) = (x, y, z) := ⟨_, _, _, rfl⟩
          have CT1 := Lib.hid (rdq_count hS8.rd)
          have hT1 : tailP x4 (l4) = if E1 ≠ 0 ∨ 256 < N then none else if ((l4).drop S1).length < N * 32 then none else some ({ x4 with sibs := chunks N ((l4).drop S1) }, ((l4).drop S1).drop (N * 32)) := by
            unfold tailP; rw [hcnt1]
          rw [hcnt1] at CT1 m3
          simp only at CT1 m3
          have HT1 := Lib.hid hT1
          clear hT1 hcnt1
          generalize (l4).drop S1 = l5 at *
          go_wp2_with fail
          refine CT1.out.mono ?_
          rintro e w6 ⟨rfl, hq6, hg6⟩
          have hS := hS8.reader hq6 hg6
          clear hq6 hg6 CT1
          by_cases hE1 : E1 = 0
          · subst hE1
            by_cases hN : N ≤ 256
            · have hN' : ¬ (256 : Int) < (N : Int) := by omega
              have RD := Lib.hid (readDigests_any w w6 r l5 hS.rd hS.le N hN)
              have HN := Lib.hid hN
              clear hN
              go_wp2_with fail
              refine RD.out.mono ?_
              rintro e w7 (⟨h1, a7, c7, rfl, hO7, hq7, hg7⟩ | ⟨h1, rfl, hg7⟩)
              · have hS7 := hS.reader hq7 hg7
                have hle := hS.le
                have hc7 := hS7.b4.cell (j := 0) rfl
                have hf7 := hS7.b4.free 0
                have hb7 : Blk (w7.setCell ⟨w.heap.size + 1, 0, none⟩ (.slice a7 N c7)) (w.heap.size + 1) 26 (pc a7 N c7 { x4 with sibs := chunks N l5 }) := hS7.b4.set 0 (.slice a7 N c7)
                have hb2 := hS7.b2.setOther ⟨w.heap.size + 1, 0, none⟩ (.slice a7 N c7) (by simp)
                have hx7 : Pf.ok { x4 with sibs := chunks N l5 } := ⟨chunks_ok h1, HX4.out.p, HX4.out.v⟩
                have I7 := Lib.hid (size_of (a := a7) (n := N) (c := c7) hx7)
                have L7 := Lib.hid (cells_len (a := none) (n := 0) (c := 0) (a' := a7) (n' := N) (c' := c7) HP0.out hx7)
                have O7 := pc_one a7 N c7 { x4 with sibs := chunks N l5 }
                have hgs := set_grown w7 (w.heap.size + 1) 0 (.slice a7 N c7)
                have HE := Lib.hid (And.intro hO7 (And.intro hS7.rd (And.intro hgs (And.intro (show w.heap.size + 1 < w6.heap.size from hS.b4.lt) hle))))
                have HRES : Hid (RES = some ({ x4 with sibs := chunks N l5 }, l5.drop (N * 32))) := Lib.hid (by rw [HT.out, HT1.out, if_neg (by simp; exact HN.out), if_neg (by omega)])
                have HX7 := Lib.hid hx7
                have HXS : Hid (({ x4 with sibs := chunks N l5 } : Pf).sibs = chunks N l5) := Lib.hid rfl
                clear hO7 hq7 hg7 hS7 hx7 hgs hle h1
                generalize { x4 with sibs := chunks N l5 } = X at *
                go_wp2_with (first | ((with_reducible refine wpList_loadB (o := ⟨some 63, _, _, _, _, _⟩) ?_ 26 (.tmp 4) ?_ ?_ hb7 Try.underlying26 ?_ I7.out ?_); rfl; rfl; rfl; rfl) | ((with_reducible refine wpList_storeB (o := ⟨none, .store 26 (.tmp 2) (.tmp 63), _, _, _, _⟩) ?_ 26 (.tmp 2) (.tmp 63) ?_ ?_ ?_ hb2 I7.out L7.out O7 ?_); rfl; rfl; rfl; rfl; intro w9 hr9 hg9 hz9))
                try simp only [Exit.inBlock, Exit.then]
                refine bodyPost_ret (results_blk2 rfl _ _ _ _ _ _ rfl hr9 Try.underlying26 rfl I7.out) rfl (FS.out _ _ X _ a7 N c7 HRES.out rfl ?_ ?_)
                · obtain ⟨e1, e2, e3, e4, e5⟩ := HE.out
                  have e6 := (e1.kept e3 (fun x ex e => by have := (e1.lt ex).1; cases e; omega)).kept hg9 (fun x ex e => by have := (e1.lt ex).1; cases e; omega)
                  have hxs : X.sibs = chunks N l5 := HXS.out
                  exact ⟨by rw [hxs]; exact e6.lower e5, HX7.out.p, HX7.out.v⟩
                · obtain ⟨e1, e2, e3, e4, e5⟩ := HE.out
                  exact (e2.other e3 (fun k e => by cases e; omega)).other hg9 (fun k e => by cases e; exact Nat.le_refl _)
              · have hlt7 := hS.rd.lt
                have hb70 := hS.b4.grown hg7 (by simp; omega)
                have hb20 := hS.b2.grown hg7 (by simp; omega)
                have hc7 := hb70.cell (j := 0) rfl
                have hf7 := hb70.free 0
                have hb7 : Blk (w7.setCell ⟨w.heap.size + 1, 0, none⟩ (.slice none 0 0)) (w.heap.size + 1) 26 (pc none 0 0 x4) := hb70.set 0 (.slice none 0 0)
                have hb2 := hb20.setOther ⟨w.heap.size + 1, 0, none⟩ (.slice none 0 0) (by simp)
                have HE := Lib.hid (grown_end (grown_trans hS.rd.grown hg7) (set_grown w7 (w.heap.size + 1) 0 (.slice none 0 0)) (by omega))
                have HRES : Hid (RES = none) := Lib.hid (by rw [HT.out, HT1.out, if_neg (by simp; exact HN.out), if_pos (by omega)])
                clear hb70 hb20 hg7 hS hlt7 h1
                go_wp2_with (first | ((with_reducible refine wpList_loadB (o := ⟨some 63, _, _, _, _, _⟩) ?_ 26 (.tmp 4) ?_ ?_ hb7 Try.underlying26 ?_ I4.out ?_); rfl; rfl; rfl; rfl) | ((with_reducible refine wpList_storeB (o := ⟨none, .store 26 (.tmp 2) (.tmp 63), _, _, _, _⟩) ?_ 26 (.tmp 2) (.tmp 63) ?_ ?_ ?_ hb2 I4.out L4.out O4 ?_); rfl; rfl; rfl; rfl; intro w9 hr9 hg9 hz9))
                try simp only [Exit.inBlock, Exit.then]
                exact bodyPost_ret (results_blk2 rfl _ _ _ _ _ _ rfl hr9 Try.underlying26 rfl I4.out) rfl (FN.out _ _ x4 HRES.out rfl HX4.out (grown_end HE.out hg9 (Nat.le_refl _)))
            · have hN' : (256 : Int) < (N : Int) := by omega
              have hb4 := hS.b4
              have hb2 := hS.b2
              have HG := Lib.hid hS.rd.grown
              have HRES := Lib.hid (show RES = none by rw [HT.out, HT1.out, if_pos (.inr (by omega))])
              go_wp2_with (first | ((with_reducible refine wpList_loadB (o := ⟨some 54, _, _, _, _, _⟩) ?_ 26 (.tmp 4) ?_ ?_ hb4 Try.underlying26 ?_ I4.out ?_); rfl; rfl; rfl; rfl) | ((with_reducible refine wpList_storeB (o := ⟨none, .store 26 (.tmp 2) (.tmp 54), _, _, _, _⟩) ?_ 26 (.tmp 2) (.tmp 54) ?_ ?_ ?_ hb2 I4.out L4.out O4 ?_); rfl; rfl; rfl; rfl; intro w9 hr9 hg9 hz9))
              try simp only [Exit.inBlock, Exit.then]
              exact bodyPost_ret (results_blk2 rfl _ _ _ _ _ _ rfl hr9 Try.underlying26 rfl I4.out) rfl (FN.out _ _ x4 HRES.out rfl HX4.out (grown_end HG.out hg9 (Nat.le_refl _)))
          · have hE' : ((E1 : Int) != 0) = true := by simp; omega
            have hb4 := hS.b4
            have hb2 := hS.b2
            have HG := Lib.hid hS.rd.grown
            have HRES := Lib.hid (show RES = none by rw [HT.out, HT1.out, if_pos (.inl hE1)])
            go_wp2_with (first | ((with_reducible refine wpList_loadB (o := ⟨some 54, _, _, _, _, _⟩) ?_ 26 (.tmp 4) ?_ ?_ hb4 Try.underlying26 ?_ I4.out ?_); rfl; rfl; rfl; rfl) | ((with_reducible refine wpList_storeB (o := ⟨none, .store 26 (.tmp 2) (.tmp 54), _, _, _, _⟩) ?_ 26 (.tmp 2) (.tmp 54) ?_ ?_ ?_ hb2 I4.out L4.out O4 ?_); rfl; rfl; rfl; rfl; intro w9 hr9 hg9 hz9))
            try simp only [Exit.inBlock, Exit.then]
            exact bodyPost_ret (results_blk2 rfl _ _ _ _ _ _ rfl hr9 Try.underlying26 rfl I4.out) rfl (FN.out _ _ x4 HRES.out rfl HX4.out (grown_end HG.out hg9 (Nat.le_refl _)))
        · have hlt := hS3.rd.lt
          have hS : True := trivial
          have hb4 := hS3.b4.grown hg5 (by simp; omega)
          have hb2 := hS3.b2.grown hg5 (by simp; omega)
          have HG := Lib.hid (grown_trans hS3.rd.grown hg5)
          have HRES := Lib.hid (show RES = none by rw [HR.out, if_neg (by simp), if_pos trivial, if_pos (by omega)])
          go_wp2_with (first | ((with_reducible refine wpList_loadB (o := ⟨some 33, _, _, _, _, _⟩) ?_ 26 (.tmp 4) ?_ ?_ hb4 Try.underlying26 ?_ I0.out ?_); rfl; rfl; rfl; rfl) | ((with_reducible refine wpList_storeB (o := ⟨none, .store 26 (.tmp 2) (.tmp 33), _, _, _, _⟩) ?_ 26 (.tmp 2) (.tmp 33) ?_ ?_ ?_ hb2 I0.out rfl O0 ?_); rfl; rfl; rfl; rfl; intro w9 hr9 hg9 hz9))
          try simp only [Exit.inBlock, Exit.then]
          exact bodyPost_ret (results_blk2 rfl _ _ _ _ _ _ rfl hr9 Try.underlying26 rfl I0.out) rfl (FN.out _ _ pf0 HRES.out rfl HP0.out (grown_end HG.out hg9 (Nat.le_refl _)))
      · obtain rfl : A = 0 := by omega
        have HT := Lib.hid (show RES = tailP pf0 (l.drop S) by rw [HR.out]; simp)
        generalize hl4 : l.drop S = l4 at *
        obtain ⟨-, -, m3, -, -⟩ := cnt_le (l4) 0 0 (by omega)
        obtain ⟨N, S1, E1, hcnt1⟩ : ∃ x y z, cnt 0 0 (l4) = (x, y, z) := ⟨_, _, _, rfl⟩
        have CT1 := Lib.hid (rdq_count hS3.rd)
        have hT1 : tailP pf0 (l4) = if E1 ≠ 0 ∨ 256 < N then none else if ((l4).drop S1).length < N * 32 then none else some ({ pf0 with sibs := chunks N ((l4).drop S1) }, ((l4).drop S1).drop (N * 32)) := by
          unfold tailP; rw [hcnt1]
        rw [hcnt1] at CT1 m3
        simp only at CT1 m3
        have HT1 := Lib.hid hT1
        clear hT1 hcnt1
        generalize (l4).drop S1 = l5 at *
        go_wp2_with fail
        refine CT1.out.mono ?_
        rintro e w6 ⟨rfl, hq6, hg6⟩
        have hS := hS3.reader hq6 hg6
        clear hq6 hg6 CT1
        by_cases hE1 : E1 = 0
        · subst hE1
          by_cases hN : N ≤ 256
          · have hN' : ¬ (256 : Int) < (N : Int) := by omega
            have RD := Lib.hid (readDigests_any w w6 r l5 hS.rd hS.le N hN)
            have HN := Lib.hid hN
            clear hN
            go_wp2_with fail
            refine RD.out.mono ?_
            rintro e w7 (⟨h1, a7, c7, rfl, hO7, hq7, hg7⟩ | ⟨h1, rfl, hg7⟩)
            · have hS7 := hS.reader hq7 hg7
              have hle := hS.le
              have hc7 := hS7.b4.cell (j := 0) rfl
              have hf7 := hS7.b4.free 0
              have hb7 : Blk (w7.setCell ⟨w.heap.size + 1, 0, none⟩ (.slice a7 N c7)) (w.heap.size + 1) 26 (pc a7 N c7 { pf0 with sibs := chunks N l5 }) := hS7.b4.set 0 (.slice a7 N c7)
              have hb2 := hS7.b2.setOther ⟨w.heap.size + 1, 0, none⟩ (.slice a7 N c7) (by simp)
              have hx7 : Pf.ok { pf0 with sibs := chunks N l5 } := ⟨chunks_ok h1, HP0.out.p, HP0.out.v⟩
              have I7 := Lib.hid (size_of (a := a7) (n := N) (c := c7) hx7)
              have L7 := Lib.hid (cells_len (a := none) (n := 0) (c := 0) (a' := a7) (n' := N) (c' := c7) HP0.out hx7)
              have O7 := pc_one a7 N c7 { pf0 with sibs := chunks N l5 }
              have hgs := set_grown w7 (w.heap.size + 1) 0 (.slice a7 N c7)
              have HE := Lib.hid (And.intro hO7 (And.intro hS7.rd (And.intro hgs (And.intro (show w.heap.size + 1 < w6.heap.size from hS.b4.lt) hle))))
              have HRES : Hid (RES = some ({ pf0 with sibs := chunks N l5 }, l5.drop (N * 32))) := Lib.hid (by rw [HT.out, HT1.out, if_neg (by simp; exact HN.out), if_neg (by omega)])
              have HX7 := Lib.hid hx7
              have HXS : Hid (({ pf0 with sibs := chunks N l5 } : Pf).sibs = chunks N l5) := Lib.hid rfl
              clear hO7 hq7 hg7 hS7 hx7 hgs hle h1
              generalize { pf0 with sibs := chunks N l5 } = X at *
              go_wp2_with (first | ((with_reducible refine wpList_loadB (o := ⟨some 63, _, _, _, _, _⟩) ?_ 26 (.tmp 4) ?_ ?_ hb7 Try.underlying26 ?_ I7.out ?_); rfl; rfl; rfl; rfl) | ((with_reducible refine wpList_storeB (o := ⟨none, .store 26 (.tmp 2) (.tmp 63), _, _, _, _⟩) ?_ 26 (.tmp 2) (.tmp 63) ?_ ?_ ?_ hb2 I7.out L7.out O7 ?_); rfl; rfl; rfl; rfl; intro w9 hr9 hg9 hz9))
              try simp only [Exit.inBlock, Exit.then]
              refine bodyPost_ret (results_blk2 rfl _ _ _ _ _ _ rfl hr9 Try.underlying26 rfl I7.out) rfl (FS.out _ _ X _ a7 N c7 HRES.out rfl ?_ ?_)
              · obtain ⟨e1, e2, e3, e4, e5⟩ := HE.out
                have e6 := (e1.kept e3 (fun x ex e => by have := (e1.lt ex).1; cases e; omega)).kept hg9 (fun x ex e => by have := (e1.lt ex).1; cases e; omega)
                have hxs : X.sibs = chunks N l5 := HXS.out
                exact ⟨by rw [hxs]; exact e6.lower e5, HX7.out.p, HX7.out.v⟩
              · obtain ⟨e1, e2, e3, e4, e5⟩ := HE.out
                exact (e2.other e3 (fun k e => by cases e; omega)).other hg9 (fun k e => by cases e; exact Nat.le_refl _)
            · have hlt7 := hS.rd.lt
              have hb70 := hS.b4.grown hg7 (by simp; omega)
              have hb20 := hS.b2.grown hg7 (by simp; omega)
              have hc7 := hb70.cell (j := 0) rfl
              have hf7 := hb70.free 0
              have hb7 : Blk (w7.setCell ⟨w.heap.size + 1, 0, none⟩ (.slice none 0 0)) (w.heap.size + 1) 26 (pc none 0 0 pf0) := hb70.set 0 (.slice none 0 0)
              have hb2 := hb20.setOther ⟨w.heap.size + 1, 0, none⟩ (.slice none 0 0) (by simp)
              have HE := Lib.hid (grown_end (grown_trans hS.rd.grown hg7) (set_grown w7 (w.heap.size + 1) 0 (.slice none 0 0)) (by omega))
              have HRES : Hid (RES = none) := Lib.hid (by rw [HT.out, HT1.out, if_neg (by simp; exact HN.out), if_pos (by omega)])
              clear hb70 hb20 hg7 hS hlt7 h1
              go_wp2_with (first | ((with_reducible refine wpList_loadB (o := ⟨some 63, _, _, _, _, _⟩) ?_ 26 (.tmp 4) ?_ ?_ hb7 Try.underlying26 ?_ I0.out ?_); rfl; rfl; rfl; rfl) | ((with_reducible refine wpList_storeB (o := ⟨none, .store 26 (.tmp 2) (.tmp 63), _, _, _, _⟩) ?_ 26 (.tmp 2) (.tmp 63) ?_ ?_ ?_ hb2 I0.out rfl O0 ?_); rfl; rfl; rfl; rfl; intro w9 hr9 hg9 hz9))
              try simp only [Exit.inBlock, Exit.then]
              exact bodyPost_ret (results_blk2 rfl _ _ _ _ _ _ rfl hr9 Try.underlying26 rfl I0.out) rfl (FN.out _ _ pf0 HRES.out rfl HP0.out (grown_end HE.out hg9 (Nat.le_refl _)))
          · have hN' : (256 : Int) < (N : Int) := by omega
            have hb4 := hS.b4
            have hb2 := hS.b2
            have HG := Lib.hid hS.rd.grown
            have HRES := Lib.hid (show RES = none by rw [HT.out, HT1.out, if_pos (.inr (by omega))])
            go_wp2_with (first | ((with_reducible refine wpList_loadB (o := ⟨some 54, _, _, _, _, _⟩) ?_ 26 (.tmp 4) ?_ ?_ hb4 Try.underlying26 ?_ I0.out ?_); rfl; rfl; rfl; rfl) | ((with_reducible refine wpList_storeB (o := ⟨none, .store 26 (.tmp 2) (.tmp 54), _, _, _, _⟩) ?_ 26 (.tmp 2) (.tmp 54) ?_ ?_ ?_ hb2 I0.out rfl O0 ?_); rfl; rfl; rfl; rfl; intro w9 hr9 hg9 hz9))
            try simp only [Exit.inBlock, Exit.then]
            exact bodyPost_ret (results_blk2 rfl _ _ _ _ _ _ rfl hr9 Try.underlying26 rfl I0.out) rfl (FN.out _ _ pf0 HRES.out rfl HP0.out (grown_end HG.out hg9 (Nat.le_refl _)))
        · have hE' : ((E1 : Int) != 0) = true := by simp; omega
          have hb4 := hS.b4
          have hb2 := hS.b2
          have HG := Lib.hid hS.rd.grown
          have HRES := Lib.hid (show RES = none by rw [HT.out, HT1.out, if_pos (.inl hE1)])
          go_wp2_with (first | ((with_reducible refine wpList_loadB (o := ⟨some 54, _, _, _, _, _⟩) ?_ 26 (.tmp 4) ?_ ?_ hb4 Try.underlying26 ?_ I0.out ?_); rfl; rfl; rfl; rfl) | ((with_reducible refine wpList_storeB (o := ⟨none, .store 26 (.tmp 2) (.tmp 54), _, _, _, _⟩) ?_ 26 (.tmp 2) (.tmp 54) ?_ ?_ ?_ hb2 I0.out rfl O0 ?_); rfl; rfl; rfl; rfl; intro w9 hr9 hg9 hz9))
          try simp only [Exit.inBlock, Exit.then]
          exact bodyPost_ret (results_blk2 rfl _ _ _ _ _ _ rfl hr9 Try.underlying26 rfl I0.out) rfl (FN.out _ _ pf0 HRES.out rfl HP0.out (grown_end HG.out hg9 (Nat.le_refl _)))
  · have hE' : ((E : Int) != 0) = true := by simp; omega
    have hS := hS3
    have hb4 := hS.b4
    have hb2 := hS.b2
    have HG := Lib.hid hS.rd.grown
    have HRES := Lib.hid (show RES = none by rw [HR.out, if_pos (.inl hE)])
    go_wp2_with (first | ((with_reducible refine wpList_loadB (o := ⟨some 23, _, _, _, _, _⟩) ?_ 26 (.tmp 4) ?_ ?_ hb4 Try.underlying26 ?_ I0.out ?_); rfl; rfl; rfl; rfl) | ((with_reducible refine wpList_storeB (o := ⟨none, .store 26 (.tmp 2) (.tmp 23), _, _, _, _⟩) ?_ 26 (.tmp 2) (.tmp 23) ?_ ?_ ?_ hb2 I0.out rfl O0 ?_); rfl; rfl; rfl; rfl; intro w9 hr9 hg9 hz9))
    try simp only [Exit.inBlock, Exit.then]
    exact bodyPost_ret (results_blk2 rfl _ _ _ _ _ _ rfl hr9 Try.underlying26 rfl I0.out) rfl (FN.out _ _ pf0 HRES.out rfl HP0.out (grown_end HG.out hg9 (Nat.le_refl _)))
end Go.Proofs.Ytmfnpjfhijmboaa
