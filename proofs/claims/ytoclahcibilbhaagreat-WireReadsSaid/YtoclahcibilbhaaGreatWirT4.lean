/-
  Directories: one that isn't looked at; the chapter's example.
-/
import Derived.Test.YtoclahcibilbhaaGreatWirV2
import Derived.Test.YtoclahcibilbhaaGreatWirPD
namespace Go.Proofs.YtoclahcibilbhaaGreat
open Go.RowKit
set_option maxRecDepth 100000

theorem di_cells (x : Di) : ∀ (W : World) (z : Nat), Blk W z 63 (dic x) → W.cell? ⟨z, 0, none⟩ = some (.int .i64 x.ep) ∧ W.cell? ⟨z, 1, none⟩ = some (.slice x.usa x.us.length x.usc) ∧ W.cell? ⟨z, 2, none⟩ = some (.slice x.hsa x.hs.length x.hsc) ∧ W.cell? ⟨z, 3, none⟩ = some (.slice x.ssa x.ss.length x.ssc) :=
  fun _ _ h => ⟨h.cell rfl, h.cell rfl, h.cell rfl, h.cell rfl⟩
/-- a slice of users read: where the versions of the i-th lie -/
theorem us_cells {W : World} {a : Option Addr} {n c : Nat} {l : List Ux} (h : RdG usR W a n c l) (i : Nat) (hi : i < n) : ∃ b off, a = some ⟨b, off, none⟩ ∧ W.cell? ⟨b, off + i * 2, none⟩ = some (.string (l.getD i ux0).nm) ∧ W.cell? ⟨b, off + i * 2 + 1, none⟩ = some (.slice (l.getD i ux0).vsa (l.getD i ux0).vs.length (l.getD i ux0).vsc) := by
  obtain ⟨b, off, h1, _, h3⟩ := h.elems (by omega)
  have h4 := h3 i hi
  exact ⟨b, off, h1, range_cell h4 0 (v := .string (l.getD i ux0).nm) rfl, range_cell h4 1 (v := .slice (l.getD i ux0).vsa (l.getD i ux0).vs.length (l.getD i ux0).vsc) rfl⟩

def DiSmall (x : Di) : Prop := x.us.length ≤ 5000 ∧ x.hs.length ≤ 5000 ∧ x.ss.length ≤ 5000 ∧ ∀ u ∈ x.us, u.vs.length ≤ 5000

/-- what is told of a directory that may be too big -/
def BigP (x : Di) (f : Ending) : Prop := ∃ b, f = .returned (.bool b) ∧ (b = false → DiSmall x)
theorem BigP.yes (x : Di) : BigP x (.returned (.bool true)) := ⟨true, rfl, fun e => by cases e⟩
theorem BigP.no {x : Di} (h : DiSmall x) : BigP x (.returned (.bool false)) := ⟨false, rfl, fun _ => h⟩
theorem gDir_lo (x : Di) (hx : x.ok) (h : (loDi x (0, [])).1 = 0) : gDir (loDi x (0, [])).2 = (x.cl, 0) := by
  obtain ⟨_, b, e, g⟩ := back_directory hx _ h
  have := g []
  rw [List.append_nil] at this
  rw [e, List.nil_append]
  unfold gDir
  rw [this]
theorem gDir_nil : gDir [] = (di0, 60) := by simp [gDir, gDi, gN, cnt]
/-- a directory's bytes without their last one, or with one more -/
theorem gDir_cut (x : Di) (hx : x.ok) (h : (loDi x (0, [])).1 = 0) (l s : List UInt8) (hs : s ≠ []) (e : (loDi x (0, [])).2 = l ++ s) : gDir l = (di0, 60) := by
  obtain ⟨_, b, e1, g⟩ := back_directory hx _ h
  rw [List.nil_append, e] at e1
  have h1 := g []
  rw [List.append_nil, ← e1] at h1
  unfold gDir
  cases h2 : gDi l with
  | none => rfl
  | some p =>
    obtain ⟨y, t⟩ := p
    cases t with
    | nil => exact absurd h2 (cut_of fwd_directory (fun x hx => back_directory hx) hs h1)
    | cons _ _ => rfl
theorem gDir_more (x : Di) (hx : x.ok) (h : (loDi x (0, [])).1 = 0) (c : UInt8) : gDir ((loDi x (0, [])).2 ++ [c]) = (di0, 60) := by
  obtain ⟨_, b, e1, g⟩ := back_directory hx _ h
  rw [e1, List.nil_append]
  unfold gDir
  rw [g [c]]
theorem loDi_pos (x : Di) (hx : x.ok) (h : (loDi x (0, [])).1 = 0) : 0 < (loDi x (0, [])).2.length := by
  obtain ⟨_, b, e1, g⟩ := back_directory hx _ h
  rw [e1]
  cases b with
  | nil => have := g []; simp [gDi, gN, cnt] at this
  | cons _ _ => simp
theorem loDi_len (x : Di) (hx : x.ok) : (loDi x (0, [])).2.length ≤ 2000000000000 := by
  have := loDi_len3 (x := x) hx (0, [])
  simp only [List.length_nil] at this; omega

theorem okN {m : Int} {o : Lo} (h : o.1 = 0) (h0 : 0 ≤ m) (h1 : m ≤ 2147483647) : (loN m o).1 = 0 := by
  unfold loN; rw [if_neg (by simp [h]), if_pos ⟨h0, h1⟩]
theorem okT {s : ByteArray} {o : Lo} (h : o.1 = 0) (h0 : s.size ≤ 65536) : (loT s o).1 = 0 := by
  unfold loT; rw [if_neg (by simp [h]), if_pos h0]
theorem ok_fold {α : Type} {lo : α → Lo → Lo} : ∀ (l : List α) (o : Lo), o.1 = 0 → (∀ x ∈ l, ∀ o, o.1 = 0 → (lo x o).1 = 0) → (l.foldl (fun o x => lo x o) o).1 = 0
  | [], _, h, _ => h
  | x :: l, o, h, hl => ok_fold l (lo x o) (hl x List.mem_cons_self o h) (fun y hy => hl y (List.mem_cons_of_mem _ hy))
theorem okL {α : Type} {lo : α → Lo → Lo} {l : List α} {o : Lo} (h : o.1 = 0) (h4 : l.length ≤ 4096) (hl : ∀ x ∈ l, ∀ o, o.1 = 0 → (lo x o).1 = 0) : (loL lo l o).1 = 0 := by
  unfold loL
  rw [if_neg (by simp [h]), if_neg (by omega)]
  exact ok_fold l _ (okN h (by omega) (by omega)) hl
def v1 : Vn := ⟨1, 1, ⟨#[107]⟩⟩
def u1 (a : Option Addr) : Ux := ⟨⟨#[117]⟩, [v1], a, 1⟩
def d1 (a b : Option Addr) : Di := ⟨2, [u1 a], b, 1, [], none, 0, [], none, 0⟩
theorem d1_ok (a b : Option Addr) : (d1 a b).ok := fun y hy => by simp [d1] at hy
theorem lo_d1 (a b : Option Addr) : (loDi (d1 a b) (0, [])).1 = 0 := by
  refine okL (okL (okL (okN rfl (show (0 : Int) ≤ 2 by decide) (show (2 : Int) ≤ 2147483647 by decide)) (show 1 ≤ 4096 by decide) (fun y hy o h => ?_)) (show 0 ≤ 4096 by decide) (fun y hy => by simp [d1] at hy)) (show 0 ≤ 4096 by decide) (fun y hy => by simp [d1] at hy)
  obtain rfl : y = u1 a := by simpa [d1] using hy
  refine okL (okT h (show 1 ≤ 65536 by decide)) (show 1 ≤ 4096 by decide) (fun z hz o h => ?_)
  obtain rfl : z = v1 := by simpa [u1] using hz
  exact okT (okN (okN h (by decide) (by decide)) (by decide) (by decide)) (by decide)
theorem wpList_oneUs {w : World} {ops : Array Oper} {rest : List Oper} {o : Oper} {a : Act} {Q : Exit → Act → World → Prop} (hgd : o.guard = none) (x1 : Operand) (ho : o.op = .buildSlice 59 1 #[(0, x1)]) (y1 : Ux) (hx1 : a.eval x1 = .agg (uxc y1).toArray)
    (h : ∀ w', RdG usR w' (some ⟨w.heap.size, 0, none⟩) 1 1 [y1] → Below w.heap.size w w' → w'.heap.size = w.heap.size + 1 → wpList Tryz.prog ops Q rest (a.put o.dst (.slice (some ⟨w.heap.size, 0, none⟩) 1 1)) w') : wpList Tryz.prog ops Q (o :: rest) a w :=
  wpList_oneG usR hgd x1 ho trivial hx1 (h _ (RdG.many w (Row.all.single trivial) rfl (by decide)) ((Below.refl _ w).alloc (Nat.le_refl _) _) (by simp))
theorem built_v1 : Tryz.prog.built 103 [(0, .int .i64 1), (1, .int .i64 1), (2, .string ⟨#[107]⟩)] = some (vc v1).toArray := by kernel_rfl
theorem built_u1 (a : Option Addr) : Tryz.prog.built 97 [(0, .string ⟨#[117]⟩), (1, .slice a 1 1)] = some (uxc (u1 a)).toArray := by kernel_rfl
theorem built_d1 (a b : Option Addr) : Tryz.prog.built 63 [(0, .int .i64 2), (1, .slice b 1 1)] = some (dic (d1 a b)).toArray := by kernel_rfl

set_option maxHeartbeats 2000000 in
theorem directories_law (w : World) :
    Calls Tryz.prog 26 #[] w fun f w' => f = .returned (.bool true) ∧ Below w.heap.size w w' := by
  have B1 := Lib.hid built_v1
  have B2 := Lib.hid built_u1
  have B3 := Lib.hid built_d1
  have IS1 : Hid (∀ a b, (Tryz.prog.info? 63).map (·.size) = some (dic (d1 a b)).length) := Lib.hid (fun a b => by rw [dic_length (d1_ok a b)]; exact info_directory)
  have HL1 : Hid (∀ a b, (dic di0).length = (dic (d1 a b)).length) := Lib.hid (fun a b => by rw [dic_length (d1_ok a b), dic_length di0_ok])
  go_enter Tryz.func26, Tryz.ntmps26
  go_wp2_with (first
    | ((with_reducible refine wpList_buildI (dst := some 8) B1.out ?_ ?_); rfl)
    | ((with_reducible refine wpList_oneV (o := ⟨some 9, _, _, _, _, _⟩) ?_ (.tmp 8) ?_ v1 ?_ ?_); rfl; rfl; rfl; intro w1 hr1 hB1 hz1)
    | ((with_reducible refine wpList_buildI (dst := some 10) (B2.out (some ⟨w.heap.size, 0, none⟩)) ?_ ?_); rfl)
    | ((with_reducible refine wpList_oneUs (o := ⟨some 11, _, _, _, _, _⟩) ?_ (.tmp 10) ?_ (u1 (some ⟨w.heap.size, 0, none⟩)) ?_ ?_); rfl; rfl; rfl; intro w2 hr2 hB2 hz2)
    | ((with_reducible refine wpList_buildI (dst := some 12) (B3.out (some ⟨w.heap.size, 0, none⟩) (some ⟨w1.heap.size, 0, none⟩)) ?_ ?_); rfl)
    | ((with_reducible refine wpList_allocB (o := ⟨some 1, _, _, _, _, _⟩) ?_ 63 ?_ di0_info ?_); rfl; rfl; intro w3 hb3 hg3 hz3)
    | ((with_reducible refine wpList_storeB (o := ⟨none, .store 63 (.tmp 1) (.tmp 12), _, _, _, _⟩) ?_ 63 (.tmp 1) (.tmp 12) ?_ ?_ ?_ hb3 (IS1.out (some ⟨w.heap.size, 0, none⟩) (some ⟨w1.heap.size, 0, none⟩)) (HL1.out (some ⟨w.heap.size, 0, none⟩) (some ⟨w1.heap.size, 0, none⟩)) (dic_one (d1 (some ⟨w.heap.size, 0, none⟩) (some ⟨w1.heap.size, 0, none⟩))) ?_); rfl; rfl; rfl; rfl; intro w4 hb4 hg4 hz4)
    | ((with_reducible refine wpList_loadB (o := ⟨some 14, _, _, _, _, _⟩) ?_ 63 (.tmp 1) ?_ ?_ hb4 Tryz.underlying63 ?_ (IS1.out (some ⟨w.heap.size, 0, none⟩) (some ⟨w1.heap.size, 0, none⟩)) ?_); rfl; rfl; rfl; rfl))
  have hB24 : Below w2.heap.size w2 w4 := ((Below.refl _ w2).grown hg3 (Nat.le_refl _) (by simp)).grown hg4 (by omega) (fun k e => by cases e; exact Nat.le_refl _)
  have hv4 := (hr1.below hB2).below hB24
  have hu4 := hr2.below hB24
  rw [hz1] at hu4
  have hrd4 : Di.rd w4 (d1 (some ⟨w.heap.size, 0, none⟩) (some ⟨w.heap.size + 1, 0, none⟩)) := fun W b B hB h1 h2 => ⟨hu4.out hB h1 h2, fun z hz => by
    obtain rfl : z = u1 (some ⟨w.heap.size, 0, none⟩) := by simpa [d1] using hz
    exact hv4.out hB h1 h2, (RdG.nil0 (R := hdR) w4).out hB h1 h2, (RdG.nil0 (R := seR) w4).out hB h1 h2⟩
  have HB4 := Lib.hid (Bt (Bt hB1 hB2) hB24)
  clear hr1 hB1 hz1 hr2 hB2 hz2 hb3 hg3 hz3 hb4 hg4 hz4 hB24 hv4 hu4 IS1 HL1 B1 B2 B3
  generalize hd : d1 (some ⟨w.heap.size, 0, none⟩) (some ⟨w.heap.size + 1, 0, none⟩) = d at *
  have HD : Hid (d.ok ∧ (loDi d (0, [])).1 = 0 ∧ d.cl.ep = 2 ∧ d.cl.us = [(u1 none).cl]) := Lib.hid (by subst hd; exact ⟨d1_ok _ _, lo_d1 _ _, rfl, rfl⟩)
  clear hd
  refine (putDirectory_any w4 d HD.out.1 hrd4).mono ?_
  rintro e w5 ⟨v, rfl, hO, hB5⟩
  rw [if_pos HD.out.2.1] at hO
  obtain ⟨a1, c1, rfl⟩ := hO.shape
  have hr := hO.rd
  have hgs := gDir_lo d HD.out.1 HD.out.2.1
  have hln := loDi_len d HD.out.1
  rw [HD.out.2.1]
  generalize (loDi d (0, [])).2 = q at hr hgs hln ⊢
  generalize q.length = nq at hr hln ⊢
  have HB5 := Lib.hid (Bt HB4.out hB5)
  have HLN := Lib.hid hln
  clear hO hrd4 hB5 HB4 hln
  go_wp2_with fail
  refine (getDirectory_any w5 a1 nq c1 q hr (by have := HLN.out; omega)).mono ?_
  rintro e w6 ⟨y, hy1, hy2, rfl, hW6, hB6⟩
  rw [hgs] at hy1 ⊢
  have HY : Hid (y.ep = 2 ∧ y.us.length = 1 ∧ (y.us.getD 0 ux0).vs.length = 1) := Lib.hid (by
    have h1 := congrArg Di.ep hy1
    have h2 := congrArg Di.us hy1
    have h3 := HD.out.2.2
    simp only at h1 h2
    rw [h3.1] at h1
    rw [h3.2] at h2
    have h4 : y.us.map Ux.cl = [(u1 none).cl] := h2
    have h5 : y.ep = 2 := h1
    obtain ⟨u, hu⟩ : ∃ u, y.us = [u] := by
      cases hus : y.us with
      | nil => rw [hus] at h4; simp at h4
      | cons u t =>
        rw [hus] at h4
        cases t with
        | nil => exact ⟨u, rfl⟩
        | cons _ _ => simp at h4
    rw [hu] at h4 ⊢
    have h6 : u.cl = (u1 none).cl := by simpa using h4
    have h7 := congrArg (fun z : Ux => z.vs.length) h6
    exact ⟨h5, rfl, h7⟩)
  have IS : Hid ((Tryz.prog.info? 63).map (·.size) = some (dic y).length) := Lib.hid (by rw [dic_length hy2]; exact info_directory)
  have HL : Hid ((dic di0).length = (dic y).length) := Lib.hid (by rw [dic_length hy2, dic_length di0_ok])
  have HONE : Hid (∀ v ∈ dic y, v.oneCell' = true) := Lib.hid (dic_one _)
  have HUS := Lib.hid hW6.1.rd
  have HB6 := Lib.hid (Bt HB5.out hB6)
  clear hB6 hgs hr hy1 hW6
  go_wp2_with (first | ((with_reducible refine wpList_allocB (o := ⟨some 4, _, _, _, _, _⟩) ?_ 63 ?_ di0_info ?_); rfl; rfl; intro w7 hb7 hg7 hz7) | ((with_reducible refine wpList_storeB (o := ⟨none, .store 63 (.tmp 4) (.tmp 21), _, _, _, _⟩) ?_ 63 (.tmp 4) (.tmp 21) ?_ ?_ ?_ hb7 IS.out HL.out HONE.out ?_); rfl; rfl; rfl; rfl; intro w8 hb8 hg8 hz8))
  have hB68 : Below w6.heap.size w6 w8 := ((Below.refl _ w6).grown hg7 (Nat.le_refl _) (by simp)).grown hg8 (by omega) (fun k e => by cases e; exact Nat.le_refl _)
  have HB8 := Lib.hid (Bt HB6.out hB68)
  have HUS8 := Lib.hid (HUS.out.below hB68)
  clear hb7 hg7 hz7 hg8 hz8 hB68
  refine (getDirectory_any w8 none 0 0 [] (Rd.nil0 w8) (by decide)).mono ?_
  rintro e w9 ⟨z, _, hz2, rfl, _, hB9⟩
  rw [gDir_nil]
  have ISz : Hid ((Tryz.prog.info? 63).map (·.size) = some (dic z).length) := Lib.hid (by rw [dic_length hz2]; exact info_directory)
  have HLz : Hid ((dic di0).length = (dic z).length) := Lib.hid (by rw [dic_length hz2, dic_length di0_ok])
  have HONEz : Hid (∀ v ∈ dic z, v.oneCell' = true) := Lib.hid (dic_one _)
  have hb9 := hb8.below hB9
  have hwl := hb9.lt
  have HUS9 := Lib.hid (HUS8.out.below hB9)
  have HB9 := Lib.hid (Bt HB8.out hB9)
  clear hb8 hB9
  go_wp2_with (first | ((with_reducible refine wpList_allocB (o := ⟨some 6, _, _, _, _, _⟩) ?_ 63 ?_ di0_info ?_); rfl; rfl; intro wA hbA hgA hzA) | (((with_reducible refine wpList_storeB (o := ⟨none, .store 63 (.tmp 6) (.tmp 25), _, _, _, _⟩) ?_ 63 (.tmp 6) (.tmp 25) ?_ ?_ ?_ hbA ISz.out HLz.out HONEz.out ?_); rfl; rfl; rfl; rfl; intro wB hbB hgB hzB); have hB9B : Below w9.heap.size w9 wB := ((Below.refl _ w9).grown hgA (Nat.le_refl _) (by simp)).grown hgB (by omega) (fun k e => by cases e; exact Nat.le_refl _); obtain ⟨p0, p1, _, _⟩ := di_cells y _ _ (hb9.below hB9B); obtain ⟨ub, uo, hua, _, huv⟩ := us_cells (HUS9.out.below hB9B) 0 (by rw [HY.out.2.1]; decide); rw [HY.out.1] at p0; rw [hua, HY.out.2.1] at p1; rw [HY.out.2.2] at huv; simp only [Nat.zero_mul, Nat.add_zero] at huv))
  go_ret
  exact ⟨rfl, HB9.out.trans (hB9B.mono HB9.out.size)⟩

end Go.Proofs.YtoclahcibilbhaaGreat
