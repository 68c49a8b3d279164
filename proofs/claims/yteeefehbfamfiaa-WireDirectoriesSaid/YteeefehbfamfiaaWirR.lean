/-
  The document's answer, laid out: Out's calls.
-/
import Derived.Test.YteeefehbfamfiaaRef01
import Derived.Test.YteeefehbfamfiaaWirP
import Derived.BigQuiet
namespace Go.Proofs.Yteeefehbfamfiaa
open Go.RowKit
set_option maxRecDepth 100000

/-- what is laid by the reference, with the first error -/
def Rf (w : World) (g base : Nat) (o : Lo) : Prop :=
  ∃ a n c, Blk w g 74 [.slice a n c, .int .i64 o.1] ∧ Own w base (.slice a n c) o.2 ∧ base ≤ g ∧ base ≤ w.heap.size ∧ n = o.2.length

theorem Rf.below {w w' : World} {g base : Nat} {o : Lo} (h : Rf w g base o) (hb : Below w.heap.size w w') : Rf w' g base o := by
  obtain ⟨a, n, c, h1, h2, h3, h4, h5⟩ := h
  exact ⟨a, n, c, h1.below hb, h2.below hb, h3, Nat.le_trans h4 hb.size, h5⟩

/-- below base nothing has changed, nor has any other block but g and rows of bytes -/
structure Bk (g base : Nat) (w w' : World) : Prop where
  below : Below base w w'
  keep : ∀ k cs t f, w.heap[k]? = some (.cells cs t f) → k ≠ g → t ≠ 5 → w'.heap[k]? = some (.cells cs t f)
section
variable {g base : Nat} {w w' w'' : World}
theorem Bk.refl (g base : Nat) (w : World) : Bk g base w w := ⟨Below.refl _ _, fun _ _ _ _ h _ _ => h⟩
theorem Bk.trans (h : Bk g base w w') (k : Bk g base w' w'') : Bk g base w w'' := ⟨h.below.trans k.below, fun i cs t f h1 h2 h3 => k.keep i cs t f (h.keep i cs t f h1 h2 h3) h2 h3⟩
theorem Bk.of (h : Below w.heap.size w w') (hle : base ≤ w.heap.size) : Bk g base w w' := ⟨h.mono hle, fun k _ _ _ h1 _ _ => (h.block k (lt_of_block h1)).trans h1⟩
theorem Bk.grown (h : Bk g base w w') {row : Option Nat} (hg : w'.grownBy w'' row) (h1 : base ≤ w'.heap.size) (h2 : ∀ k, row = some k → base ≤ k)
    (h3 : ∀ k cs t f, w'.heap[k]? = some (.cells cs t f) → k ≠ g → t ≠ 5 → row ≠ some k) : Bk g base w w'' :=
  ⟨h.below.grown hg h1 h2, fun k cs t f e1 e2 e3 => by
    have e4 := h.keep k cs t f e1 e2 e3
    exact (hg.block k (lt_of_block e4) (fun e => h3 k cs t f e4 e2 e3 e.symm)).trans e4⟩
theorem Blk.bk {k : Nat} {t : TypeId} {vs : List Value} (h : Blk w k t vs) (hb : Bk g base w w') (hk : k ≠ g) (ht : t ≠ 5) : Blk w' k t vs := ⟨hb.keep _ _ _ _ h.at_ hk ht⟩
end

def loA (l : List UInt8) (e : Int) (o : Lo) : Lo := if o.1 ≠ 0 then o else if e ≠ 0 then (e, o.2) else (0, o.2 ++ l)

set_option maxHeartbeats 400000 in
theorem add_ref (w : World) (g base : Nat) (o : Lo) (hR : Rf w g base o) (a : Option Addr) (n c : Nat) (l : List UInt8) (hr : Rd w a n c l) (e : Int) (hn : n ≤ 1000000) (ho : o.2.length ≤ 70368744177664) :
    Calls Try.prog 83 #[.pointer (some ⟨g, 0, none⟩), .slice a n c, .int .i64 e] w fun f w' => f = .returned (.tuple #[]) ∧ Rf w' g base (loA l e o) ∧ Bk g base w w' := by
  obtain ⟨ao, no, co, hblk, hown, hg, hle, hlen⟩ := hR
  have hc0 := hblk.cell (j := 0) rfl
  have hf0 := hblk.free 0
  have hc1 := hblk.cell (j := 1) rfl
  have hf1 := hblk.free 1
  have hl := hr.len
  have HB := Lib.hid hblk
  have HO := Lib.hid hown
  have HLEN := Lib.hid hlen
  have HL := Lib.hid hl
  have HLE := Lib.hid hle
  have HG := Lib.hid hg
  clear hblk hlen hl
  obtain ⟨err, out⟩ := o
  simp only at hc1 HB HO HLEN hown ho
  by_cases h0 : err = 0
  · by_cases he : e = 0
    · subst h0 he
      go_enter Try.func83, Try.ntmps83
      go_wp2_with (at_builtin; refine wpList_app rfl _ _ rfl rfl HO.out rfl hr (by omega) HLE.out ?_)
      intro ao' c' w1 hO1 hg1
      have hne := HO.out.ne HB.out.at_ (by decide)
      have hB1 := HB.out.grown hg1 hne
      have hc2 := hB1.cell (j := 0) rfl
      have hf2 := hB1.free 0
      have HGR := Lib.hid hg1
      have HB1 := Lib.hid hB1
      have HO1 := Lib.hid hO1
      clear hg1 hB1 hO1 hc0 hf0 hc1 hf1 hne
      go_wp2
      go_end0
      have hgs := set_grown w1 g 0 (.slice ao' (out.length + n) c')
      have hb2 := HB1.out.set 0 (.slice ao' (out.length + n) c')
      refine ⟨rfl, ⟨ao', out.length + n, c', hb2, HO1.out.keptC hgs HB1.out.at_ (by decide), HG.out, ?_, by simp [loA, HL.out]⟩, ?_⟩
      · have := HGR.out.size; have := HLE.out; simp [World.setCell]; omega
      · exact ((Bk.refl g base w).grown HGR.out HLE.out (fun k e => (HO.out.lt e).1) (fun k cs t f e1 e2 e3 => HO.out.ne e1 e3)).grown hgs (by have := HGR.out.size; have := HLE.out; omega) (fun k e => by cases e; exact HG.out) (fun k cs t f e1 e2 e3 e => by cases e; exact e2 rfl)
    · subst h0
      go_enter Try.func83, Try.ntmps83
      go_wp2
      apply bodyPost_ret
      exact results_none rfl _ _ _
      rfl
      have hgs := set_grown w g 1 (.int .i64 e)
      have hb2 := HB.out.set 1 (.int .i64 e)
      refine ⟨rfl, ⟨ao, no, co, ?_, ?_, HG.out, ?_, ?_⟩, (Bk.refl g base w).grown hgs HLE.out (fun k e => by cases e; exact HG.out) (fun k cs t f e1 e2 e3 e => by cases e; exact e2 rfl)⟩
      · simpa [loA, he] using hb2
      · simpa [loA, he] using HO.out.keptC hgs HB.out.at_ (by decide)
      · have := HLE.out; simpa [World.setCell] using this
      · simpa [loA, he] using HLEN.out
  · go_enter Try.func83, Try.ntmps83
    go_wp2
    apply bodyPost_ret
    exact results_none rfl _ _ _
    rfl
    refine ⟨rfl, ⟨ao, no, co, ?_, ?_, HG.out, HLE.out, ?_⟩, Bk.refl _ _ _⟩
    · simpa [loA, h0] using HB.out
    · simpa [loA, h0] using HO.out
    · simpa [loA, h0] using HLEN.out

theorem loA_n {m : Int} {o : Lo} (h0 : 0 ≤ m) (h1 : m ≤ 2147483647) : loA (encC m.toNat) 0 o = loN m o := by
  unfold loA loN; simp [h0, h1]
theorem loA_no {m : Int} {o : Lo} (h : m < 0 ∨ 2147483647 < m) : loA [] 1 o = loN m o := by
  have : ¬ (0 ≤ m ∧ m ≤ 2147483647) := by omega
  unfold loA loN; simp only [if_neg this, show (1 : Int) ≠ 0 by decide, if_true, ne_eq, not_false_eq_true]
theorem loA_d {d : List UInt8} {o : Lo} : loA d 0 o = loD d o := by unfold loA loD; simp

set_option maxHeartbeats 400000 in
theorem n_ref (w : World) (g base : Nat) (o : Lo) (hR : Rf w g base o) (m : Int) (ho : o.2.length ≤ 70368744177664) :
    Calls Try.prog 48 #[.pointer (some ⟨g, 0, none⟩), .int .i64 m] w fun f w' => f = .returned (.tuple #[]) ∧ Rf w' g base (loN m o) ∧ Bk g base w w' := by
  have hle : base ≤ w.heap.size := by obtain ⟨_, _, _, _, _, _, h, _⟩ := hR; exact h
  by_cases hm : 0 ≤ m ∧ m ≤ 2147483647
  · obtain ⟨h0, h1⟩ := hm
    have h5 := encC_len m.toNat (by omega)
    go_enter Try.func48, Try.ntmps48
    go_wp2_with fail
    refine (count_ref_ok m w h0 h1).mono ?_
    rintro e w1 ⟨a1, n1, c1, rfl, hO1, hB1⟩
    have hr1 := hO1.rd
    have hn1 := hr1.len
    have hR1 := hR.below hB1
    have HB : Hid (Bk g base _ _) := Lib.hid (Bk.of hB1 hle)
    have HN : Hid (n1 ≤ 1000000) := Lib.hid (by omega)
    clear hB1 hO1 hn1
    go_wp2_with fail
    refine (add_ref w1 g base o hR1 a1 n1 c1 _ hr1 0 HN.out ho).mono ?_
    rintro e w2 ⟨rfl, hR2, hB2⟩
    go_wp2
    go_end0
    rw [loA_n h0 h1] at hR2
    exact ⟨rfl, hR2, HB.out.trans hB2⟩
  · have hm' : m < 0 ∨ 2147483647 < m := by omega
    go_enter Try.func48, Try.ntmps48
    go_wp2_with fail
    refine (count_ref_no m w hm').mono ?_
    rintro e w1 ⟨rfl, rfl⟩
    go_wp2_with fail
    refine (add_ref w g base o hR none 0 0 [] (Rd.nil0 w) 1 (by omega) ho).mono ?_
    rintro e w2 ⟨rfl, hR2, hB2⟩
    go_wp2
    go_end0
    rw [loA_no hm'] at hR2
    exact ⟨rfl, hR2, hB2⟩

set_option maxHeartbeats 400000 in
theorem d_ref (w : World) (g base : Nat) (o : Lo) (hR : Rf w g base o) (d : List UInt8) (hd : d.length = 32) (ho : o.2.length ≤ 70368744177664) :
    Calls Try.prog 84 #[.pointer (some ⟨g, 0, none⟩), .agg (bs d).toArray] w fun f w' => f = .returned (.tuple #[]) ∧ Rf w' g base (loD d o) ∧ Bk g base w w' := by
  have hle : base ≤ w.heap.size := by obtain ⟨_, _, _, _, _, _, h, _⟩ := hR; exact h
  have hb := Blk.new w 25 (bs d)
  have hr1 := Rd.block hb.at_ hd (by decide)
  have hB1 : Below w.heap.size w (w.alloc (.cells (bs d).toArray 25)) := (Below.refl _ w).alloc (Nat.le_refl _) _
  have hR1 := hR.below hB1
  have HB : Hid (Bk g base _ _) := Lib.hid (Bk.of hB1 hle)
  clear hB1 hb
  go_enter Try.func84, Try.ntmps84
  go_wp2_with fail
  refine (add_ref _ g base o hR1 _ 32 32 _ hr1 0 (by omega) ho).mono ?_
  rintro e w2 ⟨rfl, hR2, hB2⟩
  go_wp2
  go_end0
  rw [loA_d] at hR2
  exact ⟨rfl, hR2, HB.out.trans hB2⟩

theorem loN_len2 (m : Int) (o : Lo) : (loN m o).2.length ≤ o.2.length + 5 := by
  unfold loN
  split
  · omega
  · split
    · rename_i h; have := encC_len m.toNat (by omega); simp; omega
    · simp
theorem loD_len2 {d : List UInt8} (hd : d.length = 32) (o : Lo) : (loD d o).2.length ≤ o.2.length + 32 := by
  unfold loD
  split
  · omega
  · simp; omega

set_option maxHeartbeats 400000 in
theorem head_ref (w : World) (g base : Nat) (o : Lo) (hR : Rf w g base o) (x : Hd) (hx : x.ok) (ho : o.2.length ≤ 70000000000000) :
    Calls Try.prog 71 #[.pointer (some ⟨g, 0, none⟩), .agg (hdc x).toArray] w fun f w' => f = .returned (.tuple #[]) ∧ Rf w' g base (loH x o) ∧ Bk g base w w' := by
  have hle : base ≤ w.heap.size := by obtain ⟨_, _, _, _, _, _, h, _⟩ := hR; exact h
  have HNG : Hid (w.heap.size ≠ g) := Lib.hid (by obtain ⟨_, _, _, h, _⟩ := hR; have := h.lt; omega)
  have hb := Blk.new w 48 (hdc x)
  have hB1 : Below w.heap.size w (w.alloc (.cells (hdc x).toArray 48)) := (Below.refl _ w).alloc (Nat.le_refl _) _
  have hR1 := hR.below hB1
  have HB : Hid (Bk g base _ _) := Lib.hid (Bk.of hB1 hle)
  have hsz : (w.alloc (.cells (hdc x).toArray 48)).heap.size = w.heap.size + 1 := by simp
  have hp : Part (hdc x) 0 (hdc x) := fun j _ => by simp
  have hc0 := hb.cell hp.hd0
  have HP1 : Hid (Part (hdc x) 1 (bs x.root)) := Lib.hid (by have := hp.hd1 hx; simpa using this)
  have HP2 : Hid (Part (hdc x) 33 (bs x.prev)) := Lib.hid (by have := hp.hd2 hx; simpa using this)
  have I1 : Hid ((Try.prog.info? 25).map (·.size) = some (bs x.root).length) := Lib.hid (by rw [info_digest]; simp [bs_length, hx.1])
  have I2 : Hid ((Try.prog.info? 25).map (·.size) = some (bs x.prev).length) := Lib.hid (by rw [info_digest]; simp [bs_length, hx.2])
  have HX := Lib.hid hx
  have HO := Lib.hid ho
  clear hB1 hp hx ho
  go_enter Try.func71, Try.ntmps71
  go_wp2_with fail
  generalize w.alloc (.cells (hdc x).toArray 48) = w1 at *
  refine (n_ref w1 g base o hR1 x.ep (by have := HO.out; omega)).mono ?_
  rintro e w2 ⟨rfl, hR2, hB2⟩
  have hb2 := hb.bk hB2 HNG.out (by decide)
  have hr1 := hb2.range 1 (HP1.out)
  have HL2 := Lib.hid (loN_len2 x.ep o)
  have HB2 := Lib.hid (HB.out.trans hB2)
  clear hR1 hb hc0 hB2
  go_wp2_with ((with_reducible refine wpList_loadM (o := ⟨some 10, _, _, _, _, _⟩) ?_ w.heap.size 1 25 (.tmp 9) ?_ ?_ hr1 Try.underlying25 ?_ I1.out ?_); rfl; rfl; rfl; rfl)
  refine (d_ref w2 g base _ hR2 x.root HX.out.1 (by have := HO.out; have := HL2.out; omega)).mono ?_
  rintro e w3 ⟨rfl, hR3, hB3⟩
  have hb3 := hb2.bk hB3 HNG.out (by decide)
  have hr3 := hb3.range 33 (HP2.out)
  have HL3 := Lib.hid (loD_len2 HX.out.1 (loN x.ep o))
  have HB3 := Lib.hid (HB2.out.trans hB3)
  clear hR2 hb2 hr1 hB3
  go_wp2_with ((with_reducible refine wpList_loadM (o := ⟨some 14, _, _, _, _, _⟩) ?_ w.heap.size 33 25 (.tmp 13) ?_ ?_ hr3 Try.underlying25 ?_ I2.out ?_); rfl; rfl; rfl; rfl)
  refine (d_ref w3 g base _ hR3 x.prev HX.out.2 (by have := HO.out; have := HL2.out; have := HL3.out; omega)).mono ?_
  rintro e w4 ⟨rfl, hR4, hB4⟩
  go_wp2
  go_end0
  exact ⟨rfl, hR4, HB3.out.trans hB4⟩

theorem loH_len2 {x : Hd} (hx : x.ok) (o : Lo) : (loH x o).2.length ≤ o.2.length + 69 := by
  have h1 := loN_len2 x.ep o
  have h2 := loD_len2 hx.1 (loN x.ep o)
  have h3 := loD_len2 hx.2 (loD x.root (loN x.ep o))
  unfold loH; omega

set_option maxHeartbeats 400000 in
theorem signed_ref (w : World) (g base : Nat) (o : Lo) (hR : Rf w g base o) (x : Sg) (hx : x.ok) (ho : o.2.length ≤ 69900000000000) :
    Calls Try.prog 60 #[.pointer (some ⟨g, 0, none⟩), .agg (sgc x).toArray] w fun f w' => f = .returned (.tuple #[]) ∧ Rf w' g base (loS x o) ∧ Bk g base w w' := by
  have hle : base ≤ w.heap.size := by obtain ⟨_, _, _, _, _, _, h, _⟩ := hR; exact h
  have HNG : Hid (w.heap.size ≠ g) := Lib.hid (by obtain ⟨_, _, _, h, _⟩ := hR; have := h.lt; omega)
  have hb := Blk.new w 50 (sgc x)
  have hB1 : Below w.heap.size w (w.alloc (.cells (sgc x).toArray 50)) := (Below.refl _ w).alloc (Nat.le_refl _) _
  have hR1 := hR.below hB1
  have HB : Hid (Bk g base _ _) := Lib.hid (Bk.of hB1 hle)
  have hp : Part (sgc x) 0 (sgc x) := fun j _ => by simp
  have hr0 := hb.range 0 (hp.sg0)
  have HP1 : Hid (Part (sgc x) 65 (bs x.sign)) := Lib.hid (by have := hp.sg1 hx; simpa using this)
  have I0 : Hid ((Try.prog.info? 48).map (·.size) = some (hdc x.hd).length) := Lib.hid (by rw [hdc_length hx.1]; kernel_rfl)
  have I1 : Hid ((Try.prog.info? 25).map (·.size) = some (bs x.sign).length) := Lib.hid (by rw [info_digest]; simp [bs_length, hx.2])
  have HX := Lib.hid hx
  have HO := Lib.hid ho
  clear hB1 hp hx ho
  go_enter Try.func60, Try.ntmps60
  go_wp2_with ((with_reducible refine wpList_loadM (o := ⟨some 6, _, _, _, _, _⟩) ?_ w.heap.size 0 48 (.tmp 5) ?_ ?_ hr0 Try.underlying48 ?_ I0.out ?_); rfl; rfl; rfl; rfl)
  generalize w.alloc (.cells (sgc x).toArray 50) = w1 at *
  refine (head_ref w1 g base o hR1 x.hd HX.out.1 (by have := HO.out; omega)).mono ?_
  rintro e w2 ⟨rfl, hR2, hB2⟩
  have hb2 := hb.bk hB2 HNG.out (by decide)
  have hr1 := hb2.range 65 (HP1.out)
  have HL2 := Lib.hid (loH_len2 HX.out.1 o)
  have HB2 := Lib.hid (HB.out.trans hB2)
  clear hR1 hb hr0 hB2
  go_wp2_with ((with_reducible refine wpList_loadM (o := ⟨some 10, _, _, _, _, _⟩) ?_ w.heap.size 65 25 (.tmp 9) ?_ ?_ hr1 Try.underlying25 ?_ I1.out ?_); rfl; rfl; rfl; rfl)
  refine (d_ref w2 g base _ hR2 x.sign HX.out.2 (by have := HO.out; have := HL2.out; omega)).mono ?_
  rintro e w3 ⟨rfl, hR3, hB3⟩
  go_wp2
  go_end0
  exact ⟨rfl, hR3, HB2.out.trans hB3⟩

/-- what Done hands back -/
def DoneP (w : World) (base : Nat) (o : Lo) (e : Ending) (w' : World) : Prop :=
  ∃ v, e = .returned (.tuple #[v, .int .i64 o.1]) ∧ Own w' base v (if o.1 = 0 then o.2 else []) ∧ Below w.heap.size w w'
theorem DoneP.ok {w w' : World} {base : Nat} {o : Lo} {v : Value} (h : 0 = o.1) (hO : Own w' base v o.2) (hB : Below w.heap.size w w') : DoneP w base o (.returned (.tuple #[v, .int .i64 0])) w' :=
  ⟨v, by rw [← h], by rw [← h, if_pos rfl]; exact hO, hB⟩
theorem DoneP.no {w w' : World} {base : Nat} {o : Lo} {x : Int} (h : x = o.1) (h0 : x ≠ 0) (hB : Below w.heap.size w w') : DoneP w base o (.returned (.tuple #[.slice none 0 0, .int .i64 x])) w' :=
  ⟨_, by rw [← h], by rw [← h, if_neg h0]; exact Own.nil0 _ _, hB⟩

theorem done_ref (w : World) (g base : Nat) (o : Lo) (hR : Rf w g base o) :
    Calls Try.prog 29 #[.pointer (some ⟨g, 0, none⟩)] w (DoneP w base o) := by
  obtain ⟨ao, no, co, hblk, hown, hg, hle, hlen⟩ := hR
  have hc0 := hblk.cell (j := 0) rfl
  have hc1 := hblk.cell (j := 1) rfl
  have HO := Lib.hid hown
  obtain ⟨err, out⟩ := o
  simp only at hc1 HO
  clear hblk hown hlen hg hle
  by_cases h0 : err = 0
  · subst h0
    go_enter Try.func29, Try.ntmps29
    go_wp2
    go_ret2
    exact DoneP.ok rfl HO.out (Below.refl _ _)
  · go_enter Try.func29, Try.ntmps29
    go_wp2
    go_quiet (fail)
    go_wp2
    go_ret2
    exact DoneP.no rfl h0 ⟨rfl, rfl, rfl, Nat.le_refl _, fun _ _ => rfl⟩

theorem built_out : Try.prog.built 74 [] = some ([.slice none 0 0, .int .i64 0] : List Value).toArray := by kernel_rfl

end Go.Proofs.Yteeefehbfamfiaa
