/-
  Package wire's door for errors: must, aborted and what it defers; add.
-/
import Derived.Test.YtoclahcibilbhaaGreatOctF
import Derived.Test.YtoclahcibilbhaaGreatLibO
import Derived.Test.YtoclahcibilbhaaGreatLibB
import Derived.Test.YtoclahcibilbhaaGreatLibT
import Derived.Defers
import Derived.Recover
namespace Go.Proofs.YtoclahcibilbhaaGreat
open Go.RowKit
set_option maxRecDepth 100000

/-- how a part ends that refuses with the error 'err': it returns if there is none, else it panics with it -/
def Abt (err : Int) (e : Ending) : Prop :=
  (err = 0 ∧ e = .returned (.tuple #[])) ∨ (err ≠ 0 ∧ e = .panicked [{ v := .iface 28 (.int .i64 err), recovered := false }])

theorem Abt.ok : Abt 0 (.returned (.tuple #[])) := .inl ⟨rfl, rfl⟩
theorem Abt.no {x : Int} (h : x ≠ 0) : Abt x (.panicked [{ v := .iface 28 (.int .i64 x), recovered := false }]) := .inr ⟨h, rfl⟩

theorem must_any (w : World) (x : Int) :
    Calls Tryz.prog 91 #[.int .i64 x] w fun e w' => Abt x e ∧ w = w' := by
  by_cases hx : x = 0
  · subst hx
    go_enter Tryz.func91, Tryz.ntmps91
    go_wp2
    go_end0
    exact ⟨Abt.ok, rfl⟩
  · go_enter Tryz.func91, Tryz.ntmps91
    go_wp2
    exact ⟨rfl, Abt.no hx, rfl⟩

theorem asErr (v : Value) (w : World) : (Instr.typeAssert (.iface 28 v) 20 28 false).run Tryz.prog w = .ok v w := by kernel_rfl

theorem catch_err (b : Nat) (x y : Int) (older : List PanicEntry) (w : World) (hc : w.cell? ⟨b, 0, none⟩ = some (.int .i64 x)) (hz : w.frozen? ⟨b, 0, none⟩ = false) :
    CallsD Tryz.prog 87 #[.pointer (some ⟨b, 0, none⟩)] (.panicking ({ v := .iface 28 (.int .i64 y), recovered := false } :: older)) w fun e u' w' =>
      e = .returned (.tuple #[]) ∧ u' = .panicking ({ v := .iface 28 (.int .i64 y), recovered := true } :: older) ∧ w' = w.setCell ⟨b, 0, none⟩ (.int .i64 y) := by
  have h := asErr
  refine callsD_of_wpS Tryz.func87 rfl fun c₀ cs hu => ?_
  apply wpS_seq
  apply wpS_region
  simp [wpOpsS, go_sem, recoverD, hu, Tryz.ntmps87, Exit.thenS]
  apply wpS_seq
  apply wpS_region
  simp [wpOpsS, go_sem, Exit.thenS]
  refine wpS_cond (t := true) (by simp [Act.eval, Array.replicate]) ?_
  simp only [if_true]
  apply wpS_region
  simp [wpOpsS, go_sem, hc, hz, h, bodyPostS, results, Tryz.results87]

theorem catch_none (b : Nat) (w : World) :
    CallsD Tryz.prog 87 #[.pointer (some ⟨b, 0, none⟩)] .returning w fun e u' w' => e = .returned (.tuple #[]) ∧ u' = .returning ∧ w' = w := by
  refine callsD_of_wpS Tryz.func87 rfl fun c₀ cs hu => ?_
  apply wpS_seq
  apply wpS_region
  simp [wpOpsS, go_sem, recoverD, hu, Tryz.ntmps87, Exit.thenS]
  apply wpS_seq
  apply wpS_region
  simp [wpOpsS, go_sem, Exit.thenS]
  refine wpS_cond (t := false) (by simp [Act.eval, Array.replicate]) ?_
  simp only [Bool.false_eq_true, if_false]
  refine wpS_of_wp (wp_skip ?_)
  cases c₀
  simp_all [bodyPostS, results, Tryz.results87]

/-- aborted: f is called, and its error, if it tells one, is what comes out -/
theorem aborted_any (w : World) (F : Nat) (cap : Array Value) (G : Int → World → Prop)
    (hin : ∀ W, Sem.run Tryz.prog (callFunc F cap) W = .ok (.enter F cap) W)
    (hc : Calls Tryz.prog F cap (w.alloc (.cells #[.int .i64 0] 28)) fun e w' => ∃ err, Abt err e ∧ Blk w' w.heap.size 28 [.int .i64 0] ∧ G err w') :
    Calls Tryz.prog 52 #[.func (.func F) #[] cap] w fun e w' => ∃ err w1, e = .returned (.int .i64 err) ∧ G err w1 ∧ Blk w1 w.heap.size 28 [.int .i64 0] ∧ w' = w1.setCell ⟨w.heap.size, 0, none⟩ (.int .i64 err) := by
  have hmf : ∀ (fn : Fn) (first cap : Array Value) (w : World), (Instr.makeFunc fn first cap).run Tryz.prog w = .ok (.func fn first cap) w := fun _ _ _ _ => rfl
  go_enter_defers Tryz.func52, Tryz.ntmps52
  go_wp2_with fail
  refine hc.mono ?_
  rintro e w1 ⟨err, he, hb, hG⟩
  have hc1 := hb.cell (j := 0) rfl
  have hf1 := hb.free 0
  rcases he with ⟨rfl, rfl⟩ | ⟨hne, rfl⟩
  · go_wp2_with fail
    refine leaves_cons (f := 87) (args := #[.pointer (some ⟨w.heap.size, 0, none⟩)]) (by simp) (by simp [go_sem]) ?_
    refine (catch_none _ _).mono ?_
    rintro e u' w'' ⟨rfl, rfl, rfl⟩
    simp [Leaves, settle, results, Tryz.results52, go_sem, hc1]
    exact ⟨w1, hG, hb, rfl⟩
  · refine leaves_cons (f := 87) (args := #[.pointer (some ⟨w.heap.size, 0, none⟩)]) (by simp) (by simp [go_sem]) ?_
    refine (catch_err _ 0 _ _ _ hc1 hf1).mono ?_
    rintro e u' w'' ⟨rfl, rfl, rfl⟩
    simp [Leaves, settle, results, Tryz.results52, go_sem, hc1]
    exact ⟨w1, hG, hb, rfl⟩

/-- below B only the blocks of K have changed -/
structure Stp (K : Nat → Prop) (B : Nat) (w w' : World) : Prop where
  os : w'.os = w.os
  tape : w'.tape = w.tape
  output : w'.output = w.output
  size : w.heap.size ≤ w'.heap.size
  block : ∀ k, k < B → ¬ K k → w'.heap[k]? = w.heap[k]?
section
variable {K K' : Nat → Prop} {B : Nat} {w w' w'' : World}
theorem Stp.refl (K : Nat → Prop) (B : Nat) (w : World) : Stp K B w w := ⟨rfl, rfl, rfl, Nat.le_refl _, fun _ _ _ => rfl⟩
theorem Stp.trans (h : Stp K B w w') (k : Stp K B w' w'') : Stp K B w w'' :=
  ⟨k.os.trans h.os, k.tape.trans h.tape, k.output.trans h.output, Nat.le_trans h.size k.size, fun i h1 h2 => (k.block i h1 h2).trans (h.block i h1 h2)⟩
theorem Stp.of (h : Below B w w') : Stp K B w w' := ⟨h.os, h.tape, h.output, h.size, fun i h1 _ => h.block i h1⟩
theorem Stp.to (h : Stp (fun _ => False) B w w') : Below B w w' := ⟨h.os, h.tape, h.output, h.size, fun i h1 => h.block i h1 (fun x => x)⟩
theorem Stp.below {A : Nat} (h : Stp K B w w') (hA : A ≤ B) (hk : ∀ i, K i → A ≤ i) : Below A w w' := ⟨h.os, h.tape, h.output, h.size, fun i h1 => h.block i (by omega) (fun x => by have := hk i x; omega)⟩
theorem Stp.more (h : Stp K B w w') (hk : ∀ i, K i → K' i) : Stp K' B w w' := ⟨h.os, h.tape, h.output, h.size, fun i h1 h2 => h.block i h1 (fun x => h2 (hk i x))⟩
theorem Stp.grown (h : Stp K B w w') {row : Option Nat} (hg : w'.grownBy w'' row) (hB : B ≤ w'.heap.size) (hr : ∀ k, row = some k → K k ∨ B ≤ k) : Stp K B w w'' :=
  h.trans ⟨hg.os, hg.tape, hg.output, hg.size, fun i h1 h2 => hg.block i (by omega) (fun e => by rcases hr i e.symm with h3 | h3; exact h2 h3; omega)⟩
theorem Stp.set (h : Stp K B w w') (a : Addr) (v : Value) (hk : K a.block ∨ B ≤ a.block) : Stp K B w (w'.setCell a v) :=
  h.trans ⟨rfl, rfl, rfl, by simp [World.setCell], fun i h1 h2 => Below.heap_setCell w' a v i (fun e => by rcases hk with h3 | h3; exact h2 (e ▸ h3); omega)⟩
theorem Stp.lower {B' : Nat} (h : Stp K B w w') (hB : B' ≤ B) : Stp K B' w w' := ⟨h.os, h.tape, h.output, h.size, fun i h1 h2 => h.block i (by omega) h2⟩
theorem Stp.range {X off : Nat} {cs : List Value} (h : Stp K B w w') (hp : w.rangeAt X off cs) (hB : X < B) (hk : ¬ K X) : w'.rangeAt X off cs := fun j v hv => by
  have := hp j v hv
  unfold World.cell? at this ⊢
  rw [h.block X hB hk]; exact this
theorem Stp.cell {a : Addr} {v : Value} (h : Stp K B w w') (hp : w.cell? a = some v) (hB : a.block < B) (hk : ¬ K a.block) : w'.cell? a = some v := by
  unfold World.cell? at hp ⊢
  rw [h.block _ hB hk]; exact hp
theorem Blk.stp {g : Nat} {t : TypeId} {vs : List Value} (h : Blk w g t vs) (hs : Stp K B w w') (hB : g < B) (hk : ¬ K g) : Blk w' g t vs := ⟨(hs.block g hB hk).trans h.at_⟩
end

/-- a coder that encodes: what it has, in a row of its own -/
structure Cd (w : World) (b B : Nat) (out : List UInt8) (n : Nat) (a : Option Addr) (c : Nat) : Prop where
  blk : Blk w b 107 [.pointer none, .slice a n c]
  own : Own w B (.slice a n c) out
  le : B ≤ w.heap.size
  lt : b < B
  len : n = out.length
def CdX (w : World) (b B : Nat) (out : List UInt8) : Prop := ∃ n a c, Cd w b B out n a c

theorem Cd.below {w w' : World} {b B : Nat} {out : List UInt8} {n : Nat} {a : Option Addr} {c : Nat} (h : Cd w b B out n a c) (hb : Below w.heap.size w w') : Cd w' b B out n a c :=
  ⟨h.blk.below hb, h.own.below hb, Nat.le_trans h.le hb.size, h.lt, h.len⟩

/-- all blocks but b and rows of bytes are as they were -/
def Kb (b : Nat) (w w' : World) : Prop := ∀ k cs t f, w.heap[k]? = some (.cells cs t f) → k ≠ b → t ≠ 5 → w'.heap[k]? = some (.cells cs t f)
theorem Kb.of {b : Nat} {w w' : World} (h : Below w.heap.size w w') : Kb b w w' := fun k _ _ _ e _ _ => (h.block k (lt_of_block e)).trans e
theorem Kb.trans {b : Nat} {w w' w'' : World} (h : Kb b w w') (k : Kb b w' w'') : Kb b w w'' := fun i cs t f e1 e2 e3 => k i cs t f (h i cs t f e1 e2 e3) e2 e3

set_option maxHeartbeats 400000 in
theorem add_okK (w : World) (b B : Nat) (out : List UInt8) (hC : CdX w b B out) (a : Option Addr) (n c : Nat) (l : List UInt8) (hr : Rd w a n c l) (hn : n ≤ 1000000) (ho : out.length ≤ 70368744177664) :
    Calls Tryz.prog 88 #[.pointer (some ⟨b, 0, none⟩), .slice a n c, .int .i64 0] w fun e w' => e = .returned (.tuple #[]) ∧ CdX w' b B (out ++ l) ∧ Stp (· = b) B w w' ∧ Kb b w w' := by
  obtain ⟨m, ao, co, hblk, hown, hle, hlt, hlen⟩ := hC
  have hc1 := hblk.cell (j := 1) rfl
  have hf1 := hblk.free 1
  have hl := hr.len
  have HC := Lib.hid hblk
  have HO := Lib.hid hown
  have HLEN := Lib.hid hlen
  have HL := Lib.hid hl
  have HLT := Lib.hid hlt
  have HLE := Lib.hid hle
  clear hblk hlen hl
  go_enter Tryz.func88, Tryz.ntmps88
  go_wp2_with fail
  refine (must_any _ _).mono ?_
  rintro e w' ⟨he, rfl⟩
  obtain ⟨_, rfl⟩ | ⟨h0, _⟩ := he
  rotate_left
  · exact absurd rfl h0
  go_wp2_with (at_builtin; refine wpList_app rfl _ _ rfl rfl HO.out rfl hr (by omega) HLE.out ?_)
  intro ao' c' w1 hO1 hg1
  have hne := HO.out.ne HC.out.at_ (by decide)
  have hB1 := HC.out.grown hg1 hne
  have hc2 := hB1.cell (j := 1) rfl
  have hf2 := hB1.free 1
  have HG := Lib.hid hg1
  have HB1 := Lib.hid hB1
  have HO1 := Lib.hid hO1
  clear hg1 hB1 hO1 hc1 hf1 hne
  go_wp2
  go_end0
  have hs : Stp (· = b) B w w1 := (Stp.refl _ _ _).grown HG.out HLE.out (fun k e => .inr (HO.out.lt e).1)
  have hb2 := HB1.out.set 1 (.slice ao' (out.length + n) c')
  have hs2 := hs.set ⟨b, 1, none⟩ (.slice ao' (out.length + n) c') (.inl rfl)
  refine ⟨rfl, ⟨out.length + n, ao', c', hb2, ?_, Nat.le_trans HLE.out hs2.size, HLT.out, by simp [HL.out]⟩, hs2, fun k cs t f e1 e2 e3 => ?_⟩
  · have := ownsRow_setCell_below HO1.out (a := ⟨b, 1, none⟩) HLT.out (.slice ao' (out.length + n) c')
    exact this
  · have e4 := (HG.out.block k (lt_of_block e1) (fun e => HO.out.ne e1 e3 e.symm)).trans e1
    exact (Below.heap_setCell w1 _ _ k (fun e => e2 e)).trans e4
theorem add_ok (w : World) (b B : Nat) (out : List UInt8) (hC : CdX w b B out) (a : Option Addr) (n c : Nat) (l : List UInt8) (hr : Rd w a n c l) (hn : n ≤ 1000000) (ho : out.length ≤ 70368744177664) :
    Calls Tryz.prog 88 #[.pointer (some ⟨b, 0, none⟩), .slice a n c, .int .i64 0] w fun e w' => e = .returned (.tuple #[]) ∧ CdX w' b B (out ++ l) ∧ Stp (· = b) B w w' :=
  (add_okK w b B out hC a n c l hr hn ho).mono fun _ _ ⟨h1, h2, h3, _⟩ => ⟨h1, h2, h3⟩

theorem add_no (w : World) (b : Nat) (v : Value) (x : Int) (hx : x ≠ 0) :
    Calls Tryz.prog 88 #[.pointer (some ⟨b, 0, none⟩), v, .int .i64 x] w fun e w' => Abt x e ∧ w = w' := by
  go_enter Tryz.func88, Tryz.ntmps88
  go_wp2_with fail
  refine (must_any _ _).mono ?_
  rintro e w' ⟨he, rfl⟩
  obtain ⟨h0, _⟩ | ⟨_, rfl⟩ := he
  · exact absurd h0 hx
  exact ⟨rfl, Abt.no hx, rfl⟩

/-- what laying a number does: its bytes behind, or ErrArg -/
def NumO (m : Int) (out : List UInt8) (err : Int) (C : List UInt8 → Prop) : Prop :=
  (err = 0 ∧ 0 ≤ m ∧ m ≤ 2147483647 ∧ C (out ++ encC m.toNat)) ∨ (err = 1 ∧ (m < 0 ∨ 2147483647 < m))

set_option maxHeartbeats 400000 in
theorem number_enc_intK (w : World) (b B : Nat) (out : List UInt8) (hC : CdX w b B out) (p : Addr) (m : Int) (hp : w.cell? p = some (.int .i64 m)) (ho : out.length ≤ 70368744177664) :
    Calls Tryz.prog 56 #[.pointer (some ⟨b, 0, none⟩), .pointer (some p)] w fun e w' => ∃ err, Abt err e ∧ (NumO m out err fun l => CdX w' b B l) ∧ Stp (· = b) B w w' ∧ Kb b w w' := by
  obtain ⟨n, ao, co, hc⟩ := hC
  have hc0 := hc.blk.cell (j := 0) rfl
  have HC := Lib.hid hc
  have HO := Lib.hid ho
  clear hc ho
  by_cases hm : 0 ≤ m ∧ m ≤ 2147483647
  · obtain ⟨h0, h1⟩ := hm
    have he5 := encC_len m.toNat (by omega)
    go_enter Tryz.func56, Tryz.ntmps56
    go_wp2_with fail
    refine (putCount_ok w none 0 0 m [] (Rd.nil0 w) (by omega) h0 h1).mono ?_
    rintro e w1 ⟨v, rfl, hO1, hB1⟩
    obtain ⟨a1, c1, rfl⟩ := hO1.shape
    have hC1 := HC.out.below hB1
    have hr1 := hO1.rd
    have hlen : ([] ++ encC m.toNat).length ≤ 5 := by simpa using he5
    have HB1 := Lib.hid hB1
    clear hB1 hO1 hc0
    go_wp2_with fail
    refine (add_okK w1 b B out ⟨_, _, _, hC1⟩ a1 _ c1 _ hr1 (by omega) HO.out).mono ?_
    rintro e w2 ⟨rfl, hC2, hs2, hk2⟩
    go_wp2
    apply bodyPost_ret
    exact results_none rfl _ _ _
    rfl
    exact ⟨0, Abt.ok, .inl ⟨rfl, h0, h1, by simpa using hC2⟩, (Stp.of (HB1.out.mono HC.out.le)).trans hs2, (Kb.of HB1.out).trans hk2⟩
  · have hm' : m < 0 ∨ 2147483647 < m := by omega
    go_enter Tryz.func56, Tryz.ntmps56
    go_wp2_with fail
    refine (putCount_no w none 0 0 m hm').mono ?_
    rintro e w1 ⟨rfl, rfl⟩
    go_wp2_with fail
    refine (add_no w b _ 1 (by decide)).mono ?_
    rintro e w1 ⟨he, rfl⟩
    obtain ⟨h0, _⟩ | ⟨_, rfl⟩ := he
    · exact absurd h0 (by decide)
    exact ⟨rfl, 1, Abt.no (by decide), .inr ⟨rfl, hm'⟩, Stp.refl _ _ _, fun _ _ _ _ h _ _ => h⟩

theorem number_enc_int (w : World) (b B : Nat) (out : List UInt8) (hC : CdX w b B out) (p : Addr) (m : Int) (hp : w.cell? p = some (.int .i64 m)) (ho : out.length ≤ 70368744177664) :
    Calls Tryz.prog 56 #[.pointer (some ⟨b, 0, none⟩), .pointer (some p)] w fun e w' => ∃ err, Abt err e ∧ (NumO m out err fun l => CdX w' b B l) ∧ Stp (· = b) B w w' :=
  (number_enc_intK w b B out hC p m hp ho).mono fun _ _ ⟨err, h1, h2, h3, _⟩ => ⟨err, h1, h2, h3⟩

end Go.Proofs.YtoclahcibilbhaaGreat
