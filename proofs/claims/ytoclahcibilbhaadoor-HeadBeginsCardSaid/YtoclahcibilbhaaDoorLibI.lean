/-
  A range over a function whose rounds are told what is known of what is yielded; no round leaves the loop.
-/
import Derived.Test.YtoclahcibilbhaaDoorLibB
import Derived.RangeFuncFrom
import Derived.TacticsIn
namespace Go.Proofs.YtoclahcibilbhaaDoor
open Go.RowKit

/-- an iterator that tells its rounds, of what it yields, the fact Inf; what a round keeps: Kp -/
def Tells {α : Type} (F : Fence) (n : Nat) (P : Program) (g : Nat) (lb : Array Value) (encs : α → Array Value) (Kp : World → World → Prop) (Inf : α → World → Prop) (S : List α → Prop) (N : Nat) (w : World) : Prop :=
  ∀ (l : Nat) (J : List α → World → Prop) (W : World), Below w.heap.size w W → AbidesFrom W.heap.size J →
    (∀ pre x W1, J pre W1 → Inf x W1 → pre.length < N → YieldAt F (n - 1) P l (encs x) W1 fun e W' => e = .returned (.bool true) ∧ J (pre ++ [x]) W' ∧ Kp W1 W') →
    J [] W → CallsIn F n P g (#[.func (.yield l) #[] #[]] ++ lb) W fun e W' => (∃ v, e = .returned v) ∧ ∃ xs, S xs ∧ J xs W'

/-- a round ends as it should -/
def toldPost {α : Type} (Kp : World → World → Prop) (I : List α → World → Prop) (xs : List α) (W : World) (e : Exit) (_ : Act) (W' : World) : Prop := e = .normal ∧ KeepsOthers W W' ∧ Kp W W' ∧ I xs W'

/-- what the loop lays: the rounds' deferred calls at B, its record behind them -/
structure LoopAt (B : Nat) (r : Loop) (W : World) : Prop where
  loo : W.heap[B + 1]? = some (.loop r)
  dfr : W.heap[B]? = some (.deferred (some []))
theorem LoopAt.turn {B : Nat} {r : Loop} {W : World} (h : LoopAt B r W) (r' : Loop) : LoopAt B r' (W.putObj (B + 1) (.loop r')) :=
  ⟨World.putObj_heap_same (lt_of_block h.loo), (World.putObj_heap_other (by omega)).trans h.dfr⟩
theorem LoopAt.keeps {B : Nat} {r : Loop} {W W' : World} (h : LoopAt B r W) (k : KeepsOthers W W') : LoopAt B r W' := ⟨k.same _ _ h.loo rfl, k.same _ _ h.dfr rfl⟩
theorem LoopAt.abides {B : Nat} {r : Loop} {W W' : World} {row : Option Nat} (h : LoopAt B r W) (hg : W.grownBy W' row) (hr : ∀ k, row = some k → ∃ o : Obj, W.heap[k]? = some o ∧ o.isWalk = true) : LoopAt B r W' :=
  ⟨(grownBy_keeps hg hr h.loo rfl).trans h.loo, (grownBy_keeps hg hr h.dfr rfl).trans h.dfr⟩

variable {F : Fence} {n : Nat} {P : Program}

/-- one round of the loop, out of its body's walk -/
theorem round_told {α : Type} {l B : Nat} {fn : FuncId} (hfn : F.fn fn) {r : Loop} (hl : l = B + 1) (hrd : r.state = .ready) (hpe : r.pending = none) (hfn' : r.fn = fn) {vs : Array Value} (hvs : vs.size = r.params.size)
    {Kp : World → World → Prop} {I : List α → World → Prop} {xs : List α} {W : World}
    {Mid : Act → World → Prop}
    (hKt : ∀ {A B C : World}, Kp A B → Kp B C → Kp A C) (hKb : ∀ (W : World) (r' : Loop), LoopAt B r' W → ∀ r'', Kp W (W.putObj (B + 1) (.loop r'')))
    (hIb : ∀ (s : List α) (W : World) (r' : Loop), LoopAt B r' W → ∀ r'', I s W → I s (W.putObj (B + 1) (.loop r'')))
    (hMb : ∀ (a : Act) (W : World) (r' : Loop), LoopAt B r' W → ∀ r'', Mid a W → Mid a (W.putObj (B + 1) (.loop r'')))
    (hassign : r.assign.wpIn (F.inRound l) (n - 1) P (Exit.then (fun a₁ W₁ => KeepsOthers W W₁ ∧ Kp W W₁ ∧ Mid a₁ W₁) (fun _ _ _ => False)) { tmps := (r.params.zip vs).foldl (fun t (p, v) => t.setIfInBounds p v) r.tmps, defers := [] } W)
    (hbody : ∀ a W, Mid a W → r.body.wpIn (F.inRound l) (n - 1) P (toldPost Kp I xs W) a W)
    (hL : LoopAt B r W) :
    YieldAt F (n - 1) P l vs W fun e W' => e = .returned (.bool true) ∧ (I xs W' ∧ LoopAt B r W') ∧ Kp W W' := by
  subst hl
  refine ⟨fn, _, r.assign, r.body, by rw [run_yield hL.loo hvs, hfn'], roundIn_of_wpIn hfn (wpIn_mono hassign ?_)⟩
  rintro e a₁ W₁ h
  cases e with
  | normal =>
    obtain ⟨hk0, hkp0, hm⟩ := h
    have hL1 := hL.keeps hk0
    refine ⟨_, run_beginRound hL1.loo hrd, ?_⟩
    have hL2 := hL1.turn { r with state := .busy }
    refine wpIn_mono (hbody _ _ (hMb _ _ _ hL1 _ hm)) ?_
    rintro e a W3 ⟨rfl, hk, hkp, hi⟩
    have hL3 := hL2.keeps hk
    have hend := run_endRound (P := P) none hL3.loo
    have he : ({ ({ r with state := .busy } : Loop) with state := if (none : Option Code).isNone then .ready else .done, pending := none } : Loop) = r := by
      cases r
      simp at hrd hpe
      simp [hrd, hpe]
    rw [he] at hend
    exact ⟨_, _, hend, rfl, ⟨hIb _ _ _ hL3 _ hi, hL3.turn r⟩, hKt hkp0 (hKt (hKt (hKb _ _ hL1 _) hkp) (hKb _ _ hL3 _))⟩
  | exit id => exact h.elim
  | goto t => exact h.elim
  | ret => exact h.elim
  | panic c => exact h.elim
  | outgrown => exact h.elim

/-- **the statement** -/
theorem wpIn_told {α : Type} {g : Operand} {ps : Array Tmp} {assign body : Code} {Q : Exit → Act → World → Prop} {a : Act} {w : World}
    (hro : F.round = none) (h1 : 1 ≤ n) {gf : Nat} {lb : Array Value} (hg : a.eval g = .func (.func gf) #[] lb) (hFg : F.fn gf) (eg : ∀ args w, (callFunc gf args).run P w = .ok (.enter gf args) w)
    {encs : α → Array Value} {Kp : World → World → Prop} {Inf : α → World → Prop} {S : List α → Prop} {N : Nat} (hseq : Tells F (n - 1) P gf lb encs Kp Inf S N w) (hps : ∀ x, (encs x).size = ps.size)
    (hKt : ∀ {A B C : World}, Kp A B → Kp B C → Kp A C) (hKb : ∀ (W : World) (r' : Loop), LoopAt w.heap.size r' W → ∀ r'', Kp W (W.putObj (w.heap.size + 1) (.loop r'')))
    (I : List α → World → Prop) (hI : OwnFrom w.heap.size I) (h0 : I [] w) (Mid : List α → α → Act → World → Prop)
    (hMb : ∀ (pre : List α) (x : α) (a : Act) (W : World) (r' : Loop), LoopAt w.heap.size r' W → ∀ r'', Mid pre x a W → Mid pre x a (W.putObj (w.heap.size + 1) (.loop r'')))
    (hassign : ∀ (l : Nat) (pre : List α) (x : α) (W : World), I pre W → Inf x W → pre.length < N →
      assign.wpIn (F.inRound l) (n - 1 - 1) P (Exit.then (fun a₁ W₁ => KeepsOthers W W₁ ∧ Kp W W₁ ∧ Mid pre x a₁ W₁) (fun _ _ _ => False)) { tmps := (ps.zip (encs x)).foldl (fun t (p, v) => t.setIfInBounds p v) a.tmps, defers := [] } W)
    (hbody : ∀ (l : Nat) (pre : List α) (x : α) (a : Act) (W : World), Mid pre x a W → body.wpIn (F.inRound l) (n - 1 - 1) P (toldPost Kp I (pre ++ [x]) W) a W)
    (hdone : ∀ (xs : List α) (W : World), S xs → I xs W → W.heap[w.heap.size]? = some (.deferred (some [])) → Q .normal { a with defers := { target := .collected w.heap.size, args := #[] } :: a.defers } W) :
    (Code.rangeFunc g ps assign body).wpIn F n P Q a w := by
  refine wpIn_rangeFunc fun fn hfn => ?_
  have hent := run_enterLoop_outer (P := P) (w := w) fn a.tmps ps assign body
  rw [hro]
  have hL0 : ∀ r : Loop, LoopAt w.heap.size r ((w.alloc (.deferred (some []))).alloc (.loop r)) := fun r => by
    have h2 := World.alloc_heap_new (w.alloc (.deferred (some []))) (.loop r)
    rw [World.size_alloc] at h2
    exact ⟨h2, (Below.heap_alloc _ _ _ (by simp)).trans (World.alloc_heap_new w _)⟩
  have hI0 : ∀ o o' : Obj, I [] ((w.alloc o).alloc o') := fun o o' => hI.alloc _ (hI.alloc _ h0)
  have hB0 : ∀ o o' : Obj, Below w.heap.size w ((w.alloc o).alloc o') := fun o o' => ((Below.refl _ w).alloc (Nat.le_refl _) _).alloc (by simp) _
  have hIb : ∀ (s : List α) (W : World) (r' : Loop), LoopAt w.heap.size r' W → ∀ r'', I s W → I s (W.putObj (w.heap.size + 1) (.loop r'')) := fun s W r' hL r'' hs => hI.putObj _ hs (by omega) hL.loo rfl
  generalize hr : (⟨.ready, none, fn, a.tmps, ps, assign, body, w.heap.size⟩ : Loop) = r at hent
  have hLr := hL0 r
  have hIr := hI0 (.deferred (some [])) (.loop r)
  have hBr := hB0 (.deferred (some [])) (.loop r)
  have hsz : w.heap.size ≤ ((w.alloc (.deferred (some []))).alloc (.loop r)).heap.size := by simp; omega
  generalize (w.alloc (.deferred (some []))).alloc (.loop r) = W1 at hent hLr hIr hBr hsz
  refine ⟨_, _, W1, { target := .fn (.func gf) lb, args := #[.func (.yield (w.heap.size + 1)) #[] #[]] }, W1, gf, #[.func (.yield (w.heap.size + 1)) #[] #[]] ++ lb, W1, hent, ?_, ?_, ?_, fun _ => h1, ?_⟩
  · simp only [resolve, hg]
    simp [go_sem]
  · intro f' hf'
    simp [Target.leads] at hf'
    subst hf'
    exact hFg
  · simp [invoke, go_sem, eg]
  · refine (hseq (w.heap.size + 1) (fun pre W => I pre W ∧ LoopAt w.heap.size r W) W1 hBr ?_ ?_ ⟨hIr, hLr⟩).mono ?_
    · intro s A C row hs hg' hrow
      refine ⟨hI s A C row hs.1 hg' (fun k e => ?_), hs.2.abides hg' (fun k e => (hrow k e).2)⟩
      obtain ⟨hb, o, ho, hw⟩ := hrow k e
      exact ⟨by omega, o, ho, Obj.not_cells_of_walk hw⟩
    · rintro pre x W ⟨hi, hL⟩ hN hlt
      refine round_told hfn rfl (by rw [← hr]) (by rw [← hr]) (by rw [← hr]) (by rw [hps, ← hr]) hKt hKb hIb (hMb pre x) ?_ ?_ hL
      · rw [← hr]
        exact hassign _ pre x W hi hN hlt
      · intro a W hm
        rw [← hr]
        exact hbody _ pre x a W hm
    · rintro e W2 ⟨⟨v, rfl⟩, xs, hS, hi, hL⟩
      have hend := run_endLoop (P := P) hL.loo (by rw [← hr]; simp)
      have hpn : r.pending = none := by rw [← hr]
      rw [hpn] at hend
      refine ⟨none, _, hend, hdone _ _ hS (hIb _ _ _ hL _ hi) (hL.turn _).dfr⟩
/-! within the widest fence, also in a round: operations by laws that know no fence -/
class Wide (F : Fence) : Prop where
  is : F = Fence.wide ∨ ∃ l, F = Fence.wide.inRound l
instance : Wide Fence.wide := ⟨.inl rfl⟩
instance (l : Nat) : Wide (Fence.wide.inRound l) := ⟨.inr ⟨l, rfl⟩⟩
theorem opIn_of {n : Nat} {P : Program} {F : Fence} [hF : Wide F] {o : Oper} {a : Act} {w : World} {next : Act → World → Prop} {Q : Exit → Act → World → Prop} (hnd : ∀ c, o.op ≠ .defer c) (h : Oper.wp P o a w next Q) : Oper.wpIn F n P o a w next Q := by
  unfold Oper.wp at h
  unfold Oper.wpIn
  rw [Oper.semAt_eq _ _ _ hnd]
  generalize (execOp a.eval o).run P w = r at h ⊢
  rcases hF.is with rfl | ⟨l, rfl⟩
  · refine ⟨fun _ _ => trivial, ?_⟩
    match r, h with
    | .ok (.value _) _, h => exact h
    | .ok .skip _, h => exact h
    | .ok (.defer _) _, h => exact h
    | .ok (.enter _ _) _, h => exact ⟨fun e => absurd e (by decide), callsIn_wide.2 h⟩
    | .ok (.row _ _) _, h =>
      refine ⟨fun e => absurd e (by decide), fun c cs _ => ?_⟩
      obtain ⟨v, w', r, s⟩ := h c cs
      exact ⟨v, w', r, stepsIn_wide.2 s⟩
    | .halt (.panic _) _, h => exact h
  · refine ⟨fun _ _ => trivial, ?_⟩
    match r, h with
    | .ok (.value _) _, h => exact h
    | .ok .skip _, h => exact h
    | .ok (.defer _) _, h => exact h
    | .ok (.enter _ _) _, h => exact ⟨fun e => absurd e (by simp [Fence.inRound, Fence.wide]), (callsIn_wide.2 h : CallsIn Fence.wide _ _ _ _ _ _)⟩
    | .ok (.row _ _) _, h =>
      refine ⟨fun e => absurd e (by simp [Fence.inRound, Fence.wide]), fun c cs _ => ?_⟩
      obtain ⟨v, w', r, s⟩ := h c cs
      exact ⟨v, w', r, (stepsIn_wide.2 s : StepsIn (Machine.fenced P Fence.wide) P _ _)⟩
    | .halt (.panic _) _, h => exact h
theorem listIn_of {n : Nat} {F : Fence} [Wide F] {ops : Array Oper} {rest : List Oper} {o : Oper} {a : Act} {w : World} {Q : Exit → Act → World → Prop} (hgd : o.guard = none) (hnd : ∀ c, o.op ≠ .defer c)
    (h : ∀ K : Act → World → Prop, (∀ a w, wpListIn F n Tryd.prog ops Q rest a w → K a w) → Oper.wp Tryd.prog o a w K Q) : wpListIn F n Tryd.prog ops Q (o :: rest) a w :=
  wpListIn_plain hgd fun K hK => opIn_of hnd (h K hK)
theorem wpListIn_allocB {n : Nat} {F : Fence} [Wide F] {w : World} {ops : Array Oper} {rest : List Oper} {o : Oper} {a : Act} {Q : Exit → Act → World → Prop} (hgd : o.guard = none) (T : TypeId) (ho : o.op = .alloc T)
    {zs : List Value} {m : Nat} (hz : (Tryd.prog.info? T).map (fun i => (i.zero, i.size)) = some (some (.agg zs.toArray), m))
    (h : ∀ w', Blk w' w.heap.size T zs → w.grownBy w' none → w'.heap.size = w.heap.size + 1 → wpListIn F n Tryd.prog ops Q rest (a.put o.dst (.pointer (some ⟨w.heap.size, 0, none⟩))) w') : wpListIn F n Tryd.prog ops Q (o :: rest) a w := by
  have h' := h (w.alloc (.cells zs.toArray T)) (Blk.new w T zs) (World.grownBy_alloc w _ none) (by simp)
  refine listIn_of hgd (fun c e => by rw [ho] at e; cases e) fun K hK => ?_
  have hz := (zero_of_info hz).1
  unfold Oper.wp execOp
  simp [ho, Instr.alloc, hz, newVar, newRow, Value.cells, Result.andThen]
  exact hK _ _ h'
theorem wpListIn_storeB {n : Nat} {F : Fence} [Wide F] {w : World} {ops : Array Oper} {rest : List Oper} {o : Oper} {a : Act} {Q : Exit → Act → World → Prop} (hgd : o.guard = none) (ty : TypeId) (x y : Operand) (ho : o.op = .store ty x y)
    {g : Nat} {vs old : List Value} (hx : a.eval x = .pointer (some ⟨g, 0, none⟩)) (hy : a.eval y = .agg vs.toArray) {t : TypeId} (hg : Blk w g t old) (hi : (Tryd.prog.info? ty).map (·.size) = some vs.length) (hold : old.length = vs.length) (hone : ∀ v ∈ vs, v.oneCell' = true)
    (h : ∀ w', Blk w' g t vs → w.grownBy w' (some g) → w'.heap.size = w.heap.size → wpListIn F n Tryd.prog ops Q rest (a.put o.dst undef) w') : wpListIn F n Tryd.prog ops Q (o :: rest) a w := by
  have h' := h (w.setRow g vs.toArray) ⟨setRow_heap w g _ _ t _ hg.at_⟩ ⟨rfl, rfl, rfl, by simp, fun k _ hk => setRow_other w g k _ (fun e => hk (by simp [e]))⟩ (by simp)
  refine listIn_of hgd (fun c e => by rw [ho] at e; cases e) fun K hK => ?_
  refine wp_store_row ty x y ho g _ hx hy t _ hg.at_ (by simpa using hi) (by simpa using hold) ?_ (hK _ _ h')
  rw [Array.all_eq_true_iff_forall_mem]
  intro v hv
  exact hone v (by simpa using hv)
theorem wpListIn_loadP {n : Nat} {F : Fence} [Wide F] {w : World} {ops : Array Oper} {rest : List Oper} {o : Oper} {a : Act} {Q : Exit → Act → World → Prop} (hgd : o.guard = none) (b off : Nat) (ty : TypeId) (x : Operand) (ho : o.op = .load ty x)
    (hx : a.eval x = .pointer (some ⟨b, off, none⟩)) {cs : List Value} {d : TypeDesc} (hc : w.rangeAt b off cs) (hu : Tryd.prog.underlying ty = some d) (hd : d.isRow = true)
    (hi : (Tryd.prog.info? ty).map (·.size) = some cs.length)
    (h : wpListIn F n Tryd.prog ops Q rest (a.put o.dst (.agg cs.toArray)) w) : wpListIn F n Tryd.prog ops Q (o :: rest) a w :=
  listIn_of hgd (fun c e => by rw [ho] at e; cases e) fun _ hK => wp_load_mid ty x ho b off hx cs d hc hu hd hi (hK _ _ h)
theorem below_none {w w' : World} (h : Below w.heap.size w w') : w.grownBy w' none := ⟨h.os, h.tape, h.output, h.size, fun k hk _ => h.block k hk⟩
end Go.Proofs.YtoclahcibilbhaaDoor
