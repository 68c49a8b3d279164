/-
  Laid and read: what is laid is read back; what is read is read with anything behind it.
-/
import Derived.Test.YtoclahcibilbhaaGreatWirT
import Derived.Test.YtoclahcibilbhaaGreatWirX
namespace Go.Proofs.YtoclahcibilbhaaGreat
open Go.RowKit
set_option maxRecDepth 100000

/-- what is laid of x is read back as cl x, with anything behind it -/
def Back {α : Type} (lo : α → Lo → Lo) (g : List UInt8 → Option (α × List UInt8)) (cl : α → α) (x : α) : Prop :=
  ∀ o, (lo x o).1 = 0 → o.1 = 0 ∧ ∃ b, (lo x o).2 = o.2 ++ b ∧ ∀ t, g (b ++ t) = some (cl x, t)
theorem backN (m : Int) : Back loN gN (fun x => x) m := fun o h => by
  obtain ⟨h0, a, b, e⟩ := loN_inv h
  exact ⟨h0, _, e, fun t => gN_enc m t a b⟩
theorem backT (s : ByteArray) : Back loT gT (fun x => x) s := fun o h => by
  obtain ⟨h0, a, e⟩ := loT_inv h
  exact ⟨h0, _, e, fun t => by rw [List.append_assoc]; exact gT_enc s t a⟩
theorem backD {d : List UInt8} (hd : d.length = 32) : Back loD gD (fun x => x) d := fun o h => by
  obtain ⟨h0, e⟩ := loD_inv h
  exact ⟨h0, _, e, fun t => gD_app d t hd⟩
theorem back_fold {α : Type} {lo : α → Lo → Lo} {g : List UInt8 → Option (α × List UInt8)} {cl : α → α} (l : List α) :
    (∀ x ∈ l, Back lo g cl x) → ∀ o : Lo, (l.foldl (fun o x => lo x o) o).1 = 0 → o.1 = 0 ∧ ∃ b, (l.foldl (fun o x => lo x o) o).2 = o.2 ++ b ∧ ∀ t, manyG g l.length (b ++ t) = some (l.map cl, t) := by
  generalize hn : l.length = n
  induction n generalizing l with
  | zero =>
    obtain rfl := List.eq_nil_of_length_eq_zero hn
    exact fun _ o h => ⟨h, [], by simp, fun t => rfl⟩
  | succ n ih =>
    obtain ⟨l, x, rfl⟩ : ∃ l' x, l = l' ++ [x] := ⟨l.dropLast, l.getLast (fun e => by simp [e] at hn), (List.dropLast_concat_getLast _).symm⟩
    have hn' : l.length = n := by simpa using hn
    intro hb o h
    rw [List.foldl_append] at h ⊢
    obtain ⟨h1, b2, e2, g2⟩ := hb x (by simp) _ h
    obtain ⟨h0, b1, e1, g1⟩ := ih l hn' (fun y hy => hb y (List.mem_append_left _ hy)) o h1
    refine ⟨h0, b1 ++ b2, ?_, fun t => ?_⟩
    · show (lo x (l.foldl (fun o x => lo x o) o)).2 = _
      rw [e2, e1, List.append_assoc]
    · rw [manyG, List.append_assoc, g1, Option.bind_some]
      simp only []
      rw [g2]
      simp
theorem backL {α : Type} {lo : α → Lo → Lo} {g : List UInt8 → Option (α × List UInt8)} {cl : α → α} {l : List α} (hb : ∀ x ∈ l, Back lo g cl x) : ∀ o, (loL lo l o).1 = 0 → o.1 = 0 ∧ ∃ b, (loL lo l o).2 = o.2 ++ b ∧ ∀ t, gL g (b ++ t) = some (l.map cl, t) := by
  intro o h
  unfold loL at h ⊢
  by_cases h0 : o.1 = 0
  · rw [if_neg (by simp [h0])] at h ⊢
    by_cases h4 : 4096 < l.length
    · rw [if_pos h4] at h; simp at h
    · rw [if_neg h4] at h ⊢
      obtain ⟨h1, b, e, gb⟩ := back_fold l hb _ h
      obtain ⟨_, a1, a2, e1⟩ := loN_inv h1
      refine ⟨h0, encC l.length ++ b, ?_, fun t => ?_⟩
      · rw [e, e1]; simp
      · unfold gL
        have := gN_enc (l.length : Int) (b ++ t) a1 a2
        rw [Int.toNat_natCast] at this
        rw [List.append_assoc, this, Option.bind_some, if_neg (by simp only; omega)]
        simpa using gb t
  · rw [if_pos h0] at h; exact absurd h h0

/-- what is read is read with anything behind it -/
def Mono {α : Type} (g : List UInt8 → Option (α × List UInt8)) : Prop := ∀ l x t, g l = some (x, t) → ∀ s, g (l ++ s) = some (x, t ++ s)
theorem back_head {x : Hd} (hx : x.ok) : Back loH gH (fun x => x) x := by
  intro o h
  unfold loH at h ⊢
  obtain ⟨h2, b2, e2, g2⟩ := (backD (d := x.prev) hx.2) _ h
  obtain ⟨h1, b1, e1, g1⟩ := (backD (d := x.root) hx.1) _ h2
  obtain ⟨h0, b0, e0, g0⟩ := (backN x.ep) _ h1
  refine ⟨h0, b0 ++ (b1 ++ (b2)), by rw [e2, e1, e0]; simp only [List.append_assoc], fun t => ?_⟩
  unfold gH
  simp only [List.append_assoc]
  rw [g0, Option.bind_some]
  simp only []
  rw [g1, Option.bind_some]
  simp only []
  rw [g2, Option.bind_some]
theorem back_signed {x : Sg} (hx : x.ok) : Back loS gS (fun x => x) x := by
  intro o h
  unfold loS at h ⊢
  obtain ⟨h1, b1, e1, g1⟩ := (backD (d := x.sign) hx.2) _ h
  obtain ⟨h0, b0, e0, g0⟩ := (back_head (x := x.hd) hx.1) _ h1
  refine ⟨h0, b0 ++ (b1), by rw [e1, e0]; simp only [List.append_assoc], fun t => ?_⟩
  unfold gS
  simp only [List.append_assoc]
  rw [g0, Option.bind_some]
  simp only []
  rw [g1, Option.bind_some]
theorem back_command {x : Cm} (hx : x.ok) : Back loC gC (fun x => x) x := by
  intro o h
  unfold loC at h ⊢
  obtain ⟨h6, b6, e6, g6⟩ := (backD (d := x.root) hx) _ h
  obtain ⟨h5, b5, e5, g5⟩ := (backN x.ep) _ h6
  obtain ⟨h4, b4, e4, g4⟩ := (backT x.ky) _ h5
  obtain ⟨h3, b3, e3, g3⟩ := (backT x.us) _ h4
  obtain ⟨h2, b2, e2, g2⟩ := (backN x.sq) _ h3
  obtain ⟨h1, b1, e1, g1⟩ := (backN x.cl) _ h2
  obtain ⟨h0, b0, e0, g0⟩ := (backN x.kd) _ h1
  refine ⟨h0, b0 ++ (b1 ++ (b2 ++ (b3 ++ (b4 ++ (b5 ++ (b6)))))), by rw [e6, e5, e4, e3, e2, e1, e0]; simp only [List.append_assoc], fun t => ?_⟩
  unfold gC
  simp only [List.append_assoc]
  rw [g0, Option.bind_some]
  simp only []
  rw [g1, Option.bind_some]
  simp only []
  rw [g2, Option.bind_some]
  simp only []
  rw [g3, Option.bind_some]
  simp only []
  rw [g4, Option.bind_some]
  simp only []
  rw [g5, Option.bind_some]
  simp only []
  rw [g6, Option.bind_some]
theorem back_version {x : Vn} (_hx : x.ok) : Back loV gV (fun x => x) x := by
  intro o h
  unfold loV at h ⊢
  obtain ⟨h2, b2, e2, g2⟩ := (backT x.key) _ h
  obtain ⟨h1, b1, e1, g1⟩ := (backN x.kd) _ h2
  obtain ⟨h0, b0, e0, g0⟩ := (backN x.ep) _ h1
  refine ⟨h0, b0 ++ (b1 ++ (b2)), by rw [e2, e1, e0]; simp only [List.append_assoc], fun t => ?_⟩
  unfold gV
  simp only [List.append_assoc]
  rw [g0, Option.bind_some]
  simp only []
  rw [g1, Option.bind_some]
  simp only []
  rw [g2, Option.bind_some]
theorem back_session {x : Se} (_hx : x.ok) : Back loSe gSe (fun x => x) x := by
  intro o h
  unfold loSe at h ⊢
  obtain ⟨h3, b3, e3, g3⟩ := (backN x.ep) _ h
  obtain ⟨h2, b2, e2, g2⟩ := (backN x.cd) _ h3
  obtain ⟨h1, b1, e1, g1⟩ := (backN x.sq) _ h2
  obtain ⟨h0, b0, e0, g0⟩ := (backN x.cl) _ h1
  refine ⟨h0, b0 ++ (b1 ++ (b2 ++ (b3))), by rw [e3, e2, e1, e0]; simp only [List.append_assoc], fun t => ?_⟩
  unfold gSe
  simp only [List.append_assoc]
  rw [g0, Option.bind_some]
  simp only []
  rw [g1, Option.bind_some]
  simp only []
  rw [g2, Option.bind_some]
  simp only []
  rw [g3, Option.bind_some]
theorem back_council {x : Co} (_hx : x.ok) : Back loCo gCo Co.cl x := by
  intro o h
  unfold loCo at h ⊢
  obtain ⟨h1, b1, e1, g1⟩ := (backL (l := x.l) (fun y _ => backN y)) _ h
  obtain ⟨h0, b0, e0, g0⟩ := (backL (l := x.v) (fun y _ => backN y)) _ h1
  refine ⟨h0, b0 ++ (b1), by rw [e1, e0]; simp only [List.append_assoc], fun t => ?_⟩
  unfold gCo
  simp only [List.append_assoc]
  rw [g0, Option.bind_some]
  simp only []
  rw [g1, Option.bind_some]
  simp only [Co.cl, List.map_id']
theorem back_entry {x : En} (hx : x.ok) : Back loE gE En.cl x := by
  intro o h
  unfold loE at h ⊢
  obtain ⟨h4, b4, e4, g4⟩ := (back_council (x := x.co) trivial) _ h
  obtain ⟨h3, b3, e3, g3⟩ := (back_command (x := x.cm) hx) _ h4
  obtain ⟨h2, b2, e2, g2⟩ := (backN x.kd) _ h3
  obtain ⟨h1, b1, e1, g1⟩ := (backN x.te) _ h2
  obtain ⟨h0, b0, e0, g0⟩ := (backN x.ix) _ h1
  refine ⟨h0, b0 ++ (b1 ++ (b2 ++ (b3 ++ (b4)))), by rw [e4, e3, e2, e1, e0]; simp only [List.append_assoc], fun t => ?_⟩
  unfold gE
  simp only [List.append_assoc]
  rw [g0, Option.bind_some]
  simp only []
  rw [g1, Option.bind_some]
  simp only []
  rw [g2, Option.bind_some]
  simp only []
  rw [g3, Option.bind_some]
  simp only []
  rw [g4, Option.bind_some]
  simp only [En.cl]
theorem back_snapshot {x : Sn} (_hx : x.ok) : Back loSn gSn Sn.cl x := by
  intro o h
  unfold loSn at h ⊢
  obtain ⟨h3, b3, e3, g3⟩ := (backT x.da) _ h
  obtain ⟨h2, b2, e2, g2⟩ := (back_council (x := x.co) trivial) _ h3
  obtain ⟨h1, b1, e1, g1⟩ := (backN x.te) _ h2
  obtain ⟨h0, b0, e0, g0⟩ := (backN x.ix) _ h1
  refine ⟨h0, b0 ++ (b1 ++ (b2 ++ (b3))), by rw [e3, e2, e1, e0]; simp only [List.append_assoc], fun t => ?_⟩
  unfold gSn
  simp only [List.append_assoc]
  rw [g0, Option.bind_some]
  simp only []
  rw [g1, Option.bind_some]
  simp only []
  rw [g2, Option.bind_some]
  simp only []
  rw [g3, Option.bind_some]
  simp only [Sn.cl]
theorem back_record {x : Re} (hx : x.ok) : Back loR gR Re.cl x := by
  intro o h
  unfold loR at h ⊢
  obtain ⟨h6, b6, e6, g6⟩ := (back_signed (x := x.sg) hx.2) _ h
  obtain ⟨h5, b5, e5, g5⟩ := (back_snapshot (x := x.sn) trivial) _ h6
  obtain ⟨h4, b4, e4, g4⟩ := (backN x.ix) _ h5
  obtain ⟨h3, b3, e3, g3⟩ := (back_entry (x := x.en) hx.1) _ h4
  obtain ⟨h2, b2, e2, g2⟩ := (backN x.vo) _ h3
  obtain ⟨h1, b1, e1, g1⟩ := (backN x.te) _ h2
  obtain ⟨h0, b0, e0, g0⟩ := (backN x.kd) _ h1
  refine ⟨h0, b0 ++ (b1 ++ (b2 ++ (b3 ++ (b4 ++ (b5 ++ (b6)))))), by rw [e6, e5, e4, e3, e2, e1, e0]; simp only [List.append_assoc], fun t => ?_⟩
  unfold gR
  simp only [List.append_assoc]
  rw [g0, Option.bind_some]
  simp only []
  rw [g1, Option.bind_some]
  simp only []
  rw [g2, Option.bind_some]
  simp only []
  rw [g3, Option.bind_some]
  simp only []
  rw [g4, Option.bind_some]
  simp only []
  rw [g5, Option.bind_some]
  simp only []
  rw [g6, Option.bind_some]
  simp only [Re.cl]
theorem back_user {x : Ux} (_hx : x.ok) : Back loU gU Ux.cl x := by
  intro o h
  unfold loU at h ⊢
  obtain ⟨h1, b1, e1, g1⟩ := (backL (l := x.vs) (fun y hy => back_version (x := y) trivial)) _ h
  obtain ⟨h0, b0, e0, g0⟩ := (backT x.nm) _ h1
  refine ⟨h0, b0 ++ (b1), by rw [e1, e0]; simp only [List.append_assoc], fun t => ?_⟩
  unfold gU
  simp only [List.append_assoc]
  rw [g0, Option.bind_some]
  simp only []
  rw [g1, Option.bind_some]
  simp only [Ux.cl, List.map_id']
theorem back_directory {x : Di} (hx : x.ok) : Back loDi gDi Di.cl x := by
  intro o h
  unfold loDi at h ⊢
  obtain ⟨h3, b3, e3, g3⟩ := (backL (l := x.ss) (fun y hy => back_session (x := y) trivial)) _ h
  obtain ⟨h2, b2, e2, g2⟩ := (backL (l := x.hs) (fun y hy => back_head (x := y) (hx y hy))) _ h3
  obtain ⟨h1, b1, e1, g1⟩ := (backL (l := x.us) (fun y hy => back_user (x := y) trivial)) _ h2
  obtain ⟨h0, b0, e0, g0⟩ := (backN x.ep) _ h1
  refine ⟨h0, b0 ++ (b1 ++ (b2 ++ (b3))), by rw [e3, e2, e1, e0]; simp only [List.append_assoc], fun t => ?_⟩
  unfold gDi
  simp only [List.append_assoc]
  rw [g0, Option.bind_some]
  simp only []
  rw [g1, Option.bind_some]
  simp only []
  rw [g2, Option.bind_some]
  simp only []
  rw [g3, Option.bind_some]
  simp only [Di.cl, List.map_id']

/-- what is read is ok, and is laid as the bytes that were read -/
def Fwd {α : Type} (lo : α → Lo → Lo) (g : List UInt8 → Option (α × List UInt8)) (ok : α → Prop) : Prop :=
  ∀ l x t, g l = some (x, t) → ok x ∧ ∃ b, l = b ++ t ∧ ∀ q, lo x (0, q) = (0, q ++ b)
theorem fwdN : Fwd loN gN (fun _ => True) := fun l m t h => by
  unfold gN at h
  split at h
  · rename_i h0
    obtain ⟨N, y, z, hc⟩ : ∃ N y z, cnt 0 0 l = (N, y, z) := ⟨_, _, _, rfl⟩
    rw [hc] at h0 h
    simp only at h0 h
    subst h0
    obtain ⟨rfl, rfl⟩ := Prod.mk.inj (Option.some.inj h)
    have hl : N ≤ 2147483647 := by have := (cnt_le l 0 0 (by decide)).2.2.1; rw [hc] at this; exact this
    obtain ⟨h1, h2⟩ := cnt_back0 _ _ _ hc
    refine ⟨trivial, encC N, by rw [← h1, List.take_append_drop], fun q => ?_⟩
    rw [loN_ok q (by omega) (by omega)]
    simp
  · cases h
theorem fwdT : Fwd loT gT (fun _ => True) := fun l s t h => by
  unfold gT at h
  split at h
  · rename_i h0
    obtain ⟨N, y, z, hc⟩ : ∃ N y z, rdB l = (N, y, z) := ⟨_, _, _, rfl⟩
    rw [hc] at h0 h
    simp only at h0 h
    subst h0
    obtain ⟨rfl, rfl⟩ := Prod.mk.inj (Option.some.inj h)
    obtain ⟨h1, h2, h3⟩ := rdB_back _ _ _ hc
    refine ⟨trivial, encC N.length ++ N, by rw [h1, List.take_append_drop], fun q => ?_⟩
    unfold loT
    rw [if_neg (by simp), if_pos (by simpa [ByteArray.size] using h3)]
    simp [ByteArray.size]
  · cases h
theorem fwdD : Fwd loD gD (fun d => d.length = 32) := fun l d t h => by
  unfold gD at h
  split at h
  · rename_i h0
    obtain ⟨rfl, rfl⟩ := Prod.mk.inj (Option.some.inj h)
    exact ⟨by simp; omega, l.take 32, by rw [List.take_append_drop], fun q => loD_ok _ q⟩
  · cases h
theorem fwd_many {α : Type} {lo : α → Lo → Lo} {g : List UInt8 → Option (α × List UInt8)} {ok : α → Prop} (hf : Fwd lo g ok) :
    ∀ (n : Nat) (l : List UInt8) (xs : List α) (t : List UInt8), manyG g n l = some (xs, t) → xs.length = n ∧ (∀ x ∈ xs, ok x) ∧ ∃ b, l = b ++ t ∧ ∀ q, xs.foldl (fun o x => lo x o) (0, q) = (0, q ++ b) := by
  intro n
  induction n with
  | zero =>
    intro l xs t h
    obtain ⟨rfl, rfl⟩ := Prod.mk.inj (Option.some.inj h)
    exact ⟨rfl, fun x hx => by simp at hx, [], by simp, fun q => by simp⟩
  | succ n ih =>
    intro l xs t h
    simp only [manyG, Option.bind_eq_some_iff] at h
    obtain ⟨p, hp, q, hq, h⟩ := h
    obtain ⟨rfl, rfl⟩ := Prod.mk.inj (Option.some.inj h)
    obtain ⟨h1, h2, b1, e1, f1⟩ := ih _ _ _ hp
    obtain ⟨h3, b2, e2, f2⟩ := hf _ _ _ hq
    refine ⟨by simp [h1], fun x hx => ?_, b1 ++ b2, by rw [e1, e2, List.append_assoc], fun q0 => ?_⟩
    · rcases List.mem_append.1 hx with hx | hx
      · exact h2 x hx
      · simp only [List.mem_singleton] at hx; subst hx; exact h3
    · rw [List.foldl_append, f1]
      show lo q.1 (0, q0 ++ b1) = _
      rw [f2, List.append_assoc]
theorem fwdL {α : Type} {lo : α → Lo → Lo} {g : List UInt8 → Option (α × List UInt8)} {ok : α → Prop} (hf : Fwd lo g ok) : Fwd (loL lo) (gL g) (fun xs => ∀ x ∈ xs, ok x) := fun l xs t h => by
  unfold gL at h
  rw [Option.bind_eq_some_iff] at h
  obtain ⟨p, hp, h⟩ := h
  split at h
  · cases h
  · rename_i h4
    obtain ⟨m, s⟩ := p
    obtain ⟨_, b0, e0, f0⟩ := fwdN _ _ _ hp
    obtain ⟨h1, h2, b, e, f⟩ := fwd_many hf _ _ _ _ h
    simp only at h4 e h1
    have hm : 0 ≤ m := by
      have := f0 []
      unfold loN at this
      rw [if_neg (by simp)] at this
      split at this
      · rename_i h5; exact h5.1
      · simp at this
    have hlen : (xs.length : Int) = m := by omega
    refine ⟨h2, b0 ++ b, by rw [e0, e, List.append_assoc], fun q => ?_⟩
    unfold loL
    rw [if_neg (by simp), if_neg (by omega), hlen, f0, f, List.append_assoc]

/-- what is read is read with anything behind it -/
theorem mono_of {α : Type} {lo : α → Lo → Lo} {g : List UInt8 → Option (α × List UInt8)} {ok : α → Prop} {cl : α → α} (hf : Fwd lo g ok) (hb : ∀ x, ok x → Back lo g cl x) {l t : List UInt8} {x : α} (h : g l = some (x, t)) (s : List UInt8) : g (l ++ s) = some (x, t ++ s) := by
  obtain ⟨h1, b, e, f⟩ := hf _ _ _ h
  have f0 := f []
  obtain ⟨_, b', e', g'⟩ := hb x h1 (0, []) (by rw [f0])
  rw [f0] at e'
  simp only [List.nil_append] at e'
  subst e'
  have h2 := g' t
  rw [← e, h] at h2
  obtain ⟨h3, _⟩ := Prod.mk.inj (Option.some.inj h2)
  rw [e, List.append_assoc, g', ← h3]
/-- without its last byte nothing whole is read -/
theorem cut_of {α : Type} {lo : α → Lo → Lo} {g : List UInt8 → Option (α × List UInt8)} {ok : α → Prop} {cl : α → α} (hf : Fwd lo g ok) (hb : ∀ x, ok x → Back lo g cl x) {l s : List UInt8} {x y : α} (hs : s ≠ []) (h : g (l ++ s) = some (x, [])) : g l ≠ some (y, []) := fun e => by
  have := mono_of hf hb e s
  rw [h] at this
  simp only [Option.some.injEq, Prod.mk.injEq, List.nil_append] at this
  exact hs this.2.symm
theorem fwd_head : Fwd loH gH Hd.ok := fun l x t h => by
  simp only [gH, Option.bind_eq_some_iff] at h
  obtain ⟨p0, g0, p1, g1, p2, g2, h⟩ := h
  obtain ⟨rfl, rfl⟩ := Prod.mk.inj (Option.some.inj h)
  obtain ⟨k0, b0, e0, f0⟩ := (fwdN) _ _ _ g0
  obtain ⟨k1, b1, e1, f1⟩ := (fwdD) _ _ _ g1
  obtain ⟨k2, b2, e2, f2⟩ := (fwdD) _ _ _ g2
  refine ⟨⟨k1, k2⟩, b0 ++ (b1 ++ (b2)), by rw [e0, e1, e2]; simp only [List.append_assoc], fun q => ?_⟩
  unfold loH
  simp only [f0, f1, f2, List.append_assoc]
theorem fwd_signed : Fwd loS gS Sg.ok := fun l x t h => by
  simp only [gS, Option.bind_eq_some_iff] at h
  obtain ⟨p0, g0, p1, g1, h⟩ := h
  obtain ⟨rfl, rfl⟩ := Prod.mk.inj (Option.some.inj h)
  obtain ⟨k0, b0, e0, f0⟩ := (fwd_head) _ _ _ g0
  obtain ⟨k1, b1, e1, f1⟩ := (fwdD) _ _ _ g1
  refine ⟨⟨k0, k1⟩, b0 ++ (b1), by rw [e0, e1]; simp only [List.append_assoc], fun q => ?_⟩
  unfold loS
  simp only [f0, f1, List.append_assoc]
theorem fwd_command : Fwd loC gC Cm.ok := fun l x t h => by
  simp only [gC, Option.bind_eq_some_iff] at h
  obtain ⟨p0, g0, p1, g1, p2, g2, p3, g3, p4, g4, p5, g5, p6, g6, h⟩ := h
  obtain ⟨rfl, rfl⟩ := Prod.mk.inj (Option.some.inj h)
  obtain ⟨k0, b0, e0, f0⟩ := (fwdN) _ _ _ g0
  obtain ⟨k1, b1, e1, f1⟩ := (fwdN) _ _ _ g1
  obtain ⟨k2, b2, e2, f2⟩ := (fwdN) _ _ _ g2
  obtain ⟨k3, b3, e3, f3⟩ := (fwdT) _ _ _ g3
  obtain ⟨k4, b4, e4, f4⟩ := (fwdT) _ _ _ g4
  obtain ⟨k5, b5, e5, f5⟩ := (fwdN) _ _ _ g5
  obtain ⟨k6, b6, e6, f6⟩ := (fwdD) _ _ _ g6
  refine ⟨k6, b0 ++ (b1 ++ (b2 ++ (b3 ++ (b4 ++ (b5 ++ (b6)))))), by rw [e0, e1, e2, e3, e4, e5, e6]; simp only [List.append_assoc], fun q => ?_⟩
  unfold loC
  simp only [f0, f1, f2, f3, f4, f5, f6, List.append_assoc]
theorem fwd_version : Fwd loV gV Vn.ok := fun l x t h => by
  simp only [gV, Option.bind_eq_some_iff] at h
  obtain ⟨p0, g0, p1, g1, p2, g2, h⟩ := h
  obtain ⟨rfl, rfl⟩ := Prod.mk.inj (Option.some.inj h)
  obtain ⟨k0, b0, e0, f0⟩ := (fwdN) _ _ _ g0
  obtain ⟨k1, b1, e1, f1⟩ := (fwdN) _ _ _ g1
  obtain ⟨k2, b2, e2, f2⟩ := (fwdT) _ _ _ g2
  refine ⟨trivial, b0 ++ (b1 ++ (b2)), by rw [e0, e1, e2]; simp only [List.append_assoc], fun q => ?_⟩
  unfold loV
  simp only [f0, f1, f2, List.append_assoc]
theorem fwd_session : Fwd loSe gSe Se.ok := fun l x t h => by
  simp only [gSe, Option.bind_eq_some_iff] at h
  obtain ⟨p0, g0, p1, g1, p2, g2, p3, g3, h⟩ := h
  obtain ⟨rfl, rfl⟩ := Prod.mk.inj (Option.some.inj h)
  obtain ⟨k0, b0, e0, f0⟩ := (fwdN) _ _ _ g0
  obtain ⟨k1, b1, e1, f1⟩ := (fwdN) _ _ _ g1
  obtain ⟨k2, b2, e2, f2⟩ := (fwdN) _ _ _ g2
  obtain ⟨k3, b3, e3, f3⟩ := (fwdN) _ _ _ g3
  refine ⟨trivial, b0 ++ (b1 ++ (b2 ++ (b3))), by rw [e0, e1, e2, e3]; simp only [List.append_assoc], fun q => ?_⟩
  unfold loSe
  simp only [f0, f1, f2, f3, List.append_assoc]
theorem fwd_council : Fwd loCo gCo Co.ok := fun l x t h => by
  simp only [gCo, Option.bind_eq_some_iff] at h
  obtain ⟨p0, g0, p1, g1, h⟩ := h
  obtain ⟨rfl, rfl⟩ := Prod.mk.inj (Option.some.inj h)
  obtain ⟨k0, b0, e0, f0⟩ := (fwdL fwdN) _ _ _ g0
  obtain ⟨k1, b1, e1, f1⟩ := (fwdL fwdN) _ _ _ g1
  refine ⟨trivial, b0 ++ (b1), by rw [e0, e1]; simp only [List.append_assoc], fun q => ?_⟩
  unfold loCo
  simp only [f0, f1, List.append_assoc]
theorem fwd_entry : Fwd loE gE En.ok := fun l x t h => by
  simp only [gE, Option.bind_eq_some_iff] at h
  obtain ⟨p0, g0, p1, g1, p2, g2, p3, g3, p4, g4, h⟩ := h
  obtain ⟨rfl, rfl⟩ := Prod.mk.inj (Option.some.inj h)
  obtain ⟨k0, b0, e0, f0⟩ := (fwdN) _ _ _ g0
  obtain ⟨k1, b1, e1, f1⟩ := (fwdN) _ _ _ g1
  obtain ⟨k2, b2, e2, f2⟩ := (fwdN) _ _ _ g2
  obtain ⟨k3, b3, e3, f3⟩ := (fwd_command) _ _ _ g3
  obtain ⟨k4, b4, e4, f4⟩ := (fwd_council) _ _ _ g4
  refine ⟨k3, b0 ++ (b1 ++ (b2 ++ (b3 ++ (b4)))), by rw [e0, e1, e2, e3, e4]; simp only [List.append_assoc], fun q => ?_⟩
  unfold loE
  simp only [f0, f1, f2, f3, f4, List.append_assoc]
theorem fwd_snapshot : Fwd loSn gSn Sn.ok := fun l x t h => by
  simp only [gSn, Option.bind_eq_some_iff] at h
  obtain ⟨p0, g0, p1, g1, p2, g2, p3, g3, h⟩ := h
  obtain ⟨rfl, rfl⟩ := Prod.mk.inj (Option.some.inj h)
  obtain ⟨k0, b0, e0, f0⟩ := (fwdN) _ _ _ g0
  obtain ⟨k1, b1, e1, f1⟩ := (fwdN) _ _ _ g1
  obtain ⟨k2, b2, e2, f2⟩ := (fwd_council) _ _ _ g2
  obtain ⟨k3, b3, e3, f3⟩ := (fwdT) _ _ _ g3
  refine ⟨trivial, b0 ++ (b1 ++ (b2 ++ (b3))), by rw [e0, e1, e2, e3]; simp only [List.append_assoc], fun q => ?_⟩
  unfold loSn
  simp only [f0, f1, f2, f3, List.append_assoc]
theorem fwd_record : Fwd loR gR Re.ok := fun l x t h => by
  simp only [gR, Option.bind_eq_some_iff] at h
  obtain ⟨p0, g0, p1, g1, p2, g2, p3, g3, p4, g4, p5, g5, p6, g6, h⟩ := h
  obtain ⟨rfl, rfl⟩ := Prod.mk.inj (Option.some.inj h)
  obtain ⟨k0, b0, e0, f0⟩ := (fwdN) _ _ _ g0
  obtain ⟨k1, b1, e1, f1⟩ := (fwdN) _ _ _ g1
  obtain ⟨k2, b2, e2, f2⟩ := (fwdN) _ _ _ g2
  obtain ⟨k3, b3, e3, f3⟩ := (fwd_entry) _ _ _ g3
  obtain ⟨k4, b4, e4, f4⟩ := (fwdN) _ _ _ g4
  obtain ⟨k5, b5, e5, f5⟩ := (fwd_snapshot) _ _ _ g5
  obtain ⟨k6, b6, e6, f6⟩ := (fwd_signed) _ _ _ g6
  refine ⟨⟨k3, k6⟩, b0 ++ (b1 ++ (b2 ++ (b3 ++ (b4 ++ (b5 ++ (b6)))))), by rw [e0, e1, e2, e3, e4, e5, e6]; simp only [List.append_assoc], fun q => ?_⟩
  unfold loR
  simp only [f0, f1, f2, f3, f4, f5, f6, List.append_assoc]
theorem fwd_user : Fwd loU gU Ux.ok := fun l x t h => by
  simp only [gU, Option.bind_eq_some_iff] at h
  obtain ⟨p0, g0, p1, g1, h⟩ := h
  obtain ⟨rfl, rfl⟩ := Prod.mk.inj (Option.some.inj h)
  obtain ⟨k0, b0, e0, f0⟩ := (fwdT) _ _ _ g0
  obtain ⟨k1, b1, e1, f1⟩ := (fwdL fwd_version) _ _ _ g1
  refine ⟨trivial, b0 ++ (b1), by rw [e0, e1]; simp only [List.append_assoc], fun q => ?_⟩
  unfold loU
  simp only [f0, f1, List.append_assoc]
theorem fwd_directory : Fwd loDi gDi Di.ok := fun l x t h => by
  simp only [gDi, Option.bind_eq_some_iff] at h
  obtain ⟨p0, g0, p1, g1, p2, g2, p3, g3, h⟩ := h
  obtain ⟨rfl, rfl⟩ := Prod.mk.inj (Option.some.inj h)
  obtain ⟨k0, b0, e0, f0⟩ := (fwdN) _ _ _ g0
  obtain ⟨k1, b1, e1, f1⟩ := (fwdL fwd_user) _ _ _ g1
  obtain ⟨k2, b2, e2, f2⟩ := (fwdL fwd_head) _ _ _ g2
  obtain ⟨k3, b3, e3, f3⟩ := (fwdL fwd_session) _ _ _ g3
  refine ⟨k2, b0 ++ (b1 ++ (b2 ++ (b3))), by rw [e0, e1, e2, e3]; simp only [List.append_assoc], fun q => ?_⟩
  unfold loDi
  simp only [f0, f1, f2, f3, List.append_assoc]

end Go.Proofs.YtoclahcibilbhaaGreat
