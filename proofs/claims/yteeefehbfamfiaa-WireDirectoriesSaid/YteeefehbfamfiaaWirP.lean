/-
  What Put and Get of all kinds share; signed heads, commands.
-/
import Derived.Test.YteeefehbfamfiaaWirE1
import Derived.Test.YteeefehbfamfiaaLibO
namespace Go.Proofs.Yteeefehbfamfiaa
open Go.RowKit
set_option maxRecDepth 100000

theorem coder_info : (Try.prog.info? 99).map (fun i => (i.zero, i.size)) = some (some (.agg #[.pointer none, .slice none 0 0]), 2) := by kernel_rfl
theorem built_coder (r : Nat) : Try.prog.built 99 [(0, .pointer (some ⟨r, 0, none⟩))] = some ([.pointer (some ⟨r, 0, none⟩), .slice none 0 0] : List Value).toArray := by kernel_rfl
theorem one_app {A B : List Value} (h : ∀ v ∈ A, v.oneCell' = true) (k : ∀ v ∈ B, v.oneCell' = true) : ∀ v ∈ A ++ B, v.oneCell' = true := fun v hv => (List.mem_append.1 hv).elim (h v) (k v)
theorem one_1 {a : Value} (h : a.oneCell' = true) : ∀ v ∈ [a], v.oneCell' = true := fun v hv => by
  simp only [List.mem_singleton] at hv
  subst hv; exact h

/-- what a put hands back: what is laid, or the error -/
def PutP (w : World) (o : Lo) (e : Ending) (w' : World) : Prop :=
  ∃ v, e = .returned (.tuple #[v, .int .i64 o.1]) ∧ Own w' w.heap.size v (if o.1 = 0 then o.2 else []) ∧ Below w.heap.size w w'
theorem PutP.ok {w w' : World} {o : Lo} {v : Value} (h : 0 = o.1) (hO : Own w' w.heap.size v o.2) (hB : Below w.heap.size w w') : PutP w o (.returned (.tuple #[v, .int .i64 0])) w' :=
  ⟨v, by rw [← h], by rw [← h, if_pos rfl]; exact hO, hB⟩
theorem PutP.no {w w' : World} {o : Lo} {x : Int} (h : x = o.1) (h0 : x ≠ 0) (hB : Below w.heap.size w w') : PutP w o (.returned (.tuple #[.slice none 0 0, .int .i64 x])) w' :=
  ⟨_, by rw [← h], by rw [← h, if_neg h0]; exact Own.nil0 _ _, hB⟩

set_option maxHeartbeats 1000000 in
/-- New, and where the bytes lie then: in a row of the call's own -/
theorem new_own (w : World) (a : Option Addr) (n c : Nat) (l : List UInt8) (hr : Rd w a n c l) (hn : n ≤ 70000000000000) :
    Calls Try.prog 51 #[.slice a n c] w fun e w' => ∃ r a' c', e = .returned (.pointer (some ⟨r, 0, none⟩)) ∧ w.heap.size ≤ r ∧ r < w'.heap.size ∧ Blk w' r 157 [.slice a' n c'] ∧ Own w' w.heap.size (.slice a' n c') l ∧ Below w.heap.size w w' := by
  go_enter Try.func51, Try.ntmps51
  go_wp2_with fail
  refine (roomy_own w a n c l 0 hr (by omega) (by omega) (by omega)).mono ?_
  rintro e w1 ⟨a1, c1, rfl, hO1, hB1⟩
  go_wp2_with fail
  go_ret
  have hB2 : Below w1.heap.size w1 (w1.alloc (.cells #[.slice a1 n c1] 157)) := (Below.refl _ _).alloc (Nat.le_refl _) _
  exact ⟨w1.heap.size, a1, c1, rfl, hB1.size, by simp, Blk.new w1 _ _, hO1.below hB2, Bt hB1 hB2⟩
theorem gD_len {l d l' : List UInt8} (h : gD l = some (d, l')) : d.length = 32 := by
  unfold gD at h
  split at h
  · simp only [Option.some.injEq, Prod.mk.injEq] at h; rw [← h.1]; simp; omega
  · cases h
def sg0 : Sg := ⟨hd0, zero32⟩
theorem sg0_ok : sg0.ok := ⟨hd0_ok, zero32_length⟩
theorem sg0_info : (Try.prog.info? 50).map (fun i => (i.zero, i.size)) = some (some (.agg (sgc sg0).toArray), 97) := by kernel_rfl
theorem info_signed : (Try.prog.info? 50).map (·.size) = some 97 := by kernel_rfl
theorem sgc_one (x : Sg) : ∀ v ∈ sgc x, v.oneCell' = true := (one_app (hdc_one _) (bs_one _))
def cm0 : Cm := ⟨0, 0, 0, ByteArray.empty, ByteArray.empty, 0, zero32⟩
theorem cm0_ok : cm0.ok := zero32_length
theorem cm0_info : (Try.prog.info? 27).map (fun i => (i.zero, i.size)) = some (some (.agg (cmc cm0).toArray), 38) := by kernel_rfl
theorem info_command : (Try.prog.info? 27).map (·.size) = some 38 := by kernel_rfl
theorem cmc_one (x : Cm) : ∀ v ∈ cmc x, v.oneCell' = true := by
  intro v hv
  simp only [cmc, List.mem_cons] at hv
  rcases hv with rfl | rfl | rfl | rfl | rfl | rfl | h
  all_goals first | rfl | exact bs_one _ v h

/-- what a get makes of bytes -/
def gSg (l : List UInt8) : Sg × Int := match gS l with
  | some (x, []) => (x, 0)
  | _ => (sg0, 60)

def GetP_signed (w : World) (l : List UInt8) (e : Ending) (w' : World) : Prop :=
  e = .returned (.tuple #[.agg (sgc (gSg l).1).toArray, .int .i64 (gSg l).2]) ∧ Below w.heap.size w w'

theorem gSg_ok (l : List UInt8) : (gSg l).1.ok := by
  unfold gSg
  split
  · rename_i x h
    simp only [gS, gH, Option.bind_eq_some_iff] at h
    obtain ⟨p0, ⟨p1, h1, p2, h2, p3, h3, h4⟩, p5, h5, h6⟩ := h
    simp only [Option.some.injEq, Prod.mk.injEq] at h4 h6
    obtain ⟨rfl, _⟩ := h6
    subst h4
    exact ⟨⟨gD_len h2, gD_len h3⟩, gD_len h5⟩
  · exact sg0_ok

/-- what a get makes of bytes -/
def gCm (l : List UInt8) : Cm × Int := match gC l with
  | some (x, []) => (x, 0)
  | _ => (cm0, 60)

def GetP_command (w : World) (l : List UInt8) (e : Ending) (w' : World) : Prop :=
  e = .returned (.tuple #[.agg (cmc (gCm l).1).toArray, .int .i64 (gCm l).2]) ∧ Below w.heap.size w w'

theorem gCm_ok (l : List UInt8) : (gCm l).1.ok := by
  unfold gCm
  split
  · rename_i x h
    simp only [gC, Option.bind_eq_some_iff] at h
    obtain ⟨p0, h0, p1, h1, p2, h2, p3, h3, p4, h4, p5, h5, p6, h6, h7⟩ := h
    simp only [Option.some.injEq, Prod.mk.injEq] at h7
    obtain ⟨rfl, _⟩ := h7
    exact gD_len h6
  · exact cm0_ok

end Go.Proofs.Yteeefehbfamfiaa
