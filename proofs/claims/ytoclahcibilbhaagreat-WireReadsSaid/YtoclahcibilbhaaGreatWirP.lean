/-
  What Put and Get of all kinds share; signed heads, commands.
-/
import Derived.Test.YtoclahcibilbhaaGreatWirE1
import Derived.Test.YtoclahcibilbhaaGreatLibO
namespace Go.Proofs.YtoclahcibilbhaaGreat
open Go.RowKit
set_option maxRecDepth 100000

theorem coder_info : (Tryz.prog.info? 107).map (fun i => (i.zero, i.size)) = some (some (.agg #[.pointer none, .slice none 0 0]), 2) := by kernel_rfl
theorem built_coder (r : Nat) : Tryz.prog.built 107 [(0, .pointer (some ⟨r, 0, none⟩))] = some ([.pointer (some ⟨r, 0, none⟩), .slice none 0 0] : List Value).toArray := by kernel_rfl
theorem one_app {A B : List Value} (h : ∀ v ∈ A, v.oneCell' = true) (k : ∀ v ∈ B, v.oneCell' = true) : ∀ v ∈ A ++ B, v.oneCell' = true := fun v hv => (List.mem_append.1 hv).elim (h v) (k v)
theorem one_1 {a : Value} (h : a.oneCell' = true) : ∀ v ∈ [a], v.oneCell' = true := fun v hv => by
  simp only [List.mem_singleton] at hv
  subst hv; exact h

/-- what a put hands back: what is laid, or the error -/
def PutP (w : World) (o : Lo) (e : Ending) (w' : World) : Prop :=
  ∃ v, e = .returned (.tuple #[v, .int .i64 o.1]) ∧ Own w' w.heap.size v (if o.1 = 0 then o.2 else []) ∧ Below w.heap.size w w'
theorem PutP.ok {w w' : World} {o : Lo} {v : Value} (h : 0 = o.1) (hO : Own w' w.heap.size v o.2) (hB : Below w.heap.size w w') : PutP w o (.returned (.tuple #[v, .int .i64 0])) w' :=
  ⟨v, by rw [← h], by rw [← h, if_pos rfl]; exact hO, hB⟩
theorem PutP.no {w w' : World} {o : Lo} {x : Int} (h : x = o.1) (h0 : x ≠ 0) (hB : Below w.heap.size w w') : PutP w o (.returned (.tuple #[.slice none 0 0, .int .i64 x])) w' :=
  ⟨_, by rw [← h], by rw [← h, if_neg h0]; exact Own.nil0 _ _, hB⟩

set_option maxHeartbeats 1000000 in
/-- New, and where the bytes lie then: in a row of the call's own -/
theorem new_own (w : World) (a : Option Addr) (n c : Nat) (l : List UInt8) (hr : Rd w a n c l) (hn : n ≤ 70000000000000) :
    Calls Tryz.prog 51 #[.slice a n c] w fun e w' => ∃ r a' c', e = .returned (.pointer (some ⟨r, 0, none⟩)) ∧ w.heap.size ≤ r ∧ r < w'.heap.size ∧ Blk w' r 150 [.slice a' n c'] ∧ Own w' w.heap.size (.slice a' n c') l ∧ Below w.heap.size w w' := by
  go_enter Tryz.func51, Tryz.ntmps51
  go_wp2_with fail
  refine (roomy_own w a n c l 0 hr (by omega) (by omega) (by omega)).mono ?_
  rintro e w1 ⟨a1, c1, rfl, hO1, hB1⟩
  go_wp2_with fail
  go_ret
  have hB2 : Below w1.heap.size w1 (w1.alloc (.cells #[.slice a1 n c1] 150)) := (Below.refl _ _).alloc (Nat.le_refl _) _
  exact ⟨w1.heap.size, a1, c1, rfl, hB1.size, by simp, Blk.new w1 _ _, hO1.below hB2, Bt hB1 hB2⟩
theorem gD_len {l d l' : List UInt8} (h : gD l = some (d, l')) : d.length = 32 := by
  unfold gD at h
  split at h
  · simp only [Option.some.injEq, Prod.mk.injEq] at h; rw [← h.1]; simp; omega
  · cases h
def sg0 : Sg := ⟨hd0, zero32⟩
theorem sg0_ok : sg0.ok := ⟨hd0_ok, zero32_length⟩
theorem sg0_info : (Tryz.prog.info? 49).map (fun i => (i.zero, i.size)) = some (some (.agg (sgc sg0).toArray), 97) := by kernel_rfl
theorem info_signed : (Tryz.prog.info? 49).map (·.size) = some 97 := by kernel_rfl
theorem sgc_one (x : Sg) : ∀ v ∈ sgc x, v.oneCell' = true := (one_app (hdc_one _) (bs_one _))
def cm0 : Cm := ⟨0, 0, 0, ByteArray.empty, ByteArray.empty, 0, zero32⟩
theorem cm0_ok : cm0.ok := zero32_length
theorem cm0_info : (Tryz.prog.info? 27).map (fun i => (i.zero, i.size)) = some (some (.agg (cmc cm0).toArray), 38) := by kernel_rfl
theorem info_command : (Tryz.prog.info? 27).map (·.size) = some 38 := by kernel_rfl
theorem cmc_one (x : Cm) : ∀ v ∈ cmc x, v.oneCell' = true := by
  intro v hv
  simp only [cmc, List.mem_cons] at hv
  rcases hv with rfl | rfl | rfl | rfl | rfl | rfl | h
  all_goals first | rfl | exact bs_one _ v h

set_option maxHeartbeats 400000 in
theorem put1_signed (w : World) (F b X : Nat) (G : Int → World → Prop) (hF : w.cell? ⟨F, 0, none⟩ = some (.func (.func 43) #[] #[]))
    (hc : Calls Tryz.prog 43 #[.pointer (some ⟨b, 0, none⟩), .pointer (some ⟨X, 0, none⟩)] w fun e w' => ∃ err, Abt err e ∧ G err w') :
    Calls Tryz.prog 76 #[.pointer (some ⟨F, 0, none⟩), .pointer (some ⟨b, 0, none⟩), .pointer (some ⟨X, 0, none⟩)] w fun e w' => ∃ err, Abt err e ∧ G err w' := by
  go_enter Tryz.func76, Tryz.ntmps76
  go_wp2_with fail
  refine hc.mono ?_
  rintro e w' ⟨err, he, hG⟩
  rcases he with ⟨rfl, rfl⟩ | ⟨h0, rfl⟩
  · go_wp2
    go_end0
    exact ⟨0, Abt.ok, hG⟩
  · exact ⟨rfl, err, Abt.no h0, hG⟩

set_option maxHeartbeats 1000000 in
theorem put_signed (w : World) (x : Sg) (hx : x.ok) :
    Calls Tryz.prog 45 #[.agg (sgc x).toArray, .func (.func 43) #[] #[]] w (PutP w (loS x (0, []))) := by
  have hmf : ∀ (fn : Fn) (first cap : Array Value) (w : World), (Instr.makeFunc fn first cap).run Tryz.prog w = .ok (.func fn first cap) w := fun _ _ _ _ => rfl
  have HR := Lib.hid hx
  go_enter Tryz.func45, Tryz.ntmps45
  go_wp2_with fail
  have hX : Blk (((w.alloc (.cells (sgc x).toArray 49)).alloc (.cells #[.func (.func 43) #[] #[]] 88)).alloc (.cells #[.pointer none, .slice none 0 0] 107)) w.heap.size 49 (sgc x) := ((Blk.new w _ (sgc x)).alloc _).alloc _
  have hF : Blk (((w.alloc (.cells (sgc x).toArray 49)).alloc (.cells #[.func (.func 43) #[] #[]] 88)).alloc (.cells #[.pointer none, .slice none 0 0] 107)) (w.heap.size + 1) 88 [.func (.func 43) #[] #[]] := by
    have := (Blk.new (w.alloc (.cells (sgc x).toArray 49)) 88 [.func (.func 43) #[] #[]]).alloc (.cells #[.pointer none, .slice none 0 0] 107)
    simpa using this
  have hC : Blk (((w.alloc (.cells (sgc x).toArray 49)).alloc (.cells #[.func (.func 43) #[] #[]] 88)).alloc (.cells #[.pointer none, .slice none 0 0] 107)) (w.heap.size + 1 + 1) 107 [.pointer none, .slice none 0 0] := by
    have := Blk.new ((w.alloc (.cells (sgc x).toArray 49)).alloc (.cells #[.func (.func 43) #[] #[]] 88)) 107 [.pointer none, .slice none 0 0]
    simpa using this
  have hB : Below w.heap.size w (((w.alloc (.cells (sgc x).toArray 49)).alloc (.cells #[.func (.func 43) #[] #[]] 88)).alloc (.cells #[.pointer none, .slice none 0 0] 107)) :=
    (((Below.refl _ w).alloc (Nat.le_refl _) _).alloc (by simp) _).alloc (by simp; omega) _
  have hz : (((w.alloc (.cells (sgc x).toArray 49)).alloc (.cells #[.func (.func 43) #[] #[]] 88)).alloc (.cells #[.pointer none, .slice none 0 0] 107)).heap.size = w.heap.size + 1 + 1 + 1 := by simp
  generalize (((w.alloc (.cells (sgc x).toArray 49)).alloc (.cells #[.func (.func 43) #[] #[]] 88)).alloc (.cells #[.pointer none, .slice none 0 0] 107)) = w3 at hX hF hC hB hz ⊢
  have hX4 := hX.alloc (.cells #[.int .i64 0] 28)
  have hF4 := hF.alloc (.cells #[.int .i64 0] 28)
  have hC4 := hC.alloc (.cells #[.int .i64 0] 28)
  have hE4 := Blk.new w3 28 [.int .i64 0]
  have hz4 : (w3.alloc (.cells #[.int .i64 0] 28)).heap.size = w.heap.size + 1 + 1 + 1 + 1 := by simp [hz]
  have hB4 : Below w.heap.size w (w3.alloc (.cells #[.int .i64 0] 28)) := hB.alloc (by omega) _
  have HB4 := Lib.hid hB4
  have hCd : CdX (w3.alloc (.cells #[.int .i64 0] 28)) (w.heap.size + 1 + 1) (w.heap.size + 1 + 1 + 1 + 1) [] := ⟨0, none, 0, hC4, Own.nil0 _ _, by omega, by omega, rfl⟩
  have hin : ∀ W, Sem.run Tryz.prog (callFunc 76 #[.pointer (some ⟨w.heap.size + 1, 0, none⟩), .pointer (some ⟨w.heap.size + 1 + 1, 0, none⟩), .pointer (some ⟨w.heap.size, 0, none⟩)]) W = .ok (.enter 76 #[.pointer (some ⟨w.heap.size + 1, 0, none⟩), .pointer (some ⟨w.heap.size + 1 + 1, 0, none⟩), .pointer (some ⟨w.heap.size, 0, none⟩)]) W :=
    fun W => enters_of Tryz.func76 (by kernel_rfl) rfl _ _
  have hcall := signed_enc (w3.alloc (.cells #[.int .i64 0] 28)) (w.heap.size + 1 + 1) (w.heap.size + 1 + 1 + 1 + 1) [] hCd w.heap.size 0 (by omega) (by omega) x hx (hX4.range 0 (fun j _ => by simp)) (by simp)
  refine (aborted_any w3 76 _ (fun err w' => LayO (loS x (0, [])) err (fun l => CdX w' (w.heap.size + 1 + 1) (w.heap.size + 1 + 1 + 1 + 1) l) ∧ Stp (· = w.heap.size + 1 + 1) (w.heap.size + 1 + 1 + 1 + 1) (w3.alloc (.cells #[.int .i64 0] 28)) w') hin
    ((put1_signed _ _ _ _ _ (hF4.cell rfl) hcall).mono ?_)).mono ?_
  · rintro e w' ⟨err, he, h1, h2⟩
    exact ⟨err, he, hE4.stp h2 (by omega) (by omega), h1, h2⟩
  rintro e w' ⟨err, w5, rfl, ⟨⟨h1, h2⟩, hs⟩, hE, rfl⟩
  clear hcall hin hX4 hF4 hC4 hE4 hX hF hC hB
  have hB5 : Below w.heap.size w w5 := hB4.trans (hs.below (by omega) (fun i e => by omega))
  have hB6 : Below w.heap.size w (w5.setCell ⟨w3.heap.size, 0, none⟩ (.int .i64 err)) := hB5.trans ⟨rfl, rfl, rfl, by simp [World.setCell], fun k hk => Below.heap_setCell w5 _ _ k (by simp; omega)⟩
  have HB6 := Lib.hid hB6
  have HZ := Lib.hid hz
  clear hB4 hB5 hB6 hs hz4 hE hz hCd
  by_cases h0 : err = 0
  · obtain ⟨n, ao, co, hCd⟩ := h2 h0
    subst h0
    have hb6 := hCd.blk.setOther ⟨w3.heap.size, 0, none⟩ (.int .i64 0) (by simp; have := HZ.out; omega)
    have ho6 := ownsRow_setCell_below hCd.own (a := ⟨w3.heap.size, 0, none⟩) (by simp; have := HZ.out; omega) (.int .i64 0)
    have HO6 := Lib.hid ho6
    have hc6 := hb6.cell (j := 1) rfl
    have H1 := Lib.hid h1
    clear ho6 hCd h2 h1 hb6
    generalize w5.setCell ⟨w3.heap.size, 0, none⟩ (.int .i64 0) = w6 at HB6 HO6 hc6 ⊢
    go_wp2
    go_ret2
    exact PutP.ok H1.out (Own.lower HO6.out (by omega)) HB6.out
  · have H1 := Lib.hid h1
    clear h1 h2
    generalize w5.setCell ⟨w3.heap.size, 0, none⟩ (.int .i64 err) = w6 at HB6 ⊢
    go_wp2
    go_ret2
    exact PutP.no H1.out h0 HB6.out

set_option maxHeartbeats 1000000 in
theorem putSigned_any (w : World) (x : Sg) (hx : x.ok) :
    Calls Tryz.prog 17 #[.agg (sgc x).toArray] w (PutP w (loS x (0, []))) := by
  have hX := Blk.new w 49 (sgc x)
  have hB : Below w.heap.size w (w.alloc (.cells (sgc x).toArray 49)) := (Below.refl _ w).alloc (Nat.le_refl _) _
  have HB := Lib.hid hB
  have IS : Hid ((Tryz.prog.info? 49).map (·.size) = some (sgc x).length) := Lib.hid (by rw [sgc_length hx]; exact info_signed)
  have hrg := hX.range 0 (cs := sgc x) (fun j _ => by simp)
  have HR := Lib.hid hx
  clear hB
  go_enter Tryz.func17, Tryz.ntmps17
  go_wp2_with ((with_reducible refine wpList_loadM (o := ⟨some 4, _, _, _, _, _⟩) ?_ w.heap.size 0 49 (.tmp 1) ?_ ?_ hrg Tryz.underlying49 ?_ IS.out ?_); rfl; rfl; rfl; rfl)
  refine (put_signed _ x hx).mono ?_
  rintro e w1 ⟨v, rfl, hO, hB1⟩
  have HO := Lib.hid hO
  have HB1 := Lib.hid hB1
  clear hO hB1
  have HP : Hid (∀ W, W = w1 → PutP w (loS x (0, [])) (.returned (.tuple #[v, .int .i64 (loS x (0, [])).1])) W) :=
    Lib.hid (fun W e => by subst e; exact ⟨v, rfl, Own.lower HO.out (by simp), HB.out.trans (HB1.out.mono (by simp))⟩)
  generalize (loS x (0, [])).1 = err at HP ⊢
  go_wp2
  go_ret2
  exact HP.out _ rfl

set_option maxHeartbeats 1000000 in
theorem get1_signed (w : World) (F b X : Nat) (G : Int → World → Prop) (hF : w.cell? ⟨F, 0, none⟩ = some (.func (.func 43) #[] #[]))
    (hc : Calls Tryz.prog 43 #[.pointer (some ⟨b, 0, none⟩), .pointer (some ⟨X, 0, none⟩)] w fun e w' => ∃ err, Abt err e ∧ G err w') :
    Calls Tryz.prog 73 #[.pointer (some ⟨F, 0, none⟩), .pointer (some ⟨b, 0, none⟩), .pointer (some ⟨X, 0, none⟩)] w fun e w' => ∃ err, Abt err e ∧ G err w' := by
  go_enter Tryz.func73, Tryz.ntmps73
  go_wp2_with fail
  refine hc.mono ?_
  rintro e w' ⟨err, he, hG⟩
  rcases he with ⟨rfl, rfl⟩ | ⟨h0, rfl⟩
  · go_wp2
    go_end0
    exact ⟨0, Abt.ok, hG⟩
  · exact ⟨rfl, err, Abt.no h0, hG⟩

/-- what a get makes of bytes -/
def gSg (l : List UInt8) : Sg × Int := match gS l with
  | some (x, []) => (x, 0)
  | _ => (sg0, 60)

def GetP_signed (w : World) (l : List UInt8) (e : Ending) (w' : World) : Prop :=
  e = .returned (.tuple #[.agg (sgc (gSg l).1).toArray, .int .i64 (gSg l).2]) ∧ Below w.heap.size w w'

set_option maxHeartbeats 1000000 in
theorem get_signed (w : World) (a : Option Addr) (n c : Nat) (l : List UInt8) (hr : Rd w a n c l) (hn : n ≤ 70000000000000) :
    Calls Tryz.prog 42 #[.slice a n c, .func (.func 43) #[] #[]] w (GetP_signed w l) := by
  have hmf : ∀ (fn : Fn) (first cap : Array Value) (w : World), (Instr.makeFunc fn first cap).run Tryz.prog w = .ok (.func fn first cap) w := fun _ _ _ _ => rfl
  go_enter Tryz.func42, Tryz.ntmps42
  go_wp2_with (first | ((with_reducible refine wpList_allocB (o := ⟨some 4, _, _, _, _, _⟩) ?_ 49 ?_ sg0_info ?_); rfl; rfl; intro w1 hb1 hg1 hz1) | ((with_reducible refine wpList_allocB (o := ⟨some 6, _, _, _, _, _⟩) ?_ 49 ?_ sg0_info ?_); rfl; rfl; intro w2 hb2 hg2 hz2) | ((with_reducible refine wpList_allocB (o := ⟨some 7, _, _, _, _, _⟩) ?_ 49 ?_ sg0_info ?_); rfl; rfl; intro w3 hb3 hg3 hz3))
  have hzw : (w.alloc (.cells #[.func (.func 43) #[] #[]] 88)).heap.size = w.heap.size + 1 := by simp
  have hF0 := Blk.new w 88 [.func (.func 43) #[] #[]]
  have hBw : Below w.heap.size w (w.alloc (.cells #[.func (.func 43) #[] #[]] 88)) := (Below.refl _ w).alloc (Nat.le_refl _) _
  have hb1w : Below (w.alloc (.cells #[.func (.func 43) #[] #[]] 88)).heap.size (w.alloc (.cells #[.func (.func 43) #[] #[]] 88)) w1 := (Below.refl _ _).grown hg1 (Nat.le_refl _) (by simp)
  have hb2w : Below w1.heap.size w1 w2 := (Below.refl _ _).grown hg2 (Nat.le_refl _) (by simp)
  have hb3w : Below w2.heap.size w2 w3 := (Below.refl _ _).grown hg3 (Nat.le_refl _) (by simp)
  have hF3 : Blk w3 w.heap.size 88 [.func (.func 43) #[] #[]] := ((hF0.below hb1w).below hb2w).below hb3w
  have hR3 : Blk w3 (w.heap.size + 1) 49 (sgc sg0) := by have := (hb1.below hb2w).below hb3w; rw [hzw] at this; exact this
  have hX3 : Blk w3 (w.heap.size + 1 + 1) 49 (sgc sg0) := by have := hb2.below hb3w; rw [hz1, hzw] at this; exact this
  have hN3 : Blk w3 (w.heap.size + 1 + 1 + 1) 49 (sgc sg0) := by have := hb3; rw [hz2, hz1, hzw] at this; exact this
  have hs3 : w3.heap.size = w.heap.size + 1 + 1 + 1 + 1 := by omega
  have hB3 : Below w.heap.size w w3 := Bt hBw ((hb1w.trans (hb2w.mono hb1w.size)).trans (hb3w.mono (by have := hb1w.size; have := hb2w.size; omega)))
  have hr3 := hr.below hB3
  clear hzw hF0 hBw hb1w hb2w hb3w hb1 hb2 hb3 hg1 hg2 hg3 hz1 hz2 hz3
  refine (new_own w3 a n c l hr3 hn).mono ?_
  rintro e w4 ⟨r, a', c', rfl, hr1, hr2, hRd4, hO4, hB4⟩
  have HR1 := Lib.hid hr1
  have HR2 := Lib.hid hr2
  have HS3 := Lib.hid hs3
  have HBC : Hid (Tryz.prog.built 107 [(0, .pointer (some ⟨r, 0, none⟩))] = some ([.pointer (some ⟨r, 0, none⟩), .slice none 0 0] : List Value).toArray) := Lib.hid (built_coder r)
  have IC : Hid ((Tryz.prog.info? 107).map (·.size) = some ([.pointer (some ⟨r, 0, none⟩), .slice none 0 0] : List Value).length) := Lib.hid (by kernel_rfl)
  have HONE : Hid (∀ v ∈ ([.pointer (some ⟨r, 0, none⟩), .slice none 0 0] : List Value), v.oneCell' = true) := Lib.hid (by intro v hv; simp at hv; rcases hv with rfl | rfl <;> rfl)
  clear hr1 hr2 hs3 hr3
  go_wp2_with (first | ((with_reducible refine wpList_buildI (dst := some 12) HBC.out ?_ ?_); rfl) | ((with_reducible refine wpList_allocB (o := ⟨some 8, _, _, _, _, _⟩) ?_ 107 ?_ coder_info ?_); rfl; rfl; intro w5 hb5 hg5 hz5) | ((with_reducible refine wpList_storeB (o := ⟨none, .store 107 (.tmp 8) (.tmp 12), _, _, _, _⟩) ?_ 107 (.tmp 8) (.tmp 12) ?_ ?_ ?_ hb5 IC.out rfl HONE.out ?_); rfl; rfl; rfl; rfl; intro w6 hb6 hg6 hz6))
  have hB46 : Below w4.heap.size w4 w6 := ((Below.refl _ w4).grown hg5 (Nat.le_refl _) (by simp)).grown hg6 (by omega) (fun k e => by cases e; exact Nat.le_refl _)
  have hB36 : Below w3.heap.size w3 w6 := Bt hB4 hB46
  have hs46 : w4.heap.size + 1 = w6.heap.size := by omega
  have hO6 := hO4.below hB46
  have hRd6 := hRd4.below hB46
  have hF6 := hF3.below hB36
  have hR6 := hR3.below hB36
  have hX6 := hX3.below hB36
  have hN6 := hN3.below hB36
  have hB6 : Below w.heap.size w w6 := hB3.trans (hB36.mono hB3.size)
  have h34 := hB4.size
  clear hb5 hg5 hz5 hg6 hz6 hB46 hB36 hF3 hR3 hX3 hN3 hRd4 hO4 hB4
  generalize hA : w3.heap.size = A at *
  generalize hb : w4.heap.size = b at *
  have hE7 := Blk.new w6 28 [.int .i64 0]
  have hz7 : (w6.alloc (.cells #[.int .i64 0] 28)).heap.size = b + 1 + 1 := by simp; omega
  have hD7 : Dc A a' n c' l b r (w.heap.size + 1 + 1) (b + 1 + 1) 49 (w6.alloc (.cells #[.int .i64 0] 28)) l (sgc sg0) :=
    ⟨World.ownsRow.alloc hO6 _, hb6.alloc _, hX6.alloc _, ⟨a', n, c', hRd6.alloc _, fun W h => h⟩, by have := HR1.out; have := HR2.out; have := HS3.out; omega, by have := HR1.out; have := HR2.out; have := HS3.out; omega, by decide, by omega⟩
  have hR7 := hR6.alloc (.cells #[.int .i64 0] 28)
  have hN7 := hN6.alloc (.cells #[.int .i64 0] 28)
  have hF7 := hF6.alloc (.cells #[.int .i64 0] 28)
  have hB7 : Below w.heap.size w (w6.alloc (.cells #[.int .i64 0] 28)) := hB6.alloc (by have := HS3.out; omega) _
  have hin : ∀ W, Sem.run Tryz.prog (callFunc 73 #[.pointer (some ⟨w.heap.size, 0, none⟩), .pointer (some ⟨b, 0, none⟩), .pointer (some ⟨w.heap.size + 1 + 1, 0, none⟩)]) W = .ok (.enter 73 #[.pointer (some ⟨w.heap.size, 0, none⟩), .pointer (some ⟨b, 0, none⟩), .pointer (some ⟨w.heap.size + 1 + 1, 0, none⟩)]) W :=
    fun W => enters_of Tryz.func73 (by kernel_rfl) rfl _ _
  have hcall := signed_dec A a' n c' l b r (w.heap.size + 1 + 1) (b + 1 + 1) 49 (w6.alloc (.cells #[.int .i64 0] 28)) l (sgc sg0) hD7 0 (by rw [sgc_length sg0_ok]; omega)
  refine (aborted_any w6 73 _ (fun err w' => (DecI (gS l) err fun x l' => x.ok ∧ Dc A a' n c' l b r (w.heap.size + 1 + 1) (b + 1 + 1) 49 w' l' (splice (sgc sg0) 0 (sgc x))) ∧ Stp (fun k => k = r ∨ k = w.heap.size + 1 + 1) (b + 1 + 1) (w6.alloc (.cells #[.int .i64 0] 28)) w') hin
    ((get1_signed _ _ _ _ _ (hF7.cell rfl) hcall).mono ?_)).mono ?_
  · rintro e w' ⟨err, he, h1, h2⟩
    exact ⟨err, he, hE7.stp h2 (by omega) (by have := HR1.out; have := HR2.out; have := HS3.out; omega), h1, h2⟩
  rintro e w' ⟨err, w8, rfl, ⟨hdec, hs⟩, hE8, rfl⟩
  have hR8 := hR7.stp hs (by have := HS3.out; omega) (by have := HR1.out; have := HR2.out; have := HS3.out; omega)
  have hN8 := hN7.stp hs (by have := HS3.out; omega) (by have := HR1.out; have := HR2.out; have := HS3.out; omega)
  have hB8 : Below w.heap.size w w8 := hB7.trans (hs.below (by have := HS3.out; omega) (fun i e => by have := HR1.out; have := HS3.out; omega))
  clear hcall hin hE7 hD7 hR7 hN7 hF7 hB7 hB6 hO6 hRd6 hF6 hR6 hX6 hN6 hb6 hs
  have hgE := set_grown w8 w6.heap.size 0 (.int .i64 err)
  have hR9 := hR8.grown hgE (by simp; have := HS3.out; omega)
  have hN9 := hN8.grown hgE (by simp; have := HS3.out; omega)
  have hB9 : Below w.heap.size w (w8.setCell ⟨w6.heap.size, 0, none⟩ (.int .i64 err)) := hB8.grown hgE hB8.size (fun k e => by cases e; have := HS3.out; omega)
  have IS : Hid ((Tryz.prog.info? 49).map (·.size) = some (sgc sg0).length) := Lib.hid (by rw [sgc_length sg0_ok]; exact info_signed)
  have HRL := Lib.hid hR8.lt
  by_cases h0 : err = 0
  · subst h0
    obtain ⟨_, x, l', hg, hx, hD8⟩ | ⟨h1, _⟩ := hdec
    rotate_left
    · exact absurd rfl h1
    rw [splice_whole _ _ (by rw [sgc_length hx, sgc_length sg0_ok])] at hD8
    have hX9 := hD8.xb.grown hgE (by simp; have := HS3.out; omega)
    have hC9 := hD8.cb.grown hgE (by simp; omega)
    have hO9 := hD8.orig.keptC hgE hE8.at_ (by decide)
    obtain ⟨a9, n9, c9, h91, h92⟩ := hD8.rd
    have h93 := h91.grown hgE (by simp; have := HR2.out; omega)
    have hRdr : Rdr (w8.setCell ⟨w6.heap.size, 0, none⟩ (.int .i64 0)) r l' := ⟨a9, n9, c9, h93.at_, h92 _ hO9.rd⟩
    have hc9 := hC9.cell (j := 0) rfl
    have ISX : Hid ((Tryz.prog.info? 49).map (·.size) = some (sgc x).length) := Lib.hid (by rw [sgc_length hx]; exact info_signed)
    have HONE1 : Hid (∀ v ∈ sgc x, v.oneCell' = true) := Lib.hid (sgc_one x)
    have HONE0 : Hid (∀ v ∈ sgc sg0, v.oneCell' = true) := Lib.hid (sgc_one sg0)
    have HL1 : Hid ((sgc sg0).length = (sgc x).length) := Lib.hid (by rw [sgc_length hx, sgc_length sg0_ok])
    have HG := Lib.hid hg
    have HB9 := Lib.hid hB9
    clear hD8 hC9 hO9 h91 h92 h93 hgE hR8 hN8 hB8 hB9 hE8 hg
    generalize w8.setCell ⟨w6.heap.size, 0, none⟩ (.int .i64 0) = w9 at *
    by_cases hl : l' = []
    · subst hl
      have HFIN : Hid (∀ W, Below w.heap.size w W → GetP_signed w l (.returned (.tuple #[.agg (sgc x).toArray, .int .i64 0])) W) := Lib.hid (fun W hW => ⟨by simp [gSg, HG.out], hW⟩)
      go_wp2_with fail
      refine (left_any w9 r [] hRdr).mono ?_
      rintro e w' ⟨rfl, rfl⟩
      go_wp2_with (first | ((with_reducible refine wpList_loadB (o := ⟨some 24, _, _, _, _, _⟩) ?_ 49 (.tmp 6) ?_ ?_ hX9 Tryz.underlying49 ?_ ISX.out ?_); rfl; rfl; rfl; rfl) | ((with_reducible refine wpList_storeB (o := ⟨none, .store 49 (.tmp 4) (.tmp 24), _, _, _, _⟩) ?_ 49 (.tmp 4) (.tmp 24) ?_ ?_ ?_ hR9 ISX.out HL1.out HONE1.out ?_); rfl; rfl; rfl; rfl; intro wA hbA hgA hzA))
      apply bodyPost_ret
      exact results_blk2 rfl _ _ _ _ _ _ rfl hbA Tryz.underlying49 rfl ISX.out
      rfl
      exact HFIN.out _ (HB9.out.grown hgA HB9.out.size (fun k e => by cases e; omega))
    · have hll : 0 < l'.length := List.length_pos_iff.2 hl
      have HFIN : Hid (∀ W, Below w.heap.size w W → GetP_signed w l (.returned (.tuple #[.agg (sgc sg0).toArray, .int .i64 60])) W) := Lib.hid (fun W hW => ⟨by unfold gSg; rw [HG.out]; cases l' with | nil => exact absurd rfl hl | cons _ _ => rfl, hW⟩)
      go_wp2_with fail
      refine (left_any w9 r l' hRdr).mono ?_
      rintro e w' ⟨rfl, rfl⟩
      go_wp2_with (first | ((with_reducible refine wpList_loadB (o := ⟨some 23, _, _, _, _, _⟩) ?_ 49 (.tmp 7) ?_ ?_ hN9 Tryz.underlying49 ?_ IS.out ?_); rfl; rfl; rfl; rfl) | ((with_reducible refine wpList_storeB (o := ⟨none, .store 49 (.tmp 4) (.tmp 23), _, _, _, _⟩) ?_ 49 (.tmp 4) (.tmp 23) ?_ ?_ ?_ hR9 IS.out rfl HONE0.out ?_); rfl; rfl; rfl; rfl; intro wA hbA hgA hzA))
      apply bodyPost_ret
      exact results_blk2 rfl _ _ _ _ _ _ rfl hbA Tryz.underlying49 rfl IS.out
      rfl
      exact HFIN.out _ (HB9.out.grown hgA HB9.out.size (fun k e => by cases e; omega))
  · obtain ⟨h1, _⟩ | ⟨_, hg⟩ := hdec
    · exact absurd h1 h0
    have HONE0 : Hid (∀ v ∈ sgc sg0, v.oneCell' = true) := Lib.hid (sgc_one sg0)
    have HFIN : Hid (∀ W, Below w.heap.size w W → GetP_signed w l (.returned (.tuple #[.agg (sgc sg0).toArray, .int .i64 60])) W) := Lib.hid (fun W hW => ⟨by simp [gSg, hg], hW⟩)
    have HB9 := Lib.hid hB9
    clear hgE hR8 hN8 hB8 hB9 hE8 hg
    generalize w8.setCell ⟨w6.heap.size, 0, none⟩ (.int .i64 err) = w9 at *
    go_wp2_with (first | ((with_reducible refine wpList_loadB (o := ⟨some 23, _, _, _, _, _⟩) ?_ 49 (.tmp 7) ?_ ?_ hN9 Tryz.underlying49 ?_ IS.out ?_); rfl; rfl; rfl; rfl) | ((with_reducible refine wpList_storeB (o := ⟨none, .store 49 (.tmp 4) (.tmp 23), _, _, _, _⟩) ?_ 49 (.tmp 4) (.tmp 23) ?_ ?_ ?_ hR9 IS.out rfl HONE0.out ?_); rfl; rfl; rfl; rfl; intro wA hbA hgA hzA))
    apply bodyPost_ret
    exact results_blk2 rfl _ _ _ _ _ _ rfl hbA Tryz.underlying49 rfl IS.out
    rfl
    exact HFIN.out _ (HB9.out.grown hgA HB9.out.size (fun k e => by cases e; omega))


theorem gSg_ok (l : List UInt8) : (gSg l).1.ok := by
  unfold gSg
  split
  · rename_i x h
    simp only [gS, gH, Option.bind_eq_some_iff] at h
    obtain ⟨p0, ⟨p1, h1, p2, h2, p3, h3, h4⟩, p5, h5, h6⟩ := h
    simp only [Option.some.injEq, Prod.mk.injEq] at h4 h6
    obtain ⟨rfl, _⟩ := h6
    subst h4
    exact ⟨⟨gD_len h2, gD_len h3⟩, gD_len h5⟩
  · exact sg0_ok

set_option maxHeartbeats 1000000 in
theorem getSigned_any (w : World) (a : Option Addr) (n c : Nat) (l : List UInt8) (hr : Rd w a n c l) (hn : n ≤ 70000000000000) :
    Calls Tryz.prog 15 #[.slice a n c] w (GetP_signed w l) := by
  have hk := gSg_ok l
  have IS : Hid ((Tryz.prog.info? 49).map (·.size) = some (sgc (gSg l).1).length) := Lib.hid (by rw [sgc_length hk]; exact info_signed)
  have HL : Hid ((sgc sg0).length = (sgc (gSg l).1).length) := Lib.hid (by rw [sgc_length hk, sgc_length sg0_ok])
  have HONE : Hid (∀ v ∈ sgc (gSg l).1, v.oneCell' = true) := Lib.hid (sgc_one _)
  have HFIN : Hid (∀ W, Below w.heap.size w W → GetP_signed w l (.returned (.tuple #[.agg (sgc (gSg l).1).toArray, .int .i64 (gSg l).2])) W) := Lib.hid (fun W hW => ⟨rfl, hW⟩)
  go_enter Tryz.func15, Tryz.ntmps15
  go_wp2_with (first | ((with_reducible refine wpList_allocB (o := ⟨some 2, _, _, _, _, _⟩) ?_ 49 ?_ sg0_info ?_); rfl; rfl; intro w1 hb1 hg1 hz1))
  have hB1 : Below w.heap.size w w1 := (Below.refl _ w).grown hg1 (Nat.le_refl _) (by simp)
  refine (get_signed w1 a n c l (hr.below hB1) hn).mono ?_
  rintro e w2 ⟨rfl, hB2⟩
  have hb2 := hb1.below hB2
  have HB2 := Lib.hid (Bt hB1 hB2)
  generalize gSg l = y at *
  clear hb1 hg1 hB1 hB2
  go_wp2_with (first | ((with_reducible refine wpList_storeB (o := ⟨none, .store 49 (.tmp 2) (.tmp 6), _, _, _, _⟩) ?_ 49 (.tmp 2) (.tmp 6) ?_ ?_ ?_ hb2 IS.out HL.out HONE.out ?_); rfl; rfl; rfl; rfl; intro wA hbA hgA hzA))
  apply bodyPost_ret
  exact results_blk2 rfl _ _ _ _ _ _ rfl hbA Tryz.underlying49 rfl IS.out
  rfl
  exact HFIN.out _ (HB2.out.grown hgA HB2.out.size (fun k e => by cases e; exact Nat.le_refl _))

set_option maxHeartbeats 400000 in
theorem put1_command (w : World) (F b X : Nat) (G : Int → World → Prop) (hF : w.cell? ⟨F, 0, none⟩ = some (.func (.func 28) #[] #[]))
    (hc : Calls Tryz.prog 28 #[.pointer (some ⟨b, 0, none⟩), .pointer (some ⟨X, 0, none⟩)] w fun e w' => ∃ err, Abt err e ∧ G err w') :
    Calls Tryz.prog 62 #[.pointer (some ⟨F, 0, none⟩), .pointer (some ⟨b, 0, none⟩), .pointer (some ⟨X, 0, none⟩)] w fun e w' => ∃ err, Abt err e ∧ G err w' := by
  go_enter Tryz.func62, Tryz.ntmps62
  go_wp2_with fail
  refine hc.mono ?_
  rintro e w' ⟨err, he, hG⟩
  rcases he with ⟨rfl, rfl⟩ | ⟨h0, rfl⟩
  · go_wp2
    go_end0
    exact ⟨0, Abt.ok, hG⟩
  · exact ⟨rfl, err, Abt.no h0, hG⟩

set_option maxHeartbeats 1000000 in
theorem put_command (w : World) (x : Cm) (hx : x.ok) :
    Calls Tryz.prog 31 #[.agg (cmc x).toArray, .func (.func 28) #[] #[]] w (PutP w (loC x (0, []))) := by
  have hmf : ∀ (fn : Fn) (first cap : Array Value) (w : World), (Instr.makeFunc fn first cap).run Tryz.prog w = .ok (.func fn first cap) w := fun _ _ _ _ => rfl
  have HR := Lib.hid hx
  go_enter Tryz.func31, Tryz.ntmps31
  go_wp2_with fail
  have hX : Blk (((w.alloc (.cells (cmc x).toArray 27)).alloc (.cells #[.func (.func 28) #[] #[]] 71)).alloc (.cells #[.pointer none, .slice none 0 0] 107)) w.heap.size 27 (cmc x) := ((Blk.new w _ (cmc x)).alloc _).alloc _
  have hF : Blk (((w.alloc (.cells (cmc x).toArray 27)).alloc (.cells #[.func (.func 28) #[] #[]] 71)).alloc (.cells #[.pointer none, .slice none 0 0] 107)) (w.heap.size + 1) 71 [.func (.func 28) #[] #[]] := by
    have := (Blk.new (w.alloc (.cells (cmc x).toArray 27)) 71 [.func (.func 28) #[] #[]]).alloc (.cells #[.pointer none, .slice none 0 0] 107)
    simpa using this
  have hC : Blk (((w.alloc (.cells (cmc x).toArray 27)).alloc (.cells #[.func (.func 28) #[] #[]] 71)).alloc (.cells #[.pointer none, .slice none 0 0] 107)) (w.heap.size + 1 + 1) 107 [.pointer none, .slice none 0 0] := by
    have := Blk.new ((w.alloc (.cells (cmc x).toArray 27)).alloc (.cells #[.func (.func 28) #[] #[]] 71)) 107 [.pointer none, .slice none 0 0]
    simpa using this
  have hB : Below w.heap.size w (((w.alloc (.cells (cmc x).toArray 27)).alloc (.cells #[.func (.func 28) #[] #[]] 71)).alloc (.cells #[.pointer none, .slice none 0 0] 107)) :=
    (((Below.refl _ w).alloc (Nat.le_refl _) _).alloc (by simp) _).alloc (by simp; omega) _
  have hz : (((w.alloc (.cells (cmc x).toArray 27)).alloc (.cells #[.func (.func 28) #[] #[]] 71)).alloc (.cells #[.pointer none, .slice none 0 0] 107)).heap.size = w.heap.size + 1 + 1 + 1 := by simp
  generalize (((w.alloc (.cells (cmc x).toArray 27)).alloc (.cells #[.func (.func 28) #[] #[]] 71)).alloc (.cells #[.pointer none, .slice none 0 0] 107)) = w3 at hX hF hC hB hz ⊢
  have hX4 := hX.alloc (.cells #[.int .i64 0] 28)
  have hF4 := hF.alloc (.cells #[.int .i64 0] 28)
  have hC4 := hC.alloc (.cells #[.int .i64 0] 28)
  have hE4 := Blk.new w3 28 [.int .i64 0]
  have hz4 : (w3.alloc (.cells #[.int .i64 0] 28)).heap.size = w.heap.size + 1 + 1 + 1 + 1 := by simp [hz]
  have hB4 : Below w.heap.size w (w3.alloc (.cells #[.int .i64 0] 28)) := hB.alloc (by omega) _
  have HB4 := Lib.hid hB4
  have hCd : CdX (w3.alloc (.cells #[.int .i64 0] 28)) (w.heap.size + 1 + 1) (w.heap.size + 1 + 1 + 1 + 1) [] := ⟨0, none, 0, hC4, Own.nil0 _ _, by omega, by omega, rfl⟩
  have hin : ∀ W, Sem.run Tryz.prog (callFunc 62 #[.pointer (some ⟨w.heap.size + 1, 0, none⟩), .pointer (some ⟨w.heap.size + 1 + 1, 0, none⟩), .pointer (some ⟨w.heap.size, 0, none⟩)]) W = .ok (.enter 62 #[.pointer (some ⟨w.heap.size + 1, 0, none⟩), .pointer (some ⟨w.heap.size + 1 + 1, 0, none⟩), .pointer (some ⟨w.heap.size, 0, none⟩)]) W :=
    fun W => enters_of Tryz.func62 (by kernel_rfl) rfl _ _
  have hcall := command_enc (w3.alloc (.cells #[.int .i64 0] 28)) (w.heap.size + 1 + 1) (w.heap.size + 1 + 1 + 1 + 1) [] hCd w.heap.size 0 (by omega) (by omega) x hx (hX4.range 0 (fun j _ => by simp)) (by simp)
  refine (aborted_any w3 62 _ (fun err w' => LayO (loC x (0, [])) err (fun l => CdX w' (w.heap.size + 1 + 1) (w.heap.size + 1 + 1 + 1 + 1) l) ∧ Stp (· = w.heap.size + 1 + 1) (w.heap.size + 1 + 1 + 1 + 1) (w3.alloc (.cells #[.int .i64 0] 28)) w') hin
    ((put1_command _ _ _ _ _ (hF4.cell rfl) hcall).mono ?_)).mono ?_
  · rintro e w' ⟨err, he, h1, h2⟩
    exact ⟨err, he, hE4.stp h2 (by omega) (by omega), h1, h2⟩
  rintro e w' ⟨err, w5, rfl, ⟨⟨h1, h2⟩, hs⟩, hE, rfl⟩
  clear hcall hin hX4 hF4 hC4 hE4 hX hF hC hB
  have hB5 : Below w.heap.size w w5 := hB4.trans (hs.below (by omega) (fun i e => by omega))
  have hB6 : Below w.heap.size w (w5.setCell ⟨w3.heap.size, 0, none⟩ (.int .i64 err)) := hB5.trans ⟨rfl, rfl, rfl, by simp [World.setCell], fun k hk => Below.heap_setCell w5 _ _ k (by simp; omega)⟩
  have HB6 := Lib.hid hB6
  have HZ := Lib.hid hz
  clear hB4 hB5 hB6 hs hz4 hE hz hCd
  by_cases h0 : err = 0
  · obtain ⟨n, ao, co, hCd⟩ := h2 h0
    subst h0
    have hb6 := hCd.blk.setOther ⟨w3.heap.size, 0, none⟩ (.int .i64 0) (by simp; have := HZ.out; omega)
    have ho6 := ownsRow_setCell_below hCd.own (a := ⟨w3.heap.size, 0, none⟩) (by simp; have := HZ.out; omega) (.int .i64 0)
    have HO6 := Lib.hid ho6
    have hc6 := hb6.cell (j := 1) rfl
    have H1 := Lib.hid h1
    clear ho6 hCd h2 h1 hb6
    generalize w5.setCell ⟨w3.heap.size, 0, none⟩ (.int .i64 0) = w6 at HB6 HO6 hc6 ⊢
    go_wp2
    go_ret2
    exact PutP.ok H1.out (Own.lower HO6.out (by omega)) HB6.out
  · have H1 := Lib.hid h1
    clear h1 h2
    generalize w5.setCell ⟨w3.heap.size, 0, none⟩ (.int .i64 err) = w6 at HB6 ⊢
    go_wp2
    go_ret2
    exact PutP.no H1.out h0 HB6.out

set_option maxHeartbeats 1000000 in
theorem putCommand_any (w : World) (x : Cm) (hx : x.ok) :
    Calls Tryz.prog 6 #[.agg (cmc x).toArray] w (PutP w (loC x (0, []))) := by
  have hX := Blk.new w 27 (cmc x)
  have hB : Below w.heap.size w (w.alloc (.cells (cmc x).toArray 27)) := (Below.refl _ w).alloc (Nat.le_refl _) _
  have HB := Lib.hid hB
  have IS : Hid ((Tryz.prog.info? 27).map (·.size) = some (cmc x).length) := Lib.hid (by rw [cmc_length hx]; exact info_command)
  have hrg := hX.range 0 (cs := cmc x) (fun j _ => by simp)
  have HR := Lib.hid hx
  clear hB
  go_enter Tryz.func6, Tryz.ntmps6
  go_wp2_with ((with_reducible refine wpList_loadM (o := ⟨some 4, _, _, _, _, _⟩) ?_ w.heap.size 0 27 (.tmp 1) ?_ ?_ hrg Tryz.underlying27 ?_ IS.out ?_); rfl; rfl; rfl; rfl)
  refine (put_command _ x hx).mono ?_
  rintro e w1 ⟨v, rfl, hO, hB1⟩
  have HO := Lib.hid hO
  have HB1 := Lib.hid hB1
  clear hO hB1
  have HP : Hid (∀ W, W = w1 → PutP w (loC x (0, [])) (.returned (.tuple #[v, .int .i64 (loC x (0, [])).1])) W) :=
    Lib.hid (fun W e => by subst e; exact ⟨v, rfl, Own.lower HO.out (by simp), HB.out.trans (HB1.out.mono (by simp))⟩)
  generalize (loC x (0, [])).1 = err at HP ⊢
  go_wp2
  go_ret2
  exact HP.out _ rfl

set_option maxHeartbeats 1000000 in
theorem get1_command (w : World) (F b X : Nat) (G : Int → World → Prop) (hF : w.cell? ⟨F, 0, none⟩ = some (.func (.func 28) #[] #[]))
    (hc : Calls Tryz.prog 28 #[.pointer (some ⟨b, 0, none⟩), .pointer (some ⟨X, 0, none⟩)] w fun e w' => ∃ err, Abt err e ∧ G err w') :
    Calls Tryz.prog 53 #[.pointer (some ⟨F, 0, none⟩), .pointer (some ⟨b, 0, none⟩), .pointer (some ⟨X, 0, none⟩)] w fun e w' => ∃ err, Abt err e ∧ G err w' := by
  go_enter Tryz.func53, Tryz.ntmps53
  go_wp2_with fail
  refine hc.mono ?_
  rintro e w' ⟨err, he, hG⟩
  rcases he with ⟨rfl, rfl⟩ | ⟨h0, rfl⟩
  · go_wp2
    go_end0
    exact ⟨0, Abt.ok, hG⟩
  · exact ⟨rfl, err, Abt.no h0, hG⟩

/-- what a get makes of bytes -/
def gCm (l : List UInt8) : Cm × Int := match gC l with
  | some (x, []) => (x, 0)
  | _ => (cm0, 60)

def GetP_command (w : World) (l : List UInt8) (e : Ending) (w' : World) : Prop :=
  e = .returned (.tuple #[.agg (cmc (gCm l).1).toArray, .int .i64 (gCm l).2]) ∧ Below w.heap.size w w'

set_option maxHeartbeats 1000000 in
theorem get_command (w : World) (a : Option Addr) (n c : Nat) (l : List UInt8) (hr : Rd w a n c l) (hn : n ≤ 70000000000000) :
    Calls Tryz.prog 27 #[.slice a n c, .func (.func 28) #[] #[]] w (GetP_command w l) := by
  have hmf : ∀ (fn : Fn) (first cap : Array Value) (w : World), (Instr.makeFunc fn first cap).run Tryz.prog w = .ok (.func fn first cap) w := fun _ _ _ _ => rfl
  go_enter Tryz.func27, Tryz.ntmps27
  go_wp2_with (first | ((with_reducible refine wpList_allocB (o := ⟨some 4, _, _, _, _, _⟩) ?_ 27 ?_ cm0_info ?_); rfl; rfl; intro w1 hb1 hg1 hz1) | ((with_reducible refine wpList_allocB (o := ⟨some 6, _, _, _, _, _⟩) ?_ 27 ?_ cm0_info ?_); rfl; rfl; intro w2 hb2 hg2 hz2) | ((with_reducible refine wpList_allocB (o := ⟨some 7, _, _, _, _, _⟩) ?_ 27 ?_ cm0_info ?_); rfl; rfl; intro w3 hb3 hg3 hz3))
  have hzw : (w.alloc (.cells #[.func (.func 28) #[] #[]] 71)).heap.size = w.heap.size + 1 := by simp
  have hF0 := Blk.new w 71 [.func (.func 28) #[] #[]]
  have hBw : Below w.heap.size w (w.alloc (.cells #[.func (.func 28) #[] #[]] 71)) := (Below.refl _ w).alloc (Nat.le_refl _) _
  have hb1w : Below (w.alloc (.cells #[.func (.func 28) #[] #[]] 71)).heap.size (w.alloc (.cells #[.func (.func 28) #[] #[]] 71)) w1 := (Below.refl _ _).grown hg1 (Nat.le_refl _) (by simp)
  have hb2w : Below w1.heap.size w1 w2 := (Below.refl _ _).grown hg2 (Nat.le_refl _) (by simp)
  have hb3w : Below w2.heap.size w2 w3 := (Below.refl _ _).grown hg3 (Nat.le_refl _) (by simp)
  have hF3 : Blk w3 w.heap.size 71 [.func (.func 28) #[] #[]] := ((hF0.below hb1w).below hb2w).below hb3w
  have hR3 : Blk w3 (w.heap.size + 1) 27 (cmc cm0) := by have := (hb1.below hb2w).below hb3w; rw [hzw] at this; exact this
  have hX3 : Blk w3 (w.heap.size + 1 + 1) 27 (cmc cm0) := by have := hb2.below hb3w; rw [hz1, hzw] at this; exact this
  have hN3 : Blk w3 (w.heap.size + 1 + 1 + 1) 27 (cmc cm0) := by have := hb3; rw [hz2, hz1, hzw] at this; exact this
  have hs3 : w3.heap.size = w.heap.size + 1 + 1 + 1 + 1 := by omega
  have hB3 : Below w.heap.size w w3 := Bt hBw ((hb1w.trans (hb2w.mono hb1w.size)).trans (hb3w.mono (by have := hb1w.size; have := hb2w.size; omega)))
  have hr3 := hr.below hB3
  clear hzw hF0 hBw hb1w hb2w hb3w hb1 hb2 hb3 hg1 hg2 hg3 hz1 hz2 hz3
  refine (new_own w3 a n c l hr3 hn).mono ?_
  rintro e w4 ⟨r, a', c', rfl, hr1, hr2, hRd4, hO4, hB4⟩
  have HR1 := Lib.hid hr1
  have HR2 := Lib.hid hr2
  have HS3 := Lib.hid hs3
  have HBC : Hid (Tryz.prog.built 107 [(0, .pointer (some ⟨r, 0, none⟩))] = some ([.pointer (some ⟨r, 0, none⟩), .slice none 0 0] : List Value).toArray) := Lib.hid (built_coder r)
  have IC : Hid ((Tryz.prog.info? 107).map (·.size) = some ([.pointer (some ⟨r, 0, none⟩), .slice none 0 0] : List Value).length) := Lib.hid (by kernel_rfl)
  have HONE : Hid (∀ v ∈ ([.pointer (some ⟨r, 0, none⟩), .slice none 0 0] : List Value), v.oneCell' = true) := Lib.hid (by intro v hv; simp at hv; rcases hv with rfl | rfl <;> rfl)
  clear hr1 hr2 hs3 hr3
  go_wp2_with (first | ((with_reducible refine wpList_buildI (dst := some 12) HBC.out ?_ ?_); rfl) | ((with_reducible refine wpList_allocB (o := ⟨some 8, _, _, _, _, _⟩) ?_ 107 ?_ coder_info ?_); rfl; rfl; intro w5 hb5 hg5 hz5) | ((with_reducible refine wpList_storeB (o := ⟨none, .store 107 (.tmp 8) (.tmp 12), _, _, _, _⟩) ?_ 107 (.tmp 8) (.tmp 12) ?_ ?_ ?_ hb5 IC.out rfl HONE.out ?_); rfl; rfl; rfl; rfl; intro w6 hb6 hg6 hz6))
  have hB46 : Below w4.heap.size w4 w6 := ((Below.refl _ w4).grown hg5 (Nat.le_refl _) (by simp)).grown hg6 (by omega) (fun k e => by cases e; exact Nat.le_refl _)
  have hB36 : Below w3.heap.size w3 w6 := Bt hB4 hB46
  have hs46 : w4.heap.size + 1 = w6.heap.size := by omega
  have hO6 := hO4.below hB46
  have hRd6 := hRd4.below hB46
  have hF6 := hF3.below hB36
  have hR6 := hR3.below hB36
  have hX6 := hX3.below hB36
  have hN6 := hN3.below hB36
  have hB6 : Below w.heap.size w w6 := hB3.trans (hB36.mono hB3.size)
  have h34 := hB4.size
  clear hb5 hg5 hz5 hg6 hz6 hB46 hB36 hF3 hR3 hX3 hN3 hRd4 hO4 hB4
  generalize hA : w3.heap.size = A at *
  generalize hb : w4.heap.size = b at *
  have hE7 := Blk.new w6 28 [.int .i64 0]
  have hz7 : (w6.alloc (.cells #[.int .i64 0] 28)).heap.size = b + 1 + 1 := by simp; omega
  have hD7 : Dc A a' n c' l b r (w.heap.size + 1 + 1) (b + 1 + 1) 27 (w6.alloc (.cells #[.int .i64 0] 28)) l (cmc cm0) :=
    ⟨World.ownsRow.alloc hO6 _, hb6.alloc _, hX6.alloc _, ⟨a', n, c', hRd6.alloc _, fun W h => h⟩, by have := HR1.out; have := HR2.out; have := HS3.out; omega, by have := HR1.out; have := HR2.out; have := HS3.out; omega, by decide, by omega⟩
  have hR7 := hR6.alloc (.cells #[.int .i64 0] 28)
  have hN7 := hN6.alloc (.cells #[.int .i64 0] 28)
  have hF7 := hF6.alloc (.cells #[.int .i64 0] 28)
  have hB7 : Below w.heap.size w (w6.alloc (.cells #[.int .i64 0] 28)) := hB6.alloc (by have := HS3.out; omega) _
  have hin : ∀ W, Sem.run Tryz.prog (callFunc 53 #[.pointer (some ⟨w.heap.size, 0, none⟩), .pointer (some ⟨b, 0, none⟩), .pointer (some ⟨w.heap.size + 1 + 1, 0, none⟩)]) W = .ok (.enter 53 #[.pointer (some ⟨w.heap.size, 0, none⟩), .pointer (some ⟨b, 0, none⟩), .pointer (some ⟨w.heap.size + 1 + 1, 0, none⟩)]) W :=
    fun W => enters_of Tryz.func53 (by kernel_rfl) rfl _ _
  have hcall := command_dec A a' n c' l b r (w.heap.size + 1 + 1) (b + 1 + 1) 27 (w6.alloc (.cells #[.int .i64 0] 28)) l (cmc cm0) hD7 0 (by rw [cmc_length cm0_ok]; omega)
  refine (aborted_any w6 53 _ (fun err w' => (DecI (gC l) err fun x l' => x.ok ∧ Dc A a' n c' l b r (w.heap.size + 1 + 1) (b + 1 + 1) 27 w' l' (splice (cmc cm0) 0 (cmc x))) ∧ Stp (fun k => k = r ∨ k = w.heap.size + 1 + 1) (b + 1 + 1) (w6.alloc (.cells #[.int .i64 0] 28)) w') hin
    ((get1_command _ _ _ _ _ (hF7.cell rfl) hcall).mono ?_)).mono ?_
  · rintro e w' ⟨err, he, h1, h2⟩
    exact ⟨err, he, hE7.stp h2 (by omega) (by have := HR1.out; have := HR2.out; have := HS3.out; omega), h1, h2⟩
  rintro e w' ⟨err, w8, rfl, ⟨hdec, hs⟩, hE8, rfl⟩
  have hR8 := hR7.stp hs (by have := HS3.out; omega) (by have := HR1.out; have := HR2.out; have := HS3.out; omega)
  have hN8 := hN7.stp hs (by have := HS3.out; omega) (by have := HR1.out; have := HR2.out; have := HS3.out; omega)
  have hB8 : Below w.heap.size w w8 := hB7.trans (hs.below (by have := HS3.out; omega) (fun i e => by have := HR1.out; have := HS3.out; omega))
  clear hcall hin hE7 hD7 hR7 hN7 hF7 hB7 hB6 hO6 hRd6 hF6 hR6 hX6 hN6 hb6 hs
  have hgE := set_grown w8 w6.heap.size 0 (.int .i64 err)
  have hR9 := hR8.grown hgE (by simp; have := HS3.out; omega)
  have hN9 := hN8.grown hgE (by simp; have := HS3.out; omega)
  have hB9 : Below w.heap.size w (w8.setCell ⟨w6.heap.size, 0, none⟩ (.int .i64 err)) := hB8.grown hgE hB8.size (fun k e => by cases e; have := HS3.out; omega)
  have IS : Hid ((Tryz.prog.info? 27).map (·.size) = some (cmc cm0).length) := Lib.hid (by rw [cmc_length cm0_ok]; exact info_command)
  have HRL := Lib.hid hR8.lt
  by_cases h0 : err = 0
  · subst h0
    obtain ⟨_, x, l', hg, hx, hD8⟩ | ⟨h1, _⟩ := hdec
    rotate_left
    · exact absurd rfl h1
    rw [splice_whole _ _ (by rw [cmc_length hx, cmc_length cm0_ok])] at hD8
    have hX9 := hD8.xb.grown hgE (by simp; have := HS3.out; omega)
    have hC9 := hD8.cb.grown hgE (by simp; omega)
    have hO9 := hD8.orig.keptC hgE hE8.at_ (by decide)
    obtain ⟨a9, n9, c9, h91, h92⟩ := hD8.rd
    have h93 := h91.grown hgE (by simp; have := HR2.out; omega)
    have hRdr : Rdr (w8.setCell ⟨w6.heap.size, 0, none⟩ (.int .i64 0)) r l' := ⟨a9, n9, c9, h93.at_, h92 _ hO9.rd⟩
    have hc9 := hC9.cell (j := 0) rfl
    have ISX : Hid ((Tryz.prog.info? 27).map (·.size) = some (cmc x).length) := Lib.hid (by rw [cmc_length hx]; exact info_command)
    have HONE1 : Hid (∀ v ∈ cmc x, v.oneCell' = true) := Lib.hid (cmc_one x)
    have HONE0 : Hid (∀ v ∈ cmc cm0, v.oneCell' = true) := Lib.hid (cmc_one cm0)
    have HL1 : Hid ((cmc cm0).length = (cmc x).length) := Lib.hid (by rw [cmc_length hx, cmc_length cm0_ok])
    have HG := Lib.hid hg
    have HB9 := Lib.hid hB9
    clear hD8 hC9 hO9 h91 h92 h93 hgE hR8 hN8 hB8 hB9 hE8 hg
    generalize w8.setCell ⟨w6.heap.size, 0, none⟩ (.int .i64 0) = w9 at *
    by_cases hl : l' = []
    · subst hl
      have HFIN : Hid (∀ W, Below w.heap.size w W → GetP_command w l (.returned (.tuple #[.agg (cmc x).toArray, .int .i64 0])) W) := Lib.hid (fun W hW => ⟨by simp [gCm, HG.out], hW⟩)
      go_wp2_with fail
      refine (left_any w9 r [] hRdr).mono ?_
      rintro e w' ⟨rfl, rfl⟩
      go_wp2_with (first | ((with_reducible refine wpList_loadB (o := ⟨some 24, _, _, _, _, _⟩) ?_ 27 (.tmp 6) ?_ ?_ hX9 Tryz.underlying27 ?_ ISX.out ?_); rfl; rfl; rfl; rfl) | ((with_reducible refine wpList_storeB (o := ⟨none, .store 27 (.tmp 4) (.tmp 24), _, _, _, _⟩) ?_ 27 (.tmp 4) (.tmp 24) ?_ ?_ ?_ hR9 ISX.out HL1.out HONE1.out ?_); rfl; rfl; rfl; rfl; intro wA hbA hgA hzA))
      apply bodyPost_ret
      exact results_blk2 rfl _ _ _ _ _ _ rfl hbA Tryz.underlying27 rfl ISX.out
      rfl
      exact HFIN.out _ (HB9.out.grown hgA HB9.out.size (fun k e => by cases e; omega))
    · have hll : 0 < l'.length := List.length_pos_iff.2 hl
      have HFIN : Hid (∀ W, Below w.heap.size w W → GetP_command w l (.returned (.tuple #[.agg (cmc cm0).toArray, .int .i64 60])) W) := Lib.hid (fun W hW => ⟨by unfold gCm; rw [HG.out]; cases l' with | nil => exact absurd rfl hl | cons _ _ => rfl, hW⟩)
      go_wp2_with fail
      refine (left_any w9 r l' hRdr).mono ?_
      rintro e w' ⟨rfl, rfl⟩
      go_wp2_with (first | ((with_reducible refine wpList_loadB (o := ⟨some 23, _, _, _, _, _⟩) ?_ 27 (.tmp 7) ?_ ?_ hN9 Tryz.underlying27 ?_ IS.out ?_); rfl; rfl; rfl; rfl) | ((with_reducible refine wpList_storeB (o := ⟨none, .store 27 (.tmp 4) (.tmp 23), _, _, _, _⟩) ?_ 27 (.tmp 4) (.tmp 23) ?_ ?_ ?_ hR9 IS.out rfl HONE0.out ?_); rfl; rfl; rfl; rfl; intro wA hbA hgA hzA))
      apply bodyPost_ret
      exact results_blk2 rfl _ _ _ _ _ _ rfl hbA Tryz.underlying27 rfl IS.out
      rfl
      exact HFIN.out _ (HB9.out.grown hgA HB9.out.size (fun k e => by cases e; omega))
  · obtain ⟨h1, _⟩ | ⟨_, hg⟩ := hdec
    · exact absurd h1 h0
    have HONE0 : Hid (∀ v ∈ cmc cm0, v.oneCell' = true) := Lib.hid (cmc_one cm0)
    have HFIN : Hid (∀ W, Below w.heap.size w W → GetP_command w l (.returned (.tuple #[.agg (cmc cm0).toArray, .int .i64 60])) W) := Lib.hid (fun W hW => ⟨by simp [gCm, hg], hW⟩)
    have HB9 := Lib.hid hB9
    clear hgE hR8 hN8 hB8 hB9 hE8 hg
    generalize w8.setCell ⟨w6.heap.size, 0, none⟩ (.int .i64 err) = w9 at *
    go_wp2_with (first | ((with_reducible refine wpList_loadB (o := ⟨some 23, _, _, _, _, _⟩) ?_ 27 (.tmp 7) ?_ ?_ hN9 Tryz.underlying27 ?_ IS.out ?_); rfl; rfl; rfl; rfl) | ((with_reducible refine wpList_storeB (o := ⟨none, .store 27 (.tmp 4) (.tmp 23), _, _, _, _⟩) ?_ 27 (.tmp 4) (.tmp 23) ?_ ?_ ?_ hR9 IS.out rfl HONE0.out ?_); rfl; rfl; rfl; rfl; intro wA hbA hgA hzA))
    apply bodyPost_ret
    exact results_blk2 rfl _ _ _ _ _ _ rfl hbA Tryz.underlying27 rfl IS.out
    rfl
    exact HFIN.out _ (HB9.out.grown hgA HB9.out.size (fun k e => by cases e; omega))


theorem gCm_ok (l : List UInt8) : (gCm l).1.ok := by
  unfold gCm
  split
  · rename_i x h
    simp only [gC, Option.bind_eq_some_iff] at h
    obtain ⟨p0, h0, p1, h1, p2, h2, p3, h3, p4, h4, p5, h5, p6, h6, h7⟩ := h
    simp only [Option.some.injEq, Prod.mk.injEq] at h7
    obtain ⟨rfl, _⟩ := h7
    exact gD_len h6
  · exact cm0_ok

set_option maxHeartbeats 1000000 in
theorem getCommand_any (w : World) (a : Option Addr) (n c : Nat) (l : List UInt8) (hr : Rd w a n c l) (hn : n ≤ 70000000000000) :
    Calls Tryz.prog 4 #[.slice a n c] w (GetP_command w l) := by
  have hk := gCm_ok l
  have IS : Hid ((Tryz.prog.info? 27).map (·.size) = some (cmc (gCm l).1).length) := Lib.hid (by rw [cmc_length hk]; exact info_command)
  have HL : Hid ((cmc cm0).length = (cmc (gCm l).1).length) := Lib.hid (by rw [cmc_length hk, cmc_length cm0_ok])
  have HONE : Hid (∀ v ∈ cmc (gCm l).1, v.oneCell' = true) := Lib.hid (cmc_one _)
  have HFIN : Hid (∀ W, Below w.heap.size w W → GetP_command w l (.returned (.tuple #[.agg (cmc (gCm l).1).toArray, .int .i64 (gCm l).2])) W) := Lib.hid (fun W hW => ⟨rfl, hW⟩)
  go_enter Tryz.func4, Tryz.ntmps4
  go_wp2_with (first | ((with_reducible refine wpList_allocB (o := ⟨some 2, _, _, _, _, _⟩) ?_ 27 ?_ cm0_info ?_); rfl; rfl; intro w1 hb1 hg1 hz1))
  have hB1 : Below w.heap.size w w1 := (Below.refl _ w).grown hg1 (Nat.le_refl _) (by simp)
  refine (get_command w1 a n c l (hr.below hB1) hn).mono ?_
  rintro e w2 ⟨rfl, hB2⟩
  have hb2 := hb1.below hB2
  have HB2 := Lib.hid (Bt hB1 hB2)
  generalize gCm l = y at *
  clear hb1 hg1 hB1 hB2
  go_wp2_with (first | ((with_reducible refine wpList_storeB (o := ⟨none, .store 27 (.tmp 2) (.tmp 6), _, _, _, _⟩) ?_ 27 (.tmp 2) (.tmp 6) ?_ ?_ ?_ hb2 IS.out HL.out HONE.out ?_); rfl; rfl; rfl; rfl; intro wA hbA hgA hzA))
  apply bodyPost_ret
  exact results_blk2 rfl _ _ _ _ _ _ rfl hbA Tryz.underlying27 rfl IS.out
  rfl
  exact HFIN.out _ (HB2.out.grown hgA HB2.out.size (fun k e => by cases e; exact Nat.le_refl _))

end Go.Proofs.YtoclahcibilbhaaGreat
