/-
  PutDirectory, GetDirectory.
-/
import Derived.Test.YtoclahcibilbhaaGreatWirE3
import Derived.Test.YtoclahcibilbhaaGreatWirP
namespace Go.Proofs.YtoclahcibilbhaaGreat
open Go.RowKit
set_option maxRecDepth 100000
def di0 : Di := ⟨0, [], none, 0, [], none, 0, [], none, 0⟩
theorem di0_ok : di0.ok := fun y hy => by simp [di0] at hy
theorem di0_own {w : World} {B : Nat} : Di.own w B di0 := ⟨OwnG.nil0 _ _, fun y hy => by simp [di0] at hy, OwnG.nil0 _ _, OwnG.nil0 _ _⟩
theorem di0_info : (Tryz.prog.info? 63).map (fun i => (i.zero, i.size)) = some (some (.agg (dic di0).toArray), 4) := by kernel_rfl
theorem info_directory : (Tryz.prog.info? 63).map (·.size) = some 4 := by kernel_rfl
theorem dic_one (x : Di) : ∀ v ∈ dic x, v.oneCell' = true := (one_app (one_app (one_app (one_1 rfl) (one_1 rfl)) (one_1 rfl)) (one_1 rfl))
/-- it can be read wherever what is there stays -/
def Ux.rd (w : World) (x : Ux) : Prop := ∀ W b B, Below w.heap.size w W → w.heap.size ≤ b → w.heap.size ≤ B → Ux.rdx W b B x
theorem Ux.rd.below {w w' : World} {x : Ux} (h : Ux.rd w x) (hb : Below w.heap.size w w') : Ux.rd w' x := fun W b B h1 h2 h3 => h W b B (Bt hb h1) (Nat.le_trans hb.size h2) (Nat.le_trans hb.size h3)
theorem Ux.own_rd {w : World} {base : Nat} {x : Ux} (h : Ux.own w base x) : Ux.rd w x := fun _ _ _ hB h1 h2 => (h).rd.out hB h1 h2
/-- it can be read wherever what is there stays -/
def Di.rd (w : World) (x : Di) : Prop := ∀ W b B, Below w.heap.size w W → w.heap.size ≤ b → w.heap.size ≤ B → Di.rdx W b B x
theorem Di.rd.below {w w' : World} {x : Di} (h : Di.rd w x) (hb : Below w.heap.size w w') : Di.rd w' x := fun W b B h1 h2 h3 => h W b B (Bt hb h1) (Nat.le_trans hb.size h2) (Nat.le_trans hb.size h3)
theorem Di.own_rd {w : World} {base : Nat} {x : Di} (h : Di.own w base x) : Di.rd w x := fun _ _ _ hB h1 h2 => ⟨(h.1).rd.out hB h1 h2, fun y hy => Ux.own_rd (h.2.1 y hy) _ _ _ hB h1 h2, (h.2.2.1).rd.out hB h1 h2, (h.2.2.2).rd.out hB h1 h2⟩

set_option maxHeartbeats 400000 in
theorem put1_directory (w : World) (F b X : Nat) (G : Int → World → Prop) (hF : w.cell? ⟨F, 0, none⟩ = some (.func (.func 47) #[] #[]))
    (hc : Calls Tryz.prog 47 #[.pointer (some ⟨b, 0, none⟩), .pointer (some ⟨X, 0, none⟩)] w fun e w' => ∃ err, Abt err e ∧ G err w') :
    Calls Tryz.prog 85 #[.pointer (some ⟨F, 0, none⟩), .pointer (some ⟨b, 0, none⟩), .pointer (some ⟨X, 0, none⟩)] w fun e w' => ∃ err, Abt err e ∧ G err w' := by
  go_enter Tryz.func85, Tryz.ntmps85
  go_wp2_with fail
  refine hc.mono ?_
  rintro e w' ⟨err, he, hG⟩
  rcases he with ⟨rfl, rfl⟩ | ⟨h0, rfl⟩
  · go_wp2
    go_end0
    exact ⟨0, Abt.ok, hG⟩
  · exact ⟨rfl, err, Abt.no h0, hG⟩

set_option maxHeartbeats 1000000 in
theorem put_directory (w : World) (x : Di) (hx : x.ok) (hr : Di.rd w x) :
    Calls Tryz.prog 49 #[.agg (dic x).toArray, .func (.func 47) #[] #[]] w (PutP w (loDi x (0, []))) := by
  have hmf : ∀ (fn : Fn) (first cap : Array Value) (w : World), (Instr.makeFunc fn first cap).run Tryz.prog w = .ok (.func fn first cap) w := fun _ _ _ _ => rfl
  have HR := Lib.hid hr
  go_enter Tryz.func49, Tryz.ntmps49
  go_wp2_with fail
  have hX : Blk (((w.alloc (.cells (dic x).toArray 63)).alloc (.cells #[.func (.func 47) #[] #[]] 92)).alloc (.cells #[.pointer none, .slice none 0 0] 107)) w.heap.size 63 (dic x) := ((Blk.new w _ (dic x)).alloc _).alloc _
  have hF : Blk (((w.alloc (.cells (dic x).toArray 63)).alloc (.cells #[.func (.func 47) #[] #[]] 92)).alloc (.cells #[.pointer none, .slice none 0 0] 107)) (w.heap.size + 1) 92 [.func (.func 47) #[] #[]] := by
    have := (Blk.new (w.alloc (.cells (dic x).toArray 63)) 92 [.func (.func 47) #[] #[]]).alloc (.cells #[.pointer none, .slice none 0 0] 107)
    simpa using this
  have hC : Blk (((w.alloc (.cells (dic x).toArray 63)).alloc (.cells #[.func (.func 47) #[] #[]] 92)).alloc (.cells #[.pointer none, .slice none 0 0] 107)) (w.heap.size + 1 + 1) 107 [.pointer none, .slice none 0 0] := by
    have := Blk.new ((w.alloc (.cells (dic x).toArray 63)).alloc (.cells #[.func (.func 47) #[] #[]] 92)) 107 [.pointer none, .slice none 0 0]
    simpa using this
  have hB : Below w.heap.size w (((w.alloc (.cells (dic x).toArray 63)).alloc (.cells #[.func (.func 47) #[] #[]] 92)).alloc (.cells #[.pointer none, .slice none 0 0] 107)) :=
    (((Below.refl _ w).alloc (Nat.le_refl _) _).alloc (by simp) _).alloc (by simp; omega) _
  have hz : (((w.alloc (.cells (dic x).toArray 63)).alloc (.cells #[.func (.func 47) #[] #[]] 92)).alloc (.cells #[.pointer none, .slice none 0 0] 107)).heap.size = w.heap.size + 1 + 1 + 1 := by simp
  generalize (((w.alloc (.cells (dic x).toArray 63)).alloc (.cells #[.func (.func 47) #[] #[]] 92)).alloc (.cells #[.pointer none, .slice none 0 0] 107)) = w3 at hX hF hC hB hz ⊢
  have hX4 := hX.alloc (.cells #[.int .i64 0] 28)
  have hF4 := hF.alloc (.cells #[.int .i64 0] 28)
  have hC4 := hC.alloc (.cells #[.int .i64 0] 28)
  have hE4 := Blk.new w3 28 [.int .i64 0]
  have hz4 : (w3.alloc (.cells #[.int .i64 0] 28)).heap.size = w.heap.size + 1 + 1 + 1 + 1 := by simp [hz]
  have hB4 : Below w.heap.size w (w3.alloc (.cells #[.int .i64 0] 28)) := hB.alloc (by omega) _
  have HB4 := Lib.hid hB4
  have hCd : CdX (w3.alloc (.cells #[.int .i64 0] 28)) (w.heap.size + 1 + 1) (w.heap.size + 1 + 1 + 1 + 1) [] := ⟨0, none, 0, hC4, Own.nil0 _ _, by omega, by omega, rfl⟩
  have hin : ∀ W, Sem.run Tryz.prog (callFunc 85 #[.pointer (some ⟨w.heap.size + 1, 0, none⟩), .pointer (some ⟨w.heap.size + 1 + 1, 0, none⟩), .pointer (some ⟨w.heap.size, 0, none⟩)]) W = .ok (.enter 85 #[.pointer (some ⟨w.heap.size + 1, 0, none⟩), .pointer (some ⟨w.heap.size + 1 + 1, 0, none⟩), .pointer (some ⟨w.heap.size, 0, none⟩)]) W :=
    fun W => enters_of Tryz.func85 (by kernel_rfl) rfl _ _
  have hcall := directory_enc (w3.alloc (.cells #[.int .i64 0] 28)) (w.heap.size + 1 + 1) (w.heap.size + 1 + 1 + 1 + 1) [] hCd w.heap.size 0 (by omega) (by omega) x hx (hX4.range 0 (fun j _ => by simp)) (HR.out _ _ _ hB4 (by omega) (by omega)) (by simp)
  refine (aborted_any w3 85 _ (fun err w' => LayO (loDi x (0, [])) err (fun l => CdX w' (w.heap.size + 1 + 1) (w.heap.size + 1 + 1 + 1 + 1) l) ∧ Stp (· = w.heap.size + 1 + 1) (w.heap.size + 1 + 1 + 1 + 1) (w3.alloc (.cells #[.int .i64 0] 28)) w') hin
    ((put1_directory _ _ _ _ _ (hF4.cell rfl) hcall).mono ?_)).mono ?_
  · rintro e w' ⟨err, he, h1, h2⟩
    exact ⟨err, he, hE4.stp h2 (by omega) (by omega), h1, h2⟩
  rintro e w' ⟨err, w5, rfl, ⟨⟨h1, h2⟩, hs⟩, hE, rfl⟩
  clear hcall hin hX4 hF4 hC4 hE4 hX hF hC hB
  have hB5 : Below w.heap.size w w5 := hB4.trans (hs.below (by omega) (fun i e => by omega))
  have hB6 : Below w.heap.size w (w5.setCell ⟨w3.heap.size, 0, none⟩ (.int .i64 err)) := hB5.trans ⟨rfl, rfl, rfl, by simp [World.setCell], fun k hk => Below.heap_setCell w5 _ _ k (by simp; omega)⟩
  have HB6 := Lib.hid hB6
  have HZ := Lib.hid hz
  clear hB4 hB5 hB6 hs hz4 hE hz hCd
  by_cases h0 : err = 0
  · obtain ⟨n, ao, co, hCd⟩ := h2 h0
    subst h0
    have hb6 := hCd.blk.setOther ⟨w3.heap.size, 0, none⟩ (.int .i64 0) (by simp; have := HZ.out; omega)
    have ho6 := ownsRow_setCell_below hCd.own (a := ⟨w3.heap.size, 0, none⟩) (by simp; have := HZ.out; omega) (.int .i64 0)
    have HO6 := Lib.hid ho6
    have hc6 := hb6.cell (j := 1) rfl
    have H1 := Lib.hid h1
    clear ho6 hCd h2 h1 hb6
    generalize w5.setCell ⟨w3.heap.size, 0, none⟩ (.int .i64 0) = w6 at HB6 HO6 hc6 ⊢
    go_wp2
    go_ret2
    exact PutP.ok H1.out (Own.lower HO6.out (by omega)) HB6.out
  · have H1 := Lib.hid h1
    clear h1 h2
    generalize w5.setCell ⟨w3.heap.size, 0, none⟩ (.int .i64 err) = w6 at HB6 ⊢
    go_wp2
    go_ret2
    exact PutP.no H1.out h0 HB6.out

set_option maxHeartbeats 1000000 in
theorem putDirectory_any (w : World) (x : Di) (hx : x.ok) (hr : Di.rd w x) :
    Calls Tryz.prog 20 #[.agg (dic x).toArray] w (PutP w (loDi x (0, []))) := by
  have hX := Blk.new w 63 (dic x)
  have hB : Below w.heap.size w (w.alloc (.cells (dic x).toArray 63)) := (Below.refl _ w).alloc (Nat.le_refl _) _
  have HB := Lib.hid hB
  have IS : Hid ((Tryz.prog.info? 63).map (·.size) = some (dic x).length) := Lib.hid (by rw [dic_length hx]; exact info_directory)
  have hrg := hX.range 0 (cs := dic x) (fun j _ => by simp)
  have HR := Lib.hid hr
  clear hB hr
  go_enter Tryz.func20, Tryz.ntmps20
  go_wp2_with ((with_reducible refine wpList_loadM (o := ⟨some 4, _, _, _, _, _⟩) ?_ w.heap.size 0 63 (.tmp 1) ?_ ?_ hrg Tryz.underlying63 ?_ IS.out ?_); rfl; rfl; rfl; rfl)
  refine (put_directory _ x hx (HR.out.below HB.out)).mono ?_
  rintro e w1 ⟨v, rfl, hO, hB1⟩
  have HO := Lib.hid hO
  have HB1 := Lib.hid hB1
  clear hO hB1
  have HP : Hid (∀ W, W = w1 → PutP w (loDi x (0, [])) (.returned (.tuple #[v, .int .i64 (loDi x (0, [])).1])) W) :=
    Lib.hid (fun W e => by subst e; exact ⟨v, rfl, Own.lower HO.out (by simp), HB.out.trans (HB1.out.mono (by simp))⟩)
  generalize (loDi x (0, [])).1 = err at HP ⊢
  go_wp2
  go_ret2
  exact HP.out _ rfl

set_option maxHeartbeats 1000000 in
theorem get1_directory (w : World) (F b X : Nat) (G : Int → World → Prop) (hF : w.cell? ⟨F, 0, none⟩ = some (.func (.func 47) #[] #[]))
    (hc : Calls Tryz.prog 47 #[.pointer (some ⟨b, 0, none⟩), .pointer (some ⟨X, 0, none⟩)] w fun e w' => ∃ err, Abt err e ∧ G err w') :
    Calls Tryz.prog 77 #[.pointer (some ⟨F, 0, none⟩), .pointer (some ⟨b, 0, none⟩), .pointer (some ⟨X, 0, none⟩)] w fun e w' => ∃ err, Abt err e ∧ G err w' := by
  go_enter Tryz.func77, Tryz.ntmps77
  go_wp2_with fail
  refine hc.mono ?_
  rintro e w' ⟨err, he, hG⟩
  rcases he with ⟨rfl, rfl⟩ | ⟨h0, rfl⟩
  · go_wp2
    go_end0
    exact ⟨0, Abt.ok, hG⟩
  · exact ⟨rfl, err, Abt.no h0, hG⟩

/-- what a get makes of bytes -/
def gDir (l : List UInt8) : Di × Int := match gDi l with
  | some (x, []) => (x, 0)
  | _ => (di0, 60)

def GetP_directory (w : World) (l : List UInt8) (e : Ending) (w' : World) : Prop :=
  ∃ y : Di, y.cl = (gDir l).1 ∧ y.ok ∧ e = .returned (.tuple #[.agg (dic y).toArray, .int .i64 (gDir l).2]) ∧ Di.own w' w.heap.size y ∧ Below w.heap.size w w'

set_option maxHeartbeats 1000000 in
theorem get_directory (w : World) (a : Option Addr) (n c : Nat) (l : List UInt8) (hr : Rd w a n c l) (hn : n ≤ 70000000000000) :
    Calls Tryz.prog 46 #[.slice a n c, .func (.func 47) #[] #[]] w (GetP_directory w l) := by
  have hmf : ∀ (fn : Fn) (first cap : Array Value) (w : World), (Instr.makeFunc fn first cap).run Tryz.prog w = .ok (.func fn first cap) w := fun _ _ _ _ => rfl
  go_enter Tryz.func46, Tryz.ntmps46
  go_wp2_with (first | ((with_reducible refine wpList_allocB (o := ⟨some 4, _, _, _, _, _⟩) ?_ 63 ?_ di0_info ?_); rfl; rfl; intro w1 hb1 hg1 hz1) | ((with_reducible refine wpList_allocB (o := ⟨some 6, _, _, _, _, _⟩) ?_ 63 ?_ di0_info ?_); rfl; rfl; intro w2 hb2 hg2 hz2) | ((with_reducible refine wpList_allocB (o := ⟨some 7, _, _, _, _, _⟩) ?_ 63 ?_ di0_info ?_); rfl; rfl; intro w3 hb3 hg3 hz3))
  have hzw : (w.alloc (.cells #[.func (.func 47) #[] #[]] 92)).heap.size = w.heap.size + 1 := by simp
  have hF0 := Blk.new w 92 [.func (.func 47) #[] #[]]
  have hBw : Below w.heap.size w (w.alloc (.cells #[.func (.func 47) #[] #[]] 92)) := (Below.refl _ w).alloc (Nat.le_refl _) _
  have hb1w : Below (w.alloc (.cells #[.func (.func 47) #[] #[]] 92)).heap.size (w.alloc (.cells #[.func (.func 47) #[] #[]] 92)) w1 := (Below.refl _ _).grown hg1 (Nat.le_refl _) (by simp)
  have hb2w : Below w1.heap.size w1 w2 := (Below.refl _ _).grown hg2 (Nat.le_refl _) (by simp)
  have hb3w : Below w2.heap.size w2 w3 := (Below.refl _ _).grown hg3 (Nat.le_refl _) (by simp)
  have hF3 : Blk w3 w.heap.size 92 [.func (.func 47) #[] #[]] := ((hF0.below hb1w).below hb2w).below hb3w
  have hR3 : Blk w3 (w.heap.size + 1) 63 (dic di0) := by have := (hb1.below hb2w).below hb3w; rw [hzw] at this; exact this
  have hX3 : Blk w3 (w.heap.size + 1 + 1) 63 (dic di0) := by have := hb2.below hb3w; rw [hz1, hzw] at this; exact this
  have hN3 : Blk w3 (w.heap.size + 1 + 1 + 1) 63 (dic di0) := by have := hb3; rw [hz2, hz1, hzw] at this; exact this
  have hs3 : w3.heap.size = w.heap.size + 1 + 1 + 1 + 1 := by omega
  have hB3 : Below w.heap.size w w3 := Bt hBw ((hb1w.trans (hb2w.mono hb1w.size)).trans (hb3w.mono (by have := hb1w.size; have := hb2w.size; omega)))
  have hr3 := hr.below hB3
  clear hzw hF0 hBw hb1w hb2w hb3w hb1 hb2 hb3 hg1 hg2 hg3 hz1 hz2 hz3
  refine (new_own w3 a n c l hr3 hn).mono ?_
  rintro e w4 ⟨r, a', c', rfl, hr1, hr2, hRd4, hO4, hB4⟩
  have HR1 := Lib.hid hr1
  have HR2 := Lib.hid hr2
  have HS3 := Lib.hid hs3
  have HBC : Hid (Tryz.prog.built 107 [(0, .pointer (some ⟨r, 0, none⟩))] = some ([.pointer (some ⟨r, 0, none⟩), .slice none 0 0] : List Value).toArray) := Lib.hid (built_coder r)
  have IC : Hid ((Tryz.prog.info? 107).map (·.size) = some ([.pointer (some ⟨r, 0, none⟩), .slice none 0 0] : List Value).length) := Lib.hid (by kernel_rfl)
  have HONE : Hid (∀ v ∈ ([.pointer (some ⟨r, 0, none⟩), .slice none 0 0] : List Value), v.oneCell' = true) := Lib.hid (by intro v hv; simp at hv; rcases hv with rfl | rfl <;> rfl)
  clear hr1 hr2 hs3 hr3
  go_wp2_with (first | ((with_reducible refine wpList_buildI (dst := some 12) HBC.out ?_ ?_); rfl) | ((with_reducible refine wpList_allocB (o := ⟨some 8, _, _, _, _, _⟩) ?_ 107 ?_ coder_info ?_); rfl; rfl; intro w5 hb5 hg5 hz5) | ((with_reducible refine wpList_storeB (o := ⟨none, .store 107 (.tmp 8) (.tmp 12), _, _, _, _⟩) ?_ 107 (.tmp 8) (.tmp 12) ?_ ?_ ?_ hb5 IC.out rfl HONE.out ?_); rfl; rfl; rfl; rfl; intro w6 hb6 hg6 hz6))
  have hB46 : Below w4.heap.size w4 w6 := ((Below.refl _ w4).grown hg5 (Nat.le_refl _) (by simp)).grown hg6 (by omega) (fun k e => by cases e; exact Nat.le_refl _)
  have hB36 : Below w3.heap.size w3 w6 := Bt hB4 hB46
  have hs46 : w4.heap.size + 1 = w6.heap.size := by omega
  have hO6 := hO4.below hB46
  have hRd6 := hRd4.below hB46
  have hF6 := hF3.below hB36
  have hR6 := hR3.below hB36
  have hX6 := hX3.below hB36
  have hN6 := hN3.below hB36
  have hB6 : Below w.heap.size w w6 := hB3.trans (hB36.mono hB3.size)
  have h34 := hB4.size
  clear hb5 hg5 hz5 hg6 hz6 hB46 hB36 hF3 hR3 hX3 hN3 hRd4 hO4 hB4
  generalize hA : w3.heap.size = A at *
  generalize hb : w4.heap.size = b at *
  have hE7 := Blk.new w6 28 [.int .i64 0]
  have hz7 : (w6.alloc (.cells #[.int .i64 0] 28)).heap.size = b + 1 + 1 := by simp; omega
  have hD7 : Dc A a' n c' l b r (w.heap.size + 1 + 1) (b + 1 + 1) 63 (w6.alloc (.cells #[.int .i64 0] 28)) l (dic di0) :=
    ⟨World.ownsRow.alloc hO6 _, hb6.alloc _, hX6.alloc _, ⟨a', n, c', hRd6.alloc _, fun W h => h⟩, by have := HR1.out; have := HR2.out; have := HS3.out; omega, by have := HR1.out; have := HR2.out; have := HS3.out; omega, by decide, by omega⟩
  have hR7 := hR6.alloc (.cells #[.int .i64 0] 28)
  have hN7 := hN6.alloc (.cells #[.int .i64 0] 28)
  have hF7 := hF6.alloc (.cells #[.int .i64 0] 28)
  have hB7 : Below w.heap.size w (w6.alloc (.cells #[.int .i64 0] 28)) := hB6.alloc (by have := HS3.out; omega) _
  have hin : ∀ W, Sem.run Tryz.prog (callFunc 77 #[.pointer (some ⟨w.heap.size, 0, none⟩), .pointer (some ⟨b, 0, none⟩), .pointer (some ⟨w.heap.size + 1 + 1, 0, none⟩)]) W = .ok (.enter 77 #[.pointer (some ⟨w.heap.size, 0, none⟩), .pointer (some ⟨b, 0, none⟩), .pointer (some ⟨w.heap.size + 1 + 1, 0, none⟩)]) W :=
    fun W => enters_of Tryz.func77 (by kernel_rfl) rfl _ _
  have hcall := directory_dec A a' n c' l b r (w.heap.size + 1 + 1) (b + 1 + 1) 63 (w6.alloc (.cells #[.int .i64 0] 28)) l (dic di0) hD7 0 (by rw [dic_length di0_ok]; omega) rfl rfl rfl (by decide) (by decide) (by decide) (by decide)
  refine (aborted_any w6 77 _ (fun err w' => (DecI (gDi l) err fun x l' => ∃ y : Di, y.cl = x ∧ y.ok ∧ Dc A a' n c' l b r (w.heap.size + 1 + 1) (b + 1 + 1) 63 w' l' (splice (dic di0) 0 (dic y)) ∧ Di.own w' (b + 1 + 1) y) ∧ Stp (fun k => k = r ∨ k = w.heap.size + 1 + 1) (b + 1 + 1) (w6.alloc (.cells #[.int .i64 0] 28)) w') hin
    ((get1_directory _ _ _ _ _ (hF7.cell rfl) hcall).mono ?_)).mono ?_
  · rintro e w' ⟨err, he, h1, h2⟩
    exact ⟨err, he, hE7.stp h2 (by omega) (by have := HR1.out; have := HR2.out; have := HS3.out; omega), h1, h2⟩
  rintro e w' ⟨err, w8, rfl, ⟨hdec, hs⟩, hE8, rfl⟩
  have hR8 := hR7.stp hs (by have := HS3.out; omega) (by have := HR1.out; have := HR2.out; have := HS3.out; omega)
  have hN8 := hN7.stp hs (by have := HS3.out; omega) (by have := HR1.out; have := HR2.out; have := HS3.out; omega)
  have hB8 : Below w.heap.size w w8 := hB7.trans (hs.below (by have := HS3.out; omega) (fun i e => by have := HR1.out; have := HS3.out; omega))
  clear hcall hin hE7 hD7 hR7 hN7 hF7 hB7 hB6 hO6 hRd6 hF6 hR6 hX6 hN6 hb6 hs
  have hgE := set_grown w8 w6.heap.size 0 (.int .i64 err)
  have hR9 := hR8.grown hgE (by simp; have := HS3.out; omega)
  have hN9 := hN8.grown hgE (by simp; have := HS3.out; omega)
  have hB9 : Below w.heap.size w (w8.setCell ⟨w6.heap.size, 0, none⟩ (.int .i64 err)) := hB8.grown hgE hB8.size (fun k e => by cases e; have := HS3.out; omega)
  have IS : Hid ((Tryz.prog.info? 63).map (·.size) = some (dic di0).length) := Lib.hid (by rw [dic_length di0_ok]; exact info_directory)
  have HRL := Lib.hid hR8.lt
  by_cases h0 : err = 0
  · subst h0
    obtain ⟨_, _, l', hg, x, rfl, hx, hD8, hW8⟩ | ⟨h1, _⟩ := hdec
    rotate_left
    · exact absurd rfl h1
    rw [splice_whole _ _ (by rw [dic_length hx, dic_length di0_ok])] at hD8
    have HW9 := Lib.hid (Di.own_lower (B := w.heap.size) (Di.own_keep hW8 (KpT.grown hgE (fun g e => by cases e; exact hE8.noT (by decide))) (KpT.grown hgE (fun g e => by cases e; exact hE8.noT (by decide))) (KpT.grown hgE (fun g e => by cases e; exact hE8.noT (by decide))) (KpT.grown hgE (fun g e => by cases e; exact hE8.noT (by decide)))) (by have := HR1.out; have := HS3.out; have := HR2.out; omega))
    have hX9 := hD8.xb.grown hgE (by simp; have := HS3.out; omega)
    have hC9 := hD8.cb.grown hgE (by simp; omega)
    have hO9 := hD8.orig.keptC hgE hE8.at_ (by decide)
    obtain ⟨a9, n9, c9, h91, h92⟩ := hD8.rd
    have h93 := h91.grown hgE (by simp; have := HR2.out; omega)
    have hRdr : Rdr (w8.setCell ⟨w6.heap.size, 0, none⟩ (.int .i64 0)) r l' := ⟨a9, n9, c9, h93.at_, h92 _ hO9.rd⟩
    have hc9 := hC9.cell (j := 0) rfl
    have ISX : Hid ((Tryz.prog.info? 63).map (·.size) = some (dic x).length) := Lib.hid (by rw [dic_length hx]; exact info_directory)
    have HONE1 : Hid (∀ v ∈ dic x, v.oneCell' = true) := Lib.hid (dic_one x)
    have HONE0 : Hid (∀ v ∈ dic di0, v.oneCell' = true) := Lib.hid (dic_one di0)
    have HL1 : Hid ((dic di0).length = (dic x).length) := Lib.hid (by rw [dic_length hx, dic_length di0_ok])
    have HG := Lib.hid hg
    have HB9 := Lib.hid hB9
    clear hD8 hW8 hC9 hO9 h91 h92 h93 hgE hR8 hN8 hB8 hB9 hE8 hg
    generalize w8.setCell ⟨w6.heap.size, 0, none⟩ (.int .i64 0) = w9 at *
    by_cases hl : l' = []
    · subst hl
      have HFIN : Hid (∀ W, Below w.heap.size w W → Di.own W w.heap.size x → GetP_directory w l (.returned (.tuple #[.agg (dic x).toArray, .int .i64 0])) W) := Lib.hid (fun W hW hw => ⟨x, by simp [gDir, HG.out], hx, by simp [gDir, HG.out], hw, hW⟩)
      go_wp2_with fail
      refine (left_any w9 r [] hRdr).mono ?_
      rintro e w' ⟨rfl, rfl⟩
      go_wp2_with (first | ((with_reducible refine wpList_loadB (o := ⟨some 24, _, _, _, _, _⟩) ?_ 63 (.tmp 6) ?_ ?_ hX9 Tryz.underlying63 ?_ ISX.out ?_); rfl; rfl; rfl; rfl) | ((with_reducible refine wpList_storeB (o := ⟨none, .store 63 (.tmp 4) (.tmp 24), _, _, _, _⟩) ?_ 63 (.tmp 4) (.tmp 24) ?_ ?_ ?_ hR9 ISX.out HL1.out HONE1.out ?_); rfl; rfl; rfl; rfl; intro wA hbA hgA hzA))
      apply bodyPost_ret
      exact results_blk2 rfl _ _ _ _ _ _ rfl hbA Tryz.underlying63 rfl ISX.out
      rfl
      exact HFIN.out _ (HB9.out.grown hgA HB9.out.size (fun k e => by cases e; omega)) (Di.own_keep HW9.out (KpT.grown hgA (fun g e => by cases e; exact hR9.noT (by decide))) (KpT.grown hgA (fun g e => by cases e; exact hR9.noT (by decide))) (KpT.grown hgA (fun g e => by cases e; exact hR9.noT (by decide))) (KpT.grown hgA (fun g e => by cases e; exact hR9.noT (by decide))))
    · have hll : 0 < l'.length := List.length_pos_iff.2 hl
      have HFIN : Hid (∀ W, Below w.heap.size w W → GetP_directory w l (.returned (.tuple #[.agg (dic di0).toArray, .int .i64 60])) W) := Lib.hid (fun W hW => ⟨di0, by unfold gDir; rw [HG.out]; cases l' with | nil => exact absurd rfl hl | cons _ _ => rfl, di0_ok, by unfold gDir; rw [HG.out]; cases l' with | nil => exact absurd rfl hl | cons _ _ => rfl, di0_own, hW⟩)
      go_wp2_with fail
      refine (left_any w9 r l' hRdr).mono ?_
      rintro e w' ⟨rfl, rfl⟩
      go_wp2_with (first | ((with_reducible refine wpList_loadB (o := ⟨some 23, _, _, _, _, _⟩) ?_ 63 (.tmp 7) ?_ ?_ hN9 Tryz.underlying63 ?_ IS.out ?_); rfl; rfl; rfl; rfl) | ((with_reducible refine wpList_storeB (o := ⟨none, .store 63 (.tmp 4) (.tmp 23), _, _, _, _⟩) ?_ 63 (.tmp 4) (.tmp 23) ?_ ?_ ?_ hR9 IS.out rfl HONE0.out ?_); rfl; rfl; rfl; rfl; intro wA hbA hgA hzA))
      apply bodyPost_ret
      exact results_blk2 rfl _ _ _ _ _ _ rfl hbA Tryz.underlying63 rfl IS.out
      rfl
      exact HFIN.out _ (HB9.out.grown hgA HB9.out.size (fun k e => by cases e; omega))
  · obtain ⟨h1, _⟩ | ⟨_, hg⟩ := hdec
    · exact absurd h1 h0
    have HONE0 : Hid (∀ v ∈ dic di0, v.oneCell' = true) := Lib.hid (dic_one di0)
    have HFIN : Hid (∀ W, Below w.heap.size w W → GetP_directory w l (.returned (.tuple #[.agg (dic di0).toArray, .int .i64 60])) W) := Lib.hid (fun W hW => ⟨di0, by simp only [gDir, hg]; rfl, di0_ok, by simp only [gDir, hg], di0_own, hW⟩)
    have HB9 := Lib.hid hB9
    clear hgE hR8 hN8 hB8 hB9 hE8 hg
    generalize w8.setCell ⟨w6.heap.size, 0, none⟩ (.int .i64 err) = w9 at *
    go_wp2_with (first | ((with_reducible refine wpList_loadB (o := ⟨some 23, _, _, _, _, _⟩) ?_ 63 (.tmp 7) ?_ ?_ hN9 Tryz.underlying63 ?_ IS.out ?_); rfl; rfl; rfl; rfl) | ((with_reducible refine wpList_storeB (o := ⟨none, .store 63 (.tmp 4) (.tmp 23), _, _, _, _⟩) ?_ 63 (.tmp 4) (.tmp 23) ?_ ?_ ?_ hR9 IS.out rfl HONE0.out ?_); rfl; rfl; rfl; rfl; intro wA hbA hgA hzA))
    apply bodyPost_ret
    exact results_blk2 rfl _ _ _ _ _ _ rfl hbA Tryz.underlying63 rfl IS.out
    rfl
    exact HFIN.out _ (HB9.out.grown hgA HB9.out.size (fun k e => by cases e; omega))


set_option maxHeartbeats 1000000 in
theorem getDirectory_any (w : World) (a : Option Addr) (n c : Nat) (l : List UInt8) (hr : Rd w a n c l) (hn : n ≤ 70000000000000) :
    Calls Tryz.prog 18 #[.slice a n c] w (GetP_directory w l) := by
  go_enter Tryz.func18, Tryz.ntmps18
  go_wp2_with (first | ((with_reducible refine wpList_allocB (o := ⟨some 2, _, _, _, _, _⟩) ?_ 63 ?_ di0_info ?_); rfl; rfl; intro w1 hb1 hg1 hz1))
  have hB1 : Below w.heap.size w w1 := (Below.refl _ w).grown hg1 (Nat.le_refl _) (by simp)
  refine (get_directory w1 a n c l (hr.below hB1) hn).mono ?_
  rintro e w2 ⟨y, hy1, hy2, rfl, hO2, hB2⟩
  have hb2 := hb1.below hB2
  have HB2 := Lib.hid (Bt hB1 hB2)
  have HW2 := Lib.hid (Di.own_lower hO2 hB1.size)
  have IS : Hid ((Tryz.prog.info? 63).map (·.size) = some (dic y).length) := Lib.hid (by rw [dic_length hy2]; exact info_directory)
  have HL : Hid ((dic di0).length = (dic y).length) := Lib.hid (by rw [dic_length hy2, dic_length di0_ok])
  have HONE : Hid (∀ v ∈ dic y, v.oneCell' = true) := Lib.hid (dic_one _)
  have HFIN : Hid (∀ W, Below w.heap.size w W → Di.own W w.heap.size y → GetP_directory w l (.returned (.tuple #[.agg (dic y).toArray, .int .i64 (gDir l).2])) W) := Lib.hid (fun W hW hw => ⟨y, hy1, hy2, rfl, hw, hW⟩)
  generalize (gDir l).2 = err at *
  clear hb1 hg1 hB1 hB2 hO2 hy1 hy2
  go_wp2_with (first | ((with_reducible refine wpList_storeB (o := ⟨none, .store 63 (.tmp 2) (.tmp 6), _, _, _, _⟩) ?_ 63 (.tmp 2) (.tmp 6) ?_ ?_ ?_ hb2 IS.out HL.out HONE.out ?_); rfl; rfl; rfl; rfl; intro wA hbA hgA hzA))
  apply bodyPost_ret
  exact results_blk2 rfl _ _ _ _ _ _ rfl hbA Tryz.underlying63 rfl IS.out
  rfl
  exact HFIN.out _ (HB2.out.grown hgA HB2.out.size (fun k e => by cases e; exact Nat.le_refl _)) (Di.own_keep HW2.out (KpT.grown hgA (fun g e => by cases e; exact hb2.noT (by decide))) (KpT.grown hgA (fun g e => by cases e; exact hb2.noT (by decide))) (KpT.grown hgA (fun g e => by cases e; exact hb2.noT (by decide))) (KpT.grown hgA (fun g e => by cases e; exact hb2.noT (by decide))))

end Go.Proofs.YtoclahcibilbhaaGreat
