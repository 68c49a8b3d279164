/-
  PutSigned.
-/
import Derived.Test.YtgbhfpkngjlfkaaWirB
import Derived.Test.YtgbhfpkngjlfkaaLibO
namespace Go.Proofs.Ytgbhfpkngjlfkaa
open Go.RowKit
set_option maxRecDepth 100000

theorem coder_info : (Try.prog.info? 115).map (fun i => (i.zero, i.size)) = some (some (.agg #[.pointer none, .slice none 0 0]), 2) := by kernel_rfl

set_option maxHeartbeats 400000 in
theorem putS1 (w : World) (F b X : Nat) (G : Int → World → Prop) (hF : w.cell? ⟨F, 0, none⟩ = some (.func (.func 52) #[] #[]))
    (hc : Calls Try.prog 52 #[.pointer (some ⟨b, 0, none⟩), .pointer (some ⟨X, 0, none⟩)] w fun e w' => ∃ err, Abt err e ∧ G err w') :
    Calls Try.prog 82 #[.pointer (some ⟨F, 0, none⟩), .pointer (some ⟨b, 0, none⟩), .pointer (some ⟨X, 0, none⟩)] w fun e w' => ∃ err, Abt err e ∧ G err w' := by
  go_enter Try.func82, Try.ntmps82
  go_wp2_with fail
  refine hc.mono ?_
  rintro e w' ⟨err, he, hG⟩
  rcases he with ⟨rfl, rfl⟩ | ⟨h0, rfl⟩
  · go_wp2
    go_end0
    exact ⟨0, Abt.ok, hG⟩
  · exact ⟨rfl, err, Abt.no h0, hG⟩

/-- what a put hands back: what is laid, or the error -/
def PutP (w : World) (o : Lo) (e : Ending) (w' : World) : Prop :=
  ∃ v, e = .returned (.tuple #[v, .int .i64 o.1]) ∧ Own w' w.heap.size v (if o.1 = 0 then o.2 else []) ∧ Below w.heap.size w w'
theorem PutP.ok {w w' : World} {o : Lo} {v : Value} (h : 0 = o.1) (hO : Own w' w.heap.size v o.2) (hB : Below w.heap.size w w') : PutP w o (.returned (.tuple #[v, .int .i64 0])) w' :=
  ⟨v, by rw [← h], by rw [← h, if_pos rfl]; exact hO, hB⟩
theorem PutP.no {w w' : World} {o : Lo} {x : Int} (h : x = o.1) (h0 : x ≠ 0) (hB : Below w.heap.size w w') : PutP w o (.returned (.tuple #[.slice none 0 0, .int .i64 x])) w' :=
  ⟨_, by rw [← h], by rw [← h, if_neg h0]; exact Own.nil0 _ _, hB⟩

set_option maxHeartbeats 400000 in
theorem putS (w : World) (x : Sg) (hx : x.ok) :
    Calls Try.prog 51 #[.agg (sgc x).toArray, .func (.func 52) #[] #[]] w (PutP w (loS x (0, []))) := by
  have hmf : ∀ (fn : Fn) (first cap : Array Value) (w : World), (Instr.makeFunc fn first cap).run Try.prog w = .ok (.func fn first cap) w := fun _ _ _ _ => rfl
  go_enter Try.func51, Try.ntmps51
  go_wp2_with fail
  have hX : Blk (((w.alloc (.cells (sgc x).toArray 54)).alloc (.cells #[.func (.func 52) #[] #[]] 97)).alloc (.cells #[.pointer none, .slice none 0 0] 115)) w.heap.size 54 (sgc x) := ((Blk.new w _ (sgc x)).alloc _).alloc _
  have hF : Blk (((w.alloc (.cells (sgc x).toArray 54)).alloc (.cells #[.func (.func 52) #[] #[]] 97)).alloc (.cells #[.pointer none, .slice none 0 0] 115)) (w.heap.size + 1) 97 [.func (.func 52) #[] #[]] := by
    have := (Blk.new (w.alloc (.cells (sgc x).toArray 54)) 97 [.func (.func 52) #[] #[]]).alloc (.cells #[.pointer none, .slice none 0 0] 115)
    simpa using this
  have hC : Blk (((w.alloc (.cells (sgc x).toArray 54)).alloc (.cells #[.func (.func 52) #[] #[]] 97)).alloc (.cells #[.pointer none, .slice none 0 0] 115)) (w.heap.size + 1 + 1) 115 [.pointer none, .slice none 0 0] := by
    have := Blk.new ((w.alloc (.cells (sgc x).toArray 54)).alloc (.cells #[.func (.func 52) #[] #[]] 97)) 115 [.pointer none, .slice none 0 0]
    simpa using this
  have hB : Below w.heap.size w (((w.alloc (.cells (sgc x).toArray 54)).alloc (.cells #[.func (.func 52) #[] #[]] 97)).alloc (.cells #[.pointer none, .slice none 0 0] 115)) :=
    (((Below.refl _ w).alloc (Nat.le_refl _) _).alloc (by simp) _).alloc (by simp; omega) _
  have hz : (((w.alloc (.cells (sgc x).toArray 54)).alloc (.cells #[.func (.func 52) #[] #[]] 97)).alloc (.cells #[.pointer none, .slice none 0 0] 115)).heap.size = w.heap.size + 1 + 1 + 1 := by simp
  generalize (((w.alloc (.cells (sgc x).toArray 54)).alloc (.cells #[.func (.func 52) #[] #[]] 97)).alloc (.cells #[.pointer none, .slice none 0 0] 115)) = w3 at hX hF hC hB hz ⊢
  have hX4 := hX.alloc (.cells #[.int .i64 0] 28)
  have hF4 := hF.alloc (.cells #[.int .i64 0] 28)
  have hC4 := hC.alloc (.cells #[.int .i64 0] 28)
  have hE4 := Blk.new w3 28 [.int .i64 0]
  have hz4 : (w3.alloc (.cells #[.int .i64 0] 28)).heap.size = w.heap.size + 1 + 1 + 1 + 1 := by simp [hz]
  have hB4 : Below w.heap.size w (w3.alloc (.cells #[.int .i64 0] 28)) := hB.alloc (by omega) _
  have HB4 := Lib.hid hB4
  have hCd : CdX (w3.alloc (.cells #[.int .i64 0] 28)) (w.heap.size + 1 + 1) (w.heap.size + 1 + 1 + 1 + 1) [] := ⟨0, none, 0, hC4, Own.nil0 _ _, by omega, by omega, rfl⟩
  have hin : ∀ W, Sem.run Try.prog (callFunc 82 #[.pointer (some ⟨w.heap.size + 1, 0, none⟩), .pointer (some ⟨w.heap.size + 1 + 1, 0, none⟩), .pointer (some ⟨w.heap.size, 0, none⟩)]) W = .ok (.enter 82 #[.pointer (some ⟨w.heap.size + 1, 0, none⟩), .pointer (some ⟨w.heap.size + 1 + 1, 0, none⟩), .pointer (some ⟨w.heap.size, 0, none⟩)]) W :=
    fun W => enters_of Try.func82 (by kernel_rfl) rfl _ _
  have hcall := (signed_enc (w3.alloc (.cells #[.int .i64 0] 28)) (w.heap.size + 1 + 1) (w.heap.size + 1 + 1 + 1 + 1) [] hCd w.heap.size 0 54 (sgc x) hX4 (by omega) (by omega) x hx (fun j _ => by simp) (by simp))
  refine (aborted_any w3 82 _ (fun err w' => LayO (loS x (0, [])) err (fun l => CdX w' (w.heap.size + 1 + 1) (w.heap.size + 1 + 1 + 1 + 1) l) ∧ Stp (· = w.heap.size + 1 + 1) (w.heap.size + 1 + 1 + 1 + 1) (w3.alloc (.cells #[.int .i64 0] 28)) w') hin
    ((putS1 _ _ _ _ _ (hF4.cell rfl) hcall).mono ?_)).mono ?_
  · rintro e w' ⟨err, he, h1, h2⟩
    exact ⟨err, he, hE4.stp h2 (by omega) (by omega), h1, h2⟩
  rintro e w' ⟨err, w5, rfl, ⟨⟨h1, h2⟩, hs⟩, hE, rfl⟩
  clear hcall hin hX4 hF4 hC4 hE4 hX hF hC hB
  have hB5 : Below w.heap.size w w5 := hB4.trans (hs.below (by omega) (fun i e => by omega))
  have hB6 : Below w.heap.size w (w5.setCell ⟨w3.heap.size, 0, none⟩ (.int .i64 err)) := hB5.trans ⟨rfl, rfl, rfl, by simp [World.setCell], fun k hk => Below.heap_setCell w5 _ _ k (by simp; omega)⟩
  have HB6 := Lib.hid hB6
  have HZ := Lib.hid hz
  clear hB4 hB5 hB6 hs hz4 hE hz hCd
  by_cases h0 : err = 0
  · obtain ⟨n, ao, co, hCd⟩ := h2 h0
    subst h0
    have hb6 := hCd.blk.setOther ⟨w3.heap.size, 0, none⟩ (.int .i64 0) (by simp; have := HZ.out; omega)
    have ho6 := ownsRow_setCell_below hCd.own (a := ⟨w3.heap.size, 0, none⟩) (by simp; have := HZ.out; omega) (.int .i64 0)
    have HO6 := Lib.hid ho6
    have hc6 := hb6.cell (j := 1) rfl
    have H1 := Lib.hid h1
    clear ho6 hCd h2 h1 hb6
    generalize w5.setCell ⟨w3.heap.size, 0, none⟩ (.int .i64 0) = w6 at HB6 HO6 hc6 ⊢
    go_wp2
    go_ret2
    exact PutP.ok H1.out (Own.lower HO6.out (by omega)) HB6.out
  · have H1 := Lib.hid h1
    clear h1 h2
    generalize w5.setCell ⟨w3.heap.size, 0, none⟩ (.int .i64 err) = w6 at HB6 ⊢
    go_wp2
    go_ret2
    exact PutP.no H1.out h0 HB6.out

theorem putSigned_any (w : World) (x : Sg) (hx : x.ok) :
    Calls Try.prog 25 #[.agg (sgc x).toArray] w (PutP w (loS x (0, []))) := by
  have hX := Blk.new w 54 (sgc x)
  have hB : Below w.heap.size w (w.alloc (.cells (sgc x).toArray 54)) := (Below.refl _ w).alloc (Nat.le_refl _) _
  have HB := Lib.hid hB
  have IS : Hid ((Try.prog.info? 54).map (·.size) = some (sgc x).length) := Lib.hid (by rw [sgc_length hx]; kernel_rfl)
  have hr := hX.range 0 (cs := sgc x) (fun j _ => by simp)
  clear hB
  go_enter Try.func25, Try.ntmps25
  go_wp2_with ((with_reducible refine wpList_loadM (o := ⟨some 4, _, _, _, _, _⟩) ?_ w.heap.size 0 54 (.tmp 1) ?_ ?_ hr Try.underlying54 ?_ IS.out ?_); rfl; rfl; rfl; rfl)
  refine (putS _ x hx).mono ?_
  rintro e w1 ⟨v, rfl, hO, hB1⟩
  have HO := Lib.hid hO
  have HB1 := Lib.hid hB1
  clear hO hB1
  have HP : Hid (∀ W, W = w1 → PutP w (loS x (0, [])) (.returned (.tuple #[v, .int .i64 (loS x (0, [])).1])) W) :=
    Lib.hid (fun W e => by subst e; exact ⟨v, rfl, Own.lower HO.out (by simp), HB.out.trans (HB1.out.mono (by simp))⟩)
  generalize (loS x (0, [])).1 = err at HP ⊢
  go_wp2
  go_ret2
  exact HP.out _ rfl

end Go.Proofs.Ytgbhfpkngjlfkaa
