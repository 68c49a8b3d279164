/-
  GetSigned.
-/
import Derived.Test.YtgbhfpkngjlfkaaWirE
import Derived.Test.YtgbhfpkngjlfkaaWirP
namespace Go.Proofs.Ytgbhfpkngjlfkaa
open Go.RowKit
set_option maxRecDepth 100000

set_option maxHeartbeats 1000000 in
/-- New, and where the bytes lie then: in a row of the call's own -/
theorem new_own (w : World) (a : Option Addr) (n c : Nat) (l : List UInt8) (hr : Rd w a n c l) (hn : n ≤ 1099511627776) :
    Calls Try.prog 69 #[.slice a n c] w fun e w' => ∃ r a' c', e = .returned (.pointer (some ⟨r, 0, none⟩)) ∧ w.heap.size ≤ r ∧ r < w'.heap.size ∧ Blk w' r 174 [.slice a' n c'] ∧ Own w' w.heap.size (.slice a' n c') l ∧ Below w.heap.size w w' := by
  go_enter Try.func69, Try.ntmps69
  go_wp2_with fail
  refine (roomy_own w a n c l 0 hr (by omega) (by omega) (by omega)).mono ?_
  rintro e w1 ⟨a1, c1, rfl, hO1, hB1⟩
  go_wp2_with fail
  go_ret
  have hB2 : Below w1.heap.size w1 (w1.alloc (.cells #[.slice a1 n c1] 174)) := (Below.refl _ _).alloc (Nat.le_refl _) _
  exact ⟨w1.heap.size, a1, c1, rfl, hB1.size, by simp, Blk.new w1 _ _, hO1.below hB2, Bt hB1 hB2⟩

theorem getS1 (w : World) (F b X : Nat) (G : Int → World → Prop) (hF : w.cell? ⟨F, 0, none⟩ = some (.func (.func 52) #[] #[]))
    (hc : Calls Try.prog 52 #[.pointer (some ⟨b, 0, none⟩), .pointer (some ⟨X, 0, none⟩)] w fun e w' => ∃ err, Abt err e ∧ G err w') :
    Calls Try.prog 85 #[.pointer (some ⟨F, 0, none⟩), .pointer (some ⟨b, 0, none⟩), .pointer (some ⟨X, 0, none⟩)] w fun e w' => ∃ err, Abt err e ∧ G err w' := by
  go_enter Try.func85, Try.ntmps85
  go_wp2_with fail
  refine hc.mono ?_
  rintro e w' ⟨err, he, hG⟩
  rcases he with ⟨rfl, rfl⟩ | ⟨h0, rfl⟩
  · go_wp2
    go_end0
    exact ⟨0, Abt.ok, hG⟩
  · exact ⟨rfl, err, Abt.no h0, hG⟩

def sg0 : Sg := ⟨⟨0, zero32, zero32⟩, zero32⟩
theorem sg0_ok : sg0.ok := by unfold Sg.ok Hd.ok sg0; simp [zero32_length]
theorem sg0_info : (Try.prog.info? 54).map (fun i => (i.zero, i.size)) = some (some (.agg (sgc sg0).toArray), 97) := by kernel_rfl
theorem info_sg : (Try.prog.info? 54).map (·.size) = some 97 := by kernel_rfl
theorem built_coder (r : Nat) : Try.prog.built 115 [(0, .pointer (some ⟨r, 0, none⟩))] = some ([.pointer (some ⟨r, 0, none⟩), .slice none 0 0] : List Value).toArray := by kernel_rfl
theorem sgc_one (x : Sg) : ∀ v ∈ sgc x, v.oneCell' = true := by
  intro v hv
  rcases List.mem_append.1 hv with h | h
  · rcases List.mem_cons.1 h with rfl | h
    · rfl
    · rcases List.mem_append.1 h with h | h
      · exact bs_one _ v h
      · exact bs_one _ v h
  · exact bs_one _ v h

/-- what a get makes of bytes -/
def gSg (l : List UInt8) : Sg × Int := match gS l with
  | some (x, []) => (x, 0)
  | _ => (sg0, 60)

def GetP (w : World) (l : List UInt8) (e : Ending) (w' : World) : Prop :=
  e = .returned (.tuple #[.agg (sgc (gSg l).1).toArray, .int .i64 (gSg l).2]) ∧ Below w.heap.size w w'

set_option maxHeartbeats 1000000 in
theorem getS (w : World) (a : Option Addr) (n c : Nat) (l : List UInt8) (hr : Rd w a n c l) (hn : n ≤ 1099511627776) :
    Calls Try.prog 54 #[.slice a n c, .func (.func 52) #[] #[]] w (GetP w l) := by
  have hmf : ∀ (fn : Fn) (first cap : Array Value) (w : World), (Instr.makeFunc fn first cap).run Try.prog w = .ok (.func fn first cap) w := fun _ _ _ _ => rfl
  go_enter Try.func54, Try.ntmps54
  go_wp2_with (first | ((with_reducible refine wpList_allocB (o := ⟨some 4, _, _, _, _, _⟩) ?_ 54 ?_ sg0_info ?_); rfl; rfl; intro w1 hb1 hg1 hz1) | ((with_reducible refine wpList_allocB (o := ⟨some 6, _, _, _, _, _⟩) ?_ 54 ?_ sg0_info ?_); rfl; rfl; intro w2 hb2 hg2 hz2) | ((with_reducible refine wpList_allocB (o := ⟨some 7, _, _, _, _, _⟩) ?_ 54 ?_ sg0_info ?_); rfl; rfl; intro w3 hb3 hg3 hz3))
  have hzw : (w.alloc (.cells #[.func (.func 52) #[] #[]] 97)).heap.size = w.heap.size + 1 := by simp
  have hF0 := Blk.new w 97 [.func (.func 52) #[] #[]]
  have hBw : Below w.heap.size w (w.alloc (.cells #[.func (.func 52) #[] #[]] 97)) := (Below.refl _ w).alloc (Nat.le_refl _) _
  have hb1w : Below (w.alloc (.cells #[.func (.func 52) #[] #[]] 97)).heap.size (w.alloc (.cells #[.func (.func 52) #[] #[]] 97)) w1 := (Below.refl _ _).grown hg1 (Nat.le_refl _) (by simp)
  have hb2w : Below w1.heap.size w1 w2 := (Below.refl _ _).grown hg2 (Nat.le_refl _) (by simp)
  have hb3w : Below w2.heap.size w2 w3 := (Below.refl _ _).grown hg3 (Nat.le_refl _) (by simp)
  have hF3 : Blk w3 w.heap.size 97 [.func (.func 52) #[] #[]] := ((hF0.below hb1w).below hb2w).below hb3w
  have hR3 : Blk w3 (w.heap.size + 1) 54 (sgc sg0) := by have := (hb1.below hb2w).below hb3w; rw [hzw] at this; exact this
  have hX3 : Blk w3 (w.heap.size + 1 + 1) 54 (sgc sg0) := by have := hb2.below hb3w; rw [hz1, hzw] at this; exact this
  have hN3 : Blk w3 (w.heap.size + 1 + 1 + 1) 54 (sgc sg0) := by have := hb3; rw [hz2, hz1, hzw] at this; exact this
  have hs3 : w3.heap.size = w.heap.size + 1 + 1 + 1 + 1 := by omega
  have hB3 : Below w.heap.size w w3 := Bt hBw ((hb1w.trans (hb2w.mono hb1w.size)).trans (hb3w.mono (by have := hb1w.size; have := hb2w.size; omega)))
  have hr3 := hr.below hB3
  clear hzw hF0 hBw hb1w hb2w hb3w hb1 hb2 hb3 hg1 hg2 hg3 hz1 hz2 hz3
  refine (new_own w3 a n c l hr3 hn).mono ?_
  rintro e w4 ⟨r, a', c', rfl, hr1, hr2, hRd4, hO4, hB4⟩
  have HR1 := Lib.hid hr1
  have HR2 := Lib.hid hr2
  have HS3 := Lib.hid hs3
  have HBC : Hid (Try.prog.built 115 [(0, .pointer (some ⟨r, 0, none⟩))] = some ([.pointer (some ⟨r, 0, none⟩), .slice none 0 0] : List Value).toArray) := Lib.hid (built_coder r)
  have IC : Hid ((Try.prog.info? 115).map (·.size) = some ([.pointer (some ⟨r, 0, none⟩), .slice none 0 0] : List Value).length) := Lib.hid (by kernel_rfl)
  have HONE : Hid (∀ v ∈ ([.pointer (some ⟨r, 0, none⟩), .slice none 0 0] : List Value), v.oneCell' = true) := Lib.hid (by intro v hv; simp at hv; rcases hv with rfl | rfl <;> rfl)
  clear hr1 hr2 hs3 hr3
  go_wp2_with (first | ((with_reducible refine wpList_buildI (dst := some 12) HBC.out ?_ ?_); rfl) | ((with_reducible refine wpList_allocB (o := ⟨some 8, _, _, _, _, _⟩) ?_ 115 ?_ coder_info ?_); rfl; rfl; intro w5 hb5 hg5 hz5) | ((with_reducible refine wpList_storeB (o := ⟨none, .store 115 (.tmp 8) (.tmp 12), _, _, _, _⟩) ?_ 115 (.tmp 8) (.tmp 12) ?_ ?_ ?_ hb5 IC.out rfl HONE.out ?_); rfl; rfl; rfl; rfl; intro w6 hb6 hg6 hz6))
  have hB46 : Below w4.heap.size w4 w6 := ((Below.refl _ w4).grown hg5 (Nat.le_refl _) (by simp)).grown hg6 (by omega) (fun k e => by cases e; exact Nat.le_refl _)
  have hB36 : Below w3.heap.size w3 w6 := Bt hB4 hB46
  have hs46 : w4.heap.size + 1 = w6.heap.size := by omega
  have hO6 := hO4.below hB46
  have hRd6 := hRd4.below hB46
  have hF6 := hF3.below hB36
  have hR6 := hR3.below hB36
  have hX6 := hX3.below hB36
  have hN6 := hN3.below hB36
  have hB6 : Below w.heap.size w w6 := hB3.trans (hB36.mono hB3.size)
  have h34 := hB4.size
  clear hb5 hg5 hz5 hg6 hz6 hB46 hB36 hF3 hR3 hX3 hN3 hRd4 hO4 hB4
  generalize hA : w3.heap.size = A at *
  generalize hb : w4.heap.size = b at *
  have hE7 := Blk.new w6 28 [.int .i64 0]
  have hz7 : (w6.alloc (.cells #[.int .i64 0] 28)).heap.size = b + 1 + 1 := by simp; omega
  have hD7 : Dc A a' n c' l b r (w.heap.size + 1 + 1) (b + 1 + 1) 54 (w6.alloc (.cells #[.int .i64 0] 28)) l (sgc sg0) :=
    ⟨World.ownsRow.alloc hO6 _, hb6.alloc _, hX6.alloc _, ⟨a', n, c', hRd6.alloc _, fun W h => h⟩, by have := HR1.out; have := HR2.out; have := HS3.out; omega, by have := HR1.out; have := HR2.out; have := HS3.out; omega, by have := HS3.out; omega, by omega⟩
  have hR7 := hR6.alloc (.cells #[.int .i64 0] 28)
  have hN7 := hN6.alloc (.cells #[.int .i64 0] 28)
  have hF7 := hF6.alloc (.cells #[.int .i64 0] 28)
  have hB7 : Below w.heap.size w (w6.alloc (.cells #[.int .i64 0] 28)) := hB6.alloc (by have := HS3.out; omega) _
  have hin : ∀ W, Sem.run Try.prog (callFunc 85 #[.pointer (some ⟨w.heap.size, 0, none⟩), .pointer (some ⟨b, 0, none⟩), .pointer (some ⟨w.heap.size + 1 + 1, 0, none⟩)]) W = .ok (.enter 85 #[.pointer (some ⟨w.heap.size, 0, none⟩), .pointer (some ⟨b, 0, none⟩), .pointer (some ⟨w.heap.size + 1 + 1, 0, none⟩)]) W :=
    fun W => enters_of Try.func85 (by kernel_rfl) rfl _ _
  have hcall := signed_dec A a' n c' l b r (w.heap.size + 1 + 1) (b + 1 + 1) 54 (w6.alloc (.cells #[.int .i64 0] 28)) l (sgc sg0) hD7 0 (by rw [sgc_length sg0_ok]; omega)
  refine (aborted_any w6 85 _ (fun err w' => (DecI (gS l) err fun x l' => x.ok ∧ Dc A a' n c' l b r (w.heap.size + 1 + 1) (b + 1 + 1) 54 w' l' (splice (sgc sg0) 0 (sgc x))) ∧ Stp (fun k => k = r ∨ k = w.heap.size + 1 + 1) (b + 1 + 1) (w6.alloc (.cells #[.int .i64 0] 28)) w') hin
    ((getS1 _ _ _ _ _ (hF7.cell rfl) hcall).mono ?_)).mono ?_
  · rintro e w' ⟨err, he, h1, h2⟩
    exact ⟨err, he, hE7.stp h2 (by omega) (by have := HR1.out; have := HR2.out; have := HS3.out; omega), h1, h2⟩
  rintro e w' ⟨err, w8, rfl, ⟨hdec, hs⟩, hE8, rfl⟩
  have hR8 := hR7.stp hs (by have := HS3.out; omega) (by have := HR1.out; have := HR2.out; have := HS3.out; omega)
  have hN8 := hN7.stp hs (by have := HS3.out; omega) (by have := HR1.out; have := HR2.out; have := HS3.out; omega)
  have hB8 : Below w.heap.size w w8 := hB7.trans (hs.below (by have := HS3.out; omega) (fun i e => by have := HR1.out; have := HS3.out; omega))
  clear hcall hin hE7 hD7 hR7 hN7 hF7 hB7 hB6 hO6 hRd6 hF6 hR6 hX6 hN6 hb6 hs
  have hgE := set_grown w8 w6.heap.size 0 (.int .i64 err)
  have hR9 := hR8.grown hgE (by simp; have := HS3.out; omega)
  have hN9 := hN8.grown hgE (by simp; have := HS3.out; omega)
  have hB9 : Below w.heap.size w (w8.setCell ⟨w6.heap.size, 0, none⟩ (.int .i64 err)) := hB8.grown hgE hB8.size (fun k e => by cases e; have := HS3.out; omega)
  have IS : Hid ((Try.prog.info? 54).map (·.size) = some (sgc sg0).length) := Lib.hid (by rw [sgc_length sg0_ok]; exact info_sg)
  have HRL := Lib.hid hR8.lt
  by_cases h0 : err = 0
  · subst h0
    obtain ⟨_, x, l', hg, hx, hD8⟩ | ⟨h1, _⟩ := hdec
    rotate_left
    · exact absurd rfl h1
    rw [splice_whole _ _ (by rw [sgc_length hx, sgc_length sg0_ok])] at hD8
    have hX9 := hD8.xb.grown hgE (by simp; have := HS3.out; omega)
    have hC9 := hD8.cb.grown hgE (by simp; omega)
    have hO9 := hD8.orig.keptC hgE hE8.at_ (by decide)
    obtain ⟨a9, n9, c9, h91, h92⟩ := hD8.rd
    have h93 := h91.grown hgE (by simp; have := HR2.out; omega)
    have hRdr : Rdr (w8.setCell ⟨w6.heap.size, 0, none⟩ (.int .i64 0)) r l' := ⟨a9, n9, c9, h93.at_, h92 _ hO9.rd⟩
    have hc9 := hC9.cell (j := 0) rfl
    have ISX : Hid ((Try.prog.info? 54).map (·.size) = some (sgc x).length) := Lib.hid (by rw [sgc_length hx]; exact info_sg)
    have HONE1 : Hid (∀ v ∈ sgc x, v.oneCell' = true) := Lib.hid (sgc_one x)
    have HONE0 : Hid (∀ v ∈ sgc sg0, v.oneCell' = true) := Lib.hid (sgc_one sg0)
    have HL1 : Hid ((sgc sg0).length = (sgc x).length) := Lib.hid (by rw [sgc_length hx, sgc_length sg0_ok])
    have HG := Lib.hid hg
    have HB9 := Lib.hid hB9
    clear hD8 hC9 hO9 h91 h92 h93 hgE hR8 hN8 hB8 hB9 hE8 hg
    generalize w8.setCell ⟨w6.heap.size, 0, none⟩ (.int .i64 0) = w9 at *
    by_cases hl : l' = []
    · subst hl
      have HFIN : Hid (∀ W, Below w.heap.size w W → GetP w l (.returned (.tuple #[.agg (sgc x).toArray, .int .i64 0])) W) := Lib.hid (fun W hW => ⟨by simp [gSg, HG.out], hW⟩)
      go_wp2_with fail
      refine (left_any w9 r [] hRdr).mono ?_
      rintro e w' ⟨rfl, rfl⟩
      go_wp2_with (first | ((with_reducible refine wpList_loadB (o := ⟨some 24, _, _, _, _, _⟩) ?_ 54 (.tmp 6) ?_ ?_ hX9 Try.underlying54 ?_ ISX.out ?_); rfl; rfl; rfl; rfl) | ((with_reducible refine wpList_storeB (o := ⟨none, .store 54 (.tmp 4) (.tmp 24), _, _, _, _⟩) ?_ 54 (.tmp 4) (.tmp 24) ?_ ?_ ?_ hR9 ISX.out HL1.out HONE1.out ?_); rfl; rfl; rfl; rfl; intro wA hbA hgA hzA))
      apply bodyPost_ret
      exact results_blk2 rfl _ _ _ _ _ _ rfl hbA Try.underlying54 rfl ISX.out
      rfl
      exact HFIN.out _ (HB9.out.grown hgA HB9.out.size (fun k e => by cases e; omega))
    · have hll : 0 < l'.length := List.length_pos_iff.2 hl
      have HFIN : Hid (∀ W, Below w.heap.size w W → GetP w l (.returned (.tuple #[.agg (sgc sg0).toArray, .int .i64 60])) W) := Lib.hid (fun W hW => ⟨by unfold gSg; rw [HG.out]; cases l' with | nil => exact absurd rfl hl | cons _ _ => rfl, hW⟩)
      go_wp2_with fail
      refine (left_any w9 r l' hRdr).mono ?_
      rintro e w' ⟨rfl, rfl⟩
      go_wp2_with (first | ((with_reducible refine wpList_loadB (o := ⟨some 23, _, _, _, _, _⟩) ?_ 54 (.tmp 7) ?_ ?_ hN9 Try.underlying54 ?_ IS.out ?_); rfl; rfl; rfl; rfl) | ((with_reducible refine wpList_storeB (o := ⟨none, .store 54 (.tmp 4) (.tmp 23), _, _, _, _⟩) ?_ 54 (.tmp 4) (.tmp 23) ?_ ?_ ?_ hR9 IS.out rfl HONE0.out ?_); rfl; rfl; rfl; rfl; intro wA hbA hgA hzA))
      apply bodyPost_ret
      exact results_blk2 rfl _ _ _ _ _ _ rfl hbA Try.underlying54 rfl IS.out
      rfl
      exact HFIN.out _ (HB9.out.grown hgA HB9.out.size (fun k e => by cases e; omega))
  · obtain ⟨h1, _⟩ | ⟨_, hg⟩ := hdec
    · exact absurd h1 h0
    have HONE0 : Hid (∀ v ∈ sgc sg0, v.oneCell' = true) := Lib.hid (sgc_one sg0)
    have HFIN : Hid (∀ W, Below w.heap.size w W → GetP w l (.returned (.tuple #[.agg (sgc sg0).toArray, .int .i64 60])) W) := Lib.hid (fun W hW => ⟨by simp [gSg, hg], hW⟩)
    have HB9 := Lib.hid hB9
    clear hgE hR8 hN8 hB8 hB9 hE8 hg
    generalize w8.setCell ⟨w6.heap.size, 0, none⟩ (.int .i64 err) = w9 at *
    go_wp2_with (first | ((with_reducible refine wpList_loadB (o := ⟨some 23, _, _, _, _, _⟩) ?_ 54 (.tmp 7) ?_ ?_ hN9 Try.underlying54 ?_ IS.out ?_); rfl; rfl; rfl; rfl) | ((with_reducible refine wpList_storeB (o := ⟨none, .store 54 (.tmp 4) (.tmp 23), _, _, _, _⟩) ?_ 54 (.tmp 4) (.tmp 23) ?_ ?_ ?_ hR9 IS.out rfl HONE0.out ?_); rfl; rfl; rfl; rfl; intro wA hbA hgA hzA))
    apply bodyPost_ret
    exact results_blk2 rfl _ _ _ _ _ _ rfl hbA Try.underlying54 rfl IS.out
    rfl
    exact HFIN.out _ (HB9.out.grown hgA HB9.out.size (fun k e => by cases e; omega))

theorem gSg_ok (l : List UInt8) : (gSg l).1.ok := by
  unfold gSg
  split
  · rename_i x h
    unfold gS at h
    cases h1 : gH l with
    | none => simp [h1] at h
    | some p =>
      obtain ⟨hd, l1⟩ := p
      simp only [h1, Option.bind_some] at h
      cases h2 : gD l1 with
      | none => simp [h2] at h
      | some q =>
        obtain ⟨d, l2⟩ := q
        simp only [h2, Option.bind_some, Option.some.injEq, Prod.mk.injEq] at h
        obtain ⟨rfl, _⟩ := h
        have hD : ∀ (l : List UInt8) (d l' : List UInt8), gD l = some (d, l') → d.length = 32 := by
          intro l d l' h
          unfold gD at h
          split at h
          · simp only [Option.some.injEq, Prod.mk.injEq] at h; rw [← h.1]; simp; omega
          · cases h
        refine ⟨?_, hD _ _ _ h2⟩
        unfold gH at h1
        cases h3 : gN l with
        | none => simp [h3] at h1
        | some p =>
          obtain ⟨m, l3⟩ := p
          simp only [h3, Option.bind_some] at h1
          cases h4 : gD l3 with
          | none => simp [h4] at h1
          | some p =>
            obtain ⟨d1, l4⟩ := p
            simp only [h4, Option.bind_some] at h1
            cases h5 : gD l4 with
            | none => simp [h5] at h1
            | some p =>
              obtain ⟨d2, l5⟩ := p
              simp only [h5, Option.bind_some, Option.some.injEq, Prod.mk.injEq] at h1
              obtain ⟨rfl, _⟩ := h1
              exact ⟨hD _ _ _ h4, hD _ _ _ h5⟩
  · exact sg0_ok

set_option maxHeartbeats 1000000 in
theorem getSigned_any (w : World) (a : Option Addr) (n c : Nat) (l : List UInt8) (hr : Rd w a n c l) (hn : n ≤ 1099511627776) :
    Calls Try.prog 27 #[.slice a n c] w (GetP w l) := by
  have hk := gSg_ok l
  have IS : Hid ((Try.prog.info? 54).map (·.size) = some (sgc (gSg l).1).length) := Lib.hid (by rw [sgc_length hk]; exact info_sg)
  have HL : Hid ((sgc sg0).length = (sgc (gSg l).1).length) := Lib.hid (by rw [sgc_length hk, sgc_length sg0_ok])
  have HONE : Hid (∀ v ∈ sgc (gSg l).1, v.oneCell' = true) := Lib.hid (sgc_one _)
  have HFIN : Hid (∀ W, Below w.heap.size w W → GetP w l (.returned (.tuple #[.agg (sgc (gSg l).1).toArray, .int .i64 (gSg l).2])) W) := Lib.hid (fun W hW => ⟨rfl, hW⟩)
  go_enter Try.func27, Try.ntmps27
  go_wp2_with (first | ((with_reducible refine wpList_allocB (o := ⟨some 2, _, _, _, _, _⟩) ?_ 54 ?_ sg0_info ?_); rfl; rfl; intro w1 hb1 hg1 hz1))
  have hB1 : Below w.heap.size w w1 := (Below.refl _ w).grown hg1 (Nat.le_refl _) (by simp)
  refine (getS w1 a n c l (hr.below hB1) hn).mono ?_
  rintro e w2 ⟨rfl, hB2⟩
  have hb2 := hb1.below hB2
  have HB2 := Lib.hid (Bt hB1 hB2)
  generalize gSg l = y at *
  clear hb1 hg1 hB1 hB2
  go_wp2_with (first | ((with_reducible refine wpList_storeB (o := ⟨none, .store 54 (.tmp 2) (.tmp 6), _, _, _, _⟩) ?_ 54 (.tmp 2) (.tmp 6) ?_ ?_ ?_ hb2 IS.out HL.out HONE.out ?_); rfl; rfl; rfl; rfl; intro wA hbA hgA hzA))
  apply bodyPost_ret
  exact results_blk2 rfl _ _ _ _ _ _ rfl hbA Try.underlying54 rfl IS.out
  rfl
  exact HFIN.out _ (HB2.out.grown hgA HB2.out.size (fun k e => by cases e; exact Nat.le_refl _))

end Go.Proofs.Ytgbhfpkngjlfkaa
