/-
  The walk of (*sha.Hash).add.
-/
import Derived.Test.YtoclahcibilbhaaDoorShaC
import Derived.Test.YtoclahcibilbhaaDoorLibB
namespace Go.Proofs.YtoclahcibilbhaaDoor
open Go.RowKit

theorem blocks_app (l m : List UInt8) : ∀ n, 64 * n ≤ l.length → blocks (l ++ m) n = blocks l n
  | 0, _ => rfl
  | n + 1, h => by
    rw [blocks, blocks, blocks_app l m n (by omega)]
    congr 1
    rw [List.drop_append_of_le_length (by omega), List.take_append_of_le_length (by simp; omega)]

theorem blocks_ok (l : List UInt8) : ∀ n, (blocks l n).Ok
  | 0 => H8.init_ok
  | _ + 1 => H8.add_ok _ _

/-- words s and block bl hold the bytes l -/
structure Holds (s : H8) (bl l : List UInt8) : Prop where
  s : s = blocks l (l.length / 64)
  len : bl.length = 64
  rest : bl.take (l.length % 64) = l.drop (64 * (l.length / 64))

theorem Holds.zero : Holds H8.init zeros64 [] := ⟨rfl, zeros64_length, rfl⟩

theorem splice_take (bl cs : List UInt8) (off : Nat) (h : off + cs.length ≤ bl.length) : (splice bl off cs).take (off + cs.length) = bl.take off ++ cs := by
  unfold splice
  rw [← List.append_assoc, List.take_append_of_le_length (by simp; omega), List.take_of_length_le (by simp; omega)]

theorem Holds.less {s : H8} {bl l cs : List UInt8} (h : Holds s bl l) (hc : l.length % 64 + cs.length < 64) : Holds s (splice bl (l.length % 64) cs) (l ++ cs) := by
  have e1 : (l ++ cs).length / 64 = l.length / 64 := by simp; omega
  have e2 : (l ++ cs).length % 64 = l.length % 64 + cs.length := by simp; omega
  refine ⟨?_, ?_, ?_⟩
  · rw [e1, blocks_app _ _ _ (by omega)]; exact h.s
  · rw [length_splice _ _ _ (by rw [h.len]; omega)]; exact h.len
  · rw [e1, e2, splice_take _ _ _ (by rw [h.len]; omega), h.rest, List.drop_append_of_le_length (by omega)]

theorem Holds.full {s : H8} {bl l cs : List UInt8} (h : Holds s bl l) (hc : l.length % 64 + cs.length = 64) : Holds (s.mix (splice bl (l.length % 64) cs)) (splice bl (l.length % 64) cs) (l ++ cs) := by
  have e1 : (l ++ cs).length / 64 = l.length / 64 + 1 := by simp; omega
  have e2 : (l ++ cs).length % 64 = 0 := by simp; omega
  have hl : (splice bl (l.length % 64) cs).length = 64 := by rw [length_splice _ _ _ (by rw [h.len]; omega)]; exact h.len
  have hb : splice bl (l.length % 64) cs = ((l ++ cs).drop (64 * (l.length / 64))).take 64 := by
    have h1 := splice_take bl cs (l.length % 64) (by rw [h.len]; omega)
    rw [hc, h.rest, ← List.drop_append_of_le_length (by omega)] at h1
    rw [← List.take_of_length_le (Nat.le_of_eq hl), h1, List.take_of_length_le]
    simp; omega
  refine ⟨?_, hl, ?_⟩
  · rw [e1, blocks, blocks_app _ _ _ (by omega), ← h.s, ← hb]
  · rw [e1, e2, List.take_zero]
    symm
    apply List.drop_eq_nil_of_le
    simp; omega

/-- block r is a hash that holds the bytes l -/
structure HashAt (w : World) (r : Nat) (l : List UInt8) : Prop where
  ex : ∃ s bl, Holds s bl l ∧ Blk w r 56 (hcells s bl l.length)

theorem HashAt.below {w w' : World} {r : Nat} {l : List UInt8} (h : HashAt w r l) (hb : Below w.heap.size w w') : HashAt w' r l := by
  obtain ⟨s, bl, h1, h2⟩ := h; exact ⟨s, bl, h1, h2.below hb⟩
theorem HashAt.grown {w w' : World} {r : Nat} {l : List UInt8} (h : HashAt w r l) {row : Option Nat} (hg : w.grownBy w' row) (hne : row ≠ some r) : HashAt w' r l := by
  obtain ⟨s, bl, h1, h2⟩ := h; exact ⟨s, bl, h1, h2.grown hg hne⟩
theorem HashAt.lt {w : World} {r : Nat} {l : List UInt8} (h : HashAt w r l) : r < w.heap.size := by obtain ⟨s, bl, h1, h2⟩ := h; exact h2.lt

/-- a slice's cells, where it has any, lie in another block than r -/
def Ap (a : Option Addr) (n r : Nat) : Prop := 0 < n → ∀ ad, a = some ad → ad.block ≠ r
theorem Ap.grown {w w' : World} {a : Option Addr} {n c r : Nat} {l : List UInt8} (h : Rd w a n c l) (hg : w.grownBy w' (some r)) (hp : Ap a n r) : Rd w' a n c l := by
  refine ⟨h.len, h.cap, h.max, h.nil, fun ad e j u hu => ?_⟩
  have hj : j < l.length := by have := (List.getElem?_eq_some_iff.1 hu).1; simpa [bs] using this
  have hc := h.cell ad e j u hu
  refine hg.cell hc ?_
  have := hp (by have := h.len; omega) ad e
  unfold Addr.add
  split <;> simp_all
theorem Tab.grown {w w' : World} {g r : Nat} (h : Tab w g) (hg : w.grownBy w' (some r)) (hne : g ≠ r) : Tab w' g := fun j v hv => hg.cell (h j v hv) (by simpa using hne)

theorem hcells_splice (s : H8) (bl cs : List UInt8) (n off : Nat) (h : off + cs.length ≤ bl.length) : splice (hcells s bl n) (8 + off) (bs cs) = hcells s (splice bl off cs) n := by
  have e : hcells s bl n = (ns .u32 s.list ++ bs (bl.take off)) ++ (bs (bl.drop off) ++ [.int .i64 (n : Int)]) := by
    simp only [hcells, List.append_assoc, List.append_cancel_left_eq]
    rw [← List.append_assoc, ← bs_append, List.take_append_drop]
  have e2 : 8 + off = (ns .u32 s.list ++ bs (bl.take off)).length := by simp [ns_length, H8.list_length, bs_length]; omega
  rw [e, e2, splice_app]
  simp only [hcells, splice, bs_append, List.append_assoc]
  rw [List.drop_append_of_le_length (by simp [bs_length]; omega)]
  simp [bs, List.drop_drop]

theorem hcells_size (s : H8) (bl : List UInt8) (n : Nat) (hb : bl.length = 64) : (hcells s bl n)[72]? = some (.int .i64 (n : Int)) := by
  unfold hcells
  rw [List.getElem?_append_right (by simp [ns_length, H8.list_length, bs_length, hb])]
  simp [ns_length, H8.list_length, bs_length, hb]
theorem hcells_set (s : H8) (bl : List UInt8) (n m : Nat) (hb : bl.length = 64) : (hcells s bl n).set 72 (.int .i64 (m : Int)) = hcells s bl m := by
  unfold hcells
  rw [List.set_append_right _ _ (by simp [ns_length, H8.list_length, bs_length, hb])]
  simp [ns_length, H8.list_length, bs_length, hb]
theorem hcells_words (s s' : H8) (bl : List UInt8) (n : Nat) : splice (hcells s bl n) 0 (ns .u32 s'.list) = hcells s' bl n := by
  have := splice_app [] (hcells s bl n) (ns .u32 s'.list)
  simp only [List.nil_append, List.length_nil] at this
  rw [this]
  simp [hcells, ns_length, H8.list_length]
theorem hcells_at_words (s : H8) (bl : List UInt8) (n : Nat) {w : World} {r : Nat} {t : TypeId} (h : Blk w r t (hcells s bl n)) : w.rangeAt r 0 (ns .u32 s.list) := h.range 0 fun j hj => by
  simp only [hcells, Nat.zero_add, List.append_assoc]
  rw [List.getElem?_append_left hj]
theorem hcells_at_block (s : H8) (bl : List UInt8) (n : Nat) {w : World} {r : Nat} {t : TypeId} (h : Blk w r t (hcells s bl n)) : w.rangeAt r 8 (bs bl) := h.range 8 fun j hj => by
  simp only [hcells]
  rw [List.getElem?_append_left (by simp [ns_length, H8.list_length]; omega), List.getElem?_append_right (by simp [ns_length, H8.list_length])]
  simp [ns_length, H8.list_length]

def sliceLen : Value → Nat
  | .slice _ n _ => n
  | _ => 0
@[simp] theorem sliceLen_slice (a : Option Addr) (n c : Nat) : sliceLen (.slice a n c) = n := rfl

/-- what the loop of add carries -/
structure AddAt (w wr : World) (r : Nat) (l m : List UInt8) (a : Option Addr) (n c k : Nat) : Prop where
  le : k ≤ m.length
  rd : Rd wr a n c (m.drop k)
  ap : Ap a n r
  hash : HashAt wr r (l ++ m.take k)
  tab : Tab wr 0
  gr : w.grownBy wr (some r)

theorem AddAt.next {w wr W : World} {r : Nat} {l m q m' cs : List UInt8} {ad : Addr} {n' c' c2 k kc : Nat} (h : AddAt w wr r l m (some ad) n' c' k) (hq : l ++ m.take k = q) (hm : m.drop k = m') (hcs : cs = m'.take kc) (hkc : kc ≤ n')
    (hg : wr.grownBy W (some r)) (hG : 0 ≠ r) (hh : HashAt W r (q ++ cs)) (hc2 : c2 = c' := by rfl) : AddAt w W r l m (if c2 = kc then some ad else some (ad.add kc)) (n' - kc) (c2 - kc) (k + kc) := by
  subst hc2
  have hrd := h.rd
  rw [hm] at hrd
  have hl := hrd.len
  have hcap := hrd.cap
  have hap : Ap (if c2 = kc then some ad else some (ad.add kc)) (n' - kc) r := by
    intro h0 x e
    have h1 := h.ap (by omega) ad rfl
    split at e
    · cases e; exact h1
    · cases e; unfold Addr.add; split <;> simpa using h1
  have hrd2 : Rd wr (if c2 = kc then some ad else some (ad.add kc)) (n' - kc) (c2 - kc) (m'.drop kc) := by
    by_cases hc : c2 = kc
    · have e1 : n' - kc = 0 := by omega
      have e2 : c2 - kc = 0 := by omega
      rw [e1, e2, List.drop_eq_nil_of_le (by omega)]
      exact ⟨rfl, Nat.le_refl _, by decide, fun _ => ⟨rfl, rfl⟩, fun _ _ j u hu => by simp [bs] at hu⟩
    · rw [if_neg hc]
      exact hrd.tail kc hkc hc
  have hk := h.le
  have hml : m'.length = m.length - k := by rw [← hm]; simp
  refine ⟨by omega, ?_, hap, ?_, h.tab.grown hg hG, grown2 h.gr hg (fun k e => .inr e)⟩
  · rw [← List.drop_drop, hm]
    exact Ap.grown hrd2 hg hap
  · rw [← hq, hcs, ← hm, List.append_assoc] at hh
    rw [List.take_add]
    exact hh

set_option maxRecDepth 100000 in
set_option maxHeartbeats 400000 in
theorem add_any (w : World) (r : Nat) (l m : List UInt8) (a : Option Addr) (n c : Nat) (hh : HashAt w r l) (hr : Rd w a n c m) (hap : Ap a n r) (hT : Tab w 0) (hG : 0 ≠ r) (hlen : l.length + n ≤ 1152921504606846976) :
    Calls Tryd.prog 30 #[.pointer (some ⟨r, 0, none⟩), .slice a n c] w fun e w' => e = .returned (.tuple #[]) ∧ HashAt w' r (l ++ m) ∧ w.grownBy w' (some r) := by
  have hA : AddAt w w r l m a n c 0 := ⟨by omega, by simpa using hr, hap, by simpa using hh, hT, World.grownBy.refl _ _⟩
  have hml := hr.len
  have HML := Lib.hid hml
  clear hml hr hap hT hh
  go_enter Tryd.func30, Tryd.ntmps30
  go_wp2_with fail
  go_loopw [1] (fun b wr => ∃ (a' : Option Addr) (n' c' k : Nat), b = .slice a' n' c' ∧ AddAt w wr r l m a' n' c' k) (fun b _ => sliceLen b)
  case atStart => exact ⟨a, n, c, 0, rfl, hA⟩
  case round =>
    obtain ⟨a', n', c', k, rfl, hA⟩ := hrel
    obtain ⟨s, bl, hH, hB⟩ := hA.hash.ex
    by_cases hn : 0 < n'
    · have hL : (l ++ m.take k).length ≤ 1152921504606846976 := by have := HML.out; simp; omega
      have hLn : (l ++ m.take k).length + n' ≤ 1152921504606846976 := by have := HML.out; have := hA.rd.len; simp at this ⊢; omega
      have hD := hA.rd
      generalize hq : l ++ m.take k = q at *
      have HQ := Lib.hid hq
      generalize hm' : m.drop k = m' at *
      have HM' := Lib.hid hm'
      clear hq hm'
      have c72 := hB.cell (hcells_size s bl q.length hH.len)
      obtain ⟨off, hoff⟩ : ∃ off, off = q.length % 64 := ⟨_, rfl⟩
      have e1' : ((q.length : Int)) % 64 = (off : Int) := by omega
      have e1 : ((q.length : Int)).tmod 64 = (off : Int) := (Int.tmod_eq_emod_of_nonneg (by omega)).trans e1'
      have b0 : off < 64 := by omega
      have b1 : (off : Int) ≤ 64 := by omega
      obtain ⟨cs, hcs⟩ : ∃ cs, cs = m'.take (min n' (64 - off)) := ⟨_, rfl⟩
      have hcl : cs.length = min n' (64 - off) := by have := hD.len; rw [hcs, List.length_take]; omega
      have hcl2 : (bs cs).length = Nat.min n' (64 - off) := by rw [bs_length, hcl]
      have hsrc : ∀ j v, (bs cs)[j]? = some v → ∃ ad, a' = some ad ∧ wr.cell? (ad.add j) = some v := fun j v hv => by
        cases ha : a' with
        | none => have := (hD.nil ha).1; omega
        | some ad =>
          refine ⟨ad, rfl, hD.cell ad ha j v ?_⟩
          rw [← hv, hcs]
          have hj : j < (bs cs).length := (List.getElem?_eq_some_iff.1 hv).1
          simp only [bs, List.map_take, List.getElem?_take]
          rw [if_pos (by rw [hcl2] at hj; exact hj)]
      have hpos : ∃ ad, a' = some ad := by
        cases ha : a' with
        | none => have := (hD.nil ha).1; omega
        | some ad => exact ⟨ad, rfl⟩
      obtain ⟨ad, rfl⟩ := hpos
      have hsrc2 : ∀ j v, (bs cs)[j]? = some v → wr.drew.cell? (ad.add j) = some v := fun j v hv => by
        obtain ⟨ad', e, h⟩ := hsrc j v hv
        cases e; exact h
      have HOFF := Lib.hid hoff
      have HCL := Lib.hid hcl
      have HCL2 := Lib.hid hcl2
      have HCS := Lib.hid hcs
      have HSRC := Lib.hid hsrc2
      clear hsrc hsrc2 hoff hcl hcl2 hcs
      have hBd := hB.drew
      have hfit := Lib.hid (show 8 + off + (bs cs).length ≤ (hcells s bl q.length).length by rw [hcells_length _ _ _ hH.len, bs_length, HCL.out]; omega)
      have h64 : ¬ (64 = off) := by omega
      have hcell : wr.drew.cell? ⟨r, 72, none⟩ = some (.int .i64 (q.length : Int)) := c72
      go_wp2_with fail
      go_region_law (refine step_copyB rfl (.tmp 16) (.tmp 17) 26 26 rfl 5 Tryd.underlying26 info_u8 _ _ _ _ _ _ rfl rfl r (8 + off) (hcells s bl q.length) 56 hBd (bs cs) HCL2.out (fun _ => ⟨rfl, ad, rfl, HSRC.out⟩) hfit.out (bs_one _) ?_; intro w2 hb2 hg2 hz2)
      have hb3 : Blk w2 r 56 (hcells s (splice bl off cs) q.length) := by
        have := hb2
        rwa [hcells_splice _ _ _ _ _ (by rw [HCL.out, hH.len]; omega)] at this
      have hl2 : (splice bl off cs).length = 64 := by rw [length_splice _ _ _ (by rw [HCL.out, hH.len]; omega)]; exact hH.len
      have HKC := HCL.out
      rw [← bs_length cs] at HKC
      generalize hkc : (bs cs).length = kc at *
      have HK := Lib.hid HKC
      clear HKC hb2
      have k1 : kc ≤ n' := by have := HK.out; omega
      have k0 : 0 < kc := by have := HK.out; omega
      have kb : off + kc ≤ 64 := by have := HK.out; omega
      have hcc := hD.cap
      have hcm : c' ≤ 9223372036854775807 := by have := hD.max; unfold maxLen at this; omega
      have HKCL := Lib.hid hkc
      clear hkc
      have d72 := hb3.cell (hcells_size s (splice bl off cs) q.length hl2)
      have f72 := hb3.free 72
      have hNx := Lib.hid (fun (W : World) (hg : w2.grownBy W (some r)) (hh : HashAt W r (q ++ cs)) => hA.next (c2 := c') HQ.out HM'.out (show cs = m'.take kc by rw [HCS.out, HK.out]) k1 (grown2 (show wr.grownBy w2 (some r) from ⟨hg2.os, hg2.tape, hg2.output, hg2.size, hg2.block⟩) hg (fun k e => .inr (by cases e; rfl))) hG hh)
      by_cases hfull : off + kc = 64
      · have e2' : ((q.length : Int) + (kc : Int)) % 64 = 0 := by have := HOFF.out; omega
        have e2 : ((q.length : Int) + (kc : Int)).tmod 64 = 0 := (Int.tmod_eq_emod_of_nonneg (by omega)).trans e2'
        have hb4 : Blk (w2.setCell ⟨r, 72, none⟩ (.int .i64 ((q.length : Int) + (kc : Int)))) r 56 (hcells s (splice bl off cs) (q.length + kc)) := by
          have h1 := hb3.set 72 (.int .i64 ((q.length + kc : Nat) : Int))
          rw [hcells_set _ _ _ _ hl2] at h1
          simpa using h1
        have hg4 := set_grown w2 r 72 (.int .i64 ((q.length : Int) + (kc : Int)))
        have h2 := hH.full (cs := cs) (by rw [← HOFF.out, ← bs_length, HKCL.out]; omega)
        rw [← HOFF.out] at h2
        have hso : s.Ok := by rw [hH.s]; exact blocks_ok _ _
        have hT4 : Tab (w2.setCell ⟨r, 72, none⟩ (.int .i64 ((q.length : Int) + (kc : Int)))) 0 :=
          (hA.tab.grown (show wr.grownBy w2 (some r) from ⟨hg2.os, hg2.tape, hg2.output, hg2.size, hg2.block⟩) hG).grown hg4 hG
        generalize splice bl off cs = bl2 at *
        have hlen2 : (q ++ cs).length = q.length + kc := by rw [List.length_append, ← bs_length cs, HKCL.out]
        have HLEN := Lib.hid hlen2
        clear hlen2
        go_wp2_with fail
        all_goals
          generalize w2.setCell ⟨r, 72, none⟩ (.int .i64 ((q.length : Int) + (kc : Int))) = w4 at *
          have hr1 := hcells_at_words _ _ _ hb4.drew
          have hr2 := hcells_at_block _ _ _ hb4.drew
          have hi1 := Lib.hid (show (Tryd.prog.info? 53).map (·.size) = some (ns .u32 s.list).length by rw [info8, ns_length, H8.list_length])
          have HF1 := Lib.hid (show 0 + (ns .u32 (s.mix bl2).list).length ≤ (hcells s bl2 (q.length + kc)).length by rw [ns_length, H8.list_length, hcells_length _ _ _ hl2]; omega)
          have HF2 := Lib.hid (show (Tryd.prog.info? 53).map (·.size) = some (ns .u32 (s.mix bl2).list).length by rw [info8, ns_length, H8.list_length])
          have hi2 := Lib.hid (show (Tryd.prog.info? 54).map (·.size) = some (bs bl2).length by rw [info64b, bs_length, hl2])
          refine wp_region_any (by kernel_rfl) ?_
          change wpAny _ _ _ _ _ _ _ (World.drew _)
          refine wpAny_take (i := 0) (v := .pointer (some ⟨r, 0, none⟩)) rfl (by kernel_rfl) (by kernel_rfl) (by kernel_rfl) (fun _ _ _ h => h) (Or.inl ⟨by rfl, ?_⟩) ?_
          · intro w
            go_simp
          refine wpAny_take (i := 1) (v := .pointer (some ⟨r, 0, none⟩)) rfl (by kernel_rfl) (by kernel_rfl) (by kernel_rfl) (fun _ _ _ h => h) (Or.inl ⟨by rfl, ?_⟩) ?_
          · intro w
            go_simp
          refine wpAny_take (i := 2) (v := .pointer (some ⟨r, 0, none⟩)) rfl (by kernel_rfl) (by kernel_rfl) (by kernel_rfl) (fun _ _ _ h => h) (Or.inl ⟨by rfl, ?_⟩) ?_
          · intro w
            go_simp
          refine wpAny_take (i := 3) (v := .pointer (some ⟨r, 0, none⟩)) rfl (by kernel_rfl) (by kernel_rfl) (by kernel_rfl) (fun _ _ _ h => h) (Or.inl ⟨by rfl, ?_⟩) ?_
          · intro w
            go_simp
          refine wpAny_take (i := 5) (v := .pointer (some ⟨r, 0, none⟩)) rfl (by kernel_rfl) (by kernel_rfl) (by kernel_rfl) (fun _ _ _ h => h) (Or.inl ⟨by rfl, ?_⟩) ?_
          · intro w
            go_simp
          refine wpAny_take (i := 6) (v := .pointer (some ⟨r, 0, none⟩)) rfl (by kernel_rfl) (by kernel_rfl) (by kernel_rfl) (fun _ _ _ h => h) (Or.inl ⟨by rfl, ?_⟩) ?_
          · intro w
            go_simp
          refine wpAny_take (i := 7) (v := .pointer (some ⟨r, 8, none⟩)) rfl (by kernel_rfl) (by kernel_rfl) (by kernel_rfl) (fun _ _ _ h => h) (Or.inl ⟨by rfl, ?_⟩) ?_
          · intro w
            go_simp
          generalize hX : Act.put _ _ _ = X
          simp [Act.put] at hX
          subst hX
          refine wpAny_ready (rs := [4, 8]) (by kernel_rfl) (by simp) ?_
          refine AllReady.cons (o := ⟨some 40, .load 53 (.tmp 39), _, _, _, none⟩) rfl (fun K hK => ?_) (AllReady.cons (o := ⟨some 44, .load 54 (.tmp 43), _, _, _, none⟩) rfl (fun K hK => ?_) AllReady.nil)
          · refine step_loadM r 0 53 (.tmp 39) _ _ hr1 Tryd.underlying53 hi1.out rfl rfl (by kernel_rfl) rfl ?_
            refine hK _ _ ?_
            clear hK K
            refine wpAny_ready (rs := [8]) (by kernel_rfl) (by simp) ?_
            refine AllReady.cons (o := ⟨some 44, .load 54 (.tmp 43), _, _, _, none⟩) rfl (fun K hK => ?_) AllReady.nil
            refine step_loadM r 8 54 (.tmp 43) _ _ hr2 Tryd.underlying54 hi2.out rfl rfl (by kernel_rfl) rfl ?_
            refine hK _ _ ?_
            clear hK K
            refine wpAny_ready (rs := [9]) (by kernel_rfl) (by simp) ?_
            refine AllReady.cons (o := ⟨some 45, .call { callee := .value (.func 44), args := #[.tmp 40, .tmp 44], argTypes := #[53, 54] }, _, _, _, none⟩) rfl (fun K hK => ?_) AllReady.nil
            refine step_call rfl ?_
            go_simp
            refine (mixed_any _ s hso bl2 hl2 (show Tab w4.drew _ from hT4)).mono ?_
            rintro e w5 ⟨rfl, hB5⟩
            refine hK _ _ ?_
            clear hK K
            refine wpAny_take (i := 10) (v := .pointer (some ⟨r, 0, none⟩)) rfl (by kernel_rfl) (by kernel_rfl) (by kernel_rfl) (fun _ _ _ h => h) (Or.inl ⟨by rfl, ?_⟩) ?_
            · intro w
              go_simp
            refine wpAny_take (i := 11) (v := .pointer (some ⟨r, 0, none⟩)) rfl (by kernel_rfl) (by kernel_rfl) (by kernel_rfl) (fun _ _ _ h => h) (Or.inl ⟨by rfl, ?_⟩) ?_
            · intro w
              go_simp
            generalize hX : Act.put _ _ _ = X
            simp [Act.put] at hX
            subst hX
            refine wpAny_ready (rs := [12]) (by kernel_rfl) (by simp) ?_
            refine AllReady.cons (o := ⟨none, .store 53 (.tmp 47) (.tmp 45), _, _, _, none⟩) rfl (fun K hK => ?_) AllReady.nil
            refine step_storeM r 0 53 (.tmp 47) (.tmp 45) _ _ _ (hb4.drew.below hB5) HF1.out HF2.out (ns_one _ _) rfl rfl (by kernel_rfl) (by kernel_rfl) ?_
            intro w6 hb6 hg6 hz6
            refine hK _ _ ?_
            clear hK K
            simp only [Act.put]
            refine wpAny_done (by kernel_rfl) ?_ _
            rw [hcells_words] at hb6
            have hN := hNx.out w6 (grown2 hg4 (grown2 (show w4.grownBy w5 (some r) from ⟨hB5.os, hB5.tape, hB5.output, hB5.size, fun k hk _ => hB5.block k hk⟩) hg6 (fun k e => .inr (by cases e; rfl))) (fun k e => .inr (by cases e; rfl))) ⟨_, bl2, h2, by rw [HLEN.out]; exact hb6⟩
            first | (rw [if_pos h, show c' - kc = 0 by omega] at hN) | (rw [if_neg h] at hN)
            go_wp2_with fail
            go_roundw
            case rel => exact ⟨_, _, _, _, rfl, hN⟩
            case measure => simp; omega
          · refine step_loadM r 8 54 (.tmp 43) _ _ hr2 Tryd.underlying54 hi2.out rfl rfl (by kernel_rfl) rfl ?_
            refine hK _ _ ?_
            clear hK K
            refine wpAny_ready (rs := [4]) (by kernel_rfl) (by simp) ?_
            refine AllReady.cons (o := ⟨some 40, .load 53 (.tmp 39), _, _, _, none⟩) rfl (fun K hK => ?_) AllReady.nil
            refine step_loadM r 0 53 (.tmp 39) _ _ hr1 Tryd.underlying53 hi1.out rfl rfl (by kernel_rfl) rfl ?_
            refine hK _ _ ?_
            clear hK K
            refine wpAny_ready (rs := [9]) (by kernel_rfl) (by simp) ?_
            refine AllReady.cons (o := ⟨some 45, .call { callee := .value (.func 44), args := #[.tmp 40, .tmp 44], argTypes := #[53, 54] }, _, _, _, none⟩) rfl (fun K hK => ?_) AllReady.nil
            refine step_call rfl ?_
            go_simp
            refine (mixed_any _ s hso bl2 hl2 (show Tab w4.drew _ from hT4)).mono ?_
            rintro e w5 ⟨rfl, hB5⟩
            refine hK _ _ ?_
            clear hK K
            refine wpAny_take (i := 10) (v := .pointer (some ⟨r, 0, none⟩)) rfl (by kernel_rfl) (by kernel_rfl) (by kernel_rfl) (fun _ _ _ h => h) (Or.inl ⟨by rfl, ?_⟩) ?_
            · intro w
              go_simp
            refine wpAny_take (i := 11) (v := .pointer (some ⟨r, 0, none⟩)) rfl (by kernel_rfl) (by kernel_rfl) (by kernel_rfl) (fun _ _ _ h => h) (Or.inl ⟨by rfl, ?_⟩) ?_
            · intro w
              go_simp
            generalize hX : Act.put _ _ _ = X
            simp [Act.put] at hX
            subst hX
            refine wpAny_ready (rs := [12]) (by kernel_rfl) (by simp) ?_
            refine AllReady.cons (o := ⟨none, .store 53 (.tmp 47) (.tmp 45), _, _, _, none⟩) rfl (fun K hK => ?_) AllReady.nil
            refine step_storeM r 0 53 (.tmp 47) (.tmp 45) _ _ _ (hb4.drew.below hB5) HF1.out HF2.out (ns_one _ _) rfl rfl (by kernel_rfl) (by kernel_rfl) ?_
            intro w6 hb6 hg6 hz6
            refine hK _ _ ?_
            clear hK K
            simp only [Act.put]
            refine wpAny_done (by kernel_rfl) ?_ _
            rw [hcells_words] at hb6
            have hN := hNx.out w6 (grown2 hg4 (grown2 (show w4.grownBy w5 (some r) from ⟨hB5.os, hB5.tape, hB5.output, hB5.size, fun k hk _ => hB5.block k hk⟩) hg6 (fun k e => .inr (by cases e; rfl))) (fun k e => .inr (by cases e; rfl))) ⟨_, bl2, h2, by rw [HLEN.out]; exact hb6⟩
            first | (rw [if_pos h, show c' - kc = 0 by omega] at hN) | (rw [if_neg h] at hN)
            go_wp2_with fail
            go_roundw
            case rel => exact ⟨_, _, _, _, rfl, hN⟩
            case measure => simp; omega
      · have e2' : ((q.length : Int) + (kc : Int)) % 64 = ((off + kc : Nat) : Int) := by have := HOFF.out; omega
        have e2 : ((q.length : Int) + (kc : Int)).tmod 64 = ((off + kc : Nat) : Int) := (Int.tmod_eq_emod_of_nonneg (by omega)).trans e2'
        have e3 : (((off + kc : Nat) : Int) == 0) = false := by simp; omega
        go_wp2_with fail
        have hh : HashAt (w2.setCell ⟨r, 72, none⟩ (.int .i64 ((q.length : Int) + (kc : Int)))) r (q ++ cs) := by
          have h1 := hb3.set 72 (.int .i64 ((q.length + kc : Nat) : Int))
          rw [hcells_set _ _ _ _ hl2] at h1
          have h2 := hH.less (cs := cs) (by rw [← HOFF.out, ← bs_length, HKCL.out]; omega)
          rw [← HOFF.out] at h2
          refine ⟨s, _, h2, ?_⟩
          have e : (q ++ cs).length = q.length + kc := by rw [List.length_append, ← bs_length cs, HKCL.out]
          rw [e]
          simpa using h1
        exact ⟨⟨_, _, _, _, rfl, hNx.out _ (set_grown w2 r 72 _) hh⟩, by simp; omega⟩
    · obtain rfl : n' = 0 := by omega
      have hl := hA.rd.len
      have hH2 := hA.hash
      have hk := hA.le
      have hg := hA.gr
      simp only [List.length_drop] at hl
      rw [List.take_of_length_le (by omega)] at hH2
      have HH := Lib.hid hH2
      clear hl hH2 hA
      go_wp2_with fail
      go_end0
      exact ⟨rfl, HH.out, hg⟩
end Go.Proofs.YtoclahcibilbhaaDoor
