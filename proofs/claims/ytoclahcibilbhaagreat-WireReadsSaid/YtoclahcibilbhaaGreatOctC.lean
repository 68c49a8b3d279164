/-
  The walks of octet's reader: frontCount, after, New, Left, Count, Bytes, Digest.
-/
import Derived.Test.YtoclahcibilbhaaGreatOctAB
namespace Go.Proofs.YtoclahcibilbhaaGreat
open Go.RowKit
set_option maxRecDepth 100000

/-- what a count at the front of bytes is: the number, how many bytes, the error; k groups are read, m is their number -/
def cnt (k m : Nat) : List UInt8 → Nat × Nat × Nat
  | [] => if k < 5 then (0, 0, 10) else (0, 0, 11)
  | c :: r =>
    if 5 ≤ k then (0, 0, 11)
    else if 128 ≤ c.toNat then cnt (k + 1) (m + c.toNat % 128 * 128 ^ k) r
    else if (0 < k ∧ c.toNat = 0) ∨ 2147483647 < m + c.toNat % 128 * 128 ^ k then (0, 0, 11)
    else (m + c.toNat % 128 * 128 ^ k, k + 1, 0)

/-- after k rounds -/
structure CntAt (l : List UInt8) (k m : Nat) : Prop where
  eq : cnt 0 0 l = cnt k m (l.drop k)
  lt : m < 128 ^ k

theorem CntAt.zero (l : List UInt8) : CntAt l 0 0 := ⟨rfl, by decide⟩
theorem CntAt.fin {l : List UInt8} {k m : Nat} (h : CntAt l k m) (hk : k < 5) (hl : l.length = k) : cnt 0 0 l = (0, 0, 10) := by
  rw [h.eq, List.drop_eq_nil_of_le (by omega), cnt, if_pos hk]
theorem CntAt.five {l : List UInt8} {m : Nat} (h : CntAt l 5 m) : cnt 0 0 l = (0, 0, 11) := by
  rw [h.eq]
  cases l.drop 5 <;> simp [cnt]
theorem CntAt.step {l : List UInt8} {k m : Nat} (h : CntAt l k m) (hk : k < 5) (hl : k < l.length) (hc : 128 ≤ l[k].toNat) : CntAt l (k + 1) (m + l[k].toNat % 128 * 128 ^ k) := by
  refine ⟨?_, ?_⟩
  · rw [h.eq, List.drop_eq_getElem_cons hl, cnt, if_neg (by omega), if_pos hc]
  · have h1 := h.lt
    have h2 : l[k].toNat % 128 * 128 ^ k ≤ 127 * 128 ^ k := Nat.mul_le_mul_right _ (by omega)
    rw [Nat.pow_succ]; omega
theorem CntAt.bad {l : List UInt8} {k m : Nat} (h : CntAt l k m) (hk : k < 5) (hl : k < l.length) (hc : l[k].toNat < 128) (hb : (0 < k ∧ l[k].toNat = 0) ∨ 2147483647 < m + l[k].toNat % 128 * 128 ^ k) : cnt 0 0 l = (0, 0, 11) := by
  rw [h.eq, List.drop_eq_getElem_cons hl, cnt, if_neg (by omega), if_neg (by omega), if_pos hb]
theorem CntAt.good {l : List UInt8} {k m : Nat} (h : CntAt l k m) (hk : k < 5) (hl : k < l.length) (hc : l[k].toNat < 128) (hb : ¬ ((0 < k ∧ l[k].toNat = 0) ∨ 2147483647 < m + l[k].toNat % 128 * 128 ^ k)) :
    cnt 0 0 l = (m + l[k].toNat % 128 * 128 ^ k, k + 1, 0) := by
  rw [h.eq, List.drop_eq_getElem_cons hl, cnt, if_neg (by omega), if_neg (by omega), if_neg hb]

/-- what frontCount hands back -/
def CntPost (l : List UInt8) (w : World) (e : Ending) (w' : World) : Prop :=
  e = .returned (.tuple #[.int .i64 ((cnt 0 0 l).1 : Int), .int .i64 ((cnt 0 0 l).2.1 : Int), .int .i64 ((cnt 0 0 l).2.2 : Int)]) ∧ w = w'
theorem CntPost.mk {l : List UInt8} {w : World} {a b c : Nat} {x y z : Int} (h : cnt 0 0 l = (a, b, c)) (hx : x = (a : Int)) (hy : y = (b : Int)) (hz : z = (c : Int)) : CntPost l w (.returned (.tuple #[.int .i64 x, .int .i64 y, .int .i64 z])) w := by
  subst hx; subst hy; subst hz
  unfold CntPost; rw [h]; exact ⟨rfl, rfl⟩

theorem u64_in (y : Nat) (h : y < 18446744073709551616) : IntKind.u64.wrap (y : Int) = (y : Int) := by
  simp only [IntKind.wrap]
  simp [IntKind.bits, IntKind.signed]
  omega

theorem sum_eq (k m x : Nat) (hk : k < 5) (hm : m < 128 ^ k) : IntKind.u64.wrap ((m : Int) + IntKind.u64.wrap ((x : Int) % 128 * 2 ^ (7 * k))) = ((m + x % 128 * 128 ^ k : Nat) : Int) := by
  have e : (2 : Int) ^ (7 * k) = ((128 ^ k : Nat) : Int) := by
    have : 128 ^ k = 2 ^ (7 * k) := by rw [Nat.pow_mul]
    rw [this]; simp
  have h1 : 128 ^ k ≤ 128 ^ 4 := Nat.pow_le_pow_right (by omega) (by omega)
  have h2 : x % 128 * 128 ^ k ≤ 127 * 128 ^ k := Nat.mul_le_mul_right _ (by omega)
  have e1 : (x : Int) % 128 * 2 ^ (7 * k) = ((x % 128 * 128 ^ k : Nat) : Int) := by rw [e]; simp
  rw [e1, u64_in _ (by omega)]
  rw [show (m : Int) + ((x % 128 * 128 ^ k : Nat) : Int) = ((m + x % 128 * 128 ^ k : Nat) : Int) by simp, u64_in _ (by omega)]

theorem Rd.byteC {w : World} {b off n c : Nat} {l : List UInt8} (h : Rd w (some ⟨b, off, none⟩) n c l) {k : Nat} (hk : k < l.length) : w.cell? ⟨b, off + k, none⟩ = some (.int .u8 (l[k].toNat : Int)) := by
  rw [← Addr.add_lit]
  exact h.cell _ rfl k _ (by simp [bs, hk])

set_option maxRecDepth 100000 in
set_option maxHeartbeats 4000000 in
theorem frontCount_at (w : World) (b off : Nat) (n c : Nat) (l : List UInt8) (hr : Rd w (some ⟨b, off, none⟩) n c l) :
    Calls Tryz.prog 107 #[.slice (some ⟨b, off, none⟩) n c] w (CntPost l w) := by
  have hcap := hr.cap
  by_cases h5 : n ≤ 5
  · go_enter Tryz.func107, Tryz.ntmps107
    go_wp2_with fail
    go_loop [5, 14] (fun s i => ∃ k m : Nat, k ≤ n ∧ i = .int .i64 k ∧ s = .int .u64 m ∧ CntAt l k m) (fun _ i => n - (intOf i).toNat)
    case atStart => exact ⟨0, 0, Nat.zero_le _, rfl, rfl, CntAt.zero l⟩
    case round =>
      obtain ⟨k, m, hk, rfl, rfl, hC⟩ := hrel
      by_cases hlt : k < n
      · have hkl : k < l.length := by rw [hr.len]; omega
        have hcell := hr.byteC hkl
        have hx : l[k].toNat < 256 := l[k].toNat_lt
        have hS := sum_eq k m l[k].toNat (by omega) hC.lt
        have HStep := Lib.hid (hC.step (by omega) hkl)
        have HBad := Lib.hid (hC.bad (by omega) hkl)
        have HGood := Lib.hid (hC.good (by omega) hkl)
        generalize hSD : m + l[k].toNat % 128 * 128 ^ k = S at *
        have HSD := Lib.hid hSD
        clear hSD
        generalize l[k].toNat = x at *
        by_cases h128 : 128 ≤ x
        · have hstep := HStep.out h128
          clear HStep HBad HGood
          go_wp2
          go_round
          case rel => exact ⟨k + 1, S, by omega, by go_num, rfl, hstep⟩
          case measure => simp [intOf]; omega
        · have hbad := Lib.hid (HBad.out (by omega))
          have hgood := Lib.hid (HGood.out (by omega))
          clear HStep HBad HGood
          by_cases hx0 : x = 0
          · have hb1 : ((x : Int) == 0) = true := by simp; omega
            by_cases hk0 : 0 < k
            · go_wp2
              go_ret3
              exact CntPost.mk (hbad.out (.inl ⟨hk0, hx0⟩)) rfl rfl rfl
            · obtain rfl : k = 0 := by omega
              obtain rfl : m = 0 := by have := hC.lt; omega
              subst hx0
              have hS0 : S = 0 := by have := HSD.out; simpa using this.symm
              subst hS0
              have hcell' : w.cell? ⟨b, off, none⟩ = some (.int .u8 0) := hcell
              clear hS hcell hb1 HSD
              go_wp2
              go_ret3
              exact CntPost.mk (hgood.out (by simp)) rfl rfl rfl
          · have hb1 : ((x : Int) == 0) = false := by simp; omega
            by_cases hbig : 2147483647 < S
            · go_wp2
              go_ret3
              exact CntPost.mk (hbad.out (.inr hbig)) rfl rfl rfl
            · go_wp2
              go_ret3
              exact CntPost.mk (hgood.out (by omega)) rfl (by omega) rfl
      · obtain rfl : k = n := by omega
        have hl := hr.len
        by_cases h6 : k = 5
        · subst h6
          have hfin := Lib.hid hC.five
          clear hl
          go_wp2
          go_ret3
          exact CntPost.mk hfin.out rfl rfl rfl
        · have hfin := Lib.hid (hC.fin (by omega) hl)
          have h7 : k < 5 := by omega
          clear hl
          go_wp2
          go_ret3
          exact CntPost.mk hfin.out rfl rfl rfl
  · go_enter Tryz.func107, Tryz.ntmps107
    go_wp2_with fail
    go_loop [5, 14] (fun s i => ∃ k m : Nat, k ≤ 5 ∧ i = .int .i64 k ∧ s = .int .u64 m ∧ CntAt l k m) (fun _ i => 5 - (intOf i).toNat)
    case atStart => exact ⟨0, 0, Nat.zero_le _, rfl, rfl, CntAt.zero l⟩
    case round =>
      obtain ⟨k, m, hk, rfl, rfl, hC⟩ := hrel
      by_cases hlt : k < 5
      · have hkl : k < l.length := by rw [hr.len]; omega
        have hcell := hr.byteC hkl
        have hx : l[k].toNat < 256 := l[k].toNat_lt
        have hS := sum_eq k m l[k].toNat (by omega) hC.lt
        have HStep := Lib.hid (hC.step (by omega) hkl)
        have HBad := Lib.hid (hC.bad (by omega) hkl)
        have HGood := Lib.hid (hC.good (by omega) hkl)
        generalize hSD : m + l[k].toNat % 128 * 128 ^ k = S at *
        have HSD := Lib.hid hSD
        clear hSD
        generalize l[k].toNat = x at *
        by_cases h128 : 128 ≤ x
        · have hstep := HStep.out h128
          clear HStep HBad HGood
          go_wp2
          go_round
          case rel => exact ⟨k + 1, S, by omega, by go_num, rfl, hstep⟩
          case measure => simp [intOf]; omega
        · have hbad := Lib.hid (HBad.out (by omega))
          have hgood := Lib.hid (HGood.out (by omega))
          clear HStep HBad HGood
          by_cases hx0 : x = 0
          · have hb1 : ((x : Int) == 0) = true := by simp; omega
            by_cases hk0 : 0 < k
            · go_wp2
              go_ret3
              exact CntPost.mk (hbad.out (.inl ⟨hk0, hx0⟩)) rfl rfl rfl
            · obtain rfl : k = 0 := by omega
              obtain rfl : m = 0 := by have := hC.lt; omega
              subst hx0
              have hS0 : S = 0 := by have := HSD.out; simpa using this.symm
              subst hS0
              have hcell' : w.cell? ⟨b, off, none⟩ = some (.int .u8 0) := hcell
              clear hS hcell hb1 HSD
              go_wp2
              go_ret3
              exact CntPost.mk (hgood.out (by simp)) rfl rfl rfl
          · have hb1 : ((x : Int) == 0) = false := by simp; omega
            by_cases hbig : 2147483647 < S
            · go_wp2
              go_ret3
              exact CntPost.mk (hbad.out (.inr hbig)) rfl rfl rfl
            · go_wp2
              go_ret3
              exact CntPost.mk (hgood.out (by omega)) rfl (by omega) rfl
      · obtain rfl : k = 5 := by omega
        have hl := hr.len
        have hfin := Lib.hid (hC.five)
        clear hl
        go_wp2
        go_ret3
        exact CntPost.mk hfin.out rfl rfl rfl

set_option maxRecDepth 100000 in
set_option maxHeartbeats 1000000 in
theorem frontCount_zero (w : World) (a : Option Addr) (c : Nat) :
    Calls Tryz.prog 107 #[.slice a 0 c] w (CntPost [] w) := by
  have hfin : CntPost [] w (.returned (.tuple #[.int .i64 0, .int .i64 0, .int .i64 10])) w := CntPost.mk (a := 0) (b := 0) (c := 10) rfl rfl rfl rfl
  have HF := Lib.hid hfin
  clear hfin
  go_enter Tryz.func107, Tryz.ntmps107
  go_wp2_with fail
  go_loop [5, 14] (fun s i => i = .int .i64 0) (fun _ i => 0)
  case atStart => rfl
  case round =>
    subst hrel
    go_wp2
    go_ret3
    exact HF.out

theorem frontCount_any (w : World) (a : Option Addr) (n c : Nat) (l : List UInt8) (hr : Rd w a n c l) :
    Calls Tryz.prog 107 #[.slice a n c] w (CntPost l w) := by
  by_cases hn : n = 0
  · subst hn
    obtain rfl : l = [] := List.eq_nil_of_length_eq_zero hr.len
    exact frontCount_zero w a c
  · obtain ⟨b, off, rfl, _⟩ := hr.at (by omega)
    exact frontCount_at w b off n c l hr

theorem Rd.drop {w : World} {a : Option Addr} {n c : Nat} {l : List UInt8} (h : Rd w a n c l) (k : Nat) (hk : k ≤ n) : Rd w (if n = k then a else a.map (fun x => x.add k)) (n - k) (n - k) (l.drop k) := by
  have hl := h.len
  have hc := h.cap
  have hm := h.max
  refine ⟨by simp [hl], Nat.le_refl _, by omega, ?_, ?_⟩
  · split
    · intro _; omega
    · intro e
      cases a with
      | none => have := (h.nil rfl).1; omega
      | some a => simp at e
  · intro ad e j u hu
    have hj : j < n - k := by
      have := (List.getElem?_eq_some_iff.1 hu).1
      simpa [bs, hl] using this
    rw [if_neg (by omega)] at e
    obtain ⟨b, off, rfl, _, _⟩ := h.at (by omega)
    simp only [Option.map_some, Option.some.injEq, Addr.add_lit] at e
    subst e
    rw [Addr.add_lit, Nat.add_assoc, ← Addr.add_lit]
    refine h.cell _ rfl (k + j) u ?_
    rw [← hu]
    simp [bs, List.getElem?_drop]

set_option maxRecDepth 100000 in
set_option maxHeartbeats 1000000 in
theorem after_any (w : World) (a : Option Addr) (n c : Nat) (k : Int) (l : List UInt8) (hr : Rd w a n c l) (h0 : 0 ≤ k) (hk : k ≤ n) :
    Calls Tryz.prog 108 #[.slice a n c, .int .i64 k] w fun e w' => ∃ a', e = .returned (.slice a' (n - k.toNat) (n - k.toNat)) ∧ (∀ W, Rd W a n c l → Rd W a' (n - k.toNat) (n - k.toNat) (l.drop k.toNat)) ∧ w = w' := by
  obtain ⟨k, rfl⟩ := Int.eq_ofNat_of_zero_le h0
  have hkn : k ≤ n := by omega
  have hcap := hr.cap
  have hmax : n ≤ 9223372036854775807 := by have := hr.max; unfold maxLen at this; omega
  have hd := fun W (h : Rd W a n c l) => h.drop k hkn
  have HD := Lib.hid hd
  clear hd
  by_cases h : n = k
  · subst h
    go_enter Tryz.func108, Tryz.ntmps108
    go_wp2_with fail
    go_ret
    exact ⟨a, by simp, fun W hW => by have hd := HD.out W hW; rw [if_pos trivial] at hd; simpa using hd, rfl⟩
  · go_enter Tryz.func108, Tryz.ntmps108
    go_wp2_with fail
    go_ret
    exact ⟨_, rfl, fun W hW => by have hd := HD.out W hW; rw [if_neg h] at hd; exact hd, rfl⟩

/-- r is a reader whose rest reads as l -/
def Rdr (w : World) (r : Nat) (l : List UInt8) : Prop := ∃ a n c, w.heap[r]? = some (.cells #[.slice a n c] 150 (0, 0)) ∧ Rd w a n c l

theorem Rdr.below {w w' : World} {r : Nat} {l : List UInt8} (h : Rdr w r l) (hb : Below w.heap.size w w') : Rdr w' r l := by
  obtain ⟨a, n, c, h1, h2⟩ := h
  exact ⟨a, n, c, (hb.block r (lt_of_block h1)).trans h1, h2.below hb⟩

/-- what happens to reader r alone leaves slices of bytes as they are -/
theorem Rd.kept {w w' : World} {r : Nat} {x : Value} {t : TypeId} {f : Nat × Nat} {a : Option Addr} {n c : Nat} {l : List UInt8} (h : Rd w a n c l) (hg : w.grownBy w' (some r)) (hr : w.heap[r]? = some (.cells #[x] t f)) (hx : ∀ k i, x ≠ .int k i) : Rd w' a n c l := by
  refine ⟨h.len, h.cap, h.max, h.nil, fun ad e j u hu => ?_⟩
  have hc := h.cell ad e j u hu
  refine hg.cell hc ?_
  intro e2
  simp only [Option.some.injEq] at e2
  have hw : ∃ v, w.cell? (ad.add j) = some v ∧ v = x := by
    unfold World.cell? at hc ⊢
    rw [e2, hr] at hc ⊢
    simp only at hc ⊢
    refine ⟨u, hc, ?_⟩
    have : (ad.add j).off = 0 := by
      by_cases ho : (ad.add j).off = 0
      · exact ho
      · simp [ho] at hc
    simp [this] at hc
    exact hc.2.symm
  obtain ⟨v, hv, rfl⟩ := hw
  rw [hc] at hv
  cases hv
  obtain ⟨b, _, rfl⟩ := List.mem_map.1 (List.mem_of_getElem? hu)
  exact hx _ _ rfl

theorem Own.keptC {w w' : World} {r : Nat} {base : Nat} {v : Value} {cs : Array Value} {t : TypeId} {f : Nat × Nat} {l : List UInt8} (h : Own w base v l) (hg : w.grownBy w' (some r)) (hr : w.heap[r]? = some (.cells cs t f)) (ht : t ≠ 5) : Own w' base v l :=
  World.ownsRow.kept h hg (.inr (Own.ne h hr ht))

theorem Rdr.kept {w w' : World} {r r' : Nat} {l l' : List UInt8} (h : Rdr w r' l') (hg : w.grownBy w' (some r)) (hr : Rdr w r l) (hne : r' ≠ r) : Rdr w' r' l' := by
  obtain ⟨a, n, c, h1, h2⟩ := h
  obtain ⟨a', n', c', h1', _⟩ := hr
  exact ⟨a, n, c, (hg.block r' (lt_of_block h1) (by simpa using hne)).trans h1, h2.kept hg h1' (by simp)⟩

theorem Rdr.rd {w w' : World} {r : Nat} {l l' : List UInt8} {a n c} (h : Rd w a n c l) (hg : w.grownBy w' (some r)) (hr : Rdr w r l') : Rd w' a n c l := by
  obtain ⟨a', n', c', h1', _⟩ := hr
  exact h.kept hg h1' (by simp)

theorem Rdr.own {w w' : World} {r : Nat} {l l' : List UInt8} {base v} (h : Own w base v l) (hg : w.grownBy w' (some r)) (hr : Rdr w r l') : Own w' base v l := by
  obtain ⟨a', n', c', h1', _⟩ := hr
  exact Own.keptC h hg h1' (by decide)

/-- the reader's rest is set -/
theorem Rdr.set {w : World} {r : Nat} {l l' : List UInt8} {a n c} (hr : Rdr w r l) (h : Rd w a n c l') : Rdr (w.setCell ⟨r, 0, none⟩ (.slice a n c)) r l' ∧ w.grownBy (w.setCell ⟨r, 0, none⟩ (.slice a n c)) (some r) := by
  have hg : w.grownBy (w.setCell ⟨r, 0, none⟩ (.slice a n c)) (some r) := ⟨rfl, rfl, rfl, by simp [World.setCell], fun k _ hne => Below.heap_setCell w _ _ k (by intro e; exact hne (by simp [e]))⟩
  obtain ⟨a', n', c', h1', _⟩ := hr
  exact ⟨⟨a, n, c, one_setCell h1', h.kept hg h1' (by simp)⟩, hg⟩

set_option maxRecDepth 100000 in
set_option maxHeartbeats 1000000 in
theorem new_any (w : World) (a : Option Addr) (n c : Nat) (l : List UInt8) (hr : Rd w a n c l) (hn : n ≤ 1099511627776) :
    Calls Tryz.prog 51 #[.slice a n c] w fun e w' => ∃ r, e = .returned (.pointer (some ⟨r, 0, none⟩)) ∧ w.heap.size ≤ r ∧ Rdr w' r l ∧ Below w.heap.size w w' := by
  go_enter Tryz.func51, Tryz.ntmps51
  go_wp2_with fail
  refine (roomy_own w a n c l 0 hr (by omega) (by omega) (by omega)).mono ?_
  rintro e w1 ⟨a1, c1, rfl, hO1, hB1⟩
  go_wp2_with fail
  go_ret
  have hB2 : Below w1.heap.size w1 (w1.alloc (.cells #[.slice a1 n c1] 150)) := (Below.refl _ _).alloc (Nat.le_refl _) _
  exact ⟨w1.heap.size, rfl, hB1.size, ⟨a1, n, c1, World.alloc_heap_new w1 _, (hO1.below hB2).rd⟩, Bt hB1 hB2⟩

set_option maxRecDepth 100000 in
theorem left_any (w : World) (r : Nat) (l : List UInt8) (hr : Rdr w r l) :
    Calls Tryz.prog 54 #[.pointer (some ⟨r, 0, none⟩)] w fun e w' => e = .returned (.int .i64 l.length) ∧ w = w' := by
  obtain ⟨a, n, c, h1, h2⟩ := hr
  have hc := cell_of_one h1
  have hl := Lib.hid h2.len
  go_enter Tryz.func54, Tryz.ntmps54
  go_wp2_with fail
  go_ret
  exact ⟨by rw [hl.out]; rfl, rfl⟩

theorem left_nil (w : World) :
    Calls Tryz.prog 54 #[.pointer none] w fun e w' => e = .returned (.int .i64 0) ∧ w = w' := by
  go_enter Tryz.func54, Tryz.ntmps54
  go_wp2_with fail
  go_ret
  exact ⟨rfl, rfl⟩

theorem count_nil (w : World) :
    Calls Tryz.prog 90 #[.pointer none] w fun e w' => e = .returned (.tuple #[.int .i64 0, .int .i64 3]) ∧ w = w' := by
  go_enter Tryz.func90, Tryz.ntmps90
  go_wp2_with fail
  go_ret2
  exact ⟨rfl, rfl⟩

theorem bytes_nil (w : World) :
    Calls Tryz.prog 93 #[.pointer none] w fun e w' => e = .returned (.tuple #[.string ByteArray.empty, .int .i64 3]) ∧ w = w' := by
  go_enter Tryz.func93, Tryz.ntmps93
  go_wp2_with fail
  go_ret2
  exact ⟨rfl, rfl⟩

/-- what Count hands back, and leaves -/
def CountPost (w : World) (r : Nat) (l : List UInt8) (e : Ending) (w' : World) : Prop :=
  e = .returned (.tuple #[.int .i64 ((cnt 0 0 l).1 : Int), .int .i64 ((cnt 0 0 l).2.2 : Int)]) ∧ Rdr w' r (l.drop (cnt 0 0 l).2.1) ∧ w.grownBy w' (some r)

theorem cnt_le : ∀ (l : List UInt8) (k m : Nat), k ≤ 5 → (cnt k m l).2.1 ≤ k + l.length ∧ (cnt k m l).2.1 ≤ 5 ∧ (cnt k m l).1 ≤ 2147483647 ∧ ((cnt k m l).2.2 ≠ 0 → (cnt k m l).2.1 = 0 ∧ (cnt k m l).1 = 0) ∧ (cnt k m l).2.2 ≤ 11
  | [], k, m, hk => by unfold cnt; split <;> simp
  | c :: r, k, m, hk => by
    unfold cnt
    split
    · simp
    · split
      · have := cnt_le r (k + 1) (m + c.toNat % 128 * 128 ^ k) (by omega)
        refine ⟨by simp; omega, this.2.1, this.2.2.1, this.2.2.2⟩
      · split
        · simp
        · refine ⟨?_, ?_, ?_, ?_, ?_⟩ <;> simp <;> omega

set_option maxRecDepth 100000 in
set_option maxHeartbeats 1000000 in
theorem count_any (w : World) (r : Nat) (l : List UInt8) (hr : Rdr w r l) :
    Calls Tryz.prog 90 #[.pointer (some ⟨r, 0, none⟩)] w (CountPost w r l) := by
  have hr' := hr
  obtain ⟨a, n, c, h1, h2⟩ := hr
  have hc := cell_of_one h1
  have hf := free_of_one h1
  have hl := Lib.hid h2.len
  obtain ⟨b1, b2, b3, b4, b5⟩ := cnt_le l 0 0 (by omega)
  have HP := Lib.hid (rfl : CountPost w r l = CountPost w r l)
  obtain ⟨x, y, z, hcnt⟩ : ∃ x y z, cnt 0 0 l = (x, y, z) := ⟨_, _, _, rfl⟩
  rw [hcnt] at b1 b2 b3 b4 b5
  have HC := Lib.hid hcnt
  clear hcnt
  have fin : ∀ w', Rdr w' r (l.drop y) → w.grownBy w' (some r) → CountPost w r l (.returned (.tuple #[.int .i64 x, .int .i64 z])) w' := fun w' q1 q2 => by
    unfold CountPost; rw [HC.out]; exact ⟨rfl, q1, q2⟩
  have HF := Lib.hid fin
  have H4 := Lib.hid b4
  clear fin b4
  by_cases hz : z = 0
  · subst hz
    go_enter Tryz.func90, Tryz.ntmps90
    go_wp2_with fail
    refine (frontCount_any w a n c l h2).mono ?_
    rintro e w' ⟨rfl, rfl⟩
    rw [HC.out]
    go_wp2_with fail
    refine (after_any w a n c y l h2 (by omega) (by have := hl.out; omega)).mono ?_
    rintro e w' ⟨a', rfl, hd0, rfl⟩
    have hd := hd0 _ h2
    clear hd0
    go_wp2_with fail
    go_ret2
    have hs := Rdr.set hr' hd
    exact HF.out _ hs.1 hs.2
  · have hzz : ((z : Int) != 0) = true := by simp; omega
    have h0 := H4.out hz
    simp only at h0
    obtain ⟨rfl, rfl⟩ := h0
    go_enter Tryz.func90, Tryz.ntmps90
    go_wp2_with fail
    refine (frontCount_any w a n c l h2).mono ?_
    rintro e w' ⟨rfl, rfl⟩
    rw [HC.out]
    go_wp2_with fail
    go_ret2
    exact HF.out _ hr' (World.grownBy.refl _ _)
end Go.Proofs.YtoclahcibilbhaaGreat
