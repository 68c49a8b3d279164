/-
  Con05S Con05I Con05L Con05O Con05H, in one text.
-/
import Derived.Test.YtgbhfpkngjlfkaaDoorSmt1
import Derived.Test.YtgbhfpkngjlfkaaDoorSortLay
import Derived.Test.YtgbhfpkngjlfkaaDoorLibE
import Derived.Test.YtgbhfpkngjlfkaaDoorCon04BC
import Derived.Test.YtgbhfpkngjlfkaaDoorRef05C
import Derived.Shelf.GgSortFunc.SmallK
import Derived.Sort.AssemblyPlain
import Derived.Lib.ReflectliteSwap
import Derived.Lib.LazyBuf
namespace Go.Proofs.YtgbhfpkngjlfkaaDoor
/-! A row of leaves that is sorted: what is known of it; the functions that Slice is handed; insertionSort_func. -/
section
open Go.RowKit

instance : Inhabited Lf := ⟨lf0⟩
theorem get_list (d : Array Lf) (i : Nat) : d.toList.getD i lf0 = d[i]! := by
  by_cases h : i < d.size
  · rw [getElem!_pos d i h]; simp [List.getD, h]
  · rw [getElem!_neg d i h]; simp [List.getD, show d.toList[i]? = none by simp; omega]; rfl
theorem splice_get (vs cs : List Value) (o : Nat) (h : o + cs.length ≤ vs.length) (t : Nat) : (splice vs o cs)[t]? = if o ≤ t ∧ t < o + cs.length then cs[t - o]? else vs[t]? := by
  unfold splice
  by_cases h1 : t < o
  · rw [if_neg (by omega), List.getElem?_append_left (by simp; omega), List.getElem?_take, if_pos h1]
  · by_cases h2 : t < o + cs.length
    · rw [if_pos ⟨by omega, h2⟩, List.getElem?_append_right (by simp; omega), List.length_take, Nat.min_eq_left (by omega), List.getElem?_append_left (by omega)]
    · rw [if_neg (by omega), List.getElem?_append_right (by simp; omega), List.length_take, Nat.min_eq_left (by omega), List.getElem?_append_right (by omega), List.getElem?_drop]
      congr 1; omega

/-- the world with a row of leaves that is being sorted -/
structure St (w0 : World) (b1 g n c : Nat) (rest : List Value) (d : Array Lf) (W : World) : Prop where
  row : Blk W g 46 (lcs d.toList ++ rest)
  size : d.size = n
  ok : oks d.toList
  box : W.cell? ⟨b1, 0, none⟩ = some (.slice (some ⟨g, 0, none⟩) n c)
  bel : w0.grownBy W (some g)
  apart : b1 ≠ g
section
variable {w0 W W' : World} {b1 g n c : Nat} {rest : List Value} {d : Array Lf}
theorem St.below (h : St w0 b1 g n c rest d W) (hb : Below W.heap.size W W') : St w0 b1 g n c rest d W' :=
  ⟨h.row.below hb, h.size, h.ok, cell_later hb h.box, ⟨hb.os.trans h.bel.os, hb.tape.trans h.bel.tape, hb.output.trans h.bel.output, Nat.le_trans h.bel.size hb.size, fun k hk hne => (hb.block k (Nat.lt_of_lt_of_le hk h.bel.size)).trans (h.bel.block k hk hne)⟩, h.apart⟩
theorem St.get (h : St w0 b1 g n c rest d W) {i : Nat} (hi : i < n) : d[i]!.ok := by
  have := h.ok.at (i := i) (by simp [h.size, hi])
  rwa [get_list] at this
theorem St.rng (h : St w0 b1 g n c rest d W) {i : Nat} (hi : i < n) : W.rangeAt g (0 + i * 64) (lc d[i]!) := by
  refine h.row.range _ (fun j hj => ?_)
  rw [lc_length (h.get hi)] at hj
  have hl : (lcs d.toList).length = n * 64 := by rw [lcs_length h.ok, Array.length_toList, h.size]
  rw [List.getElem?_append_left (by omega), Nat.zero_add, lcs_at h.ok i j (by simp [h.size, hi]) hj, get_list]
/-- what swap makes of a world -/
def swapW (W : World) (g : Nat) (d : Array Lf) (i j : Nat) : World := (W.setCells g (0 + i * 64) (lc d[j]!)).setCells g (0 + j * 64) (lc d[i]!)
theorem swp_oks {d : Array Lf} (h : oks d.toList) {i j : Nat} (hi : i < d.size) (hj : j < d.size) : oks (Sort.swp d i j).toList := fun x hx => by
  obtain ⟨k, hk, rfl⟩ := List.getElem_of_mem hx
  have hk' : k < d.size := by simpa [Sort.size_swp] using hk
  have e : (Sort.swp d i j).toList[k] = (Sort.swp d i j)[k]! := by rw [getElem!_pos _ k (by simpa using hk)]; simp
  have g : ∀ q, q < d.size → d[q]!.ok := fun q hq => by
    rw [getElem!_pos d q hq]
    exact h _ (by simp)
  rw [e, Sort.swp_get d hi hj]
  split
  · exact g i hi
  · split
    · exact g j hj
    · exact g k hk'
theorem St.swap (h : St w0 b1 g n c rest d W) {i j : Nat} (hi : i < n) (hj : j < n) : St w0 b1 g n c rest (Sort.swp d i j) (swapW W g d i j) ∧ W.grownBy (swapW W g d i j) (some g) := by
  have hn := h.size
  have hl : (lcs d.toList).length = n * 64 := by rw [lcs_length h.ok, Array.length_toList, hn]
  have hL : (lcs d.toList ++ rest).length = n * 64 + rest.length := by rw [List.length_append, hl]
  have hxi := lc_length (h.get hi)
  have hxj := lc_length (h.get hj)
  have hi64 : i * 64 + 64 ≤ n * 64 := by omega
  have hj64 : j * 64 + 64 ≤ n * 64 := by omega
  have hok := swp_oks h.ok (i := i) (j := j) (by omega) (by omega)
  have hsz : (Sort.swp d i j).size = n := by rw [Sort.size_swp, hn]
  have b1' := Blk.sets (lc d[j]!) _ (0 + i * 64) h.row (by rw [hxj, hL]; omega)
  have hs1 : (splice (lcs d.toList ++ rest) (0 + i * 64) (lc d[j]!)).length = n * 64 + rest.length := by
    unfold splice
    simp only [List.length_append, List.length_take, List.length_drop, hxj, hl]
    omega
  have b2' := Blk.sets (lc d[i]!) _ (0 + j * 64) b1' (by rw [hxi, hs1]; omega)
  have hg : W.grownBy (swapW W g d i j) (some g) := grown2 (setCells_grown g _ _ W) (setCells_grown g _ _ _) (fun k e => .inr e)
  have e : splice (splice (lcs d.toList ++ rest) (0 + i * 64) (lc d[j]!)) (0 + j * 64) (lc d[i]!) = lcs (Sort.swp d i j).toList ++ rest := by
    refine List.ext_getElem? fun t => ?_
    have hl2 : (lcs (Sort.swp d i j).toList).length = n * 64 := by rw [lcs_length hok, Array.length_toList, hsz]
    rw [splice_get _ _ _ (by rw [hxi, hs1]; omega), splice_get _ _ _ (by rw [hxj, hL]; omega), hxi, hxj]
    by_cases ht : t < n * 64
    · rw [List.getElem?_append_left (by omega : t < (lcs (Sort.swp d i j).toList).length), List.getElem?_append_left (by omega : t < (lcs d.toList).length)]
      have hq : t / 64 < n := by omega
      have hr : t % 64 < 64 := Nat.mod_lt _ (by decide)
      have et : t = t / 64 * 64 + t % 64 := by omega
      have a1 := lcs_at hok (t / 64) (t % 64) (by simp [Sort.size_swp, hn, hq]) hr
      have a2 := lcs_at h.ok (t / 64) (t % 64) (by simp [hn, hq]) hr
      rw [← et, get_list] at a1 a2
      rw [a1, a2, Sort.swp_get d (by omega) (by omega)]
      by_cases h1 : t / 64 = j
      · rw [if_pos (by omega), if_pos h1, show t - (0 + j * 64) = t % 64 by omega]
      · rw [if_neg (by omega), if_neg h1]
        by_cases h2 : t / 64 = i
        · rw [if_pos (by omega), if_pos h2, show t - (0 + i * 64) = t % 64 by omega]
        · rw [if_neg (by omega), if_neg h2]
    · rw [if_neg (by omega), if_neg (by omega), List.getElem?_append_right (by omega), List.getElem?_append_right (by omega), hl, hl2]
  rw [e] at b2'
  exact ⟨⟨b2', hsz, hok, hg.cell h.box (fun e => h.apart (by cases e; rfl)), grown2 h.bel hg (fun k e => .inr e), h.apart⟩, hg⟩
end

/-- what the first function knows of a world -/
structure LsAt (W : World) (b1 g off n c i j : Nat) (x y : Lf) : Prop where
  row : W.cell? ⟨b1, 0, none⟩ = some (.slice (some ⟨g, off, none⟩) n c)
  rx : W.rangeAt g (off + i * 64) (bs x.path)
  ry : W.rangeAt g (off + j * 64) (bs y.path)
theorem LsAt.below {W W' : World} {b1 g off n c i j : Nat} {x y : Lf} (h : LsAt W b1 g off n c i j x y) (hb : Below W.heap.size W W') : LsAt W' b1 g off n c i j x y :=
  ⟨cell_later hb h.row, rangeAt_below hb h.rx, rangeAt_below hb h.ry⟩
theorem LsAt.drew {W : World} {b1 g off n c i j : Nat} {x y : Lf} (h : LsAt W b1 g off n c i j x y) : LsAt W.drew b1 g off n c i j x y := ⟨h.row, h.rx, h.ry⟩

set_option maxRecDepth 100000 in
set_option maxHeartbeats 1000000 in
theorem lsless_any (w : World) (b1 g off n c i j : Nat) (x y : Lf) (hx : x.ok) (hy : y.ok) (hS : LsAt w b1 g off n c i j x y) (hi : i < n) (hj : j < n) :
    Calls Tryd.prog 76 #[.int .i64 (i : Int), .int .i64 (j : Int), .pointer (some ⟨b1, 0, none⟩)] w fun e w' => e = .returned (.bool (lessLf x y)) ∧ Below w.heap.size w w' := by
  have H5 := Lib.hid (show (Tryd.prog.info? 23).map (·.size) = some (bs x.path).length by rw [info_digest, bs_length, hx.1])
  have H6 := Lib.hid (show (Tryd.prog.info? 23).map (·.size) = some (bs y.path).length by rw [info_digest, bs_length, hy.1])
  have HL := Lib.hid (fun W : World => less_any W x.path y.path hx.1 hy.1)
  have hi' : (i : Int) < (n : Int) := by omega
  have hj' : (j : Int) < (n : Int) := by omega
  have hr : lessLf x y = lessB x.path y.path := rfl
  rw [hr]
  generalize lessB x.path y.path = b at *
  clear hr
  go_enter Tryd.func76, Tryd.ntmps76
  go_wp2_with fail
  -- REGION less 2
  refine wp_region_held_drew (S := fun W => LsAt W b1 g off n c i j x y) (by kernel_rfl) hS.drew (fun hHeld => ?_)
  refine wpAnyH_take (i := 0) (oi := ⟨some 6, .load 41 (.tmp 2), _, _, _, none⟩) (v := ?_) rfl (by kernel_rfl) (by kernel_rfl) (by kernel_rfl) (fun _ _ _ h => h) (Or.inl ⟨by rfl, ?_⟩) hHeld ?_
  rotate_left
  · intro W hS; have h0 := hS.row; go_simp; try with_reducible rfl
  try simp only [Act.put, List.setIfInBounds_toArray, List.set_cons_zero, List.set_cons_succ]
  refine wpAnyH_take (i := 1) (oi := ⟨some 7, .move (.tmp 0), _, _, _, none⟩) (v := ?_) rfl (by kernel_rfl) (by kernel_rfl) (by kernel_rfl) (fun _ _ _ h => h) (Or.inl ⟨by rfl, ?_⟩) hHeld ?_
  rotate_left
  · intro W _; go_simp; try with_reducible rfl
  try simp only [Act.put, List.setIfInBounds_toArray, List.set_cons_zero, List.set_cons_succ]
  refine wpAnyH_take (i := 2) (oi := ⟨some 8, .indexAddr 41 (.tmp 6) (.tmp 7), _, _, _, none⟩) (v := ?_) rfl (by kernel_rfl) (by kernel_rfl) (by kernel_rfl) (fun _ _ _ h => h) (Or.inl ⟨by rfl, ?_⟩) hHeld ?_
  rotate_left
  · intro W _; go_simp; try with_reducible rfl
  try simp only [Act.put, List.setIfInBounds_toArray, List.set_cons_zero, List.set_cons_succ]
  refine wpAnyH_take (i := 3) (oi := ⟨some 9, .fieldAddr 46 (.tmp 8) 0, _, _, _, none⟩) (v := ?_) rfl (by kernel_rfl) (by kernel_rfl) (by kernel_rfl) (fun _ _ _ h => h) (Or.inl ⟨by rfl, ?_⟩) hHeld ?_
  rotate_left
  · intro W _; go_simp; try with_reducible rfl
  try simp only [Act.put, List.setIfInBounds_toArray, List.set_cons_zero, List.set_cons_succ]
  refine wpAnyH_take (i := 4) (oi := ⟨some 10, .load 23 (.tmp 9), _, _, _, none⟩) (v := .agg (bs x.path).toArray) rfl (by kernel_rfl) (by kernel_rfl) (by kernel_rfl) (fun _ _ _ h => h) (yieldsIf_load_mid (by rfl) _ _ rfl g (off + i * 64) rfl (bs x.path) _ (fun W h => h.rx) Tryd.underlying23 rfl H5.out) hHeld ?_
  try simp only [Act.put, List.setIfInBounds_toArray, List.set_cons_zero, List.set_cons_succ]
  refine wpAnyH_take (i := 5) (oi := ⟨some 11, .load 41 (.tmp 2), _, _, _, none⟩) (v := ?_) rfl (by kernel_rfl) (by kernel_rfl) (by kernel_rfl) (fun _ _ _ h => h) (Or.inl ⟨by rfl, ?_⟩) hHeld ?_
  rotate_left
  · intro W hS; have h0 := hS.row; go_simp; try with_reducible rfl
  try simp only [Act.put, List.setIfInBounds_toArray, List.set_cons_zero, List.set_cons_succ]
  refine wpAnyH_take (i := 6) (oi := ⟨some 12, .move (.tmp 1), _, _, _, none⟩) (v := ?_) rfl (by kernel_rfl) (by kernel_rfl) (by kernel_rfl) (fun _ _ _ h => h) (Or.inl ⟨by rfl, ?_⟩) hHeld ?_
  rotate_left
  · intro W _; go_simp; try with_reducible rfl
  try simp only [Act.put, List.setIfInBounds_toArray, List.set_cons_zero, List.set_cons_succ]
  refine wpAnyH_take (i := 7) (oi := ⟨some 13, .indexAddr 41 (.tmp 11) (.tmp 12), _, _, _, none⟩) (v := ?_) rfl (by kernel_rfl) (by kernel_rfl) (by kernel_rfl) (fun _ _ _ h => h) (Or.inl ⟨by rfl, ?_⟩) hHeld ?_
  rotate_left
  · intro W _; go_simp; try with_reducible rfl
  try simp only [Act.put, List.setIfInBounds_toArray, List.set_cons_zero, List.set_cons_succ]
  refine wpAnyH_take (i := 8) (oi := ⟨some 14, .fieldAddr 46 (.tmp 13) 0, _, _, _, none⟩) (v := ?_) rfl (by kernel_rfl) (by kernel_rfl) (by kernel_rfl) (fun _ _ _ h => h) (Or.inl ⟨by rfl, ?_⟩) hHeld ?_
  rotate_left
  · intro W _; go_simp; try with_reducible rfl
  try simp only [Act.put, List.setIfInBounds_toArray, List.set_cons_zero, List.set_cons_succ]
  refine wpAnyH_take (i := 9) (oi := ⟨some 15, .load 23 (.tmp 14), _, _, _, none⟩) (v := .agg (bs y.path).toArray) rfl (by kernel_rfl) (by kernel_rfl) (by kernel_rfl) (fun _ _ _ h => h) (yieldsIf_load_mid (by rfl) _ _ rfl g (off + j * 64) rfl (bs y.path) _ (fun W h => h.ry) Tryd.underlying23 rfl H6.out) hHeld ?_
  try simp only [Act.put, List.setIfInBounds_toArray, List.set_cons_zero, List.set_cons_succ]
  refine wpAnyH_ready (rs := [10]) (by kernel_rfl) (by simp) ?_
  refine AllReadyH.cons (o := ⟨some 16, .call { callee := .value (.func 77), args := #[.tmp 10, .tmp 15], argTypes := #[23, 23] }, _, _, _, none⟩) rfl (fun K hK => ?_) AllReadyH.nil
  refine step_ofR (by rfl) ?_
  go_simp
  refine (HL.out _).mono ?_
  rintro x W1 ⟨rfl, hb1⟩
  refine hK.out _ _ (hHeld.below hb1) (fun hHeld => ?_)
  clear hK K
  try simp only [Act.put, List.setIfInBounds_toArray, List.set_cons_zero, List.set_cons_succ]
  refine wpAnyH_ready (rs := [11]) (by kernel_rfl) (by simp) ?_
  refine AllReadyH.cons (o := ⟨some 5, .assign (.tmp 16), _, _, _, none⟩) rfl (fun K hK => ?_) AllReadyH.nil
  refine step_ofR (by rfl) ?_
  go_simp
  refine hK.out _ _ (hHeld) (fun hHeld => ?_)
  clear hK K
  try simp only [Act.put, List.setIfInBounds_toArray, List.set_cons_zero, List.set_cons_succ]
  refine wpAnyH_done (by kernel_rfl) ?_ _
  -- END less
  go_wp2_with fail
  go_ret
  exact ⟨rfl, Bt (below_drew (Below.refl _ _)) hb1⟩
theorem St.less {w0 W : World} {b1 g n c : Nat} {rest : List Value} {d : Array Lf} (h : St w0 b1 g n c rest d W) {i j : Nat} (hi : i < n) (hj : j < n) :
    Calls Tryd.prog 76 #[.int .i64 (i : Int), .int .i64 (j : Int), .pointer (some ⟨b1, 0, none⟩)] W fun e w' => e = .returned (.bool (lessLf d[i]! d[j]!)) ∧ Below W.heap.size W w' :=
  lsless_any W b1 g 0 n c i j _ _ (h.get hi) (h.get hj) ⟨h.box, range_path (h.rng hi), range_path (h.rng hj)⟩ hi hj
end
/-! What the sort's functions are handed (less, swap), as a contract over whatever is known of the row; insertionSort_func. -/
section
open Go.RowKit Go.Sort

theorem grown_of {w w' : World} (hb : Below w.heap.size w w') (o : Option Nat) : w.grownBy w' o := ⟨hb.os, hb.tape, hb.output, hb.size, fun k hk _ => hb.block k hk⟩
/-- less and swap, over what is known of the world while the row holds d -/
structure Hd (sf : Nat) (lb sb : Array Value) (g n : Nat) (I : Array Lf → World → Prop) : Prop where
  size : ∀ {d W}, I d W → d.size = n
  lt : ∀ {d W}, I d W → g < W.heap.size
  below : ∀ {d W W'}, I d W → Below W.heap.size W W' → I d W'
  less : ∀ {d W} (i j : Nat), I d W → i < n → j < n → Calls Tryd.prog 76 (#[.int .i64 (i : Int), .int .i64 (j : Int)] ++ lb) W fun e w' => e = .returned (.bool (lessLf d[i]! d[j]!)) ∧ Below W.heap.size W w'
  swap : ∀ {d W} (i j : Nat), I d W → i < n → j < n → 2 ≤ n → ∃ W', (callFunc sf (#[.int .i64 (i : Int), .int .i64 (j : Int)] ++ sb)).run Tryd.prog W = .ok (.value (.tuple #[])) W' ∧ I (swp d i j) W' ∧ W.grownBy W' (some g)

/-- the functions lie in a box of their own -/
structure Bx (sf : Nat) (lb sb : Array Value) (g : Nat) (I : Array Lf → World → Prop) (B : Nat) (d : Array Lf) (W : World) : Prop where
  st : I d W
  c0 : W.cell? ⟨B, 0, none⟩ = some (.func (.func 76) #[] lb)
  c1 : W.cell? ⟨B, 1, none⟩ = some (.func (.func sf) #[] sb)
  ne : B ≠ g
section
variable {sf : Nat} {lb sb : Array Value} {g n : Nat} {I : Array Lf → World → Prop}
theorem Hd.box (H : Hd sf lb sb g n I) (B : Nat) : Hd sf lb sb g n (Bx sf lb sb g I B) where
  size h := H.size h.st
  lt h := H.lt h.st
  below h hb := ⟨H.below h.st hb, cell_later hb h.c0, cell_later hb h.c1, h.ne⟩
  less i j h hi hj := H.less i j h.st hi hj
  swap i j h hi hj h2 := by
    obtain ⟨W', h1, h2, h3⟩ := H.swap i j h.st hi hj h2
    exact ⟨W', h1, ⟨h2, h3.cell h.c0 (fun e => h.ne (by cases e; rfl)), h3.cell h.c1 (fun e => h.ne (by cases e; rfl)), h.ne⟩, h3⟩
/-- what is known beside: only the row has turned since w -/
theorem Hd.since (H : Hd sf lb sb g n I) (w : World) : Hd sf lb sb g n (fun d W => I d W ∧ w.grownBy W (some g)) where
  size h := H.size h.1
  lt h := H.lt h.1
  below h hb := ⟨H.below h.1 hb, ⟨hb.os.trans h.2.os, hb.tape.trans h.2.tape, hb.output.trans h.2.output, Nat.le_trans h.2.size hb.size, fun k hk hne => (hb.block k (Nat.lt_of_lt_of_le hk h.2.size)).trans (h.2.block k hk hne)⟩⟩
  less i j h hi hj := H.less i j h.1 hi hj
  swap i j h hi hj h2 := by
    obtain ⟨W', h1, h2, h3⟩ := H.swap i j h.1 hi hj h2
    exact ⟨W', h1, ⟨h2, grown2 h.2 h3 (fun k e => .inr e)⟩, h3⟩
/-- the box, new -/
theorem Hd.boxed (H : Hd sf lb sb g n I) {d : Array Lf} {w : World} (h : I d w) :
    (Bx sf lb sb g (fun d W => I d W ∧ w.grownBy W (some g)) w.heap.size) d (w.alloc (.cells #[.func (.func 76) #[] lb, .func (.func sf) #[] sb] 157)) := by
  refine ⟨⟨H.below h ((Below.refl _ w).alloc (Nat.le_refl _) _), World.grownBy_alloc w _ _⟩, by simp, by simp, ?_⟩
  have := H.lt h
  omega

set_option maxRecDepth 100000 in
set_option maxHeartbeats 2000000 in
theorem insertion_any (H : Hd sf lb sb g n I) (a b : Nat) (d : Array Lf) (w : World) (h : I d w) (hab : a ≤ b) (hb : b ≤ n) (hn : n < 4611686018427387904) :
    Calls Tryd.prog 108 #[.agg #[.func (.func 76) #[] lb, .func (.func sf) #[] sb], .int .i64 (a : Int), .int .i64 (b : Int)] w fun e w' =>
      e = .returned (.tuple #[]) ∧ I (insertionSort lessLf d a b) w' ∧ w.grownBy w' (some g) := by
  have HJ := (H.since w).box w.heap.size
  have h0 := H.boxed h
  go_enter Tryd.func108, Tryd.ntmps108
  go_wp2_with fail
  generalize w.alloc _ = w1 at *
  go_loopw [6] (fun vi wr => ∃ (i : Nat) (dk : Array Lf), vi = .int .i64 i ∧ a < i ∧ i ≤ b + 1 ∧ Bx sf lb sb g (fun d W => I d W ∧ w.grownBy W (some g)) w.heap.size dk wr ∧
      insOuter lessLf a b i dk = insOuter lessLf a b (a + 1) d) (fun vi _ => b + 1 - (intOf vi).toNat)
  case atStart => exact ⟨a + 1, d, by go_num, by omega, by omega, h0, rfl⟩
  case round =>
    obtain ⟨i, dk, rfl, hai, hib, hK, hO⟩ := hrel
    have HO := Lib.hid hO
    clear hO h0
    by_cases hlt : i < b
    · have hlt' : (i : Int) < (b : Int) := by omega
      go_wp2_with fail
      go_loopw [7] (fun vj wr2 => ∃ (j : Nat) (dj : Array Lf), vj = .int .i64 j ∧ a ≤ j ∧ j ≤ i ∧ Bx sf lb sb g (fun d W => I d W ∧ w.grownBy W (some g)) w.heap.size dj wr2 ∧
          insInner lessLf a j dj = insInner lessLf a i dk) (fun vj _ => (intOf vj).toNat)
      case atStart => exact ⟨i, dk, rfl, by omega, Nat.le_refl _, hK, rfl⟩
      case round =>
        obtain ⟨j, dj, rfl, haj, hji, hKj, hI⟩ := hrel
        have HI := Lib.hid hI
        have c0 := hKj.c0
        have c1 := hKj.c1
        clear hI hK
        by_cases hja : a < j
        · have hja' : (j : Int) > (a : Int) := by omega
          have hl := HJ.less j (j - 1) hKj (by omega) (by omega)
          rw [show (((j - 1 : Nat) : Int)) = (j : Int) - 1 by omega] at hl
          cases hlv : lessLf dj[j]! dj[j - 1]! with
          | true =>
            rw [hlv] at hl
            go_wp2_with fail
            refine hl.mono ?_
            rintro e w2 ⟨rfl, hb2⟩
            have hK2 := HJ.below hKj hb2
            have c1 := hK2.c1
            go_wp2_with fail
            obtain ⟨w3, hs1, hs2, hs3⟩ := HJ.swap j (j - 1) hK2 (by omega) (by omega) (by omega)
            rw [show (((j - 1 : Nat) : Int)) = (j : Int) - 1 by omega] at hs1
            rw [hs1, Oper.upon_value]
            clear hs1
            go_wp2_with fail
            exact ⟨⟨j - 1, _, by congr 1 <;> omega, by omega, by omega, hs2, by rw [← HI.out, insInner_go lessLf a j dj hja hlv]⟩, by simp [intOf]; omega⟩
          | false =>
            rw [hlv] at hl
            go_wp2_with fail
            refine hl.mono ?_
            rintro e w2 ⟨rfl, hb2⟩
            have hK2 := HJ.below hKj hb2
            go_wp2_with fail
            exact ⟨⟨i + 1, _, by go_num, by omega, by omega, hK2, by rw [← HO.out, insOuter_go _ _ _ _ _ hlt, ← HI.out, insInner_stop _ _ _ _ (.inr hlv)]⟩, by simp [intOf]; omega⟩
        · have hja' : ¬ (j : Int) > (a : Int) := by omega
          go_wp2_with fail
          exact ⟨⟨i + 1, _, by go_num, by omega, by omega, hKj, by rw [← HO.out, insOuter_go _ _ _ _ _ hlt, ← HI.out, insInner_stop _ _ _ _ (.inl (by omega))]⟩, by simp [intOf]; omega⟩
    · have hlt' : ¬ (i : Int) < (b : Int) := by omega
      go_wp2_with fail
      go_end0
      have hf : insertionSort lessLf d a b = dk := by unfold insertionSort; rw [← HO.out, insOuter_stop _ _ _ _ _ hlt]
      rw [hf]
      exact ⟨rfl, hK.st⟩

set_option maxHeartbeats 2000000 in
set_option maxRecDepth 100000 in
/-- pdqsort_func on 12 at the most -/
theorem pdqS_any (H : Hd sf lb sb g n I) (a b : Nat) (lim : Int) (d : Array Lf) (w : World) (h : I d w) (hab : a ≤ b) (hb : b ≤ n) (h12 : b - a ≤ 12) (hn : n < 4611686018427387904) :
    Calls Tryd.prog 95 #[.agg #[.func (.func 76) #[] lb, .func (.func sf) #[] sb], .int .i64 (a : Int), .int .i64 (b : Int), .int .i64 lim] w fun e w' =>
      e = .returned (.tuple #[]) ∧ I (insertionSort lessLf d a b) w' ∧ w.grownBy w' (some g) := by
  have h0 := H.boxed h
  have hi := insertion_any ((H.since w).box w.heap.size) a b d _ h0 hab hb hn
  have h12' : (b : Int) - (a : Int) ≤ 12 := by omega
  go_enter Tryd.func95, Tryd.ntmps95
  go_wp2_with fail
  refine wp_loop_rounds 1 ?_
  rw [rounds_succ]
  have c0 := h0.c0
  have c1 := h0.c1
  generalize w.alloc _ = w1 at *
  go_wp2_with fail
  refine hi.mono ?_
  rintro e w2 ⟨rfl, hi2, -⟩
  go_wp2_with fail
  (try simp only [Exit.inBlock, Exit.then]); refine bodyPost_ret (results_none rfl _ _ _) rfl ?_
  exact ⟨rfl, hi2.st⟩
end
end
/-! sort.Slice of a row of leaves. -/
section
open Go.RowKit Go.Sort

noncomputable def svT : TypeInfo := (Tryd.prog.info? 41).get (by kernel_rfl)
noncomputable def svE : TypeInfo := (Tryd.prog.info? 46).get (by kernel_rfl)
theorem svK (n : Nat) (h2 : 2 ≤ n) : Lib.swapperK n svE 25 = 9 := by
  have a : svE.hasPointers = false := by kernel_rfl
  have b : svE.bytes = 64 := by kernel_rfl
  have c : (n == 0) = false := by simp; omega
  have d : (n == 1) = false := by simp; omega
  unfold Lib.swapperK
  simp [a, b, c, d]
theorem leaf_size : svE.size = 64 := by kernel_rfl
theorem leaf_agg (w : World) : (isAgg 46).run Tryd.prog w = .ok true w := by kernel_rfl

theorem St.hands {w0 : World} {b1 g n c : Nat} {rest : List Value} (sf : Nat) (sb : Array Value) (hs : 2 ≤ n → sf = 106 ∧ sb = #[.slice (some ⟨g, 0, none⟩) n c, typeHandle Tryd.prog 46]) :
    Hd sf #[.pointer (some ⟨b1, 0, none⟩)] sb g n (St w0 b1 g n c rest) where
  size h := h.size
  lt h := h.row.lt
  below h hb := h.below hb
  less i j h hi hj := h.less hi hj
  swap {d W} i j h hi hj h2 := by
    obtain ⟨rfl, rfl⟩ := hs h2
    obtain ⟨h3, h4⟩ := h.swap hi hj
    refine ⟨swapW W g d i j, ?_, h3, h4⟩
    have hxi := lc_length (h.get hi)
    have hxj := lc_length (h.get hj)
    have ri := h.rng hi
    have rj := h.rng hj
    have := Lib.run_swap_cells (P := Tryd.prog) false 46 svE (by kernel_rfl) leaf_agg g 0 n c i j hi hj (lc d[i]!) (lc d[j]!) (by rw [hxi, leaf_size]) (by rw [hxj, leaf_size]) (lc_one _) (lc_one _) W
      (fun k v hk => by rw [leaf_size]; exact ri k v hk) (fun k v hk => by rw [leaf_size]; exact rj k v hk)
      (fun k hk => h.row.free _) (fun k hk => h.row.free _)
    rw [leaf_size] at this
    rw [run_callFunc_extern Tryd.func106 (by kernel_rfl) (by kernel_rfl) (by kernel_rfl) (e := Extern.ReflectliteSwapper.swap false) (by kernel_rfl),
      show (#[Value.int .i64 (i : Int), Value.int .i64 (j : Int)] ++ #[Value.slice (some ⟨g, 0, none⟩) n c, typeHandle Tryd.prog 46]) = #[.int .i64 i, .int .i64 j, .slice (some ⟨g, 0, none⟩) n c, typeHandle Tryd.prog 46] from rfl, this]
    rfl
theorem St.slice_small {w0 w : World} {b1 g n c : Nat} {rest : List Value} {d : Array Lf} (h : St w0 b1 g n c rest d w) (h12 : n ≤ 12) :
    Calls Tryd.prog 75 #[.iface 41 (.slice (some ⟨g, 0, none⟩) n c), .func (.func 76) #[] #[.pointer (some ⟨b1, 0, none⟩)]] w fun e w' =>
      e = .returned (.tuple #[]) ∧ St w0 b1 g n c rest (insertionSort lessLf d 0 n) w' := by
  have hw : ∀ f sb, (2 ≤ n → f = 106 ∧ sb = #[.slice (some ⟨g, 0, none⟩) n c, typeHandle Tryd.prog 46]) →
      Calls Tryd.prog 95 #[.agg #[.func (.func 76) #[] #[.pointer (some ⟨b1, 0, none⟩)], .func (.func f) #[] sb], .int .i64 0, .int .i64 n, .int .i64 (Lib.bitLen n)] (sliceWorld Tryd.prog sortRen 41 (some ⟨g, 0, none⟩) n c w) fun e w' =>
        e = .returned (.tuple #[]) ∧ St w0 b1 g n c rest (insertionSort lessLf d 0 n) w' := fun f sb hs => by
    have h1 : St w0 b1 g n c rest d (sliceWorld Tryd.prog sortRen 41 (some ⟨g, 0, none⟩) n c w) := by
      unfold sliceWorld
      exact h.below (((Below.refl _ w).alloc (Nat.le_refl _) _).alloc (by simp) _)
    refine (pdqS_any (St.hands f sb hs) 0 n _ d _ h1 (Nat.zero_le _) (Nat.le_refl _) (by omega) (by omega)).mono ?_
    rintro e w' ⟨rfl, h2, -⟩
    exact ⟨rfl, h2⟩
  by_cases h2 : 2 ≤ n
  · have hk := svK n h2
    refine Any.sort_Slice_of_pdq sortLays 41 46 svT svE (by kernel_rfl) (by kernel_rfl) (by kernel_rfl) (by kernel_rfl) 25 (fun _ => by kernel_rfl) (some ⟨g, 0, none⟩) n c (by omega) 106 (by rw [hk]; kernel_rfl) (.func 76) #[] #[.pointer (some ⟨b1, 0, none⟩)] w _ ?_
    have hB : sliceBound Tryd.prog 46 svE 25 (some ⟨g, 0, none⟩) n c = #[.slice (some ⟨g, 0, none⟩) n c, typeHandle Tryd.prog 46] := by unfold sliceBound; rw [hk, if_neg (by decide)]
    rw [hB]
    exact hw _ _ (fun _ => ⟨rfl, rfl⟩)
  · rcases Nat.lt_or_ge n 1 with h0 | h0
    · obtain rfl : n = 0 := by omega
      refine Any.sort_Slice_of_pdq sortLays 41 46 svT svE (by kernel_rfl) (by kernel_rfl) (by kernel_rfl) (by kernel_rfl) 25 (fun _ => by kernel_rfl) (some ⟨g, 0, none⟩) 0 c (by omega) 98 (by kernel_rfl) (.func 76) #[] #[.pointer (some ⟨b1, 0, none⟩)] w _ ?_
      exact hw _ _ (fun h => absurd h h2)
    · obtain rfl : n = 1 := by omega
      refine Any.sort_Slice_of_pdq sortLays 41 46 svT svE (by kernel_rfl) (by kernel_rfl) (by kernel_rfl) (by kernel_rfl) 25 (fun _ => by kernel_rfl) (some ⟨g, 0, none⟩) 1 c (by omega) 99 (by kernel_rfl) (.func 76) #[] #[.pointer (some ⟨b1, 0, none⟩)] w _ ?_
      exact hw _ _ (fun h => absurd h h2)
end
/-! Leaves in order: slices.Clone, ordered. -/
section
open Go.RowKit Go.Sort

theorem less_ntrans {a b c : List UInt8} (h1 : lessB a b = false) (h2 : lessB b c = false) : lessB a c = false := by
  cases e : lessB a c
  · rfl
  · rcases Nat.lt_or_ge (comm a b) 256 with h | h
    · have h3 : lessB b a = true := by rw [less_other a b h, h1]; rfl
      rw [less_trans b a c h3 e] at h2
      cases h2
    · have hs : ∀ i, i < 256 → bitAt a i = bitAt b i := fun i hi => comm_same a b i (by omega)
      obtain ⟨h3, h4⟩ := (lessB_iff _ _).1 e
      have hc : comm b c = comm a c := comm_unique b c _ (comm_le _ _) (fun i hi => by rw [← hs i (by omega)]; exact comm_same a c i hi) (fun hh => by rw [← hs _ hh]; exact comm_ne a c hh)
      have : lessB b c = true := (lessB_iff _ _).2 ⟨by omega, by rw [hc, ← hs _ h3]; exact h4⟩
      rw [this] at h2
      cases h2
theorem swoLf : SWO lessLf := ⟨fun _ => less_self _, fun _ _ _ h1 h2 => less_trans _ _ _ h1 h2, fun _ _ _ h1 h2 => less_ntrans h1 h2⟩

/-- what a sort makes of a row -/
theorem sorted_row {d d' : Array Lf} {n : Nat} (hn : d.size = n) (h1 : PermIn 0 n d d') (h2 : SortedIn lessLf 0 n d') : d'.toList.Perm d.toList ∧ inOrder d'.toList := by
  have e : d'.size = n := h1.1.trans hn
  refine ⟨?_, ?_⟩
  · have h := h1.2.2
    rw [← hn] at h
    have e1 : d'.extract 0 d.size = d' := by rw [← h1.1]; simp
    have e2 : d.extract 0 d.size = d := by simp
    rwa [e1, e2] at h
  · refine List.pairwise_iff_getElem.2 fun i j hi hj hij => ?_
    have hi' : i < d'.size := by simpa using hi
    have hj' : j < d'.size := by simpa using hj
    have h := h2 i j (Nat.zero_le _) hij (by omega)
    rw [getElem!_pos d' i hi', getElem!_pos d' j hj'] at h
    simpa [lessLf] using h

/-- sort.Slice sorts n leaves -/
def SortsAt (n : Nat) : Prop := ∀ (w0 w : World) (b1 g c : Nat) (rest : List Value) (d : Array Lf), St w0 b1 g n c rest d w →
  Calls Tryd.prog 75 #[.iface 41 (.slice (some ⟨g, 0, none⟩) n c), .func (.func 76) #[] #[.pointer (some ⟨b1, 0, none⟩)]] w fun e w' =>
    e = .returned (.tuple #[]) ∧ ∃ d', St w0 b1 g n c rest d' w' ∧ d'.toList.Perm d.toList ∧ inOrder d'.toList
theorem sorts_small (n : Nat) (h : n ≤ 12) : SortsAt n := fun w0 w b1 g c rest d hS => (hS.slice_small h).mono fun e w' ⟨he, h'⟩ => by
  have hi := insertionSort_holds swoLf d 0 n (Nat.zero_le _) (Nat.le_of_eq hS.size.symm)
  exact ⟨he, _, h', sorted_row hS.size hi.1 hi.2⟩
/-- no leaves -/
theorem sort_none (w : World) (b1 : Nat) (hb : b1 < w.heap.size) :
    Calls Tryd.prog 75 #[.iface 41 (.slice none 0 0), .func (.func 76) #[] #[.pointer (some ⟨b1, 0, none⟩)]] w fun e w' => e = .returned (.tuple #[]) ∧ Below w.heap.size w w' := by
  have H : Hd 98 #[.pointer (some ⟨b1, 0, none⟩)] #[] b1 0 (fun d W => d.size = 0 ∧ Below w.heap.size w W) :=
    ⟨fun h => h.1, fun h => Nat.lt_of_lt_of_le hb h.2.size, fun h hb' => ⟨h.1, Bt h.2 hb'⟩, fun _ _ _ h => absurd h (Nat.not_lt_zero _), fun _ _ _ h => absurd h (Nat.not_lt_zero _)⟩
  refine Any.sort_Slice_of_pdq sortLays 41 46 svT svE (by kernel_rfl) (by kernel_rfl) (by kernel_rfl) (by kernel_rfl) 25 (fun _ => by kernel_rfl) none 0 0 (by omega) 98 (by kernel_rfl) (.func 76) #[] #[.pointer (some ⟨b1, 0, none⟩)] w _ ?_
  have hb2 : Below w.heap.size w (sliceWorld Tryd.prog sortRen 41 none 0 0 w) := ((Below.refl _ w).alloc (Nat.le_refl _) _).alloc (by simp) _
  refine (pdqS_any H 0 0 _ #[] _ ⟨rfl, hb2⟩ (Nat.le_refl _) (Nat.le_refl _) (by omega) (by omega)).mono ?_
  rintro e w' ⟨rfl, h2, -⟩
  exact ⟨rfl, h2.2⟩

set_option maxRecDepth 100000 in
theorem clone_any (w : World) (a : Option Addr) (n c : Nat) (l : List Lf) (hr : RdL w a n c l) (hn : n ≤ 1000000) :
    Calls Tryd.prog 74 #[.slice a n c] w fun e w' => ∃ a' c', e = .returned (.slice a' n c') ∧ OwnL w' w.heap.size (.slice a' n c') l ∧ Below w.heap.size w w' := by
  have he : ∀ W : World, (binOp .eql 41 (.slice a n c) (.slice none 0 0)).run Tryd.prog W = .ok (.bool a.isNone) W := fun W => Lib.run_eql_slice_nil (P := Tryd.prog) (w := W) (h := Tryd.underlying41) ..
  cases a with
  | none =>
    obtain ⟨rfl, rfl⟩ := hr.nil rfl
    obtain rfl : l = [] := List.eq_nil_of_length_eq_zero hr.len
    simp only [Option.isNone_none] at he
    go_enter Tryd.func74, Tryd.ntmps74
    go_wp2_with fail
    go_ret
    exact ⟨none, 0, rfl, OwnL.nil0 _ _, Below.refl _ _⟩
  | some ad =>
    simp only [Option.isNone_some] at he
    have hO : OwnL (w.alloc (.cells #[] 46)) w.heap.size (.slice (some ⟨w.heap.size, 0, none⟩) 0 0) [] :=
      ⟨fun _ h => (by simp at h), rfl, .inr ⟨w.heap.size, 0, #[], rfl, Nat.le_refl _, World.alloc_heap_new w _, Nat.le_refl _, by decide, rfl, rfl⟩⟩
    have hB := (Below.refl _ w).alloc (Nat.le_refl _) (.cells #[] 46)
    have hr' := hr.below hB
    go_enter Tryd.func74, Tryd.ntmps74
    go_wp2_with (at_builtin; refine wpList_appL (base := w.heap.size) (v := .slice (some ⟨w.heap.size, 0, none⟩) 0 0) (q := []) rfl (.tmp 5) (.tmp 6) rfl rfl hO rfl hr' (by simp; omega) (by simp) ?_; intro a1 c1 w1 hO1 hg1 _)
    go_ret
    exact ⟨a1, c1, by simp, by simpa using hO1, hB.grown hg1 hB.size (fun k e => by cases e; exact Nat.le_refl _)⟩

/-- what is known of a row of one's own that is boxed -/
theorem OwnL.st {w0 W : World} {base g n c b1 : Nat} {l : List Lf} (h : OwnL W base (.slice (some ⟨g, 0, none⟩) n c) l) (hbox : W.cell? ⟨b1, 0, none⟩ = some (.slice (some ⟨g, 0, none⟩) n c)) (hb : w0.grownBy W (some g)) (hne : b1 ≠ g) :
    ∃ rest, St w0 b1 g n c rest l.toArray W := by
  rcases h.2.2 with ⟨hv, _⟩ | ⟨g', cap, cur, hv, _, hg, hnc, hcm, hcs, htake⟩
  · cases hv
  · cases hv
    refine ⟨cur.toList.drop (l.length * 64), ⟨⟨?_⟩, by simp, by simpa using h.1, hbox, hb, hne⟩⟩
    rw [hg]
    have e : lcs l.toArray.toList ++ cur.toList.drop (l.length * 64) = cur.toList := by rw [← htake, List.take_append_drop]
    rw [e]
theorem St.rd {w0 W : World} {b1 g n c : Nat} {rest : List Value} {d : Array Lf} (h : St w0 b1 g n c rest d W) (hc : n ≤ c) (hm : c ≤ maxLen) : RdL W (some ⟨g, 0, none⟩) n c d.toList :=
  ⟨by simp [h.size], h.ok, hc, hm, (fun e => by cases e), fun ad e j u hu => by
    cases e
    rw [Addr.add_lit, Nat.zero_add]
    exact h.row.cell (by rw [List.getElem?_append_left (List.getElem?_eq_some_iff.1 hu).1]; exact hu)⟩

set_option maxRecDepth 100000 in
set_option maxHeartbeats 1000000 in
theorem ordered_any (w : World) (a : Option Addr) (n c : Nat) (l : List Lf) (hr : RdL w a n c l) (hn : n ≤ 1000000) (hs : SortsAt n) :
    Calls Tryd.prog 53 #[.slice a n c] w fun e w' => ∃ a' c' m, e = .returned (.slice a' n c') ∧ RdL w' a' n c' m ∧ m.Perm l ∧ inOrder m ∧ Below w.heap.size w w' := by
  have hB1 := (Below.refl _ w).alloc (Nat.le_refl _) (.cells #[.slice a n c] 41)
  have hC := clone_any (w.alloc (.cells #[.slice a n c] 41)) a n c l (hr.below hB1) hn
  have hz : (w.alloc (.cells #[.slice a n c] 41)).heap.size = w.heap.size + 1 := by simp
  rw [hz] at hC
  go_enter Tryd.func53, Tryd.ntmps53
  go_wp2_with fail
  refine hC.mono ?_
  rintro e w1 ⟨a1, c1, rfl, hO1, hb1⟩
  have kb := (Blk.new w 41 [.slice a n c]).below (w' := w1) (by rw [hz]; exact hb1)
  have hc0 := kb.cell (j := 0) rfl
  have hf0 := kb.free 0
  go_wp2_with fail
  have kb2 := kb.set 0 (.slice a1 n c1)
  have hg2 := set_grown w1 w.heap.size 0 (.slice a1 n c1)
  have hBw1 : Below w.heap.size w w1 := hB1.trans (hb1.mono (by omega))
  have hB2 := hBw1.grown hg2 hBw1.size (fun k e => by cases e; exact Nat.le_refl _)
  have hO2 := hO1.kept hg2 (fun x e h => by cases h; have := (hO1.lt e).1; omega)
  have hl := hr.len
  clear hc0 hf0 kb hO1 hg2 hb1 hC hB1 hz
  have hc2 : (w1.setCell ⟨w.heap.size, 0, none⟩ (.slice a1 n c1)).cell? ⟨w.heap.size, 0, none⟩ = some (.slice a1 n c1) := kb2.cell (j := 0) rfl
  generalize w1.setCell _ _ = w2 at *
  cases a1 with
  | none =>
    obtain ⟨rfl, rfl⟩ := hO2.rd.nil rfl
    obtain rfl : l = [] := List.eq_nil_of_length_eq_zero hl
    refine (sort_none w2 _ kb2.lt).mono ?_
    rintro e w3 ⟨rfl, hb3⟩
    have hc3 := cell_later hb3 hc2
    go_wp2_with fail
    go_ret
    exact ⟨none, 0, [], rfl, RdL.nil0 _, List.Perm.refl _, List.Pairwise.nil, hB2.trans (hb3.mono hB2.size)⟩
  | some ad =>
    obtain ⟨g, rfl, hg⟩ : ∃ g, ad = ⟨g, 0, none⟩ ∧ w.heap.size + 1 ≤ g := by
      rcases hO2.2.2 with ⟨hv, _⟩ | ⟨g', cap, cur, hv, hg, _⟩
      · cases hv
      · cases hv; exact ⟨g', rfl, hg⟩
    obtain ⟨rest, hS⟩ := hO2.st (w0 := w2) hc2 (World.grownBy.refl _ _) (by omega)
    have hcap := hO2.rd.cap
    have hmax := hO2.rd.max
    refine (hs _ _ _ _ _ _ _ hS).mono ?_
    rintro e w3 ⟨rfl, d', hS3, hp, ho⟩
    have hc3 := hS3.box
    go_wp2_with fail
    go_ret
    exact ⟨_, _, d'.toList, rfl, hS3.rd hcap hmax, by simpa using hp, ho, hB2.grown hS3.bel hB2.size (fun k e => by cases e; omega)⟩
end
/-! hasTwice. -/
section
open Go.RowKit Go.Sort

theorem unlike_next : ∀ {m : List Lf}, oks m → inOrder m → (∀ i, i + 1 < m.length → (m.getD i lf0).path ≠ (m.getD (i + 1) lf0).path) → unlike m
  | [], _, _, _ => List.Pairwise.nil
  | [x], _, _, _ => by simp [unlike]
  | x :: y :: l, hk, ho, hn => by
    have ho2 := List.pairwise_cons.1 ho
    have hu := unlike_next (m := y :: l) (fun z hz => hk z (List.mem_cons_of_mem _ hz)) ho2.2 (fun i hi => by have := hn (i + 1) (by simp at hi ⊢; omega); simpa using this)
    refine List.pairwise_cons.2 ⟨fun z hz e => ?_, hu⟩
    have hxy : x.path ≠ y.path := by simpa using hn 0 (by simp)
    have hx := (hk x (by simp)).1
    have hy := (hk y (by simp)).1
    have h1 : lessB y.path x.path = false := ho2.1 y (by simp)
    have h2 : lessB x.path y.path = true := by
      have := less_total x.path y.path hx hy hxy
      rw [h1] at this
      cases h : lessB x.path y.path
      · rw [h] at this; exact absurd rfl this
      · rfl
    rcases List.mem_cons.1 hz with rfl | hz
    · exact hxy e
    · have h3 : lessB z.path y.path = false := (List.pairwise_cons.1 ho2.2).1 z hz
      rw [← e, h2] at h3
      cases h3

structure TwAt (W : World) (b off i j : Nat) (x y : Lf) : Prop where
  rx : W.rangeAt b (off + i * 64) (bs x.path)
  ry : W.rangeAt b (off + j * 64) (bs y.path)
theorem TwAt.drew {W : World} {b off i j : Nat} {x y : Lf} (h : TwAt W b off i j x y) : TwAt W.drew b off i j x y := ⟨h.rx, h.ry⟩

set_option maxRecDepth 100000 in
set_option maxHeartbeats 1000000 in
theorem hasTwice_any (w : World) (a : Option Addr) (n c : Nat) (m : List Lf) (hr : RdL w a n c m) (hn : n ≤ 1000000) (ho : inOrder m) :
    Calls Tryd.prog 54 #[.slice a n c] w fun e w' => e = .returned (.bool (twiceB m)) ∧ Below w.heap.size w w' := by
  have hl := hr.len
  have hok := hr.ok
  have HR := Lib.hid (fun (W : World) (h : Below w.heap.size w W) => hr.below h)
  have HEND := Lib.hid (fun h : ∀ i, i + 1 < n → (m.getD i lf0).path ≠ (m.getD (i + 1) lf0).path => show twiceB m = false from (twiceB_iff m).2 (unlike_next hok ho (fun i hi => h i (by omega))))
  have HHIT := Lib.hid (fun (i : Nat) (hi : i + 1 < n) (h : (m.getD i lf0).path = (m.getD (i + 1) lf0).path) => show twiceB m = true from by
    cases ht : twiceB m
    · have hu := (twiceB_iff m).1 ht
      have h1 : i < m.length := by omega
      have h2 : i + 1 < m.length := by omega
      have := List.pairwise_iff_getElem.1 hu i (i + 1) h1 h2 (by omega)
      simp [List.getD, h1, h2] at h
      exact absurd h this
    · rfl)
  have HOK := Lib.hid (fun (i : Nat) (hi : i < n) => hok.at (i := i) (by omega))
  generalize ht : twiceB m = t at *
  clear ht ho hok
  go_enter Tryd.func54, Tryd.ntmps54
  go_wp2_with fail
  go_loopw [3] (fun v wr => ∃ j : Nat, v = .int .i64 (j : Int) ∧ 1 ≤ j ∧ (j = 1 ∨ j ≤ n) ∧ Below w.heap.size w wr ∧ ∀ i, i + 1 < j → (m.getD i lf0).path ≠ (m.getD (i + 1) lf0).path) (fun v _ => n + 1 - (intOf v).toNat)
  case atStart => exact ⟨1, by go_num, Nat.le_refl _, .inl rfl, Below.refl _ _, fun i hi => by omega⟩
  case round =>
    obtain ⟨j, rfl, h1, hjn, hB, hD⟩ := hrel
    have HD := Lib.hid hD
    clear hD
    by_cases hlt : j < n
    · have hlt' : (j : Int) < (n : Int) := by omega
      obtain ⟨i, hi⟩ : ∃ i, j = i + 1 := ⟨j - 1, by omega⟩
      have hij : (j : Int) - 1 = (i : Int) := by omega
      have hin : i < n := by omega
      have hin' : (i : Int) < (n : Int) := by omega
      have hrr := HR.out wr hB
      obtain ⟨b, off, rfl, -, hrng⟩ := hrr.elems (by omega)
      have hx := HOK.out i hin
      have hy := HOK.out j hlt
      have hS : TwAt wr b off i j (m.getD i lf0) (m.getD j lf0) := ⟨range_path (hrng i hin), range_path (hrng j hlt)⟩
      have HIT := Lib.hid (fun h => HHIT.out i (by omega) h)
      have NOT := Lib.hid (fun (h : (m.getD i lf0).path ≠ (m.getD j lf0).path) => fun q (hq : q + 1 < j + 1) => show (m.getD q lf0).path ≠ (m.getD (q + 1) lf0).path from by
        rcases Nat.lt_or_ge (q + 1) j with h2 | h2
        · exact HD.out q h2
        · obtain rfl : q = i := by omega
          rwa [← hi])
      rw [← hi] at HIT
      generalize m.getD i lf0 = x at *
      generalize m.getD j lf0 = y at *
      have H5 := Lib.hid (show (Tryd.prog.info? 23).map (·.size) = some (bs x.path).length by rw [info_digest, bs_length, hx.1])
      have H6 := Lib.hid (show (Tryd.prog.info? 23).map (·.size) = some (bs y.path).length by rw [info_digest, bs_length, hy.1])
      obtain ⟨e, he⟩ : ∃ e, e = (x.path == y.path) := ⟨_, rfl⟩
      have EQ := Lib.hid (fun W : World => (by rw [eqD W _ _ hx.1 hy.1, he] : (binOp .eql 23 (.agg (bs x.path).toArray) (.agg (bs y.path).toArray)).run Tryd.prog W = .ok (.bool e) W))
      have hwi : IntKind.i64.wrap (i : Int) = (i : Int) := by simp [IntKind.wrap, IntKind.bits, IntKind.signed]; omega
      clear hrr hrng hx hy HHIT HD hi
      go_wp2_with fail
      -- REGION twice 6
      refine wp_region_held_drew (S := fun W => TwAt W b off i j x y) (by kernel_rfl) hS.drew (fun hHeld => ?_)
      refine wpAnyH_take (i := 0) (oi := ⟨some 10, .move (.tmp 0), _, _, _, none⟩) (v := ?_) rfl (by kernel_rfl) (by kernel_rfl) (by kernel_rfl) (fun _ _ _ h => h) (Or.inl ⟨by rfl, ?_⟩) hHeld ?_
      rotate_left
      · intro W _; go_simp; try with_reducible rfl
      try simp only [Act.put, List.setIfInBounds_toArray, List.set_cons_zero, List.set_cons_succ]
      refine wpAnyH_take (i := 1) (oi := ⟨some 11, .move (.tmp 3), _, _, _, none⟩) (v := ?_) rfl (by kernel_rfl) (by kernel_rfl) (by kernel_rfl) (fun _ _ _ h => h) (Or.inl ⟨by rfl, ?_⟩) hHeld ?_
      rotate_left
      · intro W _; go_simp; try with_reducible rfl
      try simp only [Act.put, List.setIfInBounds_toArray, List.set_cons_zero, List.set_cons_succ]
      refine wpAnyH_take (i := 2) (oi := ⟨some 12, .binOp .sub 3 (.tmp 11) (.const (.int .i64 1)) 3, _, _, _, none⟩) (v := .int .i64 (i : Int)) rfl (by kernel_rfl) (by kernel_rfl) (by kernel_rfl) (fun _ _ _ h => h) (Or.inl ⟨by rfl, fun W _ => by go_simp⟩) hHeld ?_
      try simp only [Act.put, List.setIfInBounds_toArray, List.set_cons_zero, List.set_cons_succ]
      refine wpAnyH_take (i := 3) (oi := ⟨some 13, .indexAddr 41 (.tmp 10) (.tmp 12), _, _, _, none⟩) (v := ?_) rfl (by kernel_rfl) (by kernel_rfl) (by kernel_rfl) (fun _ _ _ h => h) (Or.inl ⟨by rfl, ?_⟩) hHeld ?_
      rotate_left
      · intro W _; go_simp; try with_reducible rfl
      try simp only [Act.put, List.setIfInBounds_toArray, List.set_cons_zero, List.set_cons_succ]
      refine wpAnyH_take (i := 4) (oi := ⟨some 14, .fieldAddr 46 (.tmp 13) 0, _, _, _, none⟩) (v := ?_) rfl (by kernel_rfl) (by kernel_rfl) (by kernel_rfl) (fun _ _ _ h => h) (Or.inl ⟨by rfl, ?_⟩) hHeld ?_
      rotate_left
      · intro W _; go_simp; try with_reducible rfl
      try simp only [Act.put, List.setIfInBounds_toArray, List.set_cons_zero, List.set_cons_succ]
      refine wpAnyH_take (i := 5) (oi := ⟨some 15, .load 23 (.tmp 14), _, _, _, none⟩) (v := .agg (bs x.path).toArray) rfl (by kernel_rfl) (by kernel_rfl) (by kernel_rfl) (fun _ _ _ h => h) (yieldsIf_load_mid (by rfl) _ _ rfl b (off + i * 64) rfl (bs x.path) _ (fun W h => h.rx) Tryd.underlying23 rfl H5.out) hHeld ?_
      try simp only [Act.put, List.setIfInBounds_toArray, List.set_cons_zero, List.set_cons_succ]
      refine wpAnyH_take (i := 6) (oi := ⟨some 16, .move (.tmp 0), _, _, _, none⟩) (v := ?_) rfl (by kernel_rfl) (by kernel_rfl) (by kernel_rfl) (fun _ _ _ h => h) (Or.inl ⟨by rfl, ?_⟩) hHeld ?_
      rotate_left
      · intro W _; go_simp; try with_reducible rfl
      try simp only [Act.put, List.setIfInBounds_toArray, List.set_cons_zero, List.set_cons_succ]
      refine wpAnyH_take (i := 7) (oi := ⟨some 17, .move (.tmp 3), _, _, _, none⟩) (v := ?_) rfl (by kernel_rfl) (by kernel_rfl) (by kernel_rfl) (fun _ _ _ h => h) (Or.inl ⟨by rfl, ?_⟩) hHeld ?_
      rotate_left
      · intro W _; go_simp; try with_reducible rfl
      try simp only [Act.put, List.setIfInBounds_toArray, List.set_cons_zero, List.set_cons_succ]
      refine wpAnyH_take (i := 8) (oi := ⟨some 18, .indexAddr 41 (.tmp 16) (.tmp 17), _, _, _, none⟩) (v := ?_) rfl (by kernel_rfl) (by kernel_rfl) (by kernel_rfl) (fun _ _ _ h => h) (Or.inl ⟨by rfl, ?_⟩) hHeld ?_
      rotate_left
      · intro W _; go_simp; try with_reducible rfl
      try simp only [Act.put, List.setIfInBounds_toArray, List.set_cons_zero, List.set_cons_succ]
      refine wpAnyH_take (i := 9) (oi := ⟨some 19, .fieldAddr 46 (.tmp 18) 0, _, _, _, none⟩) (v := ?_) rfl (by kernel_rfl) (by kernel_rfl) (by kernel_rfl) (fun _ _ _ h => h) (Or.inl ⟨by rfl, ?_⟩) hHeld ?_
      rotate_left
      · intro W _; go_simp; try with_reducible rfl
      try simp only [Act.put, List.setIfInBounds_toArray, List.set_cons_zero, List.set_cons_succ]
      refine wpAnyH_take (i := 10) (oi := ⟨some 20, .load 23 (.tmp 19), _, _, _, none⟩) (v := .agg (bs y.path).toArray) rfl (by kernel_rfl) (by kernel_rfl) (by kernel_rfl) (fun _ _ _ h => h) (yieldsIf_load_mid (by rfl) _ _ rfl b (off + j * 64) rfl (bs y.path) _ (fun W h => h.ry) Tryd.underlying23 rfl H6.out) hHeld ?_
      try simp only [Act.put, List.setIfInBounds_toArray, List.set_cons_zero, List.set_cons_succ]
      refine wpAnyH_take (i := 11) (oi := ⟨some 21, .binOp .eql 23 (.tmp 15) (.tmp 20) 23, _, _, _, none⟩) (v := .bool e) rfl (by kernel_rfl) (by kernel_rfl) (by kernel_rfl) (fun _ _ _ h => h) (yieldsIf_eqE (by rfl) .eql 23 23 (.tmp 15) (.tmp 20) rfl _ _ rfl rfl guardR _ EQ.out) hHeld ?_
      try simp only [Act.put, List.setIfInBounds_toArray, List.set_cons_zero, List.set_cons_succ]
      refine wpAnyH_done (by kernel_rfl) ?_ _
      -- END twice
      cases e with
      | true =>
        obtain rfl : t = true := HIT.out (by simpa using he.symm)
        clear he
        go_wp2_with fail
        go_ret
        exact ⟨rfl, Bt hB (below_drew (Below.refl _ _))⟩
      | false =>
        have hne : x.path ≠ y.path := by simpa using he.symm
        clear he
        go_wp2_with fail
        exact ⟨⟨j + 1, by go_num, by omega, .inr (by omega), Bt hB (below_drew (Below.refl _ _)), NOT.out hne⟩, by simp [intOf]; omega⟩
    · have hlt' : ¬ (j : Int) < (n : Int) := by omega
      have := HEND.out (fun i hi => HD.out i (by omega))
      subst this
      go_wp2_with fail
      go_ret
      exact ⟨rfl, hB⟩
end
end Go.Proofs.YtgbhfpkngjlfkaaDoor
