/-
  The walks of mac's blockOf and sum.
-/
import Derived.Test.YtoclahcibilbhaaDoorMacA
namespace Go.Proofs.YtoclahcibilbhaaDoor
open Go.RowKit

/-- copy(dst, src) into block g -/
theorem wpList_copyB {w : World} {ops : Array Oper} {rest : List Oper} {o : Oper} {a : Act} {Q : Exit → Act → World → Prop} (hgd : o.guard = none) (d s : Operand) (dT sT : TypeId)
    (ho : o.op = .call { callee := .builtin .copy, args := #[d, s], argTypes := #[dT, sT] }) (elem : TypeId) (hu : Tryd.prog.underlying dT = some (.slice elem)) (hsz : (Tryd.prog.info? elem).map (·.size) = some 1)
    (dp sp : Option Addr) (dLen dCap sLen sCap : Nat) (hd : a.eval d = .slice dp dLen dCap) (hs : a.eval s = .slice sp sLen sCap)
    (g off : Nat) (cur : List Value) (t : TypeId) (hg : Blk w g t cur) (cs : List Value) (hn : cs.length = Nat.min sLen dLen)
    (hpos : 0 < cs.length → dp = some ⟨g, off, none⟩ ∧ ∃ ad, sp = some ad ∧ ∀ j v, cs[j]? = some v → w.cell? (ad.add j) = some v)
    (hfit : off + cs.length ≤ cur.length) (h1 : ∀ v ∈ cs, v.oneCell' = true)
    (h : ∀ w', Blk w' g t (splice cur off cs) → w.grownBy w' (some g) → w'.heap.size = w.heap.size → wpList Tryd.prog ops Q rest (a.put o.dst (goInt cs.length)) w') : wpList Tryd.prog ops Q (o :: rest) a w :=
  wpList_step fun _ hK => step_copyB hgd d s dT sT ho elem hu hsz dp sp dLen dCap sLen sCap hd hs g off cur t hg cs hn hpos hfit h1 fun w' a1 a2 a3 => hK _ _ (h w' a1 a2 a3)

theorem splice_key (q : List UInt8) (_h : q.length ≤ 64) : splice (bs zeros64) 0 (bs q) = bs (q ++ List.replicate (64 - q.length) 0) := by
  simp only [splice, bs, zeros64, List.map_replicate, List.take_zero, List.nil_append, Nat.zero_add, List.drop_replicate, List.length_map, List.map_append]

/-- a slice that lies somewhere: what copy asks of it -/
theorem Rd.pos {w : World} {a : Option Addr} {n c : Nat} {l : List UInt8} (h : Rd w a n c l) (hn : 0 < (bs l).length) : ∃ ad, a = some ad ∧ ∀ j v, (bs l)[j]? = some v → w.cell? (ad.add j) = some v := by
  have hl := h.len
  rw [bs_length] at hn
  obtain ⟨b, off, rfl, _, _⟩ := h.at (by omega)
  exact ⟨_, rfl, h.cell _ rfl⟩

set_option maxRecDepth 100000 in
set_option maxHeartbeats 1000000 in
theorem blockOf_any (w : World) (a : Option Addr) (n c : Nat) (l : List UInt8) (hr : Rd w a n c l) (hT : Tab w 0) (hn : n ≤ 576460752303423488) :
    Calls Tryd.prog 36 #[.slice a n c] w fun e w' => e = .returned (.agg (bs (kblock l)).toArray) ∧ Below w.heap.size w w' := by
  have hl := hr.len
  have H5 := Lib.hid (show (Tryd.prog.info? 54).map (·.size) = some (bs (kblock l)).length by rw [info64b, bs_length, kblock_length])
  have H6 := Lib.hid (show (bs zeros64).length = (bs (kblock l)).length by rw [bs_length, bs_length, zeros64_length, kblock_length])
  have H7 := bs_one (kblock l)
  by_cases h64 : n ≤ 64
  · have hk : keyOf l = l := by unfold keyOf; rw [if_pos (by omega)]
    have HK := Lib.hid (show splice (bs zeros64) 0 (bs l) = bs (kblock l) by rw [splice_key l (by omega), kblock, hk])
    have h64' : (n : Int) ≤ 64 := by omega
    have HN := Lib.hid (show (bs l).length = Nat.min n 64 by rw [bs_length, hl]; exact (Nat.min_eq_left h64).symm)
    have HF := Lib.hid (show 0 + (bs l).length ≤ (bs zeros64).length by rw [bs_length, bs_length, zeros64_length]; omega)
    generalize kblock l = B at *
    go_enter Tryd.func36, Tryd.ntmps36
    go_wp2_with (first | ((with_reducible refine wpList_allocB (o := ⟨some 2, _, _, _, _, _⟩) ?_ 54 ?_ zeros64_info ?_); rfl; rfl; intro w1 hr1 hg1 hz1) | ((with_reducible refine wpList_allocB (o := ⟨some 3, _, _, _, _, _⟩) ?_ 54 ?_ zeros64_info ?_); rfl; rfl; intro w2 hr2 hg2 hz2; rw [hz1] at hr2; have hB2 : Below w.heap.size w w2 := (((Below.refl _ w).grown hg1 (Nat.le_refl _) (fun k e => by cases e)).grown hg2 (by omega) (fun k e => by cases e)); have hrd2 := hr.below hB2) | ((with_reducible refine wpList_copyB (o := ⟨some 10, _, _, _, _, _⟩) ?_ (.tmp 8) (.tmp 9) 26 26 ?_ 5 Tryd.underlying26 info_u8 (some ⟨w.heap.size + 1, 0, none⟩) a 64 64 n c ?_ ?_ (w.heap.size + 1) 0 (bs zeros64) 54 hr2 (bs l) HN.out (fun h => ⟨rfl, hrd2.pos h⟩) HF.out (bs_one l) ?_); rfl; rfl; rfl; rfl; intro w3 hr3 hg3 hz3; rw [HK.out] at hr3) | ((with_reducible refine wpList_loadB (o := ⟨some 11, _, _, _, _, _⟩) ?_ 54 (.tmp 3) ?_ ?_ hr3 Tryd.underlying54 ?_ H5.out ?_); rfl; rfl; rfl; rfl; have hr13 := (hr1.grown hg2 (by simp)).grown hg3 (by simp)) | ((with_reducible refine wpList_storeB (o := ⟨none, .store 54 (.tmp 2) (.tmp 11), _, _, _, _⟩) ?_ 54 (.tmp 2) (.tmp 11) ?_ ?_ ?_ hr13 H5.out H6.out H7 ?_); rfl; rfl; rfl; rfl; intro w5 hb5 hg5 hz5))
    try simp only [Exit.inBlock, Exit.then]
    refine bodyPost_blk hb5 Tryd.underlying54 H5.out rfl rfl rfl rfl ⟨rfl, ?_⟩
    exact below_of_grown (below_of_grown hB2 hg3 (by omega)) hg5 (Nat.le_refl _)
  · have hk : keyOf l = sha l := by unfold keyOf; rw [if_neg (by omega)]
    have HK := Lib.hid (show splice (bs zeros64) 0 (bs (sha l)) = bs (kblock l) by rw [splice_key _ (by rw [sha_length]; decide), kblock, hk])
    have h64' : ¬ (n : Int) ≤ 64 := by omega
    have HS := Lib.hid (fun (W : World) (h : Rd W a n c l) (h2 : Tab W 0) => sum_any W a n c l h h2 hn)
    have hsl := sha_length l
    generalize kblock l = B at *
    generalize sha l = D at *
    have H1 := Lib.hid (show (Tryd.prog.info? 23).map (·.size) = some (bs D).length by rw [info_digest, bs_length, hsl])
    have H2 := Lib.hid (show (bs zero32).length = (bs D).length by rw [bs_length, bs_length, zero32_length, hsl])
    have H3 := bs_one D
    go_enter Tryd.func36, Tryd.ntmps36
    go_wp2_with (first | ((with_reducible refine wpList_allocB (o := ⟨some 2, _, _, _, _, _⟩) ?_ 54 ?_ zeros64_info ?_); rfl; rfl; intro w1 hr1 hg1 hz1) | ((with_reducible refine wpList_allocB (o := ⟨some 3, _, _, _, _, _⟩) ?_ 54 ?_ zeros64_info ?_); rfl; rfl; intro w2 hr2 hg2 hz2; rw [hz1] at hr2; have hB2 : Below w.heap.size w w2 := (((Below.refl _ w).grown hg1 (Nat.le_refl _) (fun k e => by cases e)).grown hg2 (by omega) (fun k e => by cases e)); have hrd2 := hr.below hB2))
    refine (HS.out w2 hrd2 (hT.below hB2)).mono ?_
    rintro e w3 ⟨rfl, hB3⟩
    have hr12 := (hr1.grown hg2 (by simp)).below hB3
    have hr23 := hr2.below hB3
    have hs3 := hB3.size
    go_wp2_with (first | ((with_reducible refine wpList_allocB (o := ⟨some 4, _, _, _, _, _⟩) ?_ 23 ?_ zero32_info ?_); rfl; rfl; intro w4 hr4 hg4 hz4) | ((with_reducible refine wpList_storeB (o := ⟨none, .store 23 (.tmp 4) (.tmp 13), _, _, _, _⟩) ?_ 23 (.tmp 4) (.tmp 13) ?_ ?_ ?_ hr4 H1.out H2.out H3 ?_); rfl; rfl; rfl; rfl; intro w5 hr5 hg5 hz5))
    have hr15 := (hr12.grown hg4 (by simp)).grown hg5 (by simp; omega)
    have hr25 := (hr23.grown hg4 (by simp)).grown hg5 (by simp; omega)
    have hrd5 := Rd.block hr5.at_ hsl (by decide)
    have hB5 : Below w.heap.size w w5 := below_of_grown ((Bt hB2 hB3).grown hg4 (by omega) (fun k e => by cases e)) hg5 (by omega)
    go_region_law (refine step_copyB rfl (.tmp 14) (.tmp 15) 26 26 rfl 5 Tryd.underlying26 info_u8 _ _ _ _ _ _ rfl rfl (w.heap.size + 1) 0 (bs zeros64) 54 hr25.drew (bs D) (by rw [bs_length, hsl]; rfl) (fun h => ⟨rfl, _, rfl, fun j v hv => hrd5.cell _ rfl j v hv⟩) (by rw [bs_length, bs_length, zeros64_length, hsl]; decide) (bs_one _) ?_; intro w6 hr6 hg6 hz6)
    rw [HK.out] at hr6
    have hr16 := hr15.drew.grown hg6 (by simp)
    go_wp2_with (first | ((with_reducible refine wpList_loadB (o := ⟨some 17, _, _, _, _, _⟩) ?_ 54 (.tmp 3) ?_ ?_ hr6 Tryd.underlying54 ?_ H5.out ?_); rfl; rfl; rfl; rfl) | ((with_reducible refine wpList_storeB (o := ⟨none, .store 54 (.tmp 2) (.tmp 17), _, _, _, _⟩) ?_ 54 (.tmp 2) (.tmp 17) ?_ ?_ ?_ hr16 H5.out H6.out H7 ?_); rfl; rfl; rfl; rfl; intro w7 hb7 hg7 hz7))
    try simp only [Exit.inBlock, Exit.then]
    refine bodyPost_blk hb7 Tryd.underlying54 H5.out rfl rfl rfl rfl ⟨rfl, ?_⟩
    exact below_of_grown (below_of_grown hB5.drew hg6 (by omega)) hg7 (Nat.le_refl _)

set_option maxRecDepth 100000 in
set_option maxHeartbeats 1000000 in
theorem sum_mac (w : World) (b : List UInt8) (hb : b.length = 64) (a : Option Addr) (n c : Nat) (l : List UInt8) (hr : Rd w a n c l) (hT : Tab w 0) (hn : n ≤ 288230376151711744) :
    Calls Tryd.prog 37 #[.agg (bs b).toArray, .slice a n c] w fun e w' => e = .returned (.agg (bs (sha (b ++ l))).toArray) ∧ Below w.heap.size w w' := by
  have hl := hr.len
  have hb0 := Blk.new w 54 (bs b)
  have hB0 : Below w.heap.size w (w.alloc (.cells (bs b).toArray 54)) := (Below.refl _ w).alloc (Nat.le_refl _) _
  have hz0 : (w.alloc (.cells (bs b).toArray 54)).heap.size = w.heap.size + 1 := by simp
  have HS := Lib.hid (fun (W : World) (r : Nat) (h : HashAt W r (b ++ l)) (h2 : Tab W 0) => hsum_any W r (b ++ l) h h2 (by simp; omega))
  have hsl := sha_length (b ++ l)
  generalize sha (b ++ l) = D at *
  have hTl := hT.lt
  have H1 := Lib.hid (show (Tryd.prog.info? 23).map (·.size) = some (bs D).length by rw [info_digest, bs_length, hsl])
  have H2 := Lib.hid (show (bs zero32).length = (bs D).length by rw [bs_length, bs_length, zero32_length, hsl])
  have H3 := bs_one D
  go_enter Tryd.func37, Tryd.ntmps37
  go_wp2_with ((with_reducible refine wpList_allocB (o := ⟨some 4, _, _, _, _, _⟩) ?_ 23 ?_ zero32_info ?_); rfl; rfl; intro w1 hr1 hg1 hz1)
  have hB1 := hB0.grown hg1 (by omega) (fun k e => by cases e)
  have hb1 := hb0.grown hg1 (by simp)
  rw [hz0] at hr1
  refine (new_any w1).mono ?_
  rintro e w2 ⟨r, rfl, hr2, hh2, hB2⟩
  have hB02 := Bt hB1 hB2
  have hb2 := hb1.below hB2
  have hr12 := hr1.below hB2
  go_wp2_with fail
  refine (write_any w2 r [] b (some ⟨w.heap.size, 0, none⟩) 64 64 hh2 (Rd.block hb2.at_ hb (by decide)) (fun _ ad e => by cases e; simp; omega) (hT.below hB02) (by omega) (by simp)).mono ?_
  rintro e w3 ⟨rfl, hh3, hg3⟩
  have hB03 := below_of_grown hB02 hg3 (by omega)
  have hr13 := hr12.grown hg3 (by simp; omega)
  go_wp2_with fail
  refine (write_any w3 r b l a n c (by simpa using hh3) (hr.below hB03) (hr.ap (by omega)) (hT.below hB03) (by omega) (by omega)).mono ?_
  rintro e w4 ⟨rfl, hh4, hg4⟩
  have hB04 := below_of_grown hB03 hg4 (by omega)
  have hr14 := hr13.grown hg4 (by simp; omega)
  go_wp2_with fail
  refine (HS.out w4 r hh4 (hT.below hB04)).mono ?_
  rintro e w5 ⟨rfl, hB5⟩
  have hr15 := hr14.below hB5
  go_wp2_with ((with_reducible refine wpList_storeB (o := ⟨none, .store 23 (.tmp 4) (.tmp 14), _, _, _, _⟩) ?_ 23 (.tmp 4) (.tmp 14) ?_ ?_ ?_ hr15 H1.out H2.out H3 ?_); rfl; rfl; rfl; rfl; intro w8 hb8 hg8 hz8)
  try simp only [Exit.inBlock, Exit.then]
  refine bodyPost_blk hb8 Tryd.underlying23 H1.out rfl rfl rfl rfl ⟨rfl, ?_⟩
  exact below_of_grown (Bt hB04 hB5) hg8 (by omega)
end Go.Proofs.YtoclahcibilbhaaDoor
