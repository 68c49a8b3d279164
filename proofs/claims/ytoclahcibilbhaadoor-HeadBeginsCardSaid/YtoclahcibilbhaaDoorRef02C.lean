/-
  The walk of the reference's Sum.
-/
import Derived.Test.YtoclahcibilbhaaDoorRef02B
namespace Go.Proofs.YtoclahcibilbhaaDoor
open Go.RowKit

/-- what the loop over the blocks carries: k blocks are done -/
structure SumAt (w wr : World) (H : Nat) (a : Option Addr) (n c : Nat) (q : List UInt8) (k : Nat) : Prop where
  tab : Tab wr 1
  res : Blk wr w.heap.size 23 (bs zero32)
  own : Own wr w.heap.size (.slice a n c) q
  h : Blk wr H 53 (ns .u32 (blocks q k).list)
  bel : Below w.heap.size w wr

theorem SumAt.next {w wr wx wy : World} {H : Nat} {a : Option Addr} {n c : Nat} {q : List UInt8} {k k' : Nat} (h : SumAt w wr H a n c q k) (hb : Below wr.heap.size wr wx) (hg : wx.grownBy wy (some H)) (hh : Blk wy H 53 (ns .u32 (blocks q k').list)) (hT : 1 < w.heap.size) (hH : w.heap.size < H) : SumAt w wy H a n c q k' := by
  have hx := h.h.below hb
  have ho := h.own.below hb
  exact ⟨(h.tab.below hb).grown hg (by omega), (h.res.below hb).grown hg (by simp; omega), World.ownsRow.kept ho hg (.inr (Own.ne ho hx.at_ (by decide))), hh, (Bt h.bel hb).grown hg (by have := h.bel.size; have := hb.size; omega) (fun k e => by cases e; omega)⟩

theorem padOf_length (n : Nat) : (n + (padOf n).length) % 64 = 0 := by
  rw [padOf_eq, List.length_append, List.length_take, pad0_length]
  simp [eight]
  omega

/-- k bytes of the digest are there -/
def dgAt (ws : List Nat) (k : Nat) : List UInt8 := (be4s ws).take k ++ List.replicate (32 - k) 0
theorem dgAt_length (ws : List Nat) (k : Nat) (hw : ws.length = 8) (hk : k ≤ 32) : (dgAt ws k).length = 32 := by
  simp only [dgAt, List.length_append, List.length_take, be4s_length, List.length_replicate]; omega
theorem be4s_get : ∀ (ws : List Nat) (k : Nat), k < 4 * ws.length → (be4s ws).getD k 0 = UInt8.ofNat (ws.getD (k / 4) 0 / 2 ^ (24 - 8 * (k % 4)))
  | [], k, h => by simp at h
  | x :: ws, k, h => by
    have e : be4s (x :: ws) = be4 x ++ be4s ws := by simp [be4s]
    by_cases hk : k < 4
    · have : k = 0 ∨ k = 1 ∨ k = 2 ∨ k = 3 := by omega
      rw [e]
      rcases this with rfl | rfl | rfl | rfl <;> simp [be4]
    · have ih := be4s_get ws (k - 4) (by simp at h; omega)
      have h1 : (be4s (x :: ws)).getD k 0 = (be4s ws).getD (k - 4) 0 := by
        rw [e]
        simp only [List.getD]
        rw [List.getElem?_append_right (by simp [be4]; omega)]
        simp [be4]
      rw [h1, ih]
      have h2 : k / 4 = (k - 4) / 4 + 1 := by omega
      have h3 : k % 4 = (k - 4) % 4 := by omega
      rw [h2, ← h3]
      simp [List.getD]
theorem dgAt_step (ws : List Nat) (k : Nat) (hw : ws.length = 8) (hk : k < 32) : (dgAt ws k).set k (UInt8.ofNat (ws.getD (k / 4) 0 / 2 ^ (24 - 8 * (k % 4)))) = dgAt ws (k + 1) := by
  have hg := be4s_get ws k (by omega)
  have hl : k < (be4s ws).length := by rw [be4s_length]; omega
  obtain ⟨m, hm⟩ : ∃ m, 32 - k = m + 1 := ⟨31 - k, by omega⟩
  have hm2 : 32 - (k + 1) = m := by omega
  unfold dgAt
  rw [hm, hm2, List.set_append_right _ _ (by simp; omega), List.replicate_succ]
  have e : k - ((be4s ws).take k).length = 0 := by simp; omega
  rw [e, ← hg]
  simp [List.getD, hl]
  rw [List.take_succ_eq_append_getElem hl, List.append_assoc]
  rfl
theorem dgAt_full (ws : List Nat) (hw : ws.length = 8) : dgAt ws 32 = be4s ws := by
  simp [dgAt, List.take_of_length_le (show (be4s ws).length ≤ 32 by rw [be4s_length]; omega)]

structure DgAt (w wr : World) (H D : Nat) (ws : List Nat) (k : Nat) : Prop where
  res : Blk wr w.heap.size 23 (bs zero32)
  h : Blk wr H 53 (ns .u32 ws)
  d : Blk wr D 23 (bs (dgAt ws k))
  bel : Below w.heap.size w wr

set_option maxRecDepth 100000 in
set_option maxHeartbeats 1000000 in
theorem sum_ref (w : World) (a : Option Addr) (n c : Nat) (l : List UInt8) (hr : Rd w a n c l) (hT : Tab w 1) (hn : n ≤ 1099511627776) :
    Calls Tryd.prog 46 #[.slice a n c] w fun e w' => e = .returned (.agg (bs (sha l)).toArray) ∧ Below w.heap.size w w' := by
  have hTl := hT.lt
  have hll := Lib.hid hr.len
  go_enter Tryd.func46, Tryd.ntmps46
  go_wp2_with ((with_reducible refine wpList_allocB (o := ⟨some 2, _, _, _, _, _⟩) ?_ 23 ?_ zero32_info ?_); rfl; rfl; intro w1 hr1 hg1 hz1)
  have hB1 : Below w.heap.size w w1 := (Below.refl _ w).grown hg1 (Nat.le_refl _) (fun k e => by cases e)
  refine (padded_any w1 a n c l (hr.below hB1) hn).mono ?_
  rintro e w2 ⟨a2, n2, c2, rfl, hP⟩
  have hPl := hP.len
  rw [List.length_append] at hPl
  have hmod := padOf_length l.length
  rw [hPl] at hmod
  have hplen : (padOf l.length).length ≤ 200 := by rw [padOf_eq, List.length_append, List.length_take, pad0_length]; simp [eight]; omega
  have hn2 : n2 ≤ 1099511627776 + 200 := by have := hll.out; omega
  have HSH := Lib.hid (show sha l = be4s (blocks (l ++ padOf l.length) (n2 / 64)).list by rw [sha, H8.bytes_eq, hP.len])
  have hr2 := hr1.below hP.bel
  have hB2 := Bt hB1 hP.bel
  have hO2 := hP.own.lower hB1.size
  have hql := hP.len
  have hz2 := hP.bel.size
  generalize l ++ padOf l.length = q at *
  clear hP hr hPl hplen hr1
  go_wp2_with fail
  refine (begin_any w2).mono ?_
  rintro e w3 ⟨rfl, hB3⟩
  have H1 := Lib.hid (show (Tryd.prog.info? 53).map (·.size) = some (ns .u32 H8.init.list).length by rw [info8, ns_length, H8.list_length])
  have H2 := Lib.hid (show (ns .u32 zero8).length = (ns .u32 H8.init.list).length by rw [ns_length, ns_length, H8.list_length]; decide)
  have H3 := ns_one .u32 H8.init.list
  have HI := Lib.hid (show H8.init = blocks q 0 from rfl)
  generalize H8.init = hi at *
  go_wp2_with (first | ((with_reducible refine wpList_allocB (o := ⟨some 4, _, _, _, _, _⟩) ?_ 53 ?_ zero8_info ?_); rfl; rfl; intro w4 hv4 hg4 hz4) | ((with_reducible refine wpList_storeB (o := ⟨none, .store 53 (.tmp 4) (.tmp 10), _, _, _, _⟩) ?_ 53 (.tmp 4) (.tmp 10) ?_ ?_ ?_ hv4 H1.out H2.out H3 ?_); rfl; rfl; rfl; rfl; intro w5 hv5 hg5 hz5))
  have hS : SumAt w w5 w3.heap.size a2 n2 c2 q 0 := by
    have hz3 := hB3.size
    have hB5 : Below w2.heap.size w2 w5 := (hB3.grown hg4 (by omega) (fun k e => by cases e)).grown hg5 (by omega) (fun k e => by cases e; omega)
    exact ⟨(hT.below hB2).below hB5, hr2.below hB5, hO2.below hB5, by rw [← HI.out]; exact hv5, Bt hB2 hB5⟩
  have hHb : w.heap.size < w3.heap.size := by have := hB3.size; omega
  generalize w3.heap.size = H at *
  clear hr2 hO2 hB2 hB1 hB3 H1 H2 H3 HI hv4 hg4 hz4 hv5 hg5 hz5 hg1 hz1 hz2
  go_loopw [5] (fun i wr => ∃ k : Nat, 64 * k ≤ n2 ∧ i = .int .i64 ((64 * k : Nat) : Int) ∧ SumAt w wr H a2 n2 c2 q k) (fun i _ => n2 - (intOf i).toNat)
  case atStart => exact ⟨0, by omega, rfl, hS⟩
  case round =>
    obtain ⟨k, hk, rfl, hS⟩ := hrel
    by_cases hlt : 64 * k < n2
    · have h64 : 64 * k + 64 ≤ n2 := by omega
      have hrd := hS.own.rd
      have hcap := hrd.cap
      have hcut := hrd.cut (64 * k) (64 * k + 64) (by omega) h64 (by omega)
      obtain ⟨bb, oo, rfl, _⟩ := hrd.at (by omega)
      have hbo : ∃ s, s.Ok ∧ s = blocks q k := ⟨_, blocks_ok q k, rfl⟩
      obtain ⟨s, hso, hs⟩ := hbo
      have HS := Lib.hid hS
      have hh := hS.h
      have htab := hS.tab
      rw [← hs] at hh
      have HMIX := Lib.hid (show s.mix ((q.drop (64 * k)).take 64) = blocks q (k + 1) by rw [hs]; rfl)
      have HSE := Lib.hid hs
      clear hs hS
      generalize hj : 64 * k = j at *
      have HJ := Lib.hid hj
      clear hj
      have w1 : IntKind.i64.wrap ((j : Int) + 64) = (j : Int) + 64 := IntWalk.i64_in _ (by omega)
      go_wp2_with fail
      have hrg : wr.drew.rangeAt H 0 (ns .u32 s.list) := hh.drew.range 0 (fun j hj => by simp)
      have hinf := Lib.hid (show (Tryd.prog.info? 53).map (·.size) = some (ns .u32 s.list).length by rw [info8, ns_length, H8.list_length])
      have hne : ¬ (c2 = j) := by omega
      have b1 : (j : Int) ≤ (j : Int) + 64 := by omega
      have b2 : (j : Int) + 64 ≤ (n2 : Int) := by omega
      have b3 : (n2 : Int) ≤ (c2 : Int) := by omega
      have b4 : (j : Int) + 64 ≤ (c2 : Int) := by omega
      have b5 : ((j : Int) + 64).toNat = j + 64 := by omega
      have b6 : 0 ≤ (j : Int) + 64 := by omega
      refine wp_region_still_tail 6 (by kernel_rfl) (by kernel_rfl) ?_
      simp only [List.take_succ_cons, List.take_zero, List.drop_succ_cons, List.drop_zero]
      refine wpStill_loadM H 0 53 (.tmp 4) _ _ hrg Tryd.underlying53 hinf.out rfl rfl rfl rfl ?_
      still_step
      still_step
      still_step
      still_step
      still_step
      refine wpStill_nil ?_
      change wpList _ _ _ _ _ wr.drew
      have hcut2 : Rd wr.drew (some ⟨bb, oo + j, none⟩) 64 (c2 - j) ((q.drop j).take 64) := by
        rw [show j + 64 - j = 64 by omega] at hcut
        simp only [Option.map_some, Addr.add_lit] at hcut
        exact ⟨hcut.len, hcut.cap, hcut.max, hcut.nil, hcut.cell⟩
      have I1 := Lib.hid (show (Tryd.prog.info? 53).map (·.size) = some (ns .u32 (s.mix ((q.drop j).take 64)).list).length by rw [info8, ns_length, H8.list_length])
      have I2 := Lib.hid (show (ns .u32 s.list).length = (ns .u32 (s.mix ((q.drop j).take 64)).list).length by rw [ns_length, ns_length, H8.list_length, H8.list_length])
      have I3 := ns_one .u32 (s.mix ((q.drop j).take 64)).list
      have htd : Tab wr.drew 1 := htab
      have hhd := hh.drew
      clear hrg hrd hcut htab hh b5 w1
      go_wp2_with (first | (go_at_call 57; refine (block_any _ s hso _ _ _ hcut2 htd).mono ?_; rintro e w6 ⟨rfl, hB6⟩; have hh6 := hhd.below hB6) | ((with_reducible refine wpList_storeB (o := ⟨none, .store 53 (.tmp 4) (.tmp 23), _, _, _, _⟩) ?_ 53 (.tmp 4) (.tmp 23) ?_ ?_ ?_ hh6 I1.out I2.out I3 ?_); rfl; rfl; rfl; rfl; intro w7 hv7 hg7 hz7))
      rw [HMIX.out] at hv7
      have hN := HS.out.next (show Below wr.heap.size wr w6 from ⟨hB6.os, hB6.tape, hB6.output, hB6.size, hB6.block⟩) hg7 hv7 hTl hHb
      have HJO := HJ.out
      exact ⟨⟨k + 1, by omega, by rw [← HJO]; go_num, hN⟩, by simp [intOf]; omega⟩
    · have hke : k = n2 / 64 := by omega
      have HK := Lib.hid hke
      clear hke
      have hbo : ∃ s, s.Ok ∧ s = blocks q k := ⟨_, blocks_ok q k, rfl⟩
      obtain ⟨s, hso, hs⟩ := hbo
      have hSH : sha l = be4s s.list := by rw [HSH.out, ← HK.out, hs]
      have HSHA := Lib.hid hSH
      have hh := hS.h
      rw [← hs] at hh
      have hres := hS.res
      have hbel := hS.bel
      have hhl := hh.lt
      generalize hj : 64 * k = j at *
      clear hs hS hSH hj HSH
      obtain ⟨wo, rfl⟩ : ∃ wo : World, wo = wr := ⟨_, rfl⟩
      go_wp2_with ((with_reducible refine wpList_allocB (o := ⟨some 6, _, _, _, _, _⟩) ?_ 23 ?_ zero32_info ?_); rfl; rfl; intro w8 hd8 hg8 hz8)
      have hE : DgAt w w8 H wo.heap.size s.list 0 := ⟨hres.grown hg8 (by simp), hh.grown hg8 (by simp), by simpa [dgAt, zero32] using hd8, hbel.grown hg8 hbel.size (fun k e => by cases e)⟩
      have hDb : w.heap.size < wo.heap.size ∧ H < wo.heap.size := ⟨by omega, hhl⟩
      obtain ⟨hDb, hDH⟩ := hDb
      generalize wo.heap.size = D at *
      clear hres hh hbel hd8 hg8 hz8
      have hsl := H8.list_length s
      unfold H8.Ok at hso
      generalize s.list = ws at *
      go_loopw [7] (fun i wr => ∃ k : Nat, k ≤ 32 ∧ i = .int .i64 k ∧ DgAt w wr H D ws k) (fun i _ => 32 - (intOf i).toNat)
      case atStart => exact ⟨0, by omega, rfl, hE⟩
      case round =>
        obtain ⟨k, hk, rfl, hE⟩ := hrel
        by_cases hlt4 : k < 32
        · have ch := hE.h.cell (ns_at .u32 ws (k / 4) (by omega))
          have cd := hE.d.cell (bs_at _ k (by rw [dgAt_length ws k hsl hk]; exact hlt4))
          have fd := hE.d.free k
          have HST := Lib.hid (dgAt_step ws k hsl hlt4)
          obtain ⟨m, hm⟩ : ∃ m, m = k / 4 := ⟨_, rfl⟩
          obtain ⟨r, hr⟩ : ∃ r, r = k % 4 := ⟨_, rfl⟩
          obtain ⟨sh, hsh⟩ : ∃ sh, sh = 24 - 8 * r := ⟨_, rfl⟩
          have e1 : (k : Int) / 4 = (m : Int) := by omega
          have e1' : (k : Int).tdiv 4 = (m : Int) := by rw [Int.tdiv_eq_ediv_of_nonneg (by omega)]; exact e1
          have e2 : (k : Int) % 4 = (r : Int) := by omega
          have e2' : (k : Int).tmod 4 = (r : Int) := (Int.tmod_eq_emod_of_nonneg (by omega)).trans e2
          have e3 : 24 - 8 * (r : Int) = (sh : Int) := by omega
          have e4 : min sh 32 = sh := by omega
          have b1 : (m : Int) < 8 := by omega
          have b2 : (k : Int) < 32 := by omega
          rw [← hm] at ch
          have HSTm : Hid ((dgAt ws k).set k (UInt8.ofNat (ws.getD m 0 / 2 ^ sh)) = dgAt ws (k + 1)) := by
            have := HST.out
            rw [← hm, ← hr, ← hsh] at this
            exact this
          clear HST hm hr hsh
          have HE := Lib.hid hE
          clear hE
          generalize ws.getD m 0 = x at *
          go_wp2_with fail
          have hb := bset HE.out.d k ((x : Int) / 2 ^ sh % 256) (x / 2 ^ sh) (by simp)
          rw [HSTm.out] at hb
          have hE := HE.out
          exact ⟨⟨k + 1, by omega, by go_num, ⟨hE.res.setOther _ _ (by simp; omega), hE.h.setOther _ _ (by simp; omega), hb, hE.bel.setCell (by simp; omega) _⟩⟩, by simp [intOf]; omega⟩
        · obtain rfl : k = 32 := by omega
          have hd := hE.d
          rw [dgAt_full ws hsl] at hd
          have hres := hE.res
          have hbel := hE.bel
          have H1 := Lib.hid (show (Tryd.prog.info? 23).map (·.size) = some (bs (be4s ws)).length by rw [info_digest, bs_length, be4s_length, hsl])
          have H2 := Lib.hid (show (bs zero32).length = (bs (be4s ws)).length by rw [bs_length, bs_length, be4s_length, zero32_length, hsl])
          have H3 := bs_one (be4s ws)
          clear hE hsl
          go_wp2_with (first | ((with_reducible refine wpList_loadB (o := ⟨some 40, _, _, _, _, _⟩) ?_ 23 (.tmp 6) ?_ ?_ hd Tryd.underlying23 ?_ H1.out ?_); rfl; rfl; rfl; rfl) | ((with_reducible refine wpList_storeB (o := ⟨none, .store 23 (.tmp 2) (.tmp 40), _, _, _, _⟩) ?_ 23 (.tmp 2) (.tmp 40) ?_ ?_ ?_ hres H1.out H2.out H3 ?_); rfl; rfl; rfl; rfl; intro w9 hb9 hg9 hz9))
          try simp only [Exit.inBlock, Exit.then]
          refine bodyPost_blk hb9 Tryd.underlying23 H1.out rfl rfl rfl rfl ⟨by rw [HSHA.out], ?_⟩
          exact hbel.grown hg9 hbel.size (fun k e => by cases e; omega)
end Go.Proofs.YtoclahcibilbhaaDoor
