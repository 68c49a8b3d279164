/-
  The walks of path's Prefix.
-/
import Derived.Test.YtgfahgmjmiapiaaCon04A
namespace Go.Proofs.Ytgfahgmjmiapiaa
open Go.RowKit

theorem pref_splice (p : List UInt8) (d : Nat) (hd : d < p.length) (x : UInt8) (n : Nat) (hn : p.length = d + 1 + n) :
    splice (bs (p.set d x)) (d + 1) (List.replicate n (.int .u8 0)) = bs (p.take d ++ [x] ++ List.replicate n 0) := by
  rw [List.set_eq_take_append_cons_drop, if_pos hd]
  have e : p.take d ++ x :: p.drop (d + 1) = (p.take d ++ [x]) ++ p.drop (d + 1) := by simp
  have el : (bs (p.take d ++ [x])).length = d + 1 := by simp [bs]; omega
  have h := splice_app (bs (p.take d ++ [x])) (bs (p.drop (d + 1))) (List.replicate n (.int .u8 0))
  rw [el] at h
  rw [e, bs_append, h, bs_append (p.take d ++ [x])]
  have e2 : (bs (p.drop (d + 1))).drop (List.replicate n (Value.int .u8 0)).length = [] := by simp [bs]; omega
  have e3 : bs (List.replicate n (0 : UInt8)) = List.replicate n (.int .u8 0) := by simp [bs]
  rw [e2, e3, List.append_nil]
theorem zeroU8 (w : World) : (zeroValue 5).run Try.prog w = .ok (.int .u8 0) w := by kernel_rfl
theorem set_last (p : List UInt8) (hp : p.length = 32) (x : UInt8) : p.set 31 x = p.take 31 ++ [x] := by
  rw [List.set_eq_take_append_cons_drop, if_pos (by omega), List.drop_eq_nil_of_le (by omega)]
/-- clear of no byte -/
theorem clear_none (W : World) (g c : Nat) (ty : TypeId) : (Builtin.clear_ #[39] ty #[.slice (some ⟨g, 0, none⟩) 0 c]).run Try.prog W = .ok (.tuple #[]) W := by
  simp [Builtin.clear_, run_underlying Try.underlying39]
/-- clear of some bytes of a known block -/
theorem clear_cells {W : World} {g : Nat} {t : TypeId} {vs : List Value} (h : Blk W g t vs) (hv : vs.length = 32) (ty : TypeId) (o n c : Nat) (hn : 0 < n) (ho : o + n ≤ 32) :
    (Builtin.clear_ #[39] ty #[.slice (some ⟨g, o, none⟩) n c]).run Try.prog W = .ok (.tuple #[]) (W.setCells g o (List.replicate n (.int .u8 0))) :=
  Lib.run_clear_slice W 39 5 ty (.int .u8 0) Try.underlying39 zeroU8 rfl rfl g o n c hn
    (fun j hj => by rw [h.cell (v := vs[o + j]'(by omega)) (by simp)]; rfl) (fun j _ => h.free _)
theorem OneAt.sets {w W : World} {p q z : List UInt8} (h : OneAt w W p z) (o : Nat) (cs : List Value) (ho : o + cs.length ≤ (bs p).length) (e : splice (bs p) o cs = bs q) : OneAt w (W.setCells w.heap.size o cs) q z := by
  have hs := h.b0.sets cs (bs p) o ho
  rw [e] at hs
  exact ⟨hs, h.b1.grown (setCells_grown _ cs o W) (by simp), h.bel.grown (setCells_grown _ cs o W) h.bel.size (fun k e => by cases e; exact Nat.le_refl _)⟩

/-- what is left of a byte -/
theorem not_head (x : Nat) (hx : x < 256) (r : Nat) : bits .andNot .u8 (x : Int) (255 / 2 ^ r) = ((x &&& (255 - 255 / 2 ^ r) : Nat) : Int) := by
  have h : 255 / 2 ^ r ≤ 255 := Nat.div_le_self _ _
  rw [show (255 : Int) / 2 ^ r = ((255 / 2 ^ r : Nat) : Int) by simp, u8_andNot_nat _ _ hx (by omega)]


set_option maxRecDepth 100000 in
set_option maxHeartbeats 1000000 in
theorem prefix_any_no (w : World) (p : List UInt8) (_hp : p.length = 32) (n : Int) (hn : n < 0 ∨ 256 < n) :
    Calls Try.prog 12 #[.agg (bs p).toArray, .int .i64 n] w fun e w' => e = .returned (.tuple #[.agg (bs zero32).toArray, .int .i64 20]) ∧ Below w.heap.size w w' := by
  have H5 := Lib.hid (show (Try.prog.info? 23).map (·.size) = some (bs zero32).length by rw [info_digest, bs_length, zero32_length])
  have H7 := bs_one zero32
  have HBT := Lib.hid built0
  by_cases h0 : n < 0
  case' pos =>
    go_enter Try.func12, Try.ntmps12
  case' neg =>
    have h1 : 256 < n := by omega
    go_enter Try.func12, Try.ntmps12
  all_goals
    go_wp2_with (first | ((with_reducible refine wpList_allocB (o := ⟨some 4, _, _, _, _, _⟩) ?_ 23 ?_ zeroD_info ?_); rfl; rfl; intro w0 hr0 hg0 hz0; have hS := OneAt.start w p hr0 hg0; have hr := hS.b1) | ((with_reducible refine wpList_buildI (dst := some 12) HBT.out ?_ ?_); rfl) | ((with_reducible refine wpList_storeB (o := ⟨none, .store 23 (.tmp 4) (.tmp 12), _, _, _, _⟩) ?_ 23 (.tmp 4) (.tmp 12) ?_ ?_ ?_ hr H5.out rfl H7 ?_); rfl; rfl; rfl; rfl; intro w8 hb8 hg8 hz8))
    try simp only [Exit.inBlock, Exit.then]
    refine bodyPost_ret (results_digest2 rfl _ _ _ _ _ zero32_length rfl hb8.at_) rfl ⟨rfl, ?_⟩
    exact hS.bel.grown hg8 (by have := hS.bel.size; omega) (fun k e => by cases e; omega)

set_option maxRecDepth 100000 in
set_option maxHeartbeats 1000000 in
theorem prefix_any_all (w : World) (p : List UInt8) (hp : p.length = 32) :
    Calls Try.prog 12 #[.agg (bs p).toArray, .int .i64 256] w fun e w' => e = .returned (.tuple #[.agg (bs p).toArray, .int .i64 0]) ∧ Below w.heap.size w w' := by
  have H5 := Lib.hid (show (Try.prog.info? 23).map (·.size) = some (bs p).length by rw [info_digest, bs_length, hp])
  have H8 := Lib.hid (show (bs zero32).length = (bs p).length by rw [bs_length, bs_length, zero32_length, hp])
  have H7 := bs_one p
  go_enter Try.func12, Try.ntmps12
  go_wp2_with (first | ((with_reducible refine wpList_allocB (o := ⟨some 4, _, _, _, _, _⟩) ?_ 23 ?_ zeroD_info ?_); rfl; rfl; intro w0 hr0 hg0 hz0; have hS := OneAt.start w p hr0 hg0; have hr := hS.b0; have hq := hS.b1) | ((with_reducible refine wpList_loadB (o := ⟨some 28, _, _, _, _, _⟩) ?_ 23 (.tmp 2) ?_ ?_ hr Try.underlying23 ?_ H5.out ?_); rfl; rfl; rfl; rfl) | ((with_reducible refine wpList_storeB (o := ⟨none, .store 23 (.tmp 4) (.tmp 28), _, _, _, _⟩) ?_ 23 (.tmp 4) (.tmp 28) ?_ ?_ ?_ hq H5.out H8.out H7 ?_); rfl; rfl; rfl; rfl; intro w8 hb8 hg8 hz8))
  try simp only [Exit.inBlock, Exit.then]
  refine bodyPost_ret (results_digest2 rfl _ _ _ _ _ hp rfl hb8.at_) rfl ⟨rfl, ?_⟩
  exact hS.bel.grown hg8 (by have := hS.bel.size; omega) (fun k e => by cases e; omega)

set_option maxRecDepth 100000 in
set_option maxHeartbeats 2000000 in
theorem prefix_any_in (w : World) (p : List UInt8) (hp : p.length = 32) (n : Nat) (hn : n < 256) :
    Calls Try.prog 12 #[.agg (bs p).toArray, .int .i64 (n : Int)] w fun e w' => e = .returned (.tuple #[.agg (bs (prefW p n)).toArray, .int .i64 0]) ∧ Below w.heap.size w w' := by
  have h0 : ¬ (n : Int) < 0 := by omega
  have h1 : ¬ (256 : Int) < n := by omega
  have h2 : (n : Int) < 256 := by omega
  have hW := Lib.hid (show prefW p n = p.take (n / 8) ++ [UInt8.ofNat ((p.getD (n / 8) 0).toNat &&& (255 - 255 / 2 ^ (n % 8)))] ++ List.replicate (31 - n / 8) 0 from rfl)
  have H5 := Lib.hid (show (Try.prog.info? 23).map (·.size) = some (bs p).length by rw [info_digest, bs_length, hp])
  have HC := Lib.hid (bs_at p (n / 8) (by omega))
  have hN := not_head (p.getD (n / 8) 0).toNat (UInt8.toNat_lt _) (n % 8)
  have hlt : (p.getD (n / 8) 0).toNat &&& (255 - 255 / 2 ^ (n % 8)) < 256 := Nat.lt_of_le_of_lt Nat.and_le_left (UInt8.toNat_lt _)
  have hql := prefW_length p n hp hn
  have m8 : n % 8 < 8 := Nat.mod_lt _ (by decide)
  obtain ⟨d, hd⟩ : ∃ d, n / 8 = d := ⟨_, rfl⟩
  obtain ⟨r, hr⟩ : ∃ r, n % 8 = r := ⟨_, rfl⟩
  have hd32 : (d : Int) < 32 := by omega
  have t1 : (n : Int).tdiv 8 = (d : Int) := by rw [← hd, Int.tdiv_eq_ediv_of_nonneg (by omega)]; rfl
  have t2 : (n : Int) / 8 = (d : Int) := by rw [← hd]; rfl
  have t3 : (n : Int).tmod 8 = (r : Int) := by rw [← hr, Int.tmod_eq_emod_of_nonneg (by omega)]; rfl
  have t4 : (n : Int) % 8 = (r : Int) := by rw [← hr]; rfl
  rw [hd, hr] at hW hN hlt
  rw [hd] at HC
  rw [hr] at m8
  clear hd hr
  generalize hX : (p.getD d 0).toNat = X at *
  clear hX
  generalize hv : X &&& (255 - 255 / 2 ^ r) = v at *
  clear hv
  generalize hwb : prefW p n = q at *
  have HWB := Lib.hid hwb
  clear hwb
  have w6 : IntKind.i64.wrap (d : Int) = (d : Int) := IntWalk.i64_in _ (by omega)
  have w7 : (0 : Int) ≤ (d : Int) := by omega
  have w8 : IntKind.i64.wrap (r : Int) = (r : Int) := IntWalk.i64_in _ (by omega)
  have H6 := Lib.hid (show (Try.prog.info? 23).map (·.size) = some (bs q).length by rw [info_digest, bs_length, hql])
  have H8 := Lib.hid (show (bs zero32).length = (bs q).length by rw [bs_length, bs_length, zero32_length, hql])
  have H9 := bs_one q
  go_enter Try.func12, Try.ntmps12
  go_wp2_with ((with_reducible refine wpList_allocB (o := ⟨some 4, _, _, _, _, _⟩) ?_ 23 ?_ zeroD_info ?_); rfl; rfl; intro w0 hr0 hg0 hz0; have hS := OneAt.start w p hr0 hg0; have hr := hS.b1)
  clear hr0 hg0 hz0 hr
  have c0 := hS.b0.cell HC.out
  have HS := Lib.hid hS
  clear hS
  go_still_tail 9, (by kernel_rfl)
  change wpList _ _ _ _ _ w0.drew
  have c1 := HS.out.drew.b0.cell HC.out
  have f1 := HS.out.drew.b0.free d
  have HS1 := Lib.hid HS.out.drew
  clear HS
  generalize w0.drew = wd at *
  have HS2 := Lib.hid (HS1.out.set d v hlt)
  by_cases hd31 : d = 31
  · have hq : p.set d (UInt8.ofNat v) = q := by rw [hW.out, hd31, set_last p hp]; simp
    rw [hq] at HS2
    have hsl := Lib.hid (fun W : World => sliceDe W w.heap.size ((d : Int) + 1) (by omega))
    have hcl := Lib.hid (fun (W : World) (ty : TypeId) => clear_none W w.heap.size 0 ty)
    have hb0 := HS2.out.b0
    have hb1 := HS2.out.b1
    have hbel := Lib.hid HS2.out.bel
    clear HS2 hq hW hd31
    go_wp2_with (first | (simp only [hsl.out]) | (simp only [hcl.out]) | ((with_reducible refine wpList_loadB (o := ⟨some 28, _, _, _, _, _⟩) ?_ 23 (.tmp 2) ?_ ?_ hb0 Try.underlying23 ?_ H6.out ?_); rfl; rfl; rfl; rfl) | ((with_reducible refine wpList_storeB (o := ⟨none, .store 23 (.tmp 4) (.tmp 28), _, _, _, _⟩) ?_ 23 (.tmp 4) (.tmp 28) ?_ ?_ ?_ hb1 H6.out H8.out H9 ?_); rfl; rfl; rfl; rfl; intro w9 hb9 hg9 hz9))
    try simp only [Exit.inBlock, Exit.then]
    refine bodyPost_ret (results_digest2 rfl _ _ _ _ _ hql rfl hb9.at_) rfl ⟨rfl, ?_⟩
    exact hbel.out.grown hg9 (by have := hbel.out.size; omega) (fun k e => by cases e; omega)
  · have hsp := pref_splice p d (by omega) (UInt8.ofNat v) (31 - d) (by omega)
    rw [← hW.out] at hsp
    have HS3 := Lib.hid (HS2.out.sets (d + 1) (List.replicate (31 - d) (.int .u8 0)) (by rw [bs_length]; simp [hp]; omega) hsp)
    have hsl := Lib.hid (fun W : World => sliceDl W w.heap.size (d + 1) ((d : Int) + 1) (by omega) (by omega))
    rw [show 32 - (d + 1) = 31 - d by omega] at hsl
    have hcl := Lib.hid (fun (ty : TypeId) => clear_cells HS2.out.b0 (by simp [bs_length, hp]) ty (d + 1) (31 - d) (31 - d) (by omega) (by omega))
    have hb0 := HS3.out.b0
    have hb1 := HS3.out.b1
    have hbel := Lib.hid HS3.out.bel
    clear HS2 HS3 hsp hW hd31
    go_wp2_with (first | (simp only [hsl.out]) | (simp only [hcl.out]) | ((with_reducible refine wpList_loadB (o := ⟨some 28, _, _, _, _, _⟩) ?_ 23 (.tmp 2) ?_ ?_ hb0 Try.underlying23 ?_ H6.out ?_); rfl; rfl; rfl; rfl) | ((with_reducible refine wpList_storeB (o := ⟨none, .store 23 (.tmp 4) (.tmp 28), _, _, _, _⟩) ?_ 23 (.tmp 4) (.tmp 28) ?_ ?_ ?_ hb1 H6.out H8.out H9 ?_); rfl; rfl; rfl; rfl; intro w9 hb9 hg9 hz9))
    try simp only [Exit.inBlock, Exit.then]
    refine bodyPost_ret (results_digest2 rfl _ _ _ _ _ hql rfl hb9.at_) rfl ⟨rfl, ?_⟩
    exact hbel.out.grown hg9 (by have := hbel.out.size; omega) (fun k e => by cases e; omega)

theorem prefix_any (w : World) (p : List UInt8) (hp : p.length = 32) (n : Nat) (hn : n ≤ 256) :
    Calls Try.prog 12 #[.agg (bs p).toArray, .int .i64 (n : Int)] w fun e w' => e = .returned (.tuple #[.agg (bs (pref p n)).toArray, .int .i64 0]) ∧ Below w.heap.size w w' := by
  by_cases h : n = 256
  · subst h
    have e : pref p 256 = p := rfl
    rw [e]
    exact prefix_any_all w p hp
  · rw [← pref_eq p n hp (by omega)]
    exact prefix_any_in w p hp n (by omega)
end Go.Proofs.Ytgfahgmjmiapiaa
