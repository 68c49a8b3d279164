/-
  The walk of sha.mixed.
-/
import Derived.Test.YtoclahcibilbhaaDoorShaA
namespace Go.Proofs.YtoclahcibilbhaaDoor
open Go.RowKit

def H8.list (s : H8) : List Nat := [s.a, s.b, s.c, s.d, s.e, s.f, s.g, s.h]
/-- all eight words are below 2 to the 32nd -/
def H8.Ok (s : H8) : Prop := ∀ x ∈ s.list, x < 4294967296
theorem H8.list_length (s : H8) : s.list.length = 8 := rfl

theorem H8.round_ok (s : H8) (hs : s.Ok) (k w : Nat) : (s.round k w).Ok := by
  obtain ⟨a, b, c, d, e, f, g, h⟩ := s
  simp only [H8.Ok, H8.list, List.mem_cons, List.not_mem_nil, or_false, forall_eq_or_imp, forall_eq, H8.round] at hs ⊢
  refine ⟨?_, ?_, ?_, ?_, ?_, ?_, ?_, ?_⟩ <;> omega
theorem H8.rounds_ok (s : H8) (hs : s.Ok) (ws : List Nat) (t : Nat) : (s.rounds ws t).Ok := by
  induction t with
  | zero => exact hs
  | succ t ih => exact H8.round_ok _ ih _ _
theorem H8.add_ok (s v : H8) : (s.add v).Ok := by
  simp only [H8.Ok, H8.list, List.mem_cons, List.not_mem_nil, or_false, forall_eq_or_imp, forall_eq, H8.add]
  refine ⟨?_, ?_, ?_, ?_, ?_, ?_, ?_, ?_⟩ <;> omega

/-- the table of constants lies there -/
def Tab (w : World) (g : Nat) : Prop := w.rangeAt g 0 (ns .u32 ks)
theorem Tab.lt {w : World} {g : Nat} (h : Tab w g) : g < w.heap.size := World.block_lt_of_cell? _ _ (by simpa using h 0 _ (ns_at .u32 ks 0 (by decide)))
theorem Tab.below {w w' : World} {g : Nat} (h : Tab w g) (hb : Below w.heap.size w w') : Tab w' g := fun j v hv => cell_later hb (h j v hv)
theorem Tab.at {w : World} {g : Nat} (h : Tab w g) (j : Nat) (hj : j < 64) : w.cell? ⟨g, j, none⟩ = some (.int .u32 ((ks.getD j 0 : Nat) : Int)) := by
  simpa using h j _ (ns_at .u32 ks j hj)
theorem ks_lt : ∀ x ∈ ks, x < 4294967296 := by decide

def zero8 : List Nat := List.replicate 8 0
theorem zero8_info : (Tryd.prog.info? 53).map (fun i => (i.zero, i.size)) = some (some (.agg (ns .u32 zero8).toArray), 8) := by kernel_rfl
theorem info8 : (Tryd.prog.info? 53).map (·.size) = some 8 := by kernel_rfl
theorem info64b : (Tryd.prog.info? 54).map (·.size) = some 64 := by kernel_rfl

theorem ch_val (e f g : Nat) (he : e < 4294967296) (hf : f < 4294967296) (hg : g < 4294967296) : bits .xor .u32 (bits .and .u32 (e : Int) (f : Int)) (bits .and .u32 (bits .xor .u32 IntKind.u32.max (e : Int)) (g : Int)) = ((ch e f g : Nat) : Int) := by
  have h1 : 4294967295 ^^^ e < 2 ^ 32 := Nat.xor_lt_two_pow (by decide) he
  have h2 : e &&& f < 2 ^ 32 := Nat.and_lt_two_pow _ hf
  have h3 : (4294967295 ^^^ e) &&& g < 2 ^ 32 := Nat.and_lt_two_pow _ hg
  rw [show IntKind.u32.max = ((4294967295 : Nat) : Int) by rfl, u32_and_nat _ _ he hf, u32_xor_nat _ _ (by decide) he, u32_and_nat _ _ h1 hg, u32_xor_nat _ _ h2 h3]
  rfl
theorem maj_val (a b c : Nat) (ha : a < 4294967296) (hb : b < 4294967296) (hc : c < 4294967296) : bits .xor .u32 (bits .xor .u32 (bits .and .u32 (a : Int) (b : Int)) (bits .and .u32 (a : Int) (c : Int))) (bits .and .u32 (b : Int) (c : Int)) = ((maj a b c : Nat) : Int) := by
  have h1 : a &&& b < 2 ^ 32 := Nat.and_lt_two_pow _ hb
  have h2 : a &&& c < 2 ^ 32 := Nat.and_lt_two_pow _ hc
  have h3 : b &&& c < 2 ^ 32 := Nat.and_lt_two_pow _ hc
  rw [u32_and_nat _ _ ha hb, u32_and_nat _ _ ha hc, u32_and_nat _ _ hb hc, u32_xor_nat _ _ h1 h2, u32_xor_nat _ _ (show (a &&& b) ^^^ (a &&& c) < 2 ^ 32 from Nat.xor_lt_two_pow h1 h2) h3]
  rfl
theorem one_val (e f g h k w : Nat) (he : e < 4294967296) (hf : f < 4294967296) (hg : g < 4294967296) :
    ((h : Int) + ((bs1 e : Nat) : Int) + bits .xor .u32 (bits .and .u32 (e : Int) (f : Int)) (bits .and .u32 (bits .xor .u32 IntKind.u32.max (e : Int)) (g : Int)) + (k : Int) + (w : Int)) % 4294967296 = ((one e f g h k w : Nat) : Int) := by
  rw [ch_val e f g he hf hg]
  unfold one
  generalize bs1 e = x
  generalize ch e f g = y
  omega
theorem round_a (a b c d e f g h k w : Nat) (he : e < 4294967296) (hf : f < 4294967296) (hg : g < 4294967296) :
    Value.int .u32 ((((h : Int) + ((bs1 e : Nat) : Int) + bits .xor .u32 (bits .and .u32 (e : Int) (f : Int)) (bits .and .u32 (bits .xor .u32 IntKind.u32.max (e : Int)) (g : Int)) + (k : Int) + (w : Int)) % 4294967296 + (((bs0 a : Nat) : Int) + ((maj a b c : Nat) : Int)) % 4294967296) % 4294967296) = .int .u32 ((((⟨a, b, c, d, e, f, g, h⟩ : H8).round k w).a : Nat) : Int) := by
  rw [one_val e f g h k w he hf hg]
  unfold H8.round two
  generalize one e f g h k w = x
  generalize bs0 a = y
  generalize maj a b c = z
  have e1 : ((x : Int) + ((y : Int) + (z : Int)) % 4294967296) % 4294967296 = (((x + (y + z) % 4294967296) % 4294967296 : Nat) : Int) := by omega
  rw [e1]
theorem round_e (a b c d e f g h k w : Nat) (he : e < 4294967296) (hf : f < 4294967296) (hg : g < 4294967296) :
    Value.int .u32 (((d : Int) + ((h : Int) + ((bs1 e : Nat) : Int) + bits .xor .u32 (bits .and .u32 (e : Int) (f : Int)) (bits .and .u32 (bits .xor .u32 IntKind.u32.max (e : Int)) (g : Int)) + (k : Int) + (w : Int)) % 4294967296) % 4294967296) = .int .u32 ((((⟨a, b, c, d, e, f, g, h⟩ : H8).round k w).e : Nat) : Int) := by
  rw [one_val e f g h k w he hf hg]
  unfold H8.round
  generalize one e f g h k w = x
  have e1 : ((d : Int) + (x : Int)) % 4294967296 = (((d + x) % 4294967296 : Nat) : Int) := by omega
  rw [e1]
theorem xor3_val (x y z : Nat) (hx : x < 4294967296) (hy : y < 4294967296) (hz : z < 4294967296) : bits .xor .u32 (bits .xor .u32 (x : Int) (y : Int)) (z : Int) = ((x ^^^ y ^^^ z : Nat) : Int) := by
  rw [u32_xor_nat _ _ hx hy, u32_xor_nat _ _ (show x ^^^ y < 2 ^ 32 from Nat.xor_lt_two_pow hx hy) hz]

theorem add_val (s v : H8) : Value.agg #[.int .u32 (((s.a : Int) + (v.a : Int)) % 4294967296), .int .u32 (((s.b : Int) + (v.b : Int)) % 4294967296), .int .u32 (((s.c : Int) + (v.c : Int)) % 4294967296), .int .u32 (((s.d : Int) + (v.d : Int)) % 4294967296),
    .int .u32 (((s.e : Int) + (v.e : Int)) % 4294967296), .int .u32 (((s.f : Int) + (v.f : Int)) % 4294967296), .int .u32 (((s.g : Int) + (v.g : Int)) % 4294967296), .int .u32 (((s.h : Int) + (v.h : Int)) % 4294967296)] = .agg (ns .u32 (s.add v).list).toArray := by
  have e : ∀ x y : Nat, ((x : Int) + (y : Int)) % 4294967296 = (((x + y) % 4294967296 : Nat) : Int) := fun x y => by omega
  simp only [e]
  rfl

/-- what the loop of mixed carries -/
structure MixAt (w wr : World) (s : H8) (ws : List Nat) (B : Nat) : Prop where
  tab : Tab wr 0
  box : Blk wr w.heap.size 53 (ns .u32 s.list)
  res : Blk wr (w.heap.size + 1 + 1) 53 (ns .u32 zero8)
  arr : Blk wr B 82 (ns .u32 ws)
  bel : Below w.heap.size w wr

theorem MixAt.drewN {w wr s ws B} (h : MixAt w wr s ws B) (n : Nat) : MixAt w (wr.drewN n) s ws B := ⟨fun j v hv => h.tab j v hv, h.box.drewN n, h.res.drewN n, h.arr.drewN n, ⟨h.bel.os, h.bel.tape, h.bel.output, h.bel.size, h.bel.block⟩⟩

set_option maxRecDepth 100000 in
set_option maxHeartbeats 2000000 in
theorem mixed_any (w : World) (s : H8) (hs : s.Ok) (bl : List UInt8) (hb : bl.length = 64) (hT : Tab w 0) :
    Calls Tryd.prog 44 #[.agg (ns .u32 s.list).toArray, .agg (bs bl).toArray] w fun e w' => e = .returned (.agg (ns .u32 (s.mix bl).list).toArray) ∧ Below w.heap.size w w' := by
  have hb0 := (Blk.new w 53 (ns .u32 s.list)).alloc (.cells (bs bl).toArray 54)
  have hb1 : Blk ((w.alloc (.cells (ns .u32 s.list).toArray 53)).alloc (.cells (bs bl).toArray 54)) (w.heap.size + 1) 54 (bs bl) := by
    have := Blk.new (w.alloc (.cells (ns .u32 s.list).toArray 53)) 54 (bs bl)
    simpa using this
  have hB0 : Below w.heap.size w ((w.alloc (.cells (ns .u32 s.list).toArray 53)).alloc (.cells (bs bl).toArray 54)) := ((Below.refl _ w).alloc (Nat.le_refl _) _).alloc (by simp) _
  have hz0 : ((w.alloc (.cells (ns .u32 s.list).toArray 53)).alloc (.cells (bs bl).toArray 54)).heap.size = w.heap.size + 1 + 1 := by simp
  have H1 := Lib.hid (show (Tryd.prog.info? 54).map (·.size) = some (bs bl).length by rw [info64b, bs_length, hb])
  have H2 := Lib.hid (show (Tryd.prog.info? 82).map (·.size) = some (ns .u32 (sched bl 64)).length by rw [info64, ns_length, sched_length])
  have H3 := Lib.hid (show (ns .u32 zero64).length = (ns .u32 (sched bl 64)).length by rw [ns_length, ns_length, sched_length]; rfl)
  have hb' := Lib.hid hb
  have H4 := ns_one .u32 (sched bl 64)
  clear hb
  go_enter Tryd.func44, Tryd.ntmps44
  go_wp2_with (first | ((with_reducible refine wpList_allocB (o := ⟨some 4, _, _, _, _, _⟩) ?_ 53 ?_ zero8_info ?_); rfl; rfl; intro w1 hr hg1 hz1; have hb11 := hb1.grown hg1 (by simp)) | ((with_reducible refine wpList_loadB (o := ⟨some 19, _, _, _, _, _⟩) ?_ 54 (.tmp 3) ?_ ?_ hb11 Tryd.underlying54 ?_ H1.out ?_); rfl; rfl; rfl; rfl))
  refine (spread_any w1 bl hb'.out).mono ?_
  rintro e w2 ⟨rfl, hB2⟩
  go_wp2_with (first | ((with_reducible refine wpList_allocB (o := ⟨some 5, _, _, _, _, _⟩) ?_ 82 ?_ zero64_info ?_); rfl; rfl; intro w3 ha hg3 hz3) | ((with_reducible refine wpList_storeB (o := ⟨none, .store 82 (.tmp 5) (.tmp 20), _, _, _, _⟩) ?_ 82 (.tmp 5) (.tmp 20) ?_ ?_ ?_ ha H2.out H3.out H4 ?_); rfl; rfl; rfl; rfl; intro w4 ha4 hg4 hz4))
  have hs1 : w1.heap.size = w.heap.size + 1 + 1 + 1 := by omega
  have hs2 := hB2.size
  have hM : MixAt w w4 s (sched bl 64) w2.heap.size := by
    have hr1 := hr
    rw [hz0] at hr1
    have hB1 : Below w.heap.size w w1 := hB0.grown hg1 (by omega) (fun k e => by cases e)
    have hB4 : Below w1.heap.size w1 w4 := (hB2.grown hg3 (by omega) (fun k e => by cases e)).grown hg4 (by omega) (fun k e => by cases e; omega)
    exact ⟨hT.below (hB1.trans (hB4.mono (by omega))), ((hb0.grown hg1 (by simp)).below hB4), hr1.below hB4, ha4, hB1.trans (hB4.mono (by omega))⟩
  have hlen := sched_length bl 64
  have hlt := sched_lt bl 64
  have HMX := Lib.hid (show s.mix bl = s.add (s.rounds (sched bl 64) 64) from rfl)
  generalize sched bl 64 = ws at *
  clear hb0 hb1 hB0 hz0 H1 H3 H4 hb' hr hg1 hz1 hb11 hB2 ha hg3 hz3 hg4 hz4 H2
  have c0 : w4.cell? ⟨w.heap.size, 0, none⟩ = some (.int .u32 (s.a : Nat)) := hM.box.cell (ns_at .u32 s.list 0 (by rw [H8.list_length]; decide))
  have c1 : w4.cell? ⟨w.heap.size, 1, none⟩ = some (.int .u32 (s.b : Nat)) := hM.box.cell (ns_at .u32 s.list 1 (by rw [H8.list_length]; decide))
  have c2 : w4.cell? ⟨w.heap.size, 2, none⟩ = some (.int .u32 (s.c : Nat)) := hM.box.cell (ns_at .u32 s.list 2 (by rw [H8.list_length]; decide))
  have c3 : w4.cell? ⟨w.heap.size, 3, none⟩ = some (.int .u32 (s.d : Nat)) := hM.box.cell (ns_at .u32 s.list 3 (by rw [H8.list_length]; decide))
  have c4 : w4.cell? ⟨w.heap.size, 4, none⟩ = some (.int .u32 (s.e : Nat)) := hM.box.cell (ns_at .u32 s.list 4 (by rw [H8.list_length]; decide))
  have c5 : w4.cell? ⟨w.heap.size, 5, none⟩ = some (.int .u32 (s.f : Nat)) := hM.box.cell (ns_at .u32 s.list 5 (by rw [H8.list_length]; decide))
  have c6 : w4.cell? ⟨w.heap.size, 6, none⟩ = some (.int .u32 (s.g : Nat)) := hM.box.cell (ns_at .u32 s.list 6 (by rw [H8.list_length]; decide))
  have c7 : w4.cell? ⟨w.heap.size, 7, none⟩ = some (.int .u32 (s.h : Nat)) := hM.box.cell (ns_at .u32 s.list 7 (by rw [H8.list_length]; decide))
  go_quiet (fail)
  have hM1 := hM.drewN nq
  go_wp2_with fail
  go_quiet (fail)
  have hM2 := hM1.drewN nq
  generalize (w4.drewN _).drewN nq = w6 at *
  clear hM1
  generalize w2.heap.size = B at *
  clear c0 c1 c2 c3 c4 c5 c6 c7 hs1 hs2 ha4 hM hT
  go_wp2_with fail
  go_loopw [6, 7, 8, 9, 10, 11, 12, 13, 37] (fun a b c d e f g h t wr => ∃ k : Nat, k ≤ 64 ∧ t = .int .i64 k ∧ MixAt w wr s ws B ∧ a = .int .u32 ((s.rounds ws k).a : Nat) ∧ b = .int .u32 ((s.rounds ws k).b : Nat) ∧ c = .int .u32 ((s.rounds ws k).c : Nat) ∧ d = .int .u32 ((s.rounds ws k).d : Nat) ∧ e = .int .u32 ((s.rounds ws k).e : Nat) ∧ f = .int .u32 ((s.rounds ws k).f : Nat) ∧ g = .int .u32 ((s.rounds ws k).g : Nat) ∧ h = .int .u32 ((s.rounds ws k).h : Nat)) (fun _ _ _ _ _ _ _ _ t _ => 64 - (intOf t).toNat)
  case atStart => exact ⟨0, by omega, rfl, hM2, rfl, rfl, rfl, rfl, rfl, rfl, rfl, rfl⟩
  case round =>
    obtain ⟨k, hk, rfl, hM, rfl, rfl, rfl, rfl, rfl, rfl, rfl, rfl⟩ := hrel
    by_cases hlt2 : k < 64
    · have ho := H8.rounds_ok s hs ws k
      have HN := Lib.hid (show s.rounds ws (k + 1) = (s.rounds ws k).round (ks.getD k 0) (ws.getD k 0) from rfl)
      generalize s.rounds ws k = st at *
      have kw := hM.arr.cell (ns_at .u32 ws k (by omega))
      have kk := hM.tab.at k hlt2
      have l1 := getD_lt ws hlt k
      have l2 := getD_lt ks ks_lt k
      generalize ws.getD k 0 = wk at *
      generalize ks.getD k 0 = kt at *
      obtain ⟨a, b, c, d, e, f, g, h⟩ := st
      simp only [H8.Ok, H8.list, List.mem_cons, List.not_mem_nil, or_false, forall_eq_or_imp, forall_eq] at ho
      obtain ⟨la, lb, lc, ld, le, lf, lg, lh⟩ := ho
      have k64 : (k : Int) < 64 := by omega
      dsimp only
      go_wp2_with fail
      refine (right_any _ e 6 6 rfl le (by decide) (by decide)).mono ?_
      rintro e' w' ⟨rfl, rfl⟩
      go_wp2_with fail
      refine (right_any _ e 11 11 rfl le (by decide) (by decide)).mono ?_
      rintro e' w' ⟨rfl, rfl⟩
      go_wp2_with fail
      refine (right_any _ e 25 25 rfl le (by decide) (by decide)).mono ?_
      rintro e' w' ⟨rfl, rfl⟩
      have z1 : bits .xor .u32 (bits .xor .u32 ((rotr e 6 : Nat) : Int) ((rotr e 11 : Nat) : Int)) ((rotr e 25 : Nat) : Int) = ((bs1 e : Nat) : Int) := xor3_val _ _ _ (rotr_lt _ _ le) (rotr_lt _ _ le) (rotr_lt _ _ le)
      go_wp2_with fail
      clear z1
      have Z3 := Lib.hid (show bits .xor .u32 (bits .and .u32 (e : Int) (f : Int)) (bits .and .u32 (bits .xor .u32 IntKind.u32.max (e : Int)) (g : Int)) = ((ch e f g : Nat) : Int) from ch_val e f g le lf lg)
      have z4 : bits .xor .u32 (bits .xor .u32 (bits .and .u32 (a : Int) (b : Int)) (bits .and .u32 (a : Int) (c : Int))) (bits .and .u32 (b : Int) (c : Int)) = ((maj a b c : Nat) : Int) := maj_val a b c la lb lc
      go_quiet (fail)
      go_wp2_with fail
      refine (right_any _ a 2 2 rfl la (by decide) (by decide)).mono ?_
      rintro e' w' ⟨rfl, rfl⟩
      go_wp2_with fail
      refine (right_any _ a 13 13 rfl la (by decide) (by decide)).mono ?_
      rintro e' w' ⟨rfl, rfl⟩
      go_wp2_with fail
      refine (right_any _ a 22 22 rfl la (by decide) (by decide)).mono ?_
      rintro e' w' ⟨rfl, rfl⟩
      have z2 : bits .xor .u32 (bits .xor .u32 ((rotr a 2 : Nat) : Int) ((rotr a 13 : Nat) : Int)) ((rotr a 22 : Nat) : Int) = ((bs0 a : Nat) : Int) := xor3_val _ _ _ (rotr_lt _ _ la) (rotr_lt _ _ la) (rotr_lt _ _ la)
      go_wp2_with fail
      refine ⟨⟨k + 1, by omega, by go_num, hM.drewN nq, ?_⟩, by simp [intOf]; omega⟩
      rw [HN.out]
      refine ⟨?_, rfl, rfl, rfl, ?_, rfl, rfl, rfl⟩
      · exact round_a a b c d e f g _ kt wk le lf lg
      · exact round_e a b c d e f g _ kt wk le lf lg
    · obtain rfl : k = 64 := by omega
      have ho := H8.rounds_ok s hs ws 64
      have HS := Lib.hid HMX.out
      generalize s.rounds ws 64 = st at *
      have c0 : wr.cell? ⟨w.heap.size, 0, none⟩ = some (.int .u32 (s.a : Nat)) := hM.box.cell (ns_at .u32 s.list 0 (by rw [H8.list_length]; decide))
      have c1 : wr.cell? ⟨w.heap.size, 1, none⟩ = some (.int .u32 (s.b : Nat)) := hM.box.cell (ns_at .u32 s.list 1 (by rw [H8.list_length]; decide))
      have c2 : wr.cell? ⟨w.heap.size, 2, none⟩ = some (.int .u32 (s.c : Nat)) := hM.box.cell (ns_at .u32 s.list 2 (by rw [H8.list_length]; decide))
      have c3 : wr.cell? ⟨w.heap.size, 3, none⟩ = some (.int .u32 (s.d : Nat)) := hM.box.cell (ns_at .u32 s.list 3 (by rw [H8.list_length]; decide))
      have c4 : wr.cell? ⟨w.heap.size, 4, none⟩ = some (.int .u32 (s.e : Nat)) := hM.box.cell (ns_at .u32 s.list 4 (by rw [H8.list_length]; decide))
      have c5 : wr.cell? ⟨w.heap.size, 5, none⟩ = some (.int .u32 (s.f : Nat)) := hM.box.cell (ns_at .u32 s.list 5 (by rw [H8.list_length]; decide))
      have c6 : wr.cell? ⟨w.heap.size, 6, none⟩ = some (.int .u32 (s.g : Nat)) := hM.box.cell (ns_at .u32 s.list 6 (by rw [H8.list_length]; decide))
      have c7 : wr.cell? ⟨w.heap.size, 7, none⟩ = some (.int .u32 (s.h : Nat)) := hM.box.cell (ns_at .u32 s.list 7 (by rw [H8.list_length]; decide))
      have HV := Lib.hid (add_val s st)
      have hr := hM.res
      have hB := hM.bel
      have H1 := Lib.hid (show (Tryd.prog.info? 53).map (·.size) = some (ns .u32 (s.add st).list).length by rw [info8, ns_length, H8.list_length])
      have H2 := Lib.hid (show (ns .u32 zero8).length = (ns .u32 (s.add st).list).length by rw [ns_length, ns_length, H8.list_length]; decide)
      have H3 := ns_one .u32 (s.add st).list
      go_wp2_with ((with_reducible refine wpList_storeB (o := ⟨none, .store 53 (.tmp 4) (.tmp 134), _, _, _, _⟩) ?_ 53 (.tmp 4) (.tmp 134) ?_ ?_ ?_ hr H1.out H2.out H3 ?_); rfl; rfl; rfl; exact HV.out; intro w5 hb5 hg5 hz5)
      try simp only [Exit.inBlock, Exit.then]
      refine bodyPost_blk hb5 Tryd.underlying53 H1.out rfl rfl rfl rfl ⟨by rw [HS.out], ?_⟩
      exact hB.grown hg5 hB.size (fun k e => by cases e; omega)
end Go.Proofs.YtoclahcibilbhaaDoor
