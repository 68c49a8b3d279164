/-
  So many leaves of unlike paths; a full tree; the walk of SmtFull.
-/
import Derived.Test.YtmfnpjfhijmboaaGreatDoorLaw05E
namespace Go.Proofs.YtmfnpjfhijmboaaGreatDoor
open Go.RowKit

/-! the leaves -/
def pathF (d u : Nat) : List UInt8 := UInt8.ofNat d :: UInt8.ofNat u :: 1 :: List.replicate 29 0
def valF (b : Nat) : List UInt8 := UInt8.ofNat b :: 2 :: List.replicate 30 0
def leafF (i : Nat) : Lf := ⟨pathF (i / 16) (16 * (i % 16)), valF (i % 256)⟩
def fullL (n : Nat) : List Lf := (List.range n).map leafF
theorem leafF_ok (i : Nat) : (leafF i).ok := ⟨by simp [leafF, pathF], by simp [leafF, valF]⟩
theorem fullL_ok (n : Nat) : oks (fullL n) := fun y hy => by
  obtain ⟨i, -, rfl⟩ := List.mem_map.1 hy
  exact leafF_ok i
theorem fullL_len (n : Nat) : (fullL n).length = n := by simp [fullL]
theorem fullL_succ (n : Nat) : fullL (n + 1) = fullL n ++ [leafF n] := by simp [fullL, List.range_succ]
theorem nat8 {d : Nat} (h : d < 256) : (UInt8.ofNat d).toNat = d := by rw [UInt8.toNat_ofNat']; omega
theorem leafF_ne {i j : Nat} (hij : i < j) (hj : j < 4096) : (leafF i).path ≠ (leafF j).path := fun e => by
  have e1 : UInt8.ofNat (i / 16) = UInt8.ofNat (j / 16) := by injection e
  have e2 : UInt8.ofNat (16 * (i % 16)) = UInt8.ofNat (16 * (j % 16)) := by injection e with _ e; injection e
  have f1 := congrArg UInt8.toNat e1
  have f2 := congrArg UInt8.toNat e2
  rw [nat8 (by omega), nat8 (by omega)] at f1 f2
  omega
theorem fullL_unlike {n : Nat} (h : n ≤ 4096) : unlike (fullL n) := by
  refine List.pairwise_iff_getElem.2 fun i j hi hj hij => ?_
  simp only [fullL_len] at hj
  simp only [fullL, List.getElem_map, List.getElem_range]
  exact leafF_ne hij (by omega)
theorem wrap8 {d : Nat} (h : d < 256) : wrap64 (d : Int) % 256 = (d : Int) := by
  rw [IntWalk.wrap64_in _ (by omega)]; omega
theorem bs_pathF {d u : Nat} (hd : d < 256) (hu : u < 256) : bs (pathF d u) = .int .u8 (d : Int) :: .int .u8 (u : Int) :: .int .u8 1 :: List.replicate 29 (.int .u8 0) := by
  simp [bs, pathF, nat8 hd, nat8 hu]
theorem bs_valF {b : Nat} (hb : b < 256) : bs (valF b) = .int .u8 (b : Int) :: .int .u8 2 :: List.replicate 30 (.int .u8 0) := by
  simp [bs, valF, nat8 hb]
theorem built_pathF (x y : Int) : Tryz.prog.built 25 [(0, .int .u8 x), (1, .int .u8 y), (2, .int .u8 1)] = some (.int .u8 x :: .int .u8 y :: .int .u8 1 :: List.replicate 29 (.int .u8 0)).toArray := by kernel_rfl
theorem built_valF (x : Int) : Tryz.prog.built 25 [(0, .int .u8 x), (1, .int .u8 2)] = some (.int .u8 x :: .int .u8 2 :: List.replicate 30 (.int .u8 0)).toArray := by kernel_rfl
theorem built_leafF (d u b : Nat) : Tryz.prog.built 50 [(0, .agg (bs (pathF d u)).toArray), (1, .agg (bs (valF b)).toArray)] = some (bs (pathF d u) ++ bs (valF b)).toArray := by kernel_rfl

set_option maxRecDepth 100000 in
set_option maxHeartbeats 2000000 in
theorem full_any (w : World) :
    Calls Tryz.prog 28 #[.int .i64 4096] w fun e w' => ∃ a c, e = .returned (.slice a 4096 c) ∧ OwnL w' w.heap.size (.slice a 4096 c) (fullL 4096) ∧ Below w.heap.size w w' := by
  go_enter Tryz.func28, Tryz.ntmps28
  go_wp2_with fail
  go_loopw [3, 4] (fun r t wr => ∃ (i : Nat) (a : Option Addr) (c : Nat), i ≤ 4096 ∧ t = .int .i64 (i : Int) ∧ r = .slice a i c ∧ OwnL wr w.heap.size (.slice a i c) (fullL i) ∧ Below w.heap.size w wr) (fun _ t _ => 4096 - (intOf t).toNat)
  case atStart => exact ⟨0, none, 0, by omega, rfl, rfl, OwnL.nil0 _ _, Below.refl _ _⟩
  case round =>
    obtain ⟨i, a, c, hi, rfl, rfl, hO, hB⟩ := hrel
    by_cases hlt : i < 4096
    · have hil : (i : Int) < 4096 := by omega
      obtain ⟨d, hd⟩ : ∃ d, d = i / 16 := ⟨_, rfl⟩
      obtain ⟨u, hu⟩ : ∃ u, u = i % 16 := ⟨_, rfl⟩
      obtain ⟨v, hv⟩ : ∃ v, v = 16 * u := ⟨_, rfl⟩
      obtain ⟨b, hb⟩ : ∃ b, b = i % 256 := ⟨_, rfl⟩
      have hd8 : d < 256 := by omega
      have hv8 : v < 256 := by omega
      have hb8 : b < 256 := by omega
      have t1 : (i : Int).tdiv 16 = (d : Int) := by rw [hd, Int.tdiv_eq_ediv_of_nonneg (by exact Int.natCast_nonneg i)]; rfl
      have t3 : (i : Int).tmod 16 = (u : Int) := by rw [hu, Int.tmod_eq_emod_of_nonneg (by exact Int.natCast_nonneg i)]; rfl
      have t4 : (16 : Int) * (u : Int) = (v : Int) := by rw [hv]; rfl
      have B1 := Lib.hid (show Tryz.prog.built 25 [(0, .int .u8 (wrap64 (d : Int) % 256)), (1, .int .u8 (wrap64 (v : Int) % 256)), (2, .int .u8 1)] = some (bs (pathF d v)).toArray by rw [wrap8 hd8, wrap8 hv8, bs_pathF hd8 hv8]; exact built_pathF _ _)
      have B2 := Lib.hid (show Tryz.prog.built 25 [(0, .int .u8 ((i : Int) % 256)), (1, .int .u8 2)] = some (bs (valF b)).toArray by rw [show (i : Int) % 256 = (b : Int) by rw [hb]; rfl, bs_valF hb8]; exact built_valF _)
      have B3 := Lib.hid (built_leafF d v b)
      have hy := leafF_ok i
      have hs := fullL_succ i
      have hln := Lib.hid (fullL_len i)
      have HE := Lib.hid (show bs (pathF d v) ++ bs (valF b) = lc (leafF i) by rw [hd, hv, hu, hb]; rfl)
      rw [HE.out] at B3
      generalize fullL i = q at *
      generalize hq' : fullL (i + 1) = q' at *
      have HQ := Lib.hid hq'
      clear hq'
      generalize leafF i = y at *
      generalize pathF d v = pp at *
      generalize valF b = vv at *
      have HS := Lib.hid hs
      clear hs HE hd hu hv hb hd8 hv8 hb8
      have hO1 := hO.below ((Below.refl _ wr).alloc (Nat.le_refl _) (.cells (lc y).toArray 50))
      have hB1 := hB.alloc hB.size (.cells (lc y).toArray 50)
      have hr1 := RdL.one wr hy
      go_wp2_with (first | ((with_reducible refine wpList_buildI (dst := some 18) B1.out ?_ ?_); rfl) | ((with_reducible refine wpList_buildI (dst := some 21) B2.out ?_ ?_); rfl) | ((with_reducible refine wpList_buildI (dst := some 22) B3.out ?_ ?_); rfl) | ((with_reducible refine wpList_oneL (o := ⟨some 23, _, _, _, _, _⟩) ?_ (.tmp 22) ?_ ?_ hy ?_); rfl; rfl; rfl) | (at_builtin; refine wpList_appL (base := w.heap.size) (v := .slice a i c) (q := q) rfl (.tmp 10) (.tmp 23) rfl rfl hO1 rfl hr1 (by have := hln.out; omega) hB1.size ?_; intro a3 c3 w3 hO3 hg3 _))
      have hB3 := hB1.grown hg3 hB1.size (fun k e => (hO1.lt e).1)
      rw [hln.out, ← HS.out] at hO3
      rw [hln.out]
      go_roundw
      case rel => exact ⟨i + 1, a3, c3, by omega, by go_num, rfl, by rw [HQ.out]; exact hO3, hB3⟩
      case measure => simp [intOf]; omega
    · obtain rfl : i = 4096 := by omega
      go_wp2_with fail
      go_ret
      exact ⟨a, c, rfl, hO, hB⟩

/-! what they make of a tree -/
theorem setF_app : ∀ (m L k : List Lf), setF L (m ++ k) = setF (setF L m) k
  | [], _, _ => rfl
  | x :: m, L, k => by rw [List.cons_append, setF, setF, setF_app m]
theorem full_set {l : List Lf} (hu : unlike l) (hl : l.length = 4096) :
    (setE [] (l.take 3000) = 0 ∧ setI [] (l.take 3000) = setF [] (l.take 3000)) ∧ (setE (setF [] (l.take 3000)) (l.drop 3000) = 0 ∧ setI (setF [] (l.take 3000)) (l.drop 3000) = setF [] l) ∧ (setF [] l).Perm l := by
  have h1 : unlike (l.take 3000) := List.Pairwise.sublist (List.take_sublist _ _) hu
  have h2 : unlike (l.drop 3000) := List.Pairwise.sublist (List.drop_sublist _ _) hu
  have g1 := (twiceB_iff _).2 h1
  have g2 := (twiceB_iff _).2 h2
  have k1 : (l.take 3000).length = 3000 := by rw [List.length_take]; omega
  have k2 : (l.drop 3000).length = 1096 := by rw [List.length_drop]; omega
  have e : setF (setF [] (l.take 3000)) (l.drop 3000) = setF [] l := by rw [← setF_app, List.take_append_drop]
  have f1 := setF_len (l.take 3000) []
  have f2 := setF_len l []
  rw [List.length_nil] at f1 f2
  have n1 : ¬ 4096 < (l.take 3000).length := by omega
  have n2 : ¬ 4096 < (l.drop 3000).length := by omega
  have n3 : ¬ 4096 < (setF [] (l.take 3000)).length := by omega
  have n4 : ¬ 4096 < (setF [] l).length := by omega
  refine ⟨?_, ?_, perm_of_mem (setF_unlike l [] List.Pairwise.nil) hu fun y => by rw [setF_mem l [] hu]; simp⟩
  · unfold setE setI
    rw [g1, if_neg n1, if_neg n1]
    simp only [Bool.false_eq_true, if_false, if_neg n3]
    exact ⟨trivial, trivial⟩
  · unfold setE setI
    rw [g2, if_neg n2, if_neg n2, e]
    simp only [Bool.false_eq_true, if_false, if_neg n4]
    exact ⟨trivial, trivial⟩
theorem drop_found : ∀ {L : List Lf} {p : List UInt8}, unlike L → (findL L p).isSome = true → (dropL L p).length + 1 = L.length
  | [], _, _, h => by simp [findL] at h
  | x :: L, p, hu, h => by
    by_cases hx : x.path = p
    · have h1 : dropL L p = L := List.filter_eq_self.2 fun y hy => by
        have := (List.pairwise_cons.1 hu).1 y hy
        rw [← hx]
        simpa using Ne.symm this
      have h2 : dropL (x :: L) p = dropL L p := by simp [dropL, hx]
      rw [h2, h1]; rfl
    · have h2 : dropL (x :: L) p = x :: dropL L p := by simp [dropL, hx]
      have h3 : (findL L p).isSome = true := by simpa [findL, hx] using h
      rw [h2, List.length_cons, drop_found (List.pairwise_cons.1 hu).2 h3]; rfl
/-- one leaf more for a tree that is full -/
theorem set_full {L : List Lf} {y : Lf} (hu : unlike L) (hl : L.length = 4096) :
    ((findL L y.path).isSome = false → setE L [y] = 2 ∧ setI L [y] = L) ∧ ((findL L y.path).isSome = true → setE L [y] = 0 ∧ setI L [y] = dropL L y.path ++ [y] ∧ (dropL L y.path ++ [y]).length = 4096) := by
  have h1 : setF L [y] = dropL L y.path ++ [y] := by rw [setF, setF]
  have h2 : twiceB [y] = false := by simp [twiceB]
  have h3 : ¬ 4096 < [y].length := by simp
  refine ⟨fun h => ?_, fun h => ?_⟩
  · have h4 : 4096 < (dropL L y.path ++ [y]).length := by rw [drop_same h, List.length_append, List.length_singleton]; omega
    unfold setE setI
    rw [h1, h2, if_neg h3, if_neg h3]
    simp only [Bool.false_eq_true, if_false, if_pos h4]
    exact ⟨trivial, trivial⟩
  · have h5 := drop_found hu h
    have h6 : (dropL L y.path ++ [y]).length = 4096 := by rw [List.length_append, List.length_singleton]; omega
    have h4 : ¬ 4096 < (dropL L y.path ++ [y]).length := by omega
    unfold setE setI
    rw [h1, h2, if_neg h3, if_neg h3]
    simp only [Bool.false_eq_true, if_false, if_neg h4]
    exact ⟨trivial, trivial, h6⟩
theorem ne5 {d : List UInt8} (h : d.length = 32) : ∀ W : World, (binOp .neq 25 (.agg (bs d).toArray) (.agg (bs d).toArray)).run Tryz.prog W = .ok (.bool false) W := fun W => by rw [neqD W _ _ h h]; simp
theorem find_last (L : List Lf) (y : Lf) : findL (dropL L y.path ++ [y]) y.path = some y := by
  refine find_one ?_
  rw [find_not (drop_none L y.path)]
  rfl

set_option maxRecDepth 100000 in
set_option maxHeartbeats 4000000 in
theorem walkSmtFull (w : World) (hT : Tab w 1) (x : Int) (_wf : (Lit.int .i64 x).wf = true) (y : Lf) (hy : y.ok) :
    Calls Tryz.prog 6 #[.int .i64 x, .agg (lc y).toArray] w (Yes5 w) := by
  have hB0 : Below w.heap.size w (w.alloc (.cells (lc y).toArray 50)) := (Below.refl _ w).alloc (Nat.le_refl _) _
  have hb0 := Blk.new w 50 (lc y)
  have GR := Lib.hid (fun (W : World) (h : Below w.heap.size w W) => grows_any W (hT.below h))
  have RT := Lib.hid (fun (W : World) (h : Below w.heap.size w W) => roots_any W (hT.below h))
  have HY := Lib.hid (show (Tryz.prog.info? 50).map (·.size) = some (lc y).length by rw [lc_length hy]; exact infoLeafS)
  by_cases hx : 0 ≤ x ∧ x ≤ 32
  case neg =>
    have WI := Lib.hid (fun (W : World) => width_ref W x)
    have hd : (decide (0 ≤ x) && decide (x ≤ 32)) = false := by simp; omega
    rw [hd] at WI
    go_enter Tryz.func6, Tryz.ntmps6
    go_wp2_with fail
    refine (new_no _ x (by omega)).mono ?_
    rintro e w1 ⟨rfl, rfl⟩
    go_wp2_with fail
    refine (RT.out _ hB0).mono ?_
    rintro e w2 ⟨rfl, hB2⟩
    go_wp2_with fail
    refine (WI.out _).mono ?_
    rintro e w3 ⟨rfl, rfl⟩
    go_wp2_with fail
    go_ret
    exact Yes5.mk (Bt hB0 hB2)
  case pos =>
    obtain ⟨k, rfl⟩ := Int.eq_ofNat_of_zero_le hx.1
    have hk : k ≤ 32 := by omega
    have NW := Lib.hid (sm_new w _ k hk hB0)
    have FU := Lib.hid (fun (W : World) => full_any W)
    have hul : unlike (fullL 4096) := fullL_unlike (Nat.le_refl _)
    have hln := fullL_len 4096
    generalize fullL 4096 = l at *
    obtain ⟨⟨e1, e2⟩, ⟨e3, e4⟩, hpm⟩ := full_set hul hln
    have S1 := Lib.hid (fun (W : World) (tp : Nat) (h : Sm w k tp [] W) (a : Option Addr) (c : Nat) (hr : RdL W a 4096 c l) => sm_set h a 3000 c (l.take 3000) (hr.take 3000 (by omega)) (fun _ => sorts_all 3000 (by omega)))
    have S2 := Lib.hid (fun (W : World) (tp : Nat) (h : Sm w k tp (setF [] (l.take 3000)) W) (a : Option Addr) (c : Nat) (hr : RdL W a 4096 c l) => sm_set h (tailA a c 3000) (4096 - 3000) (c - 3000) (l.drop 3000) (hr.tailA 3000 (by omega)) (fun _ => sorts_all (4096 - 3000) (by omega)))
    rw [e1, e2] at S1
    rw [e3, e4] at S2
    clear e1 e2 e3 e4
    have hrl : rootI (k : Int) l = rootL k (setF [] l) := by
      rw [rootL_perm k hpm]
      unfold rootI
      simp [(twiceB_iff _).2 hul, hln, hx.2]
    have hre : rootE (k : Int) l = 0 := by
      rw [rootE_fits ⟨by omega, by omega⟩ (by omega), (twiceB_iff _).2 hul]
      rfl
    have RR := Lib.hid (fun (W : World) (a : Option Addr) (c : Nat) (h : RdL W a 4096 c l) (hB : Below w.heap.size w W) => sroot_all W (k : Int) a 4096 c l h (hT.below hB))
    rw [hrl, hre] at RR
    have hfu : unlike (setF [] l) := setF_unlike l [] List.Pairwise.nil
    have hfl : (setF [] l).length = 4096 := by rw [hpm.length_eq]; exact hln
    clear hrl hre hpm
    have HLL := Lib.hid hln
    generalize hA : setF [] (l.take 3000) = A at *
    generalize setF [] l = L at *
    have hdl : (rootL k L).length = 32 := digestF_length k hk 256 L 0
    have RO := Lib.hid (fun (W : World) (tp : Nat) (h : Sm w k tp L W) => sm_root2 h hk hT)
    generalize rootL k L = d at *
    have LE := Lib.hid (fun (W : World) (tp : Nat) (M : List Lf) (h : Sm w k tp M W) (hl : M.length = 4096) => by have := sm_len h; rw [hl] at this; exact this)
    have i1 := Lib.hid (dig5 hdl).1
    have j1 := Lib.hid (dig5 hdl).2
    have o1 := bs_one d
    have HP := Lib.hid (show (Tryz.prog.info? 25).map (·.size) = some (bs y.path).length by rw [info_digest, bs_length, hy.1])
    have rp : ∀ {W : World}, Blk W w.heap.size 50 (lc y) → W.rangeAt w.heap.size 0 (bs y.path) := fun h => h.range 0 (fun j hj => by rw [Nat.zero_add, lc, List.getElem?_append_left hj])
    have HFL := Lib.hid hfl
    clear hln hfl hA
    go_enter Tryz.func6, Tryz.ntmps6
    go_wp2_with fail
    refine NW.out.mono ?_
    rintro e w1 ⟨tp, rfl, hS1, hBn⟩
    have hb1 := hb0.below hBn
    have hlo := hS1.low
    clear hb0
    go_wp2_with fail
    refine (FU.out w1).mono ?_
    rintro e w2 ⟨a, c, rfl, hO2, hB2⟩
    have hS2 := hS1.below hB2
    have hb2 := hb1.below hB2
    have hcap := hO2.rd.cap
    have hown : ∀ z, (Value.slice a 4096 c).ownBlock = some z → (some tp : Option Nat) ≠ some z := fun z e h => by have := (hO2.lt e).1; cases h; omega
    have CH := fun (W : World) => (cutHi W a 4096 c 3000 (by omega)).1
    have CH' := fun (W : World) => (cutHi W a 4096 c 3000 (by omega)).2
    have CL := fun (W : World) => (cutLo W a 4096 c 3000 (by omega)).1
    have CL' := fun (W : World) => (cutLo W a 4096 c 3000 (by omega)).2
    rw [show ((3000 : Nat) : Int) = 3000 from rfl] at CH CH' CL CL'
    go_wp2_with fail
    refine (S1.out w2 tp hS2 a c hO2.rd).mono ?_
    rintro e w3 ⟨rfl, hS3, hg3⟩
    have hO3 := hO2.kept hg3 hown
    have hb3 := hb2.grown hg3 (by simpa using hS2.ne hb2 (by decide))
    go_wp2_with fail
    refine (S2.out w3 tp hS3 a c hO3.rd).mono ?_
    rintro e w4 ⟨rfl, hS4, hg4⟩
    have hO4 := hO3.kept hg4 hown
    have hb4 := hb3.grown hg4 (by simpa using hS3.ne hb3 (by decide))
    go_wp2_with fail
    refine (RR.out w4 a c hO4.rd hS4.bel).mono ?_
    rintro e w5 ⟨rfl, hB5⟩
    have hS5 := hS4.below hB5
    have hb5 := hb4.below hB5
    have hl5 := hb5.lt
    clear hO2 hO3 hO4 hb1 hb2 hb3 hb4 hS1 hS2 hS3 hS4 CH CH' CL CL'
    go_wp2_with (first | ((with_reducible refine wpList_allocB (o := ⟨some 10, _, _, _, _, _⟩) ?_ 25 ?_ zeroD_info ?_); rfl; rfl; intro w6 hr6 hg6 hz6) | ((with_reducible refine wpList_storeB (o := ⟨none, .store 25 (.tmp 10) (.tmp 51), _, _, _, _⟩) ?_ 25 (.tmp 10) (.tmp 51) ?_ ?_ ?_ hr6 i1.out j1.out o1 ?_); rfl; rfl; rfl; rfl; intro w7 hr7 hg7 hz7))
    have hB7 : Below w5.heap.size w5 w7 := ((Below.refl _ w5).grown hg6 (Nat.le_refl _) (fun k e => by cases e)).grown hg7 (by omega) (fun k e => by cases e; omega)
    have hS7 := hS5.below hB7
    have hH7 : BackAt w w7 w.heap.size w5.heap.size y d := ⟨hb5.below hB7, hr7, hS7.bel⟩
    have hSd := hS7.below (below_drew (Below.refl w7.heap.size w7))
    generalize w5.heap.size = g at *
    clear hz6 hz7 hg6 hg7 hr6 hr7 hb5 hS5 hS7
    -- REGION fullA 4
    refine wp_region_held_drew (S := fun W => BackAt w W w.heap.size g y d) (by kernel_rfl) hH7.drew (fun hHeld => ?_)
    refine wpAnyH_take (i := 0) (oi := ⟨some 53, .move (.tmp 8), _, _, _, none⟩) (v := ?_) rfl (by kernel_rfl) (by kernel_rfl) (by kernel_rfl) (fun _ _ _ h => h) (Or.inl ⟨by rfl, ?_⟩) hHeld ?_
    rotate_left
    · intro W _; go_simp; try with_reducible rfl
    try simp only [Act.put, List.setIfInBounds_toArray, List.set_cons_zero, List.set_cons_succ]
    refine wpAnyH_take (i := 1) (oi := ⟨some 54, .binOp .neq 29 (.tmp 53) (.const (.int .i64 0)) 29, _, _, _, none⟩) (v := ?_) rfl (by kernel_rfl) (by kernel_rfl) (by kernel_rfl) (fun _ _ _ h => h) (Or.inl ⟨by rfl, ?_⟩) hHeld ?_
    rotate_left
    · intro W _; go_simp; try with_reducible rfl
    try simp only [Act.put, List.setIfInBounds_toArray, List.set_cons_zero, List.set_cons_succ]
    refine wpAnyH_take (i := 2) (oi := ⟨some 55, .move (.tmp 54), _, _, _, none⟩) (v := ?_) rfl (by kernel_rfl) (by kernel_rfl) (by kernel_rfl) (fun _ _ _ h => h) (Or.inl ⟨by rfl, ?_⟩) hHeld ?_
    rotate_left
    · intro W _; go_simp; try with_reducible rfl
    try simp only [Act.put, List.setIfInBounds_toArray, List.set_cons_zero, List.set_cons_succ]
    refine wpAnyH_take (i := 3) (oi := ⟨some 56, .move (.tmp 9), _, _, _, some (2, false)⟩) (v := ?_) rfl (by kernel_rfl) (by kernel_rfl) (by kernel_rfl) (fun _ _ _ h => h) (Or.inl ⟨by rfl, ?_⟩) hHeld ?_
    rotate_left
    · intro W _; go_simp; try with_reducible rfl
    try simp only [Act.put, List.setIfInBounds_toArray, List.set_cons_zero, List.set_cons_succ]
    refine wpAnyH_take (i := 4) (oi := ⟨some 57, .binOp .neq 29 (.tmp 56) (.const (.int .i64 0)) 29, _, _, _, some (2, false)⟩) (v := ?_) rfl (by kernel_rfl) (by kernel_rfl) (by kernel_rfl) (fun _ _ _ h => h) (Or.inl ⟨by rfl, ?_⟩) hHeld ?_
    rotate_left
    · intro W _; go_simp; try with_reducible rfl
    try simp only [Act.put, List.setIfInBounds_toArray, List.set_cons_zero, List.set_cons_succ]
    refine wpAnyH_take (i := 5) (oi := ⟨some 58, .pick (.tmp 55) (.const (.bool true)) (.tmp 57), _, _, _, none⟩) (v := ?_) rfl (by kernel_rfl) (by kernel_rfl) (by kernel_rfl) (fun _ _ _ h => h) (Or.inl ⟨by rfl, ?_⟩) hHeld ?_
    rotate_left
    · intro W _; go_simp; try with_reducible rfl
    try simp only [Act.put, List.setIfInBounds_toArray, List.set_cons_zero, List.set_cons_succ]
    refine wpAnyH_take (i := 6) (oi := ⟨some 59, .move (.tmp 58), _, _, _, none⟩) (v := ?_) rfl (by kernel_rfl) (by kernel_rfl) (by kernel_rfl) (fun _ _ _ h => h) (Or.inl ⟨by rfl, ?_⟩) hHeld ?_
    rotate_left
    · intro W _; go_simp; try with_reducible rfl
    try simp only [Act.put, List.setIfInBounds_toArray, List.set_cons_zero, List.set_cons_succ]
    refine wpAnyH_take (i := 7) (oi := ⟨some 60, .move (.tmp 11), _, _, _, some (6, false)⟩) (v := ?_) rfl (by kernel_rfl) (by kernel_rfl) (by kernel_rfl) (fun _ _ _ h => h) (Or.inl ⟨by rfl, ?_⟩) hHeld ?_
    rotate_left
    · intro W _; go_simp; try with_reducible rfl
    try simp only [Act.put, List.setIfInBounds_toArray, List.set_cons_zero, List.set_cons_succ]
    refine wpAnyH_take (i := 8) (oi := ⟨some 61, .binOp .neq 29 (.tmp 60) (.const (.int .i64 0)) 29, _, _, _, some (6, false)⟩) (v := ?_) rfl (by kernel_rfl) (by kernel_rfl) (by kernel_rfl) (fun _ _ _ h => h) (Or.inl ⟨by rfl, ?_⟩) hHeld ?_
    rotate_left
    · intro W _; go_simp; try with_reducible rfl
    try simp only [Act.put, List.setIfInBounds_toArray, List.set_cons_zero, List.set_cons_succ]
    refine wpAnyH_take (i := 9) (oi := ⟨some 62, .pick (.tmp 59) (.const (.bool true)) (.tmp 61), _, _, _, none⟩) (v := ?_) rfl (by kernel_rfl) (by kernel_rfl) (by kernel_rfl) (fun _ _ _ h => h) (Or.inl ⟨by rfl, ?_⟩) hHeld ?_
    rotate_left
    · intro W _; go_simp; try with_reducible rfl
    try simp only [Act.put, List.setIfInBounds_toArray, List.set_cons_zero, List.set_cons_succ]
    refine wpAnyH_take (i := 10) (oi := ⟨some 63, .move (.tmp 62), _, _, _, none⟩) (v := ?_) rfl (by kernel_rfl) (by kernel_rfl) (by kernel_rfl) (fun _ _ _ h => h) (Or.inl ⟨by rfl, ?_⟩) hHeld ?_
    rotate_left
    · intro W _; go_simp; try with_reducible rfl
    try simp only [Act.put, List.setIfInBounds_toArray, List.set_cons_zero, List.set_cons_succ]
    refine wpAnyH_take (i := 11) (oi := ⟨some 64, .move (.tmp 5), _, _, _, some (10, false)⟩) (v := ?_) rfl (by kernel_rfl) (by kernel_rfl) (by kernel_rfl) (fun _ _ _ h => h) (Or.inl ⟨by rfl, ?_⟩) hHeld ?_
    rotate_left
    · intro W _; go_simp; try with_reducible rfl
    try simp only [Act.put, List.setIfInBounds_toArray, List.set_cons_zero, List.set_cons_succ]
    refine wpAnyH_take (i := 13) (oi := ⟨some 66, .load 25 (.tmp 10), _, _, _, some (10, false)⟩) (v := .agg (bs d).toArray) rfl (by kernel_rfl) (by kernel_rfl) (by kernel_rfl) (fun _ _ _ h => h) (yieldsIf_load_mid (by rfl) _ _ rfl g 0 rfl (bs d) _ (fun W h => h.dig.allR) Tryz.underlying25 rfl i1.out) hHeld ?_
    try simp only [Act.put, List.setIfInBounds_toArray, List.set_cons_zero, List.set_cons_succ]
    refine wpAnyH_ready (rs := [12]) (by kernel_rfl) (by simp) ?_
    refine AllReadyH.cons (o := ⟨some 65, .call { callee := .value (.func 23), args := #[.tmp 64], argTypes := #[28] }, _, _, _, some (10, false)⟩) rfl (fun K hK => ?_) AllReadyH.nil
    refine step_ofR (by rfl) ?_
    go_simp
    refine (RO.out _ tp hSd).mono ?_
    rintro x W1 ⟨rfl, hS9, hB9, hk9⟩
    refine hK.out _ _ (hHeld.kept hk9 hB9) (fun hHeld => ?_)
    clear hK K
    try simp only [Act.put, List.setIfInBounds_toArray, List.set_cons_zero, List.set_cons_succ]
    refine wpAnyH_take (i := 14) (oi := ⟨some 67, .binOp .neq 25 (.tmp 65) (.tmp 66) 25, _, _, _, some (10, false)⟩) (v := .bool false) rfl (by kernel_rfl) (by kernel_rfl) (by kernel_rfl) (fun _ _ _ h => h) (yieldsIf_eqE (by rfl) .neq 25 25 (.tmp 65) (.tmp 66) rfl _ _ rfl rfl guardR _ (ne5 hdl)) hHeld ?_
    try simp only [Act.put, List.setIfInBounds_toArray, List.set_cons_zero, List.set_cons_succ]
    refine wpAnyH_take (i := 15) (oi := ⟨some 68, .pick (.tmp 63) (.const (.bool true)) (.tmp 67), _, _, _, none⟩) (v := ?_) rfl (by kernel_rfl) (by kernel_rfl) (by kernel_rfl) (fun _ _ _ h => h) (Or.inl ⟨by rfl, ?_⟩) hHeld ?_
    rotate_left
    · intro W _; go_simp; try with_reducible rfl
    try simp only [Act.put, List.setIfInBounds_toArray, List.set_cons_zero, List.set_cons_succ]
    refine wpAnyH_take (i := 16) (oi := ⟨some 69, .move (.tmp 68), _, _, _, none⟩) (v := ?_) rfl (by kernel_rfl) (by kernel_rfl) (by kernel_rfl) (fun _ _ _ h => h) (Or.inl ⟨by rfl, ?_⟩) hHeld ?_
    rotate_left
    · intro W _; go_simp; try with_reducible rfl
    try simp only [Act.put, List.setIfInBounds_toArray, List.set_cons_zero, List.set_cons_succ]
    refine wpAnyH_take (i := 17) (oi := ⟨some 70, .move (.tmp 5), _, _, _, some (16, false)⟩) (v := ?_) rfl (by kernel_rfl) (by kernel_rfl) (by kernel_rfl) (fun _ _ _ h => h) (Or.inl ⟨by rfl, ?_⟩) hHeld ?_
    rotate_left
    · intro W _; go_simp; try with_reducible rfl
    try simp only [Act.put, List.setIfInBounds_toArray, List.set_cons_zero, List.set_cons_succ]
    refine wpAnyH_ready (rs := [18]) (by kernel_rfl) (by simp) ?_
    refine AllReadyH.cons (o := ⟨some 71, .call { callee := .value (.func 21), args := #[.tmp 70], argTypes := #[28] }, _, _, _, some (16, false)⟩) rfl (fun K hK => ?_) AllReadyH.nil
    refine step_ofR (by rfl) ?_
    go_simp
    refine (LE.out _ tp L hS9 HFL.out).mono ?_
    rintro x W1 ⟨rfl, rfl⟩
    refine hK.out _ _ (hHeld) (fun hHeld => ?_)
    clear hK K
    try simp only [Act.put, List.setIfInBounds_toArray, List.set_cons_zero, List.set_cons_succ]
    refine wpAnyH_take (i := 19) (oi := ⟨some 72, .binOp .neq 3 (.tmp 71) (.const (.int .i64 4096)) 3, _, _, _, some (16, false)⟩) (v := ?_) rfl (by kernel_rfl) (by kernel_rfl) (by kernel_rfl) (fun _ _ _ h => h) (Or.inl ⟨by rfl, ?_⟩) hHeld ?_
    rotate_left
    · intro W _; go_simp; try with_reducible rfl
    try simp only [Act.put, List.setIfInBounds_toArray, List.set_cons_zero, List.set_cons_succ]
    refine wpAnyH_take (i := 20) (oi := ⟨some 73, .pick (.tmp 69) (.const (.bool true)) (.tmp 72), _, _, _, none⟩) (v := ?_) rfl (by kernel_rfl) (by kernel_rfl) (by kernel_rfl) (fun _ _ _ h => h) (Or.inl ⟨by rfl, ?_⟩) hHeld ?_
    rotate_left
    · intro W _; go_simp; try with_reducible rfl
    try simp only [Act.put, List.setIfInBounds_toArray, List.set_cons_zero, List.set_cons_succ]
    refine wpAnyH_done (by kernel_rfl) ?_ _
    -- END fullA
    clear hSd hH7
    have rb9 := rp hHeld.box
    have GE := Lib.hid (sm_get hS9 y.path hy.1)
    have hvl := hS9.val y.path
    have SET := Lib.hid (fun (W : World) (h : Sm w k tp L W) (g : Nat) (hr : RdL W (some ⟨g, 0, none⟩) 1 1 [y]) => sm_set h _ 1 1 [y] hr (fun _ => sorts_small 1 (by decide)))
    obtain ⟨f1, f2⟩ := set_full hfu HFL.out (y := y)
    have M1 : ∀ W : World, RdL (W.alloc (.cells (lc y).toArray 50)) (some ⟨W.heap.size, 0, none⟩) 1 1 [y] := fun W => RdL.one W hy
    generalize (findL L y.path).isSome = fb at *
    generalize valOf (findL L y.path) = v at *
    have i2 := Lib.hid (dig5 hvl).1
    have j2 := Lib.hid (dig5 hvl).2
    have o2 := bs_one v
    have F1 := Lib.hid f1
    have F2 := Lib.hid f2
    clear f1 f2
    go_wp2_with ((with_reducible refine wpList_loadG (o := ⟨some 77, _, _, _, _, _⟩) ?_ w.heap.size 0 25 (.tmp 76) ?_ ?_ rb9 Tryz.underlying25 ?_ HP.out ?_); rfl; rfl; rfl; rfl)
    refine GE.out.mono ?_
    rintro e w8 ⟨rfl, hB8⟩
    have hS8 := hS9.below hB8
    have hH8 := hHeld.below hB8
    have hb8 := hH8.box
    have hl8 := hb8.lt
    have hm8 := hH8.dig.lt
    go_wp2_with (first | ((with_reducible refine wpList_allocB (o := ⟨some 12, _, _, _, _, _⟩) ?_ 25 ?_ zeroD_info ?_); rfl; rfl; intro w11 hr11 hg11 hz11) | ((with_reducible refine wpList_storeB (o := ⟨none, .store 25 (.tmp 12) (.tmp 79), _, _, _, _⟩) ?_ 25 (.tmp 12) (.tmp 79) ?_ ?_ ?_ hr11 i2.out j2.out o2 ?_); rfl; rfl; rfl; rfl; intro w12 hr12 hg12 hz12; have hb12 := (hb8.grown hg11 (by simp)).grown hg12 (by simp; omega); have rb12 := hb12.allR) | ((with_reducible refine wpList_loadM (o := ⟨some 82, _, _, _, _, _⟩) ?_ w.heap.size 0 50 (.tmp 3) ?_ ?_ rb12 Tryz.underlying50 ?_ HY.out ?_); rfl; rfl; rfl; rfl) | ((with_reducible refine wpList_oneL (o := ⟨some 83, _, _, _, _, _⟩) ?_ (.tmp 82) ?_ ?_ hy ?_); rfl; rfl; rfl))
    have hB12 : Below w8.heap.size w8 w12 := ((Below.refl _ w8).grown hg11 (Nat.le_refl _) (fun k e => by cases e)).grown hg12 (by omega) (fun k e => by cases e; omega)
    have hS12 := hS8.below hB12
    have hH12 := hH8.below hB12
    have hB13 := (Below.refl _ w12).alloc (Nat.le_refl _) (.cells (lc y).toArray 50)
    have hS13 := hS12.below hB13
    have hH13 := hH12.below hB13
    have hM := M1 w12
    generalize w12.alloc _ = w13 at *
    rw [show w12.heap.size = w8.heap.size + 1 by omega] at hM
    refine (SET.out w13 hS13 _ hM).mono ?_
    rintro e w14 ⟨rfl, hS14, hg14⟩
    have hH14 := hH13.grown hg14 (hS13.ne hH13.box (by decide)) (hS13.ne hH13.dig (by decide)) hS13.low.1
    clear hM hB13 hB12 hb12 rb12 hr12 hr11 hg11 hg12 hz11 hz12 hS12 hS13 hH12 hH13 hg14 hb8 hl8 hm8 hS8 hH8 rb9 hS9 hHeld GE
    cases fb with
    | false =>
      obtain ⟨e1, e2⟩ := F1.out rfl
      rw [e1]
      rw [e2] at hS14
      have hSe := hS14.below (below_drew (Below.refl w14.heap.size w14))
      have HL4 := HFL.out
      go_wp2_with fail
      -- REGION fullB 6
      refine wp_region_held_drew (S := fun W => BackAt w W w.heap.size g y d) (by kernel_rfl) hH14.drew (fun hHeld => ?_)
      refine wpAnyH_take (i := 0) (oi := ⟨some 87, .move (.tmp 14), _, _, _, none⟩) (v := ?_) rfl (by kernel_rfl) (by kernel_rfl) (by kernel_rfl) (fun _ _ _ h => h) (Or.inl ⟨by rfl, ?_⟩) hHeld ?_
      rotate_left
      · intro W _; go_simp; try with_reducible rfl
      try simp only [Act.put, List.setIfInBounds_toArray, List.set_cons_zero, List.set_cons_succ]
      refine wpAnyH_take (i := 1) (oi := ⟨some 88, .binOp .eql 29 (.tmp 87) (.const (.int .i64 2)) 29, _, _, _, none⟩) (v := ?_) rfl (by kernel_rfl) (by kernel_rfl) (by kernel_rfl) (fun _ _ _ h => h) (Or.inl ⟨by rfl, ?_⟩) hHeld ?_
      rotate_left
      · intro W _; go_simp; try with_reducible rfl
      try simp only [Act.put, List.setIfInBounds_toArray, List.set_cons_zero, List.set_cons_succ]
      refine wpAnyH_take (i := 2) (oi := ⟨some 89, .move (.tmp 88), _, _, _, none⟩) (v := ?_) rfl (by kernel_rfl) (by kernel_rfl) (by kernel_rfl) (fun _ _ _ h => h) (Or.inl ⟨by rfl, ?_⟩) hHeld ?_
      rotate_left
      · intro W _; go_simp; try with_reducible rfl
      try simp only [Act.put, List.setIfInBounds_toArray, List.set_cons_zero, List.set_cons_succ]
      refine wpAnyH_take (i := 3) (oi := ⟨some 90, .move (.tmp 5), _, _, _, some (2, true)⟩) (v := ?_) rfl (by kernel_rfl) (by kernel_rfl) (by kernel_rfl) (fun _ _ _ h => h) (Or.inl ⟨by rfl, ?_⟩) hHeld ?_
      rotate_left
      · intro W _; go_simp; try with_reducible rfl
      try simp only [Act.put, List.setIfInBounds_toArray, List.set_cons_zero, List.set_cons_succ]
      refine wpAnyH_take (i := 5) (oi := ⟨some 92, .load 25 (.tmp 10), _, _, _, some (2, true)⟩) (v := .agg (bs d).toArray) rfl (by kernel_rfl) (by kernel_rfl) (by kernel_rfl) (fun _ _ _ h => h) (yieldsIf_load_mid (by rfl) _ _ rfl g 0 rfl (bs d) _ (fun W h => h.dig.allR) Tryz.underlying25 rfl i1.out) hHeld ?_
      try simp only [Act.put, List.setIfInBounds_toArray, List.set_cons_zero, List.set_cons_succ]
      refine wpAnyH_ready (rs := [4]) (by kernel_rfl) (by simp) ?_
      refine AllReadyH.cons (o := ⟨some 91, .call { callee := .value (.func 23), args := #[.tmp 90], argTypes := #[28] }, _, _, _, some (2, true)⟩) rfl (fun K hK => ?_) AllReadyH.nil
      refine step_ofR (by rfl) ?_
      go_simp
      refine (RO.out _ tp hSe).mono ?_
      rintro x W1 ⟨rfl, hS19, hB19, hk19⟩
      refine hK.out _ _ (hHeld.kept hk19 hB19) (fun hHeld => ?_)
      clear hK K
      try simp only [Act.put, List.setIfInBounds_toArray, List.set_cons_zero, List.set_cons_succ]
      refine wpAnyH_take (i := 6) (oi := ⟨some 93, .binOp .eql 25 (.tmp 91) (.tmp 92) 25, _, _, _, some (2, true)⟩) (v := .bool true) rfl (by kernel_rfl) (by kernel_rfl) (by kernel_rfl) (fun _ _ _ h => h) (yieldsIf_eqE (by rfl) .eql 25 25 (.tmp 91) (.tmp 92) rfl _ _ rfl rfl guardR _ (eq5 hdl)) hHeld ?_
      try simp only [Act.put, List.setIfInBounds_toArray, List.set_cons_zero, List.set_cons_succ]
      refine wpAnyH_take (i := 7) (oi := ⟨some 94, .pick (.tmp 89) (.tmp 93) (.const (.bool false)), _, _, _, none⟩) (v := ?_) rfl (by kernel_rfl) (by kernel_rfl) (by kernel_rfl) (fun _ _ _ h => h) (Or.inl ⟨by rfl, ?_⟩) hHeld ?_
      rotate_left
      · intro W _; go_simp; try with_reducible rfl
      try simp only [Act.put, List.setIfInBounds_toArray, List.set_cons_zero, List.set_cons_succ]
      refine wpAnyH_take (i := 8) (oi := ⟨some 95, .move (.tmp 94), _, _, _, none⟩) (v := ?_) rfl (by kernel_rfl) (by kernel_rfl) (by kernel_rfl) (fun _ _ _ h => h) (Or.inl ⟨by rfl, ?_⟩) hHeld ?_
      rotate_left
      · intro W _; go_simp; try with_reducible rfl
      try simp only [Act.put, List.setIfInBounds_toArray, List.set_cons_zero, List.set_cons_succ]
      refine wpAnyH_take (i := 9) (oi := ⟨some 96, .move (.tmp 5), _, _, _, some (8, true)⟩) (v := ?_) rfl (by kernel_rfl) (by kernel_rfl) (by kernel_rfl) (fun _ _ _ h => h) (Or.inl ⟨by rfl, ?_⟩) hHeld ?_
      rotate_left
      · intro W _; go_simp; try with_reducible rfl
      try simp only [Act.put, List.setIfInBounds_toArray, List.set_cons_zero, List.set_cons_succ]
      refine wpAnyH_ready (rs := [10]) (by kernel_rfl) (by simp) ?_
      refine AllReadyH.cons (o := ⟨some 97, .call { callee := .value (.func 21), args := #[.tmp 96], argTypes := #[28] }, _, _, _, some (8, true)⟩) rfl (fun K hK => ?_) AllReadyH.nil
      refine step_ofR (by rfl) ?_
      go_simp
      refine (LE.out _ tp L hS19 HL4).mono ?_
      rintro x W1 ⟨rfl, rfl⟩
      refine hK.out _ _ (hHeld) (fun hHeld => ?_)
      clear hK K
      try simp only [Act.put, List.setIfInBounds_toArray, List.set_cons_zero, List.set_cons_succ]
      refine wpAnyH_take (i := 11) (oi := ⟨some 98, .binOp .eql 3 (.tmp 97) (.const (.int .i64 4096)) 3, _, _, _, some (8, true)⟩) (v := ?_) rfl (by kernel_rfl) (by kernel_rfl) (by kernel_rfl) (fun _ _ _ h => h) (Or.inl ⟨by rfl, ?_⟩) hHeld ?_
      rotate_left
      · intro W _; go_simp; try with_reducible rfl
      try simp only [Act.put, List.setIfInBounds_toArray, List.set_cons_zero, List.set_cons_succ]
      refine wpAnyH_take (i := 12) (oi := ⟨some 99, .pick (.tmp 95) (.tmp 98) (.const (.bool false)), _, _, _, none⟩) (v := ?_) rfl (by kernel_rfl) (by kernel_rfl) (by kernel_rfl) (fun _ _ _ h => h) (Or.inl ⟨by rfl, ?_⟩) hHeld ?_
      rotate_left
      · intro W _; go_simp; try with_reducible rfl
      try simp only [Act.put, List.setIfInBounds_toArray, List.set_cons_zero, List.set_cons_succ]
      refine wpAnyH_take (i := 13) (oi := ⟨some 100, .move (.tmp 99), _, _, _, none⟩) (v := ?_) rfl (by kernel_rfl) (by kernel_rfl) (by kernel_rfl) (fun _ _ _ h => h) (Or.inl ⟨by rfl, ?_⟩) hHeld ?_
      rotate_left
      · intro W _; go_simp; try with_reducible rfl
      try simp only [Act.put, List.setIfInBounds_toArray, List.set_cons_zero, List.set_cons_succ]
      refine wpAnyH_ready (rs := [14]) (by kernel_rfl) (by simp) ?_
      refine AllReadyH.cons (o := ⟨some 101, .call { callee := .value (.func 10), args := #[], argTypes := #[] }, _, _, _, some (13, true)⟩) rfl (fun K hK => ?_) AllReadyH.nil
      refine step_ofR (by rfl) ?_
      go_simp
      refine (GR.out _ hHeld.bel).mono ?_
      rintro x W1 ⟨rfl, hb1⟩
      refine hK.out _ _ (hHeld.below hb1) (fun hHeld => ?_)
      clear hK K
      try simp only [Act.put, List.setIfInBounds_toArray, List.set_cons_zero, List.set_cons_succ]
      refine wpAnyH_take (i := 15) (oi := ⟨some 102, .pick (.tmp 100) (.tmp 101) (.const (.bool false)), _, _, _, none⟩) (v := ?_) rfl (by kernel_rfl) (by kernel_rfl) (by kernel_rfl) (fun _ _ _ h => h) (Or.inl ⟨by rfl, ?_⟩) hHeld ?_
      rotate_left
      · intro W _; go_simp; try with_reducible rfl
      try simp only [Act.put, List.setIfInBounds_toArray, List.set_cons_zero, List.set_cons_succ]
      refine wpAnyH_take (i := 16) (oi := ⟨some 103, .move (.tmp 102), _, _, _, none⟩) (v := ?_) rfl (by kernel_rfl) (by kernel_rfl) (by kernel_rfl) (fun _ _ _ h => h) (Or.inl ⟨by rfl, ?_⟩) hHeld ?_
      rotate_left
      · intro W _; go_simp; try with_reducible rfl
      try simp only [Act.put, List.setIfInBounds_toArray, List.set_cons_zero, List.set_cons_succ]
      refine wpAnyH_ready (rs := [17]) (by kernel_rfl) (by simp) ?_
      refine AllReadyH.cons (o := ⟨some 104, .call { callee := .value (.func 25), args := #[], argTypes := #[] }, _, _, _, some (16, true)⟩) rfl (fun K hK => ?_) AllReadyH.nil
      refine step_ofR (by rfl) ?_
      go_simp
      refine (RT.out _ hHeld.bel).mono ?_
      rintro x W1 ⟨rfl, hb2⟩
      refine hK.out _ _ (hHeld.below hb2) (fun hHeld => ?_)
      clear hK K
      try simp only [Act.put, List.setIfInBounds_toArray, List.set_cons_zero, List.set_cons_succ]
      refine wpAnyH_take (i := 18) (oi := ⟨some 105, .pick (.tmp 103) (.tmp 104) (.const (.bool false)), _, _, _, none⟩) (v := ?_) rfl (by kernel_rfl) (by kernel_rfl) (by kernel_rfl) (fun _ _ _ h => h) (Or.inl ⟨by rfl, ?_⟩) hHeld ?_
      rotate_left
      · intro W _; go_simp; try with_reducible rfl
      try simp only [Act.put, List.setIfInBounds_toArray, List.set_cons_zero, List.set_cons_succ]
      refine wpAnyH_ready (rs := [19]) (by kernel_rfl) (by simp) ?_
      refine AllReadyH.cons (o := ⟨some 4, .assign (.tmp 105), _, _, _, none⟩) rfl (fun K hK => ?_) AllReadyH.nil
      refine step_ofR (by rfl) ?_
      go_simp
      refine hK.out _ _ (hHeld) (fun hHeld => ?_)
      clear hK K
      try simp only [Act.put, List.setIfInBounds_toArray, List.set_cons_zero, List.set_cons_succ]
      refine wpAnyH_done (by kernel_rfl) ?_ _
      -- END fullB
      go_wp2_with fail
      go_ret
      exact Yes5.mk hHeld.bel
    | true =>
      obtain ⟨e1, e2, e3⟩ := F2.out rfl
      rw [e1]
      rw [e2] at hS14
      have GE2 := sm_get hS14 y.path hy.1
      rw [find_last] at GE2
      have GE3 := Lib.hid GE2
      have HE3 := Lib.hid e3
      clear e1 e2 e3 GE2
      have rb14 := rp hH14.box
      go_wp2_with ((with_reducible refine wpList_loadG (o := ⟨some 109, _, _, _, _, _⟩) ?_ w.heap.size 0 25 (.tmp 108) ?_ ?_ rb14 Tryz.underlying25 ?_ HP.out ?_); rfl; rfl; rfl; rfl)
      refine GE3.out.mono ?_
      rw [show valOf (some y) = y.val from rfl, show (some y).isSome = true from rfl]
      rintro e w15 ⟨rfl, hB15⟩
      have hS15 := hS14.below hB15
      have hb15 := (hH14.below hB15).box
      have hl15 := hb15.lt
      generalize dropL L y.path ++ [y] = C at *
      have i3 := Lib.hid (dig5 hy.2).1
      have j3 := Lib.hid (dig5 hy.2).2
      have o3 := bs_one y.val
      have E5 := Lib.hid (eq5 hy.2)
      have rv : ∀ {W : World}, Blk W w.heap.size 50 (lc y) → W.rangeAt w.heap.size 32 (bs y.val) := fun h => by
        have := range_val hy (h.range 0 (cs := lc y) (fun j hj => by rw [Nat.zero_add]))
        rwa [Nat.zero_add] at this
      go_wp2_with (first | ((with_reducible refine wpList_allocB (o := ⟨some 15, _, _, _, _, _⟩) ?_ 25 ?_ zeroD_info ?_); rfl; rfl; intro w16 hr16 hg16 hz16) | ((with_reducible refine wpList_storeB (o := ⟨none, .store 25 (.tmp 15) (.tmp 111), _, _, _, _⟩) ?_ 25 (.tmp 15) (.tmp 111) ?_ ?_ ?_ hr16 i3.out j3.out o3 ?_); rfl; rfl; rfl; rfl; intro w17 hr17 hg17 hz17; have hb17 := (hb15.grown hg16 (by simp)).grown hg17 (by simp; omega); have rb17 := rv hb17; have rk17 := hr17.allR) | ((with_reducible refine wpList_loadG (o := ⟨some 119, _, _, _, _, _⟩) ?_ w15.heap.size 0 25 (.tmp 15) ?_ ?_ rk17 Tryz.underlying25 ?_ i3.out ?_); rfl; rfl; rfl; rfl) | ((with_reducible refine wpList_loadG (o := ⟨some 121, _, _, _, _, _⟩) ?_ w.heap.size 32 25 (.tmp 120) ?_ ?_ rb17 Tryz.underlying25 ?_ i3.out ?_); rfl; rfl; rfl; rfl) | ((with_reducible refine wpList_eqF (o := ⟨some 122, _, _, _, _, _⟩) ?_ .eql 25 25 (.tmp 119) (.tmp 121) ?_ (bs y.val).toArray (bs y.val).toArray ?_ ?_ guardR _ E5.out ?_); rfl; rfl; rfl; rfl))
      have hB17 : Below w15.heap.size w15 w17 := ((Below.refl _ w15).grown hg16 (Nat.le_refl _) (fun k e => by cases e)).grown hg17 (by omega) (fun k e => by cases e; omega)
      have hS17 := hS15.below hB17
      refine (LE.out w17 tp C hS17 HE3.out).mono ?_
      rintro e w18 ⟨rfl, rfl⟩
      go_wp2_with fail
      refine (GR.out _ hS17.bel).mono ?_
      rintro e w19 ⟨rfl, hB19⟩
      go_wp2_with fail
      refine (RT.out _ (Bt hS17.bel hB19)).mono ?_
      rintro e w20 ⟨rfl, hB20⟩
      go_wp2_with fail
      go_ret
      exact Yes5.mk (Bt (Bt hS17.bel hB19) hB20)
end Go.Proofs.YtmfnpjfhijmboaaGreatDoor
