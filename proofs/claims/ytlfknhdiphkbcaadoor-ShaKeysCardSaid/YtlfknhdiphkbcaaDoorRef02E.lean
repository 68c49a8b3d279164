/-
  The walks of the reference of layer 2: prime, root.
-/
import Derived.Test.YtlfknhdiphkbcaaDoorRef02D
import Derived.ChangeKeysEq
namespace Go.Proofs.YtlfknhdiphkbcaaDoor
open Go.RowKit

def prmB (n : Nat) : Bool := decide (2 ≤ n) && (List.range n).all fun d => decide (d < 2) || decide (n < d * d) || decide (n % d ≠ 0)

theorem prm_no {n k : Nat} (h2 : 2 ≤ k) (hk : k * k ≤ n) (hm : n % k = 0) : prmB n = false := by
  unfold prmB
  rw [Bool.and_eq_false_iff]
  right
  rw [List.all_eq_false]
  have h3 : k < n := by have : 2 * k ≤ k * k := Nat.mul_le_mul_right _ h2
                        omega
  exact ⟨k, List.mem_range.2 h3, by simp [hm]; omega⟩
theorem prm_yes {n k : Nat} (h : ∀ d, 2 ≤ d → d < k → n % d ≠ 0) (hk : n < k * k) : prmB n = decide (2 ≤ n) := by
  unfold prmB
  have : ((List.range n).all fun d => decide (d < 2) || decide (n < d * d) || decide (n % d ≠ 0)) = true := by
    rw [List.all_eq_true]
    intro d _
    by_cases h1 : d < 2
    · simp [h1]
    · by_cases h2 : d < k
      · simp [h d (by omega) h2]
      · have : k * k ≤ d * d := Nat.mul_le_mul (by omega) (by omega)
        simp; omega
  rw [this, Bool.and_true]

set_option maxRecDepth 100000 in
set_option maxHeartbeats 400000 in
theorem prime_any (w : World) (n : Nat) (hn : n ≤ 1000) :
    Calls Tryd.prog 29 #[.int .i64 n] w fun e w' => e = .returned (.bool (prmB n)) ∧ w = w' := by
  go_enter Tryd.func29, Tryd.ntmps29
  go_wp2_with fail
  go_loop [3] (fun d => ∃ k : Nat, 2 ≤ k ∧ k ≤ 1002 ∧ d = .int .i64 k ∧ Hid (∀ j, 2 ≤ j → j < k → n % j ≠ 0)) (fun d => 1003 - (intOf d).toNat)
  case atStart => exact ⟨2, by omega, by omega, rfl, fun j h1 h2 => by omega⟩
  case round =>
    obtain ⟨k, h2, hk, rfl, hj⟩ := hrel
    obtain ⟨q, hq⟩ : ∃ q, q = k * k := ⟨_, rfl⟩
    have e1 : (k : Int) * (k : Int) = (q : Int) := by rw [hq]; simp
    have hqb : q ≤ 1002 * 1002 := by rw [hq]; exact Nat.mul_le_mul hk hk
    have HQ := Lib.hid hq
    clear hq
    by_cases hlt : q ≤ n
    · have hkk : k ≤ 1000 := by
        have := HQ.out
        have : 2 * k ≤ k * k := Nat.mul_le_mul_right _ h2
        omega
      obtain ⟨r, hr⟩ : ∃ r, r = n % k := ⟨_, rfl⟩
      have e2 : (n : Int) % (k : Int) = (r : Int) := by rw [hr]; simp
      have e3 : (n : Int).tmod (k : Int) = (r : Int) := (Int.tmod_eq_emod_of_nonneg (by omega)).trans e2
      have HR := Lib.hid hr
      clear hr
      by_cases h0 : r = 0
      · have HN := Lib.hid (prm_no h2 (by rw [← HQ.out]; exact hlt) (by rw [← HR.out]; exact h0))
        subst h0
        have kz : ((k : Int) == 0) = false := by simp; omega
        go_wp2_with fail
        go_ret
        exact ⟨by rw [HN.out]; rfl, rfl⟩
      · have b0 : ((r : Int) == 0) = false := by simp; omega
        have kz : ((k : Int) == 0) = false := by simp; omega
        go_wp2_with fail
        refine ⟨⟨k + 1, by omega, by omega, by go_num, ?_⟩, by simp [intOf]; omega⟩
        intro j h3 h4
        by_cases h5 : j = k
        · subst h5; rw [← HR.out]; exact h0
        · exact hj.out j h3 (by omega)
    · have HY := Lib.hid (prm_yes hj.out (by rw [← HQ.out]; omega))
      go_wp2_with fail
      go_ret
      exact ⟨by rw [HY.out]; simp; omega, rfl⟩

/-- the cube root's first k bits of 36 -/
def rt (p : Nat) : Nat → Nat
  | 0 => 0
  | k + 1 => if (rt p k + 2 ^ (35 - k)) * (rt p k + 2 ^ (35 - k)) * (rt p k + 2 ^ (35 - k)) ≤ p * 79228162514264337593543950336 then rt p k + 2 ^ (35 - k) else rt p k
theorem rt_le (p : Nat) : ∀ k, k ≤ 36 → rt p k + 2 ^ (36 - k) ≤ 68719476736
  | 0, _ => by simp [rt]
  | k + 1, h => by
    have ih := rt_le p k (by omega)
    have e : 2 ^ (36 - k) = 2 * 2 ^ (35 - k) := by rw [show 36 - k = 35 - k + 1 by omega, Nat.pow_succ, Nat.mul_comm]
    have e2 : 36 - (k + 1) = 35 - k := by omega
    have hp : 0 < 2 ^ (35 - k) := Nat.pow_pos (by decide)
    rw [e2]
    unfold rt
    split <;> omega

set_option maxRecDepth 100000 in
set_option maxHeartbeats 1000000 in
theorem root_any (w : World) (p : Nat) (hp : p ≤ 1000) :
    Calls Tryd.prog 30 #[.int .i64 p] w fun e w' => e = .returned (.int .u32 ((rt p 36 % 4294967296 : Nat) : Int)) ∧ Below w.heap.size w w' := by
  go_enter Tryd.func30, Tryd.ntmps30
  go_wp2_with fail
  go_loopw [3, 4] (fun x b wr => ∃ k : Nat, k ≤ 36 ∧ x = .int .u64 (rt p k) ∧ b = .int .i64 (35 - (k : Int)) ∧ Below w.heap.size w wr) (fun _ b _ => (intOf b + 1).toNat)
  case atStart => exact ⟨0, by omega, rfl, rfl, Below.refl _ _⟩
  case round =>
    obtain ⟨k, hk, rfl, rfl, hB⟩ := hrel
    have hr := rt_le p k hk
    by_cases hlt : k < 36
    · obtain ⟨s, hs⟩ : ∃ s, s = 35 - k := ⟨_, rfl⟩
      have e0 : 35 - (k : Int) = (s : Int) := by omega
      rw [e0]
      have hsb : s < 36 := by omega
      have e : 2 ^ (36 - k) = 2 * 2 ^ s := by rw [show 36 - k = s + 1 by omega, Nat.pow_succ, Nat.mul_comm]
      rw [e] at hr
      have HRT := Lib.hid (show rt p (k + 1) = if (rt p k + 2 ^ s) * (rt p k + 2 ^ s) * (rt p k + 2 ^ s) ≤ p * 79228162514264337593543950336 then rt p k + 2 ^ s else rt p k by rw [hs]; rfl)
      have hpos : 0 < 2 ^ s := Nat.pow_pos (by decide)
      have m0 : min s 64 = s := by omega
      have m1 : ((2 : Int) ^ s) = ((2 ^ s : Nat) : Int) := by simp
      have HS := Lib.hid hs
      clear hs e
      generalize rt p k = x at *
      generalize h2s : 2 ^ s = t at *
      have H2 := Lib.hid h2s
      clear h2s
      have m2 : IntKind.u64.wrap ((2 : Int) ^ s) = (t : Int) := by rw [m1, IntKind.wrap_u64]; omega
      obtain ⟨y, hy⟩ : ∃ y, y = x + t := ⟨_, rfl⟩
      have m3 : (x : Int) + (t : Int) = (y : Int) := by omega
      have yb : y < 68719476736 := by omega
      rw [← hy] at HRT
      have HY := Lib.hid hy
      clear hy m2
      by_cases hf : y * y * y ≤ p * 79228162514264337593543950336
      · have hd : decide (y * y * y ≤ p * 79228162514264337593543950336) = true := by simpa using hf
        have hrt : rt p (k + 1) = y := by rw [HRT.out, if_pos hf]
        have HRE := Lib.hid hrt
        have HFA := Lib.hid (fun W => fits_any W y p yb (by omega))
        rw [hd] at HFA
        clear hrt HRT hd hf
        go_wp2_with fail
        refine (HFA.out wr).mono ?_
        rintro e w1 ⟨rfl, hB1⟩
        go_wp2_with fail
        exact ⟨⟨k + 1, by omega, by rw [HRE.out], by rw [show (s : Int) - 1 = 35 - ((k + 1 : Nat) : Int) by omega], Bt hB hB1⟩, by simp [intOf]⟩
      · have hd : decide (y * y * y ≤ p * 79228162514264337593543950336) = false := by simpa using hf
        have hrt : rt p (k + 1) = x := by rw [HRT.out, if_neg hf]
        have HRE := Lib.hid hrt
        have HFA := Lib.hid (fun W => fits_any W y p yb (by omega))
        rw [hd] at HFA
        clear hrt HRT hd hf
        go_wp2_with fail
        refine (HFA.out wr).mono ?_
        rintro e w1 ⟨rfl, hB1⟩
        go_wp2_with fail
        exact ⟨⟨k + 1, by omega, by rw [HRE.out], by rw [show (s : Int) - 1 = 35 - ((k + 1 : Nat) : Int) by omega], Bt hB hB1⟩, by simp [intOf]⟩
    · obtain rfl : k = 36 := by omega
      have e0 : (35 : Int) - ((36 : Nat) : Int) = -1 := by omega
      rw [e0]
      obtain ⟨v, hv⟩ : ∃ v, v = rt p 36 % 4294967296 := ⟨_, rfl⟩
      have e1 : ((rt p 36 : Nat) : Int) % 4294967296 = (v : Int) := by omega
      have hvb : v < 4294967296 := by omega
      have HV := Lib.hid hv
      clear hv hr
      generalize hz : rt p 36 = z at *
      have HZ := Lib.hid hz
      clear hz
      go_wp2_with fail
      go_ret
      exact ⟨by rw [HZ.out, ← HV.out]; rfl, hB⟩

/-- 1 and the primes -/
def prs : List Nat := [1, 2, 3, 5, 7, 11, 13, 17, 19, 23, 29, 31, 37, 41, 43, 47, 53, 59, 61, 67, 71, 73, 79, 83, 89, 97, 101, 103, 107, 109, 113, 127, 131, 137, 139, 149, 151, 157, 163, 167, 173, 179, 181, 191, 193, 197, 199, 211, 223, 227, 229, 233, 239, 241, 251, 257, 263, 269, 271, 277, 281, 283, 293, 307, 311]
def prsOk : Bool := (List.range 64).all fun t => prmB (prs.getD (t + 1) 0) && decide (prs.getD t 0 < prs.getD (t + 1) 0) && decide (prs.getD (t + 1) 0 ≤ 311) && decide (rt (prs.getD (t + 1) 0) 36 % 4294967296 = ks.getD t 0) && (List.range 312).all fun q => decide (q ≤ prs.getD t 0) || decide (prs.getD (t + 1) 0 ≤ q) || !prmB q
set_option maxRecDepth 1000000 in
theorem prs_ok : prsOk = true := by decide +kernel

structure PrAt (t : Nat) : Prop where
  yes : prmB (prs.getD (t + 1) 0) = true
  lt : prs.getD t 0 < prs.getD (t + 1) 0
  le : prs.getD (t + 1) 0 ≤ 311
  key : rt (prs.getD (t + 1) 0) 36 % 4294967296 = ks.getD t 0
  no : ∀ q, prs.getD t 0 < q → q < prs.getD (t + 1) 0 → prmB q = false

theorem pr_at (t : Nat) (h : t < 64) : PrAt t := by
  have h1 := List.all_eq_true.1 prs_ok t (List.mem_range.2 h)
  simp only [Bool.and_eq_true, decide_eq_true_eq] at h1
  obtain ⟨⟨⟨⟨h1, h2⟩, h3⟩, h4⟩, h5⟩ := h1
  refine ⟨h1, h2, h3, h4, fun q a b => ?_⟩
  have h6 := List.all_eq_true.1 h5 q (List.mem_range.2 (by omega))
  simp only [Bool.or_eq_true, decide_eq_true_eq, Bool.not_eq_true'] at h6
  rcases h6 with (h6 | h6) | h6
  · omega
  · omega
  · exact h6

theorem pad64_zero : pad64 [] = zero64 := by decide

set_option maxRecDepth 100000 in
set_option maxHeartbeats 1000000 in
theorem keys_any (w : World) :
    Calls Tryd.prog 25 #[] w fun e w' => e = .returned (.agg (ns .u32 ks).toArray) ∧ Below w.heap.size w w' := by
  go_enter Tryd.func25, Tryd.ntmps25
  go_wp2_with (first | ((with_reducible refine wpList_allocB (o := ⟨some 0, _, _, _, _, _⟩) ?_ 49 ?_ zero64_info ?_); rfl; rfl; intro w1 hr1 hg1 hz1) | ((with_reducible refine wpList_allocB (o := ⟨some 1, _, _, _, _, _⟩) ?_ 49 ?_ zero64_info ?_); rfl; rfl; intro w2 hk2 hg2 hz2))
  have hr2 := hr1.grown hg2 (by simp)
  have hB2 : Below w.heap.size w w2 := ((Below.refl _ w).grown hg1 (Nat.le_refl _) (fun k e => by cases e)).grown hg2 (by omega) (fun k e => by cases e)
  rw [hz1, ← pad64_zero] at hk2
  have hk0 : Blk w2 (w.heap.size + 1) 49 (ns .u32 (pad64 (ks.take 0))) := hk2
  clear hr1 hg1 hg2 hz2 hk2 hz1
  go_loopw [2, 3] (fun p t wr => ∃ k : Nat, k ≤ 64 ∧ p = .int .i64 (prs.getD k 0) ∧ t = .int .i64 k ∧ Blk wr w.heap.size 49 (ns .u32 zero64) ∧ Blk wr (w.heap.size + 1) 49 (ns .u32 (pad64 (ks.take k))) ∧ Below w.heap.size w wr) (fun _ t _ => 64 - (intOf t).toNat)
  case atStart => exact ⟨0, by omega, rfl, rfl, hr2, hk0, hB2⟩
  case round =>
    obtain ⟨k, hk, rfl, rfl, hr, hb, hB⟩ := hrel
    by_cases hlt : k < 64
    · obtain ⟨hyes, hplt, hple, hkey, hno⟩ := pr_at k hlt
      have HNO := Lib.hid hno
      have HYES := Lib.hid hyes
      have HKEY := Lib.hid hkey
      clear hno hyes hkey
      generalize prs.getD k 0 = p0 at *
      generalize hp1 : prs.getD (k + 1) 0 = p1 at *
      have HP1 := Lib.hid hp1
      clear hp1
      obtain ⟨wo, rfl⟩ : ∃ wo : World, wo = wr := ⟨_, rfl⟩
      go_wp2_with fail
      go_loop [2] (fun p => ∃ q : Nat, p0 < q ∧ q ≤ p1 ∧ p = .int .i64 q) (fun p => 400 - (intOf p).toNat)
      case atStart => exact ⟨p0 + 1, by omega, by omega, by go_num⟩
      case round =>
        obtain ⟨q, hq1, hq2, rfl⟩ := hrel
        by_cases hql : q < p1
        · have hpb := HNO.out q hq1 hql
          have HPR := Lib.hid (fun W => prime_any W q (by omega))
          rw [hpb] at HPR
          clear hpb
          go_wp2_with fail
          refine (HPR.out _).mono ?_
          rintro e w3 ⟨rfl, rfl⟩
          go_wp2_with fail
          refine ⟨⟨trivial, .int .i64 ((q : Int) + 1), .int .i64 q, .bool false, .bool true, .int .i64 q, .int .i64 ((q : Int) + 1), ⟨q + 1, by omega, by omega, by go_num⟩, ?_⟩, by simp [intOf]; omega⟩
          rw [decide_eq_true (show (k : Int) < 64 by omega)]
        · obtain rfl : q = p1 := by omega
          have HPR := Lib.hid (fun W => prime_any W q (by omega))
          rw [HYES.out] at HPR
          go_wp2_with fail
          refine (HPR.out _).mono ?_
          rintro e w3 ⟨rfl, rfl⟩
          go_wp2_with fail
          refine (root_any _ q (by omega)).mono ?_
          rintro e w4 ⟨rfl, hB4⟩
          rw [HKEY.out]
          have hb4 := hb.below hB4
          have hr4 := hr.below hB4
          have hB04 := Bt hB hB4
          have kc := hb4.cell (ns_at .u32 (pad64 (ks.take k)) k (by rw [pad64_length _ (by simp; omega)]; omega))
          have kf := hb4.free k
          have k64 : (k : Int) < 64 := by omega
          go_wp2_with fail
          have hkl : k < ks.length := by have : ks.length = 64 := by decide
                                         omega
          have hset : (pad64 (ks.take k)).set k (ks.getD k 0) = pad64 (ks.take (k + 1)) := by
            rw [pad64_set _ _ k (by simp; omega) hlt]
            rw [List.take_add_one, List.getD_eq_getElem?_getD, List.getElem?_eq_getElem hkl]; rfl
          have hsc := hb4.set k (.int .u32 ((ks.getD k 0 : Nat) : Int))
          rw [ns_set, hset] at hsc
          have hsb := hB04.grown (set_grown w4 (w.heap.size + 1) k (.int .u32 ((ks.getD k 0 : Nat) : Int))) hB04.size (fun j e => by cases e; omega)
          refine ⟨⟨k + 1, by omega, by rw [HP1.out], by go_num, hr4.setOther _ _ (by simp), hsc, hsb⟩, by simp [intOf]; omega⟩
    · obtain rfl : k = 64 := by omega
      have ht : ks.take 64 = ks := by decide
      have hp : pad64 ks = ks := by decide
      rw [ht, hp] at hb
      have H1 := Lib.hid (show (Tryd.prog.info? 49).map (·.size) = some (ns .u32 ks).length by rw [ns_length, show ks.length = 64 by decide]; kernel_rfl)
      have H2 := Lib.hid (show (ns .u32 zero64).length = (ns .u32 ks).length by rw [ns_length, ns_length]; decide)
      have H3 := ns_one .u32 ks
      generalize hkv : ns .u32 ks = kv at *
      have HKV := Lib.hid hkv
      clear hkv
      go_wp2_with (first | ((with_reducible refine wpList_loadB (o := ⟨some 19, _, _, _, _, _⟩) ?_ 49 (.tmp 1) ?_ ?_ hb Tryd.underlying49 ?_ H1.out ?_); rfl; rfl; rfl; rfl) | ((with_reducible refine wpList_storeB (o := ⟨none, .store 49 (.tmp 0) (.tmp 19), _, _, _, _⟩) ?_ 49 (.tmp 0) (.tmp 19) ?_ ?_ ?_ hr H1.out H2.out H3 ?_); rfl; rfl; rfl; rfl; intro w9 hb9 hg9 hz9))
      try simp only [Exit.inBlock, Exit.then]
      refine bodyPost_blk hb9 Tryd.underlying49 H1.out rfl rfl rfl rfl ⟨by rw [HKV.out], ?_⟩
      exact hB.grown hg9 hB.size (fun k e => by cases e; omega)

/-- two arrays of numbers held against each other: the same -/
theorem all_same (k : IntKind) (e : TypeId) (c : Nat) (he : Tryd.prog.underlying e = some (.int k)) (l : List Nat) (hc : c = 1) (w : World) : ∀ is : List Nat, (∀ i ∈ is, i < l.length) → (Op.eqItems 9999 e c (ns k l).toArray (ns k l).toArray is).run Tryd.prog w = .ok true w
  | [], _ => by simp [Op.eqItems]
  | i :: is, h => by
    subst hc
    have hi : i < l.length := h i (by simp)
    have px : (part e (ns k l).toArray (i * 1)).run Tryd.prog w = .ok (.int k ((l.getD i 0 : Nat) : Int)) w := by
      have := ns_at k l i hi
      simp [part, isAgg, run_underlying he, this]
    have pe : (Op.equalIn 9999 e (.int k ((l.getD i 0 : Nat) : Int)) (.int k ((l.getD i 0 : Nat) : Int))).run Tryd.prog w = .ok true w := by
      rw [run_equalIn_int w 9998 e k k _ _ he]; simp
    have ih := all_same k e 1 he l rfl w is (fun j hj => h j (by simp [hj]))
    simp only [Op.eqItems, Sem.run_bind, px, pe, Result.andThen_ok, Bool.not_true, Bool.false_eq_true, if_false, ih]
theorem keys_eq (w : World) : (Op.equalIn 10000 49 (.agg (ns .u32 ks).toArray) (.agg (ns .u32 ks).toArray)).run Tryd.prog w = .ok true w := by
  obtain ⟨i, hi⟩ := info_of_underlying (P := Tryd.prog) Tryd.underlying40
  rw [run_equalIn_array w 9999 _ _ Tryd.underlying49 hi]
  refine all_same .u32 40 _ Tryd.underlying40 ks (by kernel_rfl) w _ (fun i hi => ?_)
  have h1 := List.mem_range.1 hi
  have h2 : ks.length = 64 := by decide
  omega
end Go.Proofs.YtlfknhdiphkbcaaDoor
