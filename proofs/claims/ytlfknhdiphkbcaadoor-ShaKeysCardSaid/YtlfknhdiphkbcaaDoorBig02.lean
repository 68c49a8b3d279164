/-
  Long numbers in parts of 32 bits: what a row of a product by hand comes to.
-/
import Derived.Test.YtlfknhdiphkbcaaDoorSha0
namespace Go.Proofs.YtlfknhdiphkbcaaDoor
def big : List Nat → Nat
  | [] => 0
  | x :: r => x + 4294967296 * big r

theorem big_set : ∀ (l : List Nat) (k v : Nat), k < l.length → big (l.set k v) + l.getD k 0 * 4294967296 ^ k = big l + v * 4294967296 ^ k
  | [], _, _, h => by simp at h
  | x :: r, 0, v, _ => by simp [big]; omega
  | x :: r, k + 1, v, h => by
    have ih := big_set r k v (by simpa using h)
    have e1 : (x :: r).getD (k + 1) 0 = r.getD k 0 := by simp [List.getD]
    rw [e1, List.set_cons_succ, big, big]
    have e2 : ∀ m : Nat, m * 4294967296 ^ (k + 1) = 4294967296 * (m * 4294967296 ^ k) := fun m => by rw [Nat.pow_succ]; simp [Nat.mul_comm, Nat.mul_left_comm]
    rw [e2, e2]
    omega
theorem big_take : ∀ (l : List Nat) (k : Nat), k < l.length → big (l.take (k + 1)) = big (l.take k) + l.getD k 0 * 4294967296 ^ k
  | [], _, h => by simp at h
  | x :: r, 0, _ => by simp [big]
  | x :: r, k + 1, h => by
    have ih := big_take r k (by simpa using h)
    have e1 : (x :: r).getD (k + 1) 0 = r.getD k 0 := by simp [List.getD]
    rw [e1, List.take_succ_cons, List.take_succ_cons, big, big, ih]
    have e2 : ∀ m : Nat, m * 4294967296 ^ (k + 1) = 4294967296 * (m * 4294967296 ^ k) := fun m => by rw [Nat.pow_succ]; simp [Nat.mul_comm, Nat.mul_left_comm]
    rw [e2]
    omega
/-- each part is below 2 to the 32nd -/
def Parts (l : List Nat) : Prop := ∀ x ∈ l, x < 4294967296
theorem Parts.get {l : List Nat} (h : Parts l) (k : Nat) : l.getD k 0 < 4294967296 := by
  rw [List.getD]
  cases e : l[k]? with
  | none => decide
  | some x => exact h x (List.mem_of_getElem? e)
theorem Parts.set {l : List Nat} (h : Parts l) (k v : Nat) (hv : v < 4294967296) : Parts (l.set k v) := fun x hx => by
  rcases List.mem_or_eq_of_mem_set hx with hx | rfl
  · exact h x hx
  · exact hv
theorem Parts.lt {l : List Nat} (h : Parts l) : big l < 4294967296 ^ l.length := by
  induction l with
  | nil => simp [big]
  | cons x r ih =>
    have h1 := ih (fun y hy => h y (List.mem_cons_of_mem _ hy))
    have h2 := h x (List.mem_cons_self ..)
    rw [big, List.length_cons, Nat.pow_succ]
    omega
theorem big_take_le : ∀ (l : List Nat) (k : Nat), big (l.take k) ≤ big l
  | [], k => by simp
  | x :: r, 0 => by simp [big]
  | x :: r, k + 1 => by have := big_take_le r k; simp only [List.take_succ_cons, big]; omega

/-- behind j steps of a row: out and the carry -/
structure RowAt (o : List Nat) (ci : Nat) (a : List Nat) (i j : Nat) (out : List Nat) (carry : Nat) : Prop where
  len : out.length = 8
  parts : Parts out
  eq : big out + carry * 4294967296 ^ (i + j) = big o + ci * big (a.take j) * 4294967296 ^ i
  lt : carry < 4294967296

theorem RowAt.step {o : List Nat} {ci : Nat} {a : List Nat} {i j : Nat} {out : List Nat} {carry : Nat} (h : RowAt o ci a i j out carry) (ha : a.length = 4) (hap : Parts a) (hc : ci < 4294967296) (hi : i < 5) (hj : j < 4) :
    RowAt o ci a i (j + 1) (out.set (i + j) ((out.getD (i + j) 0 + ci * a.getD j 0 + carry) % 4294967296)) ((out.getD (i + j) 0 + ci * a.getD j 0 + carry) / 4294967296) := by
  have hl := h.len
  have h1 := big_set out (i + j) ((out.getD (i + j) 0 + ci * a.getD j 0 + carry) % 4294967296) (by omega)
  have h2 := big_take a j (by omega)
  have h3 := h.eq
  have g1 := h.parts.get (i + j)
  have g2 := hap.get j
  have g3 := h.lt
  generalize out.getD (i + j) 0 = u at *
  generalize a.getD j 0 = y at *
  have hb : ci * y ≤ 4294967295 * 4294967295 := Nat.mul_le_mul (by omega) (by omega)
  have hv : (u + ci * y + carry) / 4294967296 < 4294967296 := by omega
  refine ⟨by simp [hl], h.parts.set _ _ (Nat.mod_lt _ (by decide)), ?_, hv⟩
  have e3 : (u + ci * y + carry) % 4294967296 + 4294967296 * ((u + ci * y + carry) / 4294967296) = u + ci * y + carry := Nat.mod_add_div _ _
  generalize (u + ci * y + carry) / 4294967296 = q at *
  generalize (u + ci * y + carry) % 4294967296 = r at *
  generalize big (out.set (i + j) r) = B at *
  have e1 : 4294967296 ^ (i + (j + 1)) = 4294967296 * 4294967296 ^ (i + j) := by rw [← Nat.add_assoc, Nat.pow_succ, Nat.mul_comm]
  rw [h2, Nat.mul_add, Nat.add_mul, e1]
  have e4 : ci * (y * 4294967296 ^ j) * 4294967296 ^ i = ci * y * 4294967296 ^ (i + j) := by rw [Nat.pow_add]; simp [Nat.mul_comm, Nat.mul_left_comm, Nat.mul_assoc]
  rw [e4]
  generalize 4294967296 ^ (i + j) = P at *
  generalize ci * big (List.take j a) * 4294967296 ^ i = Z at *
  have e5 : r * P + q * (4294967296 * P) = u * P + ci * y * P + carry * P := by
    have : (r + 4294967296 * q) * P = (u + ci * y + carry) * P := by rw [e3]
    rw [Nat.add_mul, Nat.add_mul, Nat.add_mul] at this
    have e6 : q * (4294967296 * P) = 4294967296 * q * P := by simp [Nat.mul_comm, Nat.mul_left_comm]
    omega
  omega

theorem big_split (l : List Nat) (k : Nat) (h : k ≤ l.length) : big l = big (l.take k) + 4294967296 ^ k * big (l.drop k) := by
  induction l generalizing k with
  | nil => simp at h; subst h; simp [big]
  | cons x r ih =>
    cases k with
    | zero => simp [big]
    | succ k =>
      have := ih k (by simpa using h)
      simp only [List.take_succ_cons, List.drop_succ_cons, big, this, Nat.pow_succ]
      rw [Nat.mul_add, show 4294967296 ^ k * 4294967296 * big (List.drop k r) = 4294967296 * (4294967296 ^ k * big (List.drop k r)) by rw [Nat.mul_comm (4294967296 ^ k) 4294967296, Nat.mul_assoc]]
      omega

/-- i rows are done -/
structure RowsAt (c a : List Nat) (x i : Nat) (out : List Nat) : Prop where
  len : out.length = 8
  parts : Parts out
  eq : big out = big (c.take i) * x

theorem RowsAt.begin {c a out : List Nat} {x i : Nat} (h : RowsAt c a x i out) (ci : Nat) : RowAt out ci a i 0 out 0 :=
  ⟨h.len, h.parts, by simp [big], by decide⟩

theorem RowsAt.next {c a o out : List Nat} {x i carry : Nat} (h : RowsAt c a x i o) (hr : RowAt o (c.getD i 0) a i 4 out carry) (ha : a.length = 4) (hx : big a = x) (hc : c.length = 8) (hi : i < 5) (hb : big c * x < 4294967296 ^ 4) : RowsAt c a x (i + 1) out := by
  have h1 := hr.eq
  have h2 := big_take c i (by omega)
  rw [List.take_of_length_le (by omega), hx, h.eq] at h1
  have h3 : big (c.take (i + 1)) * x = big (c.take i) * x + c.getD i 0 * x * 4294967296 ^ i := by
    rw [h2, Nat.add_mul]; simp [Nat.mul_comm, Nat.mul_left_comm]
  rw [← h3] at h1
  have h4 : big (c.take (i + 1)) * x ≤ big c * x := Nat.mul_le_mul_right _ (big_take_le c (i + 1))
  have h5 : 4294967296 ^ 4 ≤ 4294967296 ^ (i + 4) := Nat.pow_le_pow_right (by decide) (by omega)
  have h6 : carry = 0 := by
    cases carry with
    | zero => rfl
    | succ m =>
      have h7 : 4294967296 ^ (i + 4) ≤ (m + 1) * 4294967296 ^ (i + 4) := Nat.le_mul_of_pos_left _ (by omega)
      omega
  subst h6
  exact ⟨hr.len, hr.parts, by omega⟩

theorem RowsAt.zero (c a : List Nat) (x : Nat) : RowsAt c a x 0 [0, 0, 0, 0, 0, 0, 0, 0] := ⟨rfl, by unfold Parts; decide, by simp [big]⟩

theorem RowsAt.all {c a out : List Nat} {x : Nat} (h : RowsAt c a x 5 out) (hc : c.length = 8) (hb : big c < 4294967296 ^ 5) : big out = big c * x := by
  have h1 := big_split c 5 (by omega)
  have h2 : big (c.drop 5) = 0 := by
    cases e : big (c.drop 5) with
    | zero => rfl
    | succ m =>
      rw [e] at h1
      have : 4294967296 ^ 5 ≤ 4294967296 ^ 5 * (m + 1) := Nat.le_mul_of_pos_right _ (by omega)
      omega
  rw [h2] at h1
  rw [h.eq]
  congr 1
  omega
end Go.Proofs.YtlfknhdiphkbcaaDoor
