/-
  The walks of the reference's layer 5: Set; and the law's own.
-/
import Derived.Test.YtgbhfpkngjlfkaaDoorRef05F
namespace Go.Proofs.YtgbhfpkngjlfkaaDoor
open Go.RowKit

/-- what a batch makes of leaves -/
def setF (l : List Lf) : List Lf → List Lf
  | [] => l
  | x :: m => setF (dropL l x.path ++ [x]) m
theorem setF_snoc : ∀ (m l : List Lf) (x : Lf), setF l (m ++ [x]) = dropL (setF l m) x.path ++ [x]
  | [], _, _ => rfl
  | y :: m, l, x => by rw [List.cons_append, setF, setF, setF_snoc m]
theorem setF_ok : ∀ (m l : List Lf), oks l → oks m → oks (setF l m)
  | [], _, h, _ => h
  | x :: m, _, h, hm => setF_ok m _ ((dropL_ok h _).append (oks.single (hm x List.mem_cons_self))) fun y hy => hm y (List.mem_cons_of_mem _ hy)
theorem setF_len : ∀ (m l : List Lf), (setF l m).length ≤ l.length + m.length
  | [], _ => Nat.le_refl _
  | x :: m, l => by
    have h1 := setF_len m (dropL l x.path ++ [x])
    have h2 : (dropL l x.path).length ≤ l.length := List.length_filter_le _ _
    rw [List.length_append] at h1
    simp only [List.length_cons, List.length_nil] at h1 ⊢
    rw [setF]
    omega
/-- what Set answers -/
def setI (l m : List Lf) : List Lf := if 4096 < m.length then l else if twiceB m then l else if 4096 < (setF l m).length then l else setF l m
def setE (l m : List Lf) : Int := if 4096 < m.length then 2 else if twiceB m then 30 else if 4096 < (setF l m).length then 2 else 0

end Go.Proofs.YtgbhfpkngjlfkaaDoor
