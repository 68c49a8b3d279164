/-
  The walk of the reference's Of.
-/
import Derived.Test.YtgfahgmjmiapiaaDoorRef02C
import Derived.Test.YtgfahgmjmiapiaaDoorRef04
import Derived.Test.YtgfahgmjmiapiaaDoorLibS
namespace Go.Proofs.YtgfahgmjmiapiaaDoor
open Go.RowKit

set_option maxRecDepth 100000 in
set_option maxHeartbeats 1000000 in
theorem of_ref (w : World) (s : ByteArray) (hs : s.size ≤ 1099511627776) (hT : Tab w 0) :
    Calls Tryd.prog 8 #[.string s] w fun e w' => e = .returned (.agg (bs (sha (byt s))).toArray) ∧ Below w.heap.size w w' := by
  have kc := fun (w : World) (s : ByteArray) => run_bytes_of_string (P := Tryd.prog) w 9 36 5 s Tryd.underlying9 Tryd.underlying36 Tryd.underlying5
  have hsl := sha_length (byt s)
  have H5 := Lib.hid (show (Tryd.prog.info? 23).map (·.size) = some (bs (sha (byt s))).length by rw [info_digest, bs_length, hsl])
  have H6 := Lib.hid (show (bs zero32).length = (bs (sha (byt s))).length by rw [bs_length, bs_length, zero32_length, hsl])
  have H7 := bs_one (sha (byt s))
  go_enter Tryd.func8, Tryd.ntmps8
  go_wp2_with ((with_reducible refine wpList_allocB (o := ⟨some 2, _, _, _, _, _⟩) ?_ 23 ?_ zeroD_info ?_); rfl; rfl; intro w1 hr1 hg1 hz1)
  have hB1 : Below w.heap.size w w1 := (Below.refl _ w).grown hg1 (Nat.le_refl _) (fun k e => by cases e)
  have hrd := Rd.ofStr w1 s (by unfold maxLen; omega)
  have hB2 := Bt hB1 (grown_ofStr w1 (bytesRow s (grownCap w1 s.size 0 5)) ((bytesRow s (grownCap w1 s.size 0 5)).size, (bytesRow s (grownCap w1 s.size 0 5)).size + 1))
  have hB12 := grown_ofStr w1 (bytesRow s (grownCap w1 s.size 0 5)) ((bytesRow s (grownCap w1 s.size 0 5)).size, (bytesRow s (grownCap w1 s.size 0 5)).size + 1)
  rw [hz1] at hrd
  generalize (w1.alloc _).drew = w2 at *
  have hr2 := hr1.below hB12
  refine (sum_ref _ _ _ _ (byt s) hrd (hT.below hB2) hs).mono ?_
  rintro e w3 ⟨rfl, hB3⟩
  have hr3 := hr2.below hB3
  generalize hd : sha (byt s) = d at *
  have HD := Lib.hid hd
  clear hd
  go_wp2_with ((with_reducible refine wpList_storeB (o := ⟨none, .store 23 (.tmp 2) (.tmp 5), _, _, _, _⟩) ?_ 23 (.tmp 2) (.tmp 5) ?_ ?_ ?_ hr3 H5.out H6.out H7 ?_); rfl; rfl; rfl; rfl; intro w4 hr4 hg4 hz4)
  try simp only [Exit.inBlock, Exit.then]
  refine bodyPost_blk hr4 Tryd.underlying23 H5.out rfl rfl rfl rfl ⟨by rw [HD.out], ?_⟩
  exact (Bt hB2 hB3).grown hg4 (Bt hB2 hB3).size (fun k e => by cases e; exact Nat.le_refl _)

end Go.Proofs.YtgfahgmjmiapiaaDoor
