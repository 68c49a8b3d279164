/-
  The walks of layer 1's statements on putting: OctetCounts, OctetBytes.
-/
import Derived.Test.YtpfggokhcekhbaaLaw01A
namespace Go.Proofs.Ytpfggokhcekhbaa
open Go.RowKit

/-- what a statement's walk comes to: true, and nothing that was there has turned -/
def Yes (w : World) (e : Ending) (w' : World) : Prop := e = .returned (.bool true) ∧ Below w.heap.size w w'

theorem Yes.mk {w w' : World} (h : Below w.heap.size w w') : Yes w (.returned (.bool true)) w' := ⟨rfl, h⟩

set_option maxRecDepth 100000 in
set_option maxHeartbeats 1000000 in
theorem walkOctetCounts (w : World) (a : Option Addr) (n c : Nat) (l : List UInt8) (hr : Rd w a n c l) (m : Int) (_hm : (Lit.int .i64 m).wf = true) :
    Calls Try.prog 3 #[.slice a n c, .int .i64 m] w (Yes w) := by
  by_cases hlong : 262144 < n
  · go_enter Try.func3, Try.ntmps3
    go_wp2_with fail
    go_ret
    exact Yes.mk (Below.refl _ _)
  by_cases hm : 0 ≤ m ∧ m ≤ 2147483647
  · go_enter Try.func3, Try.ntmps3
    go_wp2_with fail
    refine (lent_any w a n c l hr (by omega)).mono ?_
    rintro e w1 ⟨g, c1, rfl, hL1, hB1⟩
    go_wp2_with fail
    refine (putCount_ok w1 _ n c1 m l hL1.rd (by omega) hm.1 hm.2).mono ?_
    rintro e w2 ⟨v2, rfl, hO2, hB2⟩
    obtain ⟨a2, c2, rfl⟩ := hO2.shape
    go_wp2_with fail
    refine (count_ref_ok m w2 hm.1 hm.2).mono ?_
    rintro e w3 ⟨a3, n3, c3, rfl, hO3, hB3⟩
    go_wp2_with fail
    refine (puts_any w3).mono ?_
    rintro e w4 ⟨rfl, hB4⟩
    have hB24 := hB3.trans (hB4.mono hB3.size)
    go_wp2_with fail
    refine (put_ok w4 a2 _ c2 w.heap.size g n c1 a c a3 n3 c3 l (encC m.toNat) (by simpa using (hO2.below hB24).rd) (hL1.below (hB2.trans (hB24.mono hB2.size))) (hr.below (hB1.trans ((hB2.trans (hB24.mono hB2.size)).mono hB1.size))) (hO3.below hB4).rd (by omega)).mono ?_
    rintro e w5 ⟨rfl, rfl⟩
    go_wp2_with fail
    go_ret
    exact Yes.mk (hB1.trans ((hB2.trans (hB24.mono hB2.size)).mono hB1.size))
  · go_enter Try.func3, Try.ntmps3
    go_wp2_with fail
    refine (lent_any w a n c l hr (by omega)).mono ?_
    rintro e w1 ⟨g, c1, rfl, hL1, hB1⟩
    go_wp2_with fail
    refine (putCount_no w1 _ n c1 m (by omega)).mono ?_
    rintro e w2 ⟨rfl, rfl⟩
    go_wp2_with fail
    refine (count_ref_no m w1 (by omega)).mono ?_
    rintro e w3 ⟨rfl, rfl⟩
    go_wp2_with fail
    refine (puts_any w1).mono ?_
    rintro e w4 ⟨rfl, hB4⟩
    go_wp2_with fail
    refine (put_no w4 1 rfl w.heap.size g n c1 a c none 0 0 l (hL1.below hB4) (hr.below (hB1.trans (hB4.mono hB1.size))) (by omega)).mono ?_
    rintro e w5 ⟨rfl, rfl⟩
    go_wp2_with fail
    go_ret
    exact Yes.mk (hB1.trans (hB4.mono hB1.size))

set_option maxRecDepth 100000 in
set_option maxHeartbeats 1000000 in
theorem walkOctetBytes (w : World) (a : Option Addr) (n c : Nat) (l : List UInt8) (hr : Rd w a n c l) (s : ByteArray) (_hs : s.size ≤ maxLen) (ds : List UInt8) (hd : ds.length = 32) :
    Calls Try.prog 4 #[.slice a n c, .string s, .agg (bs ds).toArray] w (Yes w) := by
  by_cases h1 : 262144 < n
  · go_enter Try.func4, Try.ntmps4
    go_wp2_with fail
    go_ret
    exact Yes.mk ((Below.refl _ _).alloc (Nat.le_refl _) _)
  by_cases h2 : 262144 < s.size
  · go_enter Try.func4, Try.ntmps4
    go_wp2_with fail
    go_ret
    exact Yes.mk ((Below.refl _ _).alloc (Nat.le_refl _) _)
  have hw0 : Below w.heap.size w (w.alloc (.cells (bs ds).toArray 32)) := (Below.refl _ w).alloc (Nat.le_refl _) _
  have hbd : (w.alloc (.cells (bs ds).toArray 32)).heap[w.heap.size]? = some (.cells (bs ds).toArray 32 (0, 0)) := World.alloc_heap_new w _
  by_cases h3 : s.size ≤ 65536
  · go_enter Try.func4, Try.ntmps4
    go_wp2_with fail
    generalize w.alloc (.cells (bs ds).toArray 32) = w0 at *
    refine (lent_any w0 a n c l (hr.below hw0) (by omega)).mono ?_
    rintro e w1 ⟨g, c1, rfl, hL1, hB1⟩
    go_wp2_with fail
    refine (putBytes_ok w1 _ n c1 s l hL1.rd (by omega) h3).mono ?_
    rintro e w2 ⟨v2, rfl, hO2, hB2⟩
    obtain ⟨a2, c2, rfl⟩ := hO2.shape
    go_wp2_with fail
    refine (bytes_ref_ok s w2 h3).mono ?_
    rintro e w3 ⟨a3, n3, c3, rfl, hO3, hB3⟩
    go_wp2_with fail
    refine (lent_any w3 a n c l (((hr.below hw0).below (Bt hB1 (Bt hB2 hB3)))) (by omega)).mono ?_
    rintro e w4 ⟨g4, c4, rfl, hL4, hB4⟩
    have hb4 : w4.heap[w.heap.size]? = some (.cells (bs ds).toArray 32 (0, 0)) := ((Bt hB1 (Bt hB2 (Bt hB3 hB4))).block _ (lt_of_block hbd)).trans hbd
    go_wp2_with (refine wpList_digest rfl (.tmp 5) rfl rfl hd hb4 ?_)
    refine (putDigest_ok w4 _ n c4 ds hd l hL4.rd (by omega)).mono ?_
    rintro e w5 ⟨v5, rfl, hO5, hB5⟩
    obtain ⟨a5, c5, rfl⟩ := hO5.shape
    go_wp2_with fail
    refine (puts_any w5).mono ?_
    rintro e w6 ⟨rfl, hB6⟩
    go_wp2_with fail
    have hB26 := Bt hB3 (Bt hB4 (Bt hB5 hB6))
    have hB06 := Bt hB1 (Bt hB2 hB26)
    refine (put_ok w6 a2 _ c2 w0.heap.size g n c1 a c a3 n3 c3 l (encC s.size ++ s.data.toList) (by have h := (hO2.below hB26).rd; simpa using h) ((hL1.below (Bt hB2 hB26))) (hr.below (Bt hw0 hB06)) (hO3.below (Bt hB4 (Bt hB5 hB6))).rd (by omega)).mono ?_
    rintro e w7 ⟨rfl, rfl⟩
    go_wp2_with fail
    have hb6 : w6.heap[w.heap.size]? = some (.cells (bs ds).toArray 32 (0, 0)) := (hB06.block _ (lt_of_block hbd)).trans hbd
    refine (put_ok w6 a5 _ c5 w3.heap.size g4 n c4 a c _ _ _ l ds (by have h := (hO5.below hB6).rd; simpa [hd] using h) (hL4.below (Bt hB5 hB6)) (hr.below (Bt hw0 hB06)) (Rd.block hb6 hd (by decide)) (by omega)).mono ?_
    rintro e w7 ⟨rfl, rfl⟩
    go_wp2_with fail
    go_ret
    exact Yes.mk (Bt hw0 hB06)
  · go_enter Try.func4, Try.ntmps4
    go_wp2_with fail
    generalize w.alloc (.cells (bs ds).toArray 32) = w0 at *
    refine (lent_any w0 a n c l (hr.below hw0) (by omega)).mono ?_
    rintro e w1 ⟨g, c1, rfl, hL1, hB1⟩
    go_wp2_with fail
    refine (putBytes_no w1 _ n c1 s (by omega)).mono ?_
    rintro e w2 ⟨rfl, rfl⟩
    go_wp2_with fail
    refine (bytes_ref_no s w1 (by omega)).mono ?_
    rintro e w3 ⟨rfl, rfl⟩
    go_wp2_with fail
    refine (lent_any w1 a n c l ((hr.below hw0).below hB1) (by omega)).mono ?_
    rintro e w4 ⟨g4, c4, rfl, hL4, hB4⟩
    have hb4 : w4.heap[w.heap.size]? = some (.cells (bs ds).toArray 32 (0, 0)) := ((Bt hB1 hB4).block _ (lt_of_block hbd)).trans hbd
    go_wp2_with (refine wpList_digest rfl (.tmp 5) rfl rfl hd hb4 ?_)
    refine (putDigest_ok w4 _ n c4 ds hd l hL4.rd (by omega)).mono ?_
    rintro e w5 ⟨v5, rfl, hO5, hB5⟩
    obtain ⟨a5, c5, rfl⟩ := hO5.shape
    go_wp2_with fail
    refine (puts_any w5).mono ?_
    rintro e w6 ⟨rfl, hB6⟩
    have hB06 := Bt hB1 (Bt hB4 (Bt hB5 hB6))
    go_wp2_with fail
    refine (put_no w6 2 rfl w0.heap.size g n c1 a c none 0 0 l (hL1.below (Bt hB4 (Bt hB5 hB6))) (hr.below (Bt hw0 hB06)) (by omega)).mono ?_
    rintro e w7 ⟨rfl, rfl⟩
    go_wp2_with fail
    have hb6 : w6.heap[w.heap.size]? = some (.cells (bs ds).toArray 32 (0, 0)) := (hB06.block _ (lt_of_block hbd)).trans hbd
    refine (put_ok w6 a5 _ c5 w1.heap.size g4 n c4 a c _ _ _ l ds (by have h := (hO5.below hB6).rd; simpa [hd] using h) (hL4.below (Bt hB5 hB6)) (hr.below (Bt hw0 hB06)) (Rd.block hb6 hd (by decide)) (by omega)).mono ?_
    rintro e w7 ⟨rfl, rfl⟩
    go_wp2_with fail
    go_ret
    exact Yes.mk (Bt hw0 hB06)
end Go.Proofs.Ytpfggokhcekhbaa
