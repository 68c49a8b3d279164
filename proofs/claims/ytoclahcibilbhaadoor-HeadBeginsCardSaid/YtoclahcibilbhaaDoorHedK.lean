/-
  Digests and signatures of heads, without a program; laws on parts of memory.
-/
import Derived.Test.YtoclahcibilbhaaDoorHedP
import Derived.Test.YtoclahcibilbhaaDoorMacA
import Derived.Test.YtoclahcibilbhaaDoorLibS
import Derived.Deep.RegionHeld3
namespace Go.Proofs.YtoclahcibilbhaaDoor
open Go.RowKit
set_option maxRecDepth 100000

def digH (x : Hd) : List UInt8 := if hvalid x then sha (encH x) else zero32
def hErr (x : Hd) : Int := if hvalid x then 0 else 80
theorem digH_length (x : Hd) : (digH x).length = 32 := by
  unfold digH
  split
  · exact sha_length _
  · exact zero32_length
def keyok (k : ByteArray) : Bool := decide (1 ≤ k.size) && decide (k.size ≤ 64)
theorem keyok_iff {k : ByteArray} : keyok k = true ↔ 1 ≤ k.size ∧ k.size ≤ 64 := by simp [keyok]
def mayH (k : ByteArray) (x : Hd) : Bool := keyok k && hvalid x
def sgnI (k : ByteArray) (x : Hd) : Sg := ⟨x, hmac (byt k) (encH x)⟩
def sgnP (k : ByteArray) (x : Hd) : Sg × Int := if mayH k x then (sgnI k x, 0) else (sgz, 80)
def chkH (k : ByteArray) (s : Sg) : Int := if mayH k s.hd then (if hmac (byt k) (encH s.hd) == s.sign then 0 else 81) else 80
theorem sgnI_ok (k : ByteArray) {x : Hd} (hx : x.ok) : (sgnI k x).ok := ⟨hx, hmac_length _ _⟩
theorem sgnP_ok (k : ByteArray) {x : Hd} (hx : x.ok) : (sgnP k x).1.ok := by
  unfold sgnP
  split
  · exact sgnI_ok k hx
  · exact sgz_ok
theorem sgnP_err (k : ByteArray) (x : Hd) : (sgnP k x).2 = 0 ∨ (sgnP k x).2 = 80 := by
  unfold sgnP
  split
  · exact .inl rfl
  · exact .inr rfl
theorem chkH_sgnP (k : ByteArray) (s : Sg) : chkH k s = if (sgnP k s.hd).2 = 0 then (if (sgnP k s.hd).1.sign == s.sign then 0 else 81) else 80 := by
  unfold chkH sgnP
  split
  · rfl
  · rfl
theorem as_ofFnH {l : List UInt8} (h : l.length = 32) : ∃ f : Fin 32 → UInt8, l = List.ofFn f := by
  refine ⟨fun i => l.getD i.1 0, ?_⟩
  apply List.ext_getElem
  · rw [List.length_ofFn, h]
  · intro i h1 h2
    rw [List.getElem_ofFn]
    exact (by simp [List.getD, h1] : l[i] = l.getD i 0)
theorem built_sgn0 (e : Int) (f g h : Fin 32 → UInt8) : Tryd.prog.built 36 [(0, .agg (hdc ⟨e, List.ofFn f, List.ofFn g⟩).toArray), (1, .agg (bs (List.ofFn h)).toArray)] = some (sgc ⟨⟨e, List.ofFn f, List.ofFn g⟩, List.ofFn h⟩).toArray := by kernel_rfl
theorem built_sgn (x : Hd) (hx : x.ok) (d : List UInt8) (hd : d.length = 32) : Tryd.prog.built 36 [(0, .agg (hdc x).toArray), (1, .agg (bs d).toArray)] = some (sgc ⟨x, d⟩).toArray := by
  obtain ⟨e, r, p⟩ := x
  obtain ⟨f, rfl⟩ := as_ofFnH hx.1
  obtain ⟨g, rfl⟩ := as_ofFnH hx.2
  obtain ⟨h, rfl⟩ := as_ofFnH hd
  exact built_sgn0 e f g h
theorem built_hd0 (e : Int) (f g : Fin 32 → UInt8) : Tryd.prog.built 25 [(0, .int .i64 e), (1, .agg (bs (List.ofFn f)).toArray), (2, .agg (bs (List.ofFn g)).toArray)] = some (hdc ⟨e, List.ofFn f, List.ofFn g⟩).toArray := by kernel_rfl
theorem built_hd (e : Int) (r p : List UInt8) (hr : r.length = 32) (hp : p.length = 32) : Tryd.prog.built 25 [(0, .int .i64 e), (1, .agg (bs r).toArray), (2, .agg (bs p).toArray)] = some (hdc ⟨e, r, p⟩).toArray := by
  obtain ⟨f, rfl⟩ := as_ofFnH hr
  obtain ⟨g, rfl⟩ := as_ofFnH hp
  exact built_hd0 e f g
theorem built_sgzx : Tryd.prog.built 36 [] = some (sgc sgz).toArray := by kernel_rfl
/-- a part of memory loaded, behind a guard that says yes or without one -/
theorem wpList_loadMH {w : World} {ops : Array Oper} {rest : List Oper} {o : Oper} {a : Act} {Q : Exit → Act → World → Prop} (hw : Region.wanted o (yielded ops a.tmps) = true) (b off : Nat) (ty : TypeId) (x : Operand) (ho : o.op = .load ty x)
    (hx : a.eval x = .pointer (some ⟨b, off, none⟩)) {cs : List Value} {d : TypeDesc} (hc : w.rangeAt b off cs) (hu : Tryd.prog.underlying ty = some d) (hd : d.isRow = true) (hi : (Tryd.prog.info? ty).map (·.size) = some cs.length)
    (h : wpList Tryd.prog ops Q rest (a.put o.dst (.agg cs.toArray)) w) : wpList Tryd.prog ops Q (o :: rest) a w :=
  wpList_step fun K hK => by
    rw [if_pos hw]
    exact wp_load_mid ty x ho b off hx cs d hc hu hd hi (hK _ _ h)
theorem yieldsIf_buildH {ops : Array Oper} {S : World → Prop} {o : Oper} {a : Act} (hw : Region.wanted o (yielded ops a.tmps) = true) (T : TypeId) (parts : Array (Nat × Operand)) (ho : o.op = .build T parts)
    {vs : List Value} {ps : List (Nat × Value)} (hp : parts.toList.map (fun p => (p.1, a.eval p.2)) = ps) (hb : Tryd.prog.built T ps = some vs.toArray) : YieldsIf Tryd.prog ops S o (.agg vs.toArray) a := by
  have hb : Tryd.prog.built T (parts.map fun (i, x) => (i, a.eval x)).toList = some vs.toArray := by rw [Array.toList_map]; rw [← hb, ← hp]
  exact .inl ⟨hw, fun W _ => by
    unfold execOp
    simp only [ho, Sem.run_bind, run_build W T _ vs.toArray hb, Result.andThen_ok]
    rfl⟩
end Go.Proofs.YtoclahcibilbhaaDoor
