/-
  Package wire's rows of all kinds; what is laid and what is read of each structure.
-/
import Derived.Test.YtoclahcibilbhaaGreatWirW
namespace Go.Proofs.YtoclahcibilbhaaGreat
open Go.RowKit
set_option maxRecDepth 100000

noncomputable def intR : Row Int where
  T := 3
  S := 34
  k := 1
  b := 8
  cs := fun m => [.int .i64 m]
  ok := fun _ => True
  x0 := 0
  z := .int .i64 0
  pos := by decide
  klt := by decide
  small := by decide
  len := fun _ _ => rfl
  one := by intro x u hu; simp only [List.mem_singleton] at hu; subst hu; rfl
  und := by kernel_rfl
  info := by kernel_rfl
  zc := rfl
def hd0 : Hd := ⟨0, zero32, zero32⟩
theorem hd0_ok : hd0.ok := ⟨zero32_length, zero32_length⟩
theorem hdc_one (x : Hd) : ∀ v ∈ hdc x, v.oneCell' = true := by
  intro v hv
  rcases List.mem_cons.1 hv with rfl | h
  · rfl
  · rcases List.mem_append.1 h with h | h
    · exact bs_one _ v h
    · exact bs_one _ v h
noncomputable def hdR : Row Hd where
  T := 47
  S := 60
  k := 65
  b := 72
  cs := hdc
  ok := Hd.ok
  x0 := hd0
  z := .agg (hdc hd0).toArray
  pos := by decide
  klt := by decide
  small := by decide
  len := fun _ h => hdc_length h
  one := hdc_one
  und := by kernel_rfl
  info := by kernel_rfl
  zc := by simp [Value.cells, hdc_length hd0_ok]
/-- a session -/
structure Se where
  cl : Int
  sq : Int
  cd : Int
  ep : Int
def sec (x : Se) : List Value := [.int .i64 x.cl] ++ [.int .i64 x.sq] ++ [.int .i64 x.cd] ++ [.int .i64 x.ep]
def se0 : Se := ⟨0, 0, 0, 0⟩
noncomputable def seR : Row Se where
  T := 100
  S := 61
  k := 4
  b := 32
  cs := sec
  ok := fun _ => True
  x0 := se0
  z := .agg (sec se0).toArray
  pos := by decide
  klt := by decide
  small := by decide
  len := fun _ _ => rfl
  one := by intro x u hu; simp only [sec, List.cons_append, List.nil_append, List.mem_cons, List.not_mem_nil, or_false] at hu; rcases hu with rfl | rfl | rfl | rfl <;> rfl
  und := by kernel_rfl
  info := by kernel_rfl
  zc := rfl
/-- a user, with where the versions lie -/
structure Ux where
  nm : ByteArray
  vs : List Vn
  vsa : Option Addr
  vsc : Nat
def uxc (x : Ux) : List Value := [.string x.nm] ++ [.slice x.vsa x.vs.length x.vsc]
def ux0 : Ux := ⟨ByteArray.empty, [], none, 0⟩
noncomputable def usR : Row Ux where
  T := 97
  S := 59
  k := 2
  b := 40
  cs := uxc
  ok := fun _ => True
  x0 := ux0
  z := .agg (uxc ux0).toArray
  pos := by decide
  klt := by decide
  small := by decide
  len := fun _ _ => rfl
  one := by intro x u hu; simp only [uxc, List.cons_append, List.nil_append, List.mem_cons, List.not_mem_nil, or_false] at hu; rcases hu with rfl | rfl <;> rfl
  und := by kernel_rfl
  info := by kernel_rfl
  zc := rfl
/-- a council, an entry, a snapshot, a record, a directory, with where their lists lie -/
structure Co where
  v : List Int
  va : Option Addr
  vc : Nat
  l : List Int
  la : Option Addr
  lc : Nat
structure En where
  ix : Int
  te : Int
  kd : Int
  cm : Cm
  co : Co
structure Sn where
  ix : Int
  te : Int
  co : Co
  da : ByteArray
structure Re where
  kd : Int
  te : Int
  vo : Int
  en : En
  ix : Int
  sn : Sn
  sg : Sg
structure Di where
  ep : Int
  us : List Ux
  usa : Option Addr
  usc : Nat
  hs : List Hd
  hsa : Option Addr
  hsc : Nat
  ss : List Se
  ssa : Option Addr
  ssc : Nat
/-- where nothing lies -/
def Ux.cl (x : Ux) : Ux := ⟨x.nm, x.vs, none, 0⟩
def Co.cl (x : Co) : Co := ⟨x.v, none, 0, x.l, none, 0⟩
def En.cl (x : En) : En := ⟨x.ix, x.te, x.kd, x.cm, x.co.cl⟩
def Sn.cl (x : Sn) : Sn := ⟨x.ix, x.te, x.co.cl, x.da⟩
def Re.cl (x : Re) : Re := ⟨x.kd, x.te, x.vo, x.en.cl, x.ix, x.sn.cl, x.sg⟩
def Di.cl (x : Di) : Di := ⟨x.ep, x.us.map Ux.cl, none, 0, x.hs, none, 0, x.ss, none, 0⟩

theorem loN_stuck {m : Int} {o : Lo} (h : o.1 ≠ 0) : loN m o = o := by unfold loN; rw [if_pos h]
theorem loT_stuck {m : ByteArray} {o : Lo} (h : o.1 ≠ 0) : loT m o = o := by unfold loT; rw [if_pos h]
theorem loD_stuck {m : List UInt8} {o : Lo} (h : o.1 ≠ 0) : loD m o = o := by unfold loD; rw [if_pos h]
theorem loD_len3 {d : List UInt8} (hd : d.length = 32) (o : Lo) : (loD d o).2.length ≤ o.2.length + 32 := by
  unfold loD
  split
  · omega
  · simp; omega
theorem loT_len3 (s : ByteArray) (o : Lo) : (loT s o).2.length ≤ o.2.length + 65541 := by
  unfold loT
  split
  · omega
  · split
    · rename_i h; have := encC_len s.size (by omega); have hs : s.data.toList.length = s.size := rfl; simp only [List.length_append, hs]; omega
    · simp
theorem range_app {w : World} {X off o : Nat} {A C : List Value} (h : w.rangeAt X off (A ++ C)) (hl : A.length = o) : w.rangeAt X off A ∧ w.rangeAt X (off + o) C := by
  subst hl
  refine ⟨fun j v hv => h j v (by rw [List.getElem?_append_left (List.getElem?_eq_some_iff.1 hv).1]; exact hv), fun j v hv => ?_⟩
  have := h (A.length + j) v (by rw [List.getElem?_append_right (by omega)]; simpa using hv)
  rwa [← Nat.add_assoc] at this
theorem splice_after (vs C : List Value) (off j : Nat) (h : off + C.length ≤ vs.length) (hj : off + C.length ≤ j) : (splice vs off C)[j]? = vs[j]? := by
  have h1 : (vs.take off).length = off := by simp; omega
  simp only [splice]
  rw [List.getElem?_append_right (by omega), List.getElem?_append_right (by omega), List.getElem?_drop, h1]
  congr 1; omega
theorem splice_before (vs C : List Value) (off j : Nat) (h : off + C.length ≤ vs.length) (hj : j < off) : (splice vs off C)[j]? = vs[j]? := by
  have h1 : (vs.take off).length = off := by simp; omega
  simp only [splice]
  rw [List.getElem?_append_left (by omega), List.getElem?_take_of_lt hj]
theorem Dc.kpT {A : Nat} {a0 : Option Addr} {n0 c0 : Nat} {l0 : List UInt8} {b r X B : Nat} {t : TypeId} {w w' : World} {l : List UInt8} {vs : List Value} (h : Dc A a0 n0 c0 l0 b r X B t w l vs) (hs : Stp (fun k => k = r ∨ k = X) w.heap.size w w') {T : TypeId} (h1 : t ≠ T) (h2 : (150 : TypeId) ≠ T) : KpT T w w' := by
  obtain ⟨a, n, c, k1, k2⟩ := h.rd
  refine KpT.stp hs (fun g e => ?_)
  rcases e with rfl | rfl
  · exact k1.noT h2
  · exact h.xb.noT h1
theorem loH_stuck {x : Hd} {o : Lo} (h : o.1 ≠ 0) : loH x o = o := by unfold loH; simp only [loN_stuck h, loD_stuck h]
theorem loH_len3 {x : Hd} (hx : x.ok) (o : Lo) : (loH x o).2.length ≤ o.2.length + 69 := by
  have h0 := loN_len3 x.ep (o)
  have h1 := loD_len3 (show x.root.length = 32 from hx.1) (loN x.ep (o))
  have h2 := loD_len3 (show x.prev.length = 32 from hx.2) (loD x.root (loN x.ep (o)))
  unfold loH; omega
theorem loS_stuck {x : Sg} {o : Lo} (h : o.1 ≠ 0) : loS x o = o := by unfold loS; simp only [loH_stuck h, loD_stuck h]
theorem loS_len3 {x : Sg} (hx : x.ok) (o : Lo) : (loS x o).2.length ≤ o.2.length + 101 := by
  have h0 := loH_len3 (x := x.hd) hx.1 (o)
  have h1 := loD_len3 (show x.sign.length = 32 from hx.2) (loH x.hd (o))
  unfold loS; omega
theorem loC_stuck {x : Cm} {o : Lo} (h : o.1 ≠ 0) : loC x o = o := by unfold loC; simp only [loN_stuck h, loT_stuck h, loD_stuck h]
theorem loC_len3 {x : Cm} (hx : x.ok) (o : Lo) : (loC x o).2.length ≤ o.2.length + 131134 := by
  have h0 := loN_len3 x.kd (o)
  have h1 := loN_len3 x.cl (loN x.kd (o))
  have h2 := loN_len3 x.sq (loN x.cl (loN x.kd (o)))
  have h3 := loT_len3 x.us (loN x.sq (loN x.cl (loN x.kd (o))))
  have h4 := loT_len3 x.ky (loT x.us (loN x.sq (loN x.cl (loN x.kd (o)))))
  have h5 := loN_len3 x.ep (loT x.ky (loT x.us (loN x.sq (loN x.cl (loN x.kd (o))))))
  have h6 := loD_len3 (show x.root.length = 32 from hx) (loN x.ep (loT x.ky (loT x.us (loN x.sq (loN x.cl (loN x.kd (o)))))))
  unfold loC; omega
def loV (x : Vn) (o : Lo) : Lo := loT x.key (loN x.kd (loN x.ep (o)))
def Vn.ok (_ : Vn) : Prop := True
def gV (l : List UInt8) : Option (Vn × List UInt8) := (gN l).bind fun p0 => (gN p0.2).bind fun p1 => (gT p1.2).bind fun p2 => some (⟨p0.1, p1.1, p2.1⟩, p2.2)
theorem vc_length {x : Vn} (_h : x.ok) : (vc x).length = 3 := by simp [vc]
theorem loV_stuck {x : Vn} {o : Lo} (h : o.1 ≠ 0) : loV x o = o := by unfold loV; simp only [loN_stuck h, loT_stuck h]
theorem loV_len3 {x : Vn} (_hx : x.ok) (o : Lo) : (loV x o).2.length ≤ o.2.length + 65551 := by
  have h0 := loN_len3 x.ep (o)
  have h1 := loN_len3 x.kd (loN x.ep (o))
  have h2 := loT_len3 x.key (loN x.kd (loN x.ep (o)))
  unfold loV; omega
def loSe (x : Se) (o : Lo) : Lo := loN x.ep (loN x.cd (loN x.sq (loN x.cl (o))))
def Se.ok (_ : Se) : Prop := True
def gSe (l : List UInt8) : Option (Se × List UInt8) := (gN l).bind fun p0 => (gN p0.2).bind fun p1 => (gN p1.2).bind fun p2 => (gN p2.2).bind fun p3 => some (⟨p0.1, p1.1, p2.1, p3.1⟩, p3.2)
theorem sec_length {x : Se} (_h : x.ok) : (sec x).length = 4 := by simp [sec]
theorem loSe_stuck {x : Se} {o : Lo} (h : o.1 ≠ 0) : loSe x o = o := by unfold loSe; simp only [loN_stuck h]
theorem loSe_len3 {x : Se} (_hx : x.ok) (o : Lo) : (loSe x o).2.length ≤ o.2.length + 20 := by
  have h0 := loN_len3 x.cl (o)
  have h1 := loN_len3 x.sq (loN x.cl (o))
  have h2 := loN_len3 x.cd (loN x.sq (loN x.cl (o)))
  have h3 := loN_len3 x.ep (loN x.cd (loN x.sq (loN x.cl (o))))
  unfold loSe; omega
def coc (x : Co) : List Value := [.slice x.va x.v.length x.vc] ++ [.slice x.la x.l.length x.lc]
def loCo (x : Co) (o : Lo) : Lo := loL loN x.l (loL loN x.v (o))
def Co.ok (_ : Co) : Prop := True
def gCo (l : List UInt8) : Option (Co × List UInt8) := (gL gN l).bind fun p0 => (gL gN p0.2).bind fun p1 => some (⟨p0.1, none, 0, p1.1, none, 0⟩, p1.2)
theorem coc_length {x : Co} (_h : x.ok) : (coc x).length = 2 := by simp [coc]
theorem loCo_stuck {x : Co} {o : Lo} (h : o.1 ≠ 0) : loCo x o = o := by unfold loCo; simp only [loL_stuck h]
theorem loCo_len3 {x : Co} (_hx : x.ok) (o : Lo) : (loCo x o).2.length ≤ o.2.length + 40970 := by
  have h0 := loL_len2 (lo1 := loN) (l := x.v) (o := o) (M := 5) (fun y _ o => loN_len3 y o)
  have h1 := loL_len2 (lo1 := loN) (l := x.l) (o := loL loN x.v (o)) (M := 5) (fun y _ o => loN_len3 y o)
  unfold loCo; omega
def Co.rdx (w : World) (b B : Nat) (x : Co) : Prop := RdX intR w b B x.va x.v.length x.vc x.v ∧ RdX intR w b B x.la x.l.length x.lc x.l
def Co.own (w : World) (B : Nat) (x : Co) : Prop := OwnG intR w B (.slice x.va x.v.length x.vc) x.v ∧ OwnG intR w B (.slice x.la x.l.length x.lc) x.l
theorem Co.rdx_stp {w w' : World} {b B : Nat} {x : Co} (h : Co.rdx w b B x) (hs : Stp (· = b) B w w') : Co.rdx w' b B x := ⟨(h.1).stp hs, (h.2).stp hs⟩
theorem Co.own_keep {w w' : World} {B : Nat} {x : Co} (h : Co.own w B x) (k_int : KpT 3 w w') : Co.own w' B x := ⟨(h.1).kpT k_int, (h.2).kpT k_int⟩
theorem Co.own_lower {w : World} {B B' : Nat} {x : Co} (h : Co.own w B' x) (hB : B ≤ B') : Co.own w B x := ⟨(h.1).lower hB, (h.2).lower hB⟩
def enc (x : En) : List Value := [.int .i64 x.ix] ++ [.int .i64 x.te] ++ [.int .i64 x.kd] ++ cmc x.cm ++ coc x.co
def loE (x : En) (o : Lo) : Lo := loCo x.co (loC x.cm (loN x.kd (loN x.te (loN x.ix (o)))))
def En.ok (x : En) : Prop := x.cm.ok
def gE (l : List UInt8) : Option (En × List UInt8) := (gN l).bind fun p0 => (gN p0.2).bind fun p1 => (gN p1.2).bind fun p2 => (gC p2.2).bind fun p3 => (gCo p3.2).bind fun p4 => some (⟨p0.1, p1.1, p2.1, p3.1, p4.1⟩, p4.2)
theorem enc_length {x : En} (h : x.ok) : (enc x).length = 43 := by simp [enc, cmc_length h, coc_length trivial]
theorem loE_stuck {x : En} {o : Lo} (h : o.1 ≠ 0) : loE x o = o := by unfold loE; simp only [loN_stuck h, loC_stuck h, loCo_stuck h]
theorem loE_len3 {x : En} (hx : x.ok) (o : Lo) : (loE x o).2.length ≤ o.2.length + 172119 := by
  have h0 := loN_len3 x.ix (o)
  have h1 := loN_len3 x.te (loN x.ix (o))
  have h2 := loN_len3 x.kd (loN x.te (loN x.ix (o)))
  have h3 := loC_len3 (x := x.cm) hx (loN x.kd (loN x.te (loN x.ix (o))))
  have h4 := loCo_len3 (x := x.co) trivial (loC x.cm (loN x.kd (loN x.te (loN x.ix (o)))))
  unfold loE; omega
def En.rdx (w : World) (b B : Nat) (x : En) : Prop := Co.rdx w b B x.co
def En.own (w : World) (B : Nat) (x : En) : Prop := Co.own w B x.co
theorem En.rdx_stp {w w' : World} {b B : Nat} {x : En} (h : En.rdx w b B x) (hs : Stp (· = b) B w w') : En.rdx w' b B x := Co.rdx_stp (h) hs
theorem En.own_keep {w w' : World} {B : Nat} {x : En} (h : En.own w B x) (k_int : KpT 3 w w') : En.own w' B x := Co.own_keep (h) k_int
theorem En.own_lower {w : World} {B B' : Nat} {x : En} (h : En.own w B' x) (hB : B ≤ B') : En.own w B x := Co.own_lower (h) hB
def snc (x : Sn) : List Value := [.int .i64 x.ix] ++ [.int .i64 x.te] ++ coc x.co ++ [.string x.da]
def loSn (x : Sn) (o : Lo) : Lo := loT x.da (loCo x.co (loN x.te (loN x.ix (o))))
def Sn.ok (_ : Sn) : Prop := True
def gSn (l : List UInt8) : Option (Sn × List UInt8) := (gN l).bind fun p0 => (gN p0.2).bind fun p1 => (gCo p1.2).bind fun p2 => (gT p2.2).bind fun p3 => some (⟨p0.1, p1.1, p2.1, p3.1⟩, p3.2)
theorem snc_length {x : Sn} (_h : x.ok) : (snc x).length = 5 := by simp [snc, coc_length trivial]
theorem loSn_stuck {x : Sn} {o : Lo} (h : o.1 ≠ 0) : loSn x o = o := by unfold loSn; simp only [loN_stuck h, loCo_stuck h, loT_stuck h]
theorem loSn_len3 {x : Sn} (_hx : x.ok) (o : Lo) : (loSn x o).2.length ≤ o.2.length + 106521 := by
  have h0 := loN_len3 x.ix (o)
  have h1 := loN_len3 x.te (loN x.ix (o))
  have h2 := loCo_len3 (x := x.co) trivial (loN x.te (loN x.ix (o)))
  have h3 := loT_len3 x.da (loCo x.co (loN x.te (loN x.ix (o))))
  unfold loSn; omega
def Sn.rdx (w : World) (b B : Nat) (x : Sn) : Prop := Co.rdx w b B x.co
def Sn.own (w : World) (B : Nat) (x : Sn) : Prop := Co.own w B x.co
theorem Sn.rdx_stp {w w' : World} {b B : Nat} {x : Sn} (h : Sn.rdx w b B x) (hs : Stp (· = b) B w w') : Sn.rdx w' b B x := Co.rdx_stp (h) hs
theorem Sn.own_keep {w w' : World} {B : Nat} {x : Sn} (h : Sn.own w B x) (k_int : KpT 3 w w') : Sn.own w' B x := Co.own_keep (h) k_int
theorem Sn.own_lower {w : World} {B B' : Nat} {x : Sn} (h : Sn.own w B' x) (hB : B ≤ B') : Sn.own w B x := Co.own_lower (h) hB
def rec (x : Re) : List Value := [.int .i64 x.kd] ++ [.int .i64 x.te] ++ [.int .i64 x.vo] ++ enc x.en ++ [.int .i64 x.ix] ++ snc x.sn ++ sgc x.sg
def loR (x : Re) (o : Lo) : Lo := loS x.sg (loSn x.sn (loN x.ix (loE x.en (loN x.vo (loN x.te (loN x.kd (o)))))))
def Re.ok (x : Re) : Prop := x.en.ok ∧ x.sg.ok
def gR (l : List UInt8) : Option (Re × List UInt8) := (gN l).bind fun p0 => (gN p0.2).bind fun p1 => (gN p1.2).bind fun p2 => (gE p2.2).bind fun p3 => (gN p3.2).bind fun p4 => (gSn p4.2).bind fun p5 => (gS p5.2).bind fun p6 => some (⟨p0.1, p1.1, p2.1, p3.1, p4.1, p5.1, p6.1⟩, p6.2)
theorem rec_length {x : Re} (h : x.ok) : (rec x).length = 149 := by simp [rec, enc_length h.1, snc_length trivial, sgc_length h.2]
theorem loR_stuck {x : Re} {o : Lo} (h : o.1 ≠ 0) : loR x o = o := by unfold loR; simp only [loN_stuck h, loE_stuck h, loSn_stuck h, loS_stuck h]
theorem loR_len3 {x : Re} (hx : x.ok) (o : Lo) : (loR x o).2.length ≤ o.2.length + 278761 := by
  have h0 := loN_len3 x.kd (o)
  have h1 := loN_len3 x.te (loN x.kd (o))
  have h2 := loN_len3 x.vo (loN x.te (loN x.kd (o)))
  have h3 := loE_len3 (x := x.en) hx.1 (loN x.vo (loN x.te (loN x.kd (o))))
  have h4 := loN_len3 x.ix (loE x.en (loN x.vo (loN x.te (loN x.kd (o)))))
  have h5 := loSn_len3 (x := x.sn) trivial (loN x.ix (loE x.en (loN x.vo (loN x.te (loN x.kd (o))))))
  have h6 := loS_len3 (x := x.sg) hx.2 (loSn x.sn (loN x.ix (loE x.en (loN x.vo (loN x.te (loN x.kd (o)))))))
  unfold loR; omega
def Re.rdx (w : World) (b B : Nat) (x : Re) : Prop := En.rdx w b B x.en ∧ Sn.rdx w b B x.sn
def Re.own (w : World) (B : Nat) (x : Re) : Prop := En.own w B x.en ∧ Sn.own w B x.sn
theorem Re.rdx_stp {w w' : World} {b B : Nat} {x : Re} (h : Re.rdx w b B x) (hs : Stp (· = b) B w w') : Re.rdx w' b B x := ⟨En.rdx_stp (h.1) hs, Sn.rdx_stp (h.2) hs⟩
theorem Re.own_keep {w w' : World} {B : Nat} {x : Re} (h : Re.own w B x) (k_int : KpT 3 w w') : Re.own w' B x := ⟨En.own_keep (h.1) k_int, Sn.own_keep (h.2) k_int⟩
theorem Re.own_lower {w : World} {B B' : Nat} {x : Re} (h : Re.own w B' x) (hB : B ≤ B') : Re.own w B x := ⟨En.own_lower (h.1) hB, Sn.own_lower (h.2) hB⟩
def loU (x : Ux) (o : Lo) : Lo := loL loV x.vs (loT x.nm (o))
def Ux.ok (_ : Ux) : Prop := True
def gU (l : List UInt8) : Option (Ux × List UInt8) := (gT l).bind fun p0 => (gL gV p0.2).bind fun p1 => some (⟨p0.1, p1.1, none, 0⟩, p1.2)
theorem uxc_length {x : Ux} (_h : x.ok) : (uxc x).length = 2 := by simp [uxc]
theorem loU_stuck {x : Ux} {o : Lo} (h : o.1 ≠ 0) : loU x o = o := by unfold loU; simp only [loT_stuck h, loL_stuck h]
theorem loU_len3 {x : Ux} (_hx : x.ok) (o : Lo) : (loU x o).2.length ≤ o.2.length + 268562442 := by
  have h0 := loT_len3 x.nm (o)
  have h1 := loL_len2 (lo1 := loV) (l := x.vs) (o := loT x.nm (o)) (M := 65551) (fun y _ o => loV_len3 trivial o)
  unfold loU; omega
def Ux.rdx (w : World) (b B : Nat) (x : Ux) : Prop := RdX verR w b B x.vsa x.vs.length x.vsc x.vs
def Ux.own (w : World) (B : Nat) (x : Ux) : Prop := OwnG verR w B (.slice x.vsa x.vs.length x.vsc) x.vs
theorem Ux.rdx_stp {w w' : World} {b B : Nat} {x : Ux} (h : Ux.rdx w b B x) (hs : Stp (· = b) B w w') : Ux.rdx w' b B x := (h).stp hs
theorem Ux.own_keep {w w' : World} {B : Nat} {x : Ux} (h : Ux.own w B x) (k_Version : KpT 103 w w') : Ux.own w' B x := (h).kpT k_Version
theorem Ux.own_lower {w : World} {B B' : Nat} {x : Ux} (h : Ux.own w B' x) (hB : B ≤ B') : Ux.own w B x := (h).lower hB
def dic (x : Di) : List Value := [.int .i64 x.ep] ++ [.slice x.usa x.us.length x.usc] ++ [.slice x.hsa x.hs.length x.hsc] ++ [.slice x.ssa x.ss.length x.ssc]
def loDi (x : Di) (o : Lo) : Lo := loL loSe x.ss (loL loH x.hs (loL loU x.us (loN x.ep (o))))
def Di.ok (x : Di) : Prop := ∀ y ∈ x.hs, y.ok
def gDi (l : List UInt8) : Option (Di × List UInt8) := (gN l).bind fun p0 => (gL gU p0.2).bind fun p1 => (gL gH p1.2).bind fun p2 => (gL gSe p2.2).bind fun p3 => some (⟨p0.1, p1.1, none, 0, p2.1, none, 0, p3.1, none, 0⟩, p3.2)
theorem dic_length {x : Di} (_h : x.ok) : (dic x).length = 4 := by simp [dic]
theorem loDi_stuck {x : Di} {o : Lo} (h : o.1 ≠ 0) : loDi x o = o := by unfold loDi; simp only [loN_stuck h, loL_stuck h]
theorem loDi_len3 {x : Di} (hx : x.ok) (o : Lo) : (loDi x o).2.length ≤ o.2.length + 1100032126996 := by
  have h0 := loN_len3 x.ep (o)
  have h1 := loL_len2 (lo1 := loU) (l := x.us) (o := loN x.ep (o)) (M := 268562442) (fun y _ o => loU_len3 trivial o)
  have h2 := loL_len2 (lo1 := loH) (l := x.hs) (o := loL loU x.us (loN x.ep (o))) (M := 69) (fun y hy o => loH_len3 (hx y hy) o)
  have h3 := loL_len2 (lo1 := loSe) (l := x.ss) (o := loL loH x.hs (loL loU x.us (loN x.ep (o)))) (M := 20) (fun y _ o => loSe_len3 trivial o)
  unfold loDi; omega
def Di.rdx (w : World) (b B : Nat) (x : Di) : Prop := RdX usR w b B x.usa x.us.length x.usc x.us ∧ (∀ y ∈ x.us, Ux.rdx w b B y) ∧ RdX hdR w b B x.hsa x.hs.length x.hsc x.hs ∧ RdX seR w b B x.ssa x.ss.length x.ssc x.ss
def Di.own (w : World) (B : Nat) (x : Di) : Prop := OwnG usR w B (.slice x.usa x.us.length x.usc) x.us ∧ (∀ y ∈ x.us, Ux.own w B y) ∧ OwnG hdR w B (.slice x.hsa x.hs.length x.hsc) x.hs ∧ OwnG seR w B (.slice x.ssa x.ss.length x.ssc) x.ss
theorem Di.rdx_stp {w w' : World} {b B : Nat} {x : Di} (h : Di.rdx w b B x) (hs : Stp (· = b) B w w') : Di.rdx w' b B x := ⟨(h.1).stp hs, fun y hy => Ux.rdx_stp (h.2.1 y hy) hs, (h.2.2.1).stp hs, (h.2.2.2).stp hs⟩
theorem Di.own_keep {w w' : World} {B : Nat} {x : Di} (h : Di.own w B x) (k_User : KpT 97 w w') (k_Version : KpT 103 w w') (k_Head : KpT 47 w w') (k_Session : KpT 100 w w') : Di.own w' B x := ⟨(h.1).kpT k_User, fun y hy => Ux.own_keep (h.2.1 y hy) k_Version, (h.2.2.1).kpT k_Head, (h.2.2.2).kpT k_Session⟩
theorem Di.own_lower {w : World} {B B' : Nat} {x : Di} (h : Di.own w B' x) (hB : B ≤ B') : Di.own w B x := ⟨(h.1).lower hB, fun y hy => Ux.own_lower (h.2.1 y hy) hB, (h.2.2.1).lower hB, (h.2.2.2).lower hB⟩

theorem limited_any (w : World) (n : Int) : Calls Tryz.prog 109 #[.int .i64 n] w fun e w' => Abt (if 4096 < n then 2 else 0) e ∧ w = w' := by
  by_cases h : 4096 < n
  · rw [if_pos h]
    go_enter Tryz.func109, Tryz.ntmps109
    go_wp2_with fail
    refine (must_any _ _).mono ?_
    rintro e w' ⟨he, rfl⟩
    obtain ⟨h0, _⟩ | ⟨_, rfl⟩ := he
    · exact absurd h0 (by decide)
    exact ⟨rfl, Abt.no (by decide), rfl⟩
  · rw [if_neg h]
    go_enter Tryz.func109, Tryz.ntmps109
    go_wp2
    go_end0
    exact ⟨Abt.ok, rfl⟩

/-- a length that is laid -/
def LenO (n : Nat) (q : List UInt8) (e : Ending) (C : List UInt8 → Prop) : Prop :=
  (n ≤ 4096 ∧ e = .returned (.int .i64 n) ∧ C (q ++ encC n)) ∨ (4096 < n ∧ Abt 2 e)
set_option maxHeartbeats 1000000 in
theorem length_enc (w : World) (b B : Nat) (q : List UInt8) (hC : CdX w b B q) (n : Nat) (ho : q.length ≤ 70368744177664) :
    Calls Tryz.prog 102 #[.pointer (some ⟨b, 0, none⟩), .int .i64 (n : Int)] w fun e w' => LenO n q e (fun l => CdX w' b B l) ∧ Stp (· = b) B w w' := by
  have hb1 := Blk.new w 3 [.int .i64 (n : Int)]
  have hBw : Below w.heap.size w (w.alloc (.cells ([.int .i64 (n : Int)] : List Value).toArray 3)) := (Below.refl _ w).alloc (Nat.le_refl _) _
  have hC1 : CdX (w.alloc (.cells ([.int .i64 (n : Int)] : List Value).toArray 3)) b B q := by obtain ⟨m, a, c, h⟩ := hC; exact ⟨m, a, c, h.below hBw⟩
  have hB : B ≤ w.heap.size := by obtain ⟨m, a, c, h⟩ := hC; exact h.le
  have hbl : b < B := by obtain ⟨m, a, c, h⟩ := hC; exact h.lt
  have hs1 : Stp (· = b) B w (w.alloc (.cells ([.int .i64 (n : Int)] : List Value).toArray 3)) := Stp.of (hBw.mono hB)
  have hc1 := hb1.cell (j := 0) rfl
  by_cases h : 4096 < (n : Int)
  · go_enter Tryz.func102, Tryz.ntmps102
    go_wp2_with fail
    refine (limited_any _ _).mono ?_
    rintro e w' ⟨he, rfl⟩
    rw [if_pos h] at he
    obtain ⟨h0, _⟩ | ⟨_, rfl⟩ := he
    · exact absurd h0 (by decide)
    exact ⟨rfl, .inr ⟨by omega, Abt.no (by decide)⟩, hs1⟩
  · go_enter Tryz.func102, Tryz.ntmps102
    go_wp2_with fail
    refine (limited_any _ _).mono ?_
    rintro e w' ⟨he, rfl⟩
    rw [if_neg (by omega)] at he
    obtain ⟨_, rfl⟩ | ⟨h0, _⟩ := he
    rotate_left
    · exact absurd rfl h0
    have HS1 := Lib.hid hs1
    go_wp2_with fail
    generalize w.alloc (.cells ([.int .i64 (n : Int)] : List Value).toArray 3) = w1 at *
    have hne : w.heap.size ≠ b := by omega
    refine (number_enc_intK w1 b B q hC1 ⟨w.heap.size, 0, none⟩ n hc1 ho).mono ?_
    rintro e w2 ⟨err, he, hN, hs2, hk2⟩
    rcases hN with ⟨rfl, _, _, hC2⟩ | ⟨_, h3⟩
    rotate_left
    · exact absurd h3 (by omega)
    obtain ⟨_, rfl⟩ | ⟨h0, _⟩ := he
    rotate_left
    · exact absurd rfl h0
    have hb2 : Blk w2 w.heap.size 3 [.int .i64 (n : Int)] := ⟨hk2 _ _ _ _ hb1.at_ hne (by decide)⟩
    have hc2 := hb2.cell (j := 0) rfl
    have HS2 := Lib.hid (HS1.out.trans hs2)
    clear hs2 hk2 hb1 hc1 hC1 hs1
    go_wp2_with fail
    refine (limited_any _ _).mono ?_
    rintro e w' ⟨he, rfl⟩
    rw [if_neg (by omega)] at he
    obtain ⟨_, rfl⟩ | ⟨h0, _⟩ := he
    rotate_left
    · exact absurd rfl h0
    go_wp2_with fail
    go_ret
    exact ⟨.inl ⟨by omega, rfl, by simpa using hC2⟩, HS2.out⟩

/-- a length that is read -/
def LenI (l : List UInt8) (e : Ending) (C : Nat → List UInt8 → Prop) : Prop :=
  (∃ (n : Nat) (l' : List UInt8), gN l = some ((n : Int), l') ∧ n ≤ 4096 ∧ e = .returned (.int .i64 n) ∧ C n l') ∨ ((∃ err, err ≠ 0 ∧ Abt err e) ∧ ∀ p, gN l = some p → 4096 < p.1)
set_option maxHeartbeats 1000000 in
theorem length_dec (A : Nat) (a0 : Option Addr) (n0 c0 : Nat) (l0 : List UInt8) (b r X B : Nat) (t : TypeId) (w : World) (l : List UInt8) (vs : List Value) (hD : Dc A a0 n0 c0 l0 b r X B t w l vs) :
    Calls Tryz.prog 102 #[.pointer (some ⟨b, 0, none⟩), .int .i64 0] w fun e w' => LenI l e (fun _ l' => Dc A a0 n0 c0 l0 b r X B t w' l' vs) ∧ Stp (fun k => k = r) w.heap.size w w' := by
  have hb1 := Blk.new w 3 [.int .i64 0]
  have hBw : Below w.heap.size w (w.alloc (.cells ([.int .i64 0] : List Value).toArray 3)) := (Below.refl _ w).alloc (Nat.le_refl _) _
  have hD1 := hD.keep hBw
  have hz1 : (w.alloc (.cells ([.int .i64 0] : List Value).toArray 3)).heap.size = w.heap.size + 1 := by simp
  have hY := hD1.other hb1 (by decide) (by have := hD.cb.lt; omega) (by obtain ⟨a, n, c, k1, k2⟩ := hD.rd; have := k1.lt; omega)
  have hXne : X ≠ w.heap.size := by have := hD.xb.lt; omega
  have hs1 : Stp (fun k => k = r) w.heap.size w (w.alloc (.cells ([.int .i64 0] : List Value).toArray 3)) := Stp.of hBw
  have hc1 := hb1.cell (j := 0) rfl
  have HD1 := Lib.hid hD1
  have HS1 := Lib.hid hs1
  clear hD1 hs1 hb1 hBw hD
  go_enter Tryz.func102, Tryz.ntmps102
  go_wp2_with fail
  refine (limited_any _ _).mono ?_
  rintro e w' ⟨he, rfl⟩
  rw [if_neg (by decide)] at he
  obtain ⟨_, rfl⟩ | ⟨h0, _⟩ := he
  rotate_left
  · exact absurd rfl h0
  go_wp2_with fail
  generalize hw0 : w.heap.size = z at *
  have HW0 := Lib.hid hw0
  generalize w.alloc (.cells ([.int .i64 0] : List Value).toArray 3) = w1 at *
  refine (number_dec_int A a0 n0 c0 l0 b r z w1.heap.size 3 w1 l _ hY 0 _ rfl).mono ?_
  rintro e w2 ⟨err, he, hN, hs2⟩
  have hsw : Stp (fun k => k = r) z w1 w2 := hs2.weak (by omega) (fun i h1 h2 => h2.elim id (fun e => by omega))
  rcases hN.dec with ⟨rfl, v, l1, hg1, hDY⟩ | ⟨h0, hg1⟩
  rotate_left
  · obtain ⟨h1, _⟩ | ⟨_, rfl⟩ := he
    · exact absurd h1 h0
    exact ⟨rfl, .inr ⟨⟨err, h0, Abt.no h0⟩, fun p hp => by rw [hg1] at hp; cases hp⟩, by rw [HW0.out]; exact HS1.out.trans hsw⟩
  obtain ⟨_, rfl⟩ | ⟨h0, _⟩ := he
  rotate_left
  · exact absurd rfl h0
  have hD2 := HD1.out.back hDY hs2 hXne
  have hc2 := hDY.xb.cell (j := 0) rfl
  have HS2 := Lib.hid (HS1.out.trans hsw)
  have HG := Lib.hid hg1
  have HD2 := Lib.hid hD2
  obtain ⟨m, rfl⟩ : ∃ m : Nat, v = (m : Int) := by
    unfold gN at hg1
    split at hg1
    · exact ⟨_, (Prod.mk.inj (Option.some.inj hg1)).1.symm⟩
    · cases hg1
  clear hN hs2 hsw hDY hD2 hY hg1 hc1 hz1 HD1 HS1
  by_cases h4 : 4096 < (m : Int)
  · go_wp2_with fail
    refine (limited_any _ _).mono ?_
    rintro e w' ⟨he, rfl⟩
    rw [if_pos h4] at he
    obtain ⟨h0, _⟩ | ⟨_, rfl⟩ := he
    · exact absurd h0 (by decide)
    exact ⟨rfl, .inr ⟨⟨2, by decide, Abt.no (by decide)⟩, fun p hp => by rw [HG.out] at hp; cases hp; exact h4⟩, by rw [HW0.out]; exact HS2.out⟩
  · go_wp2_with fail
    refine (limited_any _ _).mono ?_
    rintro e w' ⟨he, rfl⟩
    rw [if_neg (by omega)] at he
    obtain ⟨_, rfl⟩ | ⟨h0, _⟩ := he
    rotate_left
    · exact absurd rfl h0
    go_wp2_with fail
    go_ret
    exact ⟨.inl ⟨m, l1, HG.out, by omega, rfl, HD2.out⟩, by rw [HW0.out]; exact HS2.out⟩
end Go.Proofs.YtoclahcibilbhaaGreat
