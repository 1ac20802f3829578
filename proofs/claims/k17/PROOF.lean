import PyProof.Rows.All
import Wide.All
import OpenK.AllK
import Wide.FinOn
import HandS.ForMost
import HandS.ForExc
import HandS.More
import HandS.Star
import HandS.ClsMeth
import HandS.Wide
import HandS.Gcd
import HandS.ExcInit
import HandS.ExcField
import HandS.IsInst
import HandS.OwnEq
import HandS.FStr
import HandS.WideBits
import KE.IntBitsLaws
import KE.KFmtOwn
import HandS.StrMore
import HandS.Style
import HandS.StrSplit
import HandS.OwnIter
import HandS.IterNext
import HandS.DictComp
import HandS.Deep
import HandS.DeepEq
import HandS.Conv
import HandS.SortOrd
import HandS.Walk
import HandS.TryMany
import HandS.FStrTup
import PyProof.ReprHeadsEmpty
import HandS.TupAny
import HandS.Records
import HandS.HotCalls
import KE.KExcIs
import HandS.ExcIs
import PyProof.FString5
import KE.KItemsList
import HandS.Zip0
import PyProof.CollectIter
import KE.KUnpack
import KE.GoesEnumKw
import HandS.SortKw
import HandS.Lambda
import PyProof.NeKinds
import KE.KDictList
import PyProof.SumAny
import HandS.Set
import HandS.SetFor
import HandS.Strs
import HandS.Finally
import HandS.Zip
import KE.KDictZip
import KE.GoesMore
import KE.GoesRaise
import HandS.TupLen
import HandS.TupMul
import KE.SortKeyHeap
import KE.LtSeq
import KE.SortData
import HandS.EndTab
import KE.KNestM
import HandS.ReplaceLit
import PySem.Challenge.RW_onethrow_k17_chains_and_crowns
set_option linter.all false
namespace ZR
/-- the divisor: the greatest common one, with the sign of b -/
def sg (t b : Int) : Int := if b < 0 then -((Nat.gcd t.natAbs b.natAbs : Nat) : Int) else ((Nat.gcd t.natAbs b.natAbs : Nat) : Int)
theorem num_le (t b : Int) : ((t : Rat) / (b : Rat)).num.natAbs ≤ t.natAbs := by
  rw [← Rat.divInt_eq_div, Rat.num_divInt, Int.natAbs_ediv_of_dvd, Int.natAbs_mul]
  · rcases Int.lt_trichotomy b 0 with h | h | h
    · rw [Int.sign_eq_neg_one_of_neg h]; simp; exact Nat.div_le_self _ _
    · subst h; simp
    · rw [Int.sign_eq_one_of_pos h]; simp; exact Nat.div_le_self _ _
  · exact Int.dvd_mul_of_dvd_right (Int.gcd_dvd_right ..)
theorem den_le (t b : Int) (hb : b ≠ 0) : ((t : Rat) / (b : Rat)).den ≤ b.natAbs := by
  rw [← Rat.divInt_eq_div, Rat.den_divInt, if_neg hb]
  exact Nat.div_le_self _ _
theorem r_sub (p q : Rat) : ((p.num * q.den - q.num * p.den : Int) : Rat) / ((p.den * q.den : Int) : Rat) = p - q := by
  rw [← Rat.divInt_eq_div, Rat.sub_def', ← Rat.divInt_ofNat]; simp
theorem r_mul (p q : Rat) : ((p.num * q.num : Int) : Rat) / ((p.den * q.den : Int) : Rat) = p * q := by
  rw [← Rat.divInt_eq_div, Rat.mul_def', ← Rat.divInt_ofNat]; simp
theorem ci {b : Int} (hb : b ≠ 0) : (b : Rat) ≠ 0 := by simpa using hb
/-! fractions of ints -/
/-! sizes -/
/-- both terms below 2 ^ n -/
structure Bd (n : Nat) (q : Rat) : Prop where
  num : q.num.natAbs < 2 ^ n
  den : q.den < 2 ^ n
def Sz (n : Nat) (i : Int) : Prop := i.natAbs < 2 ^ n
theorem Sz.mono {n m : Nat} {i : Int} (h : Sz n i) (hm : n ≤ m) : Sz m i := Nat.lt_of_lt_of_le h (Nat.pow_le_pow_right (by decide) hm)
theorem Bd.mono {n m : Nat} {q : Rat} (h : Bd n q) (hm : n ≤ m) : Bd m q :=
  ⟨Nat.lt_of_lt_of_le h.num (Nat.pow_le_pow_right (by decide) hm), Nat.lt_of_lt_of_le h.den (Nat.pow_le_pow_right (by decide) hm)⟩
theorem Sz.mul {n m : Nat} {i j : Int} (h : Sz n i) (h' : Sz m j) : Sz (n + m) (i * j) := by
  unfold Sz at *
  rw [Int.natAbs_mul, Nat.pow_add]
  exact Nat.mul_lt_mul_of_lt_of_lt h h'
theorem Sz.sub {n : Nat} {i j : Int} (h : Sz n i) (h' : Sz n j) : Sz (n + 1) (i - j) := by
  unfold Sz at *
  rw [Nat.pow_succ]
  have := Int.natAbs_sub_le i j
  omega
theorem Sz.neg {n : Nat} {i : Int} (h : Sz n i) : Sz n (-i) := by
  unfold Sz at *
  rw [Int.natAbs_neg]
  exact h
theorem Bd.n {n : Nat} {q : Rat} (h : Bd n q) : Sz n q.num := h.num
theorem Bd.d {n : Nat} {q : Rat} (h : Bd n q) : Sz n (q.den : Int) := by
  have := h.den
  show ((q.den : Int)).natAbs < 2 ^ n
  simpa using this
theorem Bd.of {n : Nat} {t b : Int} (h : Sz n t) (h' : Sz n b) (hb : b ≠ 0) : Bd n ((t : Rat) / (b : Rat)) :=
  ⟨Nat.lt_of_le_of_lt (num_le t b) h, Nat.lt_of_le_of_lt (den_le t b hb) h'⟩
theorem den_ne (p : Rat) : (p.den : Int) ≠ 0 := by have := p.den_nz; omega
theorem Bd.sub {n : Nat} {p q : Rat} (h : Bd n p) (h' : Bd n q) : Bd (n + n + 1) (p - q) := by
  rw [← r_sub]
  refine .of ((h.n.mul h'.d).sub (h'.n.mul h.d)) ((h.d.mul h'.d).mono (by omega)) ?_
  exact Int.mul_ne_zero (den_ne p) (den_ne q)
theorem Bd.mul {n : Nat} {p q : Rat} (h : Bd n p) (h' : Bd n q) : Bd (n + n + 1) (p * q) := by
  rw [← r_mul]
  refine .of ((h.n.mul h'.n).mono (by omega)) ((h.d.mul h'.d).mono (by omega)) ?_
  exact Int.mul_ne_zero (den_ne p) (den_ne q)
theorem Bd.neg {n : Nat} {p : Rat} (h : Bd n p) : Bd n (-p) := ⟨by rw [Rat.neg_num, Int.natAbs_neg]; exact h.num, by rw [Rat.neg_den]; exact h.den⟩
/-! Euclid, as the law does it -/
end ZR

/-! shares dealt: the mathematics -/
namespace ZD
/-- a multiple of 1/D from 0 to M -/
structure Gd (D M : Nat) (q : Rat) : Prop where
  mul : ∃ n : Int, q * (D : Rat) = (n : Rat)
  lo : 0 ≤ q
  hi : q ≤ (M : Rat)
section
variable {D M D' M' : Nat} {p q : Rat}
theorem Gd.zero : Gd D M 0 := ⟨⟨0, by grind⟩, by grind, by exact_mod_cast Nat.zero_le M⟩
theorem Gd.sub (h : Gd D M p) (g : Gd D M q) (l : q ≤ p) : Gd D M (p - q) := by
  obtain ⟨n, hn⟩ := h.mul
  obtain ⟨m, hm⟩ := g.mul
  refine ⟨⟨n - m, ?_⟩, ?_, ?_⟩
  · rw [Rat.intCast_sub, ← hn, ← hm]; grind
  · grind
  · have := h.hi; have := g.lo; grind
theorem natR_mono {a b : Nat} (h : a ≤ b) : (a : Rat) ≤ (b : Rat) := Rat.natCast_le_natCast.mpr h
theorem Gd.mono (h : Gd D M q) (l : M ≤ M') : Gd D M' q := ⟨h.mul, h.lo, by have := h.hi; have := natR_mono l; grind⟩
end
section
variable {α : Type}
def sm (L : List (α × Rat)) : Rat := L.foldl (fun s x => s + x.2) 0
/-- what goes together -/
def deal : List (α × Rat) → List (α × Rat) → List (α × α × Rat)
  | (a, p) :: xs, (b, q) :: ys =>
    if p < q then (a, b, p) :: deal xs ((b, q - p) :: ys)
    else if p = q then (a, b, p) :: deal xs ys
    else (a, b, q) :: deal ((a, p - q) :: xs) ys
  | [], _ => []
  | _ :: _, [] => []
termination_by xs ys => xs.length + ys.length
end
end ZD

namespace ZD
theorem Gd.form {D M : Nat} {q : Rat} (h : Gd D M q) (hD : 0 < D) : ∃ z : Int, q = (z : Rat) / (((D : Nat) : Int) : Rat) ∧ 0 ≤ z ∧ z ≤ ((M * D : Nat) : Int) := by
  obtain ⟨z, hz⟩ := h.mul
  have hDi : ((D : Nat) : Int) ≠ 0 := by omega
  have hDr : (D : Rat) ≠ 0 := by
    have := ZR.ci hDi
    simpa using this
  have D0 : (0 : Rat) ≤ (D : Rat) := by have := natR_mono (Nat.zero_le D); exact_mod_cast this
  refine ⟨z, ?_, ?_, ?_⟩
  · rw [← hz]
    have : (((D : Nat) : Int) : Rat) = (D : Rat) := rfl
    rw [this]
    grind
  · have h1 : (0 : Rat) ≤ (z : Rat) := by
      rw [← hz]
      exact Rat.mul_nonneg h.lo D0
    exact_mod_cast h1
  · have h1 : (z : Rat) ≤ ((M * D : Nat) : Rat) := by
      rw [← hz, Rat.natCast_mul]
      exact Rat.mul_le_mul_of_nonneg_right h.hi D0
    exact_mod_cast h1
theorem Gd.den {D M : Nat} {q : Rat} (h : Gd D M q) (hD : 0 < D) : q.den ≤ D := by
  obtain ⟨z, e, _⟩ := h.form hD
  rw [e]
  have := ZR.den_le z ((D : Nat) : Int) (by omega)
  simpa using this
theorem Gd.num {D M : Nat} {q : Rat} (h : Gd D M q) (hD : 0 < D) : q.num.natAbs ≤ M * D := by
  obtain ⟨z, e, z0, z1⟩ := h.form hD
  rw [e]
  have := ZR.num_le z ((D : Nat) : Int)
  omega
end ZD

set_option Elab.async false
set_option linter.all false
set_option maxRecDepth 100000
set_option maxHeartbeats 4000000
/-! general rules of our own -/
namespace Z
open PySem PySem.Spec PyProof.Rows L2

/-- nothing is let out -/
abbrev EN : L2.St → XK := fun _ _ _ _ => False
theorem cxN {P : Program} {w : World} {outer : List Env} {H : Hp} {s s' : Shared} {e : Value} (h : L2.CX P w outer H s (fun _ _ _ => False) e s') : False := by
  obtain ⟨_, _, _, _, _, _, _, _, _, _, _, _, z⟩ := h
  exact z
theorem passN {X : Cx} : ∀ σ, PassesAt (L2.CX X.prog X.w) X σ (EN σ) := fun σ pins H s e s' _ h => by
  obtain ⟨_, _, _, _, _, _, _, _, _, _, _, _, z⟩ := h
  exact z.elim

section
variable {X : Cx} {CX : CXT} {k : Nat} {f C g : Addr} {sp : Sp} {E : L2.St → XK} {x m : Str} {p pos apos : Pos} {e o : Expr} {es : List Expr} {ta te : TE} {t : TA}

theorem runR {pins : List (Addr × Obj)} {σ : L2.St} {H : Hp} {s : Shared} {Q : VK} {us : List Value} {vs : List V}
    (F : FnR X.prog X.w X.K X.mg X.base CX k f sp) (hr : Room k X.A) (hx : ∀ σ, PassesAt CX X σ (E σ)) (I : Inv X pins σ H s)
    (r : Vals vs us) (h : sp vs H Q (E σ)) : wpAny (model X.prog X.w) X.A (call (.ref f) us) (EP X pins σ Q) X.xe s := by
  refine wpAny_call (codeAny_mono (F X.A X.stack s H us vs Q (E σ) hr I.env0 r h) fun q s' hq => ?_)
  rcases q with e | fl
  · exact hx σ pins H s e s' I hq
  · rcases fl with _ | _ | _ | u
    · exact False.elim hq
    · exact False.elim hq
    · exact False.elim hq
    · exact I.after hq

/-- f(e, ..) -/
theorem z_call (F : FnR X.prog X.w X.K X.mg X.base CX k f sp) (hr : Room k X.A) (hm : X.mg x = some (.ref f)) (hk : PySem.W.keepIn X.K (.ref f) = true)
    (hx : ∀ σ, PassesAt CX X σ (E σ)) (ha : PA X (e :: es) t) (hg : Gl X x := by rfl) (hdb : (x == ("__debug__" : Str)) = false := by decide)
    (he : starEach (e :: es) X.env = (false, eval e X.env) :: starEach es X.env := by rfl)
    (hpl : (backTo pos (starEach es X.env)).any (·.1) = false := by rfl) : PE X (.Call (.Name x p) (e :: es) [] pos) (tCallS sp E t) := by
  constructor
  intro pins s σ H Q I h
  apply wpAny_Call_Name_kw
  apply ld_glob I hg hm _ hdb
  apply PySem.W.callWith_K (h₀ := X.base) I.ok.mod.kin hk _ he hpl
  refine thn (ha.run pos pins s σ H _ I h) fun us s1 hh => ?_
  obtain ⟨vs, H1, I1, r, q⟩ := hh
  exact ⟨I1.kIn, runR F hr hx I1 r q⟩
/-- o.m(e, ..) -/
def tMethS (C : Addr) (m : Str) (sp : Sp) (E : L2.St → XK) (ta : TE) (t : TA) : TE := fun σ H Q => ta σ H fun x H1 =>
  ∃ a dx fs, x = .ref a ∧ H1 a = some (.ins C dx fs) ∧ fs.lookup m = none ∧ t σ H1 fun vs H2 => sp (x :: vs) H2 Q (E σ)
theorem z_meth {pl : Sem Bool} (he : PE X o ta) (c : Cls X.K C) (hm : Meth X.K C m f) (F : FnR X.prog X.w X.K X.mg X.base CX k f sp) (hr : Room k X.A)
    (hx : ∀ σ, PassesAt CX X σ (E σ)) (ha : PA X (e :: es) t)
    (hst : starEach (e :: es) X.env = (false, eval e X.env) :: starEach es X.env := by rfl)
    (hpl : (backTo pos (starEach es X.env)).any (·.1) = false := by rfl)
    (ht : eval (.Call (.Attribute o m apos) (e :: es) [] pos) X.env = (do
      let ov ← eval o X.env
      standAt apos.atName
      let (f, first) ← holding [ov] (getMethod ov m pl)
      callWith pos f first (backTo pos (starEach (e :: es) X.env)) (backToKw pos (keywordEach [] X.env))) := by rfl) :
    PE X (.Call (.Attribute o m apos) (e :: es) [] pos) (tMethS C m sp E ta t) := by
  constructor
  intro pins s σ H Q I h
  refine PySem.W.methodCall_KW (pl := pl) (thn (he.run pins s σ H _ I h) fun u s1 hh => ?_) ht
  obtain ⟨x, H1, I1, rx, a, dx, fs, ex, ea, l, q⟩ := hh
  subst ex
  obtain rfl : u = Value.ref a := rx
  apply getmeth_ok I1 ea c hm l
  apply PySem.W.callWith_K (first := [.ref a]) (h₀ := X.base) I.ok.mod.kin hm.kp _ hst hpl
  refine thn (ha.run pos pins s1 σ H1 _ I1 q) fun us s2 hh => ?_
  obtain ⟨vs, H2, I2, r, q2⟩ := hh
  exact ⟨I2.kIn, runR (us := .ref a :: us) (vs := .ref a :: vs) F hr hx I2 (.cons rfl r) q2⟩
theorem z_meth0 {pl : Sem Bool} (he : PE X o ta) (c : Cls X.K C) (hm : Meth X.K C m f) (F : FnR X.prog X.w X.K X.mg X.base CX k f sp) (hr : Room k X.A)
    (hx : ∀ σ, PassesAt CX X σ (E σ))
    (ht : eval (.Call (.Attribute o m apos) [] [] pos) X.env = (do
      let ov ← eval o X.env
      standAt apos.atName
      let (f, first) ← holding [ov] (getMethod ov m pl)
      callWith pos f first (backTo pos (starEach [] X.env)) (backToKw pos (keywordEach [] X.env))) := by rfl) :
    PE X (.Call (.Attribute o m apos) [] [] pos) (tMethS C m sp E ta tNil) := by
  constructor
  intro pins s σ H Q I h
  refine PySem.W.methodCall_KW (pl := pl) (thn (he.run pins s σ H _ I h) fun u s1 hh => ?_) ht
  obtain ⟨x, H1, I1, rx, a, dx, fs, ex, ea, l, q⟩ := hh
  subst ex
  obtain rfl : u = Value.ref a := rx
  apply getmeth_ok I1 ea c hm l
  exact PySem.W.callWith_K0 (first := [.ref a]) I1.kIn hm.kp (runR (us := [.ref a]) (vs := [.ref a]) F hr hx I1 (.cons rfl .nil) q)

/-- C(e, ..) -/
def tMakeS (C : Addr) (sp : Sp) (E : L2.St → XK) (t : TA) : TE := fun σ H Q => t σ H fun vs H1 => ∀ x dx, H1 x = Option.none → H1 dx = Option.none → dx ≠ x →
  sp (V.ref x :: vs) (upd (upd H1 dx (.own x)) x (.ins C dx [])) (fun v H2 => v = .non ∧ Q (.ref x) H2)
    (fun cls d H2 => E σ cls d H2)
theorem runMake {pins : List (Addr × Obj)} {σ : L2.St} {H : Hp} {s : Shared} {Q : VK} {us : List Value} {vs : List V} (M : Mk X.K C f)
    (F : FnR X.prog X.w X.K X.mg X.base CX k f sp) (hr : Room (k + 1) X.A) (hx : ∀ σ, PassesAt CX X σ (E σ)) (I : Inv X pins σ H s) (r : Vals vs us)
    (h : ∀ x dx, H x = Option.none → H dx = Option.none → dx ≠ x →
      sp (V.ref x :: vs) (upd (upd H dx (.own x)) x (.ins C dx [])) (fun v H2 => v = .non ∧ Q (.ref x) H2) (E σ)) :
    wpAny (model X.prog X.w) X.A (call (.ref C) us) (EP X pins σ Q) X.xe s := by
  have hq := h (s.heap.objs.size + 1) s.heap.objs.size (I.hok.fresh (Nat.le_succ _)) (I.hok.fresh (Nat.le_refl _)) (Nat.ne_of_lt (Nat.lt_succ_self _))
  have I2 := Inv.made (C := C) I
  have r2 : Vals (V.ref (s.heap.objs.size + 1) :: vs) (Value.ref (s.heap.objs.size + 1) :: us) := .cons rfl r
  refine wpAny_call (make_map (f := f) I.kIn M.makes M.init (beq_iff_eq.mp M.fn) (codeAny_mono (F _ X.stack _ _ _ _ _ (E σ)
    (hr.make C us []) (I2.env0.make C us []) r2 hq) fun q s' hq' => ?_))
  rcases q with e | fl
  · exact hx σ pins _ _ e s' I2 hq'
  · rcases fl with _ | _ | _ | u
    · exact False.elim hq'
    · exact False.elim hq'
    · exact False.elim hq'
    · obtain ⟨v, H', I3, rv, ev, q3⟩ := I2.after hq'
      subst ev
      exact ⟨rv, ⟨V.ref (s.heap.objs.size + 1), H', I3, rfl, q3⟩⟩
theorem z_make (M : Mk X.K C f) (F : FnR X.prog X.w X.K X.mg X.base CX k f sp) (hr : Room (k + 1) X.A) (hm : X.mg x = some (.ref C))
    (hx : ∀ σ, PassesAt CX X σ (E σ)) (ha : PA X (e :: es) t) (hg : Gl X x := by rfl) (hdb : (x == ("__debug__" : Str)) = false := by decide)
    (he : starEach (e :: es) X.env = (false, eval e X.env) :: starEach es X.env := by rfl)
    (hpl : (backTo pos (starEach es X.env)).any (·.1) = false := by rfl) : PE X (.Call (.Name x p) (e :: es) [] pos) (tMakeS C sp E t) := by
  constructor
  intro pins s σ H Q I h
  apply wpAny_Call_Name_kw
  apply ld_glob I hg hm _ hdb
  apply PySem.W.callWith_K (h₀ := X.base) I.ok.mod.kin M.kp _ he hpl
  refine thn (ha.run pos pins s σ H _ I h) fun us s1 hh => ?_
  obtain ⟨vs, H1, I1, r, q⟩ := hh
  exact ⟨I1.kIn, runMake M F hr hx I1 r q⟩
end
end Z

set_option Elab.async false
set_option linter.all false
set_option maxRecDepth 100000
set_option maxHeartbeats 4000000
namespace Z
open PySem PySem.Spec PyProof.Rows L2

/-- a special method of an own class -/
structure Spc (K : PySem.W.Frag) (C : Addr) (n : Str) (f : Addr) : Prop where
  at_ : PySem.W.findIn K (.ref C) n = some (some (.ref f))
  fn : PySem.W.isFn K (.ref f) = true

section
variable {X : Cx} {k : Nat} {f C g : Addr} {sp : Sp}

theorem instAt {pins : List (Addr × Obj)} {σ : L2.St} {H : Hp} {s : Shared} {a dx : Addr} {fs : List (Str × V)} (I : Inv X pins σ H s)
    (e : H a = some (.ins C dx fs)) : ∃ ox od, PySem.W.InstAt s.heap a ox C od := by
  obtain ⟨mA, O, _⟩ := ins_get I.hok e
  obtain ⟨od, J, _⟩ := O.look
  exact ⟨_, _, J⟩
theorem cmpBack {A : Around} {E : Value → Shared → Prop} {pins : List (Addr × Obj)} {σ : L2.St} {Q : VK} {f : Addr} {us : List Value} {s : Shared}
    (h : wpAny (model X.prog X.w) A (call (.ref f) us) (EP X pins σ Q) E s) :
    wpAny (model X.prog X.w) A (call (.ref f) us) (PySem.W.CmpBack (EP X pins σ Q)) E s := by
  refine wpAny_mono h (fun v s' hv => ?_) fun _ _ z => z
  have hne : v ≠ .notImplemented := by
    rintro rfl
    obtain ⟨x, H', _, r, _⟩ := hv
    cases x
    case int => obtain ⟨t, q⟩ := r; cases q
    case str => obtain ⟨t, q⟩ := r; cases q
    case byt => obtain ⟨t, q⟩ := r; cases q
    case flt => obtain ⟨t, q⟩ := r; cases q
    all_goals cases r
  cases v
  case notImplemented => exact absurd rfl hne
  all_goals exact hv

/-- a op b, both instances of the class at C that has the operator's def -/
def rOwn (C : Addr) (sp : Sp) : R2 := fun x y H Q => ∃ a b dx dy fs gs, x = .ref a ∧ y = .ref b ∧ H a = some (.ins C dx fs) ∧ H b = some (.ins C dy gs) ∧
  sp [x, y] H Q (fun _ _ _ => False)
/-- -a -/
def rOwn1 (C : Addr) (sp : Sp) : V → Hp → VK → Prop := fun x H Q => ∃ a dx fs, x = .ref a ∧ H a = some (.ins C dx fs) ∧ sp [x] H Q (fun _ _ _ => False)
/-! ### == and != by an own __eq__ -/
/-- the class of a value, as the other side of == -/
inductive Side (K : PySem.W.Frag) (C : Addr) (H : Hp) : V → Value → Prop where
  | ins {b dy : Addr} {gs : List (Str × V)} (e : H b = some (.ins C dy gs)) : Side K C H (.ref b) (.ref C)
  | lst {b : Addr} {xs : List V} (e : H b = some (.lst xs)) : Side K C H (.ref b) (.type "list")
  | int (i : Int) : Side K C H (.int i) (.type "int")
  | str (z : Str) : Side K C H (.str z) (.type "str")
theorem Side.look {K : PySem.W.Frag} {pins : List (Addr × Obj)} {σ : L2.St} {H : Hp} {s : Shared} {y : V} {u t : Value} (S : Side X.K C H y t) (I : Inv X pins σ H s) (r : RelV y u) :
    PySem.W.Looks (model X.prog X.w) s.heap (typeOf u) t := by
  cases S with
  | @ins b dy gs e =>
    obtain rfl : u = Value.ref b := r
    obtain ⟨ox, od, J⟩ := instAt I e
    exact J.type
  | @lst b xs e =>
    obtain rfl : u = Value.ref b := r
    obtain ⟨_, its, n, _, h1⟩ := (show ObjOk X.prog X.w H s.heap b (.lst xs) from I.hok b _ e)
    intro A Q E s' k q
    exact wpAny_typeOf_ref (k _ _ h1) q
  | int i =>
    obtain ⟨t, rfl⟩ := r
    exact PySem.W.Looks.of_pure rfl
  | str z =>
    obtain ⟨t, rfl⟩ := r
    exact PySem.W.Looks.of_pure rfl

def rOwnC (K : PySem.W.Frag) (C : Addr) (sp : Sp) : R2 := fun x y H Q => ∃ a dx fs t, x = .ref a ∧ H a = some (.ins C dx fs) ∧ Side K C H y t ∧ PySem.W.notFirst K C t = true ∧
  sp [x, y] H Q (fun _ _ _ => False)
theorem op_eqOwn (F : FnR X.prog X.w X.K X.mg X.base (L2.CX X.prog X.w) k f sp) (hr : Room k X.A) (S : Spc X.K C "__eq__" f) :
    OpR X (compareOp .Eq) (rOwnC X.K C sp) := by
  intro pins s σ H x y v u Q I rx ry h
  obtain ⟨a, dx, fs, t, rfl, ea, sd, hn, h⟩ := h
  obtain rfl : v = Value.ref a := rx
  obtain ⟨ox, od, Ja⟩ := instAt I ea
  obtain ⟨m, fr⟩ := I.fr
  have hu := hr.units0
  apply PySem.W.cmp_K (op := .Eq) hu fr I.ok.mod.kin Ja (sd.look (K := X.K) I ry) hn S.at_ S.fn
  exact cmpBack (runR (us := [.ref a, u]) (vs := [.ref a, y]) (E := EN) F hr passN I (.cons rfl (.cons ry .nil)) h)

/-- what the class says of != : it is left to object -/
structure NeC (K : PySem.W.Frag) (C : Addr) : Prop where
  at_ : PySem.W.findIn K (.ref C) "__ne__" = some (some (.builtin "object.__ne__"))
  ob : PySem.W.subIn K (.ref C) (.type "object") = some true
end
end Z

set_option Elab.async false
set_option linter.all false
set_option maxRecDepth 100000
set_option maxHeartbeats 4000000
namespace Z
open PySem PySem.Spec PyProof.Rows L2
section
variable {prog : Program} {w : World} {A : Around} {E : Value → Shared → Prop} {s : Shared}
end
section
variable {X : Cx} {k : Nat} {f C : Addr} {sp : Sp}
/-- bool(x), x an instance with its own __bool__ -/
def rBoolOwn (C : Addr) (sp : Sp) : List V → Hp → VK → Prop := fun xs H Q => ∃ a dx fs, xs = [.ref a] ∧ H a = some (.ins C dx fs) ∧
  sp [.ref a] H (fun v H' => ∃ r, v = .bl r ∧ Q (.bl r) H') (fun _ _ _ => False)
end
end Z

set_option Elab.async false
set_option linter.all false
set_option maxRecDepth 100000
set_option maxHeartbeats 4000000
/-! readings, one step at a time -/
namespace Z
open PySem PySem.Spec PyProof.Rows L2
section
variable {X : Cx} {K : PySem.W.Frag} {σ σ' : L2.St} {H H1 : Hp} {D : Ends} {t u : TS} {te ta tb tc : TE} {tt tu : TT} {tr : TA} {g : TG} {Q : VK} {QB : Bool → Hp → Prop} {QA : List V → Hp → Prop} {QS : L2.St → Hp → Prop} {v x y : V} {i j : Nat} {A B : Prop}

theorem i_seq (h : t { D with nx := u D } σ H) : tSeq t u D σ H := h
theorem i_next (h : D.nx σ H) : tNext D σ H := h
theorem i_asg (h : te σ H (fun x H1 => g x σ H1 D.nx)) : tAsg te g D σ H := h
theorem i_gname (e : σ.set i (some v) = σ') (h : QS σ' H) : gName i v σ H QS := by
  subst e
  exact h
theorem i_ret (h : te σ H D.rt) : tRet te D σ H := h
theorem i_drop (h : te σ H (fun _ H1 => D.nx σ H1)) : tDrop te D σ H := h
theorem i_ifs (h : tt σ H (fun b H1 => if b = true then t D σ H1 else u D σ H1)) : tIfS tt t u D σ H := h
theorem i_test (h : te σ H (fun x H1 => ∃ k, x = .bl k ∧ QB k H1)) : tTest te σ H QB := h
theorem i_B (h : te σ H (fun x H1 => ∃ k, x = .bl k ∧ QB k H1)) : tB te σ H QB := h
theorem i_bl' {b : Bool} {P : Bool → Prop} (h : P b) : ∃ k, V.bl b = .bl k ∧ P k := ⟨b, rfl, h⟩
theorem i_and (h : tt σ H (fun c H1 => if c = true then tu σ H1 QB else QB false H1)) : tAnd tt tu σ H QB := h
theorem i_or (h : tt σ H (fun c H1 => if c = true then QB true H1 else tu σ H1 QB)) : tOr tt tu σ H QB := h
theorem i_not (h : tt σ H (fun c H1 => QB (!c) H1)) : tNot tt σ H QB := h
theorem i_andV (h : ta σ H (fun x H1 => ∃ c, x = .bl c ∧ if c = true then tb σ H1 Q else Q (.bl false) H1)) : tAndV ta tb σ H Q := h
theorem i_orV (h : ta σ H (fun x H1 => ∃ c, x = .bl c ∧ if c = true then Q (.bl true) H1 else tb σ H1 Q)) : tOrV ta tb σ H Q := h
theorem i_dec {p : Prop} [Decidable p] (h1 : p → A) (h2 : ¬p → B) : if decide p = true then A else B := by
  by_cases hp : p
  · rw [if_pos (decide_eq_true hp)]
    exact h1 hp
  · rw [if_neg (by simpa using hp)]
    exact h2 hp
theorem i_ndec {p : Prop} [Decidable p] (h1 : ¬p → A) (h2 : p → B) : if (!decide p) = true then A else B := by
  by_cases hp : p
  · rw [if_neg (by simpa using hp)]
    exact h2 hp
  · rw [if_pos (by simpa using hp)]
    exact h1 hp
theorem i_bool {b : Bool} (h1 : b = true → A) (h2 : b = false → B) : if b = true then A else B := by
  cases b
  · exact h2 rfl
  · exact h1 rfl
theorem i_tt (h : A) : if true = true then A else B := h
theorem i_ff (h : B) : if false = true then A else B := h
theorem i_nt (h : B) : if (!true) = true then A else B := h
theorem i_nf (h : A) : if (!false) = true then A else B := h
/-! values -/
theorem i_var (e : σ[i]? = some (some v)) (h : Q v H) : tVar i σ H Q := ⟨v, e, h⟩
theorem i_c (h : Q v H) : tC v σ H Q := h
theorem i_op {r : R2} (h : ta σ H (fun x H1 => tb σ H1 (fun y H2 => r x y H2 Q))) : tOp r ta tb σ H Q := h
theorem i_un {r : V → Hp → VK → Prop} (h : ta σ H (fun x H1 => r x H1 Q)) : tUn r ta σ H Q := h
theorem i_cons (h : te σ H (fun x H1 => tr σ H1 (fun xs H2 => QA (x :: xs) H2))) : tCons te tr σ H QA := h
theorem i_nil (h : QA [] H) : tNil σ H QA := h
theorem i_cb {r : List V → Hp → VK → Prop} (h : tr σ H (fun vs H1 => r vs H1 Q)) : tCB r tr σ H Q := h
theorem i_call {sp : Sp} {E : L2.St → XK} (h : tr σ H (fun vs H1 => sp vs H1 Q (E σ))) : tCallS sp E tr σ H Q := h
theorem sz_small {n : Nat} (h : n ≤ 100000) : n ≤ sizeLine := Nat.le_trans h (by decide)
/-- what comes behind the items of a display -/
def rLst (xs : List V) (H1 : Hp) (Q : VK) : Prop := xs.length ≤ sizeLine ∧ ∀ p, H1 p = none → Q (.ref p) (upd H1 p (.lst xs))
def rTup (xs : List V) (H1 : Hp) (Q : VK) : Prop := xs.length ≤ sizeLine ∧ ∀ p, H1 p = none → Q (.ref p) (upd H1 p (.tup xs))
theorem i_lst0 (h : tr σ H (fun xs H1 => rLst xs H1 Q)) : tLst tr σ H Q := h
theorem i_tup0 (h : tr σ H (fun xs H1 => rTup xs H1 Q)) : tTup tr σ H Q := h
theorem i_lst1 {xs : List V} (hl : xs.length ≤ 100000) (h : ∀ p H2, H p = none → Same H H2 → H2 p = some (.lst xs) → (∀ b, b ≠ p → H2 b = H b) → Q (.ref p) H2) : rLst xs H Q :=
  ⟨sz_small hl, fun p hp => h p _ hp (fun b o e => by rw [upd_ne (ne_of_none e hp)]; exact e) upd_same (fun b hb => upd_ne hb)⟩
theorem i_tup1 {xs : List V} (hl : xs.length ≤ 100000) (h : ∀ p H2, H p = none → Same H H2 → H2 p = some (.tup xs) → (∀ b, b ≠ p → H2 b = H b) → Q (.ref p) H2) : rTup xs H Q :=
  ⟨sz_small hl, fun p hp => h p _ hp (fun b o e => by rw [upd_ne (ne_of_none e hp)]; exact e) upd_same (fun b hb => upd_ne hb)⟩
/-! attributes -/
def rFld (K : PySem.W.Frag) (f : Str) (x : V) (H1 : Hp) (Q : VK) : Prop := ∃ a C dx fs v, x = .ref a ∧ H1 a = some (.ins C dx fs) ∧ Cls K C ∧ NoAttr K C f ∧ fs.lookup f = some v ∧ Q v H1
theorem i_fld0 {f : Str} (h : ta σ H (fun x H1 => rFld K f x H1 Q)) : tFld K ta f σ H Q := h
theorem i_fld1 {f : Str} {a C dx : Addr} {fs : List (Str × V)} (e : H a = some (.ins C dx fs)) (c : Cls K C) (n : NoAttr K C f) (l : fs.lookup f = some v) (h : Q v H) : rFld K f (.ref a) H Q := ⟨a, C, dx, fs, v, rfl, e, c, n, l, h⟩
def rPut (K : PySem.W.Frag) (f : Str) (y x : V) (H2 : Hp) (Q : Hp → Prop) : Prop := ∃ a C dx fs, x = .ref a ∧ H2 a = some (.ins C dx fs) ∧ Cls K C ∧ NoAttr K C f ∧ fs.length < 1000 ∧ Q (upd H2 a (.ins C dx (putF f y fs)))
theorem i_put0 {f : Str} {tv : TE} (h : tv σ H (fun y H1 => ta σ H1 (fun x H2 => rPut K f y x H2 (fun H3 => D.nx σ H3)))) : sFld K ta tv f D σ H := h
theorem i_put1 {f : Str} {a C dx : Addr} {fs gs : List (Str × V)} {P : Hp → Prop} (e : H a = some (.ins C dx fs)) (c : Cls K C) (n : NoAttr K C f) (l : fs.length < 100) (w : putF f y fs = gs)
    (h : ∀ H2, H2 a = some (.ins C dx gs) → (∀ b, b ≠ a → H2 b = H b) → P H2) : rPut K f y (.ref a) H P :=
  ⟨a, C, dx, fs, rfl, e, c, n, by omega, by rw [w]; exact h _ upd_same (fun b hb => upd_ne hb)⟩
/-! methods, new instances -/
def rMeth (C : Addr) (m : Str) (x : V) (H1 : Hp) (P : Prop) : Prop := ∃ a dx fs, x = .ref a ∧ H1 a = some (.ins C dx fs) ∧ fs.lookup m = none ∧ P
theorem i_meth {C : Addr} {m : Str} {sp : Sp} {E : L2.St → XK} (h : ta σ H (fun x H1 => rMeth C m x H1 (tr σ H1 (fun vs H2 => sp (x :: vs) H2 Q (E σ))))) : tMethS C m sp E ta tr σ H Q := h
theorem i_meth1 {C a dx : Addr} {m : Str} {fs : List (Str × V)} {P : Prop} (e : H a = some (.ins C dx fs)) (l : fs.lookup m = none) (h : P) : rMeth C m (.ref a) H P := ⟨a, dx, fs, rfl, e, l, h⟩
def rNew (C : Addr) (sp : Sp) (vs : List V) (H1 : Hp) (Q : VK) (E : XK) : Prop := ∀ x dx, H1 x = Option.none → H1 dx = Option.none → dx ≠ x →
  sp (V.ref x :: vs) (upd (upd H1 dx (.own x)) x (.ins C dx [])) (fun v H2 => v = .non ∧ Q (.ref x) H2) (fun cls d H2 => E cls d H2)
theorem i_make {C : Addr} {sp : Sp} {E : L2.St → XK} (h : tr σ H (fun vs H1 => rNew C sp vs H1 Q (E σ))) : tMakeS C sp E tr σ H Q := h
/-! ints -/
theorem i_rI0 {f : Int → Int → V} {a b : Int} (h : Q (f a b) H) : rI0 f (.int a) (.int b) H Q := ⟨a, b, rfl, rfl, h⟩
theorem i_rI {C : Int → Int → Prop} {f : Int → Int → V} {a b : Int} (c : C a b) (h : Q (f a b) H) : rI C f (.int a) (.int b) H Q := ⟨a, b, rfl, rfl, c, h⟩
theorem i_rU {f : Int → V} {a : Int} (h : Q (f a) H) : rU f (.int a) H Q := ⟨a, rfl, h⟩
theorem i_eqI {a b : Int} (h : Q (.bl (decide (a = b))) H) : rEq (.int a) (.int b) H Q := ⟨rfl, by
  have e : decide (V.int a = V.int b) = decide (a = b) := by by_cases h : a = b <;> simp [h]
  rw [e]
  exact h⟩
theorem i_neI {a b : Int} (h : Q (.bl (!decide (a = b))) H) : rNe (.int a) (.int b) H Q := ⟨rfl, by
  have e : decide (V.int a = V.int b) = decide (a = b) := by by_cases h : a = b <;> simp [h]
  rw [e]
  exact h⟩
theorem i_neB {a b : Bool} (h : Q (.bl (a != b)) H) : rNe (.bl a) (.bl b) H Q := ⟨rfl, by
  have e : (!decide (V.bl a = V.bl b)) = (a != b) := by cases a <;> cases b <;> rfl
  rw [e]
  exact h⟩
theorem i_neS {a b : Str} (h : Q (.bl (!decide (a = b))) H) : rNe (.str a) (.str b) H Q := ⟨rfl, by
  have e : decide (V.str a = V.str b) = decide (a = b) := by by_cases h : a = b <;> simp [h]
  rw [e]
  exact h⟩
/-- // by a divisor of either sign -/
def CDivZ (_ j : Int) : Prop := j ≠ 0 ∧ j.natAbs.log2 < 9000
theorem op_fdivZ : OpR X (binaryOp .FloorDiv) (rI CDivZ fun i j => .int (i.fdiv j)) := opI fun i j _ _ _ _ _ hc q => floordiv_int hc.1 q (.inl (PyProof.noPylong_of_log2 hc.2))
theorem cdivZ {i j : Int} {n : Nat} (h : j ≠ 0) (s : ZR.Sz n j) (h0 : 0 < n := by decide) (h9 : n ≤ 9000 := by decide) : CDivZ i j := ⟨h, Nat.lt_of_lt_of_le (PySem.Flt.log2_lt_of h0 s) h9⟩
/-! lists and tuples by place -/
theorem i_ixL {p : Addr} {xs : List V} {k : Nat} (s : SqL K H p xs) (e : xs[k]? = some v) (h : Q v H) : rIxL K (.ref p) (.int (k : Nat)) H Q := ⟨p, xs, _, v, rfl, rfl, s, atI_nat e, h⟩
end
end Z

set_option Elab.async false
set_option linter.all false
set_option maxRecDepth 100000
set_option maxHeartbeats 4000000
/-! what is known of the text's defs, in short -/
namespace Z
open PySem PySem.Spec PyProof.Rows L2
section
variable (P : Program) (w : World) (K : PySem.W.Frag) (mg : Str → Option Value) (base : Heap)
/-- a def of the module -/
def Cal (x : Str) (k : Nat) (sp : Sp) : Prop := ∃ f, mg x = some (.ref f) ∧ PySem.W.keepIn K (.ref f) = true ∧ FnR P w K mg base (L2.CX P w) k f sp
/-- a method of the class at C -/
def CalM (C : Addr) (m : Str) (k : Nat) (sp : Sp) : Prop := ∃ f, Meth K C m f ∧ FnR P w K mg base (L2.CX P w) k f sp
/-- a class and its __init__ -/
def CalI (x : Str) (C : Addr) (k : Nat) (sp : Sp) : Prop := mg x = some (.ref C) ∧ ∃ f, Mk K C f ∧ FnR P w K mg base (L2.CX P w) k f sp
/-- an operator's def -/
def CalO (C : Addr) (n : Str) (k : Nat) (sp : Sp) : Prop := ∃ f, Spc K C n f ∧ PySem.W.selfFirst K C = true ∧ FnR P w K mg base (L2.CX P w) k f sp
/-- a classmethod -/
def CalK (C : Addr) (m : Str) (k : Nat) (sp : Sp) : Prop := ∃ mc p g, ClX.CRead K C mc ∧ ClX.CMet K C mc m p g ∧ FnR P w K mg base (L2.CX P w) k g sp
/-- an error class with its own __init__ -/
def CalX (x : Str) (C : Addr) (k : Nat) (ps : List Str) (sp : Sp) : Prop := mg x = some (.ref C) ∧ OexC K C ∧ ∃ fI fd, PySem.W.findIn K (.ref C) "__init__" = some (some (.ref fI)) ∧
  PySem.W.typeIn K (.ref fI) = some (.type "function") ∧ FnOk P w K mg base (L2.CX P w) k fI fd ps sp ∧ Binds K fd ps []
/-- the errors' common class, of which __init__ is called by name -/
def CalT (x : Str) : Prop := ∃ T mc, mg x = some (.ref T) ∧ ClX.CRead K T mc ∧ PySem.W.findCls K (.ref T) mc "__init__" = some (.val (.builtin "ValueError.__init__"))
end
section
variable {X : Cx} {k j : Nat} {C : Addr} {sp : Sp} {E : L2.St → XK} {x m : Str} {p pos apos : Pos} {e o : Expr} {es : List Expr} {ta te : TE} {t : TA}
theorem z_callC (c : Cal X.prog X.w X.K X.mg X.base x k sp) (hr : Room j X.A) (hx : ∀ σ, PassesAt (L2.CX X.prog X.w) X σ (E σ)) (ha : PA X (e :: es) t) (hj : k ≤ j := by decide) (hg : Gl X x := by rfl)
    (hdb : (x == ("__debug__" : Str)) = false := by decide) (he : starEach (e :: es) X.env = (false, eval e X.env) :: starEach es X.env := by rfl)
    (hpl : (backTo pos (starEach es X.env)).any (·.1) = false := by rfl) : PE X (.Call (.Name x p) (e :: es) [] pos) (tCallS sp E t) := by
  obtain ⟨f, hm, hk, F⟩ := c
  exact z_call F (hr.mono hj) hm hk hx ha hg hdb he hpl
theorem z_makeC (c : CalI X.prog X.w X.K X.mg X.base x C k sp) (hr : Room j X.A) (hx : ∀ σ, PassesAt (L2.CX X.prog X.w) X σ (E σ)) (ha : PA X (e :: es) t) (hj : k + 1 ≤ j := by decide) (hg : Gl X x := by rfl)
    (hdb : (x == ("__debug__" : Str)) = false := by decide) (he : starEach (e :: es) X.env = (false, eval e X.env) :: starEach es X.env := by rfl)
    (hpl : (backTo pos (starEach es X.env)).any (·.1) = false := by rfl) : PE X (.Call (.Name x p) (e :: es) [] pos) (tMakeS C sp E t) := by
  obtain ⟨hm, f, M, F⟩ := c
  exact z_make M F (hr.mono hj) hm hx ha hg hdb he hpl
/-- cls(e, ..), cls a local name that holds the class -/
def tMakeL (i : Nat) (C : Addr) (sp : Sp) (E : L2.St → XK) (t : TA) : TE := fun σ H Q => σ[i]? = some (some (.ref C)) ∧ tMakeS C sp E t σ H Q
theorem z_makeL {i : Nat} {y : Str} (c : CalI X.prog X.w X.K X.mg X.base y C k sp) (hr : Room j X.A) (hx : ∀ σ, PassesAt (L2.CX X.prog X.w) X σ (E σ)) (ha : PA X (e :: es) t) (hj : k + 1 ≤ j := by decide)
    (hN : X.N[i]? = some x := by rfl) (hv : Vis X.env.scope x := by first | exact Or.inl rfl | exact Or.inr (Or.inl rfl) | exact Or.inr (Or.inr rfl))
    (hdb : (x == ("__debug__" : Str)) = false := by decide) (hcd : (x == ("__classdict__" : Str)) = false := by decide)
    (he : starEach (e :: es) X.env = (false, eval e X.env) :: starEach es X.env := by rfl)
    (hpl : (backTo pos (starEach es X.env)).any (·.1) = false := by rfl) : PE X (.Call (.Name x p) (e :: es) [] pos) (tMakeL i C sp E t) := by
  obtain ⟨hm, f, M, F⟩ := c
  constructor
  intro pins s σ H Q I h
  obtain ⟨hs, h⟩ := h
  apply wpAny_Call_Name_kw
  refine thn ((pe_var (pos := p) (i := i) hN hv hdb hcd).run pins s σ H (fun v H1 => v = .ref C ∧ H1 = H) I ⟨.ref C, hs, rfl, rfl⟩) fun u s1 hh => ?_
  obtain ⟨v, H1, I1, r1, ev, eH⟩ := hh
  subst ev
  rw [eH] at I1
  obtain rfl : u = Value.ref C := r1
  apply PySem.W.callWith_K (h₀ := X.base) I.ok.mod.kin M.kp _ he hpl
  refine thn (ha.run pos pins s1 σ H _ I1 h) fun us s2 hh => ?_
  obtain ⟨vs, H2, I2, r, q⟩ := hh
  exact ⟨I2.kIn, runMake M F (hr.mono hj) hx I2 r q⟩
theorem z_methC {pl : Sem Bool} (he : PE X o ta) (c : Cls X.K C) (d : CalM X.prog X.w X.K X.mg X.base C m k sp) (hr : Room j X.A) (hx : ∀ σ, PassesAt (L2.CX X.prog X.w) X σ (E σ)) (ha : PA X (e :: es) t) (hj : k ≤ j := by decide)
    (hst : starEach (e :: es) X.env = (false, eval e X.env) :: starEach es X.env := by rfl)
    (hpl : (backTo pos (starEach es X.env)).any (·.1) = false := by rfl)
    (ht : eval (.Call (.Attribute o m apos) (e :: es) [] pos) X.env = (do
      let ov ← eval o X.env
      standAt apos.atName
      let (f, first) ← holding [ov] (getMethod ov m pl)
      callWith pos f first (backTo pos (starEach (e :: es) X.env)) (backToKw pos (keywordEach [] X.env))) := by rfl) :
    PE X (.Call (.Attribute o m apos) (e :: es) [] pos) (tMethS C m sp E ta t) := by
  obtain ⟨f, hm, F⟩ := d
  exact z_meth he c hm F (hr.mono hj) hx ha hst hpl ht
theorem z_meth0C {pl : Sem Bool} (he : PE X o ta) (c : Cls X.K C) (d : CalM X.prog X.w X.K X.mg X.base C m k sp) (hr : Room j X.A) (hx : ∀ σ, PassesAt (L2.CX X.prog X.w) X σ (E σ)) (hj : k ≤ j := by decide)
    (ht : eval (.Call (.Attribute o m apos) [] [] pos) X.env = (do
      let ov ← eval o X.env
      standAt apos.atName
      let (f, first) ← holding [ov] (getMethod ov m pl)
      callWith pos f first (backTo pos (starEach [] X.env)) (backToKw pos (keywordEach [] X.env))) := by rfl) :
    PE X (.Call (.Attribute o m apos) [] [] pos) (tMethS C m sp E ta tNil) := by
  obtain ⟨f, hm, F⟩ := d
  exact z_meth0 he c hm F (hr.mono hj) hx ht
/-- C.m(e, ..), m a classmethod -/
def tCMethS (C : Addr) (sp : Sp) (E : L2.St → XK) (ta : TE) (t : TA) : TE := fun σ H Q => ta σ H fun x H1 => x = .ref C ∧ t σ H1 fun vs H2 => sp (.ref C :: vs) H2 Q (E σ)
theorem z_cmethC {pl : Sem Bool} (ho : PE X o ta) (d : CalK X.prog X.w X.K X.mg X.base C m k sp) (hr : Room j X.A) (hx : ∀ σ, PassesAt (L2.CX X.prog X.w) X σ (E σ)) (ha : PA X (e :: es) t) (hj : k ≤ j := by decide)
    (hst : starEach (e :: es) X.env = (false, eval e X.env) :: starEach es X.env := by rfl)
    (hpl : (backTo pos (starEach es X.env)).any (·.1) = false := by rfl)
    (ht : eval (.Call (.Attribute o m apos) (e :: es) [] pos) X.env = (do
      let ov ← eval o X.env
      standAt apos.atName
      let (f, first) ← holding [ov] (getMethod ov m pl)
      callWith pos f first (backTo pos (starEach (e :: es) X.env)) (backToKw pos (keywordEach [] X.env))) := by rfl) :
    PE X (.Call (.Attribute o m apos) (e :: es) [] pos) (tCMethS C sp E ta t) := by
  obtain ⟨mc, pp, g, r, c, F⟩ := d
  constructor
  intro pins s σ H Q I h
  refine PySem.W.methodCall_KW (pl := pl) (thn (ho.run pins s σ H _ I h) fun u s1 hh => ?_) ht
  obtain ⟨x, H1, I1, rx, ex, q⟩ := hh
  subst ex
  obtain rfl : u = Value.ref C := rx
  apply ClX.getmethcm_ok I1 r c
  intro s2 I2
  apply ClX.callwith_cm I2 (ClX.base_none I1 (Nat.le_refl _)) c.fi _ hst hpl
  refine thn (ha.run pos _ s2 σ H1 _ I2 q) fun us s3 hh => ?_
  obtain ⟨vs, H2, I3, rv, q2⟩ := hh
  refine ⟨⟨ClX.pin_at I3, I3.kIn⟩, ?_⟩
  have z : wpAny (model X.prog X.w) X.A (call (.ref s1.heap.objs.size) us) (EP X ((s1.heap.objs.size, PySem.W.methodObj (.ref g) (.ref C)) :: pins) σ Q) X.xe s3 := by
    refine wpAny_call (PySem.W.method_call (ClX.pin_at I3) ?_)
    refine codeAny_mono (F X.A X.stack s3 H2 (.ref C :: us) (.ref C :: vs) Q (E σ) (hr.mono hj) I3.env0 (.cons rfl rv) q2) fun a s' hq => ?_
    rcases a with er | fl
    · exact hx σ _ H2 s3 er s' I3 hq
    · rcases fl with _ | _ | _ | v
      · exact False.elim hq
      · exact False.elim hq
      · exact False.elim hq
      · exact I3.after hq
  exact thn z fun _ _ y => ClX.unpinE y
/-! operators -/
theorem z_eqO (c : CalO X.prog X.w X.K X.mg X.base C "__eq__" k sp) (hr : Room j X.A) (hj : k ≤ j := by decide) : OpR X (compareOp .Eq) (rOwnC X.K C sp) := by
  obtain ⟨f, S, sf, F⟩ := c
  exact op_eqOwn F (hr.mono hj) S
def rOwnN (K : PySem.W.Frag) (C : Addr) (sp : Sp) : R2 := fun x y H Q => ∃ a dx fs t, x = .ref a ∧ H a = some (.ins C dx fs) ∧ Side K C H y t ∧ PySem.W.notFirst K C t = true ∧
      sp [x, y] H (fun v H' => ∃ r, v = .bl r ∧ Q (.bl (!r)) H') (fun _ _ _ => False)
/-! errors -/
theorem z_mkX {ps : List Str} (c : CalX X.prog X.w X.K X.mg X.base x C k ps sp) (hr : Room j X.A) (ha : PA X (e :: es) t) (hj : k + 1 ≤ j := by decide) (hg : Gl X x := by rfl)
    (hdb : (x == ("__debug__" : Str)) = false := by decide) (he : starEach (e :: es) X.env = (false, eval e X.env) :: starEach es X.env := by rfl)
    (hpl : (backTo pos (starEach es X.env)).any (·.1) = false := by rfl) : PMk X (.Call (.Name x p) (e :: es) [] pos) (tMkO C sp [] t) := by
  obtain ⟨hm, T, fI, fd, iC, tI, F, b⟩ := c
  exact pmk_oex T iC tI F (hr.mono hj) b .nil passL hg hm ha hdb he hpl
/-- ThrowError.__init__(self, ..) -/
theorem z_tinit {p1 p2 : Pos} {pl : Sem Bool} (hg : Gl X x) (c : CalT X.K X.mg x) (ha : PA X (e :: es) t)
    (hc : eval (.Call (.Attribute (.Name x p1) "__init__" p2) (e :: es) [] pos) X.env = (do
      let ov ← eval (.Name x p1) X.env
      standAt p2.atName
      let (f, first) ← holding [ov] (getMethod ov "__init__" pl)
      callWith pos f first (backTo pos (starEach (e :: es) X.env)) (backToKw pos (keywordEach [] X.env))) := by rfl)
    (hdb : (x == ("__debug__" : Str)) = false := by decide) (he : starEach (e :: es) X.env = (false, eval e X.env) :: starEach es X.env := by rfl)
    (hpl : (backTo pos (starEach es X.env)).any (·.1) = false := by rfl) :
    PE X (.Call (.Attribute (.Name x p1) "__init__" p2) (e :: es) [] pos) (tVeI X.K t) := by
  obtain ⟨T, mc, hm, r, vV⟩ := c
  constructor
  intro pins s σ H Q I h
  refine PySem.W.methodCall_KW (ld_glob I hg hm ?_ hdb) hc
  apply PySem.W.method_cls I.kIn r.ga
  apply PySem.W.cls_value I.kIn r.rd vV (by decide +kernel)
  show wpAny _ _ (callWith pos (Value.builtin "ValueError.__init__") [] (backTo pos (starEach (e :: es) X.env)) []) _ _ _
  refine PyProof.Rows.callWith_method1 (thn (ha.run pos pins _ σ H _ (I.tok _) h) fun us s1 hh => ?_) he hpl
  obtain ⟨vs, H1, I1, r1, a, C, ws, ev, hl, T', ea, q⟩ := hh
  subst ev
  cases r1 with
  | @cons _ u0 _ ur ra rw' =>
    obtain rfl : u0 = Value.ref a := ra
    have hlen : ur.length ≤ sizeLine := by
      rw [← Paired.length rw', sizeLine_eq]
      omega
    exact oinit_ok T' I1 ea hlen fun s' J => ⟨.non, H1, J, rfl, q⟩
end
/-! a def by its body -/
section
variable {P : Program} {w : World} {K : PySem.W.Frag} {mg : Str → Option Value} {base : Heap}
theorem fnOk_mk {x qual : Str} {st : Stmt} {f : Addr} {fd : FuncData} {N ps : List Str} {k : Nat} {sp : Sp} (F : L2.Fun K x qual st f fd) (S : FnScope N ps (defScope st)) (len : ∀ vs H Q E, sp vs H Q E → vs.length = ps.length)
    (hbody : ∀ (cdv : Value) (A : Around) (outer : List Env) (s : Shared) (H : Hp) (vs : List V) (Q : VK) (E : XK), Room k (A.deeper (envOfC qual (defScope st) s.heap.objs.size f cdv)) → sp vs H Q E →
      ∃ t, PSs (cxOf (L2.CX P w) P w K mg base N qual (defScope st) f cdv A outer s H E) (defBody st) t ∧ t { nx := fun _ H' => Q .non H', rt := Q } (start N vs) H) : FnOk P w K mg base (L2.CX P w) (k + 1) f fd ps sp :=
  F.okX S len hbody
theorem fnR_of {f : Addr} {fd : FuncData} {ps : List Str} {k : Nat} {sp : Sp} (F : FnOk P w K mg base (L2.CX P w) k f fd ps sp) (b : Binds K fd ps []) : FnR P w K mg base (L2.CX P w) k f sp := by
  have h := F.raw b .nil
  refine h.imp fun vs H Q E q => ?_
  rw [List.append_nil]
  exact q
end
end Z

set_option Elab.async false
set_option linter.all false
set_option maxRecDepth 100000
set_option maxHeartbeats 4000000
/-! in, not in over a list, by an own == -/
namespace Z
open PySem PySem.Spec PyProof.Rows L2
section
open PySem.SeqAt AutoSeq1 MeetsSeq MeetsSeq2 MeetsSeq3 SeqRoads2
variable {prog : Program} {w : World} {A : Around} {R : Result → Shared → Prop}
/-- turn i: the list stands, and == of its i-th item and x says r -/
def LookI (prog : Program) (w : World) (A : Around) (R : Result → Shared → Prop) (l : Addr) (x : Value) (N : Nat) (I : Nat → Shared → Prop) : Prop :=
  ∀ i s, I i s → ∃ (its : Array Value) (n : Nat), s.heap.get? l = some { cls := .type "list", data := .seq its n } ∧ its.size = N ∧
    ∀ h1 : i < its.size, wpAny (model prog w) A.in1 (eqBool its[i] x) (fun r s' => if r = true then R (.ok (.ret (.bool true))) s' else I (i + 1) s') (fun e s' => R (.error e) s') s
end
section
variable {X : Cx} {k : Nat} {C : Addr} {sp : Sp}
/-- what == of two instances says here: some bool, and the objects stand -/
def EqSome (C : Addr) (sp : Sp) (H : Hp) (y x : V) : Prop := ∀ H', Same H H' → ∃ a dx fs b dy gs, y = .ref a ∧ x = .ref b ∧ H' a = some (.ins C dx fs) ∧ H' b = some (.ins C dy gs) ∧
  sp [y, x] H' (fun v H2 => (∃ r, v = .bl r) ∧ Same H' H2) (fun _ _ _ => False)
/-- x in xs, where x itself stands in xs -/
def rInO (C : Addr) (sp : Sp) (b : Bool) : R2 := fun x y H Q => ∃ p xs, y = .ref p ∧ H p = some (.lst xs) ∧ x ∈ xs ∧ (∀ z ∈ xs, EqSome C sp H z x) ∧ ∀ H', Same H H' → Q (.bl b) H'
/-- xs != ys, two lists of the very same objects -/
def rNeL : R2 := fun x y H Q => ∃ a b xs, x = .ref a ∧ y = .ref b ∧ H a = some (.lst xs) ∧ H b = some (.lst xs) ∧ (∀ z ∈ xs, ∃ p, z = .ref p) ∧ Q (.bl false) H
end
end Z

set_option Elab.async false
set_option linter.all false
set_option maxRecDepth 100000
set_option maxHeartbeats 4000000
/-! ratios: what stands for them, and what their defs promise -/
namespace Z
open PySem PySem.Spec PyProof.Rows L2
/-- an own class whose instances are asked by isinstance -/
structure ClO (K : PySem.W.Frag) (C : Addr) : Prop extends Cls K C where
  ha : PySem.W.findIn K (.ref C) "__class__" = some (some (.builtin "object.__class__"))
  hn : PySem.W.specialIn K (.builtin "object.__class__") "__get__" = some (some (.builtin "getset_descriptor.__get__"))
  htk : PySem.W.takesIn K (.builtin "object.__class__") = some true
  hm : PySem.W.mroIn K C (.type "object") = some true
theorem ClO.ty {K : PySem.W.Frag} {C a dx : Addr} {H : Hp} {fs : List (Str × V)} (c : ClO K C) (e : H a = some (.ins C dx fs)) : TyX K H (.ref a) (.ref C) := .base (.ins e c.toCls c.ha c.hn c.htk c.hm)
theorem Same.at {H H' : Hp} {a : Addr} {o : HO} (s : Same H H') (e : H a = some o) : H' a = some o := s a o e
/-! ### an error with one attribute, made and raised -/
def rMkO (C : Addr) (sp : Sp) (vs : List V) (H1 : Hp) (Q : XK) : Prop := vs.length ≤ 1000 ∧ ∀ a, H1 a = none → sp (.ref a :: (vs ++ [])) (upd H1 a (exo a C none))
  (fun v H2 => v = .non ∧ ∃ (d : Addr) (fs : List (Str × V)), H2 a = some (exo a C (some d)) ∧ H2 d = some (exd d fs) ∧ H1 d = none ∧ Q (.ref C) (some d) (upd (del H2 a) d (.xd fs))) (fun _ _ _ => False)
theorem i_mkO {C : Addr} {sp : Sp} {ta : TA} {σ : L2.St} {H : Hp} {Q : XK} (h : ta σ H (fun vs H1 => rMkO C sp vs H1 Q)) : tMkO C sp [] ta σ H Q := h
/-- __init__ keeps the one argument under the name f -/
def spX1 (K : PySem.W.Frag) (C : Addr) (f : Str) (G : V → Hp → Prop) : Sp := fun vs H Q _ => vs.length = 2 ∧ ∃ a v, vs = [.ref a, v] ∧ H a = some (exo a C none) ∧ G v H ∧
  ∀ dx H1, H dx = none → dx ≠ a → Same H H1 → H1 dx = none → Q .non (upd (upd H1 dx (exd dx [(f, v)])) a (exo a C (some dx)))
theorem i_mkX1 {K : PySem.W.Frag} {C : Addr} {f : Str} {G : V → Hp → Prop} {v : V} {H : Hp} {Q : XK} (g : ∀ H', Same H H' → G v H') (h : ∀ d H', H d = none → Same H H' → H' d = some (.xd [(f, v)]) → Q (.ref C) (some d) H') :
    rMkO C (spX1 K C f G) [v] H Q := by
  refine ⟨by show 1 ≤ 1000; decide, fun a ha => ?_⟩
  have s0 : Same H (upd H a (exo a C none)) := fun b o e => by rw [upd_ne (ne_of_none e ha)]; exact e
  refine ⟨rfl, a, v, rfl, upd_same, g _ s0, fun dx H1 hd hne sm hd1 => ?_⟩
  have hdH : H dx = none := by rw [upd_ne hne] at hd; exact hd
  refine ⟨rfl, dx, [(f, v)], upd_same, by rw [upd_ne hne, upd_same], hdH, h dx _ hdH (fun b o e => ?_) upd_same⟩
  have nb : b ≠ dx := ne_of_none e hdH
  have na : b ≠ a := ne_of_none e ha
  rw [upd_ne nb, del_ne na, upd_ne na, upd_ne nb]
  exact sm b o (s0 b o e)

/-! ### f-strings, by parts -/
def rFmt (x : V) (H1 : Hp) (Q : VK) : Prop := (∃ y : Str, x = .str y ∧ y.length ≤ sizeLine ∧ Q (.str y) H1) ∨ ∃ i : Int, x = .int i ∧ i.natAbs.log2 < 1920 ∧ Q (.str (toString i)) H1
theorem i_fmt {te : TE} {σ : L2.St} {H : Hp} {Q : VK} (h : te σ H (fun x H1 => rFmt x H1 Q)) : tFmt te σ H Q := h
theorem i_fmtS {y : Str} {H : Hp} {Q : VK} (l : y.length ≤ sizeLine) (h : Q (.str y) H) : rFmt (.str y) H Q := .inl ⟨y, rfl, l, h⟩

/-! ### ratios -/
def rf (q : Rat) : List (Str × V) := [("top", .int q.num), ("bottom", .int (q.den : Int))]
def IsR (CR : Addr) (H : Hp) (a : Addr) (q : Rat) : Prop := ∃ dx, H a = some (.ins CR dx (rf q))
theorem IsR.mono {CR a : Addr} {H H' : Hp} {q : Rat} (s : Same H H') (h : IsR CR H a q) : IsR CR H' a q := let ⟨dx, e⟩ := h; ⟨dx, s _ _ e⟩
/-- the error of a bottom 0 -/
def EBad (CB : Addr) (n : Int) (H : Hp) (E : XK) : Prop := ∀ d H', Same H H' → H' d = some (.xd [("n", .int n)]) → E (.ref CB) (some d) H'
def spRInit (CR CB : Addr) : Sp := fun vs H Q E => vs.length = 3 ∧ ∃ a t b, vs = [.ref a, .int t, .int b] ∧ (∃ dx, H a = some (.ins CR dx [])) ∧ (b = 0 ∨ ZR.Sz 8000 b) ∧
  (b = 0 → EBad CB 0 H E) ∧ (b ≠ 0 → ∀ H', IsR CR H' a ((t : Rat) / (b : Rat)) → (∀ x, x ≠ a → H' x = H x) → Q .non H')
/-- a def of two ratios that hands back a new one -/
def spR2 (CR : Addr) (f : Rat → Rat → Rat) : Sp := fun vs H Q _ => vs.length = 2 ∧ ∃ a b p q, vs = [.ref a, .ref b] ∧ IsR CR H a p ∧ IsR CR H b q ∧ ZR.Bd 2000 p ∧ ZR.Bd 2000 q ∧
  ∀ c H', H c = none → Same H H' → IsR CR H' c (f p q) → Q (.ref c) H'
def spR1 (CR : Addr) (f : Rat → Rat) : Sp := fun vs H Q _ => vs.length = 1 ∧ ∃ a p, vs = [.ref a] ∧ IsR CR H a p ∧ ZR.Bd 2000 p ∧
  ∀ c H', H c = none → Same H H' → IsR CR H' c (f p) → Q (.ref c) H'
/-- the other side of ==: another ratio, or no ratio -/
def spREq (K : PySem.W.Frag) (CR : Addr) : Sp := fun vs H Q _ => vs.length = 2 ∧ ∃ a p y, vs = [.ref a, y] ∧ IsR CR H a p ∧
  ((∃ b q, y = .ref b ∧ IsR CR H b q ∧ ∀ H', Same H H' → Q (.bl (decide (p = q))) H') ∨
   (∃ t, TyX K H y t ∧ PySem.W.kitOne K t (.ref CR) = some false ∧ ∀ H', Same H H' → Q (.bl false) H'))
def spRBool (CR : Addr) : Sp := fun vs H Q _ => vs.length = 1 ∧ ∃ a p, vs = [.ref a] ∧ IsR CR H a p ∧ ∀ H', Same H H' → Q (.bl (decide (p ≠ 0))) H'
def spRUnder (CR : Addr) : Sp := fun vs H Q _ => vs.length = 2 ∧ ∃ a b p q, vs = [.ref a, .ref b] ∧ IsR CR H a p ∧ IsR CR H b q ∧ ZR.Bd 2000 p ∧ ZR.Bd 2000 q ∧
  ∀ H', Same H H' → Q (.bl (decide (p < q))) H'
def spRQuot (CR CB : Addr) : Sp := fun vs H Q E => vs.length = 2 ∧ ∃ a b p q, vs = [.ref a, .ref b] ∧ IsR CR H a p ∧ IsR CR H b q ∧ ZR.Bd 2000 p ∧ ZR.Bd 2000 q ∧
  (q = 0 → EBad CB 0 H E) ∧ (q ≠ 0 → ∀ c H', H c = none → Same H H' → IsR CR H' c (p / q) → Q (.ref c) H')
def spRWhole (CR : Addr) : Sp := fun vs H Q _ => vs.length = 2 ∧ ∃ n, vs = [.ref CR, .int n] ∧ ∀ c H', H c = none → Same H H' → IsR CR H' c (n : Rat) → Q (.ref c) H'
section
variable {K : PySem.W.Frag} {CR CB a b : Addr} {p q : Rat} {H : Hp} {Q : VK} {E : XK} {f : Rat → Rat → Rat} {f1 : Rat → Rat}
theorem self_first : PySem.W.notFirst K CR (.ref CR) = true := by simp [PySem.W.notFirst]
end
/-! ### the law's own helpers -/
def Pool (H : Hp) (p : Addr) : Prop := ∃ (c k : Int) (f : Bool), H p = some (.lst [V.int c, V.int k, V.bl f])
def spPool : Sp := fun vs H Q _ => vs.length = 1 ∧ ∃ c, vs = [.int c] ∧ ∀ p H', H p = none → Same H H' → (∀ b, b ≠ p → H' b = H b) → Pool H' p → Q (.ref p) H'
def spTake : Sp := fun vs H Q _ => vs.length = 2 ∧ ∃ p l, vs = [.ref p, .int l] ∧ Pool H p ∧ 0 < l ∧ ZR.Sz 8000 l ∧ ∀ r H', 0 ≤ r → r < l → (∀ b, b ≠ p → H' b = H b) → Pool H' p → Q (.int r) H'
def spCell (K : PySem.W.Frag) : Sp := fun vs H Q _ => vs.length = 2 ∧ ∃ (a : Addr) (ns : List Int) (k : Nat), vs = [.ref a, .int k] ∧ SqL K H a (ns.map V.int) ∧ ∀ i, Q (.int i) H
section
variable {K : PySem.W.Frag} {p a : Addr} {H : Hp} {Q : VK} {E : XK}
theorem i_pool {c : Int} (h : ∀ p H', H p = none → Same H H' → (∀ b, b ≠ p → H' b = H b) → Pool H' p → Q (.ref p) H') : spPool [.int c] H Q E := ⟨rfl, c, rfl, h⟩
theorem i_take {l : Int} (hp : Pool H p) (h0 : 0 < l) (hz : ZR.Sz 8000 l) (h : ∀ r H', 0 ≤ r → r < l → (∀ b, b ≠ p → H' b = H b) → Pool H' p → Q (.int r) H') : spTake [.ref p, .int l] H Q E := ⟨rfl, p, l, rfl, hp, h0, hz, h⟩
theorem i_cell {ns : List Int} {k : Nat} (hs : SqL K H a (ns.map V.int)) (h : ∀ i, Q (.int i) H) : spCell K [.ref a, .int k] H Q E := ⟨rfl, a, ns, k, rfl, hs, h⟩
end
/-! ### lists of ints compared -/
end Z

set_option Elab.async false
set_option linter.all false
set_option maxRecDepth 100000
set_option maxHeartbeats 4000000
/-! more readings -/
namespace Z
open PySem PySem.Spec PyProof.Rows L2
section
variable {X : Cx} {K : PySem.W.Frag} {σ σ' : L2.St} {H H1 : Hp} {D : Ends} {t u : TS} {te ta tb tc to : TE} {tt tu : TT} {tr : TA} {g : TG} {gs : TGs} {Q : VK} {QB : Bool → Hp → Prop} {QA : List V → Hp → Prop} {QS : L2.St → Hp → Prop} {QH : Hp → Prop} {v w x y : V} {i j : Nat} {A B : Prop} {b : Bool}
theorem i_isiT {tv : Value} {s : String} (ty : TyX K H x tv) (hk : PySem.W.kitOne K tv (.type s) = some b) (h : Q (.bl b) H) : rIsi K [x, .ty s] H Q := ⟨x, _, tv, _, b, rfl, .ty s, ty, hk, h⟩
theorem i_isiO {tv : Value} {C : Addr} (ty : TyX K H x tv) (hk : PySem.W.kitOne K tv (.ref C) = some b) (h : Q (.bl b) H) : rIsi K [x, .ref C] H Q := ⟨x, _, tv, _, b, rfl, .own C, ty, hk, h⟩
theorem tyInt (n : Int) : TyX K H (.int n) (.type "int") := .base (.int n)
def rBits (x : V) (H1 : Hp) (Q : VK) : Prop := ∃ i : Int, x = .int i ∧ Q (.int (Builtin.Int.intBits i : Nat)) H1
theorem i_bits {n : Int} (h : Q (.int (Builtin.Int.intBits n : Nat)) H) : rBits (.int n) H Q := ⟨n, rfl, h⟩
theorem i_bits0 (h : to σ H (fun x H1 => rBits x H1 Q)) : tBits to σ H Q := h
theorem i_jsC {ts : List TE} {acc : Str} {QJ : Str → Hp → Prop} (h : te σ H (fun x H1 => ∃ y : Str, x = .str y ∧ (acc ++ y).length ≤ sizeLine ∧ tJs ts (acc ++ y) σ H1 QJ)) : tJs (te :: ts) acc σ H QJ := h
theorem i_jsN {acc : Str} {QJ : Str → Hp → Prop} (h : QJ acc H) : tJs [] acc σ H QJ := h
theorem Same_seqT {H H' : Hp} {a : Addr} {xs : List V} (e : Same H H') (h : SqT K H a xs) : SqT K H' a xs := by
  rcases h with (h | ⟨o, h⟩) | h
  · exact .inl (.inl (e _ _ h))
  · exact .inl (.inr ⟨o, e _ _ h⟩)
  · exact .inr h
/-! loops -/
def rFor (it : It) (g : TG) (tb : TS) (D : Ends) (σ : L2.St) (H1 : Hp) : Prop := ∃ W : Nat → Nat → L2.St → Hp → Prop, (∃ m, W 0 m σ H1) ∧ ∀ i m σ H, W i m σ H →
  (it.stop i H ∧ D.nx σ H) ∨ (it.go i H ∧ ∃ N : L2.St → Hp → Prop, (∀ σ' H', N σ' H' → ∃ m', m' < m ∧ W (i + 1) m' σ' H') ∧ ∀ x H', it.yld i H x H' → g x σ H' fun σ2 H2 => tb { D with nx := N, ct := N, bk := D.nx } σ2 H2)
def rForL (K : PySem.W.Frag) (g : TG) (tb : TS) (D : Ends) (σ : L2.St) (x : V) (H1 : Hp) : Prop := ∃ a, x = .ref a ∧ (∃ xs, SqL K H1 a xs) ∧ rFor (Itl K a) g tb D σ H1
def rForT (K : PySem.W.Frag) (g : TG) (tb : TS) (D : Ends) (σ : L2.St) (x : V) (H1 : Hp) : Prop := ∃ a, x = .ref a ∧ (∃ xs, SqT K H1 a xs) ∧ rFor (Itt K a) g tb D σ H1
def rForR (g : TG) (tb : TS) (D : Ends) (σ : L2.St) (vs : List V) (H1 : Hp) : Prop := ∃ j : Int, vs = [.int j] ∧ -(2 ^ 62) ≤ j ∧ j < 2 ^ 62 ∧ rFor (Itr 0 j.toNat) g tb D σ H1
theorem i_forR0 {tb : TS} (h : tr σ H (fun vs H1 => rForR g tb D σ vs H1)) : tFor (iRng1 tr) g tb D σ H := h
theorem i_forR {n : Nat} {k : Int} {tb : TS} (hk : k = (n : Int)) (hn : n < 1000000) (Pv : Nat → L2.St → Hp → Prop) (h0 : Pv 0 σ H)
    (hs : ∀ i σ H, i < n → Pv i σ H → g (.int (i : Nat)) σ H fun σ2 H2 => tb { D with nx := Pv (i + 1), ct := Pv (i + 1), bk := D.nx } σ2 H2) (hd : ∀ σ H, Pv n σ H → D.nx σ H) : rForR g tb D σ [.int k] H := by
  refine ⟨k, rfl, by omega, by omega, ?_⟩
  have e : k.toNat = n := by omega
  rw [e]
  refine for_range Pv h0 (fun i σ H hi p => ?_) hd
  rw [Int.zero_add]
  exact hs i σ H hi p
/-! comprehensions over lists -/
def rLcL (K : PySem.W.Frag) (g : TG) (tt : TT) (te : TE) (vs : List Nat) (σ : L2.St) (Q : VK) (x : V) (H1 : Hp) : Prop := ∃ a, x = .ref a ∧ (∃ xs, SqL K H1 a xs) ∧ ∀ D, H1 D = none → ∃ W : Nat → Nat → Hp → Prop, (∃ m, W 0 m (upd H1 D (.lst []))) ∧ ∀ i m H, W i m H →
  ((Itl K a).stop i H ∧ Q (.ref D) H) ∨ ((Itl K a).go i H ∧ ∃ Nx : Hp → Prop, (∀ H', Nx H' → ∃ m', m' < m ∧ W (i + 1) m' H') ∧ ∀ x H', (Itl K a).yld i H x H' → g x (wipe σ vs) H' fun σ2 H2 => wipe σ2 vs = wipe σ vs ∧ tt σ2 H2 fun b H3 =>
    if b = true then te σ2 H3 fun y H4 => ∃ acc, H4 D = some (.lst acc) ∧ acc.length < sizeLine ∧ Nx (upd H4 D (.lst (acc ++ [y]))) else Nx H3)
theorem i_yes (h : QB true H) : tYes σ H QB := h
def LcS (D : Addr) (Pv : Nat → List V → Hp → Prop) (i : Nat) (H : Hp) : Prop := ∃ ys, H D = some (.lst ys) ∧ Pv i ys H
def rLcE (D : Addr) (Pv : Nat → List V → Hp → Prop) (i : Nat) (y : V) (H4 : Hp) : Prop := ∃ acc, H4 D = some (.lst acc) ∧ acc.length < sizeLine ∧ LcS D Pv (i + 1) (upd H4 D (.lst (acc ++ [y])))
theorem i_lcE {D : Addr} {Pv : Nat → List V → Hp → Prop} {ys : List V} (e : H D = some (.lst ys)) (l : ys.length < 100000) (h : ∀ H5, H5 D = some (.lst (ys ++ [y])) → (∀ c, c ≠ D → H5 c = H c) → Pv (i + 1) (ys ++ [y]) H5) : rLcE D Pv i y H :=
  ⟨ys, e, Nat.lt_of_lt_of_le l (by decide), ys ++ [y], upd_same, h _ upd_same (fun c hc => upd_ne hc)⟩
/-! targets, stores -/
theorem i_gsub {ti : TE} {r : V → V → V → Hp → (Hp → Prop) → Prop} (h : to σ H (fun o H1 => ti σ H1 (fun i H2 => r o i v H2 (fun H3 => QS σ H3)))) : gSub to ti r v σ H QS := h
theorem i_setL {p : Addr} {xs ys : List V} {k : Int} {j : Nat} (e : H p = some (.lst xs)) (hj : ixN xs.length k = some j) (w : xs.set j v = ys) (h : ∀ H2, H2 p = some (.lst ys) → (∀ b, b ≠ p → H2 b = H b) → QH H2) : rSetL (.ref p) (.int k) v H QH :=
  ⟨p, xs, k, j, rfl, rfl, e, hj, h _ (by rw [w]; exact upd_same) (fun b hb => upd_ne hb)⟩
theorem i_gtup {a : Addr} {xs : List V} {n : Nat} (s : SqT K H a xs) (hn : xs.length = n) (h : gs xs σ H QS) : gTup K n gs (.ref a) σ H QS := ⟨a, xs, rfl, s, hn, h⟩
theorem i_gc {vs : List V} (h : g v σ H (fun σ' H' => gs vs σ' H' QS)) : gCons g gs (v :: vs) σ H QS := ⟨v, vs, rfl, h⟩
theorem i_gn (h : QS σ H) : gNil [] σ H QS := ⟨rfl, h⟩
/-! methods of lists -/
theorem i_bm {T : String} {r : V → List V → Hp → VK → Prop} (h : to σ H (fun x H1 => tyV K T x H1 ∧ tr σ H1 (fun xs H2 => r x xs H2 Q))) : tBM K T r to tr σ H Q := h
theorem tyL {p : Addr} {xs : List V} (e : H p = some (.lst xs)) : tyV K "list" (.ref p) H := Or.inl ⟨rfl, _, SqL.of e⟩
theorem i_app {p : Addr} {xs : List V} (e : H p = some (.lst xs)) (l : xs.length < 100000) (h : ∀ H2, H2 p = some (.lst (xs ++ [y])) → (∀ b, b ≠ p → H2 b = H b) → Q .non H2) : rAppend (.ref p) [y] H Q :=
  ⟨p, xs, y, rfl, rfl, e, Nat.lt_of_lt_of_le l (by decide), h _ upd_same (fun b hb => upd_ne hb)⟩
/-! errors' __init__ -/
def rVeI (K : PySem.W.Frag) (vs : List V) (H1 : Hp) (Q : VK) : Prop := ∃ (a C : Addr) (ws : List V), vs = .ref a :: ws ∧ ws.length ≤ 1000 ∧ OexC K C ∧ H1 a = some (exo a C none) ∧ Q .non H1
theorem i_tve (h : tr σ H (fun vs H1 => rVeI K vs H1 Q)) : tVeI K tr σ H Q := h
theorem i_tve1 {a C : Addr} {ws : List V} (T : OexC K C) (e : H a = some (exo a C none)) (l : ws.length ≤ 1000) (h : Q .non H) : rVeI K (.ref a :: ws) H Q := ⟨a, C, ws, rfl, l, T, e, h⟩
def rOst (K : PySem.W.Frag) (f : Str) (y x : V) (H2 : Hp) (P : Hp → Prop) : Prop := ∃ a C : Addr, x = .ref a ∧ OexC K C ∧ PySem.W.findIn K (.ref C) f = some none ∧
  ((H2 a = some (exo a C none) ∧ ∀ dx, H2 dx = none → dx ≠ a → P (upd (upd H2 dx (exd dx [(f, y)])) a (exo a C (some dx)))) ∨
    ∃ (dx : Addr) (fs : List (Str × V)), H2 a = some (exo a C (some dx)) ∧ H2 dx = some (exd dx fs) ∧ fs.length ≤ 900 ∧ P (upd H2 dx (exd dx ((f, y) :: fs))))
theorem i_ost {f : Str} (h : te σ H (fun y H1 => to σ H1 (fun x H2 => rOst K f y x H2 (fun H3 => D.nx σ H3)))) : tOst K f to te D σ H := h
theorem i_ost1 {f : Str} {a C : Addr} (T : OexC K C) (n : PySem.W.findIn K (.ref C) f = some none) (e : H a = some (exo a C none)) (h : ∀ dx, H dx = none → dx ≠ a → QH (upd (upd H dx (exd dx [(f, y)])) a (exo a C (some dx)))) : rOst K f y (.ref a) H QH :=
  ⟨a, C, rfl, T, n, .inl ⟨e, h⟩⟩
theorem i_fmtI {n : Int} (l : ZR.Sz 1900 n) (h : Q (.str (toString n)) H) : rFmt (.int n) H Q := .inr ⟨n, rfl, PySem.Flt.log2_lt_of (by decide) (l.mono (by decide)), h⟩
theorem i_js1 {ts : List TE} {acc z : Str} {QJ : Str → Hp → Prop} (l : (acc ++ z).length ≤ sizeLine) (h : tJs ts (acc ++ z) σ H QJ) : ∃ y : Str, V.str z = .str y ∧ (acc ++ y).length ≤ sizeLine ∧ tJs ts (acc ++ y) σ H QJ := ⟨z, rfl, l, h⟩
theorem bits_small {n : Int} {k : Nat} (h : ZR.Sz k n) : ¬ ((k : Int) < (Builtin.Int.intBits n : Nat)) := by
  have := (intBits_le_iff (m := k) (x := n)).mpr h
  omega
theorem text_small {n : Int} (h : ZR.Sz 1900 n) : (Str.ofString (toString n)).length ≤ 1901 := by
  have := int_text_length_le10 (k := 1900) (a := n) (by decide) (Nat.lt_of_lt_of_le (show n.natAbs < 2 ^ 1900 from h) (Nat.pow_le_pow_left (by decide) 1900))
  rw [PySem.ofString_length]
  exact this
/-! items by written places -/
theorem i_ix0 {p : Addr} {x0 : V} {xs : List V} (s : SqL K H p (x0 :: xs)) (h : Q x0 H) : rIxL K (.ref p) (.int 0) H Q := i_ixL (k := 0) s rfl h
theorem i_ix1 {p : Addr} {x0 x1 : V} {xs : List V} (s : SqL K H p (x0 :: x1 :: xs)) (h : Q x1 H) : rIxL K (.ref p) (.int 1) H Q := i_ixL (k := 1) s rfl h
theorem i_ix2 {p : Addr} {x0 x1 x2 : V} {xs : List V} (s : SqL K H p (x0 :: x1 :: x2 :: xs)) (h : Q x2 H) : rIxL K (.ref p) (.int 2) H Q := i_ixL (k := 2) s rfl h
end
end Z
namespace Z
open PySem PySem.Spec PyProof.Rows L2
/-! the same rules where the written part stands by its own letter -/
section
variable {X : Cx} {K : PySem.W.Frag} {e : Expr} {te : TE} {f : Str} {pos : Pos}
theorem k_fld (hK : X.K = K) (he : PE X e te) (hb : attributeBase e f X.env (eval e X.env) = eval e X.env) : PE X (.Attribute e f pos) (tFld K te f) := by
  subst hK
  exact pe_fld he hb
theorem k_ixL (hK : X.K = K) : IxR X (rIxL K) := by
  subst hK
  exact ix_list
theorem k_tup {es : List Expr} {k n : Nat} {t : TGs} (hK : X.K = K) (hc : X.calm = true) (h : PGs X es t) (hn : (assignEach es X.env).length = n := by rfl) (hst : (assignEach es X.env).findIdx? (·.1) = none := by rfl) : PG X (.Tuple es k pos) (gTup K n t) := by
  subst hK
  exact pg_tup hc h hn hst
theorem k_eqD (hK : X.K = K) (hu : X.A.units + 64 < cLine) : OpR X (compareOp .Eq) (rEqD K) := by
  subst hK
  exact op_eqD hu
theorem k_neD (hK : X.K = K) (hu : X.A.units + 64 < cLine) : OpR X (compareOp .NotEq) (rNeD K) := by
  subst hK
  exact op_neD hu
/-- len of a list or a tuple -/
def rLen (K : PySem.W.Frag) : List V → Hp → VK → Prop := fun xs H Q => ∃ p ys, xs = [.ref p] ∧ (SqL K H p ys ∨ SqT K H p ys) ∧ Q (.int ys.length) H
theorem k_len (hK : X.K = K) : CallR X (.builtin "len") (rLen K) := by
  subst hK
  exact call_len_seq
theorem i_lenL {p : Addr} {xs : List V} {H : Hp} {Q : VK} (s : SqL K H p xs) (h : Q (.int xs.length) H) : rLen K [.ref p] H Q := ⟨p, xs, rfl, .inl s, h⟩
theorem i_lenT {p : Addr} {xs : List V} {H : Hp} {Q : VK} (s : SqT K H p xs) (h : Q (.int xs.length) H) : rLen K [.ref p] H Q := ⟨p, xs, rfl, .inr s, h⟩
end
section
variable {K : PySem.W.Frag} {σ : L2.St} {H : Hp} {D : Ends} {Q : VK} {te : TE}
theorem i_was {c cls : Value} {i : Nat} {ts : Addr → Value → Option Addr → TS} {Wout : WX} {d : Option Addr} (hx : PySem.W.exmOne K cls c = some true)
    (h : ∀ a, H a = none → ts a cls d { nx := fun σ' H' => D.nx (σ'.set i none) H', rt := D.rt, bk := fun σ' H' => D.bk (σ'.set i none) H', ct := fun σ' H' => D.ct (σ'.set i none) H' } (σ.set i (some (.ref a))) H) :
    wAs K c i ts Wout D cls d σ H := ⟨true, hx, fun _ => h, fun q => by cases q⟩
def rXf (a : Addr) (cls : Value) (d : Option Addr) (C : Addr) (f : Str) (x : V) (H1 : Hp) (Q : VK) : Prop := x = .ref a ∧ cls = .ref C ∧ ∃ (dd : Addr) (fs : List (Str × V)) (v : V), d = some dd ∧ H1 dd = some (.xd fs) ∧ fs.lookup f = some v ∧ Q v H1
theorem i_xf {a C : Addr} {cls : Value} {d : Option Addr} {f : Str} (h : te σ H (fun x H1 => rXf a cls d C f x H1 Q)) : tXf a cls d C f te σ H Q := h
theorem i_xf1 {a C dd : Addr} {f : Str} {v : V} (e : H dd = some (.xd [(f, v)])) (h : Q v H) : rXf a (.ref C) (some dd) C f (.ref a) H Q :=
  ⟨rfl, rfl, dd, _, v, rfl, e, by simp [List.lookup], h⟩
end
end Z
namespace Z
open PySem PySem.Spec PyProof.Rows L2
/-! facts put together -/
theorem exm_in {K : PySem.W.Frag} {C D : Addr} {b : Bool} (e : PySem.W.subIn K (.ref C) (.type "BaseException") = some true) (i : PySem.W.isClsIn K C = true) (ty : PySem.W.typeIn K (.ref C) = some (.type "type")) (s : PySem.W.subIn K (.ref D) (.ref C) = some b) :
    PySem.W.exmOne K (.ref D) (.ref C) = some b := by
  unfold PySem.W.exmOne
  rw [if_pos (by rw [e]; rfl)]
  unfold PySem.W.kitCls
  have hc : (PySem.W.clsIn K C).isSome = true := i
  show (if ((PySem.W.clsIn K C).isSome && PySem.W.typeIn K (.ref C) == some (.type "type")) = true then PySem.W.subIn K (.ref D) (.ref C) else none) = some b
  rw [if_pos, s]
  rw [hc, ty]
  simp
theorem refs_ve (T : Addr) : PySem.HandSPX.refsVE [.ref T, .type "ValueError", .type "Exception", .type "BaseException", .type "object"] = true := by
  show PySem.HandSPX.refsVE [.type "ValueError", .type "Exception", .type "BaseException", .type "object"] = true
  decide +kernel
theorem kit_self {K : PySem.W.Frag} {C : Addr} : PySem.W.kitOne K (.ref C) (.ref C) = some true := by
  unfold PySem.W.kitOne
  rw [if_pos (by simp)]
section
variable {P : Program} {w : World} {K : PySem.W.Frag} {mg : Str → Option Value} {base h : Heap} {f C : Addr} {fd : FuncData} {ps : List Str} {x : Str} {k : Nat} {sp : Sp}
theorem mk_cal (X : K.In h) (G : h.Ns mainGlobals mg) (a : PySem.W.nsIn K mainGlobals x = some (some (.ref f))) (kk : PySem.W.keepIn K (.ref f) = true) (F : FnOk P w K mg base (L2.CX P w) k f fd ps sp) (b : Binds K fd ps []) : Cal P w K mg base x k sp :=
  ⟨f, PySem.W.mg_of X G a, kk, fnR_of F b⟩
theorem mk_calM (m : Meth K C x f) (F : FnOk P w K mg base (L2.CX P w) k f fd ps sp) (b : Binds K fd ps []) : CalM P w K mg base C x k sp := ⟨f, m, fnR_of F b⟩
theorem mk_calI (X : K.In h) (G : h.Ns mainGlobals mg) (a : PySem.W.nsIn K mainGlobals x = some (some (.ref C))) (m : Mk K C f) (F : FnOk P w K mg base (L2.CX P w) k f fd ps sp) (b : Binds K fd ps []) : CalI P w K mg base x C k sp :=
  ⟨PySem.W.mg_of X G a, f, m, fnR_of F b⟩
theorem mk_calO (a : PySem.W.findIn K (.ref C) x = some (some (.ref f))) (i : PySem.W.isFn K (.ref f) = true) (s : PySem.W.selfFirst K C = true) (F : FnOk P w K mg base (L2.CX P w) k f fd ps sp) (b : Binds K fd ps []) : CalO P w K mg base C x k sp :=
  ⟨f, ⟨a, i⟩, s, fnR_of F b⟩
theorem mk_calK {mc : Value} {p : Addr} (r : ClX.CRead K C mc) (m : ClX.CMet K C mc x p f) (F : FnOk P w K mg base (L2.CX P w) k f fd ps sp) (b : Binds K fd ps []) : CalK P w K mg base C x k sp := ⟨mc, p, f, r, m, fnR_of F b⟩
theorem mk_calX (X : K.In h) (G : h.Ns mainGlobals mg) (a : PySem.W.nsIn K mainGlobals x = some (some (.ref C))) (o : OexC K C) (i : PySem.W.findIn K (.ref C) "__init__" = some (some (.ref f))) (t : PySem.W.typeIn K (.ref f) = some (.type "function"))
    (F : FnOk P w K mg base (L2.CX P w) k f fd ps sp) (b : Binds K fd ps []) : CalX P w K mg base x C k ps sp := ⟨PySem.W.mg_of X G a, o, f, fd, i, t, F, b⟩
theorem mk_calT {mc : Value} (X : K.In h) (G : h.Ns mainGlobals mg) (a : PySem.W.nsIn K mainGlobals x = some (some (.ref C))) (r : ClX.CRead K C mc) (v : PySem.W.findCls K (.ref C) mc "__init__" = some (.val (.builtin "ValueError.__init__"))) : CalT K mg x :=
  ⟨C, mc, PySem.W.mg_of X G a, r, v⟩
end
end Z

set_option Elab.async false
set_option linter.all false
set_option maxRecDepth 100000
set_option maxHeartbeats 4000000
/-! texts: str(x) of own things, s * n, comprehensions over texts -/
namespace Z
open PySem PySem.Spec PyProof.Rows L2
section
variable {X : Cx} {k j : Nat} {f C : Addr} {sp : Sp}
def strO (Q : VK) : VK := fun v H' => ∃ z, v = .str z ∧ Q (.str z) H'
/-- str(x), x an instance with its own __str__ -/
def rStrOwn (C : Addr) (sp : Sp) : List V → Hp → VK → Prop := fun xs H Q => ∃ a dx fs, xs = [.ref a] ∧ H a = some (.ins C dx fs) ∧
  sp [.ref a] H (strO Q) (fun _ _ _ => False)
/-- s * n -/
def rMulS : R2 := fun x y H Q => ∃ (z : Str) (n : Int), x = .str z ∧ y = .int n ∧ 2 ≤ n ∧ n ≤ 1000 ∧ z.length ≤ 1000 ∧ Q (.str (Txt.mul z n)) H
end
/-! ### comprehensions over texts -/
section
variable {K : PySem.W.Frag} {σ : L2.St} {H : Hp} {D : Ends} {te : TE} {tt : TT} {g : TG} {Q : VK}
def rLcS (g : TG) (tt : TT) (te : TE) (vs : List Nat) (σ : L2.St) (Q : VK) (x : V) (H1 : Hp) : Prop := ∃ z, x = .str z ∧ ∀ D, H1 D = none → ∃ W : Nat → Nat → Hp → Prop, (∃ m, W 0 m (upd H1 D (.lst []))) ∧ ∀ i m H, W i m H →
  ((Its z).stop i H ∧ Q (.ref D) H) ∨ ((Its z).go i H ∧ ∃ Nx : Hp → Prop, (∀ H', Nx H' → ∃ m', m' < m ∧ W (i + 1) m' H') ∧ ∀ x H', (Its z).yld i H x H' → g x (wipe σ vs) H' fun σ2 H2 => wipe σ2 vs = wipe σ vs ∧ tt σ2 H2 fun b H3 =>
    if b = true then te σ2 H3 fun y H4 => ∃ acc, H4 D = some (.lst acc) ∧ acc.length < sizeLine ∧ Nx (upd H4 D (.lst (acc ++ [y]))) else Nx H3)
theorem i_lcS0 {tl : TE} {vs : List Nat} (h : tl σ H (fun x H1 => rLcS g tt te vs σ Q x H1)) : tLc (iStr tl) g tt te vs σ H Q := h
theorem i_lcS {z : Str} {vs : List Nat} (Pv : Nat → List V → Hp → Prop) (h0 : ∀ D H', H D = none → Same H H' → H' D = some (.lst []) → (∀ b, b ≠ D → H' b = H b) → Pv 0 [] H')
    (hs : ∀ i c D ys H1, H D = none → (TL.tl z)[i]? = some c → H1 D = some (.lst ys) → Pv i ys H1 → g (.str ⟨#[c]⟩) (wipe σ vs) H1 fun σ2 H2 => wipe σ2 vs = wipe σ vs ∧ tt σ2 H2 fun b H3 => if b = true then te σ2 H3 fun y H4 => rLcE D Pv i y H4 else LcS D Pv (i + 1) H3)
    (hd : ∀ D ys H1, H D = none → H1 D = some (.lst ys) → Pv (TL.tl z).length ys H1 → Q (.ref D) H1) : rLcS g tt te vs σ Q (.str z) H := by
  refine ⟨z, rfl, fun D hD => ?_⟩
  have hsz : z.cps.size = (TL.tl z).length := (Array.length_toList).symm
  refine ⟨fun i m H' => m = z.cps.size - i ∧ i ≤ z.cps.size ∧ LcS D Pv i H', ⟨z.cps.size, by simp, Nat.zero_le _, [], upd_same, h0 D _ hD (fun b o e => by rw [upd_ne (ne_of_none e hD)]; exact e) upd_same (fun b hb => upd_ne hb)⟩, ?_⟩
  rintro i m H' ⟨rfl, hi, ys, hD', p⟩
  by_cases hlt : i < z.cps.size
  · refine .inr ⟨hlt, LcS D Pv (i + 1), fun H'' p' => ⟨z.cps.size - (i + 1), by omega, rfl, hlt, p'⟩, fun x H'' y => ?_⟩
    obtain ⟨e, c, hc, rfl⟩ := y
    subst e
    refine hs i c D ys _ hD ?_ hD' p
    show z.cps.toList[i]? = some c
    rw [Array.getElem?_toList]
    exact hc
  · have e : i = z.cps.size := by omega
    refine .inl ⟨Nat.le_of_eq e.symm, hd D ys H' hD hD' ?_⟩
    rw [← hsz, ← e]
    exact p
end
end Z
namespace Z
open PySem PySem.Spec PyProof.Rows L2
section
variable {K : PySem.W.Frag} {σ : L2.St} {H : Hp} {D : Ends} {te ta tb tc : TE} {tlo thi : TO} {QO : Option Int → Hp → Prop} {Q : VK} {z : Str}
theorem i_chain {r r' : R2} (h : ta σ H (fun x H1 => tb σ H1 (fun y H2 => r x y H2 (fun v H3 => ∃ k, v = .bl k ∧ (if k = true then tc σ H3 (fun w' H4 => r' y w' H4 Q) else Q (.bl false) H3))))) : tChain r r' ta tb tc σ H Q := h
theorem i_sl {r : V → Option Int → Option Int → Hp → VK → Prop} (h : te σ H (fun x H1 => tlo σ H1 (fun l H2 => thi σ H2 (fun u H3 => r x l u H3 Q)))) : tSl r te tlo thi σ H Q := h
theorem i_noPart (h : QO none H) : tNoPart σ H QO := h
def rPart (x : V) (H1 : Hp) (QO : Option Int → Hp → Prop) : Prop := ∃ i, x = .int i ∧ QO (some i) H1
theorem i_part (h : te σ H (fun x H1 => rPart x H1 QO)) : tPart te σ H QO := h
theorem i_part1 {i : Int} (h : QO (some i) H) : rPart (.int i) H QO := ⟨i, rfl, h⟩
theorem i_slL {lo hi : Option Int} {a : Addr} {xs ys : List V} (s : SqL K H a xs) (e : cutV xs lo hi = ys) (h : ∀ p H', H p = none → Same H H' → H' p = some (.lst ys) → (∀ b, b ≠ p → H' b = H b) → Q (.ref p) H') : rSlL K (.ref a) lo hi H Q := by
  subst e
  exact ⟨a, xs, rfl, s, fun p hp => h p _ hp (fun b o e => by rw [upd_ne (ne_of_none e hp)]; exact e) upd_same (fun b hb => upd_ne hb)⟩
theorem i_ixS {k : Nat} {c : Nat} (hz : z.length ≤ 100000) (e : (TL.tl z)[k]? = some c) (h : Q (.str ⟨#[c]⟩) H) : rIxS (.str z) (.int (k : Nat)) H Q := ⟨z, _, c, rfl, rfl, Nat.le_trans hz (by decide), atI_nat e, h⟩
theorem i_ixS0 {c : Nat} {r : List Nat} (hz : z.length ≤ 100000) (e : TL.tl z = c :: r) (h : Q (.str ⟨#[c]⟩) H) : rIxS (.str z) (.int 0) H Q := i_ixS (k := 0) hz (by rw [e]; rfl) h
def rRevL (K : PySem.W.Frag) (x : V) (H1 : Hp) (Q : VK) : Prop := ∃ a xs, x = .ref a ∧ SqL K H1 a xs ∧ ∀ p, H1 p = none → Q (.ref p) (upd H1 p (.lst xs.reverse))
theorem i_revL (h : te σ H (fun x H1 => rRevL K x H1 Q)) : tRevL K te σ H Q := h
theorem i_revL1 {a : Addr} {xs : List V} (s : SqL K H a xs) (h : ∀ p H', H p = none → Same H H' → H' p = some (.lst xs.reverse) → (∀ b, b ≠ p → H' b = H b) → Q (.ref p) H') : rRevL K (.ref a) H Q :=
  ⟨a, xs, rfl, s, fun p hp => h p _ hp (fun b o e => by rw [upd_ne (ne_of_none e hp)]; exact e) upd_same (fun b hb => upd_ne hb)⟩
end
end Z
namespace Z
open PySem PySem.Spec PyProof.Rows L2
section
variable {K : PySem.W.Frag} {H : Hp} {Q : VK}
theorem i_cat {l b : Addr} {xs zs : List V} (h1 : H l = some (.lst xs)) (h2 : H b = some (.lst zs)) (hl : xs.length + zs.length ≤ 100000) (h : ∀ p H', H p = none → Same H H' → H' p = some (.lst (xs ++ zs)) → (∀ b, b ≠ p → H' b = H b) → Q (.ref p) H') : rCat (.ref l) (.ref b) H Q :=
  ⟨l, b, xs, zs, rfl, rfl, h1, h2, Nat.le_trans hl (by decide), fun p hp => h p _ hp (fun b o e => by rw [upd_ne (ne_of_none e hp)]; exact e) upd_same (fun b hb => upd_ne hb)⟩
end
end Z
namespace Z
open PySem PySem.Spec PyProof.Rows L2
theorem ixN_n {n j : Nat} (hj : j < n) : ixN n (j : Int) = some j := by
  unfold ixN
  rw [if_pos (by omega), if_pos (by omega)]
  simp
/-! lists of ints and texts, the same ones -/
def sv : Int ⊕ Str → V
  | .inl i => .int i
  | .inr z => .str z
def sd : Int ⊕ Str → PyData
  | .inl i => .int i
  | .inr z => .str z
section
variable {K : PySem.W.Frag} {H : Hp} {Q : VK} {p q : Addr}
end
end Z
namespace Z
open PySem PySem.Spec PyProof.Rows L2
end Z

set_option Elab.async false
set_option linter.all false
set_option maxRecDepth 100000
set_option maxHeartbeats 4000000
/-! texts of numbers, texts of ratios: the mathematics -/
namespace ZS
open PySem TL PySem.NumText
def dig (c : Nat) : Bool := decide (48 ≤ c ∧ c ≤ 57)
/-- the digits of a number from 1 on, at most thirty -/
def posL (l : List Nat) : Bool := decide (1 ≤ l.length ∧ l.length ≤ 30) && (!(l.head? == some 48) && l.all dig)
def sgnL (l : List Nat) : Bool := if l.head? = some 45 then posL l.tail else (decide (l = [48]) || posL l)
def iv (z : Str) : Int := (intText? z).getD 0
/-! ### the text of a number -/
def T (n : Int) : Str := Str.ofString (toString n)
/-! ### the stroke -/
abbrev slash : Str := Str.ofString "/"
/-- what read does: the place of the fault, or the two integers -/
def rdF (z : Str) : Int ⊕ (Int × Int) :=
  let p := Txt.partition z slash
  if sgnL (tl p.1) = true then (if p.2.1 = Str.empty then .inr (iv p.1, 1) else if posL (tl p.2.2) = true then .inr (iv p.1, iv p.2.2) else .inl 1) else .inl 0
end ZS
namespace ZS
open PySem TL PySem.NumText
end ZS
namespace ZS
open PySem TL
end ZS
namespace ZS
open PySem TL PySem.NumText
/-- the law's own look: the digits d of the word l -/
def intB (d l : List Nat) : Bool := decide (1 ≤ d.length ∧ d.length ≤ 30) && (d.all dig && (!(d.head? == some 48) || decide (l = [48])))
end ZS
namespace ZS
open PySem TL
end ZS
namespace ZS
open PySem TL
end ZS

set_option linter.all false
namespace OM
variable {α : Type} [DecidableEq α]
inductive Rch (E : List (α × α)) : α → α → Prop
  | refl (a : α) : Rch E a a
  | step {a b c : α} : (a, b) ∈ E → Rch E b c → Rch E a c
theorem Rch.trans {E : List (α × α)} {a b c : α} (h : Rch E a b) (k : Rch E b c) : Rch E a c := by
  induction h with
  | refl => exact k
  | step e _ ih => exact .step e (ih k)
theorem Rch.one {E : List (α × α)} {a b : α} (h : (a, b) ∈ E) : Rch E a b := .step h (.refl _)
theorem Rch.mono {E F : List (α × α)} (hs : ∀ p ∈ E, Rch F p.1 p.2) {a b : α} (h : Rch E a b) : Rch F a b := by
  induction h with
  | refl => exact .refl _
  | step e _ ih => exact (hs _ e).trans ih
theorem Rch.mem {E : List (α × α)} {N : List α} (hE : ∀ p ∈ E, p.1 ∈ N ∧ p.2 ∈ N) {a b : α} (h : Rch E a b) : a = b ∨ (a ∈ N ∧ b ∈ N) := by
  induction h with
  | refl => exact .inl rfl
  | step e _ ih =>
    rcases ih with rfl | h
    · exact .inr (hE _ e)
    · exact .inr ⟨(hE _ e).1, h.2⟩
open Classical in
noncomputable def cl (E : List (α × α)) (a b : α) : Bool := decide (Rch E a b)
theorem cl_iff {E : List (α × α)} {a b : α} : cl E a b = true ↔ Rch E a b := by simp [cl]
theorem cl_refl (E : List (α × α)) (a : α) : cl E a a = true := cl_iff.mpr (.refl a)
theorem cl_trans {E : List (α × α)} {a b c : α} (h : cl E a b = true) (k : cl E b c = true) : cl E a c = true := cl_iff.mpr ((cl_iff.mp h).trans (cl_iff.mp k))
theorem cl_congr {E F : List (α × α)} (h : ∀ p ∈ E, Rch F p.1 p.2) (k : ∀ p ∈ F, Rch E p.1 p.2) : cl E = cl F := by
  funext a b
  rw [Bool.eq_iff_iff, cl_iff, cl_iff]
  exact ⟨Rch.mono h, Rch.mono k⟩
/-! ### Warshall -/
def wm (E : List (α × α)) : List α → α → α → Bool
  | [], a, b => decide (a = b) || decide ((a, b) ∈ E)
  | m :: ms, a, b => wm E ms a b || (wm E ms a m && wm E ms m b)
theorem wm_mono {E : List (α × α)} {m : α} {ms : List α} {a b : α} (h : wm E ms a b = true) : wm E (m :: ms) a b = true := by simp [wm, h]
theorem wm_base {E : List (α × α)} {a b : α} (h : wm E [] a b = true) : ∀ ms, wm E ms a b = true
  | [] => h
  | _ :: ms => wm_mono (wm_base h ms)
theorem wm_refl (E : List (α × α)) (ms : List α) (a : α) : wm E ms a a = true := wm_base (by simp [wm]) ms
theorem wm_edge {E : List (α × α)} {a b : α} (h : (a, b) ∈ E) (ms : List α) : wm E ms a b = true := wm_base (by simp [wm, h]) ms
theorem wm_trans {E : List (α × α)} : ∀ {ms : List α} {m a b : α}, m ∈ ms → wm E ms a m = true → wm E ms m b = true → wm E ms a b = true
  | m' :: ms, m, a, b, hm, h1, h2 => by
    simp only [wm, Bool.or_eq_true, Bool.and_eq_true] at h1 h2 ⊢
    by_cases e : m = m'
    · subst e
      have h1' : wm E ms a m = true := by rcases h1 with h | h; exact h; exact h.1
      have h2' : wm E ms m b = true := by rcases h2 with h | h; exact h; exact h.2
      exact .inr ⟨h1', h2'⟩
    · have hm : m ∈ ms := by
        rcases List.mem_cons.mp hm with h | h
        · exact absurd h e
        · exact h
      rcases h1 with h1 | ⟨h1, h1'⟩ <;> rcases h2 with h2 | ⟨h2, h2'⟩
      · exact .inl (wm_trans hm h1 h2)
      · exact .inr ⟨wm_trans hm h1 h2, h2'⟩
      · exact .inr ⟨h1, wm_trans hm h1' h2⟩
      · exact .inr ⟨h1, h2'⟩
theorem wm_rch {E : List (α × α)} : ∀ {ms : List α} {a b : α}, wm E ms a b = true → Rch E a b
  | [], a, b, h => by
    simp only [wm, Bool.or_eq_true, decide_eq_true_eq] at h
    rcases h with rfl | h
    · exact .refl _
    · exact .one h
  | m :: ms, a, b, h => by
    simp only [wm, Bool.or_eq_true, Bool.and_eq_true] at h
    rcases h with h | ⟨h, k⟩
    · exact wm_rch h
    · exact (wm_rch h).trans (wm_rch k)
theorem rch_wm {E : List (α × α)} {ms : List α} (hE : ∀ p ∈ E, p.2 ∈ ms) {a b : α} (h : Rch E a b) : wm E ms a b = true := by
  induction h with
  | refl => exact wm_refl _ _ _
  | step e _ ih => exact wm_trans (hE _ e) (wm_edge e ms) ih
theorem wm_cl {E : List (α × α)} {ms : List α} (hE : ∀ p ∈ E, p.2 ∈ ms) : wm E ms = cl E := by
  funext a b
  rw [Bool.eq_iff_iff, cl_iff]
  exact ⟨wm_rch, rch_wm hE⟩
/-! ### paths of a length -/
def Pth (E : List (α × α)) : Nat → α → α → Prop
  | 0, a, b => a = b
  | k + 1, a, b => a = b ∨ ∃ c, (a, c) ∈ E ∧ Pth E k c b
theorem Pth.refl (E : List (α × α)) : ∀ (k : Nat) (a : α), Pth E k a a
  | 0, _ => rfl
  | _ + 1, _ => .inl rfl
theorem Pth.succ {E : List (α × α)} : ∀ {k : Nat} {a b : α}, Pth E k a b → Pth E (k + 1) a b
  | 0, _, _, h => .inl h
  | k + 1, _, _, h => by
    rcases h with rfl | ⟨c, e, h⟩
    · exact .inl rfl
    · exact .inr ⟨c, e, h.succ⟩
theorem Pth.le {E : List (α × α)} {k j : Nat} (h : k ≤ j) {a b : α} (p : Pth E k a b) : Pth E j a b := by
  induction h with
  | refl => exact p
  | step _ ih => exact ih.succ
theorem Pth.mem {E : List (α × α)} {N : List α} (hE : ∀ p ∈ E, p.1 ∈ N ∧ p.2 ∈ N) : ∀ {k : Nat} {a b : α}, Pth E k a b → b ∈ N → a ∈ N
  | 0, _, _, h, hb => h ▸ hb
  | k + 1, _, _, h, hb => by
    rcases h with rfl | ⟨c, e, _⟩
    · exact hb
    · exact (hE _ e).1
open Classical in
open Classical in
open Classical in
/-! ### the law's own closure -/
def put (f : α → List α) (a : α) (l : List α) : α → List α := fun x => if x = a then l else f x
def turn1 (f : α → List α) (p : α × α) : α → List α := put f p.1 (f p.1 ++ (f p.2).filter fun x => !decide (x ∈ f p.1))
def turn (E : List (α × α)) (f : α → List α) : α → List α := E.foldl turn1 f
def turns (E : List (α × α)) : Nat → (α → List α) → α → List α
  | 0, f => f
  | n + 1, f => turns E n (turn E f)
end OM

set_option linter.all false
namespace OM
variable {α : Type} [DecidableEq α]
/-! ### pairs and covers -/
def ab (N : List α) (R : α → α → Bool) (a : α) : List α := N.filter (R a)
def prs (N : List α) (R : α → α → Bool) : List (α × α) := N.flatMap fun a => ((ab N R a).filter fun b => !decide (a = b)).map fun b => (a, b)
def btw (N : List α) (R : α → α → Bool) (a b : α) : List α := (ab N R a).filter fun c => R c b
def cvs (N : List α) (R : α → α → Bool) : List (α × α) := (prs N R).filter fun p => decide ((btw N R p.1 p.2).length = 2)
theorem mem_ab {N : List α} {R : α → α → Bool} {a b : α} : b ∈ ab N R a ↔ b ∈ N ∧ R a b = true := List.mem_filter
theorem mem_prs {N : List α} {R : α → α → Bool} {a b : α} : (a, b) ∈ prs N R ↔ a ∈ N ∧ b ∈ N ∧ R a b = true ∧ a ≠ b := by
  simp only [prs, List.mem_flatMap, List.mem_map, List.mem_filter, Prod.mk.injEq, mem_ab]
  constructor
  · rintro ⟨x, hx, y, ⟨hy, hn⟩, rfl, rfl⟩
    exact ⟨hx, hy.1, hy.2, by simpa using hn⟩
  · rintro ⟨h1, h2, h3, h4⟩
    exact ⟨a, h1, b, ⟨⟨h2, h3⟩, by simpa using h4⟩, rfl, rfl⟩
theorem mem_btw {N : List α} {R : α → α → Bool} {a b c : α} : c ∈ btw N R a b ↔ c ∈ N ∧ R a c = true ∧ R c b = true := by
  simp only [btw, List.mem_filter, mem_ab, and_assoc]
theorem mem_cvs {N : List α} {R : α → α → Bool} {a b : α} : (a, b) ∈ cvs N R ↔ (a ∈ N ∧ b ∈ N ∧ R a b = true ∧ a ≠ b) ∧ (btw N R a b).length = 2 := by
  simp only [cvs, List.mem_filter, mem_prs, decide_eq_true_eq]
theorem nodup_two {l : List α} (h : l.Nodup) {a b : α} (ha : a ∈ l) (hb : b ∈ l) (ne : a ≠ b) : l.length = 2 + (l.filter fun c => !decide (c = a) && !decide (c = b)).length := by
  have one : ∀ {l : List α} {a : α}, l.Nodup → a ∈ l → l.length = 1 + (l.filter fun c => !decide (c = a)).length := by
    intro l a
    induction l with
    | nil => intro _ h; cases h
    | cons x l ih =>
      intro hn hm
      obtain ⟨h1, h2⟩ := List.nodup_cons.mp hn
      by_cases e : x = a
      · subst e
        have : l.filter (fun c => !decide (c = x)) = l := List.filter_eq_self.mpr fun c hc => by
          have : c ≠ x := fun e => h1 (e ▸ hc)
          simpa using this
        simp [this]
        omega
      · have hm : a ∈ l := by
          rcases List.mem_cons.mp hm with h | h
          · exact absurd h.symm e
          · exact h
        have := ih h2 hm
        simp [e]
        omega
  have h1 := one h ha
  have h2 := one (a := b) (h.filter fun c => !decide (c = a)) (List.mem_filter.mpr ⟨hb, by simpa using Ne.symm ne⟩)
  rw [List.filter_filter] at h2
  have e : (l.filter fun c => (!decide (c = b)) && !decide (c = a)) = l.filter fun c => !decide (c = a) && !decide (c = b) := by
    congr 1
    funext c
    exact Bool.and_comm _ _
  rw [e] at h2
  omega
/-- covers as the law finds them: f tells what is above -/
def lcv (N : List α) (f : α → List α) (g : α → List α) : List (α × α) := N.flatMap fun a => ((g a).filter fun b => !decide (b = a) && decide (((f a).filter fun c => !(decide (c = a) || decide (c = b)) && decide (b ∈ f c)) = [])).map fun b => (a, b)
/-- no two below each other -/
def Anti (E : List (α × α)) : Prop := ∀ a b, Rch E a b → Rch E b a → a = b
theorem prs_cl {E : List (α × α)} {N : List α} (hE : ∀ p ∈ E, p.1 ∈ N ∧ p.2 ∈ N) : cl (prs N (cl E)) = cl E := by
  refine cl_congr (fun p hp => cl_iff.mp (mem_prs.mp hp).2.2.1) fun p hp => ?_
  by_cases e : p.1 = p.2
  · rw [e]; exact .refl _
  · exact .one (mem_prs.mpr ⟨(hE _ hp).1, (hE _ hp).2, cl_iff.mpr (.one hp), e⟩)
/-- pairs along a line -/
theorem anti_rank {E : List (α × α)} (r : α → Nat) (h : ∀ p ∈ E, p.1 = p.2 ∨ r p.1 < r p.2) : Anti E := by
  have up : ∀ {a b}, Rch E a b → a = b ∨ r a < r b := by
    intro a b k
    induction k with
    | refl => exact .inl rfl
    | step e _ ih =>
      have := h _ e
      rcases this with z | z <;> rcases ih with y | y
      · exact .inl (z.trans y)
      · exact .inr (by dsimp only at z; rw [z]; exact y)
      · exact .inr (by rw [← y]; exact z)
      · exact .inr (Nat.lt_trans z y)
  intro a b k1 k2
  rcases up k1 with e | e
  · exact e
  · rcases up k2 with e2 | e2
    · exact e2.symm
    · omega
theorem anti_sub {E F : List (α × α)} (hs : ∀ p ∈ E, Rch F p.1 p.2) (h : Anti F) : Anti E := fun a b k1 k2 => h a b (k1.mono hs) (k2.mono hs)
end OM

set_option Elab.async false
set_option linter.all false
set_option maxRecDepth 100000
set_option maxHeartbeats 4000000
/-! own __contains__, __len__, __iter__ (which hands back iter of a tuple), list(o) -/
namespace Z
open PySem PySem.Spec PyProof.Rows L2
section
variable {X : Cx} {k j : Nat} {f C : Addr} {sp : Sp}
/-- x in o, o an instance with its own __contains__ -/
def rInOwn (C : Addr) (sp : Sp) (neg : Bool) : R2 := fun x y H Q => ∃ a dx fs, y = .ref a ∧ H a = some (.ins C dx fs) ∧
  sp [.ref a, x] H (fun v H' => ∃ r : Bool, v = .bl r ∧ Q (.bl (r != neg)) H') (fun _ _ _ => False)
/-- len(o) by an own __len__ -/
def rLenOwn (C : Addr) (sp : Sp) : List V → Hp → VK → Prop := fun xs H Q => ∃ a dx fs, xs = [.ref a] ∧ H a = some (.ins C dx fs) ∧
  sp [.ref a] H (fun v H' => ∃ n : Int, v = .int n ∧ (0 ≤ n ∧ n < 2 ^ 63) ∧ Q (.int n) H') (fun _ _ _ => False)
theorem lenRun {Ex : Value → Shared → Prop} {A : Around} {pins : List (Addr × Obj)} {σ : L2.St} {H : Hp} {s : Shared} {Q : VK} {a dx : Addr} {fs : List (Str × V)} (F : FnR X.prog X.w X.K X.mg X.base (L2.CX X.prog X.w) k f sp) (S : Spc X.K C "__len__" f) (hr : Room k A.in1) (e0 : Env0 X.prog X.w X.K X.mg X.base A.in1 X.stack s H)
    (I : Inv X pins σ H s) (ea : H a = some (.ins C dx fs)) (h : sp [.ref a] H (fun v H' => ∃ n : Int, v = .int n ∧ (0 ≤ n ∧ n < 2 ^ 63) ∧ Q (.int n) H') (fun _ _ _ => False)) :
    wpAny (model X.prog X.w) A (call (.builtin "len") [.ref a]) (fun v s' => ∃ n t, v = .int n t ∧ (0 ≤ n ∧ n < 2 ^ 63) ∧ ∃ H', Inv X pins σ H' s' ∧ Q (.int n) H') Ex s := by
  obtain ⟨ox, od, Ja⟩ := instAt I ea
  obtain ⟨m, fr⟩ := I.fr
  refine PySem.W.len_K fr I.ok.mod.kin Ja S.at_ S.fn (wpAny_call (codeAny_mono (F A.in1 X.stack s H [.ref a] [.ref a] _ (fun _ _ _ => False) hr e0 (.cons rfl .nil) h) fun q s' hq => ?_))
  rcases q with e | fl
  · exact (cxN hq).elim
  rcases fl with _ | _ | _ | u'
  · exact False.elim hq
  · exact False.elim hq
  · exact False.elim hq
  obtain ⟨v', H', J', rv, n, ev, hn, q⟩ := I.after hq
  subst ev
  obtain ⟨t, rfl⟩ := rv
  exact ⟨hn, n, _, rfl, hn, H', J'.tok _, q⟩
theorem z_lenOwn (c : CalO X.prog X.w X.K X.mg X.base C "__len__" k sp) (hr : Room j X.A) (hj : k + 1 ≤ j := by decide) : CallR X (.builtin "len") (rLenOwn C sp) := by
  intro pins s σ H xs us Q I r h
  obtain ⟨f, S, sf, F⟩ := c
  obtain ⟨a, dx, fs, rfl, ea, h⟩ := h
  obtain rfl := Vals.ref1 r
  refine wpAny_mono (lenRun F S (hr.mono hj).in1 I.env0.in1 I ea h) (fun v s' hv => ?_) fun _ _ z => z
  obtain ⟨n, t, rfl, _, H', I', q⟩ := hv
  exact ⟨.int n, H', I', ⟨t, rfl⟩, q⟩
/-- iter(t), a tuple: an iterator at its start -/
def TupIt (q t : Addr) (i : Nat) : HO := .ext fun h => h.IsTupleIter q t i
theorem tupIt_ok {P : Program} {w : World} {H : Hp} {h : Heap} {q t : Addr} {i : Nat} (e : h.IsTupleIter q t i) : ObjOk P w H h q (TupIt q t i) := by
  obtain ⟨o, ho, hc, hd⟩ := id e
  refine ⟨e, ⟨o, ho⟩, fun h1 h2 ⟨o1, e1, c1, d1⟩ k => ⟨o1, k _ e1, c1, d1⟩⟩
def rIterT (K : PySem.W.Frag) : List V → Hp → VK → Prop := fun xs H Q => ∃ t ys, xs = [.ref t] ∧ SqT K H t ys ∧ ∀ q, H q = none → Q (.ref q) (upd H q (TupIt q t 0))
theorem cr_iterT : CallR X (.builtin "iter") (rIterT X.K) := by
  intro pins s σ H xs us Q I r h
  obtain ⟨t, ys, rfl, ht, h⟩ := h
  obtain rfl := Vals.ref1 r
  obtain ⟨its, rv, hl, _⟩ := I.tuple ht
  refine Calls.call_function_entry (by decide +kernel) (by decide +kernel) PySem.W.kdk_entry_iter (PySem.W.kdk_args_iter _) ?_
  unfold Builtin.«iter»
  refine wpAny_bind (m := someArgs "iter" 1 2 _) (wpAny_of_eq (a := [Value.ref t]) (by first | rfl | kernel_rfl!) ?_)
  show wpAny _ _ (pyIter (.ref t) >>= _) _ _ _
  refine wpAny_bind (wpAny_pyIter_tuple hl ?_)
  refine wpAny_pure ⟨_, rfl, .ref s.heap.objs.size, _, I.laid (a := s.heap.objs.size) (o := TupIt s.heap.objs.size t 0) (t' := s.toks) (fun b o e => Heap.get?_push_of_some _ e) (Nat.le_refl _) (tupIt_ok ⟨_, Heap.get?_push_size _ rfl, rfl, rfl⟩), rfl, h _ (I.hok.fresh (Nat.le_refl _))⟩
/-- what is known of an iterator that is used up: it stands -/
def DeadIt (q : Addr) : HO := .ext fun h => ∃ o, h.get? q = some o
theorem deadIt_ok {P : Program} {w : World} {H : Hp} {h : Heap} {q : Addr} (e : ∃ o, h.get? q = some o) : ObjOk P w H h q (DeadIt q) := ⟨e, e, fun h1 h2 ⟨o1, e1⟩ k => ⟨o1, k _ e1⟩⟩
theorem nextEnd {prog : Program} {w : World} {A : Around} {E : Value → Shared → Prop} {s : Shared} {q t : Addr} {i : Nat} {its : Array Value} {Q : Option Value → Shared → Prop} (calm : A.handled = none)
    (hit : s.heap.IsTupleIter q t i) (ht : s.heap.IsTuple t its) (out : its[i]? = none) (hQ : ∀ h', (∀ b o, b ≠ q → s.heap.get? b = some o → h'.get? b = some o) → (∃ o, h'.get? q = some o) → Q none { s with heap := h' }) :
    wpAny (model prog w) A (pyNext (.ref q)) Q E s := by
  obtain ⟨ob, ho, hc, hd⟩ := id hit
  obtain ⟨ot, hot, _, nn, hdt⟩ := ht
  have st : ∃ o, (s.heap.update q (Obj.mapFields (·.setIfInBounds 0 Value.none))).get? q = some o := ⟨_, Heap.get?_update_self _ ho (Obj.isFreed_of_fields (Obj.data_mapFields hd _))⟩
  have ot2 : ∀ b o, b ≠ q → s.heap.get? b = some o → (s.heap.update q (Obj.mapFields (·.setIfInBounds 0 Value.none))).get? b = some o := fun b o hb e => (Heap.get?_update_other s.heap _ (Ne.symm hb)).trans e
  unfold pyNext
  refine wpAny_bind (wpAny_attempt (wpAny_callSpecial?_slot (name := Str.ofString "__next__") hit.typeIs F.slot_tuple_iterator_next (wpAny_call_entry F.slot_tuple_iterator_next hit.typeIs F.entry_tuple_iterator_next ?_
    (F.args_tuple_iterator_next_1 _))))
  show wpAny _ _ (field (.ref q) 0 >>= _) _ _ s
  refine wpAny_bind (wpAny_field ho hd (x := .ref t) rfl ?_); show wpAny _ _ (if (Value.ref t == Value.none) = true then _ else _) _ _ s
  rw [if_neg (show ¬ ((Value.ref t == Value.none) = true) from Bool.false_ne_true)]; show wpAny _ _ (field (.ref q) 1 >>= _) _ _ s
  refine wpAny_bind (wpAny_field ho hd (x := .int i 0) rfl ?_); show wpAny _ _ (seqItems? (.ref t) >>= _) _ _ s
  refine wpAny_bind (wpAny_seqItems hot hdt ?_); simp only [Int.toNat_natCast, out]
  refine wpAny_bind (wpAny_rule (wpAny_bind (wpAny_setField ho hd (by simp) ?_))); show wpAny _ _ (newExc (.type "StopIteration") [] >>= _) _ _ _
  refine wpAny_bind ?_; simp only [newExc, newTuple]
  refine wpAny_bind (wpAny_newObj_type ?_ (by size_fits)); refine wpAny_bind (m := firstArgMember _ _) (wpAny_of_eq (a := Value.none) (by first | rfl | (simp only [firstArgMember]; rfl)) ?_)
  refine wpAny_newObj_type ?_ (by size_fits); simp only [raiseNew]
  refine wpAny_bind (wpAny_handled ?_); first | rw [show A.in1.handled = none from calm] | rw [calm]
  refine wpAny_bind (wpAny_pure (wpAny_throw ?_)); refine wpAny_bind (wpAny_isInstance (T := "StopIteration") (b := true) ⟨_, Heap.get?_push_size _ rfl, rfl⟩ isSubtype_stop ?_)
  refine wpAny_pure (hQ _ (fun b o hb e => Heap.get?_push_of_some _ (Heap.get?_push_of_some _ (ot2 b o hb e))) ?_)
  obtain ⟨o, e⟩ := st
  exact ⟨o, Heap.get?_push_of_some _ (Heap.get?_push_of_some _ e)⟩
/-- the walk of a tuple's iterator at q that fills the list at l -/
theorem fillLoop {pins : List (Addr × Obj)} {σ : L2.St} {H : Hp} {q t l : Addr} {ys : List V} {A1 : Around} {Rs : Result → Shared → Prop} (calm : A1.in1.handled = none) (hl : H l = none) (hq : H q = none) (ht : SqT X.K H t ys) (hz : ys.length < 1000) (hlq : l ≠ q)
    (done : ∀ H' s, Inv X pins σ H' s → Same H H' → H' l = some (.lst ys) → Rs (.ok (.ret .none)) s) :
    ∀ (n i : Nat), i + n = ys.length → ∀ (H' : Hp) (s : Shared), Inv X pins σ H' s → Same H H' → H' l = some (.lst (ys.take i)) → H' q = some (TupIt q t i) → codeAny (model X.prog X.w) A1 (.builtin "list.extend.loop" ⟨[.ref l, .ref q, .none], []⟩) Rs s := by
  intro n
  induction n with
  | zero =>
    intro i hi H' s I sm el eq
    refine codeAny_builtin PySem.F.entry_extend_loop ?_
    rw [Around.under_plainId PySem.F.plain_extend_loop _]
    show wpAny _ A1.in1 (pyNext (.ref q) >>= _) _ _ s
    obtain ⟨its, rv, p, _⟩ := I.tuple (Same_seqT sm ht)
    have hit : s.heap.IsTupleIter q t i := (I.hok q _ eq).1
    have out : its.toArray[i]? = none := by
      have := rv.length
      simp
      omega
    refine wpAny_bind (nextEnd calm hit p out fun h' kp ex => wpAny_pure ?_)
    have I2 := I.write (x := q) (e := q) (o := DeadIt q) (h' := h') (t' := s.toks) (by rw [eq]; exact trivial) (.inl rfl) kp ex (deadIt_ok ex)
    refine done _ _ I2 (fun b o e => ?_) ?_
    · rw [upd_ne (ne_of_none e hq)]
      exact sm _ _ e
    · rw [upd_ne hlq, el, List.take_of_length_le (by omega)]
  | succ n ih =>
    intro i hi H' s I sm el eq
    refine codeAny_builtin PySem.F.entry_extend_loop ?_
    rw [Around.under_plainId PySem.F.plain_extend_loop _]
    show wpAny _ A1.in1 (pyNext (.ref q) >>= _) _ _ s
    obtain ⟨its, rv, p, _⟩ := I.tuple (Same_seqT sm ht)
    have hit : s.heap.IsTupleIter q t i := (I.hok q _ eq).1
    have hlen := rv.length
    have lt : i < ys.length := by omega
    obtain ⟨u, hu, ru⟩ := rv.get (List.getElem?_eq_getElem lt)
    have hx : its.toArray[i]? = some u := by simpa using hu
    refine wpAny_bind (wpAny_pyNext_tuple_item hit p hx fun h' hit' sb => ?_)
    have ex : ∃ o, h'.get? q = some o := let ⟨o, e, _⟩ := hit'; ⟨o, e⟩
    have I2 := I.write (x := q) (e := q) (o := TupIt q t (i + 1)) (h' := h') (t' := s.toks) (by rw [eq]; exact trivial) (.inl rfl) (fun b o hb e => sb.extBut b o hb e) ex (tupIt_ok hit')
    show wpAny _ A1.in1 (updateSeq l (·.push u) >>= _) _ _ _
    have el2 : upd H' q (TupIt q t (i + 1)) l = some (.lst (ys.take i)) := by rw [upd_ne hlq]; exact el
    obtain ⟨z, ls, kk, r2, hl2, e2⟩ := I2.lstM el2
    have hti : (ys.take i).length = i := by rw [List.length_take]; omega
    have h1000 : (1000 : Nat) < sizeLine := by rw [sizeLine_eq]; decide
    refine wpAny_bind (wpAny_updateSeq e2 rfl (wpAny_pure ⟨plainId_quiet PySem.F.plain_extend_loop _, ?_⟩) (by rw [List.size_toArray]; omega) (by show (ls.toArray.push u).size ≤ sizeLine + 1; rw [Array.size_push, List.size_toArray]; omega))
    have tk : ys.take (i + 1) = ys.take i ++ [ys[i]] := by rw [List.take_add_one, List.getElem?_eq_getElem lt]; rfl
    refine ih (i + 1) (by omega) _ _ (I2.lset (its' := ls ++ [u]) (ys := ys.take i ++ [ys[i]]) (t' := s.toks) el2 e2 (by simp) (r2.append (.cons ru .nil)) (by rw [List.length_append, List.length_singleton]; omega)) (fun b o e => ?_) ?_ ?_
    · rw [upd_ne (ne_of_none e hl), upd_ne (ne_of_none e hq)]
      exact sm _ _ e
    · rw [upd_same, tk]
    · rw [upd_ne (Ne.symm hlq), upd_same]
/-- list(o), where __iter__ hands back iter of a tuple, and __len__ says how long that is -/
def rListOwn (K : PySem.W.Frag) (C : Addr) (spI spL : Sp) : List V → Hp → VK → Prop := fun xs H Q => ∃ a dx fs t ys, xs = [.ref a] ∧ H a = some (.ins C dx fs) ∧ SqT K H t ys ∧ ys.length < 1000 ∧
  (∀ H1, Same H H1 → spI [.ref a] H1 (fun v H2 => ∃ q, v = .ref q ∧ H1 q = none ∧ H2 = upd H1 q (TupIt q t 0)) fun _ _ _ => False) ∧
  (∀ H1, Same H H1 → spL [.ref a] H1 (fun v H2 => ∃ n : Int, v = .int n ∧ (0 ≤ n ∧ n < 2 ^ 63) ∧ (fun v H' => v = V.int ys.length ∧ Same H1 H') (V.int n) H2) fun _ _ _ => False) ∧
  ∀ l H', H l = none → Same H H' → H' l = some (.lst ys) → Q (.ref l) H'
theorem z_listOwn {spI spL : Sp} {kI kL : Nat} (hc : X.calm = true) (cI : CalO X.prog X.w X.K X.mg X.base C "__iter__" kI spI) (cL : CalO X.prog X.w X.K X.mg X.base C "__len__" kL spL) (hr : Room j X.A) (hI : kI + 2 ≤ j := by decide) (hL : kL + 3 ≤ j := by decide) :
    CallR X (.type "list") (rListOwn X.K C spI spL) := by
  intro pins s σ H xs us Q I rv h
  obtain ⟨a, dx, fs, t, ys, rfl, ha, ht, hz, pI, pL, q⟩ := h
  obtain ⟨u, rfl, ru⟩ := rv.one
  cases ru
  obtain ⟨fI, SI, _, FI⟩ := cI
  obtain ⟨fL, SL, _, FL⟩ := cL
  refine callType_codes (Q₁ := fun obj s₁ => obj = .ref s.heap.objs.size ∧ s₁ = { s with heap := s.heap.push { cls := .type "list", data := .seq #[] } }) PySem.F.called_list (PySem.F.typeCall_list_1 _) PySem.F.entry_list_init (code_list_new _ ⟨rfl, rfl⟩) fun obj s₁ h₁ => ?_
  obtain ⟨rfl, rfl⟩ := h₁
  have hS : (s.heap.push { cls := .type "list", data := .seq #[] }).get? s.heap.objs.size = some { cls := .type "list", data := .seq #[] } := Heap.get?_push_size _ rfl
  refine ⟨⟨_, hS, rfl⟩, PySem.F.args_list_init_2 _ _, ?_⟩
  have fr : H s.heap.objs.size = none := I.hok.fresh (Nat.le_refl _)
  generalize hl : s.heap.objs.size = l at *
  have I1 : Inv X pins σ (upd H l (.lst [])) { s with heap := s.heap.push { cls := .type "list", data := .seq #[] } } := by
    rw [← hl]
    exact I.lnew (its := []) (t' := s.toks) .nil (Nat.zero_le _)
  show wpAny _ _ (do let old ← Builtin.List.listItems (.ref l); Builtin.List.listUpdate (.ref l) (fun _ => #[]); letGo old.toList.reverse; Builtin.List.listExtendWith (.ref l) (.ref a) .none) _ _ _
  refine wpAny_bind ?_
  unfold Builtin.List.listItems
  refine wpAny_bind (wpAny_seqItems hS rfl (wpAny_pure ?_))
  show wpAny _ _ (updateSeq l (fun _ => #[]) >>= fun _ => letGo (#[] : Array Value).toList.reverse >>= fun _ => Builtin.List.listExtendWith (.ref l) (.ref a) .none) _ _ _
  refine wpAny_bind (wpAny_updateSeq hS rfl ?_)
  have I2 := I1.lset (f := fun _ => #[]) (its := []) (its' := []) (ys := []) (t' := s.toks) upd_same hS rfl .nil (Nat.zero_le _)
  rw [upd_upd] at I2
  refine wpAny_bind (wpAny_letGo ?_)
  have s1 : Same H (upd H l (.lst [])) := fun b o e => by rw [upd_ne (ne_of_none e fr)]; exact e
  have ha2 := s1 _ _ ha
  have hne : l ≠ a := Ne.symm (ne_of_none ha fr)
  obtain ⟨ox, od, J⟩ := instAt I2 ha2
  obtain ⟨m0, hF⟩ := I2.fr
  unfold Builtin.List.listExtendWith
  refine wpAny_bind (J.type.here ?_)
  have h1 : Builtin.List.listSameRef (.ref l) (.ref a) = false := by simp [Builtin.List.listSameRef, hne]
  have h2 : (Value.ref C == Value.type "list") = false := rfl
  have h3 : (Value.ref C == Value.type "tuple") = false := rfl
  simp only [h1, h2, h3, Bool.or_false, Bool.false_eq_true, if_false]
  have hrI : Room kI X.A.in1.in1 := ((hr.mono hI).in1).in1
  have hrL : Room kL X.A.in1.in1.in1 := (((hr.mono hL).in1).in1).in1
  refine wpAny_bind (PySem.W.owit_iter hF I2.ok.mod.kin J SI.at_ SI.fn ?_)
  refine wpAny_call (codeAny_mono (FI X.A.in1.in1 X.stack _ _ [.ref a] [.ref a] _ (fun _ _ _ => False) hrI I2.env0.in1.in1 (.cons rfl .nil) (pI _ s1)) fun r s' hq' => ?_)
  rcases r with e | fl
  · exact (cxN hq').elim
  rcases fl with _ | _ | _ | u'
  · exact False.elim hq'
  · exact False.elim hq'
  · exact False.elim hq'
  obtain ⟨v', H3, I3, rv3, q0, ev, hq0, eH⟩ := I2.after hq'
  subst ev
  obtain rfl : u' = Value.ref q0 := rv3
  have hq1 : H q0 = none := by
    cases e : H q0 with
    | none => rfl
    | some o => rw [s1 _ _ e] at hq0; cases hq0
  have s2 : Same (upd H l (.lst [])) H3 := fun b o e => by rw [eH, upd_ne (ne_of_none e hq0)]; exact e
  have eq3 : H3 q0 = some (TupIt q0 t 0) := by rw [eH, upd_same]
  have hit : s'.heap.IsTupleIter q0 t 0 := (I3.hok q0 _ eq3).1
  unfold PySem.W.OwitIt
  refine wpAny_bind (wpAny_typeOf hit.typeIs (wpAny_of_eq PySem.F.slot_tuple_iterator_next.lookup ?_))
  refine wpAny_bind (wpAny_holding ?_)
  -- the length
  have e3 : H3 l = some (.lst []) := s2 _ _ upd_same
  have ha3 := s2 _ _ ha2
  obtain ⟨ox3, od3, J3⟩ := instAt I3 ha3
  unfold Builtin.List.listLengthHint
  refine wpAny_bind (wpAny_bind (J3.type.here ((PySem.W.looks_findIn I3.kIn SL.at_).here ?_)))
  dsimp only
  refine PySem.W.KFB.if_not rfl ?_
  refine PySem.W.KFB.if_so rfl ?_
  refine wpAny_bind (wpAny_rule ?_)
  refine wpAny_bind (wpAny_attempt (wpAny_mono (lenRun (Ex := fun _ _ => False) (Q := fun v H' => v = V.int ys.length ∧ Same H3 H') FL SL hrL I3.env0.in1.in1.in1 I3 ha3 (pL _ (s1.trans s2))) (fun v s'' hv => ?_) fun e s'' he => ?_))
  · obtain ⟨n, tn, rfl, hn, H4, I4, en, s4⟩ := hv
    injection en with en
    subst en
    have long : Builtin.List.listTooLong ((ys.length : Nat) : Int).toNat = false := by
      unfold Builtin.List.listTooLong
      rw [sizeLine_eq] at *
      simp
      omega
    dsimp only
    refine wpAny_bind (m := asInt? _) (wpAny_of_eq (a := some ((ys.length : Nat) : Int)) rfl ?_)
    dsimp only
    refine PySem.W.KFB.if_not long ?_
    refine wpAny_pure ?_
    have e4 := s4 _ _ e3
    have eq4 := s4 _ _ eq3
    have hlq : l ≠ q0 := ne_of_none upd_same hq0
    have loop : ∀ (H5 : Hp) (s5 : Shared), Inv X pins σ H5 s5 → Same H H5 → H5 l = some (.lst []) → H5 q0 = some (TupIt q0 t 0) → codeAny (model X.prog X.w) X.A.in1 (.builtin "list.extend.loop" ⟨[.ref l, .ref q0, .none], []⟩) (wants (fun r s₂ => r = .none ∧ EP X pins σ Q (.ref l) s₂) X.xe) s5 := fun H5 s5 I5 sm el eq =>
      fillLoop (show X.A.in1.in1.handled = none from I.ok.hd hc) fr hq1 ht hz hlq (fun H' s' I' sm el => ⟨rfl, .ref l, H', I', rfl, q l H' fr sm el⟩) ys.length 0 (by omega) H5 s5 I5 sm (by rw [List.take_zero]; exact el) eq
    obtain ⟨z, its, kk, r3, hl3, e5⟩ := I4.lstM e4
    cases r3
    have s14 : Same H H4 := (s1.trans s2).trans s4
    refine wpAny_ite_split (fun _ => ?_) (fun _ => wpAny_pure ⟨plainId_quiet PySem.F.plain_extend_loop _, loop H4 _ I4 s14 e4 eq4⟩)
    refine wpAny_bind (wpAny_rule ?_)
    refine wpAny_bind ?_
    show wpAny _ _ (updateSeq l (·.push .none) >>= fun _ => updateSeq l (·.pop)) _ _ _
    refine wpAny_bind (wpAny_updateSeq e5 rfl ?_)
    have I6 := I4.lset (f := (·.push Value.none)) (its' := [Value.none]) (ys := [.non]) (t' := s''.toks) e4 e5 (by simp) (.cons rfl .nil) (by rw [List.length_singleton, sizeLine_eq]; decide)
    obtain ⟨z4, its4, k4, r4, hl4, e6⟩ := I6.lstM upd_same
    obtain ⟨u4, rfl, ru4⟩ := r4.one
    refine wpAny_updateSeq e6 rfl ?_ (by show 1 ≤ sizeLine; rw [sizeLine_eq]; decide) (by show 0 ≤ sizeLine + 1; exact Nat.zero_le _)
    refine wpAny_pure ⟨plainId_quiet PySem.F.plain_extend_loop _, loop H4 _ ?_ s14 e4 eq4⟩
    have I7 := I6.lset (f := (·.pop)) (its := [u4]) (its' := []) (ys := []) (t' := s''.toks) upd_same e6 (by rfl) .nil (Nat.zero_le _)
    rw [upd_upd] at I7
    have hH : upd H4 l (.lst []) = H4 := by
      funext b
      by_cases hb : b = l
      · rw [hb, upd_same, e4]
      · rw [upd_ne hb]
    rw [hH] at I7
    exact I7
  · exact he.elim
end
end Z

set_option Elab.async false
set_option linter.all false
set_option maxRecDepth 100000
set_option maxHeartbeats 4000000
/-! {**a, **b}; sorted of a tuple of texts; == of dicts of tuples -/
namespace Z
open PySem PySem.Spec PyProof.Rows L2
section
variable {P : Program} {w : World} {A : Around} {E : Value → Shared → Prop} {s : Shared}
theorem putDict {d : Addr} {kvs : List (Key × Value)} {k : Key} {key v : Value} {Q : Unit → Shared → Prop} (hkey : (mixKind P w).is k key = true) (hm : s.heap.DictOf (mixKind P w) d kvs)
    (hQ : ∀ h', h'.DictOf (mixKind P w) d (stored kvs k v) → Heap.SameBut d s.heap h' → Q () { s with heap := h' }) (hsz : kvs.length ≤ sizeLine) :
    wpAny (model P w) A (dictPut d ((mixKind P w).hash k) key v) Q E s := by
  obtain ⟨o, es, ep, ho, hc, hd, hk, hp, hn⟩ := hm
  have hes : es.size ≤ sizeLine := by
    have e1 := hp.length
    have e2 : es.toList.length = es.size := by simp
    omega
  unfold dictPut
  refine wpAny_bind (wpAny_dictFind_of hkey ho hd hk ?_)
  have hidx : (es.findIdx? fun e => (mixKind P w).is k e.key) = kvs.findIdx? fun kv => decide (kv.1 = k) := by rw [← hp.findIdx k]; obtain ⟨l⟩ := es; simp
  cases hi : es.findIdx? fun e => (mixKind P w).is k e.key with
  | some i =>
    refine wpAny_updateDict ho hd (hQ _ ⟨_, _, ep, Heap.get?_update_self _ ho (Obj.isFreed_of_dict (Obj.data_mapDict hd _)), hc.mapDict _, Obj.data_mapDict hd _, hk.modify _ _, ?_, ?_⟩ (Heap.SameBut.update ..))
    · rw [stored, if_pos (any_of_findIdx_some (hidx ▸ hi))]
      have hl : (es.toList.findIdx? fun e => (mixKind P w).is k e.key) = some i := by rw [← hi]; obtain ⟨l⟩ := es; simp
      have := hp.modify hn hl v
      obtain ⟨l⟩ := es
      simpa using this
    · rw [stored, if_pos (any_of_findIdx_some (hidx ▸ hi)), keys_map_store]; exact hn
  | none =>
    have hnot : k ∉ kvs.map (·.1) := not_mem_of_findIdx_none (hidx ▸ hi)
    have hany : ¬ (kvs.any fun kv => decide (kv.1 = k)) = true := by
      rw [List.any_eq_true]; rintro ⟨kv, hkv, he⟩; exact hnot (List.mem_map.mpr ⟨kv, hkv, of_decide_eq_true he⟩)
    refine wpAny_updateDictKeys (hz := hes) ho hd (hQ _ ⟨_, _, ep + 1, Heap.get?_update_self _ ho (Obj.isFreed_of_dict (Obj.data_mapDictKeys hd _)), hc.mapDictKeys _, Obj.data_mapDictKeys hd _, hk.push hkey _, ?_, ?_⟩ (Heap.SameBut.update ..))
    · rw [stored, if_neg hany]
      have := hp.append hkey ((mixKind P w).hash k) v
      obtain ⟨l⟩ := es
      simpa using this
    · rw [stored, if_neg hany, List.map_append, List.nodup_append]
      refine ⟨hn, by simp, ?_⟩
      intro a ha b hb
      simp only [List.map_cons, List.map_nil, List.mem_singleton] at hb
      subst hb
      exact fun e => hnot (e ▸ ha)
theorem iteBoth {α : Type} {M : Model} {A : Around} {E : Value → Shared → Prop} {s : Shared} {c : Bool} {a b : Sem α} {Q : α → Shared → Prop} (hb : wpAny M A b Q E s) (ha : wpAny M A b Q E s → wpAny M A a Q E s) : wpAny M A (if c = true then a else b) Q E s := by
  cases c
  · exact hb
  · exact ha hb
theorem mergeIn {d o : Addr} {kvs more : List (Key × Value)} {Q : Unit → Shared → Prop} (hdo : d ≠ o) (hoS : (o == sysModules) = false) (hd : s.heap.DictOf (mixKind P w) d kvs) (ho : s.heap.DictOf (mixKind P w) o more)
    (hQ : ∀ h', h'.DictOf (mixKind P w) d (merged kvs more) → Heap.SameBut d s.heap h' → Q () { s with heap := h' }) (hsz : kvs.length + more.length ≤ sizeLine) :
    wpAny (model P w) A (mergeMapping d (.ref o) false) Q E s := by
  obtain ⟨od, esd, epd, hod, hcd, hdd, hkd, hpd, hnd⟩ := id hd
  obtain ⟨oo, eso, epo, hoo, hco, hdo', hko, hpo, hno⟩ := id ho
  have hlen : more.length = eso.size := by rw [← hpo.length]; simp
  unfold mergeMapping
  refine wpAny_bind (wpAny_isInstance (T := "dict") ho.typeIs PySem.F.sub_dict_dict ?_)
  refine PySem.W.KFB.if_so rfl ?_
  refine wpAny_bind (wpAny_specialOf ho.typeIs PySem.F.slot_dict_iter.lookup ?_)
  refine wpAny_bind (wpAny_of_eq (a := true) (by rw [show (some (Value.builtin "dict.__iter__") == some (Value.builtin "dict.__iter__")) = true by decide]) ?_)
  dsimp only
  refine PySem.W.KFB.if_not (by rw [hoS]) ?_
  refine wpAny_bind (wpAny_dictEntries hod hdd ?_)
  refine iteBoth ?_ fun loop => ?_
  · refine wpAny_bind (wpAny_dictEntries hoo hdo' (wpAny_bind (wpAny_dictEpoch hoo hdo' (wpAny_bind ?_))))
    refine wpAny_forIn_list _ (fun rest _ s' => ∃ h' i, s' = { s with heap := h' } ∧ rest = List.range' i (eso.size - i) ∧ i ≤ eso.size ∧ h'.DictOf (mixKind P w) d (merged kvs (more.take i)) ∧ h'.get? o = some oo ∧ Heap.SameBut d s.heap h') _ ?_ ?_ _ _ ⟨s.heap, 0, rfl, by rw [List.range_eq_range']; rfl, Nat.zero_le _, hd, hoo, Heap.SameBut.refl _ _⟩
    · rintro x rest b s' ⟨h', i, rfl, hr, hi, hd', hoo', hs'⟩
      have hlt : i < eso.size := by
        rcases Nat.lt_or_ge i eso.size with h | h
        · exact h
        · rw [Nat.sub_eq_zero_of_le h] at hr; simp at hr
      obtain ⟨rfl, hrest⟩ : x = i ∧ rest = List.range' (i + 1) (eso.size - (i + 1)) := by
        have e : eso.size - i = (eso.size - (i + 1)) + 1 := by omega
        rw [e, List.range'_succ] at hr
        injection hr with h1 h2; exact ⟨h1, h2⟩
      refine wpAny_bind (wpAny_dictEntries hoo' hdo' ?_)
      rw [Array.getElem?_eq_getElem hlt]
      obtain ⟨kv, hkv⟩ : ∃ kv, more[x]? = some kv := ⟨more[x]'(by rw [hlen]; exact hlt), List.getElem?_eq_getElem _⟩
      obtain ⟨k, v⟩ := kv
      obtain ⟨hkey, hval⟩ := hpo.get? (e := eso[x]) (by simp [hlt]) hkv
      obtain ⟨k', hkey', hhash⟩ := hko eso[x] (Array.getElem_mem hlt)
      obtain rfl : k' = k := (mixKind P w).inj _ _ _ hkey' hkey
      refine wpAny_bind (wpAny_holding ?_)
      refine PySem.W.KFB.if_not rfl ?_
      rw [hhash, hval]
      have hmx : (merged kvs (more.take x)).length ≤ sizeLine := by
        have e1 := merged_length_le kvs (more.take x)
        have e2 : (more.take x).length ≤ more.length := by rw [List.length_take]; omega
        omega
      refine putDict hkey hd' (fun h'' hd'' hs'' => ?_) hmx
      have hoo'' : h''.get? o = some oo := (hs''.2 o (Ne.symm hdo)).trans hoo'
      refine wpAny_bind (wpAny_dictEpoch hoo'' hdo' ?_)
      rw [if_neg (by simp)]
      refine wpAny_pure ⟨h'', x + 1, rfl, hrest, hlt, ?_, hoo'', hs'.trans hs''⟩
      rw [merged_take_succ kvs more x (k', v) hkv]
      exact hd''
    · rintro b s' ⟨h', i, rfl, hr, hi, hd', hoo', hs'⟩
      have hin : i = eso.size := by
        rcases Nat.lt_or_ge i eso.size with h | h
        · have e : eso.size - i = (eso.size - (i + 1)) + 1 := by omega
          rw [e, List.range'_succ] at hr; exact nomatch hr
        · exact Nat.le_antisymm hi h
      rw [hin, ← hlen, List.take_length] at hd'
      exact wpAny_pure (hQ h' hd' hs')
  · refine wpAny_bind (wpAny_dictEntries hoo hdo' (wpAny_bind ?_))
    rw [← Array.forIn_toList]
    refine wpAny_forIn_list _ (fun rest _ s' => s' = s ∧ ∀ e ∈ rest, e ∈ eso) _ ?_ ?_ _ _ ⟨rfl, fun e h => by simpa using h⟩
    · rintro e rest b s' ⟨rfl, hm⟩
      obtain ⟨k, hk, _⟩ := hko e (hm e List.mem_cons_self)
      have hm' : ∀ e ∈ rest, e ∈ eso := fun e h => hm e (List.mem_cons_of_mem _ h)
      rcases keyIs_shape hk with ⟨i, t, _, ek⟩ | ⟨x, t, _, ek⟩
      · rw [ek]
        exact wpAny_pure ⟨rfl, hm'⟩
      · rw [ek]
        exact wpAny_pure ⟨rfl, hm'⟩
    · rintro b s' ⟨rfl, _⟩
      exact loop
end
/-- {**a, **b}: two dicts with keys ints and texts -/
def tMerge2 (t1 t2 : TE) : TE := fun σ H Q => ∀ p, H p = Option.none → t1 σ (upd H p (.dK [])) fun x H1 => ∃ a ks, x = .ref a ∧ p ≠ a ∧ H1 a = some (.dK ks) ∧ H1 p = some (.dK []) ∧ ks.length ≤ 1000 ∧
  t2 σ (upd H1 p (.dK (mergeK [] ks))) fun y H2 => ∃ b ls, y = .ref b ∧ p ≠ b ∧ H2 b = some (.dK ls) ∧ H2 p = some (.dK (mergeK [] ks)) ∧ ls.length ≤ 1000 ∧ Q (.ref p) (upd H2 p (.dK (mergeK (mergeK [] ks) ls)))
section
variable {X : Cx} {pos : Pos} {e1 e2 : Expr} {t1 t2 : TE} {pins : List (Addr × Obj)} {σ : L2.St} {H : Hp} {s : Shared}
theorem mergeStep {p a : Addr} {kvs ks : List (Key × V)} {E : Value → Shared → Prop} {Q : Unit → Shared → Prop} (I : Inv X pins σ H s) (hne : p ≠ a) (ha : H a = some (.dK ks)) (hp : H p = some (.dK kvs)) (z1 : kvs.length ≤ 1000) (z2 : ks.length ≤ 1000)
    (h : ∀ s', Inv X pins σ (upd H p (.dK (mergeK kvs ks))) s' → Q () s') : wpAny (model X.prog X.w) X.A (mergeMapping p (.ref a) false) Q E s := by
  obtain ⟨_, sa, vs, ra, da⟩ := dk_of I.hok ha
  obtain ⟨_, sp, us, rp, dp⟩ := dk_of I.hok hp
  have l1 := ra.length
  have l2 := rp.length
  have big : (3000 : Nat) ≤ sizeLine := by rw [sizeLine_eq]; decide
  refine mergeIn hne sa dp da (fun h' dd hs => h _ ?_) (by omega)
  have he : ∃ q, h'.get? p = some q := let ⟨q, _, _, hq, _⟩ := dd; ⟨q, hq⟩
  have hz := length_mergeK ks kvs
  exact d_write I (by rw [hp]; exact True.intro) hs he (dk_new (by omega) sp (ra.merge rp) dd)
theorem pe_merge2 (h1 : PE X e1 t1) (h2 : PE X e2 t2) : PE X (.Dict [Option.none, Option.none] [e1, e2] pos) (tMerge2 t1 t2) := by
  refine ⟨fun pins s σ H Q I q => ?_⟩
  have hn := I.hok.fresh (Nat.le_refl s.heap.objs.size)
  have I1 := I.laid (a := s.heap.objs.size) (o := .dK []) (h' := s.heap.push { cls := .type "dict", data := .dict #[] }) (t' := s.toks) (fun _ _ q => Heap.get?_push_of_some _ q) (Nat.le_refl _) (dk_empty s.heap I.big)
  have q1 := q _ hn
  generalize hp : s.heap.objs.size = p at *
  rw [arm_eval_Dict]
  refine wpAny_bind (wpAny_standAt ?_)
  show wpAny _ _ (dictDisplay [(Option.none, (do let x ← eval e1 X.env; standAt pos; pure x)), (Option.none, (do let x ← eval e2 X.env; standAt pos; pure x))]) _ _ s
  unfold dictDisplay
  dsimp only
  refine wpAny_bind ?_
  rw [List.forIn_cons]
  refine wpAny_bind ?_
  dsimp only
  refine wpAny_bind (PySem.W.KFB.if_so rfl (wpAny_pure ?_))
  dsimp only
  refine wpAny_bind (wpAny_alloc ?_)
  rw [hp]
  refine wpAny_bind (wpAny_holding (wpAny_bind (thn (h1.run pins _ σ _ _ I1 q1) fun u s1 hh => ?_)))
  obtain ⟨x, H1, I2, rx, a, ks, ex, hne, ha, hpp, z, q2⟩ := hh
  subst ex
  obtain rfl : u = Value.ref a := rx
  refine wpAny_bind (wpAny_standAt (wpAny_pure ?_))
  have h0 : ([] : List (Key × V)).length ≤ 1000 := by decide
  refine wpAny_bind (wpAny_onRaise (wpAny_tryCatch (wpAny_onRaise (wpAny_holding (mergeStep I2 hne ha hpp h0 z fun s2 I3 => ?_)))))
  refine wpAny_pure ?_
  dsimp only
  rw [List.forIn_cons]
  refine wpAny_bind ?_
  dsimp only
  refine wpAny_bind (PySem.W.KFB.if_so rfl (wpAny_pure ?_))
  dsimp only
  refine wpAny_bind (wpAny_pure ?_)
  refine wpAny_bind (wpAny_holding (wpAny_bind (thn (h2.run pins _ σ _ _ I3 q2) fun u s3 hh => ?_)))
  obtain ⟨y, H2, I4, ry, b, ls, ey, hne2, hb, hpp2, z2, q3⟩ := hh
  subst ey
  obtain rfl : u = Value.ref b := ry
  refine wpAny_bind (wpAny_standAt (wpAny_pure ?_))
  have zm : (mergeK [] ks).length ≤ 1000 := by
    have := length_mergeK ks []
    simp only [List.length_nil] at this
    omega
  refine wpAny_bind (wpAny_onRaise (wpAny_tryCatch (wpAny_onRaise (wpAny_holding (mergeStep I4 hne2 hb hpp2 zm z2 fun s4 I5 => ?_)))))
  refine wpAny_pure ?_
  dsimp only
  rw [List.forIn_nil]
  refine wpAny_pure ?_
  refine wpAny_bind (PySem.W.KFB.if_so rfl (wpAny_pure ?_))
  exact wpAny_pure ⟨.ref p, _, I5, rfl, q3⟩
end
end Z

set_option Elab.async false
set_option linter.all false
set_option maxRecDepth 100000
set_option maxHeartbeats 4000000
/-! sorted of a list or a tuple of texts; == of dicts whose values are data; texts in order -/
namespace Z
open PySem PySem.Spec PyProof.Rows L2
/-! ### ascending texts -/
def ltS (a b : Str) : Bool := ltCps a.cps.toList b.cps.toList
theorem ltCps_irr : ∀ l : List Nat, ltCps l l = false
  | [] => rfl
  | x :: l => by
    unfold ltCps
    simp [ltCps_irr l]
theorem ltCps_tri : ∀ l m : List Nat, ltCps l m = false → ltCps m l = false → l = m
  | [], [], _, _ => rfl
  | [], y :: m, h, _ => by simp [ltCps] at h
  | x :: l, [], _, h => by simp [ltCps] at h
  | x :: l, y :: m, h, k => by
    unfold ltCps at h k
    by_cases e1 : x < y
    · simp [e1] at h
    · by_cases e2 : y < x
      · simp [e2] at k
      · have e : x = y := by omega
        subst e
        simp at h k
        rw [ltCps_tri l m h k]
theorem ltS_tri {a b : Str} (h : ltS a b = false) (k : ltS b a = false) : a = b := by
  have := ltCps_tri _ _ h k
  cases a; cases b
  congr 1
  exact Array.toList_inj.mp this
theorem ltCps_tr : ∀ l m n : List Nat, ltCps m l = false → ltCps n m = false → ltCps n l = false
  | [], m, n, _, _ => by cases n <;> rfl
  | x :: l, [], n, h, _ => by simp [ltCps] at h
  | x :: l, y :: m, [], _, h => by simp [ltCps] at h
  | x :: l, y :: m, z :: n, h, k => by
    unfold ltCps at h k ⊢
    by_cases e1 : y < x
    · simp [e1] at h
    · by_cases e2 : z < y
      · simp [e2] at k
      · by_cases e3 : z < x
        · omega
        · simp only [e3, if_false]
          by_cases e4 : x < z
          · simp [e4]
            intro h
            omega
          · have exz : x = z := by omega
            have exy : x = y := by omega
            subst exz; subst exy
            simp at h k ⊢
            exact ltCps_tr l m n h k
theorem risingS_pw : ∀ (l : List Str) (p : Str), risingS p l = true → (∀ x ∈ l, ltS x p = false) ∧ l.Pairwise fun a b => ltS b a = false
  | [], p, _ => ⟨(fun x h => (by cases h)), .nil⟩
  | x :: r, p, h => by
    unfold risingS at h
    rw [Bool.and_eq_true] at h
    obtain ⟨h1, h2⟩ := h
    have h1' : ltS x p = false := by simpa [ltS] using h1
    obtain ⟨a, b⟩ := risingS_pw r x h2
    refine ⟨fun y hy => ?_, List.pairwise_cons.mpr ⟨a, b⟩⟩
    rcases List.mem_cons.mp hy with rfl | hy
    · exact h1'
    · exact ltCps_tr _ _ _ h1' (a y hy)
theorem sortedS_pw {l : List Str} (h : sortedS l = true) : l.Pairwise fun a b => ltS b a = false := by
  cases l with
  | nil => exact .nil
  | cons x r =>
    obtain ⟨a, b⟩ := risingS_pw r x h
    exact List.pairwise_cons.mpr ⟨a, b⟩
/-- texts of the same members that ascend are the same list -/
theorem sort_uniq {l m : List Str} (hp : l.Perm m) (hl : l.Pairwise fun a b => ltS b a = false) (hm : m.Pairwise fun a b => ltS b a = false) : l = m :=
  hp.eq_of_pairwise (fun a b _ _ h k => (ltS_tri k h)) hl hm
noncomputable def srt (l : List Str) : List Str := l.mergeSort fun a b => !ltS b a
theorem srt_perm (l : List Str) : (srt l).Perm l := List.mergeSort_perm l _
theorem srt_pw (l : List Str) : (srt l).Pairwise fun a b => ltS b a = false := by
  have h := List.pairwise_mergeSort (le := fun a b => !ltS b a) (fun a b c h k => ?_) (fun a b => ?_) l
  · exact h.imp fun {a b} h => by simpa using h
  · simp only [Bool.not_eq_true'] at h k ⊢
    exact ltCps_tr _ _ _ h k
  · by_cases h : ltS b a = true
    · by_cases k : ltS a b = true
      · exfalso
        have := ltCps_tr a.cps.toList b.cps.toList a.cps.toList
        -- a < b and b < a: by totality of the order
        have asym : ∀ l m : List Nat, ltCps l m = true → ltCps m l = false := by
          intro l
          induction l with
          | nil => intro m h; cases m <;> rfl
          | cons x l ih =>
            intro m h
            cases m with
            | nil => simp [ltCps] at h
            | cons y m =>
              unfold ltCps at h ⊢
              by_cases e1 : x < y
              · have : ¬ y < x := by omega
                simp [this, e1]
                intro h
                omega
              · by_cases e2 : y < x
                · simp [e1, e2] at h
                  omega
                · have e : x = y := by omega
                  subst e
                  simp at h ⊢
                  exact ih m h
        have := asym _ _ k
        unfold ltS at h
        rw [this] at h
        cases h
      · simp [k]
    · simp [h]
theorem srt_eq {l m : List Str} (hp : m.Perm l) (hs : sortedS m = true) : m = srt l := sort_uniq (hp.trans (srt_perm l).symm) (sortedS_pw hs) (srt_pw l)
theorem srt_of_pw {l : List Str} (h : l.Pairwise fun a b => ltS b a = false) : srt l = l := sort_uniq (srt_perm l) (srt_pw l) h
theorem srt_nodup {l : List Str} (h : l.Nodup) : (srt l).Nodup := (srt_perm l).nodup_iff.mpr h
theorem mem_srt {l : List Str} {a : Str} : a ∈ srt l ↔ a ∈ l := (srt_perm l).mem_iff
/-- the members of a rising list that are in another one, sorted, are a filter -/
theorem srt_filter {N l : List Str} {p : Str → Bool} (hN : N.Nodup) (hs : N.Pairwise fun a b => ltS b a = false) (hl : l.Nodup) (h : ∀ a, a ∈ l ↔ a ∈ N ∧ p a = true) : srt l = N.filter p := by
  refine sort_uniq ?_ (srt_pw l) (hs.filter p)
  refine (srt_perm l).trans ((List.perm_ext_iff_of_nodup hl (hN.filter p)).mpr fun a => ?_)
  rw [h, List.mem_filter]
section
variable {X : Cx}
/-- sorted of a list or a tuple of texts -/
def rSortST (K : PySem.W.Frag) : List V → Hp → VK → Prop := fun vs H Q => ∃ (a : Addr) (xs : List Str), vs = [V.ref a] ∧ (SqL K H a (xs.map V.str) ∨ SqT K H a (xs.map V.str)) ∧ xs.length < 64 ∧
  ∀ p H', H p = none → Same H H' → (∀ b, b ≠ p → H' b = H b) → H' p = some (.lst ((srt xs).map V.str)) → Q (.ref p) H'
theorem cr_sortST : CallR X (.builtin "sorted") (rSortST X.K) := by
  intro pins s σ H xs us Q I r q
  obtain ⟨a, ks, ex, hd, h64, q⟩ := q
  subst ex
  obtain ⟨u, eu, rx⟩ := vals1 r
  subst eu
  cases rx
  obtain ⟨its, o, n, T, rv, ho, hc, hT, hdt⟩ : ∃ (its : List Value) (o : Obj) (n : Nat) (T : String), Vals (ks.map V.str) its ∧ s.heap.get? a = some o ∧ o.cls = .type T ∧ (T = "list" ∨ T = "tuple") ∧ o.data = .seq its.toArray n := by
    rcases hd with hd | hd
    · obtain ⟨its, rv, pl, _⟩ := I.list hd
      obtain ⟨o, ho, hc, n, hdt⟩ := pl.isList
      exact ⟨its, o, n, _, rv, ho, hc, .inl rfl, hdt⟩
    · obtain ⟨its, rv, ⟨o, ho, hc, n, hdt⟩, _⟩ := I.tuple hd
      exact ⟨its, o, n, _, rv, ho, hc, .inr rfl, hdt⟩
  have hlen := rv.length
  rw [List.length_map] at hlen
  have hsl : (64 : Nat) < sizeLine := by rw [sizeLine_eq]; decide
  refine Calls.call_function_entry PyProof.Rows.kind_sorted PyProof.Rows.plain_sorted PyProof.Rows.entry_sorted (PyProof.Rows.args_sorted1 _) ?_
  unfold Builtin.«sorted»
  refine wpAny_bind (m := checkCount "sorted" 1 1 _) (wpAny_pure ?_)
  refine wpAny_bind (wpAny_collect_seq a hT ho hc hdt (fun h' hk => ?_) (by rw [List.size_toArray]; omega))
  rw [show its.toArray.toList = its by simp]
  have hS := rv.strs
  have I1 : Inv X pins σ H { s with heap := h' } := I.kept (t' := s.toks) hk
  refine wpAny_bind (wpAny_newList ?_ (by omega))
  have hoL : (h'.push (seqObj "list" its.toArray 0)).get? h'.objs.size = some (seqObj "list" its.toArray 0) := Heap.get?_push_size _ rfl
  show wpAny _ _ _ _ _ { s with heap := h'.push (seqObj "list" its.toArray 0) }
  refine wpAny_bind (wpAny_holding (wpAny_call_entry PyProof.Rows.slot_list_sort ⟨_, hoL, rfl⟩ PyProof.Rows.entry_list_sort (list_sort_treeK strKind_oneLt (s := { s with heap := h'.push (seqObj "list" its.toArray 0) }) hoL hS.keysOf
    (fun v₁ v₂ rest e => keyKind_strs (by rw [← e]; exact hS)) (by omega) fun st' hp hs => ⟨_, rfl, ?_⟩) (PyProof.Rows.args_list_sort _)))
  obtain ⟨ys, g1, g2, g3⟩ := sorted_out_str hS hp hs
  obtain rfl := srt_eq g2 g3
  obtain ⟨e', he'⟩ := PyProof.Rows.sortedHeap_at (vs := its) (out := (arrOf st').map (·.2)) hoL
  have hlen2 : ((srt ks).map V.str).length ≤ sizeLine := by
    rw [List.length_map, g2.length_eq]
    omega
  have fr := I1.hok.fresh (Nat.le_refl h'.objs.size)
  refine wpAny_pure ⟨_, rfl, .ref h'.objs.size, upd H h'.objs.size (.lst ((srt ks).map V.str)), I1.laid (t' := s.toks) (fun b u e => ?_) (Nat.le_refl _)
    (show ObjOk X.prog X.w _ _ _ (.lst ((srt ks).map V.str)) from ⟨hlen2, ((arrOf st').map (·.2)).toList, e', vals_of_strs g1, by rw [Array.toArray_toList]; exact he'⟩), rfl, q _ _ fr (fun b o e => by rw [upd_ne (ne_of_none e fr)]; exact e) (fun b hb => upd_ne hb) upd_same⟩
  have hb : b < h'.objs.size := Heap.lt_size e
  rw [PyProof.Rows.sortedHeap_old (Nat.ne_of_lt hb) (by rw [size_push']; exact Nat.lt_succ_of_lt hb)]
  exact Heap.get?_push_of_some _ e
/-- two dicts of the same keys in the same order, whose values are data -/
def rEqDD (K : PySem.W.Frag) : R2 := fun x y H Q => ∃ (a b : Addr) (ks ls : List (Key × V)) (f g : Key → PyData), x = .ref a ∧ y = .ref b ∧ H a = some (.dK ks) ∧ H b = some (.dK ls) ∧ ks.map (·.1) = ls.map (·.1) ∧
  (∀ p ∈ ks, Dp K H p.2 (f p.1) ∧ SeqAt.shaped (f p.1) = true) ∧ (∀ p ∈ ls, Dp K H p.2 (g p.1) ∧ SeqAt.shaped (g p.1) = true) ∧ Q (.bl ((ks.map (·.1)).all fun k => PyData.eqv (f k) (g k))) H
theorem valV_mem : ∀ {ls : List (Key × V)} {k : Key}, k ∈ ls.map (·.1) → ∃ v, valV ls k = some v ∧ (k, v) ∈ ls
  | p :: ls, k, h => by
    by_cases e : p.1 = k
    · exact ⟨p.2, valV_pos e, by rw [← e]; exact List.mem_cons_self⟩
    · obtain ⟨v, h1, h2⟩ := valV_mem (ls := ls) (k := k) (by
        rcases List.mem_cons.mp h with h | h
        · exact absurd h.symm e
        · exact h)
      exact ⟨v, by rw [valV_neg e]; exact h1, List.mem_cons_of_mem _ h2⟩
theorem op_eqDD (hu : X.A.units + 66 < cLine) : OpR X (compareOp .Eq) (rEqDD X.K) := by
  intro pins s σ H x y v u Q I rx ry h
  obtain ⟨a, b, ks, ls, f, g, rfl, rfl, ea, eb, hkl, hf, hg, q⟩ := h
  obtain rfl : v = Value.ref a := rx
  obtain rfl : u = Value.ref b := ry
  obtain ⟨_, ya, va, ra, da⟩ := (show ObjOk X.prog X.w H s.heap a (.dK ks) from I.hok a _ ea)
  obtain ⟨_, yb, vb, rb, db⟩ := (show ObjOk X.prog X.w H s.heap b (.dK ls) from I.hok b _ eb)
  have hl : va.length = vb.length := by
    rw [← ra.length, ← rb.length]
    have := congrArg List.length hkl
    simpa using this
  have hits : ∀ {ks : List (Key × V)} {va : List (Key × Value)}, KV ks va → (∀ p ∈ ks, p.1 ∈ ls.map (·.1)) → (∀ p ∈ ks, Dp X.K H p.2 (f p.1) ∧ SeqAt.shaped (f p.1) = true) → PySem.W.KeqHits X.A.in1 s vb va ((ks.map (·.1)).all fun k => PyData.eqv (f k) (g k)) := by
    intro ks va r
    unfold KV at r
    induction r with
    | nil => intro _ _; exact .nil
    | @cons p q ps qs h t ih =>
      intro hm hd
      obtain ⟨h1, h2⟩ := h
      obtain ⟨v, hv, hin⟩ := valV_mem (hm p List.mem_cons_self)
      have rr : RelO (some v) (valueAt vb p.1) := by rw [← hv]; exact rb.val p.1
      obtain ⟨y, hy, ry⟩ := rr.some_of
      obtain ⟨key, w⟩ := q
      have h1' : p.1 = key := h1
      subst h1'
      obtain ⟨d1, s1⟩ := hd p List.mem_cons_self
      obtain ⟨d2, s2⟩ := hg _ hin
      obtain ⟨as, r1⟩ := Dp.reads I _ _ w d1 h2
      obtain ⟨bs, r2⟩ := Dp.reads I _ _ y d2 ry
      show PySem.W.KeqHits X.A.in1 s vb ((p.1, w) :: qs) (PyData.eqv (f p.1) (g p.1) && _)
      exact .hit hy (PySem.W.keq_at r1 r2 s1 s2 (by show X.A.units + 1 + 64 < cLine; omega)) (ih (fun p' h' => hm p' (List.mem_cons_of_mem _ h')) fun p' h' => hd p' (List.mem_cons_of_mem _ h'))
  refine PySem.W.keq_eq (knd := mixKind X.prog X.w) (r := (ks.map (·.1)).all fun k => PyData.eqv (f k) (g k)) ya yb da db (by omega) (fun _ => hits ra (fun p hp => by rw [← hkl]; exact List.mem_map_of_mem hp) hf) ⟨.bl _, H, I, ?_, q⟩
  rw [hl]
  show Value.bool _ = Value.bool _
  rw [show (vb.length == vb.length) = true by simp, Bool.true_and]
end
end Z

set_option Elab.async false
set_option linter.all false
set_option maxRecDepth 100000
set_option maxHeartbeats 4000000
/-! enumerate of a tuple -/
namespace Z
open PySem PySem.Spec PyProof.Rows L2
section
variable {prog : Program} {w : World} {A : Around} {E : Value → Shared → Prop} {s : Shared} {q t : Addr} {i : Nat} {its : Array Value} {x : Value} {Q : Value → Shared → Prop}
theorem tupItem (hit : s.heap.IsTupleIter q t i) (ht : s.heap.IsTuple t its) (hx : its[i]? = some x) (hQ : ∀ h', h'.IsTupleIter q t (i + 1) → Heap.SameBut q s.heap h' → Q x { s with heap := h' }) :
    wpAny (model prog w) A (Builtin.SmallTypes.nextOf (.ref q)) Q E s := by
  obtain ⟨ob, ho, hc, hd⟩ := id hit; obtain ⟨ot, hot, _, nn, hdt⟩ := ht
  unfold Builtin.SmallTypes.nextOf; refine wpAny_bind (wpAny_callSpecial?_slot (name := Str.ofString "__next__") hit.typeIs F.slot_tuple_iterator_next (wpAny_call_entry F.slot_tuple_iterator_next hit.typeIs F.entry_tuple_iterator_next ?_ (F.args_tuple_iterator_next_1 _)))
  show wpAny _ _ (field (.ref q) 0 >>= _) _ _ s; refine wpAny_bind (wpAny_field ho hd (x := .ref t) rfl ?_)
  show wpAny _ _ (if (Value.ref t == Value.none) = true then _ else _) _ _ s; rw [if_neg (show ¬ ((Value.ref t == Value.none) = true) from Bool.false_ne_true)]
  show wpAny _ _ (field (.ref q) 1 >>= _) _ _ s; refine wpAny_bind (wpAny_field ho hd (x := .int i 0) rfl ?_)
  show wpAny _ _ (seqItems? (.ref t) >>= _) _ _ s; refine wpAny_bind (wpAny_seqItems hot hdt ?_); simp only [Int.toNat_natCast, hx]
  refine wpAny_bind (wpAny_setField ho hd (by simp) (wpAny_pure ⟨x, rfl, wpAny_pure (hQ _ ⟨_, Heap.get?_update_self _ ho (Obj.isFreed_of_fields (Obj.data_mapFields hd _)), (Obj.cls_mapFields ..).trans hc, by rw [Obj.data_mapFields hd]; simp [rawInt]⟩ (Heap.SameBut.update ..))⟩))
theorem tupDone (calm : A.handled = none) (hit : s.heap.IsTupleIter q t i) (ht : s.heap.IsTuple t its) (out : its[i]? = none)
    (hE : ∀ h' e, Heap.ExtBut q s.heap h' → (∃ o, h'.get? e = some o ∧ o.cls = .type "StopIteration") → E (.ref e) { s with heap := h' }) : wpAny (model prog w) A (Builtin.SmallTypes.nextOf (.ref q)) Q E s := by
  obtain ⟨ob, ho, hc, hd⟩ := id hit; obtain ⟨ot, hot, _, nn, hdt⟩ := ht
  unfold Builtin.SmallTypes.nextOf; refine wpAny_bind (wpAny_callSpecial?_slot (name := Str.ofString "__next__") hit.typeIs F.slot_tuple_iterator_next (wpAny_call_entry F.slot_tuple_iterator_next hit.typeIs F.entry_tuple_iterator_next ?_ (F.args_tuple_iterator_next_1 _)))
  show wpAny _ _ (field (.ref q) 0 >>= _) _ _ s; refine wpAny_bind (wpAny_field ho hd (x := .ref t) rfl ?_)
  show wpAny _ _ (if (Value.ref t == Value.none) = true then _ else _) _ _ s; rw [if_neg (show ¬ ((Value.ref t == Value.none) = true) from Bool.false_ne_true)]
  show wpAny _ _ (field (.ref q) 1 >>= _) _ _ s; refine wpAny_bind (wpAny_field ho hd (x := .int i 0) rfl ?_)
  show wpAny _ _ (seqItems? (.ref t) >>= _) _ _ s; refine wpAny_bind (wpAny_seqItems hot hdt ?_); simp only [Int.toNat_natCast, out]
  refine wpAny_bind (wpAny_rule (wpAny_bind (wpAny_setField ho hd (by simp) ?_))); show wpAny _ _ (newExc (.type "StopIteration") [] >>= _) _ _ _
  refine wpAny_bind ?_; simp only [newExc, newTuple]
  refine wpAny_bind (wpAny_newObj_type ?_ (by size_fits)); refine wpAny_bind (m := firstArgMember _ _) (wpAny_of_eq (a := Value.none) (by first | rfl | (simp only [firstArgMember]; rfl)) ?_)
  refine wpAny_newObj_type ?_ (by size_fits); simp only [raiseNew]
  refine wpAny_bind (wpAny_handled ?_); first | rw [show A.in1.handled = none from calm] | rw [calm]
  refine wpAny_bind (wpAny_pure (wpAny_throw ?_)); exact hE _ _ (((Heap.SameBut.update ..).extBut.push _).push _) ⟨_, Heap.get?_push_size _ rfl, rfl⟩
end
theorem drawsTup {prog : Program} {w : World} {A : Around} (calm : A.handled = none) (q t : Addr) (hne : t ≠ q) (its : Array Value) :
    Draws prog w A q [q, t] its.size (fun i v => its[i]? = some v) (fun i h => h.IsTupleIter q t i ∧ h.IsTuple t its) where
  live := fun _ _ st => let ⟨o, ho, _⟩ := st.1; ⟨o, ho⟩
  frame := fun _ _ _ st hk => ⟨let ⟨o, ho, r⟩ := st.1; ⟨o, hk q (by simp) o ho, r⟩, let ⟨o, ho, r⟩ := st.2; ⟨o, hk t (by simp) o ho, r⟩⟩
  item := fun i s Q E hi st hQ => by
    refine tupItem st.1 st.2 (x := its[i]) (by simp [hi]) fun h' hit' sb => ?_
    exact hQ _ h' s.toks (by simp [hi]) ⟨hit', st.2.extBut sb.extBut hne⟩ sb
  done := fun s Q E st hE => tupDone calm st.1 st.2 (by simp) hE
/-- the end alone -/
theorem drawsEnd {prog : Program} {w : World} {A : Around} (calm : A.handled = none) (q t : Addr) (its : Array Value) (i : Nat) (out : its[i]? = none) :
    Draws prog w A q [q, t] i (fun _ _ => True) (fun j h => j = i ∧ h.IsTupleIter q t j ∧ h.IsTuple t its) where
  live := fun _ _ st => let ⟨o, ho, _⟩ := st.2.1; ⟨o, ho⟩
  frame := fun _ _ _ st hk => ⟨st.1, let ⟨o, ho, r⟩ := st.2.1; ⟨o, hk q (by simp) o ho, r⟩, let ⟨o, ho, r⟩ := st.2.2; ⟨o, hk t (by simp) o ho, r⟩⟩
  item := fun j s Q E hi st hQ => by
    have := st.1
    omega
  done := fun s Q E st hE => tupDone calm st.2.1 st.2.2 out hE
/-- the tuple at a, each item in a new pair -/
def IteT (K : PySem.W.Frag) (a : Addr) : It :=
  ⟨fun i H => ∃ (xs : List V) (x : V), SqT K H a xs ∧ xs[i]? = some x, fun i H v H' => ∃ T x, v = .ref T ∧ H T = none ∧ H' = upd H T (.tup [.int (i : Nat), x]) ∧ ∀ xs, SqT K H a xs → xs[i]? = some x, fun i H => ∃ xs : List V, SqT K H a xs ∧ xs.length ≤ i⟩
theorem turn_enumT {P : Program} {w : World} {K : PySem.W.Frag} {elts : List Expr} {kk : Nat} {tpos : Pos} (a e it : Addr) :
    Turn P w K (.Tuple elts kk tpos) (IteT K a) [e, it] e (fun i h => (∃ old, IsEnum h e it ((i : Nat) : Int) old) ∧ h.IsTupleIter it a i ∧ e ≠ it ∧ a ≠ it ∧ a ≠ e) where
  mem := by simp
  obj := fun i h st b hb => by
    obtain ⟨⟨old, he⟩, ⟨o, ho, hc, hd⟩, _⟩ := st
    have e' : b = e ∨ b = it := by simpa using hb
    rcases e' with z | z
    · rw [z]; exact ⟨_, he, fun v q => nomatch q⟩
    · rw [z]; exact ⟨o, ho, fun v q => by rw [hd] at q; cases q⟩
  keep := fun i h h' st k => let ⟨⟨old, he⟩, ⟨o, ho, r⟩, hne⟩ := st; ⟨⟨old, k e (by simp) _ he⟩, ⟨o, k it (by simp) _ ho, r⟩, hne⟩
  item := by
    intro X hP hw hK hc i pins s σ H E I hf st hg
    subst hP hw hK
    obtain ⟨⟨old, he⟩, hit, hne, hai, hae⟩ := st
    obtain ⟨xs, x, hq, hx⟩ := hg
    obtain ⟨its, rv, p, hz⟩ := I.tuple hq
    obtain ⟨u, hu, ru⟩ := rv.get hx
    have hel : e < s.heap.objs.size := Heap.lt_size he
    have hil : it < s.heap.objs.size := by obtain ⟨_, z, _⟩ := hit; exact Heap.lt_size z
    have hlt : i < its.toArray.size := by
      have := (List.getElem?_eq_some_iff.mp hu).1
      simpa using this
    refine wpAny_pyNext_enum_itemD (drawsTup (by first | exact I.ok.hd hc | (show X.A.in1.handled = none; exact I.ok.hd hc)) it a hai its.toArray) he ⟨hit, p⟩ hlt hne (by simp [hne, Ne.symm hae]) fun x' h' tk hx' ho hst' hT hsz hk => ?_
    obtain rfl : x' = u := by
      rw [show its.toArray[i]? = its[i]? by simp, hu] at hx'
      exact (Option.some.inj hx').symm
    refine ⟨_, rfl, wpAny_letOwnedTupleGo_enum (s := { s with heap := h', toks := tk + 1 }) ho fun h'' he' sb => ?_⟩
    have hT2 : h''.get? s.heap.objs.size = some { cls := .type "tuple", data := .seq #[.int i tk, x'] } := (sb.2 _ (Nat.ne_of_gt hel)).trans hT
    have new : ObjOk X.prog X.w (upd H s.heap.objs.size (.tup [.int (i : Nat), x])) h'' s.heap.objs.size (.tup [.int (i : Nat), x]) :=
      ⟨by show 2 ≤ sizeLine; decide, [.int i tk, x'], .cons ⟨_, rfl⟩ (.cons ru .nil), ⟨_, hT2, rfl, _, rfl⟩⟩
    have I1 : Inv X pins σ (upd H s.heap.objs.size (.tup [.int (i : Nat), x])) { s with heap := h'', toks := tk + 1 } :=
      I.turnedNew (ch := [e, it]) (fun b ob hb z => (sb.2 b (fun y => hb (by simp [y]))).trans (hk b ob (fun y => hb (by simp [y])) (fun y => hb (by simp [y])) z)) hf (Nat.le_refl _) new
    have hit2 : h''.IsTupleIter it a (i + 1) := let ⟨o, ho, r⟩ := hst'.1; ⟨o, (sb.2 it (Ne.symm hne)).trans ho, r⟩
    refine ⟨.ref s.heap.objs.size, _, I1, rfl, ⟨_, x, rfl, I.hok.fresh (Nat.le_refl _), rfl, fun ys hy => by rw [I.tuple_inj hy hq]; exact hx⟩, ⟨⟨x', ?_⟩, hit2, hne, hai, hae⟩, fun b hb => ?_⟩
    · have e1 : ((i + 1 : Nat) : Int) = (i : Int) + 1 := by omega
      rw [e1]; exact he'
    · have hb' : b < s.heap.objs.size := by
        have e' : b = e ∨ b = it := by simpa using hb
        rcases e' with z | z
        · rw [z]; exact hel
        · rw [z]; exact hil
      rw [upd_ne (Nat.ne_of_lt hb')]
      exact (hf b hb).1
  done := by
    intro X hP hw hK hc i pins s σ H E I hf st hg
    subst hP hw hK
    obtain ⟨⟨old, he⟩, hit, hne, hai, hae⟩ := st
    obtain ⟨xs, hq, hx⟩ := hg
    obtain ⟨its, rv, p, hz⟩ := I.tuple hq
    obtain ⟨f0, f1, f2, f3, f4, f5⟩ := hf it (by simp)
    have hl := rv.length
    refine wpAny_pyNext_enum_endD (drawsEnd (by first | exact I.ok.hd hc | (show X.A.in1.handled = none; exact I.ok.hd hc)) it a its.toArray i (by simp; omega)) he ⟨rfl, hit, p⟩ fun h' eb => ⟨rfl, I.turned (t' := s.toks) (fun b o hb q => eb b o hb q) f0 f1 f3 f4 f5⟩
  self := fun A i s Q E st h => let ⟨⟨_, he⟩, _⟩ := st; wpAny_pyIter_enum he h
set_option maxHeartbeats 4000000 in
theorem enumNewT (l : Addr) (its : Array Value) (n : Nat) (dct : Option Addr) (sl : Array (Option Value)) :
    Meets (Builtin.«enumerate.__new__» ⟨[.type "enumerate", .ref l], []⟩) (fun _ R s => s.heap.get? l = some { cls := .type "tuple", dict := dct, data := .seq its n, slots := sl } ∧
      R (.ok (.ret (.ref (s.heap.push { cls := .type "tuple_iterator", data := .fields #[.ref l, .int 0 0] }).objs.size)))
        { s with heap := (s.heap.push { cls := .type "tuple_iterator", data := .fields #[.ref l, .int 0 0] }).push { cls := .type "enumerate", data := .fields #[.none, .bool false, .ref s.heap.objs.size, rawInt 0, .none, .none] } }) :=
  .of_wp fun prog w A R s h => by
    obtain ⟨hl, h⟩ := h
    obtain ⟨hp, g, d, tk, os⟩ := s
    have hT : (⟨hp, g, d, tk, os⟩ : Shared).heap.IsTuple l its := ⟨_, hl, rfl, n, rfl⟩
    have hsub := sub_enumerate
    wp_walk
    refine wpAny_stack_any fun st => wpAny_pure ?_
    split
    · rename_i c _ _ _ _ _
      cases (c == Value.type "enumerate")
      · wp_walk using wpAny_loadPart' hl, wpAny_pyIter_tuple hT
        exact ⟨_, rfl, h⟩
      · wp_walk using wpAny_loadPart' hl, wpAny_pyIter_tuple hT
        exact ⟨_, rfl, h⟩
    · wp_walk using wpAny_loadPart' hl, wpAny_pyIter_tuple hT
      exact ⟨_, rfl, h⟩
theorem callEnumT {prog : Program} {w : World} {A : Around} {E : Value → Shared → Prop} {s : Shared} {l : Addr} {its : Array Value} {Q : Value → Shared → Prop} (hL : s.heap.IsTuple l its)
    (h : ∀ h', IsEnum h' (s.heap.objs.size + 1) s.heap.objs.size 0 .none → h'.IsTupleIter s.heap.objs.size l 0 → (∀ b o, s.heap.get? b = some o → h'.get? b = some o) → Q (.ref (s.heap.objs.size + 1)) { s with heap := h' }) :
    wpAny (model prog w) A (call (.type "enumerate") [.ref l]) Q E s := by
  obtain ⟨⟨c, dct, dt, sl⟩, hl, hc, n, hd⟩ := hL
  replace hc : c = .type "tuple" := hc
  replace hd : dt = .seq its n := hd
  subst hc hd
  refine callType_new F.called_enumerate (by decide) (F.typeCall_enumerate_1 _) (F.newCall_enumerate_1 _) (fun obj => F.args_object_init_2 obj _) F.entry_enumerate_new (enumNewT l its n dct sl) ⟨hl, ?_⟩
  have hz : (s.heap.push { cls := .type "tuple_iterator", data := .fields #[.ref l, .int 0 0] }).objs.size = s.heap.objs.size + 1 := Heap.size_push ..
  show _ ∧ _
  rw [hz]
  have he : IsEnum ((s.heap.push { cls := .type "tuple_iterator", data := .fields #[.ref l, .int 0 0] }).push { cls := .type "enumerate", data := .fields #[.none, .bool false, .ref s.heap.objs.size, rawInt 0, .none, .none] }) (s.heap.objs.size + 1) s.heap.objs.size 0 .none := by
    have := Heap.get?_push_size (s.heap.push { cls := .type "tuple_iterator", data := .fields #[.ref l, .int 0 0] }) (o := { cls := .type "enumerate", data := .fields #[.none, .bool false, .ref s.heap.objs.size, rawInt 0, .none, .none] }) rfl
    rw [hz] at this; exact this
  exact ⟨⟨_, he, rfl⟩, h _ he ⟨_, Heap.get?_push_of_some _ (Heap.get?_push_size _ rfl), rfl, rfl⟩ fun b o x => Heap.get?_push_of_some _ (Heap.get?_push_of_some _ x)⟩
def iEnumT (K : PySem.W.Frag) (ta : TA) : TI := fun σ H R => ta σ H fun vs H1 => ∃ a xs, vs = [.ref a] ∧ SqT K H1 a xs ∧ R (IteT K a) H1
end Z

set_option Elab.async false
set_option linter.all false
set_option maxRecDepth 100000
set_option maxHeartbeats 4000000
/-! what is walked, be it a list or a tuple; readings of loops, comprehensions and dicts -/
namespace Z
open PySem PySem.Spec PyProof.Rows L2
def SqA (K : PySem.W.Frag) (H : Hp) (a : Addr) (xs : List V) : Prop := SqL K H a xs ∨ SqT K H a xs
/-- what stood at a stands there -/
def AtS (H : Hp) (a : Addr) (H' : Hp) : Prop := ∀ o, H a = some o → H' a = some o
section
variable {K : PySem.W.Frag} {H H' : Hp} {a : Addr} {xs : List V}
theorem AtS.refl : AtS H a H := fun _ e => e
theorem AtS.of (s : Same H H') : AtS H a H' := fun _ e => s _ _ e
theorem atL (s : AtS H a H') (h : SqL K H a xs) : SqL K H' a xs := by
  rcases h with (h | ⟨o, h⟩) | h
  · exact .inl (.inl (s _ h))
  · exact .inl (.inr ⟨o, s _ h⟩)
  · exact .inr h
theorem atT (s : AtS H a H') (h : SqT K H a xs) : SqT K H' a xs := by
  rcases h with (h | ⟨o, h⟩) | h
  · exact .inl (.inl (s _ h))
  · exact .inl (.inr ⟨o, s _ h⟩)
  · exact .inr h
theorem atA (s : AtS H a H') (h : SqA K H a xs) : SqA K H' a xs := h.elim (fun h => .inl (atL s h)) fun h => .inr (atT s h)
theorem sameA (s : Same H H') (h : SqA K H a xs) : SqA K H' a xs := atA (.of s) h
theorem SqA.l (h : H a = some (.lst xs)) : SqA K H a xs := .inl (.of h)
theorem SqA.t (h : H a = some (.tup xs)) : SqA K H a xs := .inr (.of h)
end
/-- e, a list or a tuple, item by item -/
def WkA (K : PySem.W.Frag) (H1 : Hp) (a : Addr) (xs : List V) (Y : Nat → Hp → V → Hp → Prop) (R : It → Prop) : Prop := (SqL K H1 a xs ∧ ∀ J, Walk J xs.length (fun H' => SqL K H' a xs) Y → R J) ∨ (SqT K H1 a xs ∧ ∀ J, Walk J xs.length (fun H' => SqT K H' a xs) Y → R J)
theorem WkA.intro {K : PySem.W.Frag} {H0 H1 : Hp} {a : Addr} {xs : List V} {Y : Nat → Hp → V → Hp → Prop} {R : It → Prop} (s : SqA K H0 a xs) (s1 : Same H0 H1) (h : ∀ J G, Walk J xs.length G Y → (∀ H', Same H0 H' → G H') → R J) : WkA K H1 a xs Y R := by
  rcases s with s | s
  · exact .inl ⟨atL (.of s1) s, fun J w => h J _ w fun H' z => atL (.of z) s⟩
  · exact .inr ⟨atT (.of s1) s, fun J w => h J _ w fun H' z => atT (.of z) s⟩
def iAny (K : PySem.W.Frag) (tl : TE) : TI := fun σ H R => tl σ H fun x H1 => ∃ a xs, x = .ref a ∧ WkA K H1 a xs (YAt xs) fun J => R J H1
theorem pi_any {X : Cx} {K : PySem.W.Frag} {tg l : Expr} {tl : TE} (hK : X.K = K) (hl : PE X l tl) : PI X tg l (iAny K tl) := by
  subst hK
  refine ⟨fun pins s σ H R I h => ?_⟩
  refine thn (hl.run pins s σ H _ I h) fun v s1 ⟨x, H1, I1, r1, q1⟩ => ?_
  obtain ⟨a, xs, e, hq⟩ := q1
  subst e
  cases r1
  have one : ∀ b ∈ [s1.heap.objs.size], FpOk X pins H1 b := fun b hb => by
    have e : b = s1.heap.objs.size := by simpa using hb
    subst e
    exact I1.fpOk (Nat.le_refl _) (I1.hok.fresh (Nat.le_refl _))
  rcases hq with ⟨hq, q⟩ | ⟨hq, q⟩
  · obtain ⟨its, rv, p, hz⟩ := I1.list hq
    exact wpAny_pyIter_list p.isList ⟨s1.heap.objs.size, [s1.heap.objs.size], _, _, H1, rfl, I1.kept (t' := s1.toks) fun b o e => Heap.get?_push_of_some _ e, turn_list a _, ⟨_, Heap.get?_push_size _ rfl, rfl, rfl⟩, one, q _ walk_list⟩
  · obtain ⟨its, rv, p, hz⟩ := I1.tuple hq
    exact wpAny_pyIter_tuple (show s1.heap.IsTuple a its.toArray from p) ⟨s1.heap.objs.size, [s1.heap.objs.size], _, _, H1, rfl, I1.kept (t' := s1.toks) fun b o e => Heap.get?_push_of_some _ e, turn_tuple a _, ⟨_, Heap.get?_push_size _ rfl, rfl, rfl⟩, one, q _ walk_tup⟩
theorem walk_enumT {K : PySem.W.Frag} {a : Addr} {xs : List V} : Walk (IteT K a) xs.length (fun H => SqT K H a xs) (YPair (fun i => some (.int (i : Nat))) (fun i => xs[i]?)) := by
  refine ⟨fun i _ hi q => ⟨xs, xs[i], q, by simp [hi]⟩, fun _ q => ⟨xs, q, Nat.le_refl _⟩, fun i H v H' _ q y => ?_⟩
  obtain ⟨T, x, h1, h2, h3, h4⟩ := y
  exact ⟨T, .int (i : Nat), x, h1, h2, h3, rfl, h4 xs q⟩
/-- enumerate of a list or a tuple -/
def iEnA (K : PySem.W.Frag) (ta : TA) : TI := fun σ H R => ta σ H fun vs H1 => ∃ a xs, vs = [.ref a] ∧ WkA K H1 a xs (YPair (fun i => some (.int (i : Nat))) (fun i => xs[i]?)) fun J => R J H1
theorem pi_enA {X : Cx} {K : PySem.W.Frag} {e : Expr} {ta : TA} {p pos tpos : Pos} {elts : List Expr} {kk : Nat} (hK : X.K = K) (hg : Gl X "enumerate") (hm : X.mg "enumerate" = none) (ha : PA X [e] ta) (hs : starEach [e] X.env = [(false, eval e X.env)] := by rfl) :
    PI X (.Tuple elts kk tpos) (.Call (.Name "enumerate" p) [e] [] pos) (iEnA K ta) := by
  subst hK
  refine ⟨fun pins s σ H R I h => ?_⟩
  refine Call_ (ld_blt I hg hm boot_enumerate (PyProof.Rows.callWith_type1 (thn (ha.run pos pins s σ H _ I h) fun us s1 ⟨vs, H1, I1, r1, q1⟩ => ?_) hs rfl))
  obtain ⟨a, xs, ex, hq⟩ := q1
  subst ex
  obtain ⟨u, rfl, r⟩ := r1.one
  cases r
  have two : ∀ b ∈ [s1.heap.objs.size + 1, s1.heap.objs.size], FpOk X pins H1 b := fun b hb => by
    have e' : b = s1.heap.objs.size + 1 ∨ b = s1.heap.objs.size := by simpa using hb
    have hle : s1.heap.objs.size ≤ b := by
      rcases e' with z | z
      · rw [z]; exact Nat.le_add_right _ _
      · rw [z]; exact Nat.le_refl _
    exact I1.fpOk hle (I1.hok.fresh hle)
  rcases hq with ⟨hq, q⟩ | ⟨hq, q⟩
  · obtain ⟨its, rv, p', hz⟩ := I1.list hq
    refine call_enumerate_list p'.isList fun h' he hit hsz hk => wpAny_pyIter_enum he ?_
    exact ⟨s1.heap.objs.size + 1, [s1.heap.objs.size + 1, s1.heap.objs.size], _, _, H1, rfl, I1.kept (t' := s1.toks) hk, turn_enum a (s1.heap.objs.size + 1) s1.heap.objs.size, ⟨⟨.none, he⟩, hit, Nat.succ_ne_self _⟩, two, q _ walk_enum⟩
  · obtain ⟨its, rv, p', hz⟩ := I1.tuple hq
    refine callEnumT p' fun h' he hit hk => wpAny_pyIter_enum he ?_
    have hal : a < s1.heap.objs.size := by obtain ⟨_, z, _⟩ := p'; exact Heap.lt_size z
    exact ⟨s1.heap.objs.size + 1, [s1.heap.objs.size + 1, s1.heap.objs.size], _, _, H1, rfl, I1.kept (t' := s1.toks) hk, turn_enumT a (s1.heap.objs.size + 1) s1.heap.objs.size, ⟨⟨.none, he⟩, hit, Nat.succ_ne_self _, Nat.ne_of_lt hal, Nat.ne_of_lt (Nat.lt_succ_of_lt hal)⟩, two, q _ walk_enumT⟩
/-! ### readings -/
section
variable {K : PySem.W.Frag} {σ : L2.St} {H H0 : Hp} {D : Ends} {te tl tk tv td ty : TE} {tt tt1 : TT} {tr : TA} {g g1 : TG} {tb : TS} {Q : VK} {a : Addr} {xs : List V} {n : Nat}
def rForA (K : PySem.W.Frag) (g : TG) (tb : TS) (D : Ends) (σ : L2.St) (x : V) (H1 : Hp) : Prop := ∃ a xs, x = .ref a ∧ WkA K H1 a xs (YAt xs) fun J => rFor J g tb D σ H1
theorem i_forA0 (h : tl σ H (fun x H1 => rForA K g tb D σ x H1)) : tFor (iAny K tl) g tb D σ H := h
theorem i_forA (Pv : Nat → L2.St → Hp → Prop) (s : SqA K H0 a xs) (h0 : Pv 0 σ H) (hl : ∀ i σ H1, Pv i σ H1 → Same H0 H1)
    (hs : ∀ i x σ H, xs[i]? = some x → Pv i σ H → g x σ H fun σ2 H2 => tb { D with nx := Pv (i + 1), ct := Pv (i + 1), bk := D.nx } σ2 H2) (hd : ∀ σ H, Pv xs.length σ H → D.nx σ H) : rForA K g tb D σ (.ref a) H :=
  ⟨a, xs, rfl, .intro s (hl _ _ _ h0) fun J G w hG => for_it w Pv h0 (fun i σ H1 _ p => hG _ (hl i σ H1 p)) (fun i x σ H H' _ p y => by obtain ⟨rfl, e⟩ := y; exact hs i x σ _ e p) hd⟩
def rEnA (K : PySem.W.Frag) (g : TG) (tb : TS) (D : Ends) (σ : L2.St) (vs : List V) (H1 : Hp) : Prop := ∃ a xs, vs = [.ref a] ∧ WkA K H1 a xs (YPair (fun i => some (.int (i : Nat))) (fun i => xs[i]?)) fun J => rFor J g tb D σ H1
theorem i_enA0 (h : tr σ H (fun vs H1 => rEnA K g tb D σ vs H1)) : tFor (iEnA K tr) g tb D σ H := h
theorem i_enA (Pv : Nat → L2.St → Hp → Prop) (s : SqA K H0 a xs) (h0 : Pv 0 σ H) (hl : ∀ i σ H1, Pv i σ H1 → Same H0 H1)
    (hs : ∀ i x T σ H H2, xs[i]? = some x → Pv i σ H → H T = none → Same H H2 → H2 T = some (.tup [.int (i : Nat), x]) → (∀ b, b ≠ T → H2 b = H b) → g (.ref T) σ H2 fun σ2 H2 => tb { D with nx := Pv (i + 1), ct := Pv (i + 1), bk := D.nx } σ2 H2)
    (hd : ∀ σ H, Pv xs.length σ H → D.nx σ H) : rEnA K g tb D σ [.ref a] H :=
  ⟨a, xs, rfl, .intro s (hl _ _ _ h0) fun J G w hG => for_it w Pv h0 (fun i σ H1 _ p => hG _ (hl i σ H1 p)) (fun i x σ H H' _ p y => by
    obtain ⟨T, v, z, rfl, hT, rfl, e1, e2⟩ := y
    cases e1
    exact hs i z T σ H _ e2 p hT (fun b o e => by rw [upd_ne (ne_of_none e hT)]; exact e) upd_same fun b hb => upd_ne hb) hd⟩
/-- list comprehensions over it -/
def rLcA (K : PySem.W.Frag) (g : TG) (tt : TT) (te : TE) (vs : List Nat) (σ : L2.St) (Q : VK) (x : V) (H1 : Hp) : Prop := ∃ a xs, x = .ref a ∧ WkA K H1 a xs (YAt xs) fun J => ∀ D, H1 D = none → ∃ W : Nat → Nat → Hp → Prop, (∃ m, W 0 m (upd H1 D (.lst []))) ∧ ∀ i m H, W i m H →
  (J.stop i H ∧ Q (.ref D) H) ∨ (J.go i H ∧ ∃ Nx : Hp → Prop, (∀ H', Nx H' → ∃ m', m' < m ∧ W (i + 1) m' H') ∧ ∀ x H', J.yld i H x H' → g x (wipe σ vs) H' fun σ2 H2 => wipe σ2 vs = wipe σ vs ∧ tt σ2 H2 fun b H3 =>
    if b = true then te σ2 H3 fun y H4 => ∃ acc, H4 D = some (.lst acc) ∧ acc.length < sizeLine ∧ Nx (upd H4 D (.lst (acc ++ [y]))) else Nx H3)
theorem i_lcA0 {vs : List Nat} (h : tl σ H (fun x H1 => rLcA K g tt te vs σ Q x H1)) : tLc (iAny K tl) g tt te vs σ H Q := h
theorem i_lcA {vs : List Nat} (Pv : Nat → List V → Hp → Prop) (s : SqA K H0 a xs) (s0 : Same H0 H) (h0 : ∀ D H', H D = none → Same H H' → H' D = some (.lst []) → (∀ b, b ≠ D → H' b = H b) → Pv 0 [] H')
    (hl : ∀ i ys H1, Pv i ys H1 → Same H0 H1)
    (hs : ∀ i x D ys H1, H D = none → xs[i]? = some x → H1 D = some (.lst ys) → Pv i ys H1 → g x (wipe σ vs) H1 fun σ2 H2 => wipe σ2 vs = wipe σ vs ∧ tt σ2 H2 fun b H3 => if b = true then te σ2 H3 fun y H4 => rLcE D Pv i y H4 else LcS D Pv (i + 1) H3)
    (hd : ∀ D ys H1, H D = none → H1 D = some (.lst ys) → Pv xs.length ys H1 → Q (.ref D) H1) : rLcA K g tt te vs σ Q (.ref a) H := by
  refine ⟨a, xs, rfl, .intro s s0 fun J G w hG D hD => ?_⟩
  refine lc_it w (LcS D Pv) ⟨[], upd_same, h0 D _ hD (fun b o e => by rw [upd_ne (ne_of_none e hD)]; exact e) upd_same (fun b hb => upd_ne hb)⟩ ?_ ?_ ?_
  · rintro i H' _ ⟨ys, _, p⟩
    exact hG _ (hl i ys H' p)
  · rintro i x H1 H2 hi ⟨ys, hD', p⟩ ⟨rfl, e⟩
    exact hs i x D ys _ hD e hD' p
  · rintro H' ⟨ys, hD', p⟩
    exact hd D ys H' hD hD' p
/-- dict comprehensions over it -/
def DcS (D : Addr) (Pv : Nat → List (Key × V) → Hp → Prop) (i : Nat) (H : Hp) : Prop := ∃ kvs, H D = some (.dK kvs) ∧ Pv i kvs H
def rDcE (D : Addr) (Pv : Nat → List (Key × V) → Hp → Prop) (i : Nat) (y z : V) (H5 : Hp) : Prop := ∃ kvs k, y = kV k ∧ H5 D = some (.dK kvs) ∧ kvs.length < sizeLine ∧ DcS D Pv (i + 1) (upd H5 D (.dK (putK kvs k z)))
theorem i_dcE {D : Addr} {Pv : Nat → List (Key × V) → Hp → Prop} {i : Nat} {y : Str} {z : V} {kvs : List (Key × V)} (e : H D = some (.dK kvs)) (l : kvs.length < 100000) (h : ∀ H5, H5 D = some (.dK (putK kvs (.inr y) z)) → (∀ c, c ≠ D → H5 c = H c) → Pv (i + 1) (putK kvs (.inr y) z) H5) : rDcE D Pv i (.str y) z H :=
  ⟨kvs, .inr y, rfl, e, Nat.lt_of_lt_of_le l (by decide), _, upd_same, h _ upd_same (fun c hc => upd_ne hc)⟩
def rDcA (K : PySem.W.Frag) (g : TG) (tt : TT) (tk tv : TE) (vs : List Nat) (σ : L2.St) (Q : VK) (x : V) (H1 : Hp) : Prop := ∃ a xs, x = .ref a ∧ WkA K H1 a xs (YAt xs) fun J => ∀ D, H1 D = none → ∃ W : Nat → Nat → Hp → Prop, (∃ m, W 0 m (upd H1 D (.dK []))) ∧ ∀ i m H, W i m H →
  (J.stop i H ∧ Q (.ref D) H) ∨ (J.go i H ∧ ∃ Nx : Hp → Prop, (∀ H', Nx H' → ∃ m', m' < m ∧ W (i + 1) m' H') ∧ ∀ x H', J.yld i H x H' → g x (wipe σ vs) H' fun σ2 H2 => wipe σ2 vs = wipe σ vs ∧ tt σ2 H2 fun b H3 =>
    if b = true then tk σ2 H3 fun y H4 => tv σ2 H4 fun z H5 => ∃ kvs k, y = kV k ∧ H5 D = some (.dK kvs) ∧ kvs.length < sizeLine ∧ Nx (upd H5 D (.dK (putK kvs k z))) else Nx H3)
theorem i_dcA0 {vs : List Nat} (h : tl σ H (fun x H1 => rDcA K g tt tk tv vs σ Q x H1)) : tDc (iAny K tl) g tt tk tv vs σ H Q := h
theorem i_dcA {vs : List Nat} (Pv : Addr → Nat → List (Key × V) → Hp → Prop) (s : SqA K H0 a xs) (s0 : Same H0 H) (h0 : ∀ D H', H D = none → Same H H' → H' D = some (.dK []) → (∀ b, b ≠ D → H' b = H b) → Pv D 0 [] H')
    (hl : ∀ D i ys H1, Pv D i ys H1 → Same H0 H1)
    (hs : ∀ i x D kvs H1, H D = none → xs[i]? = some x → H1 D = some (.dK kvs) → Pv D i kvs H1 → g x (wipe σ vs) H1 fun σ2 H2 => wipe σ2 vs = wipe σ vs ∧ tt σ2 H2 fun b H3 => if b = true then tk σ2 H3 fun y H4 => tv σ2 H4 fun z H5 => rDcE D (Pv D) i y z H5 else DcS D (Pv D) (i + 1) H3)
    (hd : ∀ D kvs H1, H D = none → H1 D = some (.dK kvs) → Pv D xs.length kvs H1 → Q (.ref D) H1) : rDcA K g tt tk tv vs σ Q (.ref a) H := by
  refine ⟨a, xs, rfl, .intro s s0 fun J G w hG D hD => ⟨fun i m H => m = xs.length - i ∧ i ≤ xs.length ∧ DcS D (Pv D) i H, ⟨xs.length, by simp, Nat.zero_le _, [], upd_same, h0 D _ hD (fun b o e => by rw [upd_ne (ne_of_none e hD)]; exact e) upd_same (fun b hb => upd_ne hb)⟩, ?_⟩⟩
  rintro i m H' ⟨rfl, hi, kvs, hD', p⟩
  have q := hG _ (hl D i kvs H' p)
  by_cases hlt : i < xs.length
  · refine .inr ⟨w.goes i H' hlt q, DcS D (Pv D) (i + 1), fun H'' p' => ⟨xs.length - (i + 1), by omega, rfl, hlt, p'⟩, fun x H'' y => ?_⟩
    obtain ⟨rfl, e⟩ := w.yields i H' x H'' hlt q y
    exact hs i x D kvs _ hD e hD' p
  · have e : i = xs.length := by omega
    subst e
    exact .inl ⟨w.stops H' q, hd D kvs H' hD hD' p⟩
/-! dicts -/
def rDGet (x y : V) (H2 : Hp) (Q : VK) : Prop := ∃ a v, x = .ref a ∧ DGet H2 a y (some v) ∧ Q v H2
theorem i_dget0 (h : td σ H (fun x H1 => ty σ H1 (fun y H2 => rDGet x y H2 Q))) : tDGet td ty σ H Q := h
theorem i_dget {kvs : List (Key × V)} {z : Str} {v : V} (e : H a = some (.dK kvs)) (l : valV kvs (.inr z) = some v) (h : Q v H) : rDGet (.ref a) (.str z) H Q := ⟨a, v, rfl, by rw [← l]; exact DGet.k (k := .inr z) e, h⟩
def rDIn (y x : V) (H2 : Hp) (Q : VK) : Prop := ∃ a o, x = .ref a ∧ DGet H2 a y o ∧ Q (.bl o.isSome) H2
theorem i_din0 (h : ty σ H (fun y H1 => td σ H1 (fun x H2 => rDIn y x H2 Q))) : tDIn ty td σ H Q := h
theorem i_din {kvs : List (Key × V)} {z : Str} {b : Bool} (e : H a = some (.dK kvs)) (l : (valV kvs (.inr z)).isSome = b) (h : Q (.bl b) H) : rDIn (.str z) (.ref a) H Q := ⟨a, _, rfl, DGet.k (k := .inr z) e, by rw [l]; exact h⟩
def rDPut (v x y : V) (H3 : Hp) (P : Hp → Prop) : Prop := ∃ a H4, x = .ref a ∧ DPut H3 a y v H4 ∧ P H4
theorem i_dput0 (h : tv σ H (fun v H1 => td σ H1 (fun x H2 => ty σ H2 (fun y H3 => rDPut v x y H3 (fun H4 => D.nx σ H4))))) : sDPut td ty tv D σ H := h
theorem i_dput {kvs : List (Key × V)} {z : Str} {v : V} {P : Hp → Prop} (e : H a = some (.dK kvs)) (l : kvs.length < 100000) (h : ∀ H4, H4 a = some (.dK (putK kvs (.inr z) v)) → (∀ b, b ≠ a → H4 b = H b) → P H4) : rDPut v (.ref a) (.str z) H P :=
  ⟨a, _, rfl, DPut.k (k := .inr z) e (Nat.lt_of_lt_of_le l (by decide)), h _ upd_same fun b hb => upd_ne hb⟩
/-- the merge of two dicts -/
def rMg2 (p : Addr) (kvs : List (Key × V)) (y : V) (H2 : Hp) (Q : VK) : Prop := ∃ b ls, y = .ref b ∧ p ≠ b ∧ H2 b = some (.dK ls) ∧ H2 p = some (.dK kvs) ∧ ls.length ≤ 1000 ∧ Q (.ref p) (upd H2 p (.dK (mergeK kvs ls)))
def rMg1 (p : Addr) (t2 : TE) (σ : L2.St) (x : V) (H1 : Hp) (Q : VK) : Prop := ∃ a ks, x = .ref a ∧ p ≠ a ∧ H1 a = some (.dK ks) ∧ H1 p = some (.dK []) ∧ ks.length ≤ 1000 ∧ t2 σ (upd H1 p (.dK (mergeK [] ks))) fun y H2 => rMg2 p (mergeK [] ks) y H2 Q
theorem i_mg0 {t1 t2 : TE} (h : ∀ p H1, H p = none → Same H H1 → H1 p = some (.dK []) → (∀ b, b ≠ p → H1 b = H b) → t1 σ H1 fun x H2 => rMg1 p t2 σ x H2 Q) : tMerge2 t1 t2 σ H Q :=
  fun p hp => h p _ hp (fun b o e => by rw [upd_ne (ne_of_none e hp)]; exact e) upd_same fun b hb => upd_ne hb
theorem i_mg1 {p : Addr} {ks : List (Key × V)} {t2 : TE} (ne : p ≠ a) (e : H a = some (.dK ks)) (ep : H p = some (.dK [])) (l : ks.length ≤ 1000) (h : ∀ H2, H2 p = some (.dK (mergeK [] ks)) → (∀ b, b ≠ p → H2 b = H b) → t2 σ H2 fun y H3 => rMg2 p (mergeK [] ks) y H3 Q) : rMg1 p t2 σ (.ref a) H Q :=
  ⟨a, ks, rfl, ne, e, ep, l, h _ upd_same fun b hb => upd_ne hb⟩
theorem i_mg2 {p : Addr} {kvs ls : List (Key × V)} (ne : p ≠ a) (e : H a = some (.dK ls)) (ep : H p = some (.dK kvs)) (l : ls.length ≤ 1000) (h : ∀ H2, H2 p = some (.dK (mergeK kvs ls)) → (∀ b, b ≠ p → H2 b = H b) → Q (.ref p) H2) : rMg2 p kvs (.ref a) H Q :=
  ⟨a, ls, rfl, ne, e, ep, l, h _ upd_same fun b hb => upd_ne hb⟩
/-- a display of one pair -/
theorem i_disp1 {tk tv : TE} (h : ∀ p H1, H p = none → Same H H1 → H1 p = some (.dK []) → (∀ b, b ≠ p → H1 b = H b) → tk σ H1 fun x H2 => tv σ H2 fun y H3 => H3 p = some (.dK []) ∧ ∃ z : Str, x = .str z ∧ ∀ H4, H4 p = some (.dK [(.inr z, y)]) → (∀ b, b ≠ p → H4 b = H3 b) → Q (.ref p) H4)
    (mono : ∀ (P P' : VK), (∀ x H, P x H → P' x H) → ∀ σ H, tk σ H P → tk σ H P') (mono2 : ∀ (P P' : VK), (∀ x H, P x H → P' x H) → ∀ σ H, tv σ H P → tv σ H P') : tDisp [(tk, tv)] σ H Q := by
  intro p hp
  refine mono _ _ (fun x H2 q => mono2 _ _ (fun y H3 q2 => ?_) _ _ q) _ _ (h p _ hp (fun b o e => by rw [upd_ne (ne_of_none e hp)]; exact e) upd_same fun b hb => upd_ne hb)
  obtain ⟨e, z, rfl, k⟩ := q2
  exact ⟨e, [(.inr z, y)], rfl, (by show 1 ≤ 15; decide), k _ upd_same fun b hb => upd_ne hb⟩
/-! comprehensions with two fors -/
def rLcIn (K : PySem.W.Frag) (D : Addr) (N : Hp → Prop) (g1 : TG) (tt1 : TT) (te : TE) (vs1 : List Nat) (σ2 : L2.St) (x1 : V) (H4 : Hp) : Prop := ∃ a xs, x1 = .ref a ∧ WkA K H4 a xs (YAt xs) fun J1 => ∃ W1 : Nat → Nat → Hp → Prop, (∃ m, W1 0 m H4) ∧ ∀ j k H, W1 j k H →
  (J1.stop j H ∧ N H) ∨ (J1.go j H ∧ ∃ Nx1 : Hp → Prop, (∀ H', Nx1 H' → ∃ k', k' < k ∧ W1 (j + 1) k' H') ∧ ∀ x H', J1.yld j H x H' → g1 x (wipe σ2 vs1) H' fun σ3 H5 => wipe σ3 vs1 = wipe σ2 vs1 ∧ tt1 σ3 H5 fun b H6 =>
    if b = true then te σ3 H6 fun y H7 => ∃ acc, H7 D = some (.lst acc) ∧ acc.length < sizeLine ∧ Nx1 (upd H7 D (.lst (acc ++ [y]))) else Nx1 H6)
def rLc2A (K : PySem.W.Frag) (g : TG) (tt : TT) (tl1 : TE) (g1 : TG) (tt1 : TT) (te : TE) (vs vs1 : List Nat) (σ : L2.St) (Q : VK) (x : V) (H1 : Hp) : Prop := ∃ a xs, x = .ref a ∧ WkA K H1 a xs (YAt xs) fun J => ∀ D, H1 D = none → ∃ W : Nat → Nat → Hp → Prop, (∃ m, W 0 m (upd H1 D (.lst []))) ∧ ∀ i m H, W i m H →
  (J.stop i H ∧ Q (.ref D) H) ∨ (J.go i H ∧ ∃ Nx : Hp → Prop, (∀ H', Nx H' → ∃ m', m' < m ∧ W (i + 1) m' H') ∧ ∀ x H', J.yld i H x H' → g x (wipe σ vs) H' fun σ2 H2 => wipe σ2 vs = wipe σ vs ∧ tt σ2 H2 fun b H3 =>
    if b = true then tl1 σ2 H3 fun x1 H4 => rLcIn K D Nx g1 tt1 te vs1 σ2 x1 H4 else Nx H3)
theorem i_lc2A0 {tl1 : TE} {vs vs1 : List Nat} (h : tl σ H (fun x H1 => rLc2A K g tt tl1 g1 tt1 te vs vs1 σ Q x H1)) : tLc2 (iAny K tl) g tt (iAny K tl1) g1 tt1 te vs vs1 σ H Q := h
theorem i_lcIn {D : Addr} {Pv Pw : Nat → List V → Hp → Prop} {i : Nat} {vs1 : List Nat} {ys : List V} (s : SqA K H0 a xs) (e : H D = some (.lst ys)) (h0 : Pw 0 ys H) (hl : ∀ j ys H1, Pw j ys H1 → Same H0 H1)
    (hs : ∀ j x ys H1, xs[j]? = some x → H1 D = some (.lst ys) → Pw j ys H1 → g1 x (wipe σ vs1) H1 fun σ3 H5 => wipe σ3 vs1 = wipe σ vs1 ∧ tt1 σ3 H5 fun b H6 => if b = true then te σ3 H6 fun y H7 => rLcE D Pw j y H7 else LcS D Pw (j + 1) H6)
    (hd : ∀ ys H1, H1 D = some (.lst ys) → Pw xs.length ys H1 → Pv (i + 1) ys H1) : rLcIn K D (LcS D Pv (i + 1)) g1 tt1 te vs1 σ (.ref a) H := by
  refine ⟨a, xs, rfl, .intro s (hl _ _ _ h0) fun J G w hG => ⟨fun j k H => k = xs.length - j ∧ j ≤ xs.length ∧ LcS D Pw j H, ⟨xs.length, by simp, Nat.zero_le _, ys, e, h0⟩, ?_⟩⟩
  rintro j k H' ⟨rfl, hj, zs, hD, p⟩
  have q := hG _ (hl j zs H' p)
  by_cases hlt : j < xs.length
  · refine .inr ⟨w.goes j H' hlt q, LcS D Pw (j + 1), fun H'' p' => ⟨xs.length - (j + 1), by omega, rfl, hlt, p'⟩, fun x H'' y => ?_⟩
    obtain ⟨rfl, e⟩ := w.yields j H' x H'' hlt q y
    exact hs j x zs _ e hD p
  · have e : j = xs.length := by omega
    subst e
    exact .inl ⟨w.stops H' q, zs, hD, hd zs H' hD p⟩
theorem i_lc2A {tl1 : TE} {vs vs1 : List Nat} (Pv : Nat → List V → Hp → Prop) (s : SqA K H0 a xs) (s0 : Same H0 H) (h0 : ∀ D H', H D = none → Same H H' → H' D = some (.lst []) → (∀ b, b ≠ D → H' b = H b) → Pv 0 [] H')
    (hl : ∀ i ys H1, Pv i ys H1 → Same H0 H1)
    (hs : ∀ i x D ys H1, H D = none → xs[i]? = some x → H1 D = some (.lst ys) → Pv i ys H1 → g x (wipe σ vs) H1 fun σ2 H2 => wipe σ2 vs = wipe σ vs ∧ tt σ2 H2 fun b H3 => if b = true then tl1 σ2 H3 fun x1 H4 => rLcIn K D (LcS D Pv (i + 1)) g1 tt1 te vs1 σ2 x1 H4 else LcS D Pv (i + 1) H3)
    (hd : ∀ D ys H1, H D = none → H1 D = some (.lst ys) → Pv xs.length ys H1 → Q (.ref D) H1) : rLc2A K g tt tl1 g1 tt1 te vs vs1 σ Q (.ref a) H := by
  refine ⟨a, xs, rfl, .intro s s0 fun J G w hG D hD => ⟨fun i m H => m = xs.length - i ∧ i ≤ xs.length ∧ LcS D Pv i H, ⟨xs.length, by simp, Nat.zero_le _, [], upd_same, h0 D _ hD (fun b o e => by rw [upd_ne (ne_of_none e hD)]; exact e) upd_same (fun b hb => upd_ne hb)⟩, ?_⟩⟩
  rintro i m H' ⟨rfl, hi, ys, hD', p⟩
  have q := hG _ (hl i ys H' p)
  by_cases hlt : i < xs.length
  · refine .inr ⟨w.goes i H' hlt q, LcS D Pv (i + 1), fun H'' p' => ⟨xs.length - (i + 1), by omega, rfl, hlt, p'⟩, fun x H'' y => ?_⟩
    obtain ⟨rfl, e⟩ := w.yields i H' x H'' hlt q y
    exact hs i x D ys _ hD e hD' p
  · have e : i = xs.length := by omega
    subst e
    exact .inl ⟨w.stops H' q, hd D ys H' hD hD' p⟩
end
end Z

set_option Elab.async false
set_option linter.all false
set_option maxRecDepth 100000
set_option maxHeartbeats 4000000
/-! more readings: lists and tuples of texts -/
namespace Z
open PySem PySem.Spec PyProof.Rows L2
theorem same_new {H : Hp} {p : Addr} {o : HO} (hp : H p = none) : Same H (upd H p o) := fun b q e => by rw [upd_ne (ne_of_none e hp)]; exact e
section
variable {X : Cx} {K : PySem.W.Frag}
theorem k_inS (hK : X.K = K) : OpR X (compareOp .In) (rIn K false) := by subst hK; exact op_in_seq
theorem k_notInS (hK : X.K = K) : OpR X (compareOp .NotIn) (rIn K true) := by subst hK; exact op_notIn_seq
theorem k_inD (hK : X.K = K) (hu : X.A.units + 65 < cLine) : OpR X (compareOp .In) (rInD K) := by subst hK; exact op_inD hu
theorem k_slA (hK : X.K = K) : SlR X (fun x lo hi H Q => rSlL K x lo hi H Q ∨ rSlT K x lo hi H Q) := by subst hK; exact sl_list.or sl_tup
def rListA (K : PySem.W.Frag) : List V → Hp → VK → Prop := fun xs H Q => ∃ p ys, xs = [.ref p] ∧ (SqL K H p ys ∨ SqT K H p ys) ∧ ∀ l, H l = none → Q (.ref l) (upd H l (.lst ys))
theorem k_listA (hK : X.K = K) : CallR X (.type "list") (rListA K) := by subst hK; exact call_list_of
def rTupA (K : PySem.W.Frag) : List V → Hp → VK → Prop := fun xs H Q => ∃ p ys, xs = [.ref p] ∧ ((SqL K H p ys ∧ ∀ l, H l = none → Q (.ref l) (upd H l (.tup ys))) ∨ (SqT K H p ys ∧ Q (.ref p) H))
theorem k_tupA (hK : X.K = K) : CallR X (.type "tuple") (rTupA K) := by subst hK; exact call_tuple_of
theorem k_sort (hK : X.K = K) : CallR X (.builtin "sorted") (rSortST K) := by subst hK; exact cr_sortST
theorem k_iterT (hK : X.K = K) : CallR X (.builtin "iter") (rIterT K) := by subst hK; exact cr_iterT
theorem k_eqDD (hK : X.K = K) (hu : X.A.units + 66 < cLine) : OpR X (compareOp .Eq) (rEqDD K) := by subst hK; exact op_eqDD hu
theorem k_any (hK : X.calm = true) (hK2 : X.K = K) : CallR X (.builtin "any") (rAny K) := by subst hK2; exact cr_any hK
theorem k_all (hK : X.calm = true) (hK2 : X.K = K) : CallR X (.builtin "all") (rAll K) := by subst hK2; exact cr_all hK
theorem k_listOwn {C : Addr} {j : Nat} {spI spL : Sp} {kI kL : Nat} (hK : X.K = K) (hc : X.calm = true) (cI : CalO X.prog X.w X.K X.mg X.base C "__iter__" kI spI) (cL : CalO X.prog X.w X.K X.mg X.base C "__len__" kL spL) (hr : Room j X.A) (hI : kI + 2 ≤ j := by decide) (hL : kL + 3 ≤ j := by decide) :
    CallR X (.type "list") (rListOwn K C spI spL) := by subst hK; exact z_listOwn hc cI cL hr hI hL
/-- the truth of any value -/
def tTruA (K : PySem.W.Frag) (ta : TE) : TT := fun σ H Q => ta σ H fun x H' => ∃ k, TruV K x H' k ∧ Q k H'
theorem k_truth {a : Expr} {ta : TE} (hK : X.K = K) (ha : PE X a ta) (he : ∀ whole, isTrue a X.env whole = (do let v ← whole; standAt a.pos; holding [v] (truthy v))) : PT X a (tTruA K ta) := by subst hK; exact pt_truth ha he
/-- a dict's own pairs, copied -/
def rDictD : List V → Hp → VK → Prop := fun xs H Q => ∃ (a : Addr) (kvs : List (Key × V)), xs = [.ref a] ∧ Rd H a (.dK kvs) ∧ ∀ p, H p = none → Q (.ref p) (upd H p (.dK kvs))
def rSortD : List V → Hp → VK → Prop := fun xs H Q => ∃ (a : Addr) (kvs : List (Key × V)) (ks : List Str), xs = [.ref a] ∧ Rd H a (.dK kvs) ∧ kvs.map (·.1) = ks.map Sum.inr ∧ ks.length < 64 ∧
    ∀ ys p, ys.Perm ks → sortedS ys = true → H p = none → Q (.ref p) (upd H p (.lst (ys.map V.str)))
theorem k_sortD (hc : X.calm = true) : CallR X (.builtin "sorted") rSortD := call_sortedD hc
end
section
variable {K : PySem.W.Frag} {σ : L2.St} {H : Hp} {D : Ends} {te ta : TE} {Q : VK} {QB : Bool → Hp → Prop} {a p : Addr} {xs ys : List V} {zs : List Str} {x y : Str}
theorem flat_strs : ∀ zs : List Str, (zs.map V.str).all flatV = true
  | [] => rfl
  | z :: zs => by
    rw [List.map_cons, List.all_cons, flat_strs zs]
    rfl
theorem inV_strs : ∀ (zs : List Str) (x : Str), inV (.str x) (zs.map V.str) = decide (x ∈ zs)
  | [], x => by simp [inV]
  | z :: zs, x => by
    have ih := inV_strs zs x
    unfold inV at ih ⊢
    rw [List.map_cons, List.any_cons, ih]
    have e : eqV (.str z) (.str x) = decide (z = x) := by
      show (z == x) = decide (z = x)
      rfl
    rw [e]
    by_cases h : z = x
    · subst h
      simp
    · have : ¬ x = z := fun e => h e.symm
      simp [h, this]
theorem i_inS (s : SqA K H p (zs.map V.str)) (h : Q (.bl (decide (x ∈ zs))) H) : rIn K false (.str x) (.ref p) H Q := ⟨p, _, rfl, s, rfl, flat_strs zs, by rw [inV_strs]; exact h⟩
theorem i_notInS (s : SqA K H p (zs.map V.str)) (h : Q (.bl (!decide (x ∈ zs))) H) : rIn K true (.str x) (.ref p) H Q := ⟨p, _, rfl, s, rfl, flat_strs zs, by rw [inV_strs]; exact h⟩
theorem i_lenA (s : SqA K H p xs) (h : Q (.int xs.length) H) : rLen K [.ref p] H Q := s.elim (fun s => i_lenL s h) fun s => i_lenT s h
theorem i_tru0 (h : ta σ H (fun x H1 => ∃ k, TruV K x H1 k ∧ QB k H1)) : tTruA K ta σ H QB := h
theorem i_listA (s : SqA K H p ys) (h : ∀ l H', H l = none → Same H H' → H' l = some (.lst ys) → (∀ b, b ≠ l → H' b = H b) → Q (.ref l) H') : rListA K [.ref p] H Q := ⟨p, ys, rfl, s, fun l hl => h l _ hl (same_new hl) upd_same fun b hb => upd_ne hb⟩
theorem i_tupL (s : SqL K H p ys) (h : ∀ l H', H l = none → Same H H' → H' l = some (.tup ys) → (∀ b, b ≠ l → H' b = H b) → Q (.ref l) H') : rTupA K [.ref p] H Q := ⟨p, ys, rfl, .inl ⟨s, fun l hl => h l _ hl (same_new hl) upd_same fun b hb => upd_ne hb⟩⟩
theorem i_sort (s : SqA K H p (zs.map V.str)) (l : zs.length < 64) (h : ∀ q H', H q = none → Same H H' → (∀ b, b ≠ q → H' b = H b) → H' q = some (.lst ((srt zs).map V.str)) → Q (.ref q) H') : rSortST K [.ref p] H Q := ⟨p, zs, rfl, s, l, h⟩
theorem i_sortD {kvs : List (Key × V)} (e : H a = some (.dK kvs)) (k : kvs.map (·.1) = zs.map Sum.inr) (l : zs.length < 64) (h : ∀ q H', H q = none → Same H H' → (∀ b, b ≠ q → H' b = H b) → H' q = some (.lst ((srt zs).map V.str)) → Q (.ref q) H') : rSortD [.ref a] H Q :=
  ⟨a, kvs, zs, rfl, .inl e, k, l, fun ys q hp hs hq => by obtain rfl := srt_eq hp hs; exact h q _ hq (same_new hq) (fun b hb => upd_ne hb) upd_same⟩
theorem i_iterT {t : Addr} (s : SqT K H t ys) (h : ∀ q, H q = none → Q (.ref q) (upd H q (TupIt q t 0))) : rIterT K [.ref t] H Q := ⟨t, ys, rfl, s, h⟩
/-- xs[:j], j below the length -/
theorem cut_to (xs : List V) (j : Nat) : cutV xs none (some (j : Int)) = xs.take j := by
  unfold cutV
  rw [HT.sIx_none, HT.sIx_nat, List.drop_zero, Nat.sub_zero]
  by_cases h : j ≤ xs.length
  · rw [Nat.min_eq_left h]
  · rw [Nat.min_eq_right (by omega), List.take_length, List.take_of_length_le (by omega)]
theorem i_slTo {j : Nat} (s : SqA K H a xs) (hj : j < xs.length) (h : ∀ q H2, H q = none → Same H H2 → SqA K H2 q (xs.take j) → (∀ b, b ≠ q → H2 b = H b) → Q (.ref q) H2) : (rSlL K (.ref a) none (some (j : Int)) H Q ∨ rSlT K (.ref a) none (some (j : Int)) H Q) := by
  rcases s with s | s
  · exact .inl ⟨a, xs, rfl, s, fun q hq => by rw [cut_to]; exact h q _ hq (same_new hq) (.l upd_same) fun b hb => upd_ne hb⟩
  · refine .inr ⟨a, xs, rfl, s, ?_, fun q hq => by rw [cut_to]; exact h q _ hq (same_new hq) (.t upd_same) fun b hb => upd_ne hb⟩
    rintro ⟨_, e⟩
    rw [HT.sIx_nat, Nat.min_eq_left (by omega)] at e
    omega
/-- {x!r} -/
def rFmtR (x : V) (H1 : Hp) (Q : VK) : Prop := (∃ y : Str, x = .str y ∧ (reprText y).length ≤ sizeLine ∧ Q (.str (reprText y)) H1) ∨ ∃ i : Int, x = .int i ∧ i.natAbs.log2 < 1920 ∧ Q (.str (toString i)) H1
theorem i_fmtR (h : te σ H (fun x H1 => rFmtR x H1 Q)) : tFmtR te σ H Q := h
theorem i_fmtRS (l : (reprText y).length ≤ 100000) (h : Q (.str (reprText y)) H) : rFmtR (.str y) H Q := .inl ⟨y, rfl, Nat.le_trans l (by decide), h⟩
/-! lists changed -/
theorem ix_seq {n k : Nat} (h : k < n) : seqIndex? (k : Int) n = some k := by
  have := ixN_seq (ixN_n h)
  exact this.1
theorem i_popAt {k : Nat} {v : V} (e : H p = some (.lst xs)) (l : xs.length ≤ 100000) (hk : xs[k]? = some v) (h : ∀ H2, H2 p = some (.lst (xs.eraseIdx k)) → (∀ b, b ≠ p → H2 b = H b) → Q v H2) : rPopAt (.ref p) [.int (k : Nat)] H Q := by
  have lt := (List.getElem?_eq_some_iff.mp hk).1
  exact ⟨p, xs, k, k, v, rfl, rfl, e, by omega, by omega, ix_seq lt, hk, h _ upd_same fun b hb => upd_ne hb⟩
/-! data -/
theorem dp_strs : ∀ zs : List Str, DpAll K H (zs.map V.str) (zs.map PyData.str)
  | [] => .nil
  | z :: zs => .cons (.str z) (dp_strs zs)
theorem eqv_strs : ∀ zs ws : List Str, PyData.eqvAll (zs.map PyData.str) (ws.map PyData.str) = decide (zs = ws)
  | [], [] => rfl
  | [], _ :: _ => rfl
  | _ :: _, [] => rfl
  | z :: zs, w :: ws => by
    show (PyData.eqv (.str z) (.str w) && PyData.eqvAll _ _) = _
    rw [eqv_strs zs ws]
    show ((z == w) && _) = _
    by_cases h1 : z = w <;> by_cases h2 : zs = ws <;> simp [h1, h2]
end
end Z

set_option Elab.async false
set_option linter.all false
set_option maxRecDepth 100000
set_option maxHeartbeats 4000000
/-! orders in the heap; promises of the defs about them -/
namespace Z
open PySem PySem.Spec PyProof.Rows L2
theorem u65 {A : Around} {k : Nat} (hr : Room k A) : A.units + 65 < cLine := by have := hr.un; omega
theorem u66 {A : Around} {k : Nat} (hr : Room k A) : A.units + 66 < cLine := by have := hr.un; omega
/-- this promise is never asked -/
def spNo2 : Sp := fun vs _ _ _ => vs.length = 2 ∧ False
/-! ### words -/
def let_ (c : Nat) : Bool := decide (97 ≤ c ∧ c ≤ 122)
def nameL (l : List Nat) : Bool := decide (1 ≤ l.length ∧ l.length ≤ 8) && (l.head?.any let_ && l.all fun c => let_ c || ZS.dig c)
def nameB (z : Str) : Bool := nameL (TL.tl z)
theorem nameB_len {z : Str} (h : nameB z = true) : z.length ≤ 8 := by
  unfold nameB nameL at h
  rw [Bool.and_eq_true] at h
  have := of_decide_eq_true h.1
  have e := TL.len_tl z
  omega
theorem nameB_ok {z : Str} (h : nameB z = true) : PyData.strOk z = true := by
  unfold nameB nameL at h
  rw [Bool.and_eq_true, Bool.and_eq_true] at h
  have h2 := List.all_eq_true.mp h.2.2
  unfold PyData.strOk
  rw [← Array.all_toList, List.all_eq_true]
  intro c hc
  have := h2 c hc
  unfold let_ ZS.dig at this
  simp at this ⊢
  omega
def spIsName : Sp := fun vs H Q _ => vs.length = 1 ∧ ∃ z : Str, vs = [.str z] ∧ z.length ≤ 100000 ∧ ∀ H', Same H H' → Q (.bl (nameB z)) H'
def spCheckN (K : PySem.W.Frag) : Sp := fun vs H Q _ => vs.length = 1 ∧ ∃ (a : Addr) (zs : List Str), vs = [.ref a] ∧ SqA K H a (zs.map V.str) ∧ zs.length ≤ 60 ∧ (∀ z ∈ zs, nameB z = true) ∧ zs.Nodup ∧ ∀ H', Same H H' → Q .non H'
/-- a text whose printed form is not too long -/
def RB (z : Str) : Prop := (reprText z).length ≤ 10000
def GStr : V → Hp → Prop := fun v _ => ∃ z : Str, v = .str z ∧ RB z
/-- an error's own name -/
def EName (CU : Addr) (z : Str) (H : Hp) (E : XK) : Prop := ∀ d H', Same H H' → H' d = some (.xd [("name", .str z)]) → E (.ref CU) (some d) H'
def miss (ks zs : List Str) : Option Str := zs.find? fun z => !decide (z ∈ ks)
def spAmong (K : PySem.W.Frag) (CU : Addr) : Sp := fun vs H Q E => vs.length = 2 ∧ ∃ (a b : Addr) (ks zs : List Str), vs = [.ref a, .ref b] ∧ SqA K H a (ks.map V.str) ∧ SqA K H b (zs.map V.str) ∧
  (∀ z, miss ks zs = some z → RB z ∧ EName CU z H E) ∧ (miss ks zs = none → ∀ H', Same H H' → Q .non H')
theorem miss_none {ks zs : List Str} (h : ∀ z ∈ zs, z ∈ ks) : miss ks zs = none := by
  unfold miss
  rw [List.find?_eq_none]
  intro z hz
  simp [h z hz]
section
variable {K : PySem.W.Frag} {CU a b : Addr} {H : Hp} {Q : VK} {E : XK} {ks zs : List Str} {z : Str}
theorem i_isName (hz : z.length ≤ 100000) (h : ∀ H', Same H H' → Q (.bl (nameB z)) H') : spIsName [.str z] H Q E := ⟨rfl, z, rfl, hz, h⟩
end
/-! ### pairs and orders in the heap -/
/-- tuples of two texts -/
def PrT (K : PySem.W.Frag) (H : Hp) (ps : List V) (E : List (Str × Str)) : Prop := ps.length = E.length ∧ ∀ (i : Nat) (p : V) (e : Str × Str), ps[i]? = some p → E[i]? = some e → ∃ q, p = .ref q ∧ SqT K H q [.str e.1, .str e.2]
def PrA (K : PySem.W.Frag) (H : Hp) (b : Addr) (E : List (Str × Str)) : Prop := ∃ ps, SqA K H b ps ∧ PrT K H ps E
theorem PrT.mono {K : PySem.W.Frag} {H H' : Hp} {ps : List V} {E : List (Str × Str)} (s : Same H H') (h : PrT K H ps E) : PrT K H' ps E :=
  ⟨h.1, fun i p e hp he => let ⟨q, e1, e2⟩ := h.2 i p e hp he; ⟨q, e1, Same_seqT s e2⟩⟩
theorem PrA.mono {K : PySem.W.Frag} {H H' : Hp} {b : Addr} {E : List (Str × Str)} (s : Same H H') (h : PrA K H b E) : PrA K H' b E := let ⟨ps, h1, h2⟩ := h; ⟨ps, sameA s h1, h2.mono s⟩
theorem PrT.nil {K : PySem.W.Frag} {H : Hp} : PrT K H [] [] := ⟨rfl, fun i p e hp => by simp at hp⟩
theorem PrT.snoc {K : PySem.W.Frag} {H : Hp} {ps : List V} {E : List (Str × Str)} {q : Addr} {a b : Str} (h : PrT K H ps E) (e : SqT K H q [.str a, .str b]) : PrT K H (ps ++ [.ref q]) (E ++ [(a, b)]) := by
  refine ⟨by rw [List.length_append, List.length_append, h.1]; rfl, fun i p e' hp he => ?_⟩
  by_cases lt : i < ps.length
  · rw [List.getElem?_append_left lt] at hp
    rw [List.getElem?_append_left (by rw [← h.1]; exact lt)] at he
    exact h.2 i p e' hp he
  · rw [List.getElem?_append_right (by omega)] at hp
    rw [List.getElem?_append_right (by rw [← h.1]; omega), ← h.1] at he
    cases hk : i - ps.length with
    | zero =>
      rw [hk] at hp he
      cases hp
      cases he
      exact ⟨q, rfl, e⟩
    | succ n =>
      rw [hk] at hp
      simp at hp
/-- an order at a: its names ascending, what is above each -/
def rowsOf (N : List Str) (A : Str → Addr) : List (Key × V) := N.map fun n => (.inr n, .ref (A n))
def OTab (H : Hp) (d : Addr) (N : List Str) (R : Str → Str → Bool) : Prop := ∃ A, H d = some (.dK (rowsOf N A)) ∧ ∀ n ∈ N, H (A n) = some (.tup ((OM.ab N R n).map V.str))
def IsO (CO : Addr) (H : Hp) (a : Addr) (N : List Str) (R : Str → Str → Bool) : Prop := ∃ dx t d, H a = some (.ins CO dx [("names", .ref t), ("_above", .ref d)]) ∧ H t = some (.tup (N.map V.str)) ∧ OTab H d N R ∧ N.length ≤ 8 ∧ N.Nodup ∧ ∀ n ∈ N, nameB n = true
theorem OTab.mono {H H' : Hp} {d : Addr} {N : List Str} {R : Str → Str → Bool} (s : Same H H') (h : OTab H d N R) : OTab H' d N R := let ⟨A, h1, h2⟩ := h; ⟨A, s _ _ h1, fun n hn => s _ _ (h2 n hn)⟩
theorem IsO.mono {CO : Addr} {H H' : Hp} {a : Addr} {N : List Str} {R : Str → Str → Bool} (s : Same H H') (h : IsO CO H a N R) : IsO CO H' a N R :=
  let ⟨dx, t, d, h1, h2, h3, h4⟩ := h; ⟨dx, t, d, s _ _ h1, s _ _ h2, h3.mono s, h4⟩
theorem rows_val {A : Str → Addr} {n : Str} : ∀ {N : List Str}, n ∈ N → valV (rowsOf N A) (.inr n) = some (.ref (A n))
  | m :: N, h => by
    by_cases e : m = n
    · subst e
      exact valV_pos rfl
    · have hm : n ∈ N := by
        rcases List.mem_cons.mp h with h | h
        · exact absurd h.symm e
        · exact h
      have := rows_val (A := A) hm
      unfold rowsOf at this ⊢
      rw [List.map_cons, valV_neg (fun z => e (Sum.inr.inj z))]
      exact this
def spClosure (K : PySem.W.Frag) : Sp := fun vs H Q _ => vs.length = 2 ∧ ∃ (a b : Addr) (N : List Str) (E : List (Str × Str)), vs = [.ref a, .ref b] ∧ SqA K H a (N.map V.str) ∧ PrA K H b E ∧ N.length ≤ 8 ∧ N.Nodup ∧ N.Pairwise (fun a b => ltS b a = false) ∧
  (∀ p ∈ E, p.1 ∈ N ∧ p.2 ∈ N) ∧ ∀ d H', H d = none → Same H H' → OTab H' d N (OM.cl E) → Q (.ref d) H'
/-- new tuples of two texts -/
def TPr (H : Hp) (qs : List Addr) (E : List (Str × Str)) : Prop := qs.length = E.length ∧ ∀ (i : Nat) (q : Addr) (e : Str × Str), qs[i]? = some q → E[i]? = some e → H q = some (.tup [.str e.1, .str e.2])
theorem TPr.keep {H H' : Hp} {qs : List Addr} {E : List (Str × Str)} (h : TPr H qs E) (t : ∀ c ys, H c = some (.tup ys) → H' c = some (.tup ys)) : TPr H' qs E := ⟨h.1, fun i q e a b => t _ _ (h.2 i q e a b)⟩
theorem TPr.mono {H H' : Hp} {qs : List Addr} {E : List (Str × Str)} (s : Same H H') (h : TPr H qs E) : TPr H' qs E := h.keep fun c ys e => s _ _ e
theorem TPr.nil {H : Hp} : TPr H [] [] := ⟨rfl, fun i q e h => by simp at h⟩
theorem TPr.snoc {H : Hp} {qs : List Addr} {E : List (Str × Str)} {q : Addr} {a b : Str} (h : TPr H qs E) (e : H q = some (.tup [.str a, .str b])) : TPr H (qs ++ [q]) (E ++ [(a, b)]) := by
  refine ⟨by rw [List.length_append, List.length_append, h.1]; rfl, fun i q' e' hq he => ?_⟩
  by_cases lt : i < qs.length
  · rw [List.getElem?_append_left lt] at hq
    rw [List.getElem?_append_left (by rw [← h.1]; exact lt)] at he
    exact h.2 i q' e' hq he
  · rw [List.getElem?_append_right (by omega)] at hq
    rw [List.getElem?_append_right (by rw [← h.1]; omega), ← h.1] at he
    cases hk : i - qs.length with
    | zero =>
      rw [hk] at hq he
      cases hq
      cases he
      exact e
    | succ n =>
      rw [hk] at hq
      simp at hq
theorem TPr.prt {K : PySem.W.Frag} {H : Hp} {qs : List Addr} {E : List (Str × Str)} (h : TPr H qs E) : PrT K H (qs.map V.ref) E := by
  refine ⟨by rw [List.length_map, h.1], fun i p e hp he => ?_⟩
  rw [List.getElem?_map] at hp
  cases hq : qs[i]? with
  | none => rw [hq] at hp; cases hp
  | some q =>
    rw [hq] at hp
    cases hp
    exact ⟨q, rfl, .of (h.2 i q e hq he)⟩
/-- a new list of pairs -/
def LPr (H : Hp) (p : Addr) (E : List (Str × Str)) : Prop := ∃ qs : List Addr, H p = some (.lst (qs.map V.ref)) ∧ TPr H qs E
theorem LPr.a {K : PySem.W.Frag} {H : Hp} {p : Addr} {E : List (Str × Str)} (h : LPr H p E) : PrA K H p E := let ⟨qs, h1, h2⟩ := h; ⟨_, .l h1, h2.prt⟩
theorem LPr.mono {H H' : Hp} {p : Addr} {E : List (Str × Str)} (s : Same H H') (h : LPr H p E) : LPr H' p E := let ⟨qs, h1, h2⟩ := h; ⟨qs, s _ _ h1, h2.mono s⟩
/-- the tuples stand when an object of another kind is changed -/
theorem tup_keep {H H' : Hp} {p : Addr} {o : HO} (e : H p = some o) (nt : ∀ ys, o ≠ .tup ys) (ho : ∀ b, b ≠ p → H' b = H b) : ∀ c ys, H c = some (.tup ys) → H' c = some (.tup ys) := fun c ys hc => by
  rw [ho c (ne_of hc e (fun z => nt ys z.symm))]
  exact hc
theorem lst_keep {H H' : Hp} {p : Addr} {xs : List V} (e : H p = some (.lst xs)) (ho : ∀ b, b ≠ p → H' b = H b) : ∀ c ys, H c = some (.tup ys) → H' c = some (.tup ys) := tup_keep e (fun _ z => nomatch z) ho
/-- one pair more -/
theorem LPr.snoc {H H2 : Hp} {p q : Addr} {E : List (Str × Str)} {xs : List V} {a b : Str} (h : LPr H p E) (e : H p = some (.lst xs)) (eq : H q = some (.tup [.str a, .str b])) (e2 : H2 p = some (.lst (xs ++ [.ref q]))) (ho : ∀ b, b ≠ p → H2 b = H b) : LPr H2 p (E ++ [(a, b)]) := by
  obtain ⟨qs, h1, h2⟩ := h
  have ex : xs = qs.map V.ref := by
    have := h1.symm.trans e
    cases this
    rfl
  subst ex
  exact ⟨qs ++ [q], by rw [e2, List.map_append]; rfl, (h2.snoc eq).keep (lst_keep e ho)⟩
def spPairs (CO : Addr) : Sp := fun vs H Q _ => vs.length = 1 ∧ ∃ a N R, vs = [.ref a] ∧ IsO CO H a N R ∧ ∀ p H', H p = none → Same H H' → LPr H' p (OM.prs N R) → Q (.ref p) H'
def spBtw (CO : Addr) : Sp := fun vs H Q _ => vs.length = 3 ∧ ∃ a N R x y, vs = [.ref a, .str x, .str y] ∧ IsO CO H a N R ∧ x ∈ N ∧ y ∈ N ∧ ∀ p H', H p = none → Same H H' → H' p = some (.lst ((OM.btw N R x y).map V.str)) → Q (.ref p) H'
def spCovers (CO : Addr) : Sp := fun vs H Q _ => vs.length = 1 ∧ ∃ a N R, vs = [.ref a] ∧ IsO CO H a N R ∧ ∀ p H', H p = none → Same H H' → LPr H' p (OM.cvs N R) → Q (.ref p) H'
def spBelow (CO CU : Addr) : Sp := fun vs H Q E => vs.length = 3 ∧ ∃ a N R x y, vs = [.ref a, .str x, .str y] ∧ IsO CO H a N R ∧ (∀ z, miss N [x, y] = some z → RB z ∧ EName CU z H E) ∧ (miss N [x, y] = none → ∀ H', Same H H' → Q (.bl (R x y)) H')
def spOInit (K : PySem.W.Frag) (CO : Addr) : Sp := fun vs H Q _ => vs.length = 3 ∧ ∃ (a b c : Addr) (zs : List Str) (E : List (Str × Str)), vs = [.ref a, .ref b, .ref c] ∧ (∃ dx, H a = some (.ins CO dx [])) ∧ SqA K H b (zs.map V.str) ∧ PrA K H c E ∧
  1 ≤ zs.length ∧ zs.length ≤ 8 ∧ (∀ z ∈ zs, nameB z = true) ∧ zs.Nodup ∧ (∀ p ∈ E, p.1 ∈ zs ∧ p.2 ∈ zs) ∧ E.length ≤ 10000 ∧ OM.Anti E ∧
  ∀ H', IsO CO H' a (srt zs) (OM.cl E) → (∀ x o, x ≠ a → H x = some o → H' x = some o) → Q .non H'
def spOIn (CO : Addr) : Sp := fun vs H Q _ => vs.length = 2 ∧ ∃ a N R z, vs = [.ref a, .str z] ∧ IsO CO H a N R ∧ ∀ H', Same H H' → Q (.bl (decide (z ∈ N))) H'
def spOLen (CO : Addr) : Sp := fun vs H Q _ => vs.length = 1 ∧ ∃ a N R, vs = [.ref a] ∧ IsO CO H a N R ∧ ∀ H', Same H H' → Q (.int (N.length : Nat)) H'
def spOIter (CO : Addr) : Sp := fun vs H Q _ => vs.length = 1 ∧ ∃ a dx t d ys, vs = [.ref a] ∧ H a = some (.ins CO dx [("names", .ref t), ("_above", .ref d)]) ∧ H t = some (.tup ys) ∧ ∀ q, H q = none → Q (.ref q) (upd H q (TupIt q t 0))
/-- the other side of ==: another order, or no order -/
def spOEq (K : PySem.W.Frag) (CO : Addr) : Sp := fun vs H Q _ => vs.length = 2 ∧ ∃ a N R y, vs = [.ref a, y] ∧ IsO CO H a N R ∧
  ((∃ b M S, y = .ref b ∧ IsO CO H b M S ∧ ∀ H', Same H H' → Q (.bl (decide (N = M) && N.all fun n => decide (OM.ab N R n = OM.ab M S n))) H') ∨
   (∃ t, TyX K H y t ∧ PySem.W.kitOne K t (.ref CO) = some false ∧ ∀ H', Same H H' → Q (.bl false) H'))
def spOStr (CO : Addr) : Sp := fun vs H Q _ => vs.length = 1 ∧ ∃ a N R, vs = [.ref a] ∧ IsO CO H a N R ∧ ∀ z H', Same H H' → Q (.str z) H'
/-! ### the closure's dict of dicts -/
def trues (l : List Str) : List (Key × V) := l.map fun k => (.inr k, .bl true)
def setF {α : Type} (f : Str → α) (n : Str) (v : α) : Str → α := fun x => if x = n then v else f x
theorem setF_same {α : Type} {f : Str → α} {n : Str} {v : α} : setF f n v n = v := by simp [setF]
theorem setF_ne {α : Type} {f : Str → α} {n m : Str} {v : α} (h : m ≠ n) : setF f n v m = f m := by simp [setF, h]
theorem valV_map_none {α : Type} {g : α → V} {f : α → Str} {k : Str} : ∀ {l : List α}, (∀ x ∈ l, f x ≠ k) → valV (l.map fun x => (Sum.inr (f x), g x)) (Sum.inr k : Key) = none
  | [], _ => rfl
  | x :: l, h => by
    rw [List.map_cons, valV_neg (fun z => h x List.mem_cons_self (Sum.inr.inj z))]
    exact valV_map_none fun y hy => h y (List.mem_cons_of_mem _ hy)
theorem trues_put {l : List Str} {k : Str} : putK (trues l) (.inr k) (.bl true) = trues (if k ∈ l then l else l ++ [k]) := by
  by_cases h : k ∈ l
  · rw [if_pos h]
    have hany : ((trues l).any fun kv => decide (kv.1 = Sum.inr k)) = true := List.any_eq_true.mpr ⟨((.inr k : Key), V.bl true), List.mem_map.mpr ⟨k, h, rfl⟩, by simp⟩
    unfold putK
    rw [if_pos hany]
    unfold trues
    rw [List.map_map]
    refine List.map_congr_left fun x _ => ?_
    show (if _ = _ then _ else _) = _
    split
    · rfl
    · rfl
  · have hno : valV (trues l) (.inr k) = none := valV_map_none (k := k) (f := fun x => x) (g := fun _ => V.bl true) fun x hx (e : x = k) => h (e ▸ hx)
    rw [if_neg h, putK_new _ hno]
    unfold trues
    rw [List.map_append]
    rfl
theorem trues_get {l : List Str} {k : Str} : (valV (trues l) (.inr k)).isSome = decide (k ∈ l) := by
  by_cases h : k ∈ l
  · obtain ⟨v, h1, _⟩ := valV_mem (ls := trues l) (k := .inr k) (by
      unfold trues
      rw [List.map_map]
      exact List.mem_map.mpr ⟨k, h, rfl⟩)
    rw [h1]
    simp [h]
  · unfold trues
    rw [valV_map_none (k := k) (f := fun x => x) (g := fun _ => V.bl true) fun x hx (e : x = k) => h (e ▸ hx)]
    simp [h]
def mk (l m : List Str) : List Str := m.foldl (fun acc k => if k ∈ acc then acc else acc ++ [k]) l
theorem trues_merge : ∀ (m l : List Str), mergeK (trues l) (trues m) = trues (mk l m)
  | [], l => rfl
  | k :: m, l => by
    show mergeK (putK (trues l) (.inr k) (.bl true)) (trues m) = trues (mk (if k ∈ l then l else l ++ [k]) m)
    rw [trues_put, trues_merge m]
theorem mem_mk : ∀ (m l : List Str) (x : Str), x ∈ mk l m ↔ x ∈ l ∨ x ∈ m
  | [], l, x => by simp [mk]
  | k :: m, l, x => by
    show x ∈ mk (if k ∈ l then l else l ++ [k]) m ↔ _
    rw [mem_mk m]
    by_cases h : k ∈ l
    · rw [if_pos h]
      constructor
      · rintro (q | q)
        · exact .inl q
        · exact .inr (List.mem_cons_of_mem _ q)
      · rintro (q | q)
        · exact .inl q
        · rcases List.mem_cons.mp q with rfl | q
          · exact .inl h
          · exact .inr q
    · rw [if_neg h]
      simp [or_assoc]
theorem put_nodup {l : List Str} {k : Str} (h : l.Nodup) : (if k ∈ l then l else l ++ [k]).Nodup := by
  split
  · exact h
  · rename_i hn
    refine List.nodup_append.mpr ⟨h, by simp, fun x hx y hy e => hn ?_⟩
    rw [← List.mem_singleton.mp hy, ← e]
    exact hx
theorem mk_nodup : ∀ (m : List Str) {l : List Str}, l.Nodup → (mk l m).Nodup
  | [], l, h => h
  | k :: m, l, h => mk_nodup m (put_nodup h)
theorem nodup_len {N l : List Str} (h : l.Nodup) (s : ∀ x ∈ l, x ∈ N) : l.length ≤ N.length := h.length_le_of_subset s
theorem rows_put {A : Str → Addr} {n : Str} {p : Addr} {N : List Str} (h : n ∈ N) : putK (rowsOf N A) (.inr n) (.ref p) = rowsOf N (setF A n p) := by
  have hany : ((rowsOf N A).any fun kv => decide (kv.1 = Sum.inr n)) = true := List.any_eq_true.mpr ⟨((.inr n : Key), V.ref (A n)), List.mem_map.mpr ⟨n, h, rfl⟩, by simp⟩
  unfold putK
  rw [if_pos hany]
  unfold rowsOf
  rw [List.map_map]
  refine List.map_congr_left fun x _ => ?_
  show (if (Sum.inr x : Key) = Sum.inr n then ((Sum.inr x : Key), V.ref p) else (Sum.inr x, V.ref (A x))) = _
  by_cases e : x = n
  · subst e
    rw [if_pos rfl, setF_same]
  · rw [if_neg (fun z => e (Sum.inr.inj z)), setF_ne e]
theorem rows_snoc {A : Str → Addr} {n : Str} {p : Addr} {N : List Str} (h : ¬ n ∈ N) : putK (rowsOf N A) (.inr n) (.ref p) = rowsOf (N ++ [n]) (setF A n p) := by
  unfold rowsOf
  rw [putK_new _ (valV_map_none (k := n) (f := fun x => x) (g := fun n => V.ref (A n)) fun x hx (e : x = n) => h (e ▸ hx)), List.map_append]
  congr 1
  · refine List.map_congr_left fun x hx => ?_
    rw [setF_ne fun (e : x = n) => h (e ▸ hx)]
  · show _ = [(_, V.ref (setF A n p n))]
    rw [setF_same]
/-- the dict at d0 has a dict of its own for each name: its keys are ks n -/
structure CSt (H : Hp) (d0 : Addr) (N : List Str) (A : Str → Addr) (ks : Str → List Str) (H1 : Hp) : Prop where
  same : Same H H1
  d0n : H d0 = none
  tab : H1 d0 = some (.dK (rowsOf N A))
  new : ∀ n ∈ N, H (A n) = none
  ne : ∀ n ∈ N, A n ≠ d0
  row : ∀ n ∈ N, H1 (A n) = some (.dK (trues (ks n)))
  nd : ∀ n ∈ N, (ks n).Nodup
  inj : ∀ n ∈ N, ∀ m ∈ N, A n = A m → n = m
/-- a key more in the row of n -/
theorem CSt.put {H H1 H2 : Hp} {d0 : Addr} {N : List Str} {A : Str → Addr} {ks : Str → List Str} {n k : Str} (c : CSt H d0 N A ks H1) (hn : n ∈ N) (e : H2 (A n) = some (.dK (putK (trues (ks n)) (.inr k) (.bl true)))) (ho : ∀ b, b ≠ A n → H2 b = H1 b) :
    CSt H d0 N A (setF ks n (if k ∈ ks n then ks n else ks n ++ [k])) H2 where
  same := fun b o eb => by
    rw [ho b (ne_of_none eb (c.new n hn))]
    exact c.same _ _ eb
  d0n := c.d0n
  tab := by
    rw [ho d0 (Ne.symm (c.ne n hn))]
    exact c.tab
  new := c.new
  ne := c.ne
  row := fun m hm => by
    by_cases em : m = n
    · subst em
      rw [e, trues_put, setF_same]
    · rw [setF_ne em, ho _ (fun z => em (c.inj m hm n hn z))]
      exact c.row m hm
  nd := fun m hm => by
    by_cases em : m = n
    · subst em
      rw [setF_same]
      exact put_nodup (c.nd m hm)
    · rw [setF_ne em]
      exact c.nd m hm
  inj := c.inj
/-- another dict for n -/
theorem CSt.set {H H1 H2 H3 : Hp} {d0 p : Addr} {N l : List Str} {A : Str → Addr} {ks : Str → List Str} {n : Str} (c : CSt H d0 N A ks H1) (hn : n ∈ N) (hp : H1 p = none) (hl : l.Nodup) (s2 : ∀ b, b ≠ p → H2 b = H1 b) (e2 : H2 p = some (.dK (trues l)))
    (e : H3 d0 = some (.dK (putK (rowsOf N A) (.inr n) (.ref p)))) (ho : ∀ b, b ≠ d0 → H3 b = H2 b) : CSt H d0 N (setF A n p) (setF ks n l) H3 := by
  have hpH : H p = none := by
    cases q : H p with
    | none => rfl
    | some o => rw [c.same _ _ q] at hp; cases hp
  have pd : p ≠ d0 := fun z => by rw [z, c.tab] at hp; cases hp
  have pA : ∀ m ∈ N, A m ≠ p := fun m hm z => by rw [← z, c.row m hm] at hp; cases hp
  refine ⟨fun b o eb => ?_, c.d0n, by rw [e, rows_put hn], fun m hm => ?_, fun m hm => ?_, fun m hm => ?_, fun m hm => ?_, fun m hm m' hm' z => ?_⟩
  · rw [ho b (ne_of_none eb c.d0n), s2 b (ne_of_none eb hpH)]
    exact c.same _ _ eb
  · by_cases em : m = n
    · subst em
      rw [setF_same]
      exact hpH
    · rw [setF_ne em]
      exact c.new m hm
  · by_cases em : m = n
    · subst em
      rw [setF_same]
      exact pd
    · rw [setF_ne em]
      exact c.ne m hm
  · by_cases em : m = n
    · subst em
      rw [setF_same, setF_same, ho p pd]
      exact e2
    · rw [setF_ne em, setF_ne em, ho _ (c.ne m hm), s2 _ (pA m hm)]
      exact c.row m hm
  · by_cases em : m = n
    · subst em
      rw [setF_same]
      exact hl
    · rw [setF_ne em]
      exact c.nd m hm
  · by_cases em : m = n <;> by_cases em' : m' = n
    · rw [em, em']
    · subst em
      rw [setF_same, setF_ne em'] at z
      exact absurd z.symm (pA m' hm')
    · subst em'
      rw [setF_same, setF_ne em] at z
      exact absurd z (pA m hm)
    · rw [setF_ne em, setF_ne em'] at z
      exact c.inj m hm m' hm' z
/-- a name more -/
theorem CSt.snoc {H H1 H2 H3 : Hp} {d0 p : Addr} {L : List Str} {A : Str → Addr} {ks : Str → List Str} {n : Str} (c : CSt H d0 L A ks H1) (hn : ¬ n ∈ L) (hp : H1 p = none) (hl : (ks n).Nodup) (s2 : ∀ b, b ≠ p → H2 b = H1 b) (e2 : H2 p = some (.dK (trues (ks n))))
    (e : H3 d0 = some (.dK (putK (rowsOf L A) (.inr n) (.ref p)))) (ho : ∀ b, b ≠ d0 → H3 b = H2 b) : CSt H d0 (L ++ [n]) (setF A n p) ks H3 := by
  have hpH : H p = none := by
    cases q : H p with
    | none => rfl
    | some o => rw [c.same _ _ q] at hp; cases hp
  have pd : p ≠ d0 := fun z => by rw [z, c.tab] at hp; cases hp
  have pA : ∀ m ∈ L, A m ≠ p := fun m hm z => by rw [← z, c.row m hm] at hp; cases hp
  have two : ∀ m, m ∈ L ++ [n] → (m ∈ L ∧ m ≠ n) ∨ m = n := fun m hm => by
    rcases List.mem_append.mp hm with h | h
    · exact .inl ⟨h, fun e => hn (e ▸ h)⟩
    · exact .inr (List.mem_singleton.mp h)
  refine ⟨fun b o eb => ?_, c.d0n, by rw [e, rows_snoc hn], fun m hm => ?_, fun m hm => ?_, fun m hm => ?_, fun m hm => ?_, fun m hm m' hm' z => ?_⟩
  · rw [ho b (ne_of_none eb c.d0n), s2 b (ne_of_none eb hpH)]
    exact c.same _ _ eb
  · rcases two m hm with ⟨h, em⟩ | rfl
    · rw [setF_ne em]
      exact c.new m h
    · rw [setF_same]
      exact hpH
  · rcases two m hm with ⟨h, em⟩ | rfl
    · rw [setF_ne em]
      exact c.ne m h
    · rw [setF_same]
      exact pd
  · rcases two m hm with ⟨h, em⟩ | rfl
    · rw [setF_ne em, ho _ (c.ne m h), s2 _ (pA m h)]
      exact c.row m h
    · rw [setF_same, ho p pd]
      exact e2
  · rcases two m hm with ⟨h, em⟩ | rfl
    · exact c.nd m h
    · exact hl
  · rcases two m hm with ⟨h, em⟩ | rfl <;> rcases two m' hm' with ⟨h', em'⟩ | rfl
    · rw [setF_ne em, setF_ne em'] at z
      exact c.inj m h m' h' z
    · rw [setF_same, setF_ne em] at z
      exact absurd z (pA m h)
    · rw [setF_same, setF_ne em'] at z
      exact absurd z.symm (pA m' h')
    · rfl
theorem CSt.keep {H H1 H2 : Hp} {d0 : Addr} {N : List Str} {A : Str → Addr} {ks : Str → List Str} (c : CSt H d0 N A ks H1) (h : ∀ b, H1 b ≠ none → H2 b = H1 b) : CSt H d0 N A ks H2 where
  same := fun b o e => by
    rw [h b (by rw [c.same _ _ e]; simp)]
    exact c.same _ _ e
  d0n := c.d0n
  tab := by
    rw [h d0 (by rw [c.tab]; simp)]
    exact c.tab
  new := c.new
  ne := c.ne
  row := fun n hn => by
    rw [h _ (by rw [c.row n hn]; simp)]
    exact c.row n hn
  nd := c.nd
  inj := c.inj
theorem mem_put {l : List Str} {k x : Str} : x ∈ (if k ∈ l then l else l ++ [k]) ↔ x ∈ l ∨ x = k := by
  split
  · rename_i h
    exact ⟨.inl, fun q => q.elim (fun q => q) fun e => e ▸ h⟩
  · simp
theorem wm_self {E : List (Str × Str)} {ms : List Str} {m q : Str} : OM.wm E (m :: ms) m q = OM.wm E ms m q := by
  have := OM.wm_refl E ms m
  show (OM.wm E ms m q || (OM.wm E ms m m && OM.wm E ms m q)) = _
  rw [this]
  simp
theorem trues_keys {l : List Str} : (trues l).map (·.1) = l.map Sum.inr := by
  unfold trues
  rw [List.map_map]
  rfl
theorem trues_len {l : List Str} : (trues l).length = l.length := by unfold trues; rw [List.length_map]
theorem rows_len {N : List Str} {A : Str → Addr} : (rowsOf N A).length = N.length := by unfold rowsOf; rw [List.length_map]
end Z

set_option Elab.async false
set_option linter.all false
set_option maxRecDepth 100000
set_option maxHeartbeats 4000000
/-! try with several clauses, each with its name -/
namespace Z
open PySem PySem.Spec PyProof.Rows L2
abbrev CTS := Value × (Addr → Value → Option Addr → TS)
/-- what the clauses wish, one after the other -/
def wAll (K : PySem.W.Frag) (i : Nat) (Wout : WX) (D : Ends) : List CTS → WX
  | [] => Wout
  | (c, ts) :: r => wAs K c i ts (wAll K i Wout D r) D
/-- the clauses' suites are understood -/
inductive Clauses (X : Cx) (n : Str) : List ExceptHandler → List CTS → Prop
  | nil : Clauses X n [] []
  | cons {x : Str} {c : Value} {ts : Addr → Value → Option Addr → TS} {b : Stmt} {bs : List Stmt} {np hp : Pos} {hds : List ExceptHandler} {l : List CTS} (hc : Names X x c)
      (hsu : ∀ (a : Addr) (oe : Obj) (cls : Value) (d : Option Addr) (pn : List (Addr × Obj)), Zc cls d oe → (∃ vs, oe.data = .fields vs) → PSs (X.suite a ((a, oe) :: pn)) (b :: bs) (ts a cls d)) (r : Clauses X n hds l) :
      Clauses X n (.ExceptHandler (some (.Name x np)) (some n) (b :: bs) hp :: hds) ((c, ts) :: l)
section
variable {X : Cx} {n : Str} {i : Nat} {body : List Stmt} {h₀ : ExceptHandler} {hds : List ExceptHandler} {l : List CTS} {pos : Pos} {tb : WX → TS} {Wout : WX}
theorem z_tryAll (hs : X.stack = X.env :: X.outer) (hf : X.env.frame = some X.env.locals) (hN : X.N.Nodup) (hi : X.N[i]? = some n) (hln : X.env.kindOf n = some .local) (tk : Takes X Wout)
    (hb : ∀ (W : WX) (pn : List (Addr × Obj)) (xe : Value → Shared → Prop), Takes (X.tr pn xe) W → PassesOwn (model X.prog X.w) X.A X.env xe → PSs (X.tr pn xe) body (tb W))
    (hh : Clauses X n (h₀ :: hds) l) : PS X (.Try body (h₀ :: hds) [] [] pos) (fun D σ H => tb (wAll X.K i Wout D l) D σ H) := by
  refine ⟨fun pins s σ H D I h => ?_⟩
  have ok := I.ok
  have hfr : X.A.frames = some (X.env :: X.outer) := by rw [ok.frames, hs]
  have hloc : Loc X.env.scope n := .inl hln
  refine wpAny_Try_except ?_
  refine wpAny_mono ((hb (wAll X.K i Wout D l) (X.pn ++ pins) (fun e s₁ => wpAny (model X.prog X.w) X.A (noteFrame e X.env) (fun _ s₂ => wpAny (model X.prog X.w) X.A (setFlight e none) (fun _ s₃ =>
    wpAny (model X.prog X.w) X.A (handleBy e X.env (h₀ :: hds)) (SP X pins D) X.xe s₃) X.xe s₂) X.xe s₁) (fun u s' xx => ?_) PassesOwn.looking).run [] s σ H D (I.toTry _) h) (fun f s1 hsp => ?_) (fun e s1 he => he)
  · obtain ⟨a, B, sI, pins', σ', H', cls, d, rfl, J', nb, up, sky, na, os, ag, w⟩ := xx
    have J : Inv X pins σ' H' sI := J'.ofTry ok
    have sk : Sky B (X.env :: X.outer) a (Zc cls d) X.env.locals s'.heap := hs ▸ sky
    show wpAny (model X.prog X.w) X.A (noteFrame (.ref a) X.env) _ _ _
    refine Sky.land Zc.steady hfr hf sk fun h3 fl up3 => ?_
    have u3 := up.trans up3
    have J3 : Inv X pins σ' H' { s' with heap := h3 } := J.landed nb fl.1 u3 os ag
    obtain ⟨oe, vs, he, hz, hd⟩ := fl.there
    -- the exception is no frame
    have far : a ∉ frs (X.env :: X.outer) := fun hm => by
      obtain ⟨_, o', e', hnf⟩ := fl.2.2.1.mem hm
      have := he.symm.trans e'
      cases this
      exact hnf _ hd
    have nL : a ≠ X.env.locals := fun z => far (List.mem_filterMap.mpr ⟨X.env, .head _, by rw [hf, z]⟩)
    have nF : a ∉ X.fs := fun hm => by
      obtain ⟨e, he', q⟩ := List.mem_filterMap.mp hm
      exact far (List.mem_filterMap.mpr ⟨e, .tail _ he', q⟩)
    have S3 := J3.suite he hd na nL nF
    have LT : PySem.W.Looks (model X.prog X.w) h3 (typeOf (.ref a)) cls := fun A Q E s k q => wpAny_typeOf_ref (k _ _ he) (by rw [hz.1]; exact q)
    have each : ∀ {cs : List ExceptHandler} {m : List CTS}, Clauses X n cs m → wAll X.K i Wout D m cls d σ' H' → wpAny (model X.prog X.w) X.A (handleBy (.ref a) X.env cs) (SP X pins D) X.xe { s' with heap := h3 } := by
      intro cs m k
      induction k with
      | nil =>
        intro w
        refine wpAny_handleBy_nil ?_
        obtain ⟨_, _, _, o2, v2, T, oT, t2, g1, _, g2, g3, _⟩ := id fl
        unfold PySem.passOn
        refine wpAny_bind (wpAny_field g1 g2 g3 ?_)
        rw [if_neg (show ¬ ((Value.ref T == Value.none) = true) by simp)]
        have out : wpAny (model X.prog X.w) X.A (setFlight (.ref a) X.env.frame) (fun _ s4 => wpAny (model X.prog X.w) X.A (throw (.ref a) : Sem Flow) (SP X pins D) X.xe s4) X.xe { s' with heap := h3 } := by
          rw [hf]
          exact HandSPX.setFlight_upZ fl fun h4 hh4 up4 => wpAny_throw (tk _ _ ⟨a, B, sI, pins, σ', H', cls, d, rfl, J, nb, u3.trans up4, .inr (.inr (hs ▸ hh4)), na, os, ag, w⟩)
        first
          | exact wpAny_bind (wpAny_pure (wpAny_bind out))
          | exact wpAny_bind out
      | @cons x c ts b bs np hp cs2 m2 hc hsu r ih =>
        rintro ⟨y, hy, yes, no⟩
        refine wpAny_handleBy_cons (codeAny_handlers_test ?_) (by intro q; cases q)
        have LM := (PySem.W.exm_one (M := model X.prog X.w) (J3.kIn) LT hy)
        have named : ∀ {Q E : Value → Shared → Prop}, Q c { s' with heap := h3 } → wpAny (model X.prog X.w) (X.A.mark (some (.ref a))) (eval (.Name x np) X.env) Q E { s' with heap := h3 } := by
          intro Q E q
          rcases hc with ⟨hg, hdb, hm | ⟨hm, hv, hnn⟩⟩
          · exact ld_glob (X := X.suite a ((a, oe) :: (X.pn ++ pins))) S3 hg hm q hdb
          · exact ld_blt (X := X.suite a ((a, oe) :: (X.pn ++ pins))) S3 hg hm hv q hnn hdb
        refine named (LM.here ?_)
        cases y
        · exact ih (no rfl)
        · refine codeAny_handlers_suite_as ?_
          refine HandSPX.lands_againZ fl fun h4 fl4 up4 => ?_
          obtain ⟨oe4, vs4, he4, hz4, hd4⟩ := fl4.there
          have S4 := (show Inv X pins σ' H' { s' with heap := h4 } from J.landed nb fl4.1 (u3.trans up4) os ag).suite he4 hd4 na nL nF
          refine store_ok (X := X.suite a ((a, oe4) :: (X.pn ++ pins))) (v := .ref a) S4 hN hi hloc rfl (fun s5 S5 => ?_) (.inr hln)
          have after : ∀ {s6 : Shared} {σ6 : L2.St} {H6 : Hp} {Q : Shared → Prop}, Inv (X.suite a ((a, oe4) :: (X.pn ++ pins))) [] σ6 H6 s6 → (∀ s7, Inv X pins (σ6.set i none) H6 s7 → Q s7) →
              wpAny (model X.prog X.w) X.A (do bindName X.env n .none; unbindBehindTheSuite X.env n hp) (fun _ s7 => Q s7) X.xe s6 := fun {s6 σ6 H6 Q} S6 hq => gone_ok (S6.unsuite ok) hN hi hln hq
          refine wpAny_mono ((hsu a oe4 cls d (X.pn ++ pins) hz4 ⟨_, hd4⟩).run [] s5 _ H' _ S5 (yes rfl a na)) (fun f s6 z => ?_) (fun _ _ z => z.elim)
          cases f
          case ret u =>
            obtain ⟨v6, σ6, H6, S6, r6, q6⟩ := z
            exact after S6 fun s7 J7 => ⟨_, _, _, J7, r6, q6⟩
          all_goals
            obtain ⟨σ6, H6, S6, q6⟩ := z
            exact after S6 fun s7 J7 => ⟨_, _, J7, q6⟩
    exact each hh w
  · cases f
    case next =>
      obtain ⟨σ', H', J', q⟩ := hsp
      exact wpAny_execs_nil ⟨σ', H', J'.ofTry ok, q⟩
    case ret u =>
      obtain ⟨v, σ', H', J', r, q⟩ := hsp
      exact ⟨v, σ', H', J'.ofTry ok, r, q⟩
    all_goals
      obtain ⟨σ', H', J', q⟩ := hsp
      exact ⟨σ', H', J'.ofTry ok, q⟩
end
/-- this clause is not the one -/
theorem i_wasNo {K : PySem.W.Frag} {σ : L2.St} {H : Hp} {D : Ends} {c cls : Value} {i : Nat} {ts : Addr → Value → Option Addr → TS} {Wout : WX} {d : Option Addr} (hx : PySem.W.exmOne K cls c = some false) (h : Wout cls d σ H) :
    wAs K c i ts Wout D cls d σ H := ⟨false, hx, (fun q => nomatch q), fun _ => h⟩
end Z

set_option Elab.async false
set_option linter.all false
set_option maxRecDepth 100000
set_option maxHeartbeats 4000000
/-! a list of texts in an f-string: some bounded text -/
namespace Z
open PySem PySem.Spec PyProof.Rows PySem.Sem
section
variable {prog : Program} {w : World} {A : Around} {E : Value → Shared → Prop} {s : Shared}
theorem dots_len : ("[...]" : Str).length ≤ 5 := by decide +kernel
theorem z_reprHead {M : Model} {Q : Fin → Shared → Prop} {a : Addr} {o : Obj} {x : Value} {l : List Value} {n : Nat} {b : Nat} (hget : s.heap.get? a = some o) (hd : o.data = .seq (x :: l).toArray n)
    (h1 : wpAny M A (do again (.builtin "list.__repr__.loop" ⟨[.ref a, rawInt 0, ← newList [], rawInt b], []⟩)) Q E s) (h2 : wpAny M A (do rule "list.__repr__.in-itself"; retStr "[...]") Q E s) : wpAny M A (Builtin.listReprAt b ⟨[.ref a], []⟩) Q E s := by
  intro Γ p hΓ
  have k1 := h1 Γ p hΓ
  have k2 := h2 Γ p hΓ
  unfold Builtin.listReprAt
  simp [slotArgs, Builtin.List.listItems, seqItems?, wp_load_of (h := hget), hd, PySem.stack]
  show wp M Γ (if (Γ.below.any _) = true then _ else _) _ _ p s
  split
  · exact k2
  · exact k1
theorem z_item {prog : Program} {w : World} : ∀ {l : List Value} {ts : List Str}, ReprAll prog w l ts → ∀ (i : Nat) (y : Value), l[i]? = some y → ∃ t, ts[i]? = some t ∧ ReprIs prog w y t
  | _, _, .nil, i, y, h => by simp at h
  | _, _, .cons h1 h2, 0, y, h => by
    have e := Option.some.inj h
    subst e
    exact ⟨_, rfl, h1⟩
  | _, _, .cons h1 h2, i + 1, y, h => z_item h2 i y h
theorem z_listRepr {a : Addr} {o : Obj} {x : Value} {l : List Value} {n : Nat} {ts : List Str} {Q : Value → Shared → Prop} (hT : s.TypeIs (.ref a) "list") (ha : s.heap.get? a = some o) (hd : o.data = .seq (x :: l).toArray n) (hA : ReprAll prog w (x :: l) ts) (hz : (listText ts).length ≤ sizeLine)
    (h : ∀ (m : Str) (u tk : Tok) (h' : Heap), (∀ b o, s.heap.get? b = some o → h'.get? b = some o) → m.length ≤ (listText ts).length + 5 → Q (.str m u) { s with heap := h', toks := tk }) : wpAny (model prog w) A (call (.builtin "list.__repr__") [.ref a]) Q E s := by
  refine wpAny_call (codeAny_call_builtin F.slot_list_repr.plain F.entry_list_repr (F.slot_list_repr.check _ _ _ _ _ _ _ _ hT (F.args_list_repr_1 _) ?_))
  refine z_reprHead (b := 0) ha hd ?_ ?_
  · refine wpAny_bind (m := newList []) (wpAny_newObj_type ?_)
    refine wpAny_pure ⟨F.quiet_list_repr_loop _, ?_⟩
    refine codeAny_list_repr_start (P := s.heap.objs.size) (ts := ts) (Nat.ne_of_lt (Heap.lt_size ha)) (by rw [hA.length_eq]; rfl) (fun i y hy => ?_) (Heap.get?_push_of_some _ ha) hd (Heap.get?_push_size _ rfl) (fun h' u tk hk => ?_) (by omega)
    · exact z_item hA i y (by simpa using hy)
    · exact h _ u tk h' (fun b o e => hk b o (Nat.ne_of_lt (Heap.lt_size e)) (Heap.get?_push_of_some _ e)) (Nat.le_add_right _ _)
  · refine wpAny_bind (wpAny_rule ?_)
    refine wpAny_bind (wpAny_mkStr (wpAny_pure ?_) (by decide +kernel))
    exact h "[...]" _ _ s.heap (fun _ _ e => e) (Nat.le_trans dots_len (Nat.le_add_left _ _))
theorem z_listFmt {a : Addr} {o : Obj} {x : Value} {l : List Value} {n : Nat} {ts : List Str} {Q : Value → Shared → Prop} (hu : A.units + 2 < cLine) (hT : s.TypeIs (.ref a) "list") (ha : s.heap.get? a = some o) (hd : o.data = .seq (x :: l).toArray n) (hA : ReprAll prog w (x :: l) ts) (hz : (listText ts).length ≤ sizeLine)
    (h : ∀ (m : Str) (u tk : Tok) (h' : Heap), (∀ b o, s.heap.get? b = some o → h'.get? b = some o) → m.length ≤ (listText ts).length + 5 → Q (.str m u) { s with heap := h', toks := tk }) : wpAny (model prog w) A (formatField (.ref a) Str.empty) Q E s :=
  wpAny_formatField_slot (fun _ _ => nofun) hu hT F.slot_list_format F.slot_list_str F.slot_list_repr.toG
    (z_listRepr (s := { s with toks := s.toks + 1 }) hT ha hd hA hz fun m u tk h' k hm => ⟨m, u, rfl, h m u tk h' k hm⟩)
end
theorem from_len : ∀ (ts : List Str) (k : Nat) (acc : Str), (textFrom k acc ts).length ≤ acc.length + piled ts
  | [], _, acc => by rw [piled_nil]; exact Nat.le_add_right _ _
  | t :: ts, k, acc => by
    have ih := from_len ts (k + 1) (acc ++ (if k > 0 then ", " else "" : String) ++ t)
    have e : (acc ++ (if k > 0 then ", " else "" : String) ++ t).length ≤ acc.length + 2 + t.length := by
      rw [strLen_append, strLen_append]
      have : ((if k > 0 then ", " else "" : String) : Str).length ≤ 2 := by split <;> decide +kernel
      omega
    rw [piled_cons]
    show (textFrom (k + 1) _ ts).length ≤ _
    omega
theorem listText_le (ts : List Str) : (listText ts).length ≤ piled ts + 2 := by
  have := from_len ts 0 "["
  have e1 : (("[" : String) : Str).length = 1 := rfl
  have e2 : (("]" : String) : Str).length = 1 := rfl
  unfold listText
  rw [strLen_append]
  omega
end Z
namespace Z
open PySem PySem.Spec PyProof.Rows L2
section
variable {X : Cx}
/-- {l}, l a list of texts, not empty: some text, no longer than ten times its signs and a little -/
def tFmtL (K : PySem.W.Frag) (te : TE) : TE := fun σ H Q => te σ H fun x H1 => ∃ (a : Addr) (y : Str) (l : List Str), x = .ref a ∧ SqL K H1 a ((y :: l).map V.str) ∧ (∀ z ∈ y :: l, ∀ c ∈ z.cps.toList, c < 16 ^ 8) ∧ fmtCost (y :: l) + 7 ≤ sizeLine ∧ ∀ m : Str, m.length ≤ fmtCost (y :: l) + 7 → Q (.str m) H1
theorem pe_fmtL {e : Expr} {te : TE} {pos : Pos} {k : Nat} (hr : Room k X.A) (he : PE X e te) : PE X (.FormattedValue e (-1) none pos) (tFmtL X.K te) := by
  refine ⟨fun pins s σ H Q I h => ?_⟩
  refine wpAny_FormattedValue_plain (thn (he.run pins s σ H _ I h) fun v s1 hv => ?_)
  obtain ⟨x, H1, I1, r1, a, y, l, rfl, ht, hc, hz, q⟩ := hv
  cases r1
  obtain ⟨its, rv, pl, _⟩ := I1.list ht
  obtain ⟨o, ho, hcl, n, hd⟩ := pl.isList
  have hp := fmt_piled (y :: l) hc
  have htx := listText_le ((y :: l).map reprText)
  have hu := hr.units
  cases rv with
  | @cons _ u _ us r1 r2 =>
    refine z_listFmt (ts := (y :: l).map reprText) (by omega) ⟨o, ho, hcl⟩ ho hd (repr_all (.cons r1 r2) fun z hz => ?_) (by omega) fun m u tk h' k hm => ⟨.str m, H1, I1.kept k, ⟨u, rfl⟩, q m (by omega)⟩
    have h1 := StrLaws.reprText_len z (hc z hz)
    have h2 := fmtCost_mem hz
    omega
end
end Z

set_option Elab.async false
set_option linter.all false
set_option maxRecDepth 100000
set_option maxHeartbeats 400000
/-! an exception that has a field already: its field read, its base's __init__ -/
namespace Z
open PySem PySem.Spec PyProof.Rows L2 PySem.OEX
section
variable {prog : Program} {w : World} {A : Around} {R : Result → Shared → Prop} {g : Array GenState} {d : Drawn} {t : Nat} {os : OsState} {h : Heap} {B newId initId : String} {bmB : List Value}
variable {C : Addr}
theorem z_initD (F : ExcBaseFacts B newId initId bmB) {e t0 : Addr} {od : Option Addr} {rest : List Value}
    (hk : ∀ {Q : Unit → Shared → Prop} {E : Value → Shared → Prop} {M : Model} {A' : Around}, Q () ⟨h, g, d, t, os⟩ → wpAny M A' (checkBuiltinCall initId ⟨.ref e :: rest, []⟩) Q E ⟨h, g, d, t, os⟩)
    (he : h.get? e = some ({ cls := .ref C, dict := od, data := .fields #[.ref t0, .none, .none, .none, .bool false, .none] } : Obj)) (hrest : rest.length ≤ sizeLine)
    (hq : ∀ h' t1, (∀ b o, b ≠ e → h.get? b = some o → h'.get? b = some o) → h'.get? e = some ({ cls := .ref C, dict := od, data := .fields #[.ref t1, .none, .none, .none, .bool false, .none] } : Obj) → R (.ok (.ret .none)) ⟨h', g, d, t, os⟩) :
    codeAny (model prog w) A (.call (.builtin initId) ⟨.ref e :: rest, []⟩) R ⟨h, g, d, t, os⟩ := by
  refine codeAny_call_builtin F.init.plain F.initEntry (hk ?_)
  wp_walk
  refine hq _ h.objs.size (fun b o hb ho => ?_) ?_
  · rw [Heap.get?_update_other _ _ (Ne.symm hb)]
    exact Heap.get?_push_of_some _ ho
  · rw [Heap.get?_update_self _ (Heap.get?_push_of_some _ he) rfl]
    rfl
end
end Z
namespace Z
open PySem PySem.Spec PyProof.Rows L2 PySem.OEX
section
variable {X : Cx} {pins : List (Addr × Obj)} {σ : L2.St} {H : Hp} {s : Shared} {a C : Addr} {dx : Option Addr} {E : Value → Shared → Prop}
theorem z_oinitD {us : List Value} {Q : Value → Shared → Prop} (T : OexC X.K C) (I : Inv X pins σ H s) (e : H a = some (exo a C dx)) (hl : us.length ≤ sizeLine) (h : ∀ s', Inv X pins σ H s' → Q .none s') :
    wpAny (model X.prog X.w) X.A (call (.builtin "ValueError.__init__") (.ref a :: us)) Q E s := by
  obtain ⟨nm, q, N, bs, bm, sn, sub, ab, col, dd, k0, k1, k2, k3, k5, hC, hbm⟩ := T.cls
  obtain ⟨t1, ho⟩ := exo_at I.hok e
  obtain ⟨hp, g, d, t, os⟩ := s
  refine wpAny_call (z_initD PySem.F.excBase_ValueError (fun {Q E M A'} hq => PySem.HandSPX.check_init_own PySem.F.excBase_ValueError (fun Y => PySem.HandSPX.refsVE_contains Y bm hbm) (I.kIn _ _ hC) ho rfl hq) ho hl fun h' t2 k hx => ?_)
  have J := I.write (t' := t) (x := a) (e := a) (o := exo a C dx) (by rw [e]; exact True.intro) (.inl rfl) k ⟨_, hx⟩ (exo_ok hx)
  have eu : upd H a (exo a C dx) = H := by
    funext b
    by_cases hb : b = a
    · rw [hb, upd_same, e]
    · rw [upd_ne hb]
  rw [eu] at J
  exact h _ J
end
/-- ThrowError.__init__(self, ..) behind a field that is set -/
def tVeD (K : PySem.W.Frag) (ta : TA) : TE := fun σ H Q => ta σ H fun vs H1 => ∃ (a C : Addr) (ws : List V) (d : Option Addr), vs = .ref a :: ws ∧ ws.length ≤ 1000 ∧ OexC K C ∧ H1 a = some (exo a C d) ∧ Q .non H1
/-- self.f of an exception in its own __init__ -/
def tXat (K : PySem.W.Frag) (f : Str) (te : TE) : TE := fun σ H Q => te σ H fun x H1 => ∃ (a C dd : Addr) (fs : List (Str × V)) (v : V), x = .ref a ∧ XfC K C ∧ PySem.W.findIn K (.ref C) f = some none ∧ H1 a = some (exo a C (some dd)) ∧ H1 dd = some (exd dd fs) ∧ fs.lookup f = some v ∧ Q v H1
section
variable {X : Cx} {x : Str} {e : Expr} {es : List Expr} {t : TA} {te : TE} {pos : Pos}
theorem z_tinitD {p1 p2 : Pos} {pl : Sem Bool} (hg : Gl X x) (c : CalT X.K X.mg x) (ha : PA X (e :: es) t)
    (hc : eval (.Call (.Attribute (.Name x p1) "__init__" p2) (e :: es) [] pos) X.env = (do
      let ov ← eval (.Name x p1) X.env
      standAt p2.atName
      let (f, first) ← holding [ov] (getMethod ov "__init__" pl)
      callWith pos f first (backTo pos (starEach (e :: es) X.env)) (backToKw pos (keywordEach [] X.env))) := by rfl)
    (hdb : (x == ("__debug__" : Str)) = false := by decide) (he : starEach (e :: es) X.env = (false, eval e X.env) :: starEach es X.env := by rfl)
    (hpl : (backTo pos (starEach es X.env)).any (·.1) = false := by rfl) :
    PE X (.Call (.Attribute (.Name x p1) "__init__" p2) (e :: es) [] pos) (tVeD X.K t) := by
  obtain ⟨T, mc, hm, r, vV⟩ := c
  constructor
  intro pins s σ H Q I h
  refine PySem.W.methodCall_KW (ld_glob I hg hm ?_ hdb) hc
  apply PySem.W.method_cls I.kIn r.ga
  apply PySem.W.cls_value I.kIn r.rd vV (by decide +kernel)
  show wpAny _ _ (callWith pos (Value.builtin "ValueError.__init__") [] (backTo pos (starEach (e :: es) X.env)) []) _ _ _
  refine PyProof.Rows.callWith_method1 (thn (ha.run pos pins _ σ H _ (I.tok _) h) fun us s1 hh => ?_) he hpl
  obtain ⟨vs, H1, I1, r1, a, C, ws, d, ev, hl, T', ea, q⟩ := hh
  subst ev
  cases r1 with
  | @cons _ u0 _ ur ra rw' =>
    obtain rfl : u0 = Value.ref a := ra
    have hlen : ur.length ≤ sizeLine := by
      rw [← Paired.length rw', sizeLine_eq]
      omega
    exact z_oinitD T' I1 ea hlen fun s' J => ⟨.non, H1, J, rfl, q⟩
theorem pe_xat {n : Str} (he : PE X e te) (hb : attributeBase e n X.env (eval e X.env) = eval e X.env := by rfl) : PE X (.Attribute e n pos) (tXat X.K n te) := by
  refine ⟨fun pins s σ H Q I h => ?_⟩
  refine attr_of hb (thn (he.run pins s σ H _ I h) fun u s1 hh => ?_)
  obtain ⟨x, H1, I1, rx, a, C, dd, fs, v, ex, T, hno, ea, ed, l, q⟩ := hh
  subst ex
  obtain rfl : u = Value.ref a := rx
  obtain ⟨t1, ho⟩ := exo_at I1.hok ea
  obtain ⟨mA, hns, hr⟩ := exd_at I1.hok ed
  obtain ⟨od, ho2, hl⟩ := lookIn_ns hns
  obtain ⟨u, hu, ru⟩ := RelO.some_of (v := v) (o := mA n) (by rw [← l]; exact hr n)
  have J : PySem.W.InstAt s1.heap a _ C (some od) := ⟨ho, rfl, rfl, ho2⟩
  exact HandSPX.exc_get I1.kIn J T.ga T.gg T.exC (PySem.W.findObj_own T.hdC hno rfl (by rw [hl, hu])) (handed_of ru) ⟨v, H1, I1.tok _, ru, q⟩
end
/-! readings -/
section
variable {K : PySem.W.Frag} {σ : L2.St} {H : Hp} {Q : VK} {te : TE} {tr : TA}
def rVeD (K : PySem.W.Frag) (vs : List V) (H1 : Hp) (Q : VK) : Prop := ∃ (a C : Addr) (ws : List V) (d : Option Addr), vs = .ref a :: ws ∧ ws.length ≤ 1000 ∧ OexC K C ∧ H1 a = some (exo a C d) ∧ Q .non H1
theorem i_tvd (h : tr σ H (fun vs H1 => rVeD K vs H1 Q)) : tVeD K tr σ H Q := h
theorem i_tvd1 {a C : Addr} {ws : List V} {d : Option Addr} (T : OexC K C) (e : H a = some (exo a C d)) (l : ws.length ≤ 1000) (h : Q .non H) : rVeD K (.ref a :: ws) H Q := ⟨a, C, ws, d, rfl, l, T, e, h⟩
def rXat (K : PySem.W.Frag) (f : Str) (x : V) (H1 : Hp) (Q : VK) : Prop := ∃ (a C dd : Addr) (fs : List (Str × V)) (v : V), x = .ref a ∧ XfC K C ∧ PySem.W.findIn K (.ref C) f = some none ∧ H1 a = some (exo a C (some dd)) ∧ H1 dd = some (exd dd fs) ∧ fs.lookup f = some v ∧ Q v H1
theorem i_xat {f : Str} (h : te σ H (fun x H1 => rXat K f x H1 Q)) : tXat K f te σ H Q := h
theorem i_xat1 {f : Str} {a C dd : Addr} {v : V} (T : XfC K C) (n : PySem.W.findIn K (.ref C) f = some none) (e : H a = some (exo a C (some dd))) (ed : H dd = some (exd dd [(f, v)])) (h : Q v H) : rXat K f (.ref a) H Q := ⟨a, C, dd, _, v, rfl, T, n, e, ed, by simp [List.lookup], h⟩
def rFmtL (K : PySem.W.Frag) (x : V) (H1 : Hp) (Q : VK) : Prop := ∃ (a : Addr) (y : Str) (l : List Str), x = .ref a ∧ SqL K H1 a ((y :: l).map V.str) ∧ (∀ z ∈ y :: l, ∀ c ∈ z.cps.toList, c < 16 ^ 8) ∧ fmtCost (y :: l) + 7 ≤ sizeLine ∧ ∀ m : Str, m.length ≤ fmtCost (y :: l) + 7 → Q (.str m) H1
theorem i_fmtL (h : te σ H (fun x H1 => rFmtL K x H1 Q)) : tFmtL K te σ H Q := h
end
end Z

set_option Elab.async false
set_option linter.all false
set_option maxRecDepth 100000
set_option maxHeartbeats 400000
/-! comprehensions over ranges, read -/
namespace Z
open PySem PySem.Spec PyProof.Rows L2
section
variable {K : PySem.W.Frag} {σ : L2.St} {H : Hp} {g g1 : TG} {tt tt1 : TT} {te tl1 : TE} {tr : TA} {Q : VK}
def rLcR2 (g : TG) (tt : TT) (te : TE) (vs : List Nat) (σ : L2.St) (Q : VK) (ws : List V) (H1 : Hp) : Prop := ∃ i j : Int, ws = [.int i, .int j] ∧ (-(2 ^ 62) ≤ i ∧ i < 2 ^ 62 ∧ -(2 ^ 62) ≤ j ∧ j < 2 ^ 62) ∧ ∀ D, H1 D = none → ∃ W : Nat → Nat → Hp → Prop, (∃ m, W 0 m (upd H1 D (.lst []))) ∧ ∀ k m H, W k m H →
  ((Itr i (j - i).toNat).stop k H ∧ Q (.ref D) H) ∨ ((Itr i (j - i).toNat).go k H ∧ ∃ Nx : Hp → Prop, (∀ H', Nx H' → ∃ m', m' < m ∧ W (k + 1) m' H') ∧ ∀ x H', (Itr i (j - i).toNat).yld k H x H' → g x (wipe σ vs) H' fun σ2 H2 => wipe σ2 vs = wipe σ vs ∧ tt σ2 H2 fun b H3 =>
    if b = true then te σ2 H3 fun y H4 => ∃ acc, H4 D = some (.lst acc) ∧ acc.length < sizeLine ∧ Nx (upd H4 D (.lst (acc ++ [y]))) else Nx H3)
theorem i_lcR20 {vs : List Nat} (h : tr σ H (fun ws H1 => rLcR2 g tt te vs σ Q ws H1)) : tLc (iRng2 tr) g tt te vs σ H Q := h
theorem i_lcR2 {vs : List Nat} {n : Nat} {i j : Int} (hj : j - i = (n : Int)) (hi : 0 ≤ i ∧ i < 1000) (hn : n < 100000) (Pv : Nat → List V → Hp → Prop) (h0 : ∀ D H', H D = none → Same H H' → H' D = some (.lst []) → (∀ b, b ≠ D → H' b = H b) → Pv 0 [] H')
    (hs : ∀ k D ys H1, H D = none → k < n → H1 D = some (.lst ys) → Pv k ys H1 → g (.int (i + (k : Nat))) (wipe σ vs) H1 fun σ2 H2 => wipe σ2 vs = wipe σ vs ∧ tt σ2 H2 fun b H3 => if b = true then te σ2 H3 fun y H4 => rLcE D Pv k y H4 else LcS D Pv (k + 1) H3)
    (hd : ∀ D ys H1, H D = none → H1 D = some (.lst ys) → Pv n ys H1 → Q (.ref D) H1) : rLcR2 g tt te vs σ Q [.int i, .int j] H := by
  refine ⟨i, j, rfl, by omega, fun D hD => ?_⟩
  have e : (j - i).toNat = n := by omega
  rw [e]
  refine lc_range (LcS D Pv) ⟨[], upd_same, h0 D _ hD (fun b o e => by rw [upd_ne (ne_of_none e hD)]; exact e) upd_same (fun b hb => upd_ne hb)⟩ ?_ ?_
  · rintro k H' hk ⟨ys, hD', p⟩
    exact hs k D ys H' hD hk hD' p
  · rintro H' ⟨ys, hD', p⟩
    exact hd D ys H' hD hD' p
/-- two fors, the outer one over a range -/
def rLc2R (K : PySem.W.Frag) (g : TG) (tt : TT) (tl1 : TE) (g1 : TG) (tt1 : TT) (te : TE) (vs vs1 : List Nat) (σ : L2.St) (Q : VK) (ws : List V) (H1 : Hp) : Prop := ∃ j : Int, ws = [.int j] ∧ -(2 ^ 62) ≤ j ∧ j < 2 ^ 62 ∧ ∀ D, H1 D = none → ∃ W : Nat → Nat → Hp → Prop, (∃ m, W 0 m (upd H1 D (.lst []))) ∧ ∀ i m H, W i m H →
  ((Itr 0 j.toNat).stop i H ∧ Q (.ref D) H) ∨ ((Itr 0 j.toNat).go i H ∧ ∃ Nx : Hp → Prop, (∀ H', Nx H' → ∃ m', m' < m ∧ W (i + 1) m' H') ∧ ∀ x H', (Itr 0 j.toNat).yld i H x H' → g x (wipe σ vs) H' fun σ2 H2 => wipe σ2 vs = wipe σ vs ∧ tt σ2 H2 fun b H3 =>
    if b = true then tl1 σ2 H3 fun x1 H4 => rLcIn K D Nx g1 tt1 te vs1 σ2 x1 H4 else Nx H3)
theorem i_lc2R0 {vs vs1 : List Nat} (h : tr σ H (fun ws H1 => rLc2R K g tt tl1 g1 tt1 te vs vs1 σ Q ws H1)) : tLc2 (iRng1 tr) g tt (iAny K tl1) g1 tt1 te vs vs1 σ H Q := h
theorem i_lc2R {vs vs1 : List Nat} {n : Nat} (hn : n < 100000) (Pv : Nat → List V → Hp → Prop) (h0 : ∀ D H', H D = none → Same H H' → H' D = some (.lst []) → (∀ b, b ≠ D → H' b = H b) → Pv 0 [] H')
    (hs : ∀ k D ys H1, H D = none → k < n → H1 D = some (.lst ys) → Pv k ys H1 → g (.int (k : Nat)) (wipe σ vs) H1 fun σ2 H2 => wipe σ2 vs = wipe σ vs ∧ tt σ2 H2 fun b H3 => if b = true then tl1 σ2 H3 fun x1 H4 => rLcIn K D (LcS D Pv (k + 1)) g1 tt1 te vs1 σ2 x1 H4 else LcS D Pv (k + 1) H3)
    (hd : ∀ D ys H1, H D = none → H1 D = some (.lst ys) → Pv n ys H1 → Q (.ref D) H1) : rLc2R K g tt tl1 g1 tt1 te vs vs1 σ Q [.int (n : Nat)] H := by
  refine ⟨_, rfl, by omega, by omega, fun D hD => ?_⟩
  rw [Int.toNat_natCast]
  refine ⟨fun i m H => m = n - i ∧ i ≤ n ∧ LcS D Pv i H, ⟨n, by simp, Nat.zero_le _, [], upd_same, h0 D _ hD (fun b o e => by rw [upd_ne (ne_of_none e hD)]; exact e) upd_same (fun b hb => upd_ne hb)⟩, ?_⟩
  rintro i m H' ⟨rfl, hi, ys, hD', p⟩
  by_cases hlt : i < n
  · refine .inr ⟨hlt, LcS D Pv (i + 1), fun H'' p' => ⟨n - (i + 1), by omega, rfl, hlt, p'⟩, fun x H'' y => ?_⟩
    obtain ⟨e, y⟩ := y
    subst e
    have := hs i D ys _ hD hlt hD' p
    obtain ⟨rfl⟩ := y
    simpa using this
  · have e : i = n := by omega
    subst e
    exact .inl ⟨Nat.le_refl _, hd D ys H' hD hD' p⟩
end
end Z

set_option Elab.async false
set_option linter.all false
set_option maxRecDepth 100000
set_option maxHeartbeats 4000000
/-! the truth of an own object; x[::-1] of a list or a tuple; xs != ys of lists of lists; a list's last item -/
namespace Z
open PySem PySem.Spec PyProof.Rows L2
section
variable {X : Cx} {k j : Nat} {f C : Addr} {sp : Sp}
/-- the truth of an instance with its own __bool__ -/
def rTruO (C : Addr) (sp : Sp) : V → Hp → (Bool → Hp → Prop) → Prop := fun x H Q => ∃ a dx fs, x = .ref a ∧ H a = some (.ins C dx fs) ∧
  sp [.ref a] H (fun v H' => ∃ r, v = .bl r ∧ Q r H') (fun _ _ _ => False)
def tTruO (C : Addr) (sp : Sp) (ta : TE) : TT := fun σ H Q => ta σ H fun x H' => rTruO C sp x H' Q
end
section
variable {prog : Program} {w : World} {A : Around} {E : Value → Shared → Prop} {s : Shared}
end
section
variable {X : Cx}
/-- x[::-1], x a list or a tuple -/
def tRevA (K : PySem.W.Frag) (te : TE) : TE := fun σ H Q => te σ H fun x H1 => ∃ a xs, x = .ref a ∧ ((SqL K H1 a xs ∧ ∀ p, H1 p = none → Q (.ref p) (upd H1 p (.lst xs.reverse))) ∨ (SqT K H1 a xs ∧ ∀ p, H1 p = none → Q (.ref p) (upd H1 p (.tup xs.reverse))))
/-- xs != ys, lists of lists of the very same objects -/
def rNeLL : R2 := fun x y H Q => ∃ a b ls ms, x = .ref a ∧ y = .ref b ∧ H a = some (.lst ls) ∧ H b = some (.lst ms) ∧ ls.length = ms.length ∧
  (∀ (i : Nat) (u v : V), ls[i]? = some u → ms[i]? = some v → ∃ p q xs, u = .ref p ∧ v = .ref q ∧ p ≠ q ∧ H p = some (.lst xs) ∧ H q = some (.lst xs) ∧ ∀ z ∈ xs, ∃ r, z = .ref r) ∧ Q (.bl false) H
end
/-! ### read -/
section
variable {K : PySem.W.Frag} {σ : L2.St} {H : Hp} {te : TE} {Q : VK} {a : Addr} {xs : List V} {n : Nat}
def rRevA (K : PySem.W.Frag) (x : V) (H1 : Hp) (Q : VK) : Prop := ∃ a xs, x = .ref a ∧ ((SqL K H1 a xs ∧ ∀ p, H1 p = none → Q (.ref p) (upd H1 p (.lst xs.reverse))) ∨ (SqT K H1 a xs ∧ ∀ p, H1 p = none → Q (.ref p) (upd H1 p (.tup xs.reverse))))
end
end Z

set_option Elab.async false
set_option linter.all false
set_option maxRecDepth 100000
set_option maxHeartbeats 4000000
/-! a def called within an except suite, whatever is handled there -/
namespace Z
open PySem PySem.Spec PyProof.Rows L2 L2H
structure FnL (P : Program) (w : World) (K : PySem.W.Frag) (mg : Str → Option Value) (base : Heap) (k : Nat) (f : Addr) (fd : FuncData) (ps : List Str) (sp : Sp) : Prop where
  len : ∀ vs H Q E, sp vs H Q E → vs.length = ps.length
  run : ∀ (A : Around) (outer : List Env) (s : Shared) (H : Hp) (args : Args) (us : List Value) (vs : List V) (Q : VK) (E : XK) (p : Addr × Obj), RoomH k A → PinOk outer H s p → Env0 P w K mg base A outer s H → BindsTo s fd args (ps.zip us) → Vals vs us → sp vs H Q E → codeAny (model P w) A (.call (.ref f) args) (CR (L2.CX P w) outer P w H s Q E) s
/-- such a def by its name -/
def CalL (P : Program) (w : World) (K : PySem.W.Frag) (mg : Str → Option Value) (base : Heap) (x : Str) (k : Nat) (sp : Sp) : Prop := ∃ f fd ps, mg x = some (.ref f) ∧ PySem.W.keepIn K (.ref f) = true ∧ Binds K fd ps [] ∧ FnL P w K mg base k f fd ps sp
end Z

set_option Elab.async false
set_option linter.all false
set_option maxRecDepth 100000
set_option maxHeartbeats 4000000
/-! errors that are made and not raised; isinstance of them; {x!s} of own things -/
namespace Z
open PySem PySem.Spec PyProof.Rows L2
section
variable {X : Cx} {C : Addr} {k j : Nat} {sp : Sp} {x : Str} {e : Expr} {es : List Expr} {t : TA} {te : TE} {p pos : Pos}
/-- C(e, ..), C an error class: the new object -/
def tMkV (C : Addr) (sp : Sp) (ta : TA) : TE := fun σ H Q => ta σ H fun vs H1 => vs.length ≤ 1000 ∧ ∀ a, H1 a = none → sp (.ref a :: (vs ++ [])) (upd H1 a (exo a C none)) (fun v H2 => v = .non ∧ Q (.ref a) H2) (fun _ _ _ => False)
/-- isinstance(e, c), e an error that stands -/
def rIsX (K : PySem.W.Frag) : List V → Hp → VK → Prop := fun xs H Q => ∃ (a D : Addr) (d : Option Addr) (c : V) (u : Value) (b : Bool), xs = [.ref a, c] ∧ ClsV c u ∧ ExcC K D ∧ H a = some (exo a D d) ∧ (∀ dd, d = some dd → ∃ fs, H dd = some (exd dd fs)) ∧ PySem.W.kitOne K (.ref D) u = some b ∧ Q (.bl b) H
/-- {x!s}, x an instance with its own __str__ -/
def tFmtSO (C : Addr) (sp : Sp) (te : TE) : TE := fun σ H Q => te σ H fun x H1 => ∃ a dx fs, x = .ref a ∧ H1 a = some (.ins C dx fs) ∧ sp [.ref a] H1 (fun v H' => ∃ z, v = .str z ∧ z.length ≤ 100000 ∧ Q (.str z) H') (fun _ _ _ => False)
/-- [x] * k -/
def rMulLI : R2 := fun x y H Q => ∃ (a : Addr) (v : V) (k : Nat), x = .ref a ∧ y = .int k ∧ H a = some (.lst [v]) ∧ k ≤ 1000 ∧ ∀ p, H p = none → Q (.ref p) (upd H p (.lst (List.replicate k v)))
end
/-! ### a def with a star parameter, as a classmethod -/
section
variable {P : Program} {w : World} {K : PySem.W.Frag} {mg : Str → Option Value} {base : Heap}
/-- what a call of def f(a, *v) asks: sp of the new tuple -/
def spStar (n : Nat) (sp : Sp) : Sp := fun vs H Q E => ∃ ws rest, vs = ws ++ rest ∧ ws.length = n ∧ rest.length ≤ sizeLine ∧ ∀ p, H p = Option.none → sp (ws ++ [V.ref p]) (upd H p (.tup rest)) Q E
theorem fnS_mk {x qual : Str} {st : Stmt} {f : Addr} {fd : FuncData} {N ps : List Str} {pv : Str} {k : Nat} {sp : Sp} (F : L2.Fun K x qual st f fd) (S : FnScope N (ps ++ [pv]) (defScope st))
    (hb : ∀ (kV doc pm : Value) (an : Option Addr) (cdv ct : Value) (us rest : List Value), us.length = ps.length → bindArgs (PySem.W.fnOf x qual (defArgs st) (defBody st) (defScope st) .none kV doc pm an cdv ct) ⟨us ++ rest, []⟩ = (newTuple rest >>= fun t => pure (ps.zip us ++ [(pv, t)])))
    (hbody : ∀ (cdv : Value) (A : Around) (outer : List Env) (s : Shared) (H : Hp) (vs : List V) (Q : VK) (E : XK), Room k (A.deeper (envOfC qual (defScope st) s.heap.objs.size f cdv)) → sp vs H Q E →
      ∃ t, PSs (cxOf (L2.CX P w) P w K mg base N qual (defScope st) f cdv A outer s H E) (defBody st) t ∧ t { nx := fun _ H' => Q .non H', rt := Q } (start N vs) H) : FnR P w K mg base (L2.CX P w) (k + 1) f (spStar ps.length sp) := by
  obtain ⟨oc, od, kV, doc, pm, an, cdv, ct, osl, rfl, lk, hcd⟩ := F.ex
  exact StX.fn_star lk hcd S StX.cxUp (hb _ _ _ _ _ _) (hbody cdv)
theorem fnS_mk1 {x qual : Str} {st : Stmt} {f : Addr} {fd : FuncData} {N : List Str} {p1 pv : Str} {k : Nat} {sp : Sp} (F : L2.Fun K x qual st f fd) (S : FnScope N [p1, pv] (defScope st))
    (h0 : ∀ (kV doc pm : Value) (an : Option Addr) (cdv ct : Value) (a : Value), bindArgs (PySem.W.fnOf x qual (defArgs st) (defBody st) (defScope st) .none kV doc pm an cdv ct) ⟨[a], []⟩ = (newTuple [] >>= fun t => pure [(p1, a), (pv, t)]))
    (h1 : ∀ (kV doc pm : Value) (an : Option Addr) (cdv ct : Value) (a r : Value) (rs : List Value), bindArgs (PySem.W.fnOf x qual (defArgs st) (defBody st) (defScope st) .none kV doc pm an cdv ct) ⟨a :: r :: rs, []⟩ = (newTuple (r :: rs) >>= fun t => pure [(p1, a), (pv, t)]))
    (hbody : ∀ (cdv : Value) (A : Around) (outer : List Env) (s : Shared) (H : Hp) (vs : List V) (Q : VK) (E : XK), Room k (A.deeper (envOfC qual (defScope st) s.heap.objs.size f cdv)) → sp vs H Q E →
      ∃ t, PSs (cxOf (L2.CX P w) P w K mg base N qual (defScope st) f cdv A outer s H E) (defBody st) t ∧ t { nx := fun _ H' => Q .non H', rt := Q } (start N vs) H) : FnR P w K mg base (L2.CX P w) (k + 1) f (spStar 1 sp) :=
  fnS_mk (ps := [p1]) (pv := pv) F S (fun kV doc pm an cdv ct => StX.bind_star1 (B := fun vs => bindArgs (PySem.W.fnOf x qual (defArgs st) (defBody st) (defScope st) .none kV doc pm an cdv ct) ⟨vs, []⟩) (h0 kV doc pm an cdv ct) (h1 kV doc pm an cdv ct)) hbody
theorem mk_calKS {C f : Addr} {k : Nat} {sp : Sp} {x : Str} {mc : Value} {p : Addr} (r : ClX.CRead K C mc) (m : ClX.CMet K C mc x p f) (F : FnR P w K mg base (L2.CX P w) k f sp) : CalK P w K mg base C x k sp := ⟨mc, p, f, r, m, F⟩
end
end Z

set_option Elab.async false
set_option linter.all false
set_option maxRecDepth 100000
set_option maxHeartbeats 1000000
/-! list(zip(xs, ys)), xs and ys tuples: the pairs that are kept -/
namespace Z
open PySem RZ
section
variable {prog : Program} {w : World} {A : Around} {E : Value → Shared → Prop} {s : Shared}
abbrev IsZipF (h : Heap) (z TI TO : Addr) (f0 : Value) (b : Bool) : Prop :=
  h.get? z = some { cls := .type "zip", dict := none, data := .fields #[f0, .bool b, .bool false, .ref TI, .ref TO], slots := #[] }
theorem zl_head {z TI TO T : Addr} {b : Bool} {oT : Obj} {F : Bool → Sem Fin} {Q : Fin → Shared → Prop} (hz : IsZipF s.heap z TI TO (rawInt T) b) (ha : s.heap.get? T = some oT)
    (h : ∀ h', IsZipF h' z TI TO (rawInt T) true → Heap.SameBut z s.heap h' → wpAny (model prog w) A (F false) Q E { s with heap := h' }) :
    wpAny (model prog w) A (Builtin.SmallTypes.ownedTupleIsFree (.ref z) >>= F) Q E s := by
  refine wpAny_bind ?_
  unfold Builtin.SmallTypes.ownedTupleIsFree
  refine wpAny_bind (wpAny_field hz rfl (x := rawInt T) rfl ?_)
  show wpAny _ _ (loadIfAlive (T : Int).toNat >>= _) _ _ _
  rw [Int.toNat_natCast]
  refine wpAny_bind (PySem.W.kdx_alive ha ?_)
  simp only [Option.isNone_some, Bool.false_eq_true, if_false]
  refine wpAny_bind (wpAny_field hz rfl (x := .bool b) rfl ?_)
  cases b with
  | true =>
    show wpAny _ _ (if (Value.bool true != Value.bool true) = true then _ else _) _ _ _
    rw [if_neg (by decide)]
    exact wpAny_pure (h _ hz ⟨rfl, fun _ _ => rfl⟩)
  | false =>
    show wpAny _ _ (if (Value.bool false != Value.bool true) = true then _ else _) _ _ _
    rw [if_pos (by decide)]
    refine wpAny_bind (wpAny_setField_rec hz (by simp) fun h₁ hz₁ hs₁ => ?_)
    exact wpAny_pure (h _ hz₁ hs₁)
theorem zl_item {z TI TO i1 i2 l1 l2 T : Addr} {k1 k2 : Nat} {b : Bool} {oT : Obj} {xs ys : Array Value} {x y : Value} {Q : Value → Shared → Prop} (D : ZipApart z TI TO i1 i2 l1 l2)
    (hz : IsZipF s.heap z TI TO (rawInt T) b) (hTI : IsPair s.heap TI (.ref i1) (.ref i2)) (ha : s.heap.get? T = some oT)
    (h1 : s.heap.IsTupleIter i1 l1 k1) (h2 : s.heap.IsTupleIter i2 l2 k2) (hl1 : s.heap.IsTuple l1 xs) (hl2 : s.heap.IsTuple l2 ys) (hx : xs[k1]? = some x) (hy : ys[k2]? = some y)
    (hQ : ∀ h', IsZipF h' z TI TO (rawInt T) true → h'.IsTupleIter i1 l1 (k1 + 1) → h'.IsTupleIter i2 l2 (k2 + 1) → IsPair h' s.heap.objs.size x y → h'.objs.size = s.heap.objs.size + 1 →
      (∀ c o, c ≠ z → c ≠ i1 → c ≠ i2 → s.heap.get? c = some o → h'.get? c = some o) → Q (.ref s.heap.objs.size) { s with heap := h' }) :
    wpAny (model prog w) A (Builtin.«zip.__next__» ⟨[.ref z], []⟩) (fun fin s' => ∃ v, fin = .done (.ret v) ∧ Q v s') E s := by
  show wpAny _ _ (field (.ref z) 2 >>= _) _ _ _
  refine wpAny_bind (wpAny_field hz rfl (x := .bool false) rfl ?_)
  show wpAny _ _ (field (.ref z) 3 >>= _) _ _ _
  refine wpAny_bind (wpAny_field hz rfl (x := .ref TI) rfl ?_)
  refine wpAny_bind (wpAny_seqItems hTI rfl ?_)
  show wpAny _ _ (Builtin.SmallTypes.ownedTupleIsFree (.ref z) >>= _) _ _ _
  refine zl_head hz ha fun h₁ hz₁ hs₁ => ?_
  simp only [Bool.false_eq_true, if_false]
  refine wpAny_bind ?_
  rw [← Array.forIn_toList]
  simp only [List.forIn_cons, List.forIn_nil]
  refine wpAny_bind (wpAny_bind (wpAny_holding ?_))
  show wpAny _ _ (Builtin.SmallTypes.nextOf (.ref i1) >>= _) _ _ _
  refine wpAny_bind (nextOf_tuple_item (h1.extBut hs₁.extBut D.i1z) (hl1.extBut hs₁.extBut D.l1z) hx fun h₂ h1₂ hs₂ => wpAny_pure ?_)
  refine wpAny_pure (wpAny_bind (wpAny_bind (wpAny_holding ?_)))
  show wpAny _ _ (Builtin.SmallTypes.nextOf (.ref i2) >>= _) _ _ _
  refine wpAny_bind (nextOf_tuple_item ((h2.extBut hs₁.extBut D.i2z).extBut hs₂.extBut D.i12.symm) ((hl2.extBut hs₁.extBut D.l2z).extBut hs₂.extBut D.l2i1) hy fun h₃ h2₃ hs₃ => wpAny_pure ?_)
  refine wpAny_pure (wpAny_pure ?_)
  show wpAny _ _ (newTuple [x, y] >>= fun t => ret t) _ _ _
  refine wpAny_bind (wpAny_newTuple ?_)
  have hsz : h₃.objs.size = s.heap.objs.size := by rw [hs₃.1, hs₂.1, hs₁.1]
  have hk : ∀ c o, c ≠ z → c ≠ i1 → c ≠ i2 → s.heap.get? c = some o → (h₃.push { cls := .type "tuple", data := .seq #[x, y] }).get? c = some o := fun c o c1 c2 c3 e =>
    Heap.get?_push_of_some _ (hs₃.extBut _ _ c3 (hs₂.extBut _ _ c2 (hs₁.extBut _ _ c1 e)))
  refine wpAny_pure ⟨_, rfl, ?_⟩
  show Q (.ref h₃.objs.size) _
  have hz3 : IsZipF h₃ z TI TO (rawInt T) true := hs₃.extBut _ _ D.i2z.symm (hs₂.extBut _ _ D.i1z.symm hz₁)
  have a1 : IsZipF (h₃.push { cls := .type "tuple", data := .seq #[x, y] }) z TI TO (rawInt T) true := Heap.get?_push_of_some _ hz3
  have a2 : IsPair (h₃.push { cls := .type "tuple", data := .seq #[x, y] }) h₃.objs.size x y := Heap.get?_push_size _ rfl
  rw [hsz] at a2 ⊢
  exact hQ _ a1 ((h1₂.extBut hs₃.extBut D.i12).at fun o e => Heap.get?_push_of_some _ e) (h2₃.at fun o e => Heap.get?_push_of_some _ e) a2 (by rw [Heap.size_push, hsz]) hk
theorem zl_end {z TI TO i1 i2 l1 l2 T : Addr} {k1 k2 : Nat} {b : Bool} {oT : Obj} {xs ys : Array Value} {Q : Fin → Shared → Prop} (hh : A.handled = none) (D : ZipApart z TI TO i1 i2 l1 l2)
    (hz : IsZipF s.heap z TI TO (rawInt T) b) (hTI : IsPair s.heap TI (.ref i1) (.ref i2)) (ha : s.heap.get? T = some oT)
    (h1 : s.heap.IsTupleIter i1 l1 k1) (h2 : s.heap.IsTupleIter i2 l2 k2) (hl1 : s.heap.IsTuple l1 xs) (hl2 : s.heap.IsTuple l2 ys) (hend : xs[k1]? = none ∨ ys[k2]? = none)
    (hE : ∀ h' e, (∀ c o, c ≠ z → c ≠ i1 → c ≠ i2 → s.heap.get? c = some o → h'.get? c = some o) → (∃ o, h'.get? e = some o ∧ o.cls = .type "StopIteration") → E (.ref e) { s with heap := h' }) :
    wpAny (model prog w) A (Builtin.«zip.__next__» ⟨[.ref z], []⟩) Q E s := by
  show wpAny _ _ (field (.ref z) 2 >>= _) _ _ _
  refine wpAny_bind (wpAny_field hz rfl (x := .bool false) rfl ?_)
  show wpAny _ _ (field (.ref z) 3 >>= _) _ _ _
  refine wpAny_bind (wpAny_field hz rfl (x := .ref TI) rfl ?_)
  refine wpAny_bind (wpAny_seqItems hTI rfl ?_)
  show wpAny _ _ (Builtin.SmallTypes.ownedTupleIsFree (.ref z) >>= _) _ _ _
  refine zl_head hz ha fun h₁ hz₁ hs₁ => ?_
  simp only [Bool.false_eq_true, if_false]
  refine wpAny_bind ?_
  rw [← Array.forIn_toList]
  simp only [List.forIn_cons, List.forIn_nil]
  refine wpAny_bind (wpAny_bind (wpAny_holding ?_))
  show wpAny _ _ (Builtin.SmallTypes.nextOf (.ref i1) >>= _) _ _ _
  cases hx : xs[k1]? with
  | none =>
    exact wpAny_bind (nextOf_tuple_end hh (h1.extBut hs₁.extBut D.i1z) (hl1.extBut hs₁.extBut D.l1z) hx fun h₂ e hs₂ he => hE h₂ e (fun c o c1 c2 c3 x => hs₂ _ _ c2 (hs₁.extBut _ _ c1 x)) he)
  | some x =>
    have hy : ys[k2]? = none := by rcases hend with h | h; rw [hx] at h; cases h; exact h
    refine wpAny_bind (nextOf_tuple_item (h1.extBut hs₁.extBut D.i1z) (hl1.extBut hs₁.extBut D.l1z) hx fun h₂ h1₂ hs₂ => wpAny_pure ?_)
    refine wpAny_pure (wpAny_bind (wpAny_bind (wpAny_holding ?_)))
    show wpAny _ _ (Builtin.SmallTypes.nextOf (.ref i2) >>= _) _ _ _
    exact wpAny_bind (nextOf_tuple_end hh ((h2.extBut hs₁.extBut D.i2z).extBut hs₂.extBut D.i12.symm) ((hl2.extBut hs₁.extBut D.l2z).extBut hs₂.extBut D.l2i1) hy fun h₃ e hs₃ he =>
      hE h₃ e (fun c o c1 c2 c3 x => hs₃ _ _ c3 (hs₂.extBut _ _ c2 (hs₁.extBut _ _ c1 x))) he)
theorem zl_nextItem {z TI TO i1 i2 l1 l2 T : Addr} {k1 k2 : Nat} {b : Bool} {oT : Obj} {xs ys : Array Value} {x y : Value} {Q : Option Value → Shared → Prop} (D : ZipApart z TI TO i1 i2 l1 l2)
    (hz : IsZipF s.heap z TI TO (rawInt T) b) (hTI : IsPair s.heap TI (.ref i1) (.ref i2)) (ha : s.heap.get? T = some oT)
    (h1 : s.heap.IsTupleIter i1 l1 k1) (h2 : s.heap.IsTupleIter i2 l2 k2) (hl1 : s.heap.IsTuple l1 xs) (hl2 : s.heap.IsTuple l2 ys) (hx : xs[k1]? = some x) (hy : ys[k2]? = some y)
    (hQ : ∀ h', IsZipF h' z TI TO (rawInt T) true → h'.IsTupleIter i1 l1 (k1 + 1) → h'.IsTupleIter i2 l2 (k2 + 1) → IsPair h' s.heap.objs.size x y → h'.objs.size = s.heap.objs.size + 1 →
      (∀ c o, c ≠ z → c ≠ i1 → c ≠ i2 → s.heap.get? c = some o → h'.get? c = some o) → Q (some (.ref s.heap.objs.size)) { s with heap := h' }) : wpAny (model prog w) A (pyNext (.ref z)) Q E s := by
  have hT : s.TypeIs (.ref z) "zip" := ⟨_, hz, rfl⟩
  unfold pyNext
  exact wpAny_bind (wpAny_attempt (wpAny_callSpecial?_slot (name := Str.ofString "__next__") hT F.slot_zip_next
    (wpAny_call_entry F.slot_zip_next hT F.entry_zip_next
      (zl_item D hz hTI ha h1 h2 hl1 hl2 hx hy fun h' a1 a3 a4 a5 a6 a7 => wpAny_pure (hQ h' a1 a3 a4 a5 a6 a7)) (F.args_zip_next_1 _))))
theorem zl_nextEnd {z TI TO i1 i2 l1 l2 T : Addr} {k1 k2 : Nat} {b : Bool} {oT : Obj} {xs ys : Array Value} {Q : Option Value → Shared → Prop} (hh : A.handled = none) (D : ZipApart z TI TO i1 i2 l1 l2)
    (hz : IsZipF s.heap z TI TO (rawInt T) b) (hTI : IsPair s.heap TI (.ref i1) (.ref i2)) (ha : s.heap.get? T = some oT)
    (h1 : s.heap.IsTupleIter i1 l1 k1) (h2 : s.heap.IsTupleIter i2 l2 k2) (hl1 : s.heap.IsTuple l1 xs) (hl2 : s.heap.IsTuple l2 ys) (hend : xs[k1]? = none ∨ ys[k2]? = none)
    (hQ : ∀ h', (∀ c o, c ≠ z → c ≠ i1 → c ≠ i2 → s.heap.get? c = some o → h'.get? c = some o) → Q none { s with heap := h' }) : wpAny (model prog w) A (pyNext (.ref z)) Q E s := by
  have hT : s.TypeIs (.ref z) "zip" := ⟨_, hz, rfl⟩
  unfold pyNext
  refine wpAny_bind (wpAny_attempt (wpAny_callSpecial?_slot (name := Str.ofString "__next__") hT F.slot_zip_next
    (wpAny_call_entry F.slot_zip_next hT F.entry_zip_next (zl_end hh D hz hTI ha h1 h2 hl1 hl2 hend fun h' e hk he => ?_) (F.args_zip_next_1 _))))
  obtain ⟨o, ho, hc⟩ := he
  refine wpAny_bind (wpAny_isInstance (T := "StopIteration") (b := true) ⟨o, ho, hc⟩ isSubtype_stop ?_)
  exact wpAny_pure (hQ _ hk)
/-- a zip of two tuples amid its walk, its pairs kept by others -/
def ZSt (h : Heap) (z TI TO i1 i2 l1 l2 S : Addr) (xs ys : Array Value) (i : Nat) : Prop :=
  IsPair h TI (.ref i1) (.ref i2) ∧ h.IsTupleIter i1 l1 i ∧ h.IsTupleIter i2 l2 i ∧ h.IsTuple l1 xs ∧ h.IsTuple l2 ys ∧
    ((IsZip h z TI TO .none ∧ ∃ a b, IsPair h TO a b) ∨ ∃ (T : Nat) (b : Bool) (oT : Obj), IsZipF h z TI TO (rawInt T) b ∧ h.get? T = some oT ∧ S < T)
theorem ZSt.keep {h h' : Heap} {z TI TO i1 i2 l1 l2 S : Addr} {xs ys : Array Value} {i : Nat} (x : ZSt h z TI TO i1 i2 l1 l2 S xs ys i) (hk : ∀ b o, b ≠ S → h.get? b = some o → h'.get? b = some o) (lo : ∀ c ∈ [z, TI, TO, i1, i2, l1, l2], c < S) : ZSt h' z TI TO i1 i2 l1 l2 S xs ys i := by
  have ne : ∀ c ∈ [z, TI, TO, i1, i2, l1, l2], c ≠ S := fun c hc => Nat.ne_of_lt (lo c hc)
  obtain ⟨hTI, h1, h2, hl1, hl2, hz⟩ := x
  refine ⟨hk _ _ (ne TI (by simp)) hTI, h1.at fun o e => hk _ o (ne i1 (by simp)) e, h2.at fun o e => hk _ o (ne i2 (by simp)) e, hl1.at fun o e => hk _ o (ne l1 (by simp)) e, hl2.at fun o e => hk _ o (ne l2 (by simp)) e, ?_⟩
  rcases hz with ⟨hz, a, b, hTO⟩ | ⟨T, b, oT, hz, hT, hS⟩
  · exact .inl ⟨hk _ _ (ne z (by simp)) hz, a, b, hk _ _ (ne TO (by simp)) hTO⟩
  · exact .inr ⟨T, b, oT, hk _ _ (ne z (by simp)) hz, hk _ _ (Nat.ne_of_gt hS) hT, hS⟩
structure ZG (xs ys : Array Value) (lo : Addr) (h : Heap) (as : List Addr) : Prop where
  rise : as.Pairwise (· < ·)
  above : ∀ a ∈ as, lo < a
  pairs : ∀ (j : Nat) (a : Addr), as[j]? = some a → ∃ x y, xs[j]? = some x ∧ ys[j]? = some y ∧ IsPair h a x y
variable {z TI TO i1 i2 l1 l2 S : Addr} {xs ys : Array Value} {R : Result → Shared → Prop}
theorem zl_step {i : Nat} {x y : Value} {Q : Option Value → Shared → Prop} (D : ZipApart z TI TO i1 i2 l1 l2) (lo : ∀ c ∈ [z, TI, TO, i1, i2, l1, l2], c < S) (hSh : S < s.heap.objs.size) (st : ZSt s.heap z TI TO i1 i2 l1 l2 S xs ys i) (hx : xs[i]? = some x) (hy : ys[i]? = some y)
    (hQ : ∀ h', ZSt h' z TI TO i1 i2 l1 l2 S xs ys (i + 1) → IsPair h' s.heap.objs.size x y → h'.objs.size = s.heap.objs.size + 1 →
      (∀ c o, c ≠ z → c ≠ TO → c ≠ i1 → c ≠ i2 → s.heap.get? c = some o → h'.get? c = some o) → Q (some (.ref s.heap.objs.size)) { s with heap := h' }) : wpAny (model prog w) A (pyNext (.ref z)) Q E s := by
  obtain ⟨hTI, h1, h2, hl1, hl2, hz⟩ := st
  rcases hz with ⟨hz, a, b, hTO⟩ | ⟨T, b, oT, hz, hT, hS⟩
  · refine pyNext_zipT_item D hz hTI hTO h1 h2 hl1 hl2 hx hy fun h' a1 a2 a3 a4 a5 a6 hk => hQ h' ⟨hk _ _ D.TIz D.TITO D.TIi1 D.TIi2 hTI, a3, a4, hl1.at fun o e => hk _ o D.l1z D.l1TO D.l1i1 D.l1i2 e, hl2.at fun o e => hk _ o D.l2z D.l2TO D.l2i1 D.l2i2 e, .inr ⟨_, false, _, a1, a5, hSh⟩⟩ a5 a6 hk
  · have tne : ∀ c ∈ [z, TI, TO, i1, i2, l1, l2], T ≠ c := fun c hc => Nat.ne_of_gt (Nat.lt_trans (lo c hc) hS)
    refine zl_nextItem D hz hTI hT h1 h2 hl1 hl2 hx hy fun h' a1 a3 a4 a5 a6 hk => hQ h' ⟨hk _ _ D.TIz D.TIi1 D.TIi2 hTI, a3, a4, hl1.at fun o e => hk _ o D.l1z D.l1i1 D.l1i2 e, hl2.at fun o e => hk _ o D.l2z D.l2i1 D.l2i2 e, .inr ⟨T, true, oT, a1, hk _ _ (tne z (by simp)) (tne i1 (by simp)) (tne i2 (by simp)) hT, hS⟩⟩ a5 a6 fun c o c1 _ c3 c4 e => hk c o c1 c3 c4 e
theorem zl_stop {i : Nat} {Q : Option Value → Shared → Prop} (hh : A.handled = none) (D : ZipApart z TI TO i1 i2 l1 l2) (st : ZSt s.heap z TI TO i1 i2 l1 l2 S xs ys i) (hend : xs[i]? = none ∨ ys[i]? = none)
    (hQ : ∀ h', (∀ c o, c ≠ z → c ≠ TO → c ≠ i1 → c ≠ i2 → s.heap.get? c = some o → h'.get? c = some o) → Q none { s with heap := h' }) : wpAny (model prog w) A (pyNext (.ref z)) Q E s := by
  obtain ⟨hTI, h1, h2, hl1, hl2, hz⟩ := st
  rcases hz with ⟨hz, a, b, hTO⟩ | ⟨T, b, oT, hz, hT, hS⟩
  · exact pyNext_zipT_end hh D hz hTI hTO h1 h2 hl1 hl2 hend hQ
  · exact zl_nextEnd hh D hz hTI hT h1 h2 hl1 hl2 hend fun h' hk => hQ h' fun c o c1 _ c3 c4 e => hk c o c1 c3 c4 e
theorem zl_loop {n : Nat} (hh : A.handled = none) (D : ZipApart z TI TO i1 i2 l1 l2) (lo : ∀ c ∈ [z, TI, TO, i1, i2, l1, l2], c < S) (hn : n = min xs.size ys.size) (hz : n ≤ sizeLine) (res : Value) {h₁ : Heap}
    (hR : ∀ h' tk acc c as, (∀ b o, b ≠ S → b ≠ z → b ≠ TO → b ≠ i1 → b ≠ i2 → h₁.get? b = some o → h'.get? b = some o) → h'.get? S = some { cls := .type "list", dict := none, data := .seq acc c, slots := #[] } → as.length = n → ZG xs ys S h' as →
      acc.toList = as.map Value.ref → R (.ok (.ret res)) { s with heap := h', toks := tk }) :
    ∀ (k i : Nat) (h : Heap) (tk c : Nat) (acc : Array Value) (as : List Addr), n - i = k → i ≤ n → ZSt h z TI TO i1 i2 l1 l2 S xs ys i → (∀ b o, b ≠ S → b ≠ z → b ≠ TO → b ≠ i1 → b ≠ i2 → h₁.get? b = some o → h.get? b = some o) →
      h.get? S = some { cls := .type "list", dict := none, data := .seq acc c, slots := #[] } → acc.toList = as.map Value.ref → as.length = i → ZG xs ys S h as →
      codeAny (model prog w) A (.builtin "list.extend.loop" ⟨[.ref S, .ref z, res], []⟩) R { s with heap := h, toks := tk } := by
  have ne : ∀ c ∈ [z, TI, TO, i1, i2, l1, l2], c ≠ S := fun c hc => Nat.ne_of_lt (lo c hc)
  have hi : ∀ {a : Addr}, S < a → a ≠ z ∧ a ≠ TO ∧ a ≠ i1 ∧ a ≠ i2 := fun {a} ha => by
    exact ⟨Nat.ne_of_gt (Nat.lt_trans (lo z (by simp)) ha), Nat.ne_of_gt (Nat.lt_trans (lo TO (by simp)) ha), Nat.ne_of_gt (Nat.lt_trans (lo i1 (by simp)) ha), Nat.ne_of_gt (Nat.lt_trans (lo i2 (by simp)) ha)⟩
  intro k
  induction k with
  | zero =>
    intro i h tk c acc as hk hi' hst hkeep hS hacc hal hG
    have hin : i = n := by omega
    refine codeAny_builtin PySem.F.entry_extend_loop ?_
    rw [Around.under_plainId PySem.F.plain_extend_loop _]
    show wpAny _ A.in1 (pyNext (.ref z) >>= _) _ _ _
    refine wpAny_bind (zl_stop (s := { s with heap := h, toks := tk }) (A := A.in1) hh D hst ?_ fun h' he => ?_)
    · rcases Nat.le_total xs.size ys.size with q | q
      · exact .inl (Array.getElem?_eq_none (by omega))
      · exact .inr (Array.getElem?_eq_none (by omega))
    refine wpAny_pure (hR h' tk acc c as (fun b o h1 h2 h3 h4 h5 e => he b o h2 h3 h4 h5 (hkeep b o h1 h2 h3 h4 h5 e)) (he S _ (ne z (by simp)).symm (ne TO (by simp)).symm (ne i1 (by simp)).symm (ne i2 (by simp)).symm hS) (by omega) ⟨hG.rise, hG.above, fun j a hj => ?_⟩ hacc)
    obtain ⟨x, y, e1, e2, e3⟩ := hG.pairs j a hj
    obtain ⟨n1, n2, n3, n4⟩ := hi (hG.above a (List.mem_of_getElem? hj))
    exact ⟨x, y, e1, e2, he a _ n1 n2 n3 n4 e3⟩
  | succ k ih =>
    intro i h tk c acc as hk hi' hst hkeep hS hacc hal hG
    have hlt : i < n := by omega
    have hsz : acc.size = i := by rw [← Array.length_toList, hacc, List.length_map, hal]
    have hSl : S < h.objs.size := Heap.lt_size hS
    have lx : i < xs.size := by omega
    have ly : i < ys.size := by omega
    refine codeAny_builtin PySem.F.entry_extend_loop ?_
    rw [Around.under_plainId PySem.F.plain_extend_loop _]
    show wpAny _ A.in1 (pyNext (.ref z) >>= _) _ _ _
    refine wpAny_bind (zl_step (s := { s with heap := h, toks := tk }) (S := S) D lo hSl hst (Array.getElem?_eq_getElem lx) (Array.getElem?_eq_getElem ly) fun h' hst' ht hz' hkp => ?_)
    dsimp only at ht hz' hkp ⊢
    have hS' := hkp S _ (ne z (by simp)).symm (ne TO (by simp)).symm (ne i1 (by simp)).symm (ne i2 (by simp)).symm hS
    have up : ∀ b o, b ≠ S → h'.get? b = some o → (h'.update S (Obj.mapSeq (·.push (Value.ref h.objs.size)))).get? b = some o := fun b o hb e => (Heap.get?_update_other _ _ (Ne.symm hb)).trans e
    show wpAny _ A.in1 (updateSeq S (·.push (Value.ref h.objs.size)) >>= _) _ _ _
    refine wpAny_bind ?_
    refine wpAny_updateSeq hS' rfl (wpAny_pure ⟨plainId_quiet PySem.F.plain_extend_loop _, ih (i + 1) _ tk _ (acc.push (Value.ref h.objs.size)) (as ++ [h.objs.size]) (by omega) hlt (hst'.keep up lo)
      (fun b o h1 h2 h3 h4 h5 e => up b o h1 (hkp b o h2 h3 h4 h5 (hkeep b o h1 h2 h3 h4 h5 e))) (Heap.get?_update_self _ hS' rfl) (by rw [Array.toList_push, hacc, List.map_append]; rfl) (by rw [List.length_append, hal]; rfl) ⟨?_, ?_, ?_⟩⟩) (by rw [hsz]; omega) (by show (acc.push (Value.ref h.objs.size)).size ≤ sizeLine + 1; rw [Array.size_push, hsz]; omega)
    · refine List.pairwise_append.mpr ⟨hG.rise, List.pairwise_singleton _ _, fun a ha b hb => ?_⟩
      rw [List.mem_singleton.mp hb]
      obtain ⟨j, hj⟩ := List.getElem?_of_mem ha
      obtain ⟨x, y, e1, e2, e3⟩ := hG.pairs j a hj
      exact Heap.lt_size e3
    · intro a ha
      rcases List.mem_append.mp ha with ha | ha
      · exact hG.above a ha
      · rw [List.mem_singleton.mp ha]; exact hSl
    · intro j b hj
      rcases Nat.lt_trichotomy j as.length with h1 | h1 | h1
      · rw [List.getElem?_append_left h1] at hj
        obtain ⟨x, y, e1, e2, e3⟩ := hG.pairs j b hj
        have hb := hG.above b (List.mem_of_getElem? hj)
        obtain ⟨n1, n2, n3, n4⟩ := hi hb
        exact ⟨x, y, e1, e2, up b _ (Nat.ne_of_gt hb) (hkp b _ n1 n2 n3 n4 e3)⟩
      · subst h1
        have hb : h.objs.size = b := by simpa using hj
        subst hb
        exact ⟨xs[i], ys[i], by rw [hal]; exact Array.getElem?_eq_getElem lx, by rw [hal]; exact Array.getElem?_eq_getElem ly, up _ _ (Nat.ne_of_gt hSl) ht⟩
      · have hnone : (as ++ [h.objs.size])[j]? = none := List.getElem?_eq_none (by rw [List.length_append, List.length_singleton]; omega)
        rw [hnone] at hj; cases hj
theorem zl_len_none : typeLookup (.type "zip") "__len__" = pure none := by rw [typeLookup_type, builtinLookup_eq_fast]; kernel_rfl
theorem zl_hint_none : typeLookup (.type "zip") "__length_hint__" = pure none := by rw [typeLookup_type, builtinLookup_eq_fast]; kernel_rfl
theorem zl_hint (hT : s.TypeIs (.ref z) "zip") {Q : Bool → Shared → Prop} (h : Q true s) : wpAny (model prog w) A (Builtin.List.listLengthHint (.ref z)) Q E s := by
  unfold Builtin.List.listLengthHint
  refine wpAny_bind (wpAny_specialOf hT zl_len_none ?_)
  show wpAny _ _ (specialOf (Value.ref z) (Str.ofString "__length_hint__") >>= _) _ _ _
  exact wpAny_bind (wpAny_specialOf hT zl_hint_none (wpAny_pure h))
theorem zl_extend {n : Nat} (hh : A.handled = none) (D : ZipApart z TI TO i1 i2 l1 l2) (lo : ∀ c ∈ [z, TI, TO, i1, i2, l1, l2], c < S) (hn : n = min xs.size ys.size) (hl : n ≤ sizeLine) (res : Value) (c₀ : Nat) (hz : IsZip s.heap z TI TO .none)
    (st : ∀ h', (∀ b o, b ≠ S → s.heap.get? b = some o → h'.get? b = some o) → ZSt h' z TI TO i1 i2 l1 l2 S xs ys 0) (hS : s.heap.get? S = some { cls := .type "list", data := .seq #[] c₀ })
    (hR : ∀ h' tk acc c as, (∀ b o, b ≠ S → b ≠ z → b ≠ TO → b ≠ i1 → b ≠ i2 → s.heap.get? b = some o → h'.get? b = some o) → h'.get? S = some { cls := .type "list", dict := none, data := .seq acc c, slots := #[] } → as.length = n → ZG xs ys S h' as →
      acc.toList = as.map Value.ref → R (.ok (.ret res)) { s with heap := h', toks := tk }) :
    wpAny (model prog w) A.in1 (Builtin.List.listExtendWith (.ref S) (.ref z) res)
      (fun fin s' => match fin with | .done f => R (.ok f) s' | .again c' => c'.quiet = true ∧ codeAny (model prog w) A c' R s') (fun e s' => R (.error e) s') s := by
  have hSz : S ≠ z := Nat.ne_of_gt (lo z (by simp))
  have key : ∀ (h : Heap) (c₁ tk : Nat), (∀ b o, b ≠ S → s.heap.get? b = some o → h.get? b = some o) →
      h.get? S = some { cls := .type "list", data := .seq #[] c₁ } → codeAny (model prog w) A (.builtin "list.extend.loop" ⟨[.ref S, .ref z, res], []⟩) R { s with heap := h, toks := tk } := by
    intro h c₁ tk hk hS₁
    exact zl_loop (n := n) (s := s) (h₁ := s.heap) hh D lo hn hl res hR n 0 h tk c₁ #[] [] (Nat.sub_zero _) (Nat.zero_le _) (st h hk) (fun b o hb _ _ _ _ e => hk b o hb e) hS₁ rfl rfl
      ⟨List.Pairwise.nil, (fun _ ha => nomatch ha), (fun j a hj => by simp at hj)⟩
  have hT : s.TypeIs (.ref z) "zip" := ⟨_, hz, rfl⟩
  unfold Builtin.List.listExtendWith
  refine wpAny_bind (wpAny_typeOf (T := "zip") hT ?_)
  have h1 : Builtin.List.listSameRef (.ref S) (.ref z) = false := by simp [Builtin.List.listSameRef, hSz]
  have h2 : (Value.type "zip" == Value.type "list") = false := by decide
  have h3 : (Value.type "zip" == Value.type "tuple") = false := by decide
  simp only [h1, h2, h3, Bool.or_false, Bool.false_eq_true, if_false]
  refine wpAny_bind (wpAny_pyIter_zip hz ?_)
  refine wpAny_bind (wpAny_holding (zl_hint hT ?_))
  refine wpAny_ite_split (fun _ => ?_) (fun _ => wpAny_pure ⟨plainId_quiet PySem.F.plain_extend_loop _, key _ c₀ _ (fun b o _ e => e) hS⟩)
  refine wpAny_bind (wpAny_rule ?_)
  refine wpAny_bind ?_
  show wpAny _ _ (updateSeq S (·.push .none) >>= fun _ => updateSeq S (·.pop)) _ _ _
  refine wpAny_bind (wpAny_updateSeq hS rfl ?_)
  have hS₂ := Heap.get?_update_self (Obj.mapSeq (·.push Value.none)) hS rfl
  refine wpAny_updateSeq (hz := by seq_fits) hS₂ rfl ?_
  have hS₃ := Heap.get?_update_self (Obj.mapSeq (·.pop)) hS₂ rfl
  refine wpAny_pure ⟨plainId_quiet PySem.F.plain_extend_loop _, key _ _ _ (fun b o hb e => ?_) hS₃⟩
  exact (Heap.get?_update_other _ _ (Ne.symm hb)).trans ((Heap.get?_update_other _ _ (Ne.symm hb)).trans e)
theorem zl_init {n : Nat} (hh : A.handled = none) (D : ZipApart z TI TO i1 i2 l1 l2) (lo : ∀ c ∈ [z, TI, TO, i1, i2, l1, l2], c < S) (hn : n = min xs.size ys.size) (hl : n ≤ sizeLine) (hz : IsZip s.heap z TI TO .none) (hS : s.heap.get? S = some { cls := .type "list", data := .seq #[] })
    (st : ∀ h', (∀ b o, b ≠ S → s.heap.get? b = some o → h'.get? b = some o) → ZSt h' z TI TO i1 i2 l1 l2 S xs ys 0)
    (hR : ∀ h' tk acc c as, (∀ b o, b ≠ S → b ≠ z → b ≠ TO → b ≠ i1 → b ≠ i2 → s.heap.get? b = some o → h'.get? b = some o) → h'.get? S = some { cls := .type "list", dict := none, data := .seq acc c, slots := #[] } → as.length = n → ZG xs ys S h' as →
      acc.toList = as.map Value.ref → R (.ok (.ret .none)) { s with heap := h', toks := tk }) :
    wpAny (model prog w) A.in1 (Builtin.«list.__init__» ⟨[.ref S, .ref z], []⟩)
      (fun fin s' => match fin with | .done f => R (.ok f) s' | .again c' => c'.quiet = true ∧ codeAny (model prog w) A c' R s') (fun e s' => R (.error e) s') s := by
  show wpAny _ _ (do let old ← Builtin.List.listItems (.ref S); Builtin.List.listUpdate (.ref S) (fun _ => #[]); letGo old.toList.reverse; Builtin.List.listExtendWith (.ref S) (.ref z) .none) _ _ s
  refine wpAny_bind ?_
  unfold Builtin.List.listItems
  refine wpAny_bind (wpAny_seqItems hS rfl (wpAny_pure ?_))
  show wpAny _ _ (updateSeq S (fun _ => #[]) >>= fun _ => letGo (#[] : Array Value).toList.reverse >>= fun _ => Builtin.List.listExtendWith (.ref S) (.ref z) .none) _ _ s
  refine wpAny_bind (wpAny_updateSeq hS rfl ?_)
  have hS₂ := Heap.get?_update_self (Obj.mapSeq (fun _ => (#[] : Array Value))) hS rfl
  have oth : ∀ b o, b ≠ S → s.heap.get? b = some o → (s.heap.update S (Obj.mapSeq (fun _ => (#[] : Array Value)))).get? b = some o :=
    fun b o hb e => (Heap.get?_update_other _ _ (Ne.symm hb)).trans e
  refine wpAny_bind (wpAny_letGo ?_)
  refine zl_extend (n := n) hh D lo hn hl .none _ (oth z _ (Nat.ne_of_lt (lo z (by simp))) hz) (fun h' hk => st h' fun b o hb e => hk b o hb (oth b o hb e)) hS₂ (fun h' tk acc c as hk hS' hl hG hacc => ?_)
  exact hR h' tk acc c as (fun b o hb n1 n2 n3 n4 e => hk b o hb n1 n2 n3 n4 (oth b o hb e)) hS' hl hG hacc
theorem zl_call {n : Nat} {Q : Value → Shared → Prop} (hh : A.handled = none) (D : ZipApart z TI TO i1 i2 l1 l2) (lo : ∀ c ∈ [z, TI, TO, i1, i2, l1, l2], c < s.heap.objs.size) (hn : n = min xs.size ys.size) (hl : n ≤ sizeLine)
    (hz : IsZip s.heap z TI TO .none) (hTI : IsPair s.heap TI (.ref i1) (.ref i2)) (hTO : IsPair s.heap TO .none .none) (h1 : s.heap.IsTupleIter i1 l1 0) (h2 : s.heap.IsTupleIter i2 l2 0) (hl1 : s.heap.IsTuple l1 xs) (hl2 : s.heap.IsTuple l2 ys)
    (hQ : ∀ h' tk acc c as, (∀ b o, b ≠ z → b ≠ TO → b ≠ i1 → b ≠ i2 → s.heap.get? b = some o → h'.get? b = some o) → h'.get? s.heap.objs.size = some { cls := .type "list", dict := none, data := .seq acc c, slots := #[] } → as.length = n → ZG xs ys s.heap.objs.size h' as →
      acc.toList = as.map Value.ref → Q (.ref s.heap.objs.size) { s with heap := h', toks := tk }) :
    wpAny (model prog w) A (call (.type "list") [.ref z]) Q E s := by
  refine callType_codes (Q₁ := fun obj s₁ => obj = .ref s.heap.objs.size ∧ s₁ = { s with heap := s.heap.push { cls := .type "list", data := .seq #[] } }) PySem.F.called_list (PySem.F.typeCall_list_1 _) PySem.F.entry_list_init
    (code_list_new _ ⟨rfl, rfl⟩) fun obj s₁ h₁ => ?_
  obtain ⟨rfl, rfl⟩ := h₁
  have hS : (s.heap.push { cls := .type "list", data := .seq #[] }).get? s.heap.objs.size = some { cls := .type "list", data := .seq #[] } := Heap.get?_push_size _ rfl
  have st0 : ZSt s.heap z TI TO i1 i2 l1 l2 s.heap.objs.size xs ys 0 := ⟨hTI, h1, h2, hl1, hl2, .inl ⟨hz, _, _, hTO⟩⟩
  refine ⟨⟨_, hS, rfl⟩, PySem.F.args_list_init_2 _ _, zl_init (n := n) (A := A.in1) hh D lo hn hl (Heap.get?_push_of_some _ hz) hS (fun h' hk => st0.keep (fun b o hb e => hk b o hb (Heap.get?_push_of_some _ e)) lo) (fun h' tk acc c as hk hS' hl hG hacc => ?_)⟩
  exact ⟨rfl, hQ h' tk acc c as (fun b o n1 n2 n3 n4 e => hk b o (Nat.ne_of_lt (Heap.lt_size e)) n1 n2 n3 n4 (Heap.get?_push_of_some _ e)) hS' hl hG hacc⟩
end
end Z

set_option Elab.async false
set_option linter.all false
set_option maxRecDepth 100000
set_option maxHeartbeats 1000000
namespace Z
open PySem PySem.Spec PyProof.Rows L2 RZ
theorem zipLook : ∀ {ps : List Addr} {ls : List (List V)} {i : Nat} {p : Addr} {l : List V}, ps.Pairwise (· < ·) → ps[i]? = some p → ls[i]? = some l → (ps.zip ls).lookup p = some l
  | [], _, _, _, _, _, h, _ => by simp at h
  | _ :: _, [], _, _, _, _, _, h => by simp at h
  | q :: ps, m :: ls, 0, p, l, _, h, h2 => by
    simp at h h2
    subst h h2
    simp [List.lookup]
  | q :: ps, m :: ls, i + 1, p, l, n, h, h2 => by
    have h' : ps[i]? = some p := by simpa using h
    have h2' : ls[i]? = some l := by simpa using h2
    have lt : q < p := (List.pairwise_cons.mp n).1 p (List.mem_of_getElem? h')
    have e : (p == q) = false := by simpa using Nat.ne_of_gt lt
    rw [List.zip_cons_cons, List.lookup, e]
    exact zipLook (List.pairwise_cons.mp n).2 h' h2'
theorem zipLookR : ∀ {ps : List Addr} {ls : List (List V)} {b : Addr} {l : List V}, (ps.zip ls).lookup b = some l → ∃ i : Nat, ps[i]? = some b ∧ ls[i]? = some l
  | [], _, _, _, h => by simp [List.lookup] at h
  | _ :: _, [], _, _, h => by simp [List.lookup] at h
  | q :: ps, m :: ls, b, l, h => by
    rw [List.zip_cons_cons, List.lookup] at h
    by_cases e : b = q
    · subst e
      simp at h
      exact ⟨0, by simp, by simp [h]⟩
    · have e' : (b == q) = false := by simpa using e
      rw [e'] at h
      obtain ⟨i, h1, h2⟩ := zipLookR h
      exact ⟨i + 1, by simpa using h1, by simpa using h2⟩
def hpZip (H : Hp) (q : Addr) (ps : List Addr) (ls : List (List V)) : Hp := fun b => if b = q then some (.lst (ps.map V.ref)) else match (ps.zip ls).lookup b with | some l => some (.tup l) | none => H b
/-- list(zip(x, y)), tuples -/
def tLZip (K : PySem.W.Frag) (ta : TA) : TE := fun σ H Q => ta σ H fun vs H1 => ∃ a b xs ys, vs = [.ref a, .ref b] ∧ SqT K H1 a xs ∧ SqT K H1 b ys ∧ ∀ (q : Addr) (ps : List Addr) (H2 : Hp), H1 q = none → (∀ c o, H1 c = some o → H2 c = some o) → H2 q = some (.lst (ps.map V.ref)) → ps.length = min xs.length ys.length →
  (∀ (i : Nat) (p : Addr), ps[i]? = some p → ∃ x y, xs[i]? = some x ∧ ys[i]? = some y ∧ H2 p = some (.tup [x, y])) → Q (.ref q) H2
section
variable {X : Cx} {e e2 : Expr} {ta : TA} {p1 p2 pos pos2 : Pos}
theorem pe_lzip {K : PySem.W.Frag} (hK : X.K = K) (hc : X.calm = true) (hg1 : Gl X "list") (hm1 : X.mg "list" = none) (hg : Gl X "zip") (hm : X.mg "zip" = none) (ha : PA X [e, e2] ta)
    (hs : starEach [e, e2] X.env = (false, eval e X.env) :: starEach [e2] X.env := by rfl) (hpl : (backTo pos2 (starEach [e2] X.env)).any (·.1) = false := by rfl)
    (hs1 : starEach [.Call (.Name "zip" p2) [e, e2] [] pos2] X.env = [(false, eval (.Call (.Name "zip" p2) [e, e2] [] pos2) X.env)] := by rfl) :
    PE X (.Call (.Name "list" p1) [.Call (.Name "zip" p2) [e, e2] [] pos2] [] pos) (tLZip K ta) := by
  subst hK
  refine ⟨fun pins s σ H Q I h => ?_⟩
  refine Call_ (ld_blt (u := .type "list") I hg1 hm1 (by decide +kernel) (PyProof.Rows.callWith_type1 (T := "list") ?_ hs1 (by rfl)))
  rw [hs1]
  show wpAny _ _ (spliced ((false, eval (.Call (.Name "zip" p2) [e, e2] [] pos2) X.env) :: backTo pos [])) _ _ _
  refine Calls.spliced_cons ?_
  refine Call_ (ld_blt I hg hm PyProof.Rows.boot_zip (PyProof.Rows.callWith_type1 (thn (ha.run pos2 pins _ σ H _ I h) fun us s1 ⟨vs, H1, I1, r1, q1⟩ => ?_) hs hpl))
  obtain ⟨a, b, xs, ys, ex, hqx, hqy, q⟩ := q1
  subst ex
  cases r1 with
  | cons r rr =>
    cases rr with
    | cons r' rr =>
      cases rr
      cases r
      cases r'
      obtain ⟨its, rv, p1, z1⟩ := I1.tuple hqx
      obtain ⟨its2, rv2, p2, z2⟩ := I1.tuple hqy
      obtain ⟨o1, ho1, _⟩ := id p1
      obtain ⟨o2, ho2, _⟩ := id p2
      have la := Heap.lt_size ho1
      have lb := Heap.lt_size ho2
      refine call_zipT (show s1.heap.IsTuple a its.toArray from p1) (show s1.heap.IsTuple b its2.toArray from p2) fun h' hz hTI hTO h1 h2 hsz hk => ?_
      refine Calls.spliced_nil ?_
      show wpAny _ _ (call (.type "list") [.ref (s1.heap.objs.size + 4)]) _ _ _
      have lo : ∀ c ∈ [s1.heap.objs.size + 4, s1.heap.objs.size + 2, s1.heap.objs.size + 3, s1.heap.objs.size, s1.heap.objs.size + 1, a, b], c < h'.objs.size := by
        intro c hc
        rw [hsz]
        simp at hc
        rcases hc with rfl | rfl | rfl | rfl | rfl | rfl | rfl
        · exact Nat.lt_succ_self _
        · exact Nat.add_lt_add_left (by decide) _
        · exact Nat.add_lt_add_left (by decide) _
        · exact Nat.lt_add_of_pos_right (by decide)
        · exact Nat.add_lt_add_left (by decide) _
        · exact Nat.lt_of_lt_of_le la (Nat.le_add_right _ _)
        · exact Nat.lt_of_lt_of_le lb (Nat.le_add_right _ _)
      have l1 := rv.length
      have l2 := rv2.length
      have hmin : min xs.length ys.length = min its.toArray.size its2.toArray.size := by rw [List.size_toArray, List.size_toArray, l1, l2]
      refine zl_call (s := { s1 with heap := h' }) (n := min xs.length ys.length) (I1.ok.hd hc) (PySem.W.ktu_apart s1.heap.objs.size a b la lb) lo hmin (by omega) hz hTI hTO h1 h2
        (let ⟨o, ho, x⟩ := p1; ⟨o, hk _ _ ho, x⟩) (let ⟨o, ho, x⟩ := p2; ⟨o, hk _ _ ho, x⟩) fun h2 tk acc c as hk2 hL hla hG hacc => ?_
      have lt5 : s1.heap.objs.size < h'.objs.size := by rw [hsz]; exact Nat.lt_add_of_pos_right (by decide)
      have kk : ∀ b o, s1.heap.get? b = some o → h2.get? b = some o := fun b o e => by
        have hb := Heap.lt_size e
        exact hk2 b o (Nat.ne_of_lt (Nat.lt_of_lt_of_le hb (Nat.le_add_right _ _))) (Nat.ne_of_lt (Nat.lt_of_lt_of_le hb (Nat.le_add_right _ _))) (Nat.ne_of_lt hb) (Nat.ne_of_lt (Nat.lt_of_lt_of_le hb (Nat.le_add_right _ _))) (hk b o e)
      have frs : ∀ c, h'.objs.size ≤ c → H1 c = none := fun c hc => I1.hok.fresh (Nat.le_trans (Nat.le_of_lt lt5) hc)
      have oldlt : ∀ b o, H1 b = some o → b < h'.objs.size := fun b o e => Nat.lt_of_not_le fun hc => by rw [frs b hc] at e; cases e
      have nolook : ∀ b, b < h'.objs.size → (as.zip (List.zipWith (fun x y => [x, y]) xs ys)).lookup b = none := fun b hb => by
        cases hl : (as.zip (List.zipWith (fun x y => [x, y]) xs ys)).lookup b with
        | none => rfl
        | some l =>
          obtain ⟨i, h1, _⟩ := zipLookR hl
          have := hG.above b (List.mem_of_getElem? h1)
          exact absurd (Nat.lt_trans hb this) (Nat.lt_irrefl _)
      have eold : ∀ b, b < h'.objs.size → hpZip H1 h'.objs.size as (List.zipWith (fun x y => [x, y]) xs ys) b = H1 b := fun b hb => by
        unfold hpZip
        rw [if_neg (Nat.ne_of_lt hb), nolook b hb]
      have lsl : (List.zipWith (fun x y => [x, y]) xs ys).length = as.length := by rw [List.length_zipWith, hla]
      have etup : ∀ (i : Nat) (p : Addr) (l : List V), as[i]? = some p → (List.zipWith (fun x y => [x, y]) xs ys)[i]? = some l → hpZip H1 h'.objs.size as (List.zipWith (fun x y => [x, y]) xs ys) p = some (.tup l) := fun i p l hp hl => by
        unfold hpZip
        rw [if_neg (Nat.ne_of_gt (hG.above p (List.mem_of_getElem? hp))), zipLook hG.rise hp hl]
      have Un1 : Un X.fs [] H1 (hpZip H1 h'.objs.size as (List.zipWith (fun x y => [x, y]) xs ys)) s1.heap h2 := {
        keep := fun b o q n _ _ => kk b o q
        slot := fun b o q n _ _ => ⟨o.slots, kk b o q⟩
        free := fun b o q n _ => by rw [eold b (Nat.lt_trans (Heap.lt_size q) lt5)]; exact n
        there := fun b o q _ => ⟨o, kk b o q⟩
        tups := fun b xs q => by rw [eold b (oldlt b _ q)]; exact q
        frzs := fun b o v q => by rw [eold b (oldlt b _ q)]; exact q
        tbls := fun b ps q => ⟨#[], by rw [eold b (oldlt b _ q), q]; simp⟩ }
      have J : L2.Inv X pins σ (hpZip H1 h'.objs.size as (List.zipWith (fun x y => [x, y]) xs ys)) { s1 with heap := h2, toks := tk } := I1.un (t' := tk) Un1 fun b o q => by
        by_cases hbq : b = h'.objs.size
        · subst hbq
          have e : hpZip H1 h'.objs.size as (List.zipWith (fun x y => [x, y]) xs ys) h'.objs.size = some (.lst (as.map V.ref)) := by
            unfold hpZip
            rw [if_pos rfl]
          rw [e] at q
          cases q
          have hv : ∀ ps : List Addr, Vals (ps.map V.ref) (ps.map Value.ref) := by
            intro ps
            induction ps with
            | nil => exact .nil
            | cons p ps ih => exact .cons rfl ih
          have el : acc = (as.map Value.ref).toArray := by rw [← hacc]
          refine ⟨by rw [List.length_map]; omega, _, c, hv as, ?_⟩
          rw [← el]
          exact hL
        · cases hlk : (as.zip (List.zipWith (fun x y => [x, y]) xs ys)).lookup b with
          | some l =>
            obtain ⟨i, hi, hli⟩ := zipLookR hlk
            rw [etup i b l hi hli] at q
            cases q
            obtain ⟨u, v, hu, hv, hp⟩ := hG.pairs i b hi
            rw [List.getElem?_zipWith] at hli
            cases hxi : xs[i]? with
            | none => rw [hxi] at hli; simp at hli
            | some x =>
              cases hyi : ys[i]? with
              | none => rw [hxi, hyi] at hli; simp at hli
              | some y =>
                rw [hxi, hyi] at hli
                have hli : [x, y] = l := by simpa using hli
                subst hli
                obtain ⟨u', hu', ru⟩ := rv.get hxi
                obtain ⟨v', hv', rv'⟩ := rv2.get hyi
                have e1 : u = u' := by
                  have : its[i]? = some u := by simpa using hu
                  rw [this] at hu'
                  exact Option.some.inj hu'
                have e2 : v = v' := by
                  have : its2[i]? = some v := by simpa using hv
                  rw [this] at hv'
                  exact Option.some.inj hv'
                subst e1 e2
                exact ⟨by show 2 ≤ sizeLine; decide, [u, v], .cons ru (.cons rv' .nil), ⟨_, hp, rfl, _, rfl⟩⟩
          | none =>
            have e : hpZip H1 h'.objs.size as (List.zipWith (fun x y => [x, y]) xs ys) b = H1 b := by
              unfold hpZip
              rw [if_neg hbq, hlk]
            rw [e] at q
            exact (I1.hok b o q).stay (fun c v hc z => kk c v z) (fun c hc => by rw [eold c (oldlt c _ hc)]; exact hc) (fun c xs hc => by rw [eold c (oldlt c _ hc)]; exact hc)
      refine ⟨.ref h'.objs.size, _, J, rfl, q _ as _ (frs _ (Nat.le_refl _)) (fun c o e => by rw [eold c (oldlt c o e)]; exact e) ?_ hla fun i p hp => ?_⟩
      · unfold hpZip
        rw [if_pos rfl]
      · have li : i < as.length := (List.getElem?_eq_some_iff.mp hp).1
        have lx : i < xs.length := by omega
        have ly : i < ys.length := by omega
        refine ⟨xs[i], ys[i], List.getElem?_eq_getElem lx, List.getElem?_eq_getElem ly, etup i p _ hp ?_⟩
        rw [List.getElem?_zipWith, List.getElem?_eq_getElem lx, List.getElem?_eq_getElem ly]
end
end Z
namespace Z
open PySem L2
section
variable {K : PySem.W.Frag} {σ : L2.St} {H : Hp} {Q : VK} {ta : TA} {te : TE}
/-! ### read -/
def rLZip (K : PySem.W.Frag) (vs : List V) (H1 : Hp) (Q : VK) : Prop := ∃ a b xs ys, vs = [.ref a, .ref b] ∧ SqT K H1 a xs ∧ SqT K H1 b ys ∧ ∀ (q : Addr) (ps : List Addr) (H2 : Hp), H1 q = none → (∀ c o, H1 c = some o → H2 c = some o) → H2 q = some (.lst (ps.map V.ref)) → ps.length = min xs.length ys.length →
  (∀ (i : Nat) (p : Addr), ps[i]? = some p → ∃ x y, xs[i]? = some x ∧ ys[i]? = some y ∧ H2 p = some (.tup [x, y])) → Q (.ref q) H2
theorem i_lzip (h : ta σ H (fun vs H1 => rLZip K vs H1 Q)) : tLZip K ta σ H Q := h
def rMkV (C : Addr) (sp : Sp) (vs : List V) (H1 : Hp) (Q : VK) : Prop := vs.length ≤ 1000 ∧ ∀ a, H1 a = none → sp (.ref a :: (vs ++ [])) (upd H1 a (exo a C none)) (fun v H2 => v = .non ∧ Q (.ref a) H2) (fun _ _ _ => False)
def rFmtSO (C : Addr) (sp : Sp) (x : V) (H1 : Hp) (Q : VK) : Prop := ∃ a dx fs, x = .ref a ∧ H1 a = some (.ins C dx fs) ∧ sp [.ref a] H1 (fun v H' => ∃ z, v = .str z ∧ z.length ≤ 100000 ∧ Q (.str z) H') (fun _ _ _ => False)
end
end Z
namespace Z
open PySem PySem.Spec PyProof.Rows L2
section
variable {K : PySem.W.Frag} {σ : L2.St} {H : Hp} {g : TG} {tt : TT} {te : TE} {tr : TA} {Q : VK}
def rLcR1 (g : TG) (tt : TT) (te : TE) (vs : List Nat) (σ : L2.St) (Q : VK) (ws : List V) (H1 : Hp) : Prop := ∃ j : Int, ws = [.int j] ∧ -(2 ^ 62) ≤ j ∧ j < 2 ^ 62 ∧ ∀ D, H1 D = none → ∃ W : Nat → Nat → Hp → Prop, (∃ m, W 0 m (upd H1 D (.lst []))) ∧ ∀ k m H, W k m H →
  ((Itr 0 j.toNat).stop k H ∧ Q (.ref D) H) ∨ ((Itr 0 j.toNat).go k H ∧ ∃ Nx : Hp → Prop, (∀ H', Nx H' → ∃ m', m' < m ∧ W (k + 1) m' H') ∧ ∀ x H', (Itr 0 j.toNat).yld k H x H' → g x (wipe σ vs) H' fun σ2 H2 => wipe σ2 vs = wipe σ vs ∧ tt σ2 H2 fun b H3 =>
    if b = true then te σ2 H3 fun y H4 => ∃ acc, H4 D = some (.lst acc) ∧ acc.length < sizeLine ∧ Nx (upd H4 D (.lst (acc ++ [y]))) else Nx H3)
theorem i_lcR10 {vs : List Nat} (h : tr σ H (fun ws H1 => rLcR1 g tt te vs σ Q ws H1)) : tLc (iRng1 tr) g tt te vs σ H Q := h
theorem i_lcR1 {vs : List Nat} {n : Nat} {j : Int} (hj : j = (n : Int)) (hn : n < 100000) (Pv : Nat → List V → Hp → Prop) (h0 : ∀ D H', H D = none → Same H H' → H' D = some (.lst []) → (∀ b, b ≠ D → H' b = H b) → Pv 0 [] H')
    (hs : ∀ k D ys H1, H D = none → k < n → H1 D = some (.lst ys) → Pv k ys H1 → g (.int ((0 : Int) + (k : Nat))) (wipe σ vs) H1 fun σ2 H2 => wipe σ2 vs = wipe σ vs ∧ tt σ2 H2 fun b H3 => if b = true then te σ2 H3 fun y H4 => rLcE D Pv k y H4 else LcS D Pv (k + 1) H3)
    (hd : ∀ D ys H1, H D = none → H1 D = some (.lst ys) → Pv n ys H1 → Q (.ref D) H1) : rLcR1 g tt te vs σ Q [.int j] H := by
  refine ⟨j, rfl, by omega, by omega, fun D hD => ?_⟩
  have e : j.toNat = n := by omega
  rw [e]
  refine lc_range (LcS D Pv) ⟨[], upd_same, h0 D _ hD (fun b o e => by rw [upd_ne (ne_of_none e hD)]; exact e) upd_same (fun b hb => upd_ne hb)⟩ ?_ ?_
  · rintro k H' hk ⟨ys, hD', p⟩
    exact hs k D ys H' hD hk hD' p
  · rintro H' ⟨ys, hD', p⟩
    exact hd D ys H' hD hD' p
end
end Z

set_option Elab.async false
set_option linter.all false
set_option maxRecDepth 100000
set_option maxHeartbeats 1000000
/-! a, *rest = xs -/
namespace Z
open PySem PySem.Spec PyProof.Rows L2
section
variable {prog : Program} {w : World} {A : Around} {E : Value → Shared → Prop} {s : Shared} {l : Addr} {items : Array Value}
end
section
variable {P : Program} {w : World} {H : Hp} {h h' : Heap} {a : Addr} {o : HO}
end
/-- a, *b = xs -/
def gStar (K : PySem.W.Frag) (t : TGs) : TG := fun v σ H Q => ∃ (a : Addr) (x : V) (xs : List V), v = .ref a ∧ SqL K H a (x :: xs) ∧ ∀ p, H p = none → t [x, .ref p] σ (upd H p (.lst xs)) Q
end Z

set_option Elab.async false
set_option linter.all false
set_option maxRecDepth 100000
set_option maxHeartbeats 4000000
/-! enumerate(xs, start=k), xs a list -/
namespace Z
open PySem PySem.Spec PyProof.Rows L2
section
variable {M : Model} {A : Around} {E : Value → Shared → Prop} {s : Shared} {env : Env}
end
/-- the list at a from the number k on, each item in a new pair -/
def IteS (K : PySem.W.Frag) (a : Addr) (k : Int) : It :=
  ⟨fun i H => ∃ (xs : List V) (x : V), SqL K H a xs ∧ xs[i]? = some x, fun i H v H' => ∃ T x, v = .ref T ∧ H T = none ∧ H' = upd H T (.tup [.int (k + (i : Nat)), x]) ∧ ∀ xs, SqL K H a xs → xs[i]? = some x, fun i H => ∃ xs : List V, SqL K H a xs ∧ xs.length ≤ i⟩
/-- enumerate(xs, start=k) -/
def iEnS (K : PySem.W.Frag) (ta tk : TA) : TI := fun σ H R => ta σ H fun vs H1 => tk σ H1 fun ws H2 => ∃ a xs k, vs = [.ref a] ∧ ws = [.int k] ∧ -(2 ^ 62) ≤ k ∧ k < 2 ^ 62 ∧ SqL K H2 a xs ∧ R (IteS K a k) H2
/-! ### read -/
section
variable {K : PySem.W.Frag} {σ : L2.St} {H H0 : Hp} {D : Ends} {ta tk : TA} {g : TG} {tb : TS} {a : Addr} {xs : List V} {k : Int}
def rEnS (K : PySem.W.Frag) (g : TG) (tb : TS) (D : Ends) (σ : L2.St) (vs ws : List V) (H2 : Hp) : Prop := ∃ a xs k, vs = [.ref a] ∧ ws = [.int k] ∧ -(2 ^ 62) ≤ k ∧ k < 2 ^ 62 ∧ SqL K H2 a xs ∧ rFor (IteS K a k) g tb D σ H2
end
end Z

set_option Elab.async false
set_option linter.all false
set_option maxRecDepth 100000
set_option maxHeartbeats 1000000
/-! own objects walked: `for x in o`, where __iter__ hands back iter of a tuple or of a dict; a dict known from now on; sums of a dict's values -/
namespace Z
open PySem PySem.Spec PyProof.Rows L2
section
variable {P : Program} {w : World} {K : PySem.W.Frag} {mg : Str → Option Value} {base : Heap}
/-- a promise that may speak of the size of the heap at the call -/
def FnT (P : Program) (w : World) (K : PySem.W.Frag) (mg : Str → Option Value) (base : Heap) (k : Nat) (f : Addr) (sp : Nat → Sp) : Prop :=
  ∀ (A : Around) (outer : List Env) (s : Shared) (H : Hp) (us : List Value) (vs : List V) (Q : VK) (E : XK), Room k A → Env0 P w K mg base A outer s H → Vals vs us → sp s.heap.objs.size vs H Q E →
    codeAny (model P w) A (.call (.ref f) ⟨us, []⟩) (CR (L2.CX P w) outer P w H s Q E) s
/-- an own __iter__ -/
def ItO (P : Program) (w : World) (K : PySem.W.Frag) (mg : Str → Option Value) (base : Heap) (C : Addr) (k : Nat) (sp : Nat → Sp) : Prop := ∃ f, Spc K C "__iter__" f ∧ FnT P w K mg base k f sp
end
/-- iter(t), told with the heap's size at the def's entry -/
def rIterTS (K : PySem.W.Frag) (n : Nat) : List V → Hp → VK → Prop := fun xs H Q => ∃ t ys, xs = [.ref t] ∧ SqT K H t ys ∧ ∀ q, n ≤ q → H q = none → Q (.ref q) (upd H q (TupIt q t 0))
/-- the keys' iterator of a known dict -/
def KeyIt (q d : Addr) (i : Nat) (o : Obj) (m : Nat) : HO := .ext fun h => ∃ es ep, o.data = .dict es ep ∧ h.IsKeyIter q d i m ep
def rIterDS (n : Nat) : List V → Hp → VK → Prop := fun xs H Q => ∃ d o kvs, xs = [.ref d] ∧ H d = some (.frz o (.dK kvs)) ∧ ∀ q, n ≤ q → H q = none → Q (.ref q) (upd H q (KeyIt q d 0 o kvs.length))
section
variable {X : Cx}
end
/-- the object at q is known no more -/
theorem Un.drop {fs ex : List Addr} {H : Hp} {h h' : Heap} {q : Addr} {o : HO} (u : Un fs ex H (upd H q o) h h') (hn : H q = none) : Un fs ex H H h h' where
  keep := u.keep
  slot := u.slot
  free := fun _ _ _ n _ => n
  there := u.there
  tups := fun _ _ e => e
  frzs := fun _ _ _ e => e
  tbls := fun _ ps e => ⟨#[], by simpa using e⟩
theorem HOk.drop {P : Program} {w : World} {H : Hp} {h : Heap} {q : Addr} {φ : Heap → Prop} (x : HOk P w (upd H q (.ext φ)) h) (hn : H q = none) : HOk P w H h := fun b u e => by
  have nb : b ≠ q := ne_of_none e hn
  have y := x b u (by rw [upd_ne nb]; exact e)
  refine y.stay (fun _ _ _ k => k) (fun c k => ?_) fun c xs k => ?_
  · by_cases hc : c = q
    · rw [hc, upd_same] at k; cases k
    · rw [upd_ne hc] at k; exact k
  · by_cases hc : c = q
    · rw [hc, upd_same] at k; cases k
    · rw [upd_ne hc] at k; exact k
section
variable {X : Cx} {k j : Nat} {C : Addr} {sp : Nat → Sp} {tg e : Expr} {te : TE}
/-- an own object whose __iter__ hands back iter of the tuple at t -/
def OwnT (K : PySem.W.Frag) (C : Addr) (sp : Nat → Sp) (a t : Addr) (ys : List V) (H1 : Hp) : Prop := (∃ dx fs, H1 a = some (.ins C dx fs)) ∧ SqT K H1 t ys ∧
  ∀ n, sp n [.ref a] H1 (fun v H' => ∃ q, v = .ref q ∧ n ≤ q ∧ H1 q = none ∧ H' = upd H1 q (TupIt q t 0)) fun _ _ _ => False
/-- .. of the known dict at d -/
def OwnD (C : Addr) (sp : Nat → Sp) (a d : Addr) (o : Obj) (kvs : List (Key × V)) (H1 : Hp) : Prop := (∃ dx fs, H1 a = some (.ins C dx fs)) ∧ H1 d = some (.frz o (.dK kvs)) ∧
  ∀ n, sp n [.ref a] H1 (fun v H' => ∃ q, v = .ref q ∧ n ≤ q ∧ H1 q = none ∧ H' = upd H1 q (KeyIt q d 0 o kvs.length)) fun _ _ _ => False
/-- the walk of an own object by its tuple -/
def iOwnT (K : PySem.W.Frag) (C : Addr) (sp : Nat → Sp) (te : TE) : TI := fun σ H R => te σ H fun x H1 => ∃ a t ys, x = .ref a ∧ OwnT K C sp a t ys H1 ∧ R (Itt K t) H1
/-- .. by its dict, which is known -/
def iOwnD (C : Addr) (sp : Nat → Sp) (te : TE) : TI := fun σ H R => te σ H fun x H1 => ∃ a d o kvs, x = .ref a ∧ OwnD C sp a d o kvs H1 ∧ R (Itk d o kvs) H1
end
end Z

set_option Elab.async false
set_option linter.all false
set_option maxRecDepth 100000
set_option maxHeartbeats 1000000
/-! a dict known from now on; sum of a dict's values; != of lists and dicts that are equal in depth, dicts among them -/
namespace Z
open PySem PySem.Spec PyProof.Rows L2
section
variable {X : Cx} {st : Stmt} {t : TS} {e : Expr} {te : TE}
/-- from here on the thing at d is known and not written any more -/
def tFrz (t : TS) : TS := fun D σ H => ∃ d u, H d = some u ∧ Mut (some u) ∧ ∀ od, t D σ (upd H d (.frz od u))
end
/-! ### the values' sum -/
section
variable {prog : Program} {w : World} {A : Around} {E : Value → Shared → Prop} {s : Shared} {T : String} {r d : Addr} {n : Nat} {P : Nat → Value → Prop} {OK : Heap → Prop} {Q : Value → Shared → Prop}
end
/-- d.values(), kept as a value -/
def ValO (q d : Addr) : HO := .ext fun h => h.get? q = some { cls := .type "dict_values", data := .fields #[.ref d] }
def tVals (td : TE) : TE := fun σ H Q => td σ H fun x H1 => ∃ d o kvs, x = .ref d ∧ H1 d = some (.frz o (.dK kvs)) ∧ ∀ q, H1 q = none → Q (.ref q) (upd H1 q (ValO q d))
section
variable {X : Cx} {e : Expr} {td : TE} {apos cpos : Pos}
/-- sum of them -/
def rSumV : List V → Hp → VK → Prop := fun xs H Q => ∃ q d o kvs, ∃ ns : List Int, xs = [.ref q] ∧ H q = some (ValO q d) ∧ H d = some (.frz o (.dK kvs)) ∧ kvs.map (·.2) = ns.map V.int ∧ Q (.int ns.sum) H
end
/-! ### equal in depth -/
section
variable {prog : Program} {w : World}
open SeqAt AutoSeq1 MeetsSeq MeetsSeq2 MeetsSeq3 in
open SeqAt AutoSeq1 MeetsSeq MeetsSeq2 MeetsSeq3 in
end
section
variable {X : Cx} {pins : List (Addr × Obj)} {σ : L2.St} {H : Hp} {s : Shared}
/-- the same data -/
def W0 (K : PySem.W.Frag) (H : Hp) (x y : V) : Prop := ∃ d, Dp K H x d ∧ Dp K H y d ∧ SeqAt.shaped d = true ∧ PyData.eqv d d = true
/-- two dicts of the same keys with the same data -/
def WD (K : PySem.W.Frag) (H : Hp) (x y : V) : Prop := ∃ a b ks ls, x = .ref a ∧ y = .ref b ∧ Rd H a (.dK ks) ∧ Rd H b (.dK ls) ∧ ks.length = ls.length ∧ ∀ p ∈ ks, ∃ u, valV ls p.1 = some u ∧ W0 K H p.2 u
def W1 (K : PySem.W.Frag) (H : Hp) (x y : V) : Prop := W0 K H x y ∨ WD K H x y
/-- lists, item by item -/
def WL (K : PySem.W.Frag) (H : Hp) (x y : V) : Prop := ∃ a b xs ys, x = .ref a ∧ y = .ref b ∧ SqL K H a xs ∧ SqL K H b ys ∧ Paired (W1 K H) xs ys
/-- x == y, x != y, equal in depth -/
def rEqW (K : PySem.W.Frag) (r : Bool) : R2 := fun x y H Q => (WL K H x y ∨ WD K H x y) ∧ Q (.bl r) H
end
end Z

set_option Elab.async false
set_option linter.all false
set_option maxRecDepth 100000
set_option maxHeartbeats 1000000
/-! readings: dicts with text keys (known or not), own objects walked by their dict, zip; lcm -/
namespace Z
open PySem PySem.Spec PyProof.Rows L2
/-- a dict by its keys in their order, which are texts, and their values -/
def dF (zs : List Str) (f : Str → V) : List (Key × V) := zs.map fun z => (.inr z, f z)
def upF {α : Type} (f : Str → α) (z : Str) (v : α) : Str → α := fun x => if x = z then v else f x
/-- a key more, or none -/
def adK (zs : List Str) (z : Str) : List Str := if z ∈ zs then zs else zs ++ [z]
/-! ### walks -/
section
variable {K : PySem.W.Frag} {σ : L2.St} {H H0 : Hp} {D : Ends} {te tl tk tv td ty tx : TE} {tt : TT} {tr : TA} {g : TG} {tb : TS} {Q : VK} {a d : Addr} {o : Obj} {zs : List Str} {f : Str → V}
def rForKeys (g : TG) (tb : TS) (D : Ends) (σ : L2.St) (x : V) (H1 : Hp) : Prop := ∃ d o, x = .ref d ∧ ((∃ kvs, H1 d = some (.frz o (.dK kvs)) ∧ rFor (Itk d o kvs) g tb D σ H1) ∨ ∃ kvs, H1 d = some (.frz o (.dT kvs)) ∧ rFor (Itkt d o kvs) g tb D σ H1)
/-- a comprehension over J -/
def rLcJ (J : It) (g : TG) (tt : TT) (te : TE) (vs : List Nat) (σ : L2.St) (Q : VK) (H1 : Hp) : Prop := ∀ D, H1 D = none → ∃ W : Nat → Nat → Hp → Prop, (∃ m, W 0 m (upd H1 D (.lst []))) ∧ ∀ i m H, W i m H →
  (J.stop i H ∧ Q (.ref D) H) ∨ (J.go i H ∧ ∃ Nx : Hp → Prop, (∀ H', Nx H' → ∃ m', m' < m ∧ W (i + 1) m' H') ∧ ∀ x H', J.yld i H x H' → g x (wipe σ vs) H' fun σ2 H2 => wipe σ2 vs = wipe σ vs ∧ tt σ2 H2 fun b H3 =>
    if b = true then te σ2 H3 fun y H4 => ∃ acc, H4 D = some (.lst acc) ∧ acc.length < sizeLine ∧ Nx (upd H4 D (.lst (acc ++ [y]))) else Nx H3)
def rLcKeys (g : TG) (tt : TT) (te : TE) (vs : List Nat) (σ : L2.St) (Q : VK) (x : V) (H1 : Hp) : Prop := ∃ d o, x = .ref d ∧ ((∃ kvs, H1 d = some (.frz o (.dK kvs)) ∧ rLcJ (Itk d o kvs) g tt te vs σ Q H1) ∨ ∃ kvs, H1 d = some (.frz o (.dT kvs)) ∧ rLcJ (Itkt d o kvs) g tt te vs σ Q H1)
/-! own objects -/
def rForOwn (C : Addr) (sp : Nat → Sp) (g : TG) (tb : TS) (D : Ends) (σ : L2.St) (x : V) (H1 : Hp) : Prop := ∃ a d o kvs, x = .ref a ∧ OwnD C sp a d o kvs H1 ∧ rFor (Itk d o kvs) g tb D σ H1
def rLcOwn (C : Addr) (sp : Nat → Sp) (g : TG) (tt : TT) (te : TE) (vs : List Nat) (σ : L2.St) (Q : VK) (x : V) (H1 : Hp) : Prop := ∃ a d o kvs, x = .ref a ∧ OwnD C sp a d o kvs H1 ∧ rLcJ (Itk d o kvs) g tt te vs σ Q H1
/-! zip of two lists of one length -/
def rForZip (K : PySem.W.Frag) (g : TG) (tb : TS) (D : Ends) (σ : L2.St) (vs : List V) (H1 : Hp) : Prop := ∃ a b xs ys, vs = [.ref a, .ref b] ∧ SqL K H1 a xs ∧ SqL K H1 b ys ∧ rFor (Itz K a b) g tb D σ H1
/-! dicts, read -/
def rG2b (a : Addr) (y z : V) (H3 : Hp) (Q : VK) : Prop := ∃ o, DGet H3 a y o ∧ Q (o.getD z) H3
def rG2 (ty tx : TE) (σ : L2.St) (Q : VK) (x : V) (H1 : Hp) : Prop := ∃ a, x = .ref a ∧ IsD H1 a ∧ ty σ H1 fun y H2 => tx σ H2 fun z H3 => rG2b a y z H3 Q
def rP1b (a : Addr) (y : V) (H2 : Hp) (Q : VK) : Prop := ∃ kvs k v, H2 a = some (.dK kvs) ∧ y = kV k ∧ valV kvs k = some v ∧ Q v (upd H2 a (.dK (dropK kvs k)))
def rP1 (ty : TE) (σ : L2.St) (Q : VK) (x : V) (H1 : Hp) : Prop := ∃ a, x = .ref a ∧ IsD H1 a ∧ ty σ H1 fun y H2 => rP1b a y H2 Q
end
/-- dict of a list of pairs -/
def rDictP (K : PySem.W.Frag) : List V → Hp → VK → Prop := fun xs H Q => ∃ (a : Addr) (ps : List Addr) (kvs : List (Key × V)), xs = [.ref a] ∧ SqL K H a (ps.map V.ref) ∧ Paired (fun p kv => SqT K H p [kV kv.1, kv.2]) ps kvs ∧
    ∀ p, H p = none → Q (.ref p) (upd H p (.dK (mergeK [] kvs)))
section
variable {X : Cx} {K : PySem.W.Frag}
/-- the least common multiple -/
def rLcm : List V → Hp → VK → Prop := fun vs H Q => ∃ a b : Int, vs = [.int a, .int b] ∧ a.natAbs.log2 < 9000 ∧ b.natAbs.log2 < 9000 ∧ Q (.int ((Nat.lcm a.natAbs b.natAbs : Nat) : Int)) H
end
end Z

set_option Elab.async false
set_option linter.all false
set_option maxRecDepth 100000
set_option maxHeartbeats 1000000
/-! data that can be compared: lists, tuples, known and unknown dicts -/
namespace Z
open PySem PySem.Spec PyProof.Rows L2
mutual
theorem dpMono {K : PySem.W.Frag} {H H' : Hp} (s : Same H H') : ∀ {v : V} {d : PyData}, Dp K H v d → Dp K H' v d
  | _, _, .non => .non
  | _, _, .bl b => .bl b
  | _, _, .int i => .int i
  | _, _, .str x => .str x
  | _, _, .lst h hs => .lst (s.seq h) (dpMonoAll s hs)
  | _, _, .tup h hs => .tup (Same_seqT s h) (dpMonoAll s hs)
theorem dpMonoAll {K : PySem.W.Frag} {H H' : Hp} (s : Same H H') : ∀ {vs : List V} {ds : List PyData}, DpAll K H vs ds → DpAll K H' vs ds
  | _, _, .nil => .nil
  | _, _, .cons h hs => .cons (dpMono s h) (dpMonoAll s hs)
end
def Lay (n : Nat) (d : PyData) : Prop := d.canLay0 = true ∧ d.depth ≤ n
theorem lay_all {n : Nat} : ∀ {ds : List PyData}, (∀ d ∈ ds, Lay n d) → PyData.canLayAll0 ds = true ∧ PyData.depthAll ds ≤ n
  | [], _ => ⟨rfl, Nat.zero_le _⟩
  | d :: ds, h => by
    obtain ⟨h1, h2⟩ := h d List.mem_cons_self
    obtain ⟨h3, h4⟩ := lay_all fun e he => h e (List.mem_cons_of_mem _ he)
    refine ⟨?_, ?_⟩
    · unfold PyData.canLayAll0
      rw [h1, h3]
      rfl
    · unfold PyData.depthAll
      omega
theorem lay_list {n : Nat} {ds : List PyData} (h : ∀ d ∈ ds, Lay n d) : Lay (n + 1) (.list ds) := by
  obtain ⟨h1, h2⟩ := lay_all h
  exact ⟨by unfold PyData.canLay0; exact h1, by unfold PyData.depth; omega⟩
theorem lay_tup {n : Nat} {ds : List PyData} (h : ∀ d ∈ ds, Lay n d) : Lay (n + 1) (.tuple ds) := by
  obtain ⟨h1, h2⟩ := lay_all h
  exact ⟨by unfold PyData.canLay0; exact h1, by unfold PyData.depth; omega⟩
theorem Lay.mono {n m : Nat} {d : PyData} (h : Lay n d) (l : n ≤ m) : Lay m d := ⟨h.1, Nat.le_trans h.2 l⟩
theorem Lay.shaped {n : Nat} {d : PyData} (h : Lay n d) (hn : n ≤ 64) : SeqAt.shaped d = true := by
  unfold SeqAt.shaped
  rw [h.1, decide_eq_true (Nat.le_trans h.2 hn)]
  rfl
theorem lay_int (n : Int) : Lay 0 (.int n) := ⟨rfl, Nat.le_refl _⟩
theorem lay_str {z : Str} (h : PyData.strOk z = true) : Lay 0 (.str z) := ⟨by unfold PyData.canLay0; exact h, Nat.le_refl _⟩
mutual
theorem eqv_refl : ∀ d : PyData, d.canLay0 = true → PyData.eqv d d = true
  | .none, _ => rfl
  | .bool a, _ => by show (a == a) = true; simp
  | .int a, _ => by show (a == a) = true; simp
  | .str a, _ => by show (a == a) = true; simp
  | .list xs, h => by
    unfold PyData.canLay0 at h
    show PyData.eqvAll xs xs = true
    exact eqv_reflAll xs h
  | .tuple xs, h => by
    unfold PyData.canLay0 at h
    show PyData.eqvAll xs xs = true
    exact eqv_reflAll xs h
  | .dict _, h => by unfold PyData.canLay0 at h; cases h
theorem eqv_reflAll : ∀ ds : List PyData, PyData.canLayAll0 ds = true → PyData.eqvAll ds ds = true
  | [], _ => rfl
  | d :: ds, h => by
    unfold PyData.canLayAll0 at h
    rw [Bool.and_eq_true] at h
    show (PyData.eqv d d && PyData.eqvAll ds ds) = true
    rw [eqv_refl d h.1, eqv_reflAll ds h.2]
    rfl
end

def rDNIn (y x : V) (H2 : Hp) (Q : VK) : Prop := ∃ a o, x = .ref a ∧ DGet H2 a y o ∧ Q (.bl (!o.isSome)) H2
theorem i_neDR {K : PySem.W.Frag} {p q : Addr} {H : Hp} {Q : VK} {n : Nat} {d : PyData} (hd : Lay n d) (hn : n ≤ 64) (h1 : Dp K H (.ref p) d) (h2 : Dp K H (.ref q) d) (h : Q (.bl false) H) : rNeD K (.ref p) (.ref q) H Q := by
  refine ⟨_, _, h1, h2, hd.shaped hn, hd.shaped hn, ?_⟩
  rw [eqv_refl d hd.1]
  exact h
end Z

set_option Elab.async false
set_option linter.all false
set_option maxRecDepth 100000
set_option maxHeartbeats 1000000
/-! a dict that was known is open again; == and != of dicts with an answer of either kind -/
namespace Z
open PySem PySem.Spec PyProof.Rows L2
section
variable {X : Cx} {st : Stmt} {t : TS}
/-- from here on the dict at d may be written again (it was none of the caller's known ones) -/
def tUnf (H0 : Hp) (t : TS) : TS := fun D σ H => ∃ d od u, H d = some (.frz od u) ∧ (∀ o' u', H0 d ≠ some (.frz o' u')) ∧ t D σ (upd H d u)
end
/-- what == of two dicts of data gives -/
def eqvD (ks ls : List (Key × V)) (f g : Key → PyData) : Bool := ks.length == ls.length && ks.all fun p => (valV ls p.1).isSome && PyData.eqv (f p.1) (g p.1)
def rEqDG (K : PySem.W.Frag) (neg : Bool) : R2 := fun x y H Q => ∃ (a b : Addr) (ks ls : List (Key × V)) (f g : Key → PyData), x = .ref a ∧ y = .ref b ∧ Rd H a (.dK ks) ∧ Rd H b (.dK ls) ∧
  (∀ p ∈ ks, Dp K H p.2 (f p.1) ∧ SeqAt.shaped (f p.1) = true) ∧ (∀ p ∈ ls, Dp K H p.2 (g p.1) ∧ SeqAt.shaped (g p.1) = true) ∧ Q (.bl (if neg then !eqvD ks ls f g else eqvD ks ls f g)) H
section
variable {X : Cx} {pins : List (Addr × Obj)} {σ : L2.St} {H : Hp} {s : Shared}
end
end Z

set_option Elab.async false
set_option linter.all false
set_option maxRecDepth 100000
set_option maxHeartbeats 2000000
/-! sets of texts: set(names) of a list or a tuple, sorted(set(names)) -/
namespace Z
open PySem PySem.Spec PyProof.Rows L2
/-- the text that an entry holds -/
def enT (e : Int × Value) : Str := match e.2 with | .str x _ => x | _ => Str.empty
/-- an entry that holds a text, with its hash -/
def EnT (P : Program) (w : World) (e : Int × Value) : Prop := ∃ x tk, e.2 = .str x tk ∧ e.1 = (strKind P w).hash x
/-- the set at a has the texts zs -/
def TxSet (P : Program) (w : World) (h : Heap) (a : Addr) (zs : List Str) : Prop := ∃ o es ep tb,
  (h.get? a = some o ∧ o.ExactSet ∧ o.data = .set es ep tb) ∧ ((∀ e ∈ es.toList, EnT P w e) ∧ (es.toList.map enT).Perm zs ∧ zs.Nodup) ∧
    (es.size < scanBound ∧ tb.fits es.size = true) ∧ Ris tb.place.toList ∧ (w.params.followText "set-order" = true ∨ tb.led = true)
section
variable {P : Program} {w : World} {h h' : Heap} {a : Addr} {zs ys : List Str}
theorem TxSet.stay (R : TxSet P w h a zs) (k : ∀ o, h.get? a = some o → h'.get? a = some o) : TxSet P w h' a zs :=
  let ⟨o, es, ep, tb, ⟨ho, r1⟩, r2⟩ := R; ⟨o, es, ep, tb, ⟨k o ho, r1⟩, r2⟩
theorem TxSet.order (R : TxSet P w h a zs) (p : zs.Perm ys) : TxSet P w h a ys :=
  let ⟨o, es, ep, tb, r1, ⟨r2, r3, r4⟩, r5⟩ := R; ⟨o, es, ep, tb, r1, ⟨r2, r3.trans p, p.nodup_iff.mp r4⟩, r5⟩
end
section
variable {P : Program} {w : World} {A : Around} {E : Value → Shared → Prop} {s : Shared} {a : Addr} {zs : List Str}
end

/-- the texts met, each once (the last first) -/
def ddp (xs : List Str) : List Str := xs.foldl (fun l z => if z ∈ l then l else z :: l) []
section
variable {P : Program} {w : World} {A : Around} {I : Addr} {fp wr : List Addr} {G : Array GenState → Array GenState → Prop} {n : Nat} {Pv : Nat → Value → Prop} {St : Nat → Shared → Prop} {R : Result → Shared → Prop}
end

/-- a new set -/
abbrev newS (w : World) : Obj := { cls := .type "set", dict := none, data := .set #[] 0 (.fresh 0 0 (!w.params.followText "set-order")) }
section
variable {P : Program} {w : World} {A : Around} {E : Value → Shared → Prop} {s : Shared}
set_option maxHeartbeats 8000000 in
set_option maxHeartbeats 8000000 in
end
end Z

set_option Elab.async false
set_option linter.all false
set_option maxRecDepth 100000
set_option maxHeartbeats 2000000
/-! sets of texts as rules: set(xs), sorted(set) -/
namespace Z
open PySem PySem.Spec PyProof.Rows L2
/-- the set of texts at a, as a thing of the heap -/
def TxO (P : Program) (w : World) (a : Addr) (zs : List Str) : HO := .ext fun h => TxSet P w h a zs
section
variable {X : Cx}
/-- set(xs) of a list or a tuple of texts -/
def rSetX (P : Program) (w : World) (K : PySem.W.Frag) : List V → Hp → VK → Prop := fun xs H Q => ∃ (l : Addr) (zs : List Str), xs = [.ref l] ∧ SqA K H l (zs.map V.str) ∧ zs.length < 1000 ∧ ∀ p, H p = none → Q (.ref p) (upd H p (TxO P w p (ddp zs)))
/-- sorted of a set of texts -/
def rSortX (P : Program) (w : World) : List V → Hp → VK → Prop := fun vs H Q => ∃ (a : Addr) (zs : List Str), vs = [.ref a] ∧ H a = some (TxO P w a zs) ∧ zs.length < 64 ∧
  ∀ p H', H p = none → Same H H' → (∀ b, b ≠ p → H' b = H b) → H' p = some (.lst ((srt zs).map V.str)) → Q (.ref p) H'
end
end Z

set_option Elab.async false
set_option linter.all false
set_option maxRecDepth 100000
set_option maxHeartbeats 1000000
/-! a new dict known at once; d.items() walked -/
namespace Z
open PySem PySem.Spec PyProof.Rows L2
/-- what e makes is known from here on -/
def tFrzE (te : TE) : TE := fun σ H Q => te σ H fun x H1 => ∃ d u, x = .ref d ∧ H1 d = some u ∧ Mut (some u) ∧ ∀ od, Q x (upd H1 d (.frz od u))
section
variable {K : PySem.W.Frag} {σ : L2.St} {H H0 : Hp} {D : Ends} {te td tx : TE} {tt : TT} {g : TG} {Q : VK} {a d : Addr} {o : Obj} {zs : List Str} {f : Str → V}
def rFrzE (x : V) (H1 : Hp) (Q : VK) : Prop := ∃ d u, x = .ref d ∧ H1 d = some u ∧ Mut (some u) ∧ ∀ od, Q x (upd H1 d (.frz od u))
def rLcItems (g : TG) (tt : TT) (te : TE) (vs : List Nat) (σ : L2.St) (Q : VK) (x : V) (H1 : Hp) : Prop := ∃ d o kvs, x = .ref d ∧ H1 d = some (.frz o (.dK kvs)) ∧ rLcJ (Iti d o kvs) g tt te vs σ Q H1
end
/-- len of a dict, known or not -/
def rLenR : List V → Hp → VK → Prop := fun xs H Q => ∃ a kvs, xs = [V.ref a] ∧ Rd H a (.dK kvs) ∧ Q (.int (kvs.length : Nat)) H
end Z

set_option Elab.async false
set_option linter.all false
set_option maxRecDepth 100000
set_option maxHeartbeats 1000000
/-! isinstance(e, c), e the caught error -/
namespace Z
open PySem PySem.Spec PyProof.Rows L2
def rIsXe (K : PySem.W.Frag) (a : Addr) (cls : Value) (d : Option Addr) : List V → Hp → VK → Prop := fun xs H Q => ∃ (D : Addr) (c : V) (u : Value) (b : Bool), xs = [.ref a, c] ∧ ClsV c u ∧ ExcC K D ∧ cls = .ref D ∧ (∀ dd, d = some dd → ∃ fs, H dd = some (.xd fs)) ∧ PySem.W.kitOne K (.ref D) u = some b ∧ Q (.bl b) H
end Z
namespace Z
open PySem PySem.Spec PyProof.Rows L2
end Z

set_option Elab.async false
set_option linter.all false
set_option maxRecDepth 100000
set_option maxHeartbeats 1000000
/-! dicts compared by !=, with an answer of either kind -/
namespace Z
open PySem PySem.Spec PyProof.Rows L2
section
variable {X : Cx}
end
end Z

set_option Elab.async false
set_option linter.all false
set_option maxRecDepth 100000
set_option maxHeartbeats 1000000
/-! an own object == a dict that is known -/
namespace Z
open PySem PySem.Spec PyProof.Rows L2
section
variable {X : Cx} {C f : Addr} {sp : Sp} {k j : Nat}
def rOwnCF (K : PySem.W.Frag) (C : Addr) (sp : Sp) : R2 := fun x y H Q => ∃ a dx fs b o kvs, x = .ref a ∧ H a = some (.ins C dx fs) ∧ y = .ref b ∧ H b = some (.frz o (.dK kvs)) ∧ PySem.W.notFirst K C (.type "dict") = true ∧
  sp [x, y] H Q (fun _ _ _ => False)
end
end Z

set_option Elab.async false
set_option linter.all false
set_option maxRecDepth 100000
set_option maxHeartbeats 1000000
/-! xs[::2], xs[1::2]; a dict comprehension over zip -/
namespace Z
open PySem PySem.Spec PyProof.Rows L2
def evL {α : Type} : List α → List α
  | [] => []
  | [x] => [x]
  | x :: _ :: r => x :: evL r
section
variable {X : Cx}
def tEv (K : PySem.W.Frag) (j : Nat) (te : TE) : TE := fun σ H Q => te σ H fun x H1 => ∃ a xs, x = .ref a ∧ SqL K H1 a xs ∧ ∀ p, H1 p = none → Q (.ref p) (upd H1 p (.lst (evL (xs.drop j))))
def rEv (K : PySem.W.Frag) (j : Nat) (x : V) (H1 : Hp) (Q : VK) : Prop := ∃ a xs, x = .ref a ∧ SqL K H1 a xs ∧ ∀ p, H1 p = none → Q (.ref p) (upd H1 p (.lst (evL (xs.drop j))))
end
end Z
namespace Z
open PySem PySem.Spec PyProof.Rows L2
section
variable {K : PySem.W.Frag} {g : TG} {tt : TT} {tk tv : TE} {σ : L2.St} {H H0 : Hp} {Q : VK}
/-- a dict comprehension over J -/
def rDcJ (J : It) (g : TG) (tt : TT) (tk tv : TE) (vs : List Nat) (σ : L2.St) (Q : VK) (H1 : Hp) : Prop := ∀ D, H1 D = none → ∃ W : Nat → Nat → Hp → Prop, (∃ m, W 0 m (upd H1 D (.dK []))) ∧ ∀ i m H, W i m H →
  (J.stop i H ∧ Q (.ref D) H) ∨ (J.go i H ∧ ∃ Nx : Hp → Prop, (∀ H', Nx H' → ∃ m', m' < m ∧ W (i + 1) m' H') ∧ ∀ x H', J.yld i H x H' → g x (wipe σ vs) H' fun σ2 H2 => wipe σ2 vs = wipe σ vs ∧ tt σ2 H2 fun b H3 =>
    if b = true then tk σ2 H3 fun y H4 => tv σ2 H4 fun z H5 => ∃ kvs k, y = kV k ∧ H5 D = some (.dK kvs) ∧ kvs.length < sizeLine ∧ Nx (upd H5 D (.dK (putK kvs k z))) else Nx H3)
def rDcZip (K : PySem.W.Frag) (g : TG) (tt : TT) (tk tv : TE) (vs : List Nat) (σ : L2.St) (Q : VK) (ws : List V) (H1 : Hp) : Prop := ∃ a b xs ys, ws = [.ref a, .ref b] ∧ SqL K H1 a xs ∧ SqL K H1 b ys ∧ rDcJ (Itz K a b) g tt tk tv vs σ Q H1
end
end Z
namespace Z
open PySem PySem.Spec PyProof.Rows L2
theorem k_slL {X : Cx} {K : PySem.W.Frag} (hK : X.K = K) : SlR X (rSlL K) := by subst hK; exact sl_list
end Z

set_option Elab.async false
set_option linter.all false
set_option maxRecDepth 100000
set_option maxHeartbeats 2000000
/-! zip of a tuple and a list -/
namespace ZM
open PySem
section
variable {pg : Program} {wd : World} {Ar : Around} {Er : Value → Shared → Prop} {sh : Shared} {q ti tu j1 j2 m1 m2 : Addr} {n1 n2 : Nat} {us vs : Array Value} {c0 d0 : Value}
end
end ZM
namespace ZM
open PySem PySem.Spec PyProof.Rows L2
section
variable {pg : Program} {wd : World} {Ar : Around} {Er : Value → Shared → Prop} {sh : Shared} {q ti tu j1 j2 m1 m2 : Addr} {n1 n2 : Nat} {us vs : Array Value} {c0 d0 : Value}
abbrev mx1 (g : Heap) (m1 : Addr) : Heap := g.push { cls := .type "tuple_iterator", data := .fields #[.ref m1, .int 0 0] }
abbrev mx2 (g : Heap) (m1 m2 : Addr) : Heap := (mx1 g m1).push { cls := .type "list_iterator", data := .fields #[.ref m2, .int 0 0] }
abbrev mx3 (g : Heap) (m1 m2 : Addr) : Heap := (mx2 g m1 m2).push { cls := .type "tuple", data := .seq #[.ref g.objs.size, .ref (mx1 g m1).objs.size] }
abbrev mx4 (g : Heap) (m1 m2 : Addr) : Heap := (mx3 g m1 m2).push { cls := .type "tuple", data := .seq #[.none, .none] }
abbrev mx5 (g : Heap) (m1 m2 : Addr) : Heap := (mx4 g m1 m2).push { cls := .type "zip", data := .fields #[.none, .bool false, .bool false, .ref (mx2 g m1 m2).objs.size, .ref (mx3 g m1 m2).objs.size] }
end
/-- the tuple at a and the list at b, their items in new pairs -/
def ItzM (K : PySem.W.Frag) (a b : Addr) : It :=
  ⟨fun i H => ∃ (xs ys : List V) (x y : V), SqT K H a xs ∧ SqL K H b ys ∧ xs[i]? = some x ∧ ys[i]? = some y,
    fun i H v H' => ∃ T x y, v = .ref T ∧ H T = none ∧ H' = upd H T (.tup [x, y]) ∧ (∀ us, SqT K H a us → us[i]? = some x) ∧ ∀ us, SqL K H b us → us[i]? = some y,
    fun i H => ∃ xs ys : List V, SqT K H a xs ∧ SqL K H b ys ∧ (xs.length ≤ i ∨ ys.length ≤ i)⟩
end ZM
namespace Z
open PySem PySem.Spec PyProof.Rows L2 ZM
/-- zip of a list or a tuple, and a list -/
def iZipM (K : PySem.W.Frag) (ta : TA) : TI := fun σ H R => ta σ H fun vs H1 => ∃ a b xs ys, vs = [.ref a, .ref b] ∧ SqL K H1 b ys ∧ ((SqL K H1 a xs ∧ R (Itz K a b) H1) ∨ (SqT K H1 a xs ∧ R (ItzM K a b) H1))
section
variable {K : PySem.W.Frag} {g : TG} {tb : TS} {D : Ends} {σ : L2.St} {H H0 : Hp} {tr : TA}
def rForZipM (K : PySem.W.Frag) (g : TG) (tb : TS) (D : Ends) (σ : L2.St) (vs : List V) (H1 : Hp) : Prop := ∃ a b xs ys, vs = [.ref a, .ref b] ∧ SqL K H1 b ys ∧ ((SqL K H1 a xs ∧ rFor (Itz K a b) g tb D σ H1) ∨ (SqT K H1 a xs ∧ rFor (ItzM K a b) g tb D σ H1))
end
end Z

set_option Elab.async false
set_option linter.all false
set_option maxRecDepth 100000
set_option maxHeartbeats 2000000
/-! zip of two sequences, each a list or a tuple (or an own object walked by its tuple): in comprehensions, and in dict(zip(..)) -/
namespace ZA
open PySem
/-- the iterator at j of the sequence at m (b: a tuple), n items told -/
def AIt (b : Bool) (g : Heap) (j m : Addr) (n : Nat) : Prop := cond b (g.IsTupleIter j m n) (g.IsListIter j m n)
def ASq (b : Bool) (g : Heap) (m : Addr) (us : Array Value) : Prop := cond b (g.IsTuple m us) (g.IsList m us)
variable {b b1 b2 : Bool} {g g' : Heap} {j m c : Addr} {n : Nat} {us : Array Value}
theorem AIt.ext (x : AIt b g j m n) (k : Heap.ExtBut c g g') (h : j ≠ c) : AIt b g' j m n := by
  cases b
  · exact Heap.IsListIter.extBut x k h
  · exact Heap.IsTupleIter.extBut x k h
theorem ASq.ext (x : ASq b g m us) (k : Heap.ExtBut c g g') (h : m ≠ c) : ASq b g' m us := by
  cases b
  · exact Heap.IsList.extBut x k h
  · exact Heap.IsTuple.extBut x k h
theorem AIt.at (x : AIt b g j m n) (k : ∀ o, g.get? j = some o → g'.get? j = some o) : AIt b g' j m n := by
  cases b
  · exact Heap.IsListIter.at x k
  · exact Heap.IsTupleIter.at x k
theorem ASq.at (x : ASq b g m us) (k : ∀ o, g.get? m = some o → g'.get? m = some o) : ASq b g' m us := by
  cases b
  · exact Heap.IsList.at x k
  · exact Heap.IsTuple.at x k
theorem AIt.obj (x : AIt b g j m n) : ∃ o, g.get? j = some o ∧ ∀ v k, o.data ≠ .seq v k := by
  cases b
  · obtain ⟨o, h1, _, h2⟩ := x
    exact ⟨o, h1, fun v k z => by rw [h2] at z; cases z⟩
  · obtain ⟨o, h1, _, h2⟩ := x
    exact ⟨o, h1, fun v k z => by rw [h2] at z; cases z⟩
theorem ASq.obj (x : ASq b g m us) : ∃ o, g.get? m = some o := by
  cases b
  · obtain ⟨o, h1, _⟩ := x
    exact ⟨o, h1⟩
  · obtain ⟨o, h1, _⟩ := x
    exact ⟨o, h1⟩
section
variable {pg : Program} {wd : World} {Ar : Around} {Er : Value → Shared → Prop} {sh : Shared}
variable {q ti tu j1 j2 m1 m2 : Addr} {n1 n2 : Nat} {us1 us2 : Array Value} {c0 d0 : Value}
end
/-- what a new zip is -/
structure ZNew (b1 b2 : Bool) (g : Heap) (q ti tu j1 j2 m1 m2 : Addr) : Prop where
  z : IsZip g q ti tu .none
  t : IsPair g ti (.ref j1) (.ref j2)
  u : IsPair g tu .none .none
  i1 : AIt b1 g j1 m1 0
  i2 : AIt b2 g j2 m2 0
end ZA

set_option Elab.async false
set_option linter.all false
set_option maxRecDepth 100000
set_option maxHeartbeats 2000000
namespace ZA
open PySem PySem.Spec PyProof.Rows L2 Z
/-- a new iterator of the sequence at m -/
def itO (b : Bool) (m : Addr) : Obj := cond b { cls := .type "tuple_iterator", data := .fields #[.ref m, .int 0 0] } { cls := .type "list_iterator", data := .fields #[.ref m, .int 0 0] }
abbrev oh1 (g : Heap) (b2 : Bool) (m2 : Addr) : Heap := g.push (itO b2 m2)
abbrev oh2 (g : Heap) (b2 : Bool) (j1 m2 : Addr) : Heap := (oh1 g b2 m2).push { cls := .type "tuple", data := .seq #[.ref j1, .ref g.objs.size] }
abbrev oh3 (g : Heap) (b2 : Bool) (j1 m2 : Addr) : Heap := (oh2 g b2 j1 m2).push { cls := .type "tuple", data := .seq #[.none, .none] }
abbrev oh4 (g : Heap) (b2 : Bool) (j1 m2 : Addr) : Heap := (oh3 g b2 j1 m2).push { cls := .type "zip", data := .fields #[.none, .bool false, .bool false, .ref (oh1 g b2 m2).objs.size, .ref (oh2 g b2 j1 m2).objs.size] }
section
variable {pg : Program} {wd : World} {Ar : Around} {Er : Value → Shared → Prop} {sh : Shared}
end
/-- a list (false) or a tuple (true) of xs -/
def SqB (K : PySem.W.Frag) (b : Bool) (H : Hp) (a : Addr) (xs : List V) : Prop := cond b (SqT K H a xs) (SqL K H a xs)
theorem SqB.mono {K : PySem.W.Frag} {b : Bool} {H H' : Hp} {a : Addr} {xs : List V} (s : Same H H') (h : SqB K b H a xs) : SqB K b H' a xs := by
  cases b
  · exact s.seq h
  · exact Same_seqT s h
/-- the sequences at a and c, their items in new pairs -/
def ItzX (K : PySem.W.Frag) (b1 b2 : Bool) (a c : Addr) : It :=
  ⟨fun i H => ∃ (xs ys : List V) (x y : V), SqB K b1 H a xs ∧ SqB K b2 H c ys ∧ xs[i]? = some x ∧ ys[i]? = some y,
    fun i H v H' => ∃ T x y, v = .ref T ∧ H T = none ∧ H' = upd H T (.tup [x, y]) ∧ (∀ us, SqB K b1 H a us → us[i]? = some x) ∧ ∀ us, SqB K b2 H c us → us[i]? = some y,
    fun i H => ∃ xs ys : List V, SqB K b1 H a xs ∧ SqB K b2 H c ys ∧ (xs.length ≤ i ∨ ys.length ≤ i)⟩
end ZA

set_option Elab.async false
set_option linter.all false
set_option maxRecDepth 100000
set_option maxHeartbeats 2000000
namespace ZA
open PySem PySem.Spec PyProof.Rows L2 Z
section
variable {X : Cx} {k j : Nat} {C : Addr} {sp : Nat → Sp} {pins : List (Addr × Obj)} {σ : L2.St} {H1 : Hp} {s1 : Shared} {a t : Addr} {ys : List V} {R : Value → Shared → Prop} {E : Value → Shared → Prop}
end
/-! ### in a for, in a comprehension -/
def iZipO (K : PySem.W.Frag) (C : Addr) (sp : Nat → Sp) (ta : TA) : TI := fun σ H R => ta σ H fun vs H1 => ∃ a c t xs ys b2, vs = [.ref a, .ref c] ∧ OwnT K C sp a t xs H1 ∧ SqB K b2 H1 c ys ∧ R (ItzX K true b2 t c) H1
def iZipS (K : PySem.W.Frag) (ta : TA) : TI := fun σ H R => ta σ H fun vs H1 => ∃ a c xs ys b1 b2, vs = [.ref a, .ref c] ∧ SqB K b1 H1 a xs ∧ SqB K b2 H1 c ys ∧ R (ItzX K b1 b2 a c) H1
section
variable {X : Cx} {k j : Nat} {C : Addr} {sp : Nat → Sp} {e e2 : Expr} {ta : TA} {p pos tpos : Pos} {elts : List Expr} {kk : Nat}
/-! ### dict(zip(o, xs)) -/
def zkv (zs : List Str) (ys : List V) : List (Key × V) := (zs.zip ys).map fun p => (.inr p.1, p.2)
def tDZipO (K : PySem.W.Frag) (C : Addr) (sp : Nat → Sp) (ta : TA) : TE := fun σ H Q => ta σ H fun vs H1 => ∃ a c t zs ys b2, vs = [.ref a, .ref c] ∧ OwnT K C sp a t (zs.map V.str) H1 ∧ SqB K b2 H1 c ys ∧ ∀ d, H1 d = none → Q (.ref d) (upd H1 d (.dK (mergeK [] (zkv zs ys))))
end
end ZA

set_option Elab.async false
set_option linter.all false
set_option maxRecDepth 100000
set_option maxHeartbeats 1000000
namespace Z
open PySem PySem.Spec PyProof.Rows L2 ZA
section
variable {K : PySem.W.Frag} {σ : L2.St} {H H0 : Hp} {D : Ends} {te tl : TE} {tt : TT} {tr : TA} {g : TG} {tb : TS} {Q : VK} {a c t : Addr} {C : Addr} {sp : Nat → Sp}
def rLcZO (K : PySem.W.Frag) (C : Addr) (sp : Nat → Sp) (g : TG) (tt : TT) (te : TE) (vs : List Nat) (σ : L2.St) (Q : VK) (ws : List V) (H1 : Hp) : Prop := ∃ a c t xs ys b2, ws = [.ref a, .ref c] ∧ OwnT K C sp a t xs H1 ∧ SqB K b2 H1 c ys ∧ rLcJ (ItzX K true b2 t c) g tt te vs σ Q H1
def rLcZS (K : PySem.W.Frag) (g : TG) (tt : TT) (te : TE) (vs : List Nat) (σ : L2.St) (Q : VK) (ws : List V) (H1 : Hp) : Prop := ∃ a c xs ys b1 b2, ws = [.ref a, .ref c] ∧ SqB K b1 H1 a xs ∧ SqB K b2 H1 c ys ∧ rLcJ (ItzX K b1 b2 a c) g tt te vs σ Q H1
/-! dict(zip(o, ys)) -/
def rDZipO (K : PySem.W.Frag) (C : Addr) (sp : Nat → Sp) (Q : VK) (vs : List V) (H1 : Hp) : Prop := ∃ a c t zs ys b2, vs = [.ref a, .ref c] ∧ OwnT K C sp a t (zs.map V.str) H1 ∧ SqB K b2 H1 c ys ∧ ∀ d, H1 d = none → Q (.ref d) (upd H1 d (.dK (mergeK [] (zkv zs ys))))
/-- what a zip says of a name -/
def zpF (zs : List Str) (ys : List V) (z : Str) : V := ((zs.zip ys).lookup z).getD .non
end
end Z

set_option Elab.async false
set_option linter.all false
set_option maxRecDepth 100000
set_option maxHeartbeats 1000000
namespace Z
open PySem PySem.Spec PyProof.Rows L2 ZA
section
variable {X : Cx} {K : PySem.W.Frag}
end
section
variable {K : PySem.W.Frag} {H : Hp} {Q : VK}
end
end Z

set_option Elab.async false
set_option linter.all false
set_option maxRecDepth 100000
set_option maxHeartbeats 1000000
/-! an error out of a comprehension's element, which a callee raised -/
namespace ZA
open PySem PySem.Spec PyProof.Rows L2
section
variable {X : Cx} {pins : List (Addr × Obj)} {σ : L2.St} {H H3 : Hp} {s s' s3 : Shared} {E : XK} {fp : List Addr} {ce : Env} {scope : Scope}
/-- a block's context, where errors go out -/
abbrev blkE (X : Cx) (s : Shared) (H : Hp) (scope : Scope) (cenv : Env) (fp : List Addr) (xe : Value → Shared → Prop) : Cx := { X with s_0 := s, H_0 := H, env := cenv, outer := X.stack, ex := fp, fn := fun x => scope.names.lookup x == some .cell, pn := [], xe := xe }
end

section
variable {X : Cx}
end
end ZA

set_option Elab.async false
set_option linter.all false
set_option maxRecDepth 100000
set_option maxHeartbeats 1000000
/-! dicts with tuple keys: made by a comprehension -/
namespace ZA
open PySem PySem.Spec PyProof.Rows L2
section
variable {X : Cx}
def tDcT (wi : TI) (g : TG) (tt : TT) (tk tv : TE) (vs : List Nat) : TE := fun σ H Q => wi σ H fun J H1 => ∀ D, H1 D = none → ∃ W : Nat → Nat → Hp → Prop, (∃ m, W 0 m (upd H1 D (.dT []))) ∧ ∀ i m H, W i m H →
  (J.stop i H ∧ Q (.ref D) H) ∨ (J.go i H ∧ ∃ Nx : Hp → Prop, (∀ H', Nx H' → ∃ m', m' < m ∧ W (i + 1) m' H') ∧ ∀ x H', J.yld i H x H' → g x (wipe σ vs) H' fun σ2 H2 => wipe σ2 vs = wipe σ vs ∧ tt σ2 H2 fun b H3 =>
    if b = true then tk σ2 H3 fun y H4 => tv σ2 H4 fun z H5 => ∃ (kvs : List (List L2.Key × V)) (k : List L2.Key) (b : Addr), y = .ref b ∧ H5 b = some (.tup (k.map kV)) ∧ H5 D = some (.dT kvs) ∧ kvs.length < sizeLine ∧ Nx (upd H5 D (.dT (putK kvs k z))) else Nx H3)
end
end ZA

set_option Elab.async false
set_option linter.all false
set_option maxRecDepth 100000
set_option maxHeartbeats 1000000
/-! dict(xs) of a list of pairs whose keys are tuples -/
namespace ZA
open PySem PySem.Spec PyProof.Rows L2
def mergeT (kvs more : List (List L2.Key × V)) : List (List L2.Key × V) := more.foldl (fun acc kv => putK acc kv.1 kv.2) kvs
def rDictPT (K : PySem.W.Frag) : List V → Hp → VK → Prop := fun xs H Q => ∃ (a : Addr) (ps : List Addr) (kvs : List (List L2.Key × V)), xs = [.ref a] ∧ SqL K H a (ps.map V.ref) ∧ Paired (fun p kv => ∃ b, SqT K H p [.ref b, kv.2] ∧ H b = some (.tup (kv.1.map kV))) ps kvs ∧
  ∀ p, H p = none → Q (.ref p) (upd H p (.dT (mergeT [] kvs)))
section
variable {X : Cx}
end
end ZA

set_option Elab.async false
set_option linter.all false
set_option maxRecDepth 100000
set_option maxHeartbeats 1000000
/-! dicts whose keys are pairs of texts: their readings -/
namespace ZA
open PySem PySem.Spec PyProof.Rows L2 Z
/-- such a dict, all values True -/
def pT (ps : List (Str × Str)) : List (List L2.Key × V) := ps.map fun p => ([.inr p.1, .inr p.2], .bl true)
def adP (ps : List (Str × Str)) (p : Str × Str) : List (Str × Str) := if p ∈ ps then ps else ps ++ [p]
section
variable {K : PySem.W.Frag} {σ : L2.St} {H H0 : Hp} {tl tk tv : TE} {tt : TT} {g : TG} {Q : VK} {a : Addr} {xs : List V}
def DcST (D : Addr) (Pv : Nat → List (Str × Str) → Hp → Prop) (i : Nat) (H : Hp) : Prop := ∃ ps, H D = some (.dT (pT ps)) ∧ Pv i ps H
def rDcET (D : Addr) (Pv : Nat → List (Str × Str) → Hp → Prop) (i : Nat) (y z : V) (H5 : Hp) : Prop := ∃ (kvs : List (List L2.Key × V)) (k : List L2.Key) (b : Addr), y = .ref b ∧ H5 b = some (.tup (k.map kV)) ∧ H5 D = some (.dT kvs) ∧ kvs.length < sizeLine ∧ DcST D Pv (i + 1) (upd H5 D (.dT (putK kvs k z)))
def rDcAT (K : PySem.W.Frag) (g : TG) (tt : TT) (tk tv : TE) (vs : List Nat) (σ : L2.St) (Q : VK) (x : V) (H1 : Hp) : Prop := ∃ a xs, x = .ref a ∧ WkA K H1 a xs (YAt xs) fun J => ∀ D, H1 D = none → ∃ W : Nat → Nat → Hp → Prop, (∃ m, W 0 m (upd H1 D (.dT []))) ∧ ∀ i m H, W i m H →
  (J.stop i H ∧ Q (.ref D) H) ∨ (J.go i H ∧ ∃ Nx : Hp → Prop, (∀ H', Nx H' → ∃ m', m' < m ∧ W (i + 1) m' H') ∧ ∀ x H', J.yld i H x H' → g x (wipe σ vs) H' fun σ2 H2 => wipe σ2 vs = wipe σ vs ∧ tt σ2 H2 fun b H3 =>
    if b = true then tk σ2 H3 fun y H4 => tv σ2 H4 fun z H5 => ∃ (kvs : List (List L2.Key × V)) (k : List L2.Key) (b : Addr), y = .ref b ∧ H5 b = some (.tup (k.map kV)) ∧ H5 D = some (.dT kvs) ∧ kvs.length < sizeLine ∧ Nx (upd H5 D (.dT (putK kvs k z))) else Nx H3)
end
section
variable {X : Cx}
end
end ZA

set_option Elab.async false
set_option linter.all false
set_option maxRecDepth 100000
set_option maxHeartbeats 1000000
/-! [.. for x in o for y in o] over own objects that are walked by their tuple -/
namespace ZA
open PySem PySem.Spec PyProof.Rows L2 Z
section
variable {K : PySem.W.Frag} {C : Addr} {sp : Nat → Sp} {σ : L2.St} {H : Hp} {tl tl1 te : TE} {tt tt1 : TT} {g g1 : TG} {Q : VK} {a t : Addr} {xs : List V}
def rLcInO (K : PySem.W.Frag) (C : Addr) (sp : Nat → Sp) (D : Addr) (Nx : Hp → Prop) (g1 : TG) (tt1 : TT) (te : TE) (vs1 : List Nat) (σ2 : L2.St) (x : V) (H4 : Hp) : Prop := ∃ a t ys, x = .ref a ∧ OwnT K C sp a t ys H4 ∧ ∃ W1 : Nat → Nat → Hp → Prop, (∃ m, W1 0 m H4) ∧ ∀ j k H, W1 j k H →
  ((Itt K t).stop j H ∧ Nx H) ∨ ((Itt K t).go j H ∧ ∃ Nx1 : Hp → Prop, (∀ H', Nx1 H' → ∃ k', k' < k ∧ W1 (j + 1) k' H') ∧ ∀ x H', (Itt K t).yld j H x H' → g1 x (wipe σ2 vs1) H' fun σ3 H5 => wipe σ3 vs1 = wipe σ2 vs1 ∧ tt1 σ3 H5 fun b H6 =>
    if b = true then te σ3 H6 fun y H7 => ∃ acc, H7 D = some (.lst acc) ∧ acc.length < sizeLine ∧ Nx1 (upd H7 D (.lst (acc ++ [y]))) else Nx1 H6)
def rLc2O (K : PySem.W.Frag) (C : Addr) (sp : Nat → Sp) (g : TG) (tt : TT) (tl1 : TE) (g1 : TG) (tt1 : TT) (te : TE) (vs vs1 : List Nat) (σ : L2.St) (Q : VK) (x : V) (H1 : Hp) : Prop := ∃ a t ys, x = .ref a ∧ OwnT K C sp a t ys H1 ∧ ∀ D, H1 D = none → ∃ W : Nat → Nat → Hp → Prop, (∃ m, W 0 m (upd H1 D (.lst []))) ∧ ∀ i m H, W i m H →
  ((Itt K t).stop i H ∧ Q (.ref D) H) ∨ ((Itt K t).go i H ∧ ∃ Nx : Hp → Prop, (∀ H', Nx H' → ∃ m', m' < m ∧ W (i + 1) m' H') ∧ ∀ x H', (Itt K t).yld i H x H' → g x (wipe σ vs) H' fun σ2 H2 => wipe σ2 vs = wipe σ vs ∧ tt σ2 H2 fun b H3 =>
    if b = true then tl1 σ2 H3 fun x1 H4 => rLcInO K C sp D Nx g1 tt1 te vs1 σ2 x1 H4 else Nx H3)
end
end ZA

set_option Elab.async false
set_option linter.all false
set_option maxRecDepth 100000
set_option maxHeartbeats 1000000
/-! (x,) * n; dict of pairs with tuple keys in blocks -/
namespace ZA
open PySem PySem.Spec PyProof.Rows L2 Z
/-- (x,) * k -/
def rMulT1 (K : PySem.W.Frag) : R2 := fun x y H Q => ∃ (a : Addr) (v : V) (k : Nat), x = .ref a ∧ y = .int k ∧ H a = some (.tup [v]) ∧ 1 ≤ k ∧ k ≤ 1000 ∧ (k = 1 → Q (.ref a) H) ∧ (2 ≤ k → ∀ p, H p = none → Q (.ref p) (upd H p (.tup (List.replicate k v))))
section
variable {X : Cx}
end
end ZA

set_option Elab.async false
set_option linter.all false
set_option maxRecDepth 100000
set_option maxHeartbeats 1000000
/-! a lambda with one parameter, called where it was made -/
namespace ZB
open PySem PySem.Spec PyProof.Rows L2 LamX Z
/-- a lambda's names: its parameter y, captured names, globals -/
structure LamP (sc scope : Scope) (y : Str) : Prop where
  fn : scope.kind = .function
  nco : scope.isCoroutine = false
  ngen : scope.isGenerator = false
  par : scope.names.lookup y = some .local
  own : ∀ z ∈ scope.names, z.2 ≠ .cell ∧ (z.2 = .local → z.1 = y)
  cap : ∀ z ∈ scope.names, z.2 = .free → sc.names.lookup z.1 = some .cell ∨ sc.names.lookup z.1 = some .free
def lamPB (sc scope : Scope) (y : Str) : Bool :=
  decide (scope.kind = .function) && (!scope.isCoroutine && (!scope.isGenerator && (decide (scope.names.lookup y = some .local) &&
    scope.names.all fun z => (!decide (z.2 = .cell) && (!decide (z.2 = .local) || decide (z.1 = y))) && ((!decide (z.2 = .free) || decide (sc.names.lookup z.1 = some .cell)) || decide (sc.names.lookup z.1 = some .free)))))
theorem lamP_by {sc scope : Scope} {y : Str} (h : lamPB sc scope y = true) : LamP sc scope y := by
  unfold lamPB at h
  simp only [Bool.and_eq_true, Bool.or_eq_true, Bool.not_eq_true', decide_eq_true_eq, decide_eq_false_iff_not, List.all_eq_true] at h
  obtain ⟨a1, a2, a3, a4, a5⟩ := h
  refine ⟨a1, a2, a3, a4, fun z hz => ⟨(a5 z hz).1.1, fun e => ?_⟩, fun z hz e => ?_⟩
  · rcases (a5 z hz).1.2 with g | g
    · exact absurd e g
    · exact g
  · rcases (a5 z hz).2 with (g | g) | g
    · exact absurd e g
    · exact .inl g
    · exact .inr g
theorem LamP.has {X : Cx} {scope : Scope} {y : Str} (L : LamP X.env.scope scope y) (ok : X.Ok) : ∀ z ∈ scope.names, z.2 = .free → ∃ c, X.env.cells.lookup z.1 = some c :=
  fun z hz e => (L.cap z hz e).elim (fun g => ok.has _ (.inl g)) fun g => ok.has _ (.inr g)
theorem clo_of {X : Cx} {scope : Scope} (hf : ∀ z ∈ scope.names, z.2 = .free → ∃ c, X.env.cells.lookup z.1 = some c) {y : Str} {c : Addr} (e : (cloFrom X.env.cells scope.names []).lookup y = some c) : X.env.cells.lookup y = some c := by
  rcases cloFrom_mem (PySem.mem_of_lookup e) with g | ⟨g1, g2⟩
  · cases g
  · obtain ⟨d, hd⟩ := hf _ g1 rfl
    have hd : X.env.cells.lookup y = some d := hd
    rw [show c = d from by rw [g2, hd] <;> rfl]
    exact hd
/-- the context of its body -/
def parCx (X : Cx) (A : Around) (outer : List Env) (s : Shared) (H : Hp) (E : XK) (scope : Scope) (f c' : Addr) (y : Str) : Cx := { lamCx X A outer s H E scope f c' with N := X.N ++ [y] }
section
variable {X : Cx} {pins : List (Addr × Obj)} {σ : L2.St} {H : Hp} {s : Shared} {A : Around} {outer : List Env} {E : XK} {scope : Scope} {f c' : Addr} {y : Str}
theorem par_start {x : V} {v : Value} {h1 : Heap} {tk : Nat} (I : Inv X pins σ H s) (L : LamP X.env.scope scope y) (hy : y ∉ X.N) (e0 : Env0 X.prog X.w X.K X.mg X.base A outer s H) (hd : A.handled = none) (rx : RelV x v)
    (hns : h1.Ns s.heap.objs.size fun z => ([(y, v)] : List (Str × Value)).reverse.lookup z) (kp : ∀ b o, s.heap.get? b = some o → h1.get? b = some o) :
    Inv (parCx X A outer s H E scope f c' y) [] (σ ++ [some x]) H { s with heap := h1, toks := tk } := by
  have hf := L.has I.ok
  have cm := fun {z : Str} {c : Addr} => clo_of (y := z) (c := c) hf
  have look : ∀ {z}, scope.names.lookup z = some .free → ∃ c, (cloFrom X.env.cells scope.names []).lookup z = some c := fun {z} g =>
    mem_lookup (cloFrom_has (cells := X.env.cells) (acc := []) (PySem.mem_of_lookup g))
  have noA : ∀ b : Addr, b ∉ (parCx X A outer s H E scope f c' y).ex := fun b z => by cases z
  have cellK : ∀ {c : Addr} {u : Option Value}, s.heap.IsCell c u → h1.IsCell c u := fun {c u} ⟨o, ho, hd⟩ => ⟨o, kp _ _ ho, hd⟩
  have nocell : ∀ {z : Str}, scope.names.lookup z ≠ some .cell := fun {z} g => (L.own _ (PySem.mem_of_lookup g)).1 rfl
  refine ⟨⟨I.ok.mod, L.fn, rfl, rfl, Nat.le_refl _, fun a b c e1 e2 => I.ok.inj a b c (cm e1) (cm e2), fun z hz => ?_, fun z c g _ => ?_, fun _ => hd, Around.frames_deeper e0.frames, .inr ⟨rfl, rfl⟩, fun b z => absurd z (noA b), e0.bs, e0.bsz, fun b _ _ => noA b,
      fun b z => absurd z (noA b), e0.funs, e0.frf⟩, rfl, e0.bare, Un.kept kp, ⟨_, hns, fun i z u e1 e2 e3 => ?_⟩, fun z c e => ?_, e0.hok.fresh (Nat.le_refl _), fun z c e => ?_, fun q hq => absurd (show q ∈ ([] : List (Addr × Obj)) from hq) (by simp), e0.hok.kept kp, ?_⟩
  · rcases (hz : scope.names.lookup z = some .cell ∨ scope.names.lookup z = some .free) with g | g
    · exact absurd g nocell
    · exact look g
  · cases (g : false = true)
  · have e1 : (X.N ++ [y])[i]? = some z := e1
    have e3 : Vis scope z := e3
    have lN := I.len
    by_cases li : i < X.N.length
    · rw [List.getElem?_append_left li] at e1
      rw [List.getElem?_append_left (by omega)] at e2
      have nz : z ≠ y := fun g => hy (by rw [← g]; exact List.mem_of_getElem? e1)
      rcases e3 with g | g | g
      · exact absurd ((L.own _ (PySem.mem_of_lookup g)).2 rfl) nz
      · exact absurd g nocell
      · obtain ⟨m, hn, hl⟩ := I.loc
        have cp := L.cap _ (PySem.mem_of_lookup g) rfl
        obtain ⟨w', r, q⟩ := hl i z u e1 e2 (cp.elim (fun k => .inr (.inl k)) fun k => .inr (.inr k))
        obtain ⟨c2, h2⟩ := look g
        refine ⟨w', r, .inr ⟨.inr g, c2, h2, ?_⟩⟩
        rcases q with ⟨k, _⟩ | ⟨_, c3, e', k⟩
        · have k : X.env.scope.names.lookup z = some .local := k
          rcases cp with k2 | k2 <;> rw [show X.env.scope.names.lookup z = _ from k2] at k <;> cases k
        · rw [cm h2] at e'
          cases e'
          exact cellK k
    · have hl := (List.getElem?_eq_some_iff.mp e1).1
      rw [List.length_append, List.length_singleton] at hl
      have ei : i = X.N.length := by omega
      rw [List.getElem?_append_right (by omega), ei, Nat.sub_self] at e1
      rw [List.getElem?_append_right (by omega), ei, lN, Nat.sub_self] at e2
      cases e1
      cases e2
      exact ⟨v, rx, .inl ⟨L.par, by simp⟩⟩
  · obtain ⟨u, k⟩ := I.cell z c (cm e)
    exact ⟨u, cellK k⟩
  · exact I.freeC z c (cm e)
  · show (σ ++ [some x]).length = (X.N ++ [y]).length
    rw [List.length_append, List.length_append, I.len]
    rfl
end
end ZB

set_option Elab.async false
set_option linter.all false
set_option maxRecDepth 100000
set_option maxHeartbeats 1000000
/-! the call of such a lambda; sorted(xs, key=lambda) -/
namespace ZB
open PySem PySem.Spec PyProof.Rows L2 LamX Z
section
variable {X : Cx} {pins : List (Addr × Obj)} {σ : L2.St} {H : Hp} {s : Shared} {A : Around} {outer : List Env} {E : XK} {scope : Scope} {f c' : Addr} {y : Str}
theorem par_call {x : V} {v pm ctv : Value} {params : Arguments} {body : Expr} {k : Nat} {tb : TE} {Q : VK} (I : Inv X pins σ H s) (L : LamP X.env.scope scope y) (hy : y ∉ X.N) (e0 : Env0 X.prog X.w X.K X.mg X.base A outer s H) (rx : RelV x v)
    (hf : s.heap.get? f = some (PySem.W.kla_obj "<lambda>" (X.env.qual ++ "<lambda>") params body scope (cloFrom X.env.cells scope.names []) pm c' ctv)) (hc : H c' = some (CodeO c' (X.env.qual ++ "<lambda>")))
    (hb : bindArgs (PySem.W.kla_fn "<lambda>" (X.env.qual ++ "<lambda>") params body scope (cloFrom X.env.cells scope.names []) pm (.ref c') ctv) ⟨[v], []⟩ = pure [(y, v)]) (hr : Room (k + 1) A)
    (hbody : Room k (A.deeper (lamEnv X scope s.heap.objs.size f c')) → PE (parCx X A outer s H E scope f c' y) body tb) (ht : tb (σ ++ [some x]) H Q) :
    codeAny (model X.prog X.w) A (.call (.ref f) ⟨[v], []⟩) (CR (L2.CX X.prog X.w) outer X.prog X.w H s Q E) s := by
  obtain ⟨⟨oc, vs, t, h1, h2, h3⟩, _, _⟩ := I.hok c' _ hc
  refine PySem.W.kla_callFunE hr.depth hf rfl L.nco L.ngen rfl ⟨c', oc, vs, t, rfl, h1, h2, h3⟩ ?_
  rw [hb]
  refine wpAny_pure (wpAny_newFunctionEnv (fun z hz => (L.own z hz).1) (fun z hz => by rw [List.mem_singleton.mp hz]; exact L.par) (fun g hns hsb => ⟨I.nolimit.fresh _ hsb, ?_⟩) L.fn)
  show codeAny _ _ (.expr body (lamEnv X scope s.heap.objs.size f c')) _ _
  have kp : ∀ b o, s.heap.get? b = some o → g.get? b = some o := fun b o e => hsb.extBut b o (Nat.ne_of_lt (Heap.lt_size e)) (Heap.get?_push_of_some _ e)
  have J : Inv (parCx X A outer s H E scope f c' y) [] (σ ++ [some x]) H { s with heap := g, toks := s.toks + ([(y, v)] : List (Str × Value)).length } := par_start I L hy e0 hr.hd rx hns kp
  refine PySem.W.kla_codeExpr (wpAny_mono ((hbody (hr.deeper _)).run [] _ _ H Q J ht) (fun u s' q => ?_) fun _ _ q => q)
  obtain ⟨w', H', J', rv, q⟩ := q
  exact ⟨w', H', J'.os, J'.bare, J'.base, J'.hok, rv, q⟩
end
end ZB

set_option Elab.async false
set_option linter.all false
set_option maxRecDepth 100000
set_option maxHeartbeats 1000000
/-! sorted(xs, key=lambda): the sort's own lists beside the invariant -/
namespace ZB
open PySem PySem.Spec PyProof.Rows L2 LamX Z
section
variable {X : Cx} {pins pl : List (Addr × Obj)} {σ : L2.St} {H : Hp} {s : Shared} {kS a : Addr} {o o' oa : Obj} {h' : Heap} {t' : Nat}
theorem pin_cell {p : Addr × Obj} (I : Inv X pins σ H s) (hp : p ∈ pins) : ∀ z c, X.env.cells.lookup z = some c → c ≠ p.1 := fun z c e g => by
  obtain ⟨h1, _, _, _, h5⟩ := I.pin p (List.mem_append_right _ hp)
  obtain ⟨v, u, hu, hd⟩ := I.cell z c e
  rw [g, h1] at hu
  cases hu
  exact h5 _ hd
theorem repin (I : Inv X (pins ++ (kS, o) :: pl) σ H s) (k : ∀ b u, b ≠ kS → s.heap.get? b = some u → h'.get? b = some u) (hk : h'.get? kS = some o') (hd : ∀ v, o'.data ≠ .cell v) (h1 : X.s_0.heap.objs.size ≤ kS)
    (h3 : ∀ p ∈ X.pn ++ pins, p.1 ≠ kS) (h4 : ∀ p ∈ pl, p.1 ≠ kS) : Inv X (pins ++ (kS, o') :: pl) σ H { s with heap := h', toks := t' } := by
  have mk : (kS, o) ∈ pins ++ (kS, o) :: pl := List.mem_append_right _ List.mem_cons_self
  obtain ⟨e1, e2, e3, e4, e5⟩ := I.pin _ (List.mem_append_right _ mk)
  have sub : ∀ p ∈ pins ++ pl, p ∈ pins ++ (kS, o) :: pl := fun p hp => (List.mem_append.mp hp).elim (fun g => List.mem_append_left _ g) fun g => List.mem_append_right _ (List.mem_cons_of_mem _ g)
  have I1 : Inv X (pins ++ pl) σ H s := I.pins_of fun p hp => I.pin p (List.mem_append_right _ (sub p hp))
  have I2 : Inv X (pins ++ pl) σ H { s with heap := h', toks := t' } := I1.turned k e2 e3 (.inr h1) (pin_cell I mk) fun p hp => by
    rcases List.mem_append.mp hp with g | g
    · exact h3 p (List.mem_append_left _ g)
    · rcases List.mem_append.mp g with g | g
      · exact h3 p (List.mem_append_right _ g)
      · exact h4 p g
  refine I2.pins_of fun p hp => ?_
  rcases List.mem_append.mp hp with g | g
  · exact I2.pin p (List.mem_append_right _ (List.mem_append_left _ g))
  · rcases List.mem_cons.mp g with rfl | g
    · exact ⟨hk, e2, e3, e4, hd⟩
    · exact I2.pin p (List.mem_append_right _ (List.mem_append_right _ g))
theorem untrack {its : List Value} {n : Nat} {ys : List V} (I : Inv X (pins ++ [(kS, o), (a, oa)]) σ H s) (k : ∀ b u, b ≠ a → b ≠ kS → s.heap.get? b = some u → h'.get? b = some u)
    (ha : h'.get? a = some { cls := .type "list", data := .seq its.toArray n }) (rv : Vals ys its) (hz : ys.length ≤ sizeLine) (h1 : X.s_0.heap.objs.size ≤ kS) (h2 : X.s_0.heap.objs.size ≤ a)
    (h3 : ∀ p ∈ X.pn ++ pins, p.1 ≠ kS) (h4 : ∀ p ∈ X.pn ++ pins, p.1 ≠ a) : Inv X pins σ (upd H a (.lst ys)) { s with heap := h', toks := t' } := by
  have m1 : (kS, o) ∈ pins ++ [(kS, o), (a, oa)] := List.mem_append_right _ List.mem_cons_self
  have m2 : (a, oa) ∈ pins ++ [(kS, o), (a, oa)] := List.mem_append_right _ (List.mem_cons_of_mem _ List.mem_cons_self)
  obtain ⟨e1, e2, e3, e4, e5⟩ := I.pin _ (List.mem_append_right _ m1)
  obtain ⟨g1, g2, g3, g4, g5⟩ := I.pin _ (List.mem_append_right _ m2)
  have I1 : Inv X pins σ H s := I.pins_of fun p hp => I.pin p (List.mem_append_right _ (List.mem_append_left _ hp))
  have na : ∀ {b : Addr} {u : HO}, H b = some u → b ≠ a := fun e => ne_of_none e g2
  have nk : ∀ {b : Addr} {u : HO}, H b = some u → b ≠ kS := fun e => ne_of_none e e2
  have ne : ∀ {b : Addr} {u : HO}, H b = some u → upd H a (.lst ys) b = some u := fun {b u} e => by rw [upd_ne (na e)]; exact e
  have nch : ∀ {b : Addr}, b ∉ [kS, a] → b ≠ a ∧ b ≠ kS := fun {b} h => ⟨fun z => h (by rw [z]; simp), fun z => h (by rw [z]; simp)⟩
  refine I1.step (g' := s.gens) (d' := s.drawn) (ch := [kS, a]) (fun b hb => ?_) (fun b u _ _ hc e _ => k b u (nch hc).1 (nch hc).2 e) (fun b u _ _ hc e _ => ⟨u.slots, k b u (nch hc).1 (nch hc).2 e⟩)
    (fun b u hc _ n => by rw [upd_ne (nch hc).1]; exact n) (fun b u hc e => ⟨u, k b u (nch hc).1 (nch hc).2 e⟩) (fun b xs e => ne e) (fun b u w e => ne e) (fun b ps e => ⟨#[], by rw [ne e]; simp⟩) (fun m hm => ?_) (fun b u e => ?_) I.bare
  · rcases List.mem_cons.mp hb with rfl | hb
    · exact ⟨.inr h1, e3, pin_cell I m1, h3⟩
    · rw [List.mem_singleton.mp hb]
      exact ⟨.inr h2, g3, pin_cell I m2, h4⟩
  · obtain ⟨u, es, ep, hu, r⟩ := hm
    exact ⟨u, es, ep, k _ u (Ne.symm g3) (Ne.symm e3) hu, r⟩
  · by_cases hb : b = a
    · subst hb
      rw [upd_same] at e
      cases e
      exact ⟨hz, its, n, rv, ha⟩
    · rw [upd_ne hb] at e
      refine (I.hok b u e).stay (fun c v hc q => ?_) (fun c q => ne q) fun c xs q => ne q
      rcases hc with z | z
      · rw [z] at q ⊢
        exact k _ v (na e) (nk e) q
      · exact k _ v (na z) (nk z) q
end
end ZB

set_option Elab.async false
set_option linter.all false
set_option maxRecDepth 100000
set_option maxHeartbeats 1000000
/-! sorted(xs, key=lambda): the keys made one by one, the end -/
namespace ZB
open PySem PySem.Spec PyProof.Rows L2 LamX Z
/-- the things in the order of their keys -/
def srtK (k : V → Int) (xs : List V) : List V := xs.mergeSort fun x y => decide (k x ≤ k y)
theorem srtK_perm (k : V → Int) (xs : List V) : (srtK k xs).Perm xs := List.mergeSort_perm _ _
theorem srtK_pw (k : V → Int) (xs : List V) : (srtK k xs).Pairwise fun x y => k x ≤ k y := by
  have h := List.pairwise_mergeSort (le := fun x y => decide (k x ≤ k y)) (fun a b c h1 h2 => by
    have := of_decide_eq_true h1
    have := of_decide_eq_true h2
    exact decide_eq_true (by omega)) (fun a b => by
    rw [Bool.or_eq_true, decide_eq_true_eq, decide_eq_true_eq]
    omega) xs
  exact h.imp fun h => of_decide_eq_true h
theorem tk1 {α : Type} {N : List α} {i : Nat} {n : α} (h : N[i]? = some n) : N.take (i + 1) = N.take i ++ [n] := by
  rw [List.take_add_one, h]
  rfl
theorem each_vals : ∀ {xs : List V} {vs : List Value}, Vals xs vs → PySem.W.EachIs (fun (v : Value) (x : V) => RelV x v) vs xs
  | _, _, .nil => .nil
  | _, _, .cons r t => .cons r (each_vals t)
theorem vals_each : ∀ {vs : List Value} {xs : List V}, PySem.W.EachIs (fun (v : Value) (x : V) => RelV x v) vs xs → Vals xs vs
  | _, _, .nil => .nil
  | _, _, .cons r t => .cons r (vals_each t)
theorem ints_reads {h : Heap} : ∀ {vs : List Value} {ns : List Int}, IntsAre vs ns → PySem.W.EachIs (fun (v : Value) (d : PyData) => ∃ as, Reads h v d as) vs (ns.map PyData.int)
  | _, _, .nil => .nil
  | _, _, .cons n t r => .cons ⟨[], .int n t⟩ (ints_reads r)
section
variable {X : Cx} {pins : List (Addr × Obj)} {σ : L2.St} {H : Hp} {s : Shared} {A : Around} {E : Value → Shared → Prop} {kS a : Addr} {fv : Value} {vs : List Value} {xs : List V} {k : V → Int} {e1 : Nat} {ok : Hp → Prop} {P : PySem.Fin → Shared → Prop}
theorem end_run {kA : Array Value} {e : Nat} (I : Inv X (pins ++ [(kS, seqObj "list" kA e), (a, seqObj "list" #[] e1)]) σ H s) (rv : Vals xs vs) (hz : vs.length ≤ 1000) (hka : kS ≠ a) (h1 : X.s_0.heap.objs.size ≤ kS) (h2 : X.s_0.heap.objs.size ≤ a)
    (h3 : ∀ p ∈ X.pn ++ pins, p.1 ≠ kS) (h4 : ∀ p ∈ X.pn ++ pins, p.1 ≠ a) (hk : IntsAre kA.toList (xs.map k)) (hu : A.units < cLine)
    (h : ∀ h' tk, Inv X pins σ (upd H a (.lst (srtK k xs))) { s with heap := h', toks := tk } → P (.done (.ret .none)) { s with heap := h', toks := tk }) :
    wpAny (model X.prog X.w) A (ksk_end a false vs.toArray e1 (.ref kS) kA) P E s := by
  have nk := (I.pin (kS, seqObj "list" kA e) (List.mem_append_right _ (List.mem_append_right _ List.mem_cons_self))).1
  have na := (I.pin (a, seqObj "list" #[] e1) (List.mem_append_right _ (List.mem_append_right _ (List.mem_cons_of_mem _ List.mem_cons_self)))).1
  have lx := rv.length
  have lk : kA.size = vs.length := by
    have := hk.length
    rw [Array.length_toList, List.length_map] at this
    omega
  have sL : (1000 : Nat) < sizeLine := by rw [sizeLine_eq]; decide
  have al : PySem.W.AllAlike (xs.map fun x => PyData.int (k x)) := PySem.W.AllAlike.of fun _ _ => by simp [PySem.W.alike]
  have er : PySem.W.EachIs (fun (v : Value) (d : PyData) => ∃ as, Reads s.heap v d as) kA.toList (xs.map fun x => PyData.int (k x)) := by
    have := ints_reads (h := s.heap) hk
    rw [List.map_map] at this
    exact this
  let hk0 : Heap := hidT s.heap fun b => if b = kS then some (.lst []) else none
  have k0 : ∀ b o, hk0.get? b = some o → s.heap.get? b = some o ∧ b ≠ kS := fun b o e => by
    obtain ⟨g1, g2⟩ := of_hidT e
    refine ⟨g1, fun z => ?_⟩
    rw [if_pos z] at g2
    cases g2
  refine PySem.W.keyH_end (h₁ := hk0) (κ := PySem.W.dataKind s.heap (xs.map fun x => PyData.int (k x))) (fun b o _ e => (k0 b o e).1) ?_ nk na hka (PySem.W.SortsAt.data er al (PySem.W.Sortable.others fun _ => ⟨(fun z => by cases z), (fun _ z => by cases z)⟩) fun d hd => ?_) lk (by omega) fun h' tk c kp hc => h h' tk ?_
  · cases g : hk0.get? kS with
    | none => rfl
    | some o => exact absurd rfl (k0 _ _ g).2
  · obtain ⟨x, _, rfl⟩ := List.mem_map.mp hd
    exact hu
  · have ko : PySem.W.EachIs (fun (v : Value) (x : V) => RelV x v) (PySem.W.sortVals (PySem.W.dataKind s.heap (xs.map fun x => PyData.int (k x))) false kA.toList vs) (xs.mergeSort (PySem.W.dataLe false fun x => PyData.int (k x))) :=
      PySem.W.keyedOut_each (fun x => PyData.int (k x)) ⟨s.heap, kA.toList, al, rfl, er⟩ (each_vals rv)
    rw [PySem.W.dataLe_int] at ko
    refine untrack I (fun b u n1 n2 e => kp b u n1 (hidT_get e (by rw [if_neg n2]))) hc (vals_each ko) ?_ h1 h2 h3 h4
    rw [(srtK_perm k xs).length_eq]
    omega
theorem rest_run (I : Inv X (pins ++ [(kS, seqObj "list" #[] 0), (a, seqObj "list" #[] e1)]) σ H s) (ok0 : ok H) (rv : Vals xs vs) (hz : vs.length ≤ 1000) (hka : kS ≠ a) (h1 : X.s_0.heap.objs.size ≤ kS) (h3 : ∀ p ∈ X.pn ++ pins, p.1 ≠ kS)
    (turn : ∀ x ∈ xs, ∀ v, RelV x v → ∀ (pl : List (Addr × Obj)) (s : Shared) (H : Hp), Inv X (pins ++ pl) σ H s → ok H → wpAny (model X.prog X.w) A (call fv [v]) (EP X (pins ++ pl) σ fun r H' => r = .int (k x) ∧ ok H') (fun _ _ => False) s)
    (h : ∀ s' H' kA e, Inv X (pins ++ [(kS, seqObj "list" kA e), (a, seqObj "list" #[] e1)]) σ H' s' → ok H' → IntsAre kA.toList (xs.map k) → wpAny (model X.prog X.w) A (ksk_end a false vs.toArray e1 (.ref kS) kA) P E s') :
    wpAny (model X.prog X.w) A (ksk_rest a fv false vs.toArray e1 (.ref kS)) P E s := by
  have lx := rv.length
  have sL : (1000 : Nat) < sizeLine := by rw [sizeLine_eq]; decide
  unfold ksk_rest
  refine wpAny_bind (wpAny_rule ?_)
  first
    | rw [List.forIn_toArray]
    | (rw [← Array.forIn_toList]; simp only [List.toList_toArray])
  refine wpAny_bind (ksk_fold (fun i s' => ∃ H' kA e, Inv X (pins ++ [(kS, seqObj "list" kA e), (a, seqObj "list" #[] e1)]) σ H' s' ∧ ok H' ∧ IntsAre kA.toList ((xs.map k).take i)) vs 0 s ⟨H, #[], 0, I, ok0, by rw [List.take_zero]; exact .nil⟩ ?_ ?_)
  · rintro j u s' hu ⟨H', kA, e, I', ok', hk⟩
    rw [Nat.zero_add] at hk ⊢
    have hj : j < vs.length := (List.getElem?_eq_some_iff.mp hu).1
    have hx : xs[j]? = some (xs[j]'(by omega)) := List.getElem?_eq_getElem _
    obtain ⟨u', hu', rx⟩ := rv.get hx
    rw [hu] at hu'
    cases hu'
    have xm := List.mem_of_getElem? hx
    generalize xs[j]'(by omega) = x at *
    have lk : kA.size ≤ 1000 := by
      have := hk.length
      rw [Array.length_toList, List.length_take, List.length_map] at this
      omega
    refine wpAny_bind (wpAny_attempt (wpAny_mono (turn x xm u rx _ _ H' I' ok') (fun w s2 he => ?_) fun _ _ z => z.elim))
    obtain ⟨r, H2, I2, rr, rfl, ok2⟩ := he
    obtain ⟨t, rfl⟩ := rr
    try dsimp only
    have nk := (I2.pin (kS, seqObj "list" kA e) (List.mem_append_right _ (List.mem_append_right _ List.mem_cons_self))).1
    have sb := Heap.SameBut.update s2.heap kS (Obj.mapSeq (·.push (Value.int (k x) t)))
    obtain ⟨c2, hc2⟩ : ∃ c2, (s2.heap.update kS (Obj.mapSeq (·.push (Value.int (k x) t)))).get? kS = some (seqObj "list" (kA.push (Value.int (k x) t)) c2) := ⟨_, get?_update_seq nk (·.push (Value.int (k x) t))⟩
    refine wpAny_bind (listUpdate_at nk rfl ?_ (by omega) (by rw [Array.size_push]; omega))
    refine wpAny_pure ⟨rfl, H2, kA.push (Value.int (k x) t), c2, repin (t' := s2.toks) I2 (fun b v nb q => (sb.2 b nb).trans q) hc2 (fun v z => by cases z) h1 h3 (fun p hp => by rw [List.mem_singleton.mp hp]; exact Ne.symm hka), ok2, ?_⟩
    rw [tk1 (show (xs.map k)[j]? = some (k x) by rw [List.getElem?_map, hx]; rfl), show (kA.push (Value.int (k x) t)).toList = kA.toList ++ [Value.int (k x) t] from by simp]
    exact ksk_snoc hk
  · rintro s' ⟨H', kA, e, I', ok', hk⟩
    rw [Nat.zero_add, List.take_of_length_le (by rw [List.length_map]; omega)] at hk
    have nk := (I'.pin (kS, seqObj "list" kA e) (List.mem_append_right _ (List.mem_append_right _ List.mem_cons_self))).1
    try dsimp only
    refine wpAny_bind (listItems_at nk rfl ?_)
    exact h s' H' kA e I' ok' hk
end
end ZB

set_option Elab.async false
set_option linter.all false
set_option maxRecDepth 100000
set_option maxHeartbeats 1000000
/-! sorted(xs, key=lambda): the whole call -/
namespace ZB
open PySem PySem.Spec PyProof.Rows L2 LamX Z
section
variable {X : Cx} {pins : List (Addr × Obj)} {σ : L2.St} {H : Hp} {s : Shared} {E : Value → Shared → Prop} {l : Addr} {fv : Value} {xs : List V} {k : V → Int} {ok : Hp → Prop} {Q : Value → Shared → Prop}
theorem sorted_run (I : Inv X pins σ H s) (hs : SqA X.K H l xs) (hz : xs.length ≤ 1000) (hu : X.A.in1.in1.units < cLine) (ok0 : ok H) (hkt : ∀ a, Builtin.«list.sort» ⟨[.ref a], [(Str.ofString "key", fv)]⟩ = ksk_tree a fv false)
    (turn : ∀ x ∈ xs, ∀ v, RelV x v → ∀ (pl : List (Addr × Obj)) (s : Shared) (H : Hp), Inv X (pins ++ pl) σ H s → ok H → wpAny (model X.prog X.w) X.A.in1.in1 (call fv [v]) (EP X (pins ++ pl) σ fun r H' => r = .int (k x) ∧ ok H') (fun _ _ => False) s)
    (h : ∀ (a : Addr) (H' : Hp) (s' : Shared), ok H' → H a = none → H' a = none → Inv X pins σ (upd H' a (.lst (srtK k xs))) s' → Q (.ref a) s') :
    wpAny (model X.prog X.w) X.A (call (.builtin "sorted") [.ref l] [(Str.ofString "key", fv)]) Q E s := by
  have sL : (1000 : Nat) < sizeLine := by rw [sizeLine_eq]; decide
  obtain ⟨its, o, n, T, rv, ho, hc, hT, hdt⟩ : ∃ (its : List Value) (o : Obj) (n : Nat) (T : String), Vals xs its ∧ s.heap.get? l = some o ∧ o.cls = .type T ∧ (T = "list" ∨ T = "tuple") ∧ o.data = .seq its.toArray n := by
    rcases hs with hd | hd
    · obtain ⟨its, rv, pl, _⟩ := I.list hd
      obtain ⟨o, g1, g2, n, g3⟩ := pl.isList
      exact ⟨its, o, n, _, rv, g1, g2, .inl rfl, g3⟩
    · obtain ⟨its, rv, ⟨o, g1, g2, n, g3⟩, _⟩ := I.tuple hd
      exact ⟨its, o, n, _, rv, g1, g2, .inr rfl, g3⟩
  have lx := rv.length
  refine call_function_entry_kw kind_sorted plain_sorted entry_sorted (ksk_s1 _ _) ?_
  unfold Builtin.«sorted»
  refine wpAny_bind (m := checkCount "sorted" 1 1 _) (wpAny_pure ?_)
  refine wpAny_bind (wpAny_collect_seq l hT ho hc hdt (fun g hk => ?_) (by rw [List.size_toArray]; omega))
  rw [show its.toArray.toList = its by simp]
  have I1 : Inv X pins σ H { s with heap := g } := I.kept (t' := s.toks) hk
  refine wpAny_bind (wpAny_newList ?_ (by omega))
  have hL : (g.push (seqObj "list" its.toArray 0)).get? g.objs.size = some (seqObj "list" its.toArray 0) := Heap.get?_push_size _ rfl
  show wpAny _ _ _ _ _ { s with heap := g.push (seqObj "list" its.toArray 0) }
  refine wpAny_bind (wpAny_holding (wpAny_call_entry_kw slot_list_sort ⟨_, hL, rfl⟩ entry_list_sort ?_ (ksk_l1 _ _)))
  rw [hkt]
  generalize ha : g.objs.size = a at *
  obtain ⟨e1, ho1⟩ : ∃ e1, ((g.push (seqObj "list" its.toArray 0)).update a (Obj.mapSeq fun _ => (#[] : Array Value))).get? a = some (seqObj "list" #[] e1) := ⟨_, get?_update_seq hL fun _ => #[]⟩
  unfold ksk_tree
  refine wpAny_bind (listItems_at hL rfl ?_)
  refine wpAny_bind (listUpdate_at hL rfl ?_ (by rw [List.size_toArray]; omega) (Nat.zero_le _))
  refine wpAny_bind (seqEpoch_at ho1 rfl ?_)
  refine wpAny_bind (wpAny_newTuple ?_ (by show its.length ≤ _; omega))
  refine wpAny_bind (wpAny_newList ?_ (Nat.zero_le _))
  refine wpAny_holding ?_
  show wpAny _ _ (ksk_rest a fv false its.toArray e1 (.ref (((g.push (seqObj "list" its.toArray 0)).update a (Obj.mapSeq fun _ => (#[] : Array Value))).push (seqObj "tuple" its.toArray.toList.toArray 0)).objs.size)) _ _
    { s with heap := (((g.push (seqObj "list" its.toArray 0)).update a (Obj.mapSeq fun _ => (#[] : Array Value))).push (seqObj "tuple" its.toArray.toList.toArray 0)).push (seqObj "list" #[] 0) }
  have z3 : (((g.push (seqObj "list" its.toArray 0)).update a (Obj.mapSeq fun _ => (#[] : Array Value))).push (seqObj "tuple" its.toArray.toList.toArray 0)).objs.size = a + 2 := by
    rw [size_push', Heap.size_update, size_push', ha]
  have kp : ∀ b u, g.get? b = some u → ((((g.push (seqObj "list" its.toArray 0)).update a (Obj.mapSeq fun _ => (#[] : Array Value))).push (seqObj "tuple" its.toArray.toList.toArray 0)).push (seqObj "list" #[] 0)).get? b = some u := fun b u e =>
    Heap.get?_push_of_some _ (Heap.get?_push_of_some _ (((Heap.SameBut.update (g.push (seqObj "list" its.toArray 0)) a (Obj.mapSeq fun _ => (#[] : Array Value))).2 b (fun z => by have h := Heap.lt_size e; rw [z, ← ha] at h; exact Nat.lt_irrefl _ h)).trans (Heap.get?_push_of_some _ e)))
  have I4 : Inv X pins σ H { s with heap := (((g.push (seqObj "list" its.toArray 0)).update a (Obj.mapSeq fun _ => (#[] : Array Value))).push (seqObj "tuple" its.toArray.toList.toArray 0)).push (seqObj "list" #[] 0) } := I1.kept (t' := s.toks) kp
  have gkS : ((((g.push (seqObj "list" its.toArray 0)).update a (Obj.mapSeq fun _ => (#[] : Array Value))).push (seqObj "tuple" its.toArray.toList.toArray 0)).push (seqObj "list" #[] 0)).get? (((g.push (seqObj "list" its.toArray 0)).update a (Obj.mapSeq fun _ => (#[] : Array Value))).push (seqObj "tuple" its.toArray.toList.toArray 0)).objs.size = some (seqObj "list" #[] 0) := Heap.get?_push_size _ rfl
  have ga : ((((g.push (seqObj "list" its.toArray 0)).update a (Obj.mapSeq fun _ => (#[] : Array Value))).push (seqObj "tuple" its.toArray.toList.toArray 0)).push (seqObj "list" #[] 0)).get? a = some (seqObj "list" #[] e1) := Heap.get?_push_of_some _ (Heap.get?_push_of_some _ ho1)
  rw [z3] at gkS ⊢
  generalize (((g.push (seqObj "list" its.toArray 0)).update a (Obj.mapSeq fun _ => (#[] : Array Value))).push (seqObj "tuple" its.toArray.toList.toArray 0)).push (seqObj "list" #[] 0) = g4 at *
  have la : X.s_0.heap.objs.size ≤ a := by rw [← ha]; exact I1.sz
  have na : H a = none := I1.hok.fresh (Nat.le_of_eq ha)
  have nS : H (a + 2) = none := I1.hok.fresh (show g.objs.size ≤ a + 2 by rw [ha]; exact Nat.le_add_right _ _)
  have lt := I1.lt
  have lt : X.env.locals < g.objs.size := lt
  have pl : ∀ p ∈ X.pn ++ pins, p.1 < a := fun p hp => by
    have := Heap.lt_size (I1.pin p hp).1
    rw [← ha]
    exact this
  have I5 : Inv X (pins ++ [(a + 2, seqObj "list" #[] 0), (a, seqObj "list" #[] e1)]) σ H { s with heap := g4 } := I4.pins_of fun p hp => by
    rcases List.mem_append.mp hp with hp | hp
    · exact I4.pin p (List.mem_append_right _ hp)
    · simp only [List.mem_cons, List.not_mem_nil, or_false] at hp
      rcases hp with rfl | rfl
      · exact ⟨gkS, nS, Ne.symm (Nat.ne_of_lt (Nat.lt_of_lt_of_le lt (by rw [ha]; exact Nat.le_add_right _ _))), I1.nofs (show g.objs.size ≤ a + 2 by rw [ha]; exact Nat.le_add_right _ _), fun v z => by cases z⟩
      · exact ⟨ga, na, Ne.symm (Nat.ne_of_lt (Nat.lt_of_lt_of_le lt (Nat.le_of_eq ha))), I1.nofs (Nat.le_of_eq ha), fun v z => by cases z⟩
  have n2 : ∀ p ∈ X.pn ++ pins, p.1 ≠ a + 2 := fun p hp => Nat.ne_of_lt (Nat.lt_of_lt_of_le (pl p hp) (Nat.le_add_right _ _))
  have n0 : ∀ p ∈ X.pn ++ pins, p.1 ≠ a := fun p hp => Nat.ne_of_lt (pl p hp)
  have l2 : X.s_0.heap.objs.size ≤ a + 2 := Nat.le_trans la (Nat.le_add_right _ _)
  have na2 : a + 2 ≠ a := Nat.ne_of_gt (Nat.lt_add_of_pos_right (by decide))
  have zi : its.length ≤ 1000 := by omega
  refine rest_run (k := k) (ok := ok) I5 ok0 rv zi na2 l2 n2 turn fun s' H' kA e I' ok' hk => ?_
  refine end_run I' rv zi na2 l2 la n2 n0 hk hu fun h' tk J => ⟨_, rfl, wpAny_pure ⟨_, rfl, h a H' _ ok' na ?_ J⟩⟩
  exact (I'.pin (a, seqObj "list" #[] e1) (List.mem_append_right _ (List.mem_append_right _ (List.mem_cons_of_mem _ List.mem_cons_self)))).2.1
end
end ZB

set_option Elab.async false
set_option linter.all false
set_option maxRecDepth 100000
set_option maxHeartbeats 1000000
/-! sorted(xs, key=lambda): the rule -/
namespace ZB
open PySem PySem.Spec PyProof.Rows L2 LamX Z
theorem extN_of {H H' : Hp} (s : Same H H') : ExtN H H' := fun b o e _ => s _ _ e
theorem rdN {H H' : Hp} {a : Addr} {u : HO} (e : ExtN H H') (n : ∀ ps, u ≠ .tbl ps) (h : Rd H a u) : Rd H' a u :=
  h.elim (fun g => .inl (e _ _ g n)) fun ⟨o, g⟩ => .inr ⟨o, e _ _ g fun ps z => by cases z⟩
theorem seqN {K : PySem.W.Frag} {H H' : Hp} {a : Addr} {xs : List V} (e : ExtN H H') (h : SqA K H a xs) : SqA K H' a xs :=
  h.elim (fun g => .inl (g.elim (fun r => .inl (rdN e (fun ps z => by cases z) r)) .inr)) fun g => .inr (g.elim (fun r => .inl (rdN e (fun ps z => by cases z) r)) .inr)
def rSortLam (K : PySem.W.Frag) (T : List (Addr × Str)) (tb : TE) (σ : L2.St) (Q : VK) (x : V) (H1 : Hp) : Prop := ∃ (a : Addr) (xs : List V) (k : V → Int), x = .ref a ∧ SqA K H1 a xs ∧ xs.length ≤ 1000 ∧ Tabs T H1 ∧
  ∀ H2, ExtN H1 H2 → Tabs T H2 → (∀ z ∈ xs, ∀ H3, Same H2 H3 → tb (σ ++ [some z]) H3 fun r H4 => r = .int (k z) ∧ Same H3 H4) ∧ ∀ q H3, H2 q = none → Same H2 H3 → H3 q = some (.lst (srtK k xs)) → Q (.ref q) H3
def tSortLam (K : PySem.W.Frag) (T : List (Addr × Str)) (te tb : TE) : TE := fun σ H Q => te σ H fun x H1 => rSortLam K T tb σ Q x H1
theorem i_sortLam {K : PySem.W.Frag} {T : List (Addr × Str)} {te tb : TE} {σ : L2.St} {H : Hp} {Q : VK} (h : te σ H fun x H1 => rSortLam K T tb σ Q x H1) : tSortLam K T te tb σ H Q := h
def oneArg (r : V → Hp → Prop) : List V → Hp → Prop := fun vs H => match vs with
  | [x] => r x H
  | _ => False
section
variable {X : Cx}
theorem pe_sortLam {T : List (Addr × Str)} {e body : Expr} {te tb : TE} {params : Arguments} {scope : Scope} {y : Str} {c P : Addr} {j : Nat} {p kp lpos pos : Pos} (hg : Gl X "sorted") (hm : X.mg "sorted" = none) (he : PA X [e] (tCons te tNil))
    (TB : TabB X.base X.mg c P) (hcode : X.env.code = .ref c) (hmT : (P, X.env.qual ++ "<lambda>") ∈ T) (hu : ∀ p ∈ T, p.1 = P → p.2 = X.env.qual ++ "<lambda>") (hr : Room (j + 3) X.A) (L : LamP X.env.scope scope y) (hy : y ∉ X.N) (hdef : defaultsOf params X.env = ([], []))
    (hbind : ∀ (q : Str) (cl : List (Str × Addr)) (pm cv ctv v : Value), bindArgs (PySem.W.kla_fn "<lambda>" q params body scope cl pm cv ctv) ⟨[v], []⟩ = pure [(y, v)])
    (hbody : ∀ (A : Around) (outer : List Env) (s : Shared) (H : Hp) (E : XK) (f c' : Addr), Room j (A.deeper (lamEnv X scope s.heap.objs.size f c')) → PE (parCx X A outer s H E scope f c' y) body tb)
    (he1 : backTo pos (starEach [e] X.env) = (false, eval e X.env) :: backTo pos (starEach [] X.env) := by rfl) (hp1 : (backTo pos (starEach [e] X.env)).any (·.1) = false := by rfl) :
    PE X (.Call (.Name "sorted" p) [e] [⟨some "key", .Lambda params body scope lpos, kp⟩] pos) (tSortLam X.K T te tb) := by
  refine ⟨fun pins s σ H Q I h => ?_⟩
  have h' : tCons te tNil σ H (oneArg fun x H1 => rSortLam X.K T tb σ Q x H1) := h
  refine wpAny_Call_Name_kw (ld_blt I hg hm (by rfl) ?_ (by decide) (by decide))
  refine callWith_kw (thn (he.run pos pins s σ H _ I h') fun us s1 ⟨vs, H1, I1, r1, q1⟩ => ?_) he1 hp1 (by rfl) (by rfl)
  obtain ⟨x, rfl⟩ : ∃ x, vs = [x] := by
    match vs, q1 with
    | [x], _ => exact ⟨x, rfl⟩
  obtain ⟨u, rfl, rx⟩ := vals1 r1
  obtain ⟨a, xs, k, rfl, hs, hz, hT, q2⟩ := q1
  cases rx
  show wpAny _ _ (evalAll [do let v ← eval (.Lambda params body scope lpos) X.env; standAt pos; pure v]) _ _ s1
  refine wpAny_evalAll_cons (wpAny_bind (lam_make2 I1 TB hcode hmT hu hT hdef (L.has I1.ok) fun f c' pm ctv H2 s2 I2 eN T2 hf hfn hfr hco => wpAny_bind (wpAny_standAt (wpAny_pure (wpAny_evalAll_nil ?_)))))
  obtain ⟨ht, hq⟩ := q2 H2 eN T2
  show wpAny _ _ (call (.builtin "sorted") [.ref a] [(Str.ofString "key", .ref f)]) _ _ s2
  have fs : f ∉ X.fs := fun z => by
    rcases I2.ok.stk with g | ⟨g, _⟩
    · exact hfr (by rw [g]; exact z)
    · refine hfr ?_
      rw [g]
      show f ∈ List.filterMap (fun e : Env => e.frame) (X.env :: X.outer)
      rw [List.filterMap_cons]
      split
      · exact z
      · exact List.mem_cons_of_mem _ z
  have fl : f ≠ X.env.locals := fun z => by
    obtain ⟨m, ⟨o, es, ep, ho, hd, _⟩, _⟩ := I2.loc
    rw [z, ho] at hf
    cases hf
    cases hd
  have I3 : Inv X (pins ++ [(f, PySem.W.kla_obj "<lambda>" (X.env.qual ++ "<lambda>") params body scope (cloFrom X.env.cells scope.names []) pm c' ctv)]) σ H2 s2 := I2.pins_of fun p hp => by
    rcases List.mem_append.mp hp with hp | hp
    · exact I2.pin p (List.mem_append_right _ hp)
    · rw [List.mem_singleton.mp hp]
      exact ⟨hf, hfn, fl, fs, fun v z => by cases z⟩
  have hr1 : Room (j + 1) X.A.in1.in1 := hr.in1.in1
  refine sorted_run (k := k) (ok := fun H => Same H2 H) I3 (seqN eN hs) hz (by have := hr1.units; omega) (.refl _) (fun a => ksk_t1 _ a) (fun z hz v rz pl s3 H3 J s23 => ?_) fun q H3 s3 s23 n2 n3 J => ?_
  · have pf := (J.pin (f, _) (List.mem_append_right _ (List.mem_append_left _ (List.mem_append_right _ List.mem_cons_self)))).1
    refine wpAny_call (codeAny_mono (par_call (E := fun _ _ _ => False) (Q := fun r H4 => r = .int (k z) ∧ Same H3 H4) J L hy J.env0.in1.in1 rz pf (s23 _ _ hco) (hbind _ _ _ _ _ _) hr1 (hbody _ _ _ _ _ _ _) (ht z hz H3 s23)) fun r s4 hq => ?_)
    rcases r with e | fl
    · exact (cxN hq).elim
    rcases fl with _ | _ | _ | u'
    · exact False.elim hq
    · exact False.elim hq
    · exact False.elim hq
    obtain ⟨v', H4, J4, rv, g1, g2⟩ := J.after hq
    exact ⟨v', H4, J4, rv, g1, s23.trans g2⟩
  · refine ⟨.ref q, _, J.pins_of fun p hp => J.pin p (List.mem_append_right _ (List.mem_append_left _ hp)), rfl, hq q _ n2 (fun b o e => ?_) upd_same⟩
    rw [upd_ne (ne_of_none (s23 _ _ e) n3)]
    exact s23 _ _ e
end
end ZB

set_option Elab.async false
set_option linter.all false
set_option maxRecDepth 100000
set_option maxHeartbeats 1000000
/-! tuples sorted, the first of them empty -/
namespace ZB
open PySem PySem.Spec PyProof.Rows L2 PySem.W PySem.SeqAt
section
variable {prog : Program} {w : World} {A : Around} {E : Value → Shared → Prop} {s : Shared} {a b : Value} {as bs : List Addr} {Q : Bool → Shared → Prop}
theorem oneLt_tup {xs ys : List PyData} (ra : Reads s.heap a (.tuple xs) as) (rb : Reads s.heap b (.tuple ys) bs) (hal : alikeAll xs ys = true) (hu : A.units + min (PyData.depth (.tuple xs)) (PyData.depth (.tuple ys)) < cLine) (hq : Q (dataLt (.tuple xs) (.tuple ys)) s) :
    wpAny (model prog w) A (oneLt' true a b) Q E s := by
  cases ra with
  | @tuple l o vs n _ _ h1 h2 h3 h4 =>
    cases rb with
    | @tuple l' o' vs' n' _ _ k1 k2 k3 k4 =>
      have n1 : vs.size = xs.length := by simpa using ReadsAll.length _ _ _ h4
      have n2 : vs'.size = ys.length := by simpa using ReadsAll.length _ _ _ k4
      rw [dataLt_tuple, ← firstLt_toks xs ys hal, ← n1, ← n2] at hq
      rw [oneLt'_eq]
      simp only [if_true]
      refine wpAny_bind (wpAny_cRoomFor (room_here hu) ?_)
      obtain ⟨cls, dd, data, sl⟩ := o
      obtain ⟨cls2, dd2, data2, sl2⟩ := o'
      simp only at h2 h3 k2 k3
      subst h2 h3 k2 k3
      refine wpAny_bind (wpAny_callSpecialIfBound?_slot (T := "tuple") ⟨_, h1, rfl⟩ F.slot_tuple_lt (call_meets F.slot_tuple_lt ⟨_, h1, rfl⟩ F.entry_tuple_lt (F.args_tuple_lt_2 _ _)
        (SeqAt.tuple_ltAt l l' vs vs' n n' dd dd2 sl sl2 (pairEq xs ys) (fun j => dataLt (xs.getD j .none) (ys.getD j .none))) ⟨h1, k1, fun j j1 j2 => ?_, fun j j1 j2 hj => ?_, ?_⟩))
      · have := eqAt_alikeAll xs ys A.in1 s vs.toList vs'.toList _ _ h4 k4 hal (room_in hu) j (by simpa using j1) (by simpa using j2)
        simpa using this
      · have := rcLt_alikeAll xs ys A.in1 s vs.toList vs'.toList _ _ h4 k4 hal (room_in hu) j (by simpa using j1) (by simpa using j2) hj
        simpa using this
      · exact wpAny_truthy_bool hq
/-- what tells the kind of the keys: one by one -/
theorem mapM_each {α β : Type} {f : α → Sem β} {M : Model} : ∀ (l : List α) {Q : List β → Shared → Prop}, (∀ v ∈ l, ∃ r, ∀ (Q' : β → Shared → Prop), Q' r s → wpAny M A (f v) Q' E s) → (∀ rs : List β, rs.length = l.length → (∀ v, l.head? = some v → ∃ r, rs.head? = some r ∧ ∀ r', (∀ (Q' : β → Shared → Prop), Q' r' s → wpAny M A (f v) Q' E s) → True) → Q rs s) → wpAny M A (l.mapM f) Q E s
  | [], _, _, h => by rw [List.mapM_nil]; exact wpAny_pure (h [] rfl fun v e => by cases e)
  | x :: l, Q, hf, h => by
    obtain ⟨r, hr⟩ := hf x List.mem_cons_self
    rw [List.mapM_cons]
    refine wpAny_bind (hr _ (wpAny_bind (mapM_each l (fun v hv => hf v (List.mem_cons_of_mem _ hv)) fun rs hl _ => wpAny_pure (h (r :: rs) (by rw [List.length_cons, List.length_cons, hl]) fun v e => ⟨r, rfl, fun _ _ => trivial⟩))))
theorem first_tup {v : Value} {xs : List PyData} (r : Reads s.heap v (.tuple xs) as) : ∃ x : Option Value, (xs = [] → x = none) ∧ ∀ {M : Model} (Q' : Option Value → Shared → Prop), Q' x s → wpAny M A (firstOfTuple' v) Q' E s := by
  cases r with
  | @tuple l o vs n _ _ h1 h2 h3 h4 =>
    refine ⟨vs[0]?, fun e => ?_, fun Q' hq => ?_⟩
    · subst e
      have := ReadsAll.length _ _ _ h4
      have : vs.size = 0 := by simpa using this
      rw [Array.getElem?_eq_none (by omega)]
    · rw [kas_first_eq]
      refine wpAny_bind ((looks_reads (Reads.tuple h1 h2 h3 h4)).here ?_)
      rw [if_neg (by simp [dataType])]
      exact wpAny_bind (listItems_at h1 h3 (wpAny_pure hq))
theorem kind_tup0 {v1 v2 : Value} {vs : List Value} {Q : SortKind → Shared → Prop} (h0 : Reads s.heap v1 (.tuple []) as) (h : ∀ v ∈ v2 :: vs, ∃ xs as, Reads s.heap v (.tuple xs) as) (hq : Q oneType' s) :
    wpAny (model prog w) A (keyKind' (v1 :: v2 :: vs).toArray) Q E s := by
  have hall : ∀ v ∈ v1 :: v2 :: vs, ∃ xs as, Reads s.heap v (.tuple xs) as := fun v hv => by
    rcases List.mem_cons.mp hv with rfl | hv
    · exact ⟨_, _, h0⟩
    · exact h v hv
  rw [keyKind'_eq, List.mapM_toArray, map_eq_pure_bind, List.mapM_cons]
  obtain ⟨x, hx, hr⟩ := first_tup (A := A) (E := E) h0
  rw [hx rfl] at hr
  refine wpAny_bind (wpAny_bind (wpAny_bind (hr _ (wpAny_bind (mapM_each (v2 :: vs) (fun v hv => ?_) fun rs _ _ => wpAny_pure (wpAny_pure ?_))))))
  · obtain ⟨xs, bs, g⟩ := h v hv
    obtain ⟨y, _, hy⟩ := first_tup (A := A) (E := E) g
    exact ⟨y, fun Q' q => hy Q' q⟩
  · rw [if_neg (by simp), if_neg (by simp)]
    rw [oneTypeOnly'_eq, List.mapM_toArray, map_eq_pure_bind]
    refine wpAny_bind (wpAny_bind (wpAny_bind (kas_mapM (r := Value.type "tuple") _ (fun v hv Q' q => ?_) (wpAny_pure ?_))))
    · obtain ⟨xs, bs, g⟩ := hall v hv
      exact (looks_reads g).here q
    · have e1 : ((List.map (fun _ => Value.type "tuple") (v1 :: v2 :: vs)).toArray.all fun x => x == Value.type "tuple") = true := by
        simp only [List.all_toArray, List.all_map, List.all_eq_true]
        intro _ _
        exact beq_self_eq_true _
      have e0 : (List.map (fun _ => Value.type "tuple") (v1 :: v2 :: vs)).toArray[0]? = some (Value.type "tuple") := by simp
      rw [e0]
      simp only [e1, if_true]
      exact wpAny_pure (wpAny_pure hq)
end
end ZB

set_option Elab.async false
set_option linter.all false
set_option maxRecDepth 100000
set_option maxHeartbeats 1000000
/-! rules: sorted of tuples of texts, the first empty; sorted(xs, key=len); sorted of pairs of an int and a tuple of texts -/
namespace ZB
open PySem PySem.Spec PyProof.Rows L2 PySem.W Z
section
variable {X : Cx} {pins : List (Addr × Obj)} {σ : L2.St} {H : Hp} {s : Shared}
theorem inv_at (I : Inv X pins σ H s) (A' : Around) (hf : A'.frames = X.A.frames) (hh : A'.handled = X.A.handled) : Inv { X with A := A', xe := fun _ _ => False } pins σ H s :=
  ⟨⟨I.ok.mod, I.ok.kind, I.ok.glob, I.ok.blt, I.ok.above, I.ok.inj, I.ok.has, I.ok.cab, fun h => hh.trans (I.ok.hd h), hf.trans I.ok.frames, I.ok.stk, I.ok.exf, I.ok.bs, I.ok.bsz, I.ok.noex, I.ok.exfs, I.ok.funs, I.ok.frf⟩,
    I.os, I.bare, I.base, I.loc, I.cell, I.free, I.freeC, I.pin, I.hok, I.len⟩
theorem inv_back {A' : Around} {xe : Value → Shared → Prop} (ok : X.Ok) (I : Inv { X with A := A', xe := xe } pins σ H s) : Inv X pins σ H s := ⟨ok, I.os, I.bare, I.base, I.loc, I.cell, I.free, I.freeC, I.pin, I.hok, I.len⟩
/-- a tuple of texts with its address -/
abbrev AT := Addr × List Str
def encT (b : AT) : PyData := .tuple (b.2.map PyData.str)
noncomputable def srtB (bs : List AT) : List AT := bs.mergeSort (dataLe false encT)
theorem srtB_perm (bs : List AT) : (srtB bs).Perm bs := List.mergeSort_perm _ _
def TsAt (H : Hp) (bs : List AT) : Prop := ∀ b ∈ bs, H b.1 = some (.tup (b.2.map V.str))
def refB (bs : List AT) : List V := bs.map fun b => V.ref b.1
theorem alike_strs : ∀ xs ys : List Str, alikeAll (xs.map PyData.str) (ys.map PyData.str) = true
  | [], _ => by simp [alikeAll]
  | _ :: _, [] => by simp [alikeAll]
  | x :: xs, y :: ys => by
    show alikeAll (.str x :: xs.map .str) (.str y :: ys.map .str) = true
    rw [alikeAll, alike_strs xs ys]
    simp [alike]
theorem depth_strs : ∀ xs : List Str, PyData.depthAll (xs.map PyData.str) = 0
  | [] => by simp [PyData.depthAll]
  | x :: xs => by
    show PyData.depthAll (.str x :: xs.map .str) = 0
    rw [PyData.depthAll, depth_strs xs]
    simp [PyData.depth]
theorem dep_encT (b : AT) : (encT b).depth ≤ 1 := by
  unfold encT
  unfold PyData.depth
  rw [depth_strs]
  decide
theorem alike_encT (bs : List AT) : AllAlike (bs.map encT) := AllAlike.of fun x y => by
  show alikeAll _ _ = true
  exact alike_strs _ _
theorem dp_strs {K : PySem.W.Frag} {H : Hp} : ∀ (zs : List Str), DpAll K H (zs.map V.str) (zs.map PyData.str)
  | [] => .nil
  | z :: zs => .cons (.str z) (dp_strs zs)
theorem each_of {R : Value → AT → Prop} : ∀ {bs : List AT} {its : List Value}, Vals (refB bs) its → (∀ b ∈ bs, ∀ u, RelV (V.ref b.1) u → R u b) → EachIs R its bs
  | [], [], _, _ => .nil
  | [], _ :: _, r, _ => by cases r
  | b :: bs, [], r, _ => by cases r
  | b :: bs, u :: us, r, h => by
    cases r with
    | cons r1 r2 => exact .cons (h b List.mem_cons_self u r1) (each_of r2 fun c hc => h c (List.mem_cons_of_mem _ hc))
theorem vals_of {bs : List AT} {out : List Value} (h : EachIs (fun (v : Value) (b : AT) => v = Value.ref b.1) out bs) : Vals (refB bs) out := by
  induction h with
  | nil => exact .nil
  | cons h1 _ ih => exact .cons h1 ih
theorem sorts_tup0 {prog : Program} {w : World} {A : Around} {vs : List Value} {ds : List PyData} (e : EachIs (fun v d => ∃ as, Reads s.heap v d as) vs ds) (hal : AllAlike ds) (ht : ∀ d ∈ ds, ∃ xs, d = .tuple xs) (h0 : ∀ d, ds.head? = some d → d = .tuple []) (hu : ∀ d ∈ ds, A.units + d.depth < cLine) :
    SortsAt prog w A s (dataKind s.heap ds) vs := by
  refine ⟨fun v hv => ?_, oneType', ?_, fun h2 E Q hq => ?_⟩
  · obtain ⟨d, hd, as, r⟩ := e.left v hv
    exact ⟨_, dataKind_some hal hd r⟩
  · intro E x y a b Q ha hb hq
    obtain ⟨d, as, hd, ra, rfl⟩ := dataKind_inv ha
    obtain ⟨d', as', hd', rb, rfl⟩ := dataKind_inv hb
    obtain ⟨xs, rfl⟩ := ht d hd
    obtain ⟨ys, rfl⟩ := ht d' hd'
    rw [keyLt'_oneType]
    refine oneLt_tup ra rb (by simpa [alike] using hal _ hd _ hd') ?_ hq
    have := hu _ hd
    have m := Nat.min_le_left (PyData.depth (.tuple xs)) (PyData.depth (.tuple ys))
    omega
  · match vs, ds, e, h2 with
    | v1 :: v2 :: vs, d1 :: ds, .cons ⟨as, r1⟩ t, _ =>
      rw [h0 d1 rfl] at r1
      refine kind_tup0 r1 (fun v hv => ?_) hq
      obtain ⟨d, hd, bs, r⟩ := t.left v hv
      obtain ⟨xs, rfl⟩ := ht d (List.mem_cons_of_mem _ hd)
      exact ⟨xs, bs, r⟩
theorem u5 {A : Around} {k : Nat} (hr : Room k A) : A.units + 5 < cLine := by have := u65 hr; omega
def rSortT0 (K : PySem.W.Frag) : List V → Hp → VK → Prop := fun vs H Q => ∃ (a : Addr) (bs : List AT), vs = [.ref a] ∧ H a = some (.lst (refB bs)) ∧ TsAt H bs ∧ bs.length ≤ 1000 ∧ (∀ b, bs.head? = some b → b.2 = []) ∧
  ∀ q H', H q = none → Same H H' → H' q = some (.lst (refB (srtB bs))) → Q (.ref q) H'
theorem cr_sortT0 (hu : X.A.units + 5 < cLine) : CallR X (.builtin "sorted") (rSortT0 X.K) := by
  intro pins s σ H xs us Q I r h
  obtain ⟨a, bs, rfl, ea, hT, hz, h0, q⟩ := h
  obtain ⟨u, rfl, rx⟩ := vals1 r
  cases rx
  obtain ⟨its, rv, pl, _⟩ := I.list (.of (K := X.K) ea)
  have hl := pl.isList
  have sL : (1000 : Nat) < sizeLine := by rw [sizeLine_eq]; decide
  have lx := rv.length
  have lr : (refB bs).length = bs.length := List.length_map _
  have er : EachIs (fun (v : Value) (b : AT) => ∃ as, Reads s.heap v (encT b) as) its bs := each_of rv fun b hb u ru => by
    exact Dp.reads I _ _ u (.tup (.of (hT b hb)) (dp_strs b.2)) ru
  have e0 : EachIs (fun (v : Value) (b : AT) => v = Value.ref b.1) its bs := each_of rv fun b hb u ru => ru
  have er' : EachIs (fun (v : Value) (b : AT) => ∃ as, Reads (sortingHeap (copyHeap s.heap its) (s.heap.objs.size + 1) its) v (encT b) as) its bs := er.mono fun _ _ ⟨as, r⟩ => ⟨as, PyProof.Rows.Reads.keeps (fun _ _ => sorting_copy_old) r⟩
  have S : SortsAt X.prog X.w X.A.in1.in1 { s with heap := sortingHeap (copyHeap s.heap its) (s.heap.objs.size + 1) its } (dataKind (sortingHeap (copyHeap s.heap its) (s.heap.objs.size + 1) its) (bs.map encT)) its :=
    sorts_tup0 (s := { s with heap := sortingHeap (copyHeap s.heap its) (s.heap.objs.size + 1) its }) (each_map (R := fun v d => ∃ as, Reads (sortingHeap (copyHeap s.heap its) (s.heap.objs.size + 1) its) v d as) encT er') (alike_encT bs) (fun d hd => by
      obtain ⟨b, _, rfl⟩ := List.mem_map.mp hd
      exact ⟨_, rfl⟩) (fun d hd => by
      rw [List.head?_map] at hd
      obtain ⟨b, hb, rfl⟩ := Option.map_eq_some_iff.mp hd
      unfold encT
      rw [h0 b hb]
      rfl) fun d hd => by
      obtain ⟨b, _, rfl⟩ := List.mem_map.mp hd
      have := dep_encT b
      show X.A.units + 1 + 1 + _ < _
      omega
  refine sorted_vals hl S (by omega) ?_
  obtain ⟨c, hc⟩ := sortedAll_at s.heap its (sortVals (dataKind (sortingHeap (copyHeap s.heap its) (s.heap.objs.size + 1) its) (bs.map encT)) false its its).toArray
  have ro := sortVals_data (h' := sortingHeap (copyHeap s.heap its) (s.heap.objs.size + 1) its) false e0 er' (alike_encT bs)
  have fr := I.hok.fresh (Nat.le_succ s.heap.objs.size)
  have lo : (refB (srtB bs)).length ≤ sizeLine := by
    show (List.map _ _).length ≤ _
    rw [List.length_map, (srtB_perm bs).length_eq]
    omega
  refine ⟨.ref (s.heap.objs.size + 1), upd H (s.heap.objs.size + 1) (.lst (refB (srtB bs))), I.laid (t' := s.toks) (fun b u e => sortedAll_old e) (Nat.le_succ _)
    (show ObjOk X.prog X.w _ _ _ (.lst (refB (srtB bs))) from ⟨lo, _, c, vals_of ro, hc⟩), rfl, q _ _ fr (fun b o e => by rw [upd_ne (ne_of_none e fr)]; exact e) upd_same⟩
/-! sorted(xs, key=len) -/
def srtL (bs : List AT) : List AT := bs.mergeSort fun x y => decide (((x.2.length : Nat) : Int) ≤ ((y.2.length : Nat) : Int))
def rSortLen (K : PySem.W.Frag) (Q : VK) (x : V) (H : Hp) : Prop := ∃ (a : Addr) (bs : List AT), x = .ref a ∧ SqA K H a (refB bs) ∧ TsAt H bs ∧ bs.length ≤ 1000 ∧ ∀ q H', H q = none → Same H H' → H' q = some (.lst (refB (srtL bs))) → Q (.ref q) H'
def tSortLen (K : PySem.W.Frag) (te : TE) : TE := fun σ H Q => te σ H fun x H1 => rSortLen K Q x H1
theorem i_sortLen {K : PySem.W.Frag} {te : TE} {σ : L2.St} {H : Hp} {Q : VK} (h : te σ H fun x H1 => rSortLen K Q x H1) : tSortLen K te σ H Q := h
def lenAt (H : Hp) : V → Int := fun v => match v with
  | .ref p => (match H p with
    | some (.tup ys) => ((ys.length : Nat) : Int)
    | _ => 0)
  | _ => 0
theorem pe_sortLen {e : Expr} {te : TE} {p kp np pos : Pos} (hg : Gl X "sorted") (hm : X.mg "sorted" = none) (hg2 : Gl X "len") (hm2 : X.mg "len" = none) (hr : X.A.units + 5 < cLine) (he : PA X [e] (tCons te tNil))
    (he1 : backTo pos (starEach [e] X.env) = (false, eval e X.env) :: backTo pos (starEach [] X.env) := by rfl) (hp1 : (backTo pos (starEach [e] X.env)).any (·.1) = false := by rfl) :
    PE X (.Call (.Name "sorted" p) [e] [⟨some "key", .Name "len" np, kp⟩] pos) (tSortLen X.K te) := by
  refine ⟨fun pins s σ H Q I h => ?_⟩
  have h' : tCons te tNil σ H (oneArg fun x H1 => rSortLen X.K Q x H1) := h
  refine wpAny_Call_Name_kw (ld_blt I hg hm (by rfl) ?_ (by decide) (by decide))
  refine callWith_kw (thn (he.run pos pins s σ H _ I h') fun us s1 ⟨vs, H1, I1, r1, q1⟩ => ?_) he1 hp1 (by rfl) (by rfl)
  obtain ⟨x, rfl⟩ : ∃ x, vs = [x] := by
    match vs, q1 with
    | [x], _ => exact ⟨x, rfl⟩
  obtain ⟨u, rfl, rx⟩ := vals1 r1
  obtain ⟨a, bs, rfl, hs, hT, hz, q2⟩ := q1
  cases rx
  show wpAny _ _ (evalAll [do let v ← eval (.Name "len" np) X.env; standAt pos; pure v]) _ _ s1
  refine wpAny_evalAll_cons (wpAny_bind (ld_blt I1 hg2 hm2 (u := .builtin "len") (by rfl) (wpAny_bind (wpAny_standAt (wpAny_pure (wpAny_evalAll_nil ?_)))) (by decide) (by decide)))
  show wpAny _ _ (call (.builtin "sorted") [.ref a] [(Str.ofString "key", .builtin "len")]) _ _ s1
  refine sorted_run (k := lenAt H1) (ok := fun H => Same H1 H) I1 hs (by rw [show (refB bs).length = bs.length from List.length_map _]; exact hz) (by show X.A.units + 1 + 1 < _; omega) (.refl _) (fun a => ksk_t4 _ a) (fun z hz v rz pl s3 H3 J s13 => ?_) fun q H3 s3 s13 n2 n3 J => ?_
  · obtain ⟨b, hb, rfl⟩ := List.mem_map.mp hz
    have eb := hT b hb
    have J' := inv_at J X.A.in1.in1 rfl rfl
    refine wpAny_mono (call_len_seq (X := { X with A := X.A.in1.in1, xe := fun _ _ => False }) _ s3 σ H3 [.ref b.1] [v] (fun r H' => r = .int (lenAt H1 (.ref b.1)) ∧ Same H1 H') J' (.cons rz .nil) ⟨b.1, b.2.map V.str, rfl, .inr (.of (s13 _ _ eb)), ?_, s13⟩) (fun w s4 ⟨v', H4, J4, rv, q4⟩ => ⟨v', H4, inv_back J.ok J4, rv, q4⟩) fun _ _ z => z
    show V.int _ = V.int (match H1 b.1 with | some (.tup ys) => ((ys.length : Nat) : Int) | _ => 0)
    rw [eb]
  · refine ⟨.ref q, _, J, rfl, q2 q _ n2 (fun b o e => ?_) ?_⟩
    · rw [upd_ne (ne_of_none (s13 _ _ e) n3)]
      exact s13 _ _ e
    · rw [upd_same]
      congr 2
      unfold srtK refB srtL
      refine (List.map_mergeSort fun x hx y hy => ?_).symm
      have lx : lenAt H1 (.ref x.1) = ((x.2.length : Nat) : Int) := by
        show (match H1 x.1 with | some (.tup ys) => ((ys.length : Nat) : Int) | _ => 0) = _
        rw [hT x hx]
        show (((x.2.map V.str).length : Nat) : Int) = _
        rw [List.length_map]
      have ly : lenAt H1 (.ref y.1) = ((y.2.length : Nat) : Int) := by
        show (match H1 y.1 with | some (.tup ys) => ((ys.length : Nat) : Int) | _ => 0) = _
        rw [hT y hy]
        show (((y.2.map V.str).length : Nat) : Int) = _
        rw [List.length_map]
      rw [lx, ly]
/-! sorted of pairs of an int and a tuple of texts -/
structure NT where
  p : Addr
  n : Nat
  t : Addr
  zs : List Str
def encN (b : NT) : PyData := .tuple [.int (b.n : Nat), .tuple (b.zs.map PyData.str)]
noncomputable def srtN (bs : List NT) : List NT := bs.mergeSort (dataLe false encN)
def NsAt (H : Hp) (bs : List NT) : Prop := ∀ b ∈ bs, H b.p = some (.tup [.int (b.n : Nat), .ref b.t]) ∧ H b.t = some (.tup (b.zs.map V.str))
def refN (bs : List NT) : List V := bs.map fun b => V.ref b.p
def rSortNT (K : PySem.W.Frag) : List V → Hp → VK → Prop := fun vs H Q => ∃ (a : Addr) (bs : List NT), vs = [.ref a] ∧ H a = some (.lst (refN bs)) ∧ NsAt H bs ∧ bs.length ≤ 1000 ∧
  ∀ q H', H q = none → Same H H' → H' q = some (.lst (refN (srtN bs))) → Q (.ref q) H'
end
end ZB

set_option Elab.async false
set_option linter.all false
set_option maxRecDepth 100000
set_option maxHeartbeats 1000000
/-! a def that makes a lambda: its code object is known; the law's end with tables -/
namespace ZB
open PySem PySem.Spec PyProof.Rows L2 LamX Z
/-- a lambda's name, of the def's name -/
def LQ (x : Str) : Str := (x ++ ".<locals>.") ++ "<lambda>"
/-- the table p bears lambdas of the name q -/
def TabM (T : List (Addr × Str)) (p : Addr) (q : Str) : Prop := (p, q) ∈ T ∧ ∀ z ∈ T, z.1 = p → z.2 = q
structure FunC (K : PySem.W.Frag) (x qual : Str) (st : Stmt) (f : Addr) (fd : FuncData) (c : Addr) : Prop where
  ex : ∃ (oc : Value) (od : Option Addr) (kV doc pm : Value) (an : Option Addr) (ct : Value) (osl : Array (Option Value)),
    fd = PySem.W.fnOf x qual (defArgs st) (defBody st) (defScope st) .none kV doc pm an (.ref c) ct ∧ (K.lookup f = some ⟨oc, od, .func fd, osl⟩ ∧ PySem.W.codeIn K (.ref c) qual = true)
  fn : L2.Fun K x qual st f fd
section
variable {P : Program} {w : World} {K : PySem.W.Frag} {mg : Str → Option Value} {base : Heap}
theorem funC_mk {x qual : Str} {st : Stmt} {f c : Addr} {oc : Value} {od an : Option Addr} {osl : Array (Option Value)} {kV doc pm ct : Value} (l : K.lookup f = some ⟨oc, od, .func (PySem.W.fnOf x qual (defArgs st) (defBody st) (defScope st) .none kV doc pm an (.ref c) ct), osl⟩)
    (h : PySem.W.codeIn K (.ref c) qual = true) (k : PySem.W.keepIn K (.ref f) = true) : FunC K x qual st f (PySem.W.fnOf x qual (defArgs st) (defBody st) (defScope st) .none kV doc pm an (.ref c) ct) c :=
  ⟨⟨oc, od, kV, doc, pm, an, ct, osl, rfl, l, h⟩, fun_mk l h k⟩
theorem fnOkC_mk {x qual : Str} {st : Stmt} {f c : Addr} {fd : FuncData} {N ps : List Str} {k : Nat} {sp : Sp} (F : FunC K x qual st f fd c) (S : FnScope N ps (defScope st)) (len : ∀ vs H Q E, sp vs H Q E → vs.length = ps.length)
    (body : ∀ (A : Around) (outer : List Env) (s : Shared) (H : Hp) (vs : List V) (Q : VK) (E : XK), Room k (A.deeper (envOfC qual (defScope st) s.heap.objs.size f (.ref c))) → sp vs H Q E →
      ∃ t, PSs (cxOf (L2.CX P w) P w K mg base N qual (defScope st) f (.ref c) A outer s H E) (defBody st) t ∧ t { nx := fun _ H' => Q .non H', rt := Q } (start N vs) H) : FnOk P w K mg base (L2.CX P w) (k + 1) f fd ps sp := by
  obtain ⟨oc, od, kV, doc, pm, an, ct, osl, rfl, lk, hcd⟩ := F.ex
  exact fn_of lk hcd S len fun A outer s H vs Q E hr hs => body A outer s H vs Q E hr hs
end
theorem tabs_one {p : Addr} {q : Str} {H : Hp} (h : H p = some (.tbl #[])) : Tabs [(p, q)] H := fun z hz => by
  rw [List.mem_singleton.mp hz]
  exact TabS.nil h
theorem tabM_one {p : Addr} {q : Str} : TabM [(p, q)] p q := ⟨List.mem_singleton.mpr rfl, fun z hz _ => by rw [List.mem_singleton.mp hz]⟩
end ZB

set_option Elab.async false
set_option linter.all false
set_option maxRecDepth 100000
set_option maxHeartbeats 1000000
/-! up-sets: mathematics -/
namespace ZB
open PySem PySem.Spec PyProof.Rows L2 PySem.W Z
/-! ### texts in order of tuples -/
def ltT : List Str → List Str → Bool
  | _, [] => false
  | [], _ :: _ => true
  | x :: xs, y :: ys => if x = y then ltT xs ys else ltS x y
theorem lt_cps : ∀ l m : List Nat, decide (l < m) = ltCps l m
  | _, [] => by
    rw [decide_eq_false (List.not_lt_nil _)]
    cases ‹List Nat› <;> rfl
  | [], y :: m => by
    rw [decide_eq_true (List.nil_lt_cons _ _)]
    rfl
  | x :: l, y :: m => by
    have ih := lt_cps l m
    unfold ltCps
    by_cases h1 : x < y
    · rw [decide_eq_true (List.cons_lt_cons_iff.mpr (.inl h1))]
      simp [h1]
    · by_cases h2 : y < x
      · rw [decide_eq_false (fun h => by rcases List.cons_lt_cons_iff.mp h with g | ⟨g, _⟩ <;> omega)]
        simp [h1, h2]
        intro e
        omega
      · have e : x = y := by omega
        subst e
        rw [show (decide (x < x) || x == x && ltCps l m) = ltCps l m from by simp, ← ih]
        rw [Bool.eq_iff_iff, decide_eq_true_eq, decide_eq_true_eq]
        constructor
        · intro h
          rcases List.cons_lt_cons_iff.mp h with g | ⟨_, g⟩
          · omega
          · exact g
        · exact fun h => List.cons_lt_cons_iff.mpr (.inr ⟨rfl, h⟩)
theorem lt_strD (x y : Str) : dataLt (.str x) (.str y) = ltS x y := by
  rw [dataLt_str]
  exact lt_cps _ _
theorem eqv_strD (x y : Str) : PyData.eqv (.str x) (.str y) = decide (x = y) := by
  rw [Bool.eq_iff_iff, decide_eq_true_eq]
  exact beq_iff_eq
theorem toksT : ∀ xs ys : List Str, PyProof.Rows.lexLt itemOrd (keyToksAll (xs.map PyData.str)) (keyToksAll (ys.map PyData.str)) = ltT xs ys
  | [], [] => lex_irrefl _
  | [], y :: ys => rfl
  | x :: xs, [] => rfl
  | x :: xs, y :: ys => by
    show PyProof.Rows.lexLt itemOrd (keyToksAll (.str x :: xs.map .str)) (keyToksAll (.str y :: ys.map .str)) = _
    rw [dataLt_cons rfl, eqv_strD, toksT xs ys, lt_strD]
    show _ = if x = y then ltT xs ys else ltS x y
    by_cases e : x = y
    · rw [if_pos (decide_eq_true e), if_pos e]
    · rw [if_neg (by simpa using e), if_neg e]
theorem lt_tupD (xs ys : List Str) : dataLt (.tuple (xs.map .str)) (.tuple (ys.map .str)) = ltT xs ys := by rw [dataLt_tuple, toksT]
theorem ltT_irr : ∀ xs, ltT xs xs = false
  | [] => rfl
  | x :: xs => by
    unfold ltT
    rw [if_pos rfl, ltT_irr xs]
theorem ltT_tri : ∀ xs ys, ltT xs ys = false → ltT ys xs = false → xs = ys
  | [], [], _, _ => rfl
  | [], _ :: _, h, _ => by cases h
  | _ :: _, [], _, h => by cases h
  | x :: xs, y :: ys, h, k => by
    unfold ltT at h k
    by_cases e : x = y
    · rw [if_pos e] at h
      rw [if_pos e.symm] at k
      rw [e, ltT_tri xs ys h k]
    · rw [if_neg e] at h
      rw [if_neg (fun g => e g.symm)] at k
      exact absurd (ltS_tri h k) e
theorem ltT_tr : ∀ a b c, ltT b a = false → ltT c b = false → ltT c a = false
  | [], b, c, _, _ => by cases c <;> rfl
  | x :: a, [], c, h, _ => by cases h
  | x :: a, y :: b, [], _, h => by cases h
  | x :: a, y :: b, z :: c, h, k => by
    unfold ltT at h k ⊢
    by_cases e1 : y = x
    · rw [if_pos e1] at h
      by_cases e2 : z = y
      · rw [if_pos e2] at k
        rw [if_pos (e2.trans e1)]
        exact ltT_tr a b c h k
      · rw [if_neg e2] at k
        rw [if_neg (fun g => e2 (g.trans e1.symm)), ← e1]
        exact k
    · rw [if_neg e1] at h
      by_cases e2 : z = y
      · rw [if_neg (fun g => e1 (e2.symm.trans g)), e2]
        exact h
      · rw [if_neg e2] at k
        have t := ltCps_tr _ _ _ h k
        by_cases e3 : z = x
        · subst e3
          exact absurd (ltS_tri k h) e2
        · rw [if_neg e3]
          exact t
/-! ### by size, then as tuples -/
def leU (a b : List Str) : Bool := if a.length = b.length then !ltT b a else decide (a.length < b.length)
theorem leU_anti {a b : List Str} (h : leU a b = true) (k : leU b a = true) : a = b := by
  unfold leU at h k
  by_cases e : a.length = b.length
  · rw [if_pos e] at h
    rw [if_pos e.symm] at k
    exact ltT_tri a b (by simpa using k) (by simpa using h)
  · rw [if_neg e] at h
    rw [if_neg (fun g => e g.symm)] at k
    have := of_decide_eq_true h
    have := of_decide_eq_true k
    omega
theorem leU_trans (a b c : List Str) (h : leU a b = true) (k : leU b c = true) : leU a c = true := by
  unfold leU at h k ⊢
  by_cases e1 : a.length = b.length
  · rw [if_pos e1] at h
    by_cases e2 : b.length = c.length
    · rw [if_pos e2] at k
      rw [if_pos (by omega)]
      rw [ltT_tr a b c (by simpa using h) (by simpa using k)]
      rfl
    · rw [if_neg e2] at k
      have := of_decide_eq_true k
      rw [if_neg (by omega)]
      exact decide_eq_true (by omega)
  · rw [if_neg e1] at h
    have := of_decide_eq_true h
    by_cases e2 : b.length = c.length
    · rw [if_neg (by omega)]
      exact decide_eq_true (by omega)
    · rw [if_neg e2] at k
      have := of_decide_eq_true k
      rw [if_neg (by omega)]
      exact decide_eq_true (by omega)
theorem ltT_asym {a b : List Str} (h : ltT a b = true) : ltT b a = false := by
  cases g : ltT b a with
  | false => rfl
  | true =>
    exfalso
    have asymS : ∀ x y : Str, ltS x y = true → ltS y x = true → False := fun x y h1 h2 => by
      have i : ltS x x = false := ltCps_irr _
      cases e : ltS y y with
      | _ =>
        have as : ∀ l m : List Nat, ltCps l m = true → ltCps m l = true → False := fun l m g1 g2 => by
          rw [← lt_cps] at g1 g2
          exact absurd (List.lt_trans (of_decide_eq_true g1) (of_decide_eq_true g2)) (List.lt_irrefl _)
        exact as _ _ h1 h2
    have : ∀ a b : List Str, ltT a b = true → ltT b a = true → False := by
      intro a
      induction a with
      | nil => intro b h k; cases b <;> cases k
      | cons x a ih =>
        intro b h k
        cases b with
        | nil => cases h
        | cons y b =>
          unfold ltT at h k
          by_cases e : x = y
          · rw [if_pos e] at h
            rw [if_pos e.symm] at k
            exact ih b h k
          · rw [if_neg e] at h
            rw [if_neg (fun g => e g.symm)] at k
            exact asymS _ _ h k
    exact this a b h g
theorem leU_total (a b : List Str) : (leU a b || leU b a) = true := by
  unfold leU
  by_cases e : a.length = b.length
  · rw [if_pos e, if_pos e.symm]
    cases g : ltT b a with
    | false => rfl
    | true => rw [ltT_asym g]; rfl
  · rw [if_neg e, if_neg (fun g => e g.symm)]
    rcases Nat.lt_or_gt_of_ne e with g | g
    · rw [decide_eq_true g]; rfl
    · rw [decide_eq_true g, Bool.or_true]
def srtU (L : List (List Str)) : List (List Str) := L.mergeSort leU
theorem srtU_perm (L : List (List Str)) : (srtU L).Perm L := List.mergeSort_perm _ _
theorem srtU_pw (L : List (List Str)) : (srtU L).Pairwise fun a b => leU a b = true := List.pairwise_mergeSort leU_trans leU_total L
theorem srtU_of {L M : List (List Str)} (hp : L.Perm M) (hl : L.Pairwise fun a b => leU a b = true) : L = srtU M :=
  (hp.trans (srtU_perm M).symm).eq_of_pairwise (fun a b _ _ h k => leU_anti h k) hl (srtU_pw M)
/-! ### sorted, then by size -/
theorem pair_or {α : Type} {x y : α} (ne : x ≠ y) : ∀ {L : List α}, x ∈ L → y ∈ L → [x, y].Sublist L ∨ [y, x].Sublist L
  | [], h, _ => by cases h
  | z :: L, hx, hy => by
    by_cases e1 : x = z
    · by_cases e2 : y = z
      · exact absurd (e1.trans e2.symm) ne
      · rw [e1]
        exact .inl (List.Sublist.cons_cons _ (List.singleton_sublist.mpr ((List.mem_cons.mp hy).resolve_left e2)))
    · have hx' := (List.mem_cons.mp hx).resolve_left e1
      by_cases e2 : y = z
      · rw [e2]
        exact .inr (List.Sublist.cons_cons _ (List.singleton_sublist.mpr hx'))
      · exact (pair_or ne hx' ((List.mem_cons.mp hy).resolve_left e2)).imp (fun h => h.cons _) fun h => h.cons _
theorem pair_not {α : Type} {x y : α} : ∀ {L : List α}, L.Nodup → [x, y].Sublist L → [y, x].Sublist L → False
  | [], _, h, _ => by cases h
  | z :: L, hn, h1, h2 => by
    obtain ⟨n1, n2⟩ := List.nodup_cons.mp hn
    cases h1 with
    | cons _ h1 =>
      cases h2 with
      | cons _ h2 => exact pair_not n2 h1 h2
      | cons_cons _ h2 => exact n1 (h1.subset (List.mem_cons_of_mem _ List.mem_cons_self))
    | cons_cons _ h1 =>
      cases h2 with
      | cons _ h2 => exact n1 (h2.subset (List.mem_cons_of_mem _ List.mem_cons_self))
      | cons_cons _ h2 => exact n1 (List.singleton_sublist.mp h1)
theorem srtLB {bs : List AT} (hn : (bs.map (·.2)).Nodup) : (srtL (srtB bs)).map (·.2) = srtU (bs.map (·.2)) := by
  have p1 : (srtL (srtB bs)).Perm (srtB bs) := List.mergeSort_perm _ _
  have p2 := srtB_perm bs
  refine srtU_of ((p1.trans p2).map _) ?_
  rw [List.pairwise_map]
  have nb : bs.Nodup := (List.pairwise_map.mp hn).imp fun h e => h (by rw [e])
  have nB : (srtB bs).Nodup := p2.nodup_iff.mpr nb
  have nL : (srtL (srtB bs)).Nodup := p1.nodup_iff.mpr nB
  have tL : ∀ a b c : AT, decide (((a.2.length : Nat) : Int) ≤ ((b.2.length : Nat) : Int)) = true → decide (((b.2.length : Nat) : Int) ≤ ((c.2.length : Nat) : Int)) = true → decide (((a.2.length : Nat) : Int) ≤ ((c.2.length : Nat) : Int)) = true := fun a b c h k => by
    have := of_decide_eq_true h
    have := of_decide_eq_true k
    exact decide_eq_true (by omega)
  have oL : ∀ a b : AT, (decide (((a.2.length : Nat) : Int) ≤ ((b.2.length : Nat) : Int)) || decide (((b.2.length : Nat) : Int) ≤ ((a.2.length : Nat) : Int))) = true := fun a b => by
    rw [Bool.or_eq_true, decide_eq_true_eq, decide_eq_true_eq]
    omega
  have dl : ∀ x y : AT, dataLe false encT x y = !ltT y.2 x.2 := fun x y => by
    show (!dataLt (encT y) (encT x)) = _
    unfold encT
    rw [lt_tupD]
  have pB : (srtB bs).Pairwise fun x y => ltT y.2 x.2 = false := by
    have := List.pairwise_mergeSort (le := dataLe false encT) (fun a b c h k => by
      rw [dl] at h k ⊢
      rw [ltT_tr a.2 b.2 c.2 (by simpa using h) (by simpa using k)]
      rfl) (fun a b => by
      rw [dl, dl]
      cases g : ltT b.2 a.2 with
      | false => rfl
      | true => rw [ltT_asym g]; rfl) bs
    exact this.imp fun {x y} h => by rw [dl] at h; simpa using h
  have pL : (srtL (srtB bs)).Pairwise fun x y => x.2.length ≤ y.2.length := by
    have := List.pairwise_mergeSort tL oL (srtB bs)
    exact this.imp fun {x y} h => by have := of_decide_eq_true h; omega
  have key : ∀ x y, [x, y].Sublist (srtL (srtB bs)) → x.2.length = y.2.length → ltT y.2 x.2 = false := fun x y hs e => by
    have mx := p1.mem_iff.mp (hs.subset List.mem_cons_self)
    have my := p1.mem_iff.mp (hs.subset (List.mem_cons_of_mem _ List.mem_cons_self))
    by_cases ne : x = y
    · rw [ne, ltT_irr]
    · rcases pair_or ne mx my with h | h
      · have := List.Pairwise.sublist h pB
        simpa using this
      · exact (pair_not nL hs (List.pair_sublist_mergeSort tL oL (decide_eq_true (by omega)) h)).elim
  refine List.pairwise_iff_forall_sublist.mpr fun {x y} hs => ?_
  have l := List.pairwise_iff_forall_sublist.mp pL hs
  unfold leU
  by_cases e : x.2.length = y.2.length
  · rw [if_pos e, key x y hs e]
    rfl
  · rw [if_neg e]
    exact decide_eq_true (by omega)
end ZB

set_option Elab.async false
set_option linter.all false
set_option maxRecDepth 100000
set_option maxHeartbeats 1000000
/-! up-sets: those that are found one after the other are all -/
namespace ZB
open PySem PySem.Spec PyProof.Rows L2 PySem.W Z
/-- all lists out of N, in its order -/
def pw (N : List Str) : List (List Str) := N.foldl (fun F n => F ++ F.map (· ++ [n])) [[]]
theorem pw_snoc (N : List Str) (n : Str) : pw (N ++ [n]) = pw N ++ (pw N).map (· ++ [n]) := by
  unfold pw
  rw [List.foldl_append]
  rfl
theorem snoc_ind {α : Type} {P : List α → Prop} (h0 : P []) (h1 : ∀ l a, P l → P (l ++ [a])) (l : List α) : P l := by
  have : ∀ n (l : List α), l.length = n → P l := by
    intro n
    induction n with
    | zero => intro l h; rw [List.length_eq_zero_iff.mp h]; exact h0
    | succ n ih =>
      intro l h
      have ne : l ≠ [] := fun e => by rw [e] at h; simp at h
      rw [← List.dropLast_concat_getLast ne]
      exact h1 _ _ (ih _ (by rw [List.length_dropLast, h]; rfl))
  exact this _ l rfl
theorem sub_snoc {ws P : List Str} {n : Str} : ws.Sublist (P ++ [n]) ↔ ws.Sublist P ∨ ∃ v, v.Sublist P ∧ ws = v ++ [n] := by
  rw [List.sublist_append_iff]
  constructor
  · rintro ⟨a, b, rfl, ha, hb⟩
    cases hb with
    | cons _ h => cases h; rw [List.append_nil]; exact .inl ha
    | cons_cons _ h => cases h; exact .inr ⟨a, ha, rfl⟩
  · rintro (h | ⟨v, hv, rfl⟩)
    · exact ⟨ws, [], by rw [List.append_nil], h, List.nil_sublist _⟩
    · exact ⟨v, [n], rfl, hv, List.Sublist.refl _⟩
theorem mem_pw {ws : List Str} : ∀ (N : List Str), ws ∈ pw N ↔ ws.Sublist N := by
  intro N
  revert ws
  refine snoc_ind (P := fun N => ∀ {ws : List Str}, ws ∈ pw N ↔ ws.Sublist N) ?_ ?_ N
  · intro ws
    show ws ∈ [[]] ↔ _
    rw [List.mem_singleton, List.sublist_nil]
  · intro N n ih ws
    rw [pw_snoc, List.mem_append, List.mem_map, sub_snoc, ih]
    constructor
    · rintro (h | ⟨v, hv, rfl⟩)
      · exact .inl h
      · exact .inr ⟨v, ih.mp hv, rfl⟩
    · rintro (h | ⟨v, hv, rfl⟩)
      · exact .inl h
      · exact .inr ⟨v, ih.mpr hv, rfl⟩
theorem nd_snocs {F G : List (List Str)} {n : Str} (hF : F.Nodup) (hG : G.Nodup) (h : ∀ v ∈ F, n ∉ v) : (F ++ G.map (· ++ [n])).Nodup := by
  refine List.nodup_append.mpr ⟨hF, List.Pairwise.map _ (fun a b hab e => hab (List.append_cancel_right e)) hG, fun a ha b hb e => ?_⟩
  obtain ⟨v, _, rfl⟩ := List.mem_map.mp hb
  exact h a ha (by rw [e]; simp)
theorem pw_nd : ∀ {N : List Str}, N.Nodup → (pw N).Nodup := by
  intro N
  refine snoc_ind (P := fun N => N.Nodup → (pw N).Nodup) (fun _ => by show [[]].Nodup; simp) (fun N n ih h => ?_) N
  obtain ⟨h1, h2, h3⟩ := List.nodup_append.mp h
  rw [pw_snoc]
  exact nd_snocs (ih h1) (ih h1) fun v hv hn => h3 n (((mem_pw N).mp hv).subset hn) n List.mem_cons_self rfl
/-- the up-sets that are found, name by name -/
def rdy (f : Str → List Str) (n : Str) (ws : List Str) : Bool := ((f n).filter fun h => !decide (h = n)).all fun h => decide (h ∈ ws)
def up (f : Str → List Str) (ks : List Str) : List (List Str) := ks.foldl (fun F n => F ++ (F.filter (rdy f n)).map (· ++ [n])) [[]]
theorem up_snoc (f : Str → List Str) (ks : List Str) (n : Str) : up f (ks ++ [n]) = up f ks ++ ((up f ks).filter (rdy f n)).map (· ++ [n]) := by
  unfold up
  rw [List.foldl_append]
  rfl
theorem up_head (f : Str → List Str) : ∀ ks, (up f ks).head? = some [] := by
  refine snoc_ind rfl fun ks n ih => ?_
  rw [up_snoc, List.head?_append, ih]
  rfl
theorem up_len (f : Str → List Str) : ∀ ks, (up f ks).length ≤ 2 ^ ks.length := by
  refine snoc_ind (Nat.le_refl _) fun ks n ih => ?_
  rw [up_snoc, List.length_append, List.length_map, List.length_append, List.length_singleton, Nat.pow_succ]
  have := List.length_filter_le (rdy f n) (up f ks)
  omega
def closedU (f : Str → List Str) (ws : List Str) : Prop := ∀ x ∈ ws, ∀ y ∈ f x, y ∈ ws
/-- what is above a name comes ahead of it -/
def Ahd (f : Str → List Str) (ks : List Str) : Prop := ∀ P n S, ks = P ++ n :: S → ∀ h ∈ f n, h ≠ n → h ∈ P
theorem Ahd.pre {f : Str → List Str} {ks : List Str} {n : Str} (h : Ahd f (ks ++ [n])) : Ahd f ks := fun P m S e => h P m (S ++ [n]) (by rw [e]; simp)
theorem mem_up {f : Str → List Str} : ∀ {ks : List Str}, ks.Nodup → Ahd f ks → ∀ ws, ws ∈ up f ks ↔ ws.Sublist ks ∧ closedU f ws := by
  intro ks
  refine snoc_ind (P := fun ks => ks.Nodup → Ahd f ks → ∀ ws, ws ∈ up f ks ↔ ws.Sublist ks ∧ closedU f ws) (fun _ _ ws => ?_) (fun ks n ih hn ha ws => ?_) ks
  · show ws ∈ [[]] ↔ _
    rw [List.mem_singleton, List.sublist_nil]
    exact ⟨fun e => ⟨e, fun x hx => by rw [e] at hx; cases hx⟩, fun h => h.1⟩
  · obtain ⟨h1, h2, h3⟩ := List.nodup_append.mp hn
    have nk : n ∉ ks := fun h => h3 n h n List.mem_cons_self rfl
    have ih := ih h1 ha.pre
    rw [up_snoc, List.mem_append, List.mem_map, sub_snoc]
    constructor
    · rintro (h | ⟨v, hv, rfl⟩)
      · obtain ⟨g1, g2⟩ := (ih ws).mp h
        exact ⟨.inl g1, g2⟩
      · obtain ⟨m1, m2⟩ := List.mem_filter.mp hv
        obtain ⟨g1, g2⟩ := (ih v).mp m1
        refine ⟨.inr ⟨v, g1, rfl⟩, fun x hx y hy => ?_⟩
        rcases List.mem_append.mp hx with hx | hx
        · exact List.mem_append_left _ (g2 x hx y hy)
        · rw [List.mem_singleton.mp hx] at hy
          by_cases e : y = n
          · rw [e]; simp
          · have := List.all_eq_true.mp m2 y (List.mem_filter.mpr ⟨hy, by simpa using e⟩)
            exact List.mem_append_left _ (of_decide_eq_true this)
    · rintro ⟨h | ⟨v, hv, rfl⟩, hc⟩
      · exact .inl ((ih ws).mpr ⟨h, hc⟩)
      · have cv : closedU f v := fun x hx y hy => by
          rcases List.mem_append.mp (hc x (List.mem_append_left _ hx) y hy) with g | g
          · exact g
          · exfalso
            rw [List.mem_singleton.mp g] at hy
            have xk := hv.subset hx
            obtain ⟨P, S, e⟩ := List.append_of_mem xk
            have := ha.pre P x S e n hy (fun z => nk (by rw [z]; exact xk))
            exact nk (by rw [e]; exact List.mem_append_left _ this)
        refine .inr ⟨v, List.mem_filter.mpr ⟨(ih v).mpr ⟨hv, cv⟩, List.all_eq_true.mpr fun y hy => ?_⟩, rfl⟩
        obtain ⟨g1, g2⟩ := List.mem_filter.mp hy
        rcases List.mem_append.mp (hc n (by simp) y g1) with g | g
        · exact decide_eq_true g
        · rw [List.mem_singleton.mp g] at g2
          simp at g2
theorem up_nd {f : Str → List Str} : ∀ {ks : List Str}, ks.Nodup → Ahd f ks → (up f ks).Nodup := by
  intro ks
  refine snoc_ind (P := fun ks => ks.Nodup → Ahd f ks → (up f ks).Nodup) (fun _ _ => by show [[]].Nodup; simp) (fun ks n ih hn ha => ?_) ks
  obtain ⟨h1, h2, h3⟩ := List.nodup_append.mp hn
  rw [up_snoc]
  have := ih h1 ha.pre
  exact nd_snocs this (this.filter _) fun v hv hm => h3 n ((((mem_up h1 ha.pre v).mp hv).1).subset hm) n List.mem_cons_self rfl
theorem sub_filter {ws : List Str} : ∀ {ks : List Str}, ks.Nodup → ws.Sublist ks → ks.filter (fun z => decide (z ∈ ws)) = ws := by
  intro ks hn hs
  induction hs with
  | slnil => rfl
  | @cons l1 l2 a h ih =>
    obtain ⟨n1, n2⟩ := List.nodup_cons.mp hn
    rw [List.filter_cons_of_neg (by simpa using fun m => n1 (h.subset m))]
    exact ih n2
  | @cons_cons l1 l2 a h ih =>
    obtain ⟨n1, n2⟩ := List.nodup_cons.mp hn
    rw [List.filter_cons_of_pos (by simp)]
    congr 1
    rw [← ih n2]
    refine List.filter_congr fun z hz => ?_
    have : z ≠ a := fun e => n1 (by rw [← e]; exact hz)
    rw [ih n2]
    simp [this]
/-- an up-set, told -/
def isUp (f : Str → List Str) (ws : List Str) : Bool := ws.all fun x => (f x).all fun y => decide (y ∈ ws)
theorem isUp_iff {f : Str → List Str} {ws : List Str} : isUp f ws = true ↔ closedU f ws := by
  unfold isUp closedU
  rw [List.all_eq_true]
  exact forall_congr' fun x => imp_congr_right fun _ => by rw [List.all_eq_true]; exact forall_congr' fun y => imp_congr_right fun _ => decide_eq_true_iff
/-- all up-sets, the small ones first -/
def upsOf (f : Str → List Str) (N : List Str) : List (List Str) := srtU ((pw N).filter (isUp f))
theorem ups_perm {f : Str → List Str} {N ks : List Str} (hN : N.Nodup) (hp : N.Pairwise fun a b => ltS b a = false) (hk : ks.Perm N) (ha : Ahd f ks) : ((up f ks).map srt).Perm ((pw N).filter (isUp f)) ∧ ((up f ks).map srt).Nodup := by
  have nk : ks.Nodup := hk.nodup_iff.mpr hN
  have fl : ∀ ws, ws.Sublist ks → srt ws = N.filter fun z => decide (z ∈ ws) := fun ws hs => srt_filter hN hp (hs.nodup nk) fun a => ⟨fun h => ⟨hk.mem_iff.mp (hs.subset h), decide_eq_true h⟩, fun h => of_decide_eq_true h.2⟩
  have nd : ((up f ks).map srt).Nodup := by
    unfold List.Nodup
    rw [List.pairwise_map]
    refine (up_nd nk ha).imp_of_mem fun {a b} ma mb hab e => hab ?_
    obtain ⟨sa, _⟩ := (mem_up nk ha a).mp ma
    obtain ⟨sb, _⟩ := (mem_up nk ha b).mp mb
    rw [← sub_filter nk sa, ← sub_filter nk sb]
    refine List.filter_congr fun z _ => ?_
    have : z ∈ a ↔ z ∈ b := by rw [← mem_srt, e, mem_srt]
    simp [this]
  refine ⟨(List.perm_ext_iff_of_nodup nd ((pw_nd hN).filter _)).mpr fun zs => ?_, nd⟩
  rw [List.mem_map, List.mem_filter, mem_pw, isUp_iff]
  constructor
  · rintro ⟨ws, hw, rfl⟩
    obtain ⟨g1, g2⟩ := (mem_up nk ha ws).mp hw
    refine ⟨by rw [fl ws g1]; exact List.filter_sublist, fun x hx y hy => mem_srt.mpr (g2 x (mem_srt.mp hx) y hy)⟩
  · rintro ⟨g1, g2⟩
    have ms : ∀ z, z ∈ ks.filter (fun z => decide (z ∈ zs)) ↔ z ∈ zs := fun z => by
      rw [List.mem_filter, decide_eq_true_eq]
      exact ⟨fun h => h.2, fun h => ⟨hk.mem_iff.mpr (g1.subset h), h⟩⟩
    refine ⟨ks.filter fun z => decide (z ∈ zs), (mem_up nk ha _).mpr ⟨List.filter_sublist, fun x hx y hy => (ms y).mpr (g2 x ((ms x).mp hx) y hy)⟩, ?_⟩
    refine sort_uniq ((srt_perm _).trans ((List.perm_ext_iff_of_nodup (nk.filter _) (g1.nodup hN)).mpr ms)) (srt_pw _) (List.Pairwise.sublist g1 hp)
/-- by heights what is above comes ahead -/
theorem ahd_of {N ks : List Str} {E : List (Str × Str)} (hk : ks.Perm N) (hN : N.Nodup) (an : OM.Anti E) (pw : ks.Pairwise fun a b => (OM.ab N (OM.cl E) a).length ≤ (OM.ab N (OM.cl E) b).length) : Ahd (OM.ab N (OM.cl E)) ks := by
  intro P n S e h hh ne
  obtain ⟨hN1, hr⟩ := OM.mem_ab.mp hh
  have hks : h ∈ ks := hk.mem_iff.mpr hN1
  have nN : n ∈ N := hk.mem_iff.mp (by rw [e]; simp)
  rw [e] at hks
  rcases List.mem_append.mp hks with g | g
  · exact g
  · rcases List.mem_cons.mp g with g | g
    · exact absurd g ne
    · exfalso
      rw [e] at pw
      have le := (List.pairwise_cons.mp (List.pairwise_append.mp pw).2.1).1 h g
      have sub : ∀ z ∈ n :: OM.ab N (OM.cl E) h, z ∈ OM.ab N (OM.cl E) n := fun z hz => by
        rcases List.mem_cons.mp hz with rfl | hz
        · exact OM.mem_ab.mpr ⟨nN, OM.cl_refl E _⟩
        · obtain ⟨z1, z2⟩ := OM.mem_ab.mp hz
          exact OM.mem_ab.mpr ⟨z1, OM.cl_trans hr z2⟩
      have nn : n ∉ OM.ab N (OM.cl E) h := fun m => ne (an h n (OM.cl_iff.mp (OM.mem_ab.mp m).2) (OM.cl_iff.mp hr))
      have nd2 : (n :: OM.ab N (OM.cl E) h).Nodup := List.nodup_cons.mpr ⟨nn, hN.filter _⟩
      have := (List.Perm.length_eq ((List.perm_ext_iff_of_nodup nd2 (((hN.filter (OM.cl E n)).filter fun z => decide (z ∈ n :: OM.ab N (OM.cl E) h)))).mpr fun z => by
        rw [List.mem_filter, decide_eq_true_eq]
        exact ⟨fun m => ⟨sub z m, m⟩, fun m => m.2⟩))
      have l2 := List.length_filter_le (fun z => decide (z ∈ n :: OM.ab N (OM.cl E) h)) (N.filter (OM.cl E n))
      rw [List.length_cons] at this
      have e3 : (OM.ab N (OM.cl E) n).length = (N.filter (OM.cl E n)).length := rfl
      omega
end ZB

set_option Elab.async false
set_option linter.all false
set_option maxRecDepth 100000
set_option maxHeartbeats 1000000
/-! list(d.values()), d a known dict -/
namespace ZB
open PySem PySem.Spec PyProof.Rows L2 Z
section
variable {X : Cx}
def rListV : List V → Hp → VK → Prop := fun xs H Q => ∃ q d o kvs, xs = [.ref q] ∧ H q = some (ValO q d) ∧ H d = some (.frz o (.dK kvs)) ∧ kvs.length ≤ 1000 ∧ ∀ l H', H l = none → Same H H' → H' l = some (.lst (kvs.map (·.2))) → Q (.ref l) H'
end
end ZB

set_option Elab.async false
set_option linter.all false
set_option maxRecDepth 100000
set_option maxHeartbeats 1000000
/-! name = {..} on one line, where a name of the comprehension is a name of the def -/
namespace L2
open PySem PySem.Spec PyProof.Rows
section
variable {X : Cx}
end
end L2

set_option Elab.async false
set_option linter.all false
set_option maxRecDepth 100000
set_option maxHeartbeats 1000000
/-! a token is out: from a written int in a test on; list comprehensions and tuples behind it -/
namespace ZX
open PySem PySem.Spec PyProof.Rows L2
theorem thnT {α : Type} {t : Sem α} {Q Q' : α → Shared → Prop} {M : Model} {A : Around} {E : Value → Shared → Prop} {s : Shared} {n : Nat} (hn : n ≤ s.toks) (h : wpAny M A t Q E s) (k : ∀ a s', n ≤ s'.toks → Q a s' → Q' a s') : wpAny M A t Q' E s :=
  wpAny_mono (PySem.wpAny_toks_of hn h) (fun a s' x => k a s' x.1 x.2) fun _ _ x => x.2
theorem thnTF {α : Type} {t : Sem α} {Q Q' : α → Shared → Prop} {M : Model} {A : Around} {E : Value → Shared → Prop} {s : Shared} {n : Nat} (hn : n ≤ s.toks) (h : wpAny M A t Q (fun _ _ => False) s) (k : ∀ a s', n ≤ s'.toks → Q a s' → Q' a s') : wpAny M A t Q' E s :=
  wpAny_mono (PySem.wpAny_toks_of hn h) (fun a s' x => k a s' x.1 x.2) fun _ _ x => False.elim x.2
section
variable {X : Cx} {a b c e : Expr} {ta tb tc te : TE} {pos p p' : Pos}
def PEk (X : Cx) (e : Expr) (t : TE) : Prop :=
  ∀ (pins : List (Addr × Obj)) (s : Shared) (σ : L2.St) (H : Hp) (Q : VK), Inv X pins σ H s → t σ H Q → wpAny (model X.prog X.w) X.A (eval e X.env) (fun v s' => 1 ≤ s'.toks ∧ EP X pins σ Q v s') X.xe s
theorem pek_int {n : Int} {j : Nat} : PEk X (.Constant (.int n) j pos) (tC (.int n)) := by
  intro pins s σ H Q I h
  exact wpAny_Constant_int ⟨by show 1 ≤ s.toks + 1; omega, .int n, H, I.tok _, ⟨s.toks, rfl⟩, h⟩
theorem pek_op {op : Operator} {r : R2} (ho : OpR X (binaryOp op) r) (ha : PEk X a ta) (hb : PE X b tb) : PEk X (.BinOp a op b pos) (tOp r ta tb) := by
  intro pins s σ H Q I h
  refine wpAny_BinOp (thn (ha pins s σ H _ I h) fun v s1 ⟨k1, x, H1, I1, r1, q1⟩ => thnT k1 (hb.run pins s1 σ H1 _ I1 q1) fun u s2 k2 ⟨y, H2, I2, r2, q2⟩ => ?_)
  exact thnT k2 (ho pins s2 σ H2 x y v u Q I2 r1 r2 q2) fun z s3 k3 q3 => ⟨k3, q3⟩
/-- a test; where it is False a token is out -/
def PTk (X : Cx) (e : Expr) (t : TT) : Prop :=
  ∀ (wh : Sem Value) (pins : List (Addr × Obj)) (s : Shared) (σ : L2.St) (H : Hp) (Q : Bool → Hp → Prop), Inv X pins σ H s → t σ H Q → wpAny (model X.prog X.w) X.A (isTrue e X.env wh) (fun b s' => (b = false → 1 ≤ s'.toks) ∧ ∃ H', Inv X pins σ H' s' ∧ Q b H') X.xe s
theorem ptk_cmpR {op : CmpOp} {r : R2} (ho : OpR X (compareOp op) r) (ha : PE X a ta) (hb : PEk X b tb) (hm : behindInMarks op b = false) :
    ∀ (pins : List (Addr × Obj)) (s : Shared) (σ : L2.St) (H : Hp) (Q : Bool → Hp → Prop), Inv X pins σ H s → tTest (tOp r ta tb) σ H Q → wpAny (model X.prog X.w) X.A (isTrue (.Compare a [op] [b] pos) X.env (eval (.Compare a [op] [b] pos) X.env)) (fun b s' => 1 ≤ s'.toks ∧ ∃ H', Inv X pins σ H' s' ∧ Q b H') X.xe s := by
  intro pins s σ H Q I h
  refine wpAny_isTrue_Compare1 (thn (ha.run pins s σ H _ I h) fun v s1 ⟨x, H1, I1, r1, q1⟩ => thn (hb pins s1 σ H1 _ I1 q1) fun u s2 ⟨k2, y, H2, I2, r2, q2⟩ =>
    thnT k2 (ho pins s2 σ H2 x y v u _ I2 r1 r2 q2) fun c s3 k3 ⟨z, H3, I3, r3, k, e, q3⟩ => ?_) hm
  subst e
  cases r3
  exact wpAny_truthy_bool ⟨k3, H3, I3, q3⟩
theorem ptk_or {tA tB : TT} (ha : PT X a tA)
    (hb : ∀ (pins : List (Addr × Obj)) (s : Shared) (σ : L2.St) (H : Hp) (Q : Bool → Hp → Prop), Inv X pins σ H s → tB σ H Q → wpAny (model X.prog X.w) X.A (isTrue b X.env (eval b X.env)) (fun b s' => 1 ≤ s'.toks ∧ ∃ H', Inv X pins σ H' s' ∧ Q b H') X.xe s) :
    PTk X (.BoolOp .Or [a, b] pos) (tOr tA tB) := by
  intro wh pins s σ H Q I h
  refine isTrue_or (thn (ha.run pins s σ H _ I h) fun c s1 ⟨H1, I1, q1⟩ => ?_)
  cases c with
  | true => exact ⟨fun z => by (cases z), H1, I1, q1⟩
  | false =>
    refine isTrue_or (thn (hb pins s1 σ H1 Q I1 q1) fun c s2 ⟨k2, H2, I2, q2⟩ => ?_)
    cases c with
    | true => exact ⟨fun z => by (cases z), H2, I2, q2⟩
    | false => exact isTrue_or_nil ⟨fun _ => k2, H2, I2, q2⟩
/-- if c: return e, and what follows it -/
theorem pssk_if {tt : TT} {u : TS} {rest : List Stmt} (hc : PTk X c tt) (he : PE X e te) (hr : PSsT X rest u) : PSs X (.If c [.Return (some e) p] [] p' :: rest) (tSeq (tIfS tt (tSeq (tRet te) tNext) tNext) u) := by
  refine ⟨fun pins s σ H D I h => ?_⟩
  refine wpAny_execs_cons (wpAny_If (thn (hc _ pins s σ H _ I h) fun d s1 ⟨k1, H1, I1, q1⟩ => ?_))
  cases d with
  | true =>
    refine wpAny_execs_cons (wpAny_Return_some (thn (he.run pins s1 σ H1 _ I1 q1) fun v s2 ⟨x, H2, I2, r2, q2⟩ => ?_))
    exact ⟨x, σ, H2, I2, r2, q2⟩
  | false =>
    refine wpAny_execs_nil ?_
    exact hr pins s1 σ H1 D (k1 rfl) I1 q1
theorem pet_tup {es : List Expr} {t : TA} {x1} (h : PAT X es t) : PET X (.Tuple es x1 pos) (tTup t) := by
  intro pins s σ H Q h0 I hq
  refine wpAny_Tuple_spliced (thn (h pos pins s σ H _ h0 I hq) fun us s1 ⟨xs, H1, I1, r, z, q⟩ => ⟨by rw [← r.length]; exact z, ?_⟩)
  have hf : H1 s1.heap.objs.size = none := I1.hok.fresh (Nat.le_refl _)
  refine ⟨.ref s1.heap.objs.size, upd H1 s1.heap.objs.size (.tup xs), I1.laid (t' := s1.toks) (fun b u e => Heap.get?_push_of_some _ e) (Nat.le_refl _) ?_, rfl, q _ hf⟩
  exact ⟨z, us, r, ⟨_, Heap.get?_push_size _ rfl, rfl, _, rfl⟩⟩
theorem lc_coreT {pins : List (Addr × Obj)} {s : Shared} {σ : L2.St} {H : Hp} {Q : VK} {elt tg iter : Expr} {ifs : List Expr} {scope : Scope} {own : List (Str × Nat)} {pos pos' : Pos} {wi : TI} {g : TG} {tt : TT} {te : TE} {use : Option (Value → Sem Unit)} {Qf : Value → Shared → Prop}
    (h0 : 1 ≤ s.toks) (hc : X.calm = true) (hN : X.N.Nodup) (I : Inv X pins σ H s) (hi : PI X tg iter wi) (ok : BlkOk X.N X.env.scope scope own)
    (hg : ∀ (s : Shared) (H : Hp) (C : Addr) (cl : List (Str × Addr)) (fp : List Addr), PG (X.blk s H scope (compEnvC scope cl C X.env) fp) tg g) (ht : ∀ (s : Shared) (H : Hp) (C : Addr) (cl : List (Str × Addr)) (fp : List Addr), PTs (X.blk s H scope (compEnvC scope cl C X.env) fp) ifs tt)
    (he : ∀ (s : Shared) (H : Hp) (C : Addr) (cl : List (Str × Addr)) (fp : List Addr), PET (X.blk s H scope (compEnvC scope cl C X.env) fp) elt te) (hs : ∀ x, foldedSetIterable iter X.env x = pure x)
    (h : tLc wi g tt te (own.map (·.2)) σ H Q)
    (hRR : ∀ D C s' m H', Inv X pins σ H' s' → Q (.ref D) H' → s'.heap.Ns C m → FpOk X pins H' C → compPost (model X.prog X.w) X.A X.xe use Qf (.ref D) C (.ok .next) s') :
    wpAny (model X.prog X.w) X.A (comprehension (.ListComp elt [⟨tg, iter, ifs, 0⟩] scope pos) scope X.env pos' (newList []) false (eval iter X.env) use) Qf X.xe s := by
  have hfree : ∀ y ∈ scope.names, y.2 = .free → ∃ c, X.env.cells.lookup y.1 = some c := fun y hy e => by
    rcases ok.free y hy e with k | k
    · exact I.ok.has _ (.inl k)
    · exact I.ok.has _ (.inr k)
  refine wpAny_comprehension_free (use := use) rfl hs (closure_ok hfree) ok.kind (fun y hy e => by rw [ok.uniq y hy, e])
    (thnT h0 (hi.run pins s σ H _ I h) fun xv s1 k1 hx => thnT k1 hx fun itv s2 k2 h2 => ?_)
  obtain ⟨it, fp, tn, J, H2, e, I2, T, st2, f2, q⟩ := h2
  subst e
  refine wpAny_newObj_type (newEnv_comp ?_) (by show 0 ≤ sizeLine; decide)
  generalize hD : s2.heap.objs.size = D
  have hDn : H2 D = none := I2.hok.fresh (Nat.le_of_eq hD)
  obtain ⟨W, ⟨m0, w0⟩, turn⟩ := q D hDn
  generalize hs3 : ({ s2 with heap := s2.heap.push { cls := .type "list", data := .seq ([] : List Value).toArray } } : Shared) = s3
  have k3 : 1 ≤ s3.toks := by rw [← hs3]; exact k2
  have I3 : Inv X pins σ (upd H2 D (.lst [])) s3 := by
    rw [← hs3]
    refine I2.laid (t' := s2.toks) (fun b o e => Heap.get?_push_of_some _ e) (Nat.le_of_eq hD) ⟨Nat.zero_le _, [], 0, .nil, ?_⟩
    rw [← hD]
    exact Heap.get?_push_size _ rfl
  have h3 : s3.heap = s2.heap.push { cls := .type "list", data := .seq ([] : List Value).toArray } := by rw [← hs3]
  have sz : ∀ b ∈ fp, b < s2.heap.objs.size := fun b hb => by
    obtain ⟨o, e, _⟩ := T.obj _ _ st2 b hb
    exact Heap.lt_size e
  have f3 : ∀ b ∈ fp, FpOk X pins (upd H2 D (.lst [])) b ∧ b < s3.heap.objs.size := fun b hb => by
    have hlt := sz b hb
    refine ⟨⟨?_, (f2 b hb).2⟩, by rw [h3, Heap.size_push]; exact Nat.lt_succ_of_lt hlt⟩
    rw [upd_ne (by rw [← hD]; exact Nat.ne_of_lt hlt)]
    exact (f2 b hb).1
  have st3 : tn 0 s3.heap := T.keep _ _ _ st2 fun b _ o e => by rw [h3]; exact Heap.get?_push_of_some _ e
  have I4 := block_start I3 ok hN f3
  have pg := hg s3 (upd H2 D (.lst [])) s3.heap.objs.size (cellsFrom (s3.heap.objs.size + 1) scope.names (cloFrom X.env.cells scope.names [])) fp
  have pt := ht s3 (upd H2 D (.lst [])) s3.heap.objs.size (cellsFrom (s3.heap.objs.size + 1) scope.names (cloFrom X.env.cells scope.names [])) fp
  have pe := he s3 (upd H2 D (.lst [])) s3.heap.objs.size (cellsFrom (s3.heap.objs.size + 1) scope.names (cloFrom X.env.cells scope.names [])) fp
  show codeAny _ _ (.compStart (.ListComp elt [⟨tg, iter, ifs, 0⟩] scope pos) 0 (.ref it) (.ref D) (compEnvC scope (cellsFrom (s3.heap.objs.size + 1) scope.names (cloFrom X.env.cells scope.names [])) s3.heap.objs.size X.env)) (compPost (model X.prog X.w) X.A X.xe use Qf (.ref D) s3.heap.objs.size) { s3 with heap := pushCells (s3.heap.push { cls := .type "dict", data := .dict #[] }) scope.names }
  have nfp : ∀ b ∈ fp, (upd H2 D (.lst [])) b = none := fun b hb => (f3 b hb).1.1
  generalize hce : compEnvC scope (cellsFrom (s3.heap.objs.size + 1) scope.names (cloFrom X.env.cells scope.names [])) s3.heap.objs.size X.env = ce at I4 pg pt pe ⊢
  have cL : ce.locals = s3.heap.objs.size := by subst hce; rfl
  generalize hH3 : upd H2 D (.lst []) = H3 at I3 I4 pg pt pe w0 nfp f3
  generalize hs4 : ({ s3 with heap := pushCells (s3.heap.push { cls := .type "dict", data := .dict #[] }) scope.names } : Shared) = s4 at I4 ⊢
  have k4 : 1 ≤ s4.toks := by rw [← hs4]; exact k3
  have st4 : tn 0 s4.heap := T.keep _ _ _ st3 fun b _ o e => by rw [← hs4]; exact pushCells_keeps _ _ _ _ (Heap.get?_push_of_some _ e)
  have stat : ∀ {σ' : L2.St} {H' : Hp} {s' : Shared}, Inv (X.blk s3 H3 scope ce fp) [] σ' H' s' → (∀ b ∈ fp, H' b = none) → ∀ b ∈ fp, FpOk (X.blk s3 H3 scope ce fp) [] H' b := fun {σ' H' s'} I' hn b hb =>
    ⟨hn b hb, (I'.ok.exf b hb).1, I'.ok.exfs b hb, .inl hb, fun x c e => (I'.ok.exf b hb).2 x c e, fun p hp => absurd (show p ∈ ([] : List (Addr × Obj)) ++ [] from hp) (by simp)⟩
  have loop : codeAny (model X.prog X.w) X.A (.compLoop (.ListComp elt [⟨tg, iter, ifs, 0⟩] scope pos) 0 (.ref it) (.ref D) ce) (compPost (model X.prog X.w) X.A X.xe use Qf (.ref D) s3.heap.objs.size) s4 := by
    refine compLoop_any (fun n s' => 1 ≤ s'.toks ∧ ∃ i H', Inv (X.blk s3 H3 scope ce fp) [] (wipe σ (own.map (·.2))) H' s' ∧ tn i s'.heap ∧ (∀ b ∈ fp, H' b = none) ∧ W i n H') ?_ m0 ⟨k4, 0, H3, I4, st4, nfp, w0⟩
    rintro n s5 ⟨k5, i, H5, I5, st5, n5, w5⟩
    rcases turn i n H5 w5 with ⟨stop, qq⟩ | ⟨go, Nx, hNx, step⟩
    · have td := T.done (X.blk s3 H3 scope ce fp) rfl rfl rfl hc i [] s5 _ H5 (fun _ _ => False) I5 (stat I5 n5) st5 stop
      refine thnF td fun r s6 ⟨hr, I6⟩ => ?_
      subst hr
      have I7 : Inv X pins σ H5 s6 := I3.call' (ch := fp) I6.os I6.base I6.hok I6.bare fun b hb => ⟨(f3 b hb).1.2.2.2.1, (f3 b hb).1.2.1, (f3 b hb).1.2.2.2.2.1, (f3 b hb).1.2.2.2.2.2⟩
      have nC : H5 s3.heap.objs.size = none := by
        have z : H5 ce.locals = none := I6.free
        rw [cL] at z
        exact z
      obtain ⟨m, hn, _⟩ := I6.loc
      have hn : s6.heap.Ns ce.locals m := hn
      rw [cL] at hn
      exact hRR D s3.heap.objs.size s6 m H5 I7 qq hn (I3.fpOk (Nat.le_refl _) nC)
    · have ti := T.item (X.blk s3 H3 scope ce fp) rfl rfl rfl hc i [] s5 _ H5 (fun _ _ => False) I5 (stat I5 n5) st5 go
      refine thnTF k5 ti fun r s6 k6 ⟨u, hr, h6⟩ => ?_
      subst hr
      refine thnTF k6 h6 fun _ s7 k7 ⟨x, H7, I7, r7, y7, st7, n7⟩ => ?_
      have I7' := I7.pinned (stat I7 n7) (T.obj _ _ st7)
      refine thnTF k7 (pg.run _ s7 _ H7 x u _ I7' r7 (step x H7 y7)) fun _ s8 k8 ⟨σ8, H8, I8, hw8, q8⟩ => ?_
      refine thnTF k8 (pt.run _ s8 σ8 H8 _ I8 q8) fun b s9 k9 ⟨H9, I9, q9⟩ => ?_
      have fin : ∀ {s' : Shared} {H' : Hp}, 1 ≤ s'.toks → Inv (X.blk s3 H3 scope ce fp) ([] ++ pinsAt fp s7.heap) σ8 H' s' → Nx H' → ∃ m, m < n ∧ 1 ≤ s'.toks ∧ ∃ i H', Inv (X.blk s3 H3 scope ce fp) [] (wipe σ (own.map (·.2))) H' s' ∧ tn i s'.heap ∧ (∀ b ∈ fp, H' b = none) ∧ W i m H' := fun {s' H'} k' I' nx => by
        obtain ⟨m', hm, w'⟩ := hNx H' nx
        have pin' : ∀ b ∈ fp, ∀ o, s7.heap.get? b = some o → s'.heap.get? b = some o ∧ H' b = none := fun b hb o e =>
          let z := I'.pin (b, o) (List.mem_append_right _ (List.mem_append_right _ (mem_pinsAt hb e)))
          ⟨z.1, z.2.1⟩
        have hl : (wipe σ (own.map (·.2))).length = σ8.length := by rw [← hw8, wipe_length]
        refine ⟨m', hm, k', i + 1, H', (I'.unpinned (pins := [])).weak hl (fun j v e => ?_), T.keep _ _ _ st7 fun b hb o e => (pin' b hb o e).1, fun b hb => ?_, w'⟩
        · rw [← hw8] at e
          exact (wipe_some e).1
        · obtain ⟨o, e, _⟩ := T.obj _ _ st7 b hb
          exact (pin' b hb o e).2
      cases b with
      | false =>
        simp only [Bool.false_eq_true, if_false] at q9 ⊢
        exact fin k9 I9 q9
      | true =>
        simp only [if_true] at q9 ⊢
        refine thnTF k9 (pe _ s9 σ8 H9 _ k9 I9 q9) fun z s10 k10 ⟨yv, H10, I10, r10, acc, hD10, hz10, nx⟩ => ?_
        refine thnT (E := notedBy (model X.prog X.w) X.A ce fun e s' => compPost (model X.prog X.w) X.A X.xe use Qf (.ref D) s3.heap.objs.size (.error e) s') k10 (app_ok (X := X.blk s3 H3 scope ce fp) (Q := fun _ s11 => 1 ≤ s11.toks → ∃ m, m < n ∧ 1 ≤ s11.toks ∧ ∃ i H', Inv (X.blk s3 H3 scope ce fp) [] (wipe σ (own.map (·.2))) H' s11 ∧ tn i s11.heap ∧ (∀ b ∈ fp, H' b = none) ∧ W i m H') I10 hD10 hz10 r10 fun s11 I11 k11 => fin k11 I11 nx) fun _ s11 k11 q => q k11
  exact codeAny_compStart_list loop (T.self X.A 0 _ _ _ st4 loop)
end

theorem pst_setLc {X : Cx} {i : Nat} {y : Str} {py : Pos} {elt tg iter : Expr} {ifs : List Expr} {scope : Scope} {own : List (Str × Nat)} {pos spos : Pos} {wi : TI} {g : TG} {tt : TT} {te : TE} (hc : X.calm = true) (hN : X.N.Nodup) (hy : X.N[i]? = some y) (hyl : X.env.scope.names.lookup y = some .local)
    (hsw : swapsWith (.ListComp elt [⟨tg, iter, ifs, 0⟩] scope pos) (some (.Name y py)) spos.line X.env = pure true) (hi : PI X tg iter wi) (ok : BlkOk X.N X.env.scope scope own)
    (hg : ∀ (s : Shared) (H : Hp) (C : Addr) (cl : List (Str × Addr)) (fp : List Addr), PG (X.blk s H scope (compEnvC scope cl C X.env) fp) tg g) (ht : ∀ (s : Shared) (H : Hp) (C : Addr) (cl : List (Str × Addr)) (fp : List Addr), PTs (X.blk s H scope (compEnvC scope cl C X.env) fp) ifs tt)
    (he : ∀ (s : Shared) (H : Hp) (C : Addr) (cl : List (Str × Addr)) (fp : List Addr), PET (X.blk s H scope (compEnvC scope cl C X.env) fp) elt te) (hs : ∀ x, foldedSetIterable iter X.env x = pure x := by intro _; rfl) :
    PST X (.Assign [.Name y py] (.ListComp elt [⟨tg, iter, ifs, 0⟩] scope pos) spos) (tAsg (tLc wi g tt te (own.map (·.2))) (gName i)) := by
  intro pins s σ H D k0 I h
  rw [exec_Assign_Name_used _ _ _ _ hsw]
  refine wpAny_bind (wpAny_standAt (wpAny_bind ?_))
  show wpAny _ X.A (do let _ ← comprehension (.ListComp elt [⟨tg, iter, ifs, 0⟩] scope pos) scope X.env (firstIterPos [⟨tg, iter, ifs, 0⟩] pos) (newList []) false (eval iter X.env) (some (assign (.Name y py) X.env))) _ _ s
  have h : tLc wi g tt te (own.map (·.2)) σ H (fun x H1 => gName i x σ H1 D.nx) := h
  refine wpAny_bind (thn (lc_coreT (Qf := fun _ s' => SP X pins D .next s') k0 hc hN I hi ok hg ht he hs h fun L C s' m H' I' q hn f => ?_) fun _ s' hq => wpAny_pure (wpAny_pure hq))
  show wpAny _ _ (assign (.Name y py) X.env (.ref L)) _ _ _
  refine wpAny_assign_Name (store_ok2 (v := V.ref L) I' hN hy (.inl hyl) rfl (fun s2 I2 ⟨a, sb, ha⟩ => ?_) (.inr hyl))
  obtain ⟨f0, f1, f2, f3, f4, f5⟩ := f
  have haC : C ≠ a := by
    rcases ha with z | z
    · rw [z]; exact f1
    · exact fun e => f4 y a z e.symm
  refine ⟨m, hn.sameBut sb haC, fun h3 sb3 => ?_⟩
  exact ⟨_, H', I2.turned (t' := s2.toks) (fun b o hb e => (sb3.2 b hb).trans e) f0 f1 f3 f4 f5, q⟩
section
open Z
variable {X : Cx} {CX : CXT} {j k : Nat} {C : Addr} {sp : Sp} {E : L2.St → XK} {o : Expr} {m : Str} {pos apos : Pos} {ta : TE}
/-- C.m(), m a classmethod -/
theorem z_cmethC0 {pl : Sem Bool} (ho : PE X o ta) (d : CalK X.prog X.w X.K X.mg X.base C m k sp) (hr : Room j X.A) (hx : ∀ σ, PassesAt (L2.CX X.prog X.w) X σ (E σ)) (hj : k ≤ j := by decide)
    (ht : eval (.Call (.Attribute o m apos) [] [] pos) X.env = (do
      let ov ← eval o X.env
      standAt apos.atName
      let (f, first) ← holding [ov] (getMethod ov m pl)
      callWith pos f first (backTo pos (starEach [] X.env)) (backToKw pos (keywordEach [] X.env))) := by rfl) :
    PE X (.Call (.Attribute o m apos) [] [] pos) (tCMethS C sp E ta tNil) := by
  obtain ⟨mc, pp, g, r, c, F⟩ := d
  constructor
  intro pins s σ H Q I h
  refine PySem.W.methodCall_KW (pl := pl) (thn (ho.run pins s σ H _ I h) fun u s1 hh => ?_) ht
  obtain ⟨x, H1, I1, rx, ex, q⟩ := hh
  subst ex
  obtain rfl : u = Value.ref C := rx
  apply ClX.getmethcm_ok I1 r c
  intro s2 I2
  refine PySem.W.callWith_M0 (first := []) ⟨ClX.pin_at I2, I2.kIn⟩ c.fi ?_
  have z : wpAny (model X.prog X.w) X.A (call (.ref s1.heap.objs.size) []) (EP X ((s1.heap.objs.size, PySem.W.methodObj (.ref g) (.ref C)) :: pins) σ Q) X.xe s2 := by
    refine wpAny_call (PySem.W.method_call (ClX.pin_at I2) ?_)
    refine codeAny_mono (F X.A X.stack s2 H1 [.ref C] [.ref C] Q (E σ) (hr.mono hj) I2.env0 (.cons rfl .nil) q) fun a s' hq => ?_
    rcases a with er | fl
    · exact hx σ _ H1 s2 er s' I2 hq
    · rcases fl with _ | _ | _ | v
      · exact False.elim hq
      · exact False.elim hq
      · exact False.elim hq
      · exact I2.after hq
  exact thn z fun _ _ y => ClX.unpinE y
end
end ZX

set_option Elab.async false
set_option linter.all false
set_option maxRecDepth 100000
set_option maxHeartbeats 1000000
/-! sorted of a list of pairs of texts -/
namespace ZB
open PySem PySem.Spec PyProof.Rows L2 PySem.W Z
abbrev PT := Addr × Str × Str
def encP (b : PT) : PyData := .tuple [.str b.2.1, .str b.2.2]
noncomputable def srtP (bs : List PT) : List PT := bs.mergeSort (dataLe false encP)
theorem srtP_perm (bs : List PT) : (srtP bs).Perm bs := List.mergeSort_perm _ _
def PsAt (H : Hp) (bs : List PT) : Prop := ∀ b ∈ bs, H b.1 = some (.tup [.str b.2.1, .str b.2.2])
def refP (bs : List PT) : List V := bs.map fun b => V.ref b.1
theorem eachP {R : Value → PT → Prop} : ∀ {bs : List PT} {its : List Value}, Vals (refP bs) its → (∀ b ∈ bs, ∀ u, RelV (V.ref b.1) u → R u b) → EachIs R its bs
  | [], its, r, h => by cases r; exact .nil
  | b :: bs, _, r, h => by
    cases r with
    | cons r1 r2 => exact .cons (h b List.mem_cons_self _ r1) (eachP r2 fun c hc => h c (List.mem_cons_of_mem _ hc))
theorem valsP : ∀ {bs : List PT} {out : List Value}, EachIs (fun (v : Value) (b : PT) => v = Value.ref b.1) out bs → Vals (refP bs) out
  | [], _, h => by cases h; exact .nil
  | b :: bs, _, h => by
    cases h with
    | cons h1 h2 => exact .cons h1 (valsP h2)
theorem alike_encP (bs : List PT) : AllAlike (bs.map encP) := AllAlike.of fun x y => rfl
def rSortP (K : PySem.W.Frag) : List V → Hp → VK → Prop := fun vs H Q => ∃ (a : Addr) (bs : List PT), vs = [.ref a] ∧ H a = some (.lst (refP bs)) ∧ PsAt H bs ∧ bs.length ≤ 1000 ∧
  ∀ q H', H q = none → Same H H' → H' q = some (.lst (refP (srtP bs))) → Q (.ref q) H'
section
variable {X : Cx} {pins : List (Addr × Obj)} {σ : L2.St} {H : Hp} {s : Shared}
theorem cr_sortP (hu : X.A.units + 5 < cLine) : CallR X (.builtin "sorted") (rSortP X.K) := by
  intro pins s σ H xs us Q I r h
  obtain ⟨a, bs, rfl, ea, hT, hz, q⟩ := h
  obtain ⟨u, rfl, rx⟩ := vals1 r
  cases rx
  obtain ⟨its, rv, pl, _⟩ := I.list (.of (K := X.K) ea)
  have hl := pl.isList
  have sL : (1000 : Nat) < sizeLine := by rw [sizeLine_eq]; decide
  have lr : (refP bs).length = bs.length := List.length_map _
  have er : EachIs (fun (v : Value) (b : PT) => ∃ as, Reads s.heap v (encP b) as) its bs := eachP rv fun b hb u ru => by
    exact Dp.reads I _ _ u (.tup (.of (hT b hb)) (.cons (.str _) (.cons (.str _) .nil))) ru
  have e0 : EachIs (fun (v : Value) (b : PT) => v = Value.ref b.1) its bs := eachP rv fun b hb u ru => ru
  refine sorted_data hl e0 er (alike_encP bs) (Sortable.tuples fun b => ⟨_, _, rfl⟩) (by omega) (fun b hb => ?_) fun out ol ro => ?_
  · have : (encP b).depth = 1 := by
      unfold encP
      rfl
    rw [this]
    omega
  obtain ⟨c, hc⟩ := sortedAll_at s.heap its out.toArray
  have fr := I.hok.fresh (Nat.le_succ s.heap.objs.size)
  have lo : (refP (srtP bs)).length ≤ sizeLine := by
    show (List.map _ _).length ≤ _
    rw [List.length_map, (srtP_perm bs).length_eq]
    omega
  refine ⟨.ref (s.heap.objs.size + 1), upd H (s.heap.objs.size + 1) (.lst (refP (srtP bs))), I.laid (t' := s.toks) (fun b u e => sortedAll_old e) (Nat.le_succ _)
    (show ObjOk X.prog X.w _ _ _ (.lst (refP (srtP bs))) from ⟨lo, _, c, valsP ro, hc⟩), rfl, q _ _ fr (fun b o e => by rw [upd_ne (ne_of_none e fr)]; exact e) upd_same⟩
end
/-! two lists of the same pairs are sorted alike -/
theorem dlP (b c : PT) : dataLe false encP b c = !ltT [c.2.1, c.2.2] [b.2.1, b.2.2] := by
  rw [dataLe_eq]
  show (!dataLt (encP c) (encP b)) = _
  rw [show encP c = .tuple ([c.2.1, c.2.2].map PyData.str) from rfl, show encP b = .tuple ([b.2.1, b.2.2].map PyData.str) from rfl, lt_tupD]
def leP (p q : Str × Str) : Bool := !ltT [q.1, q.2] [p.1, p.2]
theorem leP_trans (a b c : Str × Str) (h : leP a b = true) (k : leP b c = true) : leP a c = true := by
  unfold leP at *
  rw [Bool.not_eq_true'] at *
  exact ltT_tr _ _ _ h k
theorem leP_total (a b : Str × Str) : (leP a b || leP b a) = true := by
  unfold leP
  cases h : ltT [b.1, b.2] [a.1, a.2] with
  | false => rfl
  | true => rw [ltT_asym h]; rfl
theorem leP_anti {a b : Str × Str} (h : leP a b = true) (k : leP b a = true) : a = b := by
  unfold leP at *
  rw [Bool.not_eq_true'] at *
  have := ltT_tri _ _ k h
  injection this with e1 e2
  injection e2 with e2 _
  exact Prod.ext e1 e2
theorem srtP_map (bs : List PT) : (srtP bs).map (·.2) = (bs.map (·.2)).mergeSort leP := by
  unfold srtP
  exact List.map_mergeSort (f := fun b : PT => b.2) (s := leP) fun x _ y _ => dlP x y
theorem srtP_eq {bs cs : List PT} (h : (bs.map (·.2)).Perm (cs.map (·.2))) : (srtP bs).map (·.2) = (srtP cs).map (·.2) := by
  rw [srtP_map, srtP_map]
  have p1 := List.pairwise_mergeSort leP_trans leP_total (bs.map (·.2))
  have p2 := List.pairwise_mergeSort leP_trans leP_total (cs.map (·.2))
  exact (((List.mergeSort_perm _ _).trans h).trans (List.mergeSort_perm _ _).symm).eq_of_pairwise (fun a b _ _ h k => leP_anti h k) p1 p2
theorem dp_pairs {K : PySem.W.Frag} {H : Hp} : ∀ {bs : List PT}, PsAt H bs → DpAll K H (refP bs) ((bs.map (·.2)).map fun p => PyData.tuple [.str p.1, .str p.2])
  | [], _ => .nil
  | b :: bs, h => .cons (.tup (.of (h b List.mem_cons_self)) (.cons (.str _) (.cons (.str _) .nil))) (dp_pairs fun c hc => h c (List.mem_cons_of_mem _ hc))
theorem PsAt.perm {H : Hp} {bs : List PT} (h : PsAt H bs) : PsAt H (srtP bs) := fun b hb => h b ((srtP_perm bs).mem_iff.mp hb)
end ZB
/-! a comprehension over range(n, -1, -1) -/
namespace Z
open PySem PySem.Spec PyProof.Rows L2
section
variable {K : PySem.W.Frag} {σ : L2.St} {H : Hp} {g : TG} {tt : TT} {te : TE} {tr : TA} {Q : VK}
def rLcR3 (g : TG) (tt : TT) (te : TE) (vs : List Nat) (σ : L2.St) (Q : VK) (ws : List V) (H1 : Hp) : Prop := ∃ (i j c : Int) (n : Nat), ws = [.int i, .int j, .int c] ∧ RgC i j c n ∧ ∀ D, H1 D = none → ∃ W : Nat → Nat → Hp → Prop, (∃ m, W 0 m (upd H1 D (.lst []))) ∧ ∀ k m H, W k m H →
  ((Itc i c n).stop k H ∧ Q (.ref D) H) ∨ ((Itc i c n).go k H ∧ ∃ Nx : Hp → Prop, (∀ H', Nx H' → ∃ m', m' < m ∧ W (k + 1) m' H') ∧ ∀ x H', (Itc i c n).yld k H x H' → g x (wipe σ vs) H' fun σ2 H2 => wipe σ2 vs = wipe σ vs ∧ tt σ2 H2 fun b H3 =>
    if b = true then te σ2 H3 fun y H4 => ∃ acc, H4 D = some (.lst acc) ∧ acc.length < sizeLine ∧ Nx (upd H4 D (.lst (acc ++ [y]))) else Nx H3)
theorem i_lcR30 {vs : List Nat} (h : tr σ H (fun ws H1 => rLcR3 g tt te vs σ Q ws H1)) : tLc (iRng3 tr) g tt te vs σ H Q := by
  show tr σ H _
  exact h
theorem i_lcDn {vs : List Nat} {n : Nat} {a b c : Int} (ha : a = (n : Int)) (hb : b = -1) (hc : c = -1) (hn : n < 100000) (Pv : Nat → List V → Hp → Prop) (h0 : ∀ D H', H D = none → Same H H' → H' D = some (.lst []) → (∀ b, b ≠ D → H' b = H b) → Pv 0 [] H')
    (hs : ∀ k D ys H1, H D = none → k < n + 1 → H1 D = some (.lst ys) → Pv k ys H1 → ∀ z : Int, z = ((n - k : Nat) : Int) → g (.int z) (wipe σ vs) H1 fun σ2 H2 => wipe σ2 vs = wipe σ vs ∧ tt σ2 H2 fun b H3 => if b = true then te σ2 H3 fun y H4 => rLcE D Pv k y H4 else LcS D Pv (k + 1) H3)
    (hd : ∀ D ys H1, H D = none → H1 D = some (.lst ys) → Pv (n + 1) ys H1 → Q (.ref D) H1) : rLcR3 g tt te vs σ Q [.int a, .int b, .int c] H := by
  subst ha hb hc
  have hR := RgC.neg (i := (n : Int)) (j := -1) (by omega) (by omega) (by omega) (by omega)
  rw [show ((n : Int) - -1).toNat = n + 1 by omega] at hR
  refine ⟨_, _, _, n + 1, rfl, hR, fun D hD => ⟨fun i m H => m = (n + 1) - i ∧ i ≤ n + 1 ∧ LcS D Pv i H, ⟨n + 1, by simp, Nat.zero_le _, [], upd_same, h0 D _ hD (fun b o e => by rw [upd_ne (ne_of_none e hD)]; exact e) upd_same (fun b hb => upd_ne hb)⟩, ?_⟩⟩
  rintro i m H' ⟨rfl, hi, p⟩
  by_cases hlt : i < n + 1
  · refine .inr ⟨hlt, LcS D Pv (i + 1), fun H2 p' => ⟨n + 1 - (i + 1), by omega, rfl, hlt, p'⟩, fun x H2 y => ?_⟩
    obtain ⟨e, y⟩ := y
    subst e y
    obtain ⟨ys, hD', p⟩ := p
    exact hs i D ys _ hD hlt hD' p _ (by omega)
  · have e : i = n + 1 := by omega
    subst e
    obtain ⟨ys, hD', p⟩ := p
    exact .inl ⟨Nat.le_refl _, hd D ys H' hD hD' p⟩
end
end Z

set_option Elab.async false
set_option linter.all false
set_option maxRecDepth 100000
set_option maxHeartbeats 4000000
namespace Z
open PySem PySem.Spec PyProof.Rows L2

local macro_rules | `(tactic| walk_at "sm") => `(tactic| first | (with_reducible assumption) | ((with_reducible refine' IsR.mono ?s ?h); (case s => with_reducible assumption); (case h => walk_at "sm")) | ((with_reducible refine' Same.at ?s ?h); (case s => with_reducible assumption); (case h => walk_at "sm")) | ((with_reducible refine' Same.seq ?s ?h); (case s => with_reducible assumption); (case h => walk_at "sm")) | ((with_reducible refine' SqL.of ?h); (case h => walk_at "sm")))
local macro_rules | `(tactic| walk_at "cd") => `(tactic| first | assumption | exact cmulW (by assumption) (by assumption) | exact cmulW (ZR.Bd.n (by assumption)) (ZR.Bd.n (by assumption)) | exact cmulW (ZR.Bd.n (by assumption)) (ZR.Bd.d (by assumption)) | exact cmulW (ZR.Bd.d (by assumption)) (ZR.Bd.d (by assumption)) | exact cmulW (ZR.Bd.d (by assumption)) (ZR.Bd.n (by assumption)) | exact (by show (0 : Int) < _; decide) | exact .inr ⟨by decide, by decide⟩ | exact .inl ⟨by decide, by decide⟩ | exact ⟨by decide, by decide⟩ | exact ⟨by decide, by decide, by decide⟩)
local macro_rules | `(tactic| walk_at "r1") => `(tactic| first
  | (with_reducible first
  | refine i_seq ?_ | refine i_next ?_ | refine i_asg ?_ | refine i_gname (by with_unfolding_all rfl) ?_ | refine i_ret ?_ | refine i_retN ?_ | refine i_drop ?_ | refine i_ifs ?_ | refine i_test ?_ | refine i_B ?_
  | refine i_bl ?_ | refine i_bl' ?_ | refine i_and ?_ | refine i_or ?_ | refine i_not ?_ | refine i_andV ?_ | refine i_orV ?_ | refine i_notV ?_ | refine i_ifx ?_
  | refine i_tt ?_ | refine i_ff ?_ | refine i_nt ?_ | refine i_nf ?_
  | refine i_var (by with_unfolding_all rfl) ?_ | refine i_c ?_ | refine i_op ?_ | refine i_un ?_ | refine i_cons ?_ | refine i_nil ?_ | refine i_cb ?_ | refine i_call ?_ | refine i_lst0 ?_ | refine i_tup0 ?_
  | refine i_fld0 ?_ | refine i_put0 ?_ | refine i_meth ?_ | refine i_make ?_ | refine i_mkO ?_ | refine i_fmt ?_ | refine i_jsC ?_ | refine i_jsN ?_ | refine i_bits0 ?_ | refine i_bits ?_
  | refine i_tvd ?_ | refine i_xat ?_ | refine i_fmtL ?_ | refine i_forA0 ?_ | refine i_enA0 ?_ | refine i_lcA0 ?_ | refine i_lc2A0 ?_ | refine i_dcA0 ?_ | refine i_dget0 ?_ | refine i_din0 ?_ | refine i_dput0 ?_ | refine i_tru0 ?_ | refine i_fmtR ?_ | refine i_bm0 ?_ | refine i_gn ?_ | refine i_xf ?_ | refine i_chain ?_ | refine i_sl ?_ | refine i_noPart ?_ | refine i_part ?_ | refine i_part1 ?_ | refine i_revL ?_ | refine i_lcS0 ?_ | refine i_tve ?_ | refine i_ost ?_ | refine i_forL0 ?_ | refine i_forT0 ?_ | refine i_forR0 ?_ | refine i_lcL0 ?_ | refine i_yes ?_ | refine i_gsub ?_ | refine i_par ?_ | refine i_par1 ?_ | refine i_gc ?_ | refine i_gn ?_ | refine i_bm ?_
  | refine i_lcR10 ?_ | refine i_lcR30 ?_ | refine i_lzip ?_ | refine i_mkV ?_ | refine i_fmtSO ?_ | refine i_revA0 ?_ | refine i_truO0 ?_ | refine i_lcR20 ?_ | refine i_lc2R0 ?_ | refine i_enS0 ?_ | refine i_dnin0 ?_ | refine i_forK0 ?_ | refine i_lcK0 ?_ | refine i_forO0 ?_ | refine i_lcO0 ?_ | refine i_forZ0 ?_ | refine i_dget20 ?_ | refine i_dpop0 ?_ | refine i_vals0 ?_ | refine i_frzE0 ?_ | refine i_lcI0 ?_ | refine i_ev0 ?_ | refine i_dcZ0 ?_ | refine i_lcZO0 ?_ | refine i_lcZS0 ?_ | refine i_dzip0 ?_ | refine i_forZM0 ?_
  | refine i_rI0 ?_ | refine i_rU ?_ | refine i_eqI ?_ | refine i_neI ?_ | refine i_eqB ?_ | refine i_neB ?_ | refine i_eqS ?_ | refine i_neS ?_ | refine i_gcd ?_)
  | ((with_reducible refine i_rI ?c ?_); (case c => walk_at "cd"))
  | walk_at "r2")
local macro_rules | `(tactic| walk_at "rd") => `(tactic| repeat walk_at "r1")
local macro_rules | `(tactic| walk_at "rb") => `(tactic| ((try dsimp only); repeat walk_at "r1"))

local macro_rules | `(tactic| walk_at "r2") => `(tactic| with_reducible first | refine i_mkO ?_)
def top (i : Nat) : Stmt := PySem.Challenge.pw_onethrow_k17_chains_and_crowns.main.body.getD i (.Pass ⟨0, 0, 0, 0⟩)
def spShown : Sp := fun vs H Q _ => vs.length = 1 ∧ ∃ n : Int, vs = [.int n] ∧ ZR.Sz 1000 n ∧ ∀ y : Str, y.length ≤ 2000 → Q (.str y) H
def GInt : V → Hp → Prop := fun v _ => ∃ n : Int, v = .int n ∧ ZR.Sz 1000 n
abbrev s__shown : Stmt := top 1
theorem sc__shown : FnScope ["n"] ["n"] (defScope s__shown) := ⟨rfl, rfl, rfl, by decide +kernel, rfl, by decide +kernel, by decide +kernel⟩
theorem ok__shown {P : Program} {w : World} {K : PySem.W.Frag} {mg : Str → Option Value} {base : Heap} {f : Addr} {fd : FuncData} (F : L2.Fun K "_shown" "_shown" s__shown f fd)
    (C_b_int : mg "int" = none)
    (C_b_isinstance : mg "isinstance" = none)
    (C_b_str : mg "str" = none) :
    FnOk P w K mg base (L2.CX P w) 1 f fd ["n"] spShown := by
  refine fnOk_mk F sc__shown (fun vs H Q E h => h.1) (fun cdv A outer s H vs Q E hr h => ?_)
  obtain ⟨_, n, rfl, hz, k⟩ := h
  refine ⟨_, pss_cons (ps_if (PW.pt (pw_and (pt_val (pe_callB call_isi (by rfl) C_b_isinstance (by decide +kernel) (pa_cons (pv 0) (pa_cons ((pe_bltn (v := .ty "int") rfl C_b_int (by decide +kernel) rfl)) pa_nil)))) (pw_and1 (pt_cmpR op_gt (pe_bits (pv 0)) pe_int (nomark _))))) (pss_one (ps_ret pe_str)) (pss_nil))
    (pss_one (ps_ret (pe_callTy call_str_int (by rfl) C_b_str (by decide +kernel) (pa_cons (pv 0) pa_nil)))), ?_⟩
  try dsimp only [cxOf]
  walk_at "rd"
  refine i_isiT (tyInt n) (b := true) (kit_ty (by decide +kernel)) ?_
  walk_at "rd"
  refine i_dec (fun h => absurd h (bits_small hz)) fun _ => ?_
  walk_at "rd"
  exact ⟨n, rfl, PySem.Flt.log2_lt_of (by decide) (hz.mono (by decide)), k _ (Nat.le_trans (text_small (hz.mono (by decide))) (by decide))⟩
abbrev s_BadNumber___init__ : Stmt := inClass (top 3) 0
theorem sc_BadNumber___init__ : FnScope ["self", "n"] ["self", "n"] (defScope s_BadNumber___init__) := ⟨rfl, rfl, rfl, by decide +kernel, rfl, by decide +kernel, by decide +kernel⟩
theorem ok_BadNumber___init__ {P : Program} {w : World} {K : PySem.W.Frag} {mg : Str → Option Value} {base : Heap} {CB : Addr} {f : Addr} {fd : FuncData} (F : L2.Fun K "__init__" "BadNumber.__init__" s_BadNumber___init__ f fd)
    (C_f_shown : Cal P w K mg base "_shown" 1 spShown)
    (C_ox_BadNumber : OexC K CB)
    (C_t_ThrowError : CalT K mg "ThrowError")
    (C_xn_BadNumber_n : PySem.W.findIn K (.ref CB) "n" = some none) :
    FnOk P w K mg base (L2.CX P w) 2 f fd ["self", "n"] (spX1 K CB "n" GInt) := by
  refine fnOk_mk F sc_BadNumber___init__ (fun vs H Q E h => h.1) (fun cdv A outer s H vs Q E hr h => ?_)
  obtain ⟨_, a, v, rfl, ha, g, k⟩ := h
  obtain ⟨n, rfl, hz⟩ := g
  refine ⟨_, pss_cons (ps_expr (z_tinit (by rfl) C_t_ThrowError (pa_cons (pv 0) (pa_cons (pe_joined (PJ.cons pe_str (PJ.cons (pe_fmt (z_callC C_f_shown hr passN (pa_cons (pv 1) pa_nil))) PJ.nil))) pa_nil))))
    (pss_one (ps_ost (pv 0) (pv 1))), ?_⟩
  try dsimp only [cxOf]
  walk_at "rd"
  refine i_js1 (by decide +kernel) ?_
  walk_at "rd"
  refine ⟨rfl, n, rfl, hz, fun y hy => ?_⟩
  refine i_fmtS (Nat.le_trans hy (by decide)) ?_
  refine i_js1 ?_ ?_
  · rw [Str.length_append, Str.length_append]
    have e : (Str.ofString "bad number: ").length = 12 := by decide +kernel
    have e0 : Str.empty.length = 0 := by decide +kernel
    rw [e, e0, sizeLine_eq]
    omega
  walk_at "rd"
  refine i_tve1 C_ox_BadNumber ha (by show 1 ≤ 1000; decide) ?_
  walk_at "rd"
  refine i_ost1 C_ox_BadNumber C_xn_BadNumber_n ha fun dx hd hn => ?_
  exact k dx H hd hn (Same.refl _) hd
abbrev s_BadName___init__ : Stmt := inClass (top 5) 0
theorem sc_BadName___init__ : FnScope ["self", "name"] ["self", "name"] (defScope s_BadName___init__) := ⟨rfl, rfl, rfl, by decide +kernel, rfl, by decide +kernel, by decide +kernel⟩
theorem ok_BadName___init__ {P : Program} {w : World} {K : PySem.W.Frag} {mg : Str → Option Value} {base : Heap} {CN : Addr} {f : Addr} {fd : FuncData} (F : L2.Fun K "__init__" "BadName.__init__" s_BadName___init__ f fd)
    (C_ox_BadName : OexC K CN)
    (C_t_ThrowError : CalT K mg "ThrowError")
    (C_xn_BadName_name : PySem.W.findIn K (.ref CN) "name" = some none) :
    FnOk P w K mg base (L2.CX P w) 1 f fd ["self", "name"] (spX1 K CN "name" GStr) := by
  refine fnOk_mk F sc_BadName___init__ (fun vs H Q E h => h.1) (fun cdv A outer s H vs Q E hr h => ?_)
  obtain ⟨_, a, v, rfl, ha, g, k⟩ := h
  obtain ⟨z, rfl, hz⟩ := g
  refine ⟨_, pss_cons (ps_expr (z_tinit (by rfl) C_t_ThrowError (pa_cons (pv 0) (pa_cons (pe_joined (PJ.cons pe_str (PJ.cons (pe_fmtR (pv 1)) PJ.nil))) pa_nil))))
    (pss_one (ps_ost (pv 0) (pv 1))), ?_⟩
  try dsimp only [cxOf]
  walk_at "rd"
  refine i_js1 (by decide +kernel) ?_
  walk_at "rd"
  refine i_fmtRS (Nat.le_trans hz (by decide)) ?_
  refine i_js1 ?_ ?_
  · rw [Str.length_append, Str.length_append]
    have e : (Str.ofString "bad name: ").length = 10 := by decide +kernel
    have e0 : Str.empty.length = 0 := by decide +kernel
    have hz' : (reprText z).length ≤ 10000 := hz
    rw [e, e0, sizeLine_eq]
    omega
  walk_at "rd"
  refine i_tve1 C_ox_BadName ha (by show 1 ≤ 1000; decide) ?_
  walk_at "rd"
  refine i_ost1 C_ox_BadName C_xn_BadName_name ha fun dx hd hn => ?_
  exact k dx H hd hn (Same.refl _) hd
abbrev s_DuplicateName___init__ : Stmt := inClass (top 6) 0
theorem sc_DuplicateName___init__ : FnScope ["self", "name"] ["self", "name"] (defScope s_DuplicateName___init__) := ⟨rfl, rfl, rfl, by decide +kernel, rfl, by decide +kernel, by decide +kernel⟩
theorem ok_DuplicateName___init__ {P : Program} {w : World} {K : PySem.W.Frag} {mg : Str → Option Value} {base : Heap} {CD : Addr} {f : Addr} {fd : FuncData} (F : L2.Fun K "__init__" "DuplicateName.__init__" s_DuplicateName___init__ f fd)
    (C_ox_DuplicateName : OexC K CD)
    (C_t_ThrowError : CalT K mg "ThrowError")
    (C_xn_DuplicateName_name : PySem.W.findIn K (.ref CD) "name" = some none) :
    FnOk P w K mg base (L2.CX P w) 1 f fd ["self", "name"] (spX1 K CD "name" GStr) := by
  refine fnOk_mk F sc_DuplicateName___init__ (fun vs H Q E h => h.1) (fun cdv A outer s H vs Q E hr h => ?_)
  obtain ⟨_, a, v, rfl, ha, g, k⟩ := h
  obtain ⟨z, rfl, hz⟩ := g
  refine ⟨_, pss_cons (ps_expr (z_tinit (by rfl) C_t_ThrowError (pa_cons (pv 0) (pa_cons (pe_joined (PJ.cons pe_str (PJ.cons (pe_fmtR (pv 1)) PJ.nil))) pa_nil))))
    (pss_one (ps_ost (pv 0) (pv 1))), ?_⟩
  try dsimp only [cxOf]
  walk_at "rd"
  refine i_js1 (by decide +kernel) ?_
  walk_at "rd"
  refine i_fmtRS (Nat.le_trans hz (by decide)) ?_
  refine i_js1 ?_ ?_
  · rw [Str.length_append, Str.length_append]
    have e : (Str.ofString "name comes again: ").length = 18 := by decide +kernel
    have e0 : Str.empty.length = 0 := by decide +kernel
    have hz' : (reprText z).length ≤ 10000 := hz
    rw [e, e0, sizeLine_eq]
    omega
  walk_at "rd"
  refine i_tve1 C_ox_DuplicateName ha (by show 1 ≤ 1000; decide) ?_
  walk_at "rd"
  refine i_ost1 C_ox_DuplicateName C_xn_DuplicateName_name ha fun dx hd hn => ?_
  exact k dx H hd hn (Same.refl _) hd
abbrev s_UnknownName___init__ : Stmt := inClass (top 7) 0
theorem sc_UnknownName___init__ : FnScope ["self", "name"] ["self", "name"] (defScope s_UnknownName___init__) := ⟨rfl, rfl, rfl, by decide +kernel, rfl, by decide +kernel, by decide +kernel⟩
theorem ok_UnknownName___init__ {P : Program} {w : World} {K : PySem.W.Frag} {mg : Str → Option Value} {base : Heap} {CU : Addr} {f : Addr} {fd : FuncData} (F : L2.Fun K "__init__" "UnknownName.__init__" s_UnknownName___init__ f fd)
    (C_ox_UnknownName : OexC K CU)
    (C_t_ThrowError : CalT K mg "ThrowError")
    (C_xn_UnknownName_name : PySem.W.findIn K (.ref CU) "name" = some none) :
    FnOk P w K mg base (L2.CX P w) 1 f fd ["self", "name"] (spX1 K CU "name" GStr) := by
  refine fnOk_mk F sc_UnknownName___init__ (fun vs H Q E h => h.1) (fun cdv A outer s H vs Q E hr h => ?_)
  obtain ⟨_, a, v, rfl, ha, g, k⟩ := h
  obtain ⟨z, rfl, hz⟩ := g
  refine ⟨_, pss_cons (ps_expr (z_tinit (by rfl) C_t_ThrowError (pa_cons (pv 0) (pa_cons (pe_joined (PJ.cons pe_str (PJ.cons (pe_fmtR (pv 1)) PJ.nil))) pa_nil))))
    (pss_one (ps_ost (pv 0) (pv 1))), ?_⟩
  try dsimp only [cxOf]
  walk_at "rd"
  refine i_js1 (by decide +kernel) ?_
  walk_at "rd"
  refine i_fmtRS (Nat.le_trans hz (by decide)) ?_
  refine i_js1 ?_ ?_
  · rw [Str.length_append, Str.length_append]
    have e : (Str.ofString "unknown name: ").length = 14 := by decide +kernel
    have e0 : Str.empty.length = 0 := by decide +kernel
    have hz' : (reprText z).length ≤ 10000 := hz
    rw [e, e0, sizeLine_eq]
    omega
  walk_at "rd"
  refine i_tve1 C_ox_UnknownName ha (by show 1 ≤ 1000; decide) ?_
  walk_at "rd"
  refine i_ost1 C_ox_UnknownName C_xn_UnknownName_name ha fun dx hd hn => ?_
  exact k dx H hd hn (Same.refl _) hd
def spXR (K : PySem.W.Frag) (C : Addr) : Sp := fun vs H Q _ => vs.length = 2 ∧ ∃ (a b : Addr) (zs : List Str), vs = [.ref a, .ref b] ∧ H a = some (exo a C none) ∧ zs ≠ [] ∧ SqL K H b (zs.map V.str) ∧ (∀ z ∈ zs, nameB z = true) ∧ zs.length ≤ 64 ∧
  ∀ q dx H1, H q = none → H dx = none → dx ≠ a → q ≠ a → Same H H1 → H1 q = some (.lst (zs.map V.str)) → H1 dx = none → Q .non (upd (upd H1 dx (exd dx [("names", .ref q)])) a (exo a C (some dx)))
theorem i_mkXR {K : PySem.W.Frag} {C b : Addr} {zs : List Str} {H : Hp} {Q : XK} (n0 : zs ≠ []) (s : SqL K H b (zs.map V.str)) (hn : ∀ z ∈ zs, nameB z = true) (hl : zs.length ≤ 64)
    (h : ∀ d q H', H d = none → Same H H' → H' d = some (.xd [("names", .ref q)]) → H' q = some (.lst (zs.map V.str)) → Q (.ref C) (some d) H') : rMkO C (spXR K C) [.ref b] H Q := by
  refine ⟨by show 1 ≤ 1000; decide, fun a ha => ?_⟩
  have s0 : Same H (upd H a (exo a C none)) := fun b o e => by rw [upd_ne (ne_of_none e ha)]; exact e
  refine ⟨rfl, a, b, zs, rfl, upd_same, n0, s0.seq s, hn, hl, fun q dx H1 hq hd hne hqa sm eq hd1 => ?_⟩
  have hdH : H dx = none := by rw [upd_ne hne] at hd; exact hd
  have dq : q ≠ dx := fun z => by rw [z, hd1] at eq; cases eq
  refine ⟨rfl, dx, [("names", .ref q)], upd_same, by rw [upd_ne hne, upd_same], hdH, h dx q _ hdH (fun b o e => ?_) upd_same ?_⟩
  · have nb : b ≠ dx := ne_of_none e hdH
    have na : b ≠ a := ne_of_none e ha
    rw [upd_ne nb, del_ne na, upd_ne na, upd_ne nb]
    exact sm b o (s0 b o e)
  · rw [upd_ne dq, del_ne hqa, upd_ne hqa, upd_ne dq]
    exact eq
theorem cost_names : ∀ zs : List Str, (∀ z ∈ zs, z.length ≤ 8) → fmtCost zs ≤ zs.length * 84
  | [], _ => Nat.zero_le _
  | z :: zs, h => by
    have ih := cost_names zs fun w hw => h w (List.mem_cons_of_mem _ hw)
    have := h z List.mem_cons_self
    rw [fmtCost_cons, List.length_cons, Nat.succ_mul]
    omega
theorem name_chars {z : Str} (h : nameB z = true) : ∀ c ∈ z.cps.toList, c < 16 ^ 8 := by
  unfold nameB nameL at h
  rw [Bool.and_eq_true, Bool.and_eq_true] at h
  intro c hc
  have := List.all_eq_true.mp h.2.2 c hc
  unfold let_ ZS.dig at this
  simp at this
  omega
abbrev s_Ring___init__ : Stmt := inClass (top 8) 0
theorem sc_Ring___init__ : FnScope ["self", "names"] ["self", "names"] (defScope s_Ring___init__) := ⟨rfl, rfl, rfl, by decide +kernel, rfl, by decide +kernel, by decide +kernel⟩
theorem ok_Ring___init__ {P : Program} {w : World} {K : PySem.W.Frag} {mg : Str → Option Value} {base : Heap} {CG : Addr} {f : Addr} {fd : FuncData} (F : L2.Fun K "__init__" "Ring.__init__" s_Ring___init__ f fd)
    (C_b_list : mg "list" = none)
    (C_ox_Ring : OexC K CG)
    (C_t_ThrowError : CalT K mg "ThrowError")
    (C_xf_Ring : XfC K CG)
    (C_xn_Ring_names : PySem.W.findIn K (.ref CG) "names" = some none) :
    FnOk P w K mg base (L2.CX P w) 1 f fd ["self", "names"] (spXR K CG) := by
  refine fnOk_mk F sc_Ring___init__ (fun vs H Q E h => h.1) (fun cdv A outer s H vs Q E hr h => ?_)
  obtain ⟨_, a, b, zs, rfl, ha, n0, hs, hn, hl, k⟩ := h
  have hcost := cost_names zs fun z hz => nameB_len (hn z hz)
  refine ⟨_, pss_cons (ps_ost (pv 0) (pe_callTy (k_listA (K := K) rfl) (by rfl) C_b_list (by decide +kernel) (pa_cons (pv 1) pa_nil)))
    (pss_one (ps_expr (z_tinitD (by rfl) C_t_ThrowError (pa_cons (pv 0) (pa_cons (pe_joined (PJ.cons pe_str (PJ.cons (pe_fmtL hr (pe_xat (pv 0))) PJ.nil))) pa_nil))))), ?_⟩
  try dsimp only [cxOf]
  walk_at "rd"
  refine i_listA (.inl hs) fun q H1 hq s1 e1 o1 => ?_
  have qa : q ≠ a := fun z => by rw [z, ha] at hq; cases hq
  walk_at "rd"
  refine i_ost1 C_ox_Ring C_xn_Ring_names (s1 _ _ ha) fun dx hd hn2 => ?_
  have qd : q ≠ dx := fun z => by rw [z, hd] at e1; cases e1
  walk_at "rd"
  refine i_js1 (by decide +kernel) ?_
  walk_at "rd"
  refine i_xat1 C_xf_Ring C_xn_Ring_names upd_same (by rw [upd_ne hn2, upd_same]) ?_
  obtain ⟨y, l, rfl⟩ : ∃ y l, zs = y :: l := by
    cases zs with
    | nil => exact absurd rfl n0
    | cons y l => exact ⟨y, l, rfl⟩
  refine ⟨q, y, l, rfl, .of (by rw [upd_ne qa, upd_ne qd]; exact e1), fun z hz => name_chars (hn z hz), by rw [sizeLine_eq]; omega, fun m hm => ?_⟩
  refine i_js1 ?_ ?_
  · rw [Str.length_append, Str.length_append]
    have e : (Str.ofString "below each other: ").length = 18 := by decide +kernel
    have e0 : Str.empty.length = 0 := by decide +kernel
    rw [e, e0, sizeLine_eq]
    omega
  walk_at "rd"
  refine i_tvd1 C_ox_Ring upd_same (by show 1 ≤ 1000; decide) ?_
  walk_at "rd"
  refine k q dx H1 hq ?_ hn2 qa s1 e1 hd
  cases z : H dx with
  | none => rfl
  | some o => rw [s1 _ _ z] at hd; cases hd
theorem let_mem (c : Nat) : decide (c ∈ (Str.ofString "abcdefghijklmnopqrstuvwxyz").cps.toList) = let_ c := by
  have e : (Str.ofString "abcdefghijklmnopqrstuvwxyz").cps.toList = [97, 98, 99, 100, 101, 102, 103, 104, 105, 106, 107, 108, 109, 110, 111, 112, 113, 114, 115, 116, 117, 118, 119, 120, 121, 122] := by decide +kernel
  rw [e]
  unfold let_
  refine decide_eq_decide.mpr ?_
  simp
  omega
theorem dig_mem (c : Nat) : decide (c ∈ (Str.ofString "0123456789").cps.toList) = ZS.dig c := by
  have e : (Str.ofString "0123456789").cps.toList = [48, 49, 50, 51, 52, 53, 54, 55, 56, 57] := by decide +kernel
  rw [e]
  unfold ZS.dig
  refine decide_eq_decide.mpr ?_
  simp
  omega
theorem i_all {K : PySem.W.Frag} {D : Addr} {H : Hp} {Q : VK} {bs : List Bool} (e : H D = some (.lst (bs.map V.bl))) (h : Q (.bl (bs.all id)) H) : rAll K [.ref D] H Q := ⟨D, bs, rfl, SqL.of e, h⟩
theorem i_any {K : PySem.W.Frag} {D : Addr} {H : Hp} {Q : VK} {bs : List Bool} (e : H D = some (.lst (bs.map V.bl))) (h : Q (.bl (bs.any id)) H) : rAny K [.ref D] H Q := ⟨D, bs, rfl, SqL.of e, h⟩
theorem take_map {α β : Type} {l : List α} {f : α → β} {i : Nat} {c : α} (hc : l[i]? = some c) : (l.take (i + 1)).map f = (l.take i).map f ++ [f c] := by
  rw [List.take_add_one, hc, List.map_append]
  rfl
abbrev s_is_name : Stmt := top 13
theorem sc_is_name : FnScope ["text", "sign"] ["text"] (defScope s_is_name) := ⟨rfl, rfl, rfl, by decide +kernel, rfl, by decide +kernel, by decide +kernel⟩
theorem ok_is_name {P : Program} {w : World} {K : PySem.W.Frag} {mg : Str → Option Value} {base : Heap} {tk_DIGITS : Tok} {tk_LETTERS : Tok} {tk_MOST_SIGNS : Tok} {f : Addr} {fd : FuncData} (F : L2.Fun K "is_name" "is_name" s_is_name f fd)
    (C_b_all : mg "all" = none)
    (C_b_len : mg "len" = none)
    (C_n_DIGITS : mg "DIGITS" = some (.str "0123456789" tk_DIGITS))
    (C_n_LETTERS : mg "LETTERS" = some (.str "abcdefghijklmnopqrstuvwxyz" tk_LETTERS))
    (C_n_MOST_SIGNS : mg "MOST_SIGNS" = some (.int 8 tk_MOST_SIGNS)) :
    FnOk P w K mg base (L2.CX P w) 1 f fd ["text"] spIsName := by
  refine fnOk_mk F sc_is_name (fun vs H Q E h => h.1) (fun cdv A outer s H vs Q E hr h => ?_)
  obtain ⟨_, z, rfl, hz, k⟩ := h
  have hl := TL.len_tl z
  refine ⟨_, pss_cons (ps_if (pt_not (pt_chain op_le op_le pe_int (pe_callB call_len_str (by rfl) C_b_len (by decide +kernel) (pa_cons (pv 0) pa_nil)) ((pe_glob (v := .int 8) rfl C_n_MOST_SIGNS ⟨_, rfl⟩)))) (pss_one (ps_ret pe_bl)) (pss_nil))
    (pss_one (ps_ret (pe_and (pe_cmpR op_in_sign (pe_ix ix_str (pv 0) pe_int (fun _ _ => rfl)) ((pe_glob (v := .str "abcdefghijklmnopqrstuvwxyz") rfl C_n_LETTERS ⟨_, rfl⟩)) rfl) (pe_one (pe_callB (k_all rfl (K := K) rfl) (by rfl) C_b_all (by decide +kernel) (pa_cons (pe_lc (own := [("sign", 1)]) (by rfl) sc_is_name.nd (pi_str (pv 0)) (blkOk_by (N := ["text", "sign"]) (sc := defScope s_is_name) (by decide +kernel)) (fun _ _ _ _ _ => pg_name (i := 1) sc_is_name.nd rfl (Or.inl rfl)) (fun _ _ _ _ _ => pts_nil) (fun _ _ _ _ _ => pe_or (pe_cmpR op_in_sign (pv 1) ((pe_glob (v := .str "abcdefghijklmnopqrstuvwxyz") rfl C_n_LETTERS ⟨_, rfl⟩)) rfl) (pe_one (pe_cmpR op_in_sign (pv 1) ((pe_glob (v := .str "0123456789") rfl C_n_DIGITS ⟨_, rfl⟩)) rfl)))) pa_nil)))))), ?_⟩
  try dsimp only [cxOf]
  walk_at "rd"
  refine ⟨z, rfl, Nat.le_trans hz (by decide), ?_⟩
  walk_at "rb"
  have out : ∀ {b : Bool}, nameB z = b → Q (.bl b) H := fun e => e ▸ k H (Same.refl _)
  refine i_dec (fun e1 => ?_) (fun e1 => ?_)
  · walk_at "rd"
    refine i_ndec (fun e2 => ?_) (fun e2 => ?_)
    · walk_at "rd"
      refine out ?_
      unfold nameB nameL
      rw [decide_eq_false (by omega)]
      rfl
    · walk_at "rd"
      obtain ⟨c, r, ez⟩ : ∃ c r, TL.tl z = c :: r := by
        cases e : TL.tl z with
        | nil =>
          rw [e] at hl
          simp at hl
          omega
        | cons c r => exact ⟨c, r, rfl⟩
      refine i_ixS0 hz ez ?_
      walk_at "rd"
      refine ⟨c, _, rfl, rfl, ?_⟩
      rw [let_mem]
      have hlen : decide (1 ≤ (TL.tl z).length ∧ (TL.tl z).length ≤ 8) = true := decide_eq_true (by omega)
      refine ⟨_, rfl, ?_⟩
      refine i_bool (fun e3 => ?_) (fun e3 => ?_)
      · walk_at "rd"
        refine i_lcS (fun i ys H' => Same H H' ∧ ys = (((TL.tl z).take i).map fun c => let_ c || ZS.dig c).map V.bl) (fun D H' hD s e' ho => ⟨s, rfl⟩) ?_ ?_
        · rintro i c2 D ys H1 hD hc eD ⟨s1, rfl⟩
          walk_at "rd"
          refine ⟨by with_unfolding_all rfl, ?_⟩
          walk_at "rd"
          refine ⟨c2, _, rfl, rfl, ?_⟩
          rw [let_mem]
          have fin : ∀ b, b = (let_ c2 || ZS.dig c2) → rLcE D (fun i ys H' => Same H H' ∧ ys = (((TL.tl z).take i).map fun c => let_ c || ZS.dig c).map V.bl) i (V.bl b) H1 := by
            rintro b rfl
            refine i_lcE eD ?_ fun H2 e2 ho => ⟨?_, ?_⟩
            · have := (List.getElem?_eq_some_iff.mp hc).1
              simp
              omega
            · intro b o e
              exact (ho b (ne_of_none e hD)).trans (s1 _ _ e)
            · rw [take_map hc, List.map_append]
              rfl
          refine ⟨_, rfl, ?_⟩
          refine i_bool (fun e4 => ?_) (fun e4 => ?_)
          · exact fin _ (by rw [e4]; rfl)
          · walk_at "rd"
            refine ⟨c2, _, rfl, rfl, ?_⟩
            rw [dig_mem]
            exact fin _ (by rw [e4]; rfl)
        · rintro D ys H1 hD eD ⟨s1, rfl⟩
          walk_at "rd"
          refine i_all eD ?_
          have ep : (((TL.tl z).take (TL.tl z).length).map fun c => let_ c || ZS.dig c).all id = nameB z := by
            rw [List.take_length]
            unfold nameB nameL
            rw [hlen, ez]
            simp [List.all_map, Function.comp_def, e3]
          rw [ep]
          exact k H1 s1
      · refine out ?_
        unfold nameB nameL
        rw [hlen, ez]
        simp [e3]
  · walk_at "rd"
    refine out ?_
    unfold nameB nameL
    rw [decide_eq_false (by omega)]
    rfl
theorem strs_at {N : List Str} {i : Nat} {x : V} (h : (N.map V.str)[i]? = some x) : ∃ n, N[i]? = some n ∧ x = V.str n := by
  rw [List.getElem?_map] at h
  cases e : N[i]? with
  | none => rw [e] at h; cases h
  | some n => rw [e] at h; exact ⟨n, rfl, (Option.some.inj h).symm⟩
theorem take_snoc {α : Type} {N : List α} {i : Nat} {n : α} (h : N[i]? = some n) : N.take (i + 1) = N.take i ++ [n] := by rw [List.take_add_one, h]; rfl
theorem nodup_take {N : List Str} (hN : N.Nodup) {i : Nat} {n : Str} (h : N[i]? = some n) : ¬ n ∈ N.take i := fun hm => by
  obtain ⟨lt, e2⟩ := List.getElem?_eq_some_iff.mp h
  obtain ⟨j, hj, e⟩ := List.mem_iff_getElem.mp hm
  rw [List.length_take] at hj
  rw [List.getElem_take] at e
  have := (List.getElem_inj hN).mp (e.trans e2.symm)
  omega

/-- the first fault of names: no name (false), or one that came (true) -/
def nmF : List Str → List Str → Option (Bool × Str)
  | _, [] => none
  | seen, z :: zs => if nameB z = false then some (false, z) else if z ∈ seen then some (true, z) else nmF (seen ++ [z]) zs
theorem nmF_cons {seen zs : List Str} {z : Str} : nmF seen (z :: zs) = if nameB z = false then some (false, z) else if z ∈ seen then some (true, z) else nmF (seen ++ [z]) zs := rfl
theorem nmF_none : ∀ (zs seen : List Str), nmF seen zs = none → seen.Nodup → (∀ z ∈ zs, nameB z = true) ∧ (seen ++ zs).Nodup
  | [], seen, _, h => ⟨fun z hz => absurd hz (by simp), by simpa using h⟩
  | z :: zs, seen, h, hs => by
    unfold nmF at h
    split at h
    · cases h
    · rename_i h1
      split at h
      · cases h
      · rename_i h2
        have hs2 : (seen ++ [z]).Nodup := List.nodup_append.mpr ⟨hs, by simp, fun x hx y hy e => h2 (by rw [← List.mem_singleton.mp hy, ← e]; exact hx)⟩
        obtain ⟨a, b⟩ := nmF_none zs (seen ++ [z]) h hs2
        refine ⟨fun w hw => ?_, by simpa using b⟩
        rcases List.mem_cons.mp hw with rfl | hw
        · simpa using h1
        · exact a w hw
def spCheckG (K : PySem.W.Frag) (CN CD : Addr) : Sp := fun vs H Q E => vs.length = 1 ∧ ∃ (a : Addr) (zs : List Str), vs = [.ref a] ∧ SqA K H a (zs.map V.str) ∧ zs.length ≤ 60 ∧ (∀ z ∈ zs, z.length ≤ 100000) ∧
  (∀ b z, nmF [] zs = some (b, z) → RB z ∧ EName (if b then CD else CN) z H E) ∧ (nmF [] zs = none → ∀ H', Same H H' → Q .non H')
abbrev s_check_names : Stmt := top 14
theorem sc_check_names : FnScope ["names", "at", "name"] ["names"] (defScope s_check_names) := ⟨rfl, rfl, rfl, by decide +kernel, rfl, by decide +kernel, by decide +kernel⟩
theorem ok_check_names {P : Program} {w : World} {K : PySem.W.Frag} {mg : Str → Option Value} {base : Heap} {CD CN : Addr} {f : Addr} {fd : FuncData} (F : L2.Fun K "check_names" "check_names" s_check_names f fd)
    (C_b_enumerate : mg "enumerate" = none)
    (C_f_is_name : Cal P w K mg base "is_name" 1 spIsName)
    (C_x_BadName : CalX P w K mg base "BadName" CN 1 ["self", "name"] (spX1 K CN "name" GStr))
    (C_x_DuplicateName : CalX P w K mg base "DuplicateName" CD 1 ["self", "name"] (spX1 K CD "name" GStr)) :
    FnOk P w K mg base (L2.CX P w) 3 f fd ["names"] (spCheckG K CN CD) := by
  refine fnOk_mk F sc_check_names (fun vs H Q E h => h.1) (fun cdv A outer s H vs Q E hr h => ?_)
  obtain ⟨_, a, zs, rfl, hs, hl, hlen, kx, k⟩ := h
  refine ⟨_, pss_one (ps_for (passes_of rfl) rfl (pi_enA (K := K) rfl (by rfl) C_b_enumerate (pa_cons (pv 0) pa_nil)) (k_tup (K := K) (n := 2) rfl rfl (pgs_cons (pg_name (i := 1) sc_check_names.nd rfl (Or.inl rfl)) (pgs_cons (pg_name (i := 2) sc_check_names.nd rfl (Or.inl rfl)) pgs_nil))) (pss_cons (ps_if (pt_not (pt_val (z_callC C_f_is_name hr passN (pa_cons (pv 2) pa_nil)))) (pss_one (ps_raise rfl (takes_of rfl rfl rfl rfl) (z_mkX C_x_BadName hr (pa_cons (pv 2) pa_nil)))) (pss_nil))
    (pss_one (ps_if (pt_cmpR (k_inS (K := K) rfl) (pv 2) (pe_slice (k_slA (K := K) rfl) (pv 0) po_none (po_some (pv 1))) rfl) (pss_one (ps_raise rfl (takes_of rfl rfl rfl rfl) (z_mkX C_x_DuplicateName hr (pa_cons (pv 2) pa_nil)))) (pss_nil))))), ?_⟩
  try dsimp only [cxOf]
  walk_at "rd"
  refine i_enA (fun i σ H1 => (∃ x y, σ = [some (.ref a), x, y]) ∧ Same H H1 ∧ nmF (zs.take i) (zs.drop i) = nmF [] zs) hs ⟨⟨_, _, rfl⟩, Same.refl _, rfl⟩ (fun i σ H1 p => p.2.1) ?_ ?_
  · rintro i x T σ H1 H2 hx ⟨⟨u, v, rfl⟩, s1, hf⟩ hT s2 eT ho
    obtain ⟨z, hz, rfl⟩ := strs_at hx
    have s02 := s1.trans s2
    have hm : z ∈ zs := List.mem_of_getElem? hz
    have lt := (List.getElem?_eq_some_iff.mp hz).1
    have hd : zs.drop i = z :: zs.drop (i + 1) := by rw [List.drop_eq_getElem_cons lt, (List.getElem?_eq_some_iff.mp hz).2]
    rw [hd, nmF_cons] at hf
    refine i_gtup (SqT.of eT) rfl ?_
    walk_at "rd"
    refine i_isName (hlen z hm) fun H3 s3 => ?_
    walk_at "rd"
    have s03 := s02.trans s3
    cases hb : nameB z
    · rw [if_pos hb] at hf
      walk_at "rd"
      obtain ⟨rb, kx⟩ := kx false z hf.symm
      exact i_mkX1 (fun H' s => ⟨z, rfl, rb⟩) fun d H' hd s e' => kx d H' (s03.trans s) e'
    · rw [if_neg (by rw [hb]; decide)] at hf
      walk_at "rd"
      refine i_slTo (sameA s03 hs) (by rw [List.length_map]; exact lt) fun q H4 hq s4 e4 ho4 => ?_
      rw [← List.map_take] at e4
      refine i_inS e4 ?_
      walk_at "rd"
      have s04 := s03.trans s4
      refine i_dec (fun g => ?_) (fun g => ?_)
      · rw [if_pos g] at hf
        walk_at "rd"
        obtain ⟨rb, kx⟩ := kx true z hf.symm
        exact i_mkX1 (fun H' s => ⟨z, rfl, rb⟩) fun d H' hd s e' => kx d H' (s04.trans s) e'
      · rw [if_neg g] at hf
        walk_at "rd"
        exact ⟨⟨_, _, rfl⟩, s04, by rw [take_snoc hz]; exact hf⟩
  · rintro σ H1 ⟨⟨u, v, rfl⟩, s1, hf⟩
    rw [List.length_map, List.drop_length] at hf
    exact k hf.symm H1 s1
abbrev s_check_among : Stmt := top 15
theorem sc_check_among : FnScope ["known", "names", "name"] ["known", "names"] (defScope s_check_among) := ⟨rfl, rfl, rfl, by decide +kernel, rfl, by decide +kernel, by decide +kernel⟩
theorem ok_check_among {P : Program} {w : World} {K : PySem.W.Frag} {mg : Str → Option Value} {base : Heap} {CU : Addr} {f : Addr} {fd : FuncData} (F : L2.Fun K "check_among" "check_among" s_check_among f fd)
    (C_x_UnknownName : CalX P w K mg base "UnknownName" CU 1 ["self", "name"] (spX1 K CU "name" GStr)) :
    FnOk P w K mg base (L2.CX P w) 3 f fd ["known", "names"] (spAmong K CU) := by
  refine fnOk_mk F sc_check_among (fun vs H Q E h => h.1) (fun cdv A outer s H vs Q E hr h => ?_)
  obtain ⟨_, a, b, ks, zs, rfl, ha, hb, kx, k⟩ := h
  refine ⟨_, pss_one (ps_for (passes_of rfl) rfl (pi_any (K := K) rfl (pv 1)) (pg_name (i := 2) sc_check_among.nd rfl (Or.inl rfl)) (pss_one (ps_if (pt_cmpR (k_notInS (K := K) rfl) (pv 2) (pv 0) rfl) (pss_one (ps_raise rfl (takes_of rfl rfl rfl rfl) (z_mkX C_x_UnknownName hr (pa_cons (pv 2) pa_nil)))) (pss_nil)))), ?_⟩
  try dsimp only [cxOf]
  walk_at "rd"
  refine i_forA (fun i σ H1 => (∃ x, σ = [some (.ref a), some (.ref b), x]) ∧ Same H H1 ∧ ∀ z ∈ zs.take i, z ∈ ks) hb ⟨⟨_, rfl⟩, Same.refl _, fun z h => by simp at h⟩ (fun i σ H1 p => p.2.1) ?_ ?_
  · rintro i x σ H1 hx ⟨⟨u, rfl⟩, s1, hin⟩
    rw [List.getElem?_map] at hx
    obtain ⟨z, hz, rfl⟩ : ∃ z, zs[i]? = some z ∧ V.str z = x := by
      cases h : zs[i]? with
      | none => rw [h] at hx; cases hx
      | some z => rw [h] at hx; exact ⟨z, rfl, Option.some.inj hx⟩
    have tk : zs.take (i + 1) = zs.take i ++ [z] := by rw [List.take_add_one, hz]; rfl
    walk_at "rd"
    refine i_notInS (sameA s1 ha) ?_
    walk_at "rd"
    refine i_ndec (fun e => ?_) (fun e => ?_)
    · walk_at "rd"
      have hm : miss ks zs = some z := by
        unfold miss
        have ez : zs = zs.take i ++ z :: zs.drop (i + 1) := by
          have := (List.take_append_drop i zs).symm
          rw [List.drop_eq_getElem_cons (List.getElem?_eq_some_iff.mp hz).1, (List.getElem?_eq_some_iff.mp hz).2] at this
          exact this
        rw [ez, List.find?_append, List.find?_eq_none.mpr (fun x hx => by simp [hin x hx])]
        simp [e]
      obtain ⟨rb, kx⟩ := kx z hm
      exact i_mkX1 (fun H' s => ⟨z, rfl, rb⟩) fun d H' hd s e' => kx d H' (s1.trans s) e'
    · walk_at "rd"
      refine ⟨⟨_, rfl⟩, s1, fun w hw => ?_⟩
      rw [tk] at hw
      rcases List.mem_append.mp hw with hw | hw
      · exact hin w hw
      · rw [List.mem_singleton.mp hw]
        exact e
  · rintro σ H1 ⟨⟨u, rfl⟩, s1, hin⟩
    rw [List.length_map, List.take_length] at hin
    exact k (miss_none hin) H1 s1
abbrev s__closure : Stmt := top 18
theorem sc__closure : FnScope ["names", "pairs", "above", "name", "low", "high", "middle"] ["names", "pairs"] (defScope s__closure) := ⟨rfl, rfl, rfl, by decide +kernel, rfl, by decide +kernel, by decide +kernel⟩
theorem ok__closure {P : Program} {w : World} {K : PySem.W.Frag} {mg : Str → Option Value} {base : Heap} {f : Addr} {fd : FuncData} (F : L2.Fun K "_closure" "_closure" s__closure f fd)
    (C_b_sorted : mg "sorted" = none)
    (C_b_tuple : mg "tuple" = none) :
    FnOk P w K mg base (L2.CX P w) 1 f fd ["names", "pairs"] (spClosure K) := by
  refine fnOk_mk F sc__closure (fun vs H Q E h => h.1) (fun cdv A outer s H vs Q E hr h => ?_)
  obtain ⟨_, a, b, N, E', rfl, ha, ⟨ps, hb, hp⟩, hl, hN, hs, hE, k⟩ := h
  refine ⟨_, pss_cons (ps_set (i := 2) sc__closure.nd rfl (Or.inr rfl) (pe_dc (own := [("name", 3)]) (by rfl) sc__closure.nd (pi_any (K := K) rfl (pv 0)) (blkOk_by (N := ["names", "pairs", "above", "name", "low", "high", "middle"]) (sc := defScope s__closure) (by decide +kernel)) (fun _ _ _ _ _ => pg_name (i := 3) sc__closure.nd rfl (Or.inl rfl)) (fun _ _ _ _ _ => pts_nil) (fun _ _ _ _ _ => pv 3) (fun _ _ _ _ _ => pe_disp (pps_cons (pv 3) pe_bl pps_nil) (by rfl) (by rfl) (fun z => by cases z) (by decide))))
    (pss_cons (ps_for (passes_of rfl) rfl (pi_any (K := K) rfl (pv 1)) (k_tup (K := K) (n := 2) rfl rfl (pgs_cons (pg_name (i := 4) sc__closure.nd rfl (Or.inl rfl)) (pgs_cons (pg_name (i := 5) sc__closure.nd rfl (Or.inl rfl)) pgs_nil))) (pss_one (ps_dput (hu_of hr) (pe_dget (hu_of hr) (pv 2) (pv 4) (fun _ _ => rfl)) (pv 5) pe_bl (by rfl))))
    (pss_cons (ps_for (passes_of rfl) rfl (pi_any (K := K) rfl (pv 0)) (pg_name (i := 6) sc__closure.nd rfl (Or.inl rfl)) (pss_one (ps_for (passes_of rfl) rfl (pi_any (K := K) rfl (pv 0)) (pg_name (i := 3) sc__closure.nd rfl (Or.inl rfl)) (pss_one (ps_if (pt_cmp (pc_din (hu_of hr) (pv 6) (pe_dget (hu_of hr) (pv 2) (pv 3) (fun _ _ => rfl))) rfl) (pss_one (ps_dput (hu_of hr) (pv 2) (pv 3) (pe_merge2 (pe_dget (hu_of hr) (pv 2) (pv 3) (fun _ _ => rfl)) (pe_dget (hu_of hr) (pv 2) (pv 6) (fun _ _ => rfl))) (by rfl))) (pss_nil))))))
    (pss_one (ps_ret (pe_dc (own := [("name", 3)]) (by rfl) sc__closure.nd (pi_any (K := K) rfl (pv 0)) (blkOk_by (N := ["names", "pairs", "above", "name", "low", "high", "middle"]) (sc := defScope s__closure) (by decide +kernel)) (fun _ _ _ _ _ => pg_name (i := 3) sc__closure.nd rfl (Or.inl rfl)) (fun _ _ _ _ _ => pts_nil) (fun _ _ _ _ _ => pv 3) (fun _ _ _ _ _ => pe_callTy (k_tupA (K := K) rfl) (by rfl) C_b_tuple (by decide +kernel) (pa_cons (pe_callB (k_sortD rfl) (by rfl) C_b_sorted (by decide +kernel) (pa_cons (pe_dget (hu_of hr) (pv 2) (pv 3) (fun _ _ => rfl)) pa_nil)) pa_nil))))))), ?_⟩
  try dsimp only [cxOf]
  walk_at "rd"
  refine i_dcA (fun D i kvs H1 => ∃ A, CSt H D (N.take i) A (fun n => [n]) H1) ha (Same.refl _) ?_ (fun D i ys H1 ⟨A, c⟩ => c.same) ?_ ?_
  · intro D H' hD sm e ho
    exact ⟨fun _ => D, sm, hD, e, fun n hn => by simp at hn, fun n hn => by simp at hn, fun n hn => by simp at hn, fun n hn => by simp at hn, fun n hn => by simp at hn⟩
  · rintro i x D kvs H1 hD hx eD ⟨A, c⟩
    obtain ⟨n, hn, rfl⟩ := strs_at hx
    have lt := (List.getElem?_eq_some_iff.mp hn).1
    walk_at "rd"
    refine ⟨by with_unfolding_all rfl, ?_⟩
    walk_at "rd"
    refine i_disp1 (fun p H2 hp s2 e2 ho2 => ?_) (fun P P' f σ H ⟨v, e, q⟩ => ⟨v, e, f _ _ q⟩) (fun P P' f σ H q => f _ _ q)
    walk_at "rd"
    refine ⟨e2, n, rfl, fun H4 e4 ho4 => ?_⟩
    have ekv : kvs = rowsOf (N.take i) A := by
      have := c.tab.symm.trans eD
      injection this with this
      injection this with this
      exact this.symm
    subst ekv
    have pD : p ≠ D := fun z => by rw [z, eD] at hp; cases hp
    have eD4 : H4 D = some (.dK (rowsOf (N.take i) A)) := by rw [ho4 D (Ne.symm pD), ho2 D (Ne.symm pD)]; exact eD
    refine i_dcE eD4 ?_ fun H5 e5 ho5 => ?_
    · unfold rowsOf
      rw [List.length_map, List.length_take]
      omega
    · rw [take_snoc hn]
      refine ⟨setF A n p, c.snoc (p := p) (nodup_take hN hn) hp (by simp) (fun b hb => by rw [ho4 b hb, ho2 b hb]) e4 e5 ho5⟩
  · rintro D kvs H1 hD eD ⟨A, c⟩
    rw [List.length_map, List.take_length] at c
    walk_at "rd"
    -- the told pairs
    refine i_forA (fun i σ H2 => (∃ u v, σ = [some (.ref a), some (.ref b), some (.ref D), none, u, v, none]) ∧ ∃ A ks, CSt H D N A ks H2 ∧ ∀ n ∈ N, ∀ q, q ∈ ks n ↔ (n = q ∨ (n, q) ∈ E'.take i)) hb ⟨⟨_, _, rfl⟩, A, _, c, fun n hn q => by simp [eq_comm]⟩ (fun i σ H2 p => by obtain ⟨_, A, ks, c, _⟩ := p; exact c.same) ?_ ?_
    · rintro i x σ H2 hx ⟨⟨u, v, rfl⟩, A, ks, c, hk⟩
      have lt := (List.getElem?_eq_some_iff.mp hx).1
      rw [hp.1] at lt
      obtain ⟨q, rfl, eq⟩ := hp.2 i x E'[i] hx (by simp [lt])
      have hmem : E'[i] ∈ E' := List.getElem_mem lt
      obtain ⟨h1, h2⟩ := hE _ hmem
      have het : E'.take (i + 1) = E'.take i ++ [E'[i]] := take_snoc (by simp [lt])
      refine i_gtup (Same_seqT c.same eq) rfl ?_
      walk_at "rd"
      refine i_dget c.tab (rows_val h1) ?_
      walk_at "rd"
      refine i_dput (c.row _ h1) ?_ fun H3 e3 ho3 => ?_
      · rw [trues_len]
        have := nodup_len (N := N) (c.nd _ h1) fun r hr => by
          rcases (hk _ h1 r).mp hr with e | e
          · exact e ▸ h1
          · exact (hE _ (List.mem_of_mem_take e)).2
        omega
      refine ⟨⟨_, _, rfl⟩, A, _, c.put h1 e3 ho3, fun n hn r => ?_⟩
      rw [het, List.mem_append, List.mem_singleton]
      by_cases en : n = E'[i].1
      · subst en
        rw [setF_same, mem_put, hk _ h1 r]
        constructor
        · rintro ((q | q) | q)
          · exact .inl q
          · exact .inr (.inl q)
          · exact .inr (.inr (by rw [q]))
        · rintro (q | q | q)
          · exact .inl (.inl q)
          · exact .inl (.inr q)
          · exact .inr (congrArg Prod.snd q)
      · rw [setF_ne en, hk n hn r]
        constructor
        · rintro (q | q)
          · exact .inl q
          · exact .inr (.inl q)
        · rintro (q | q | q)
          · exact .inl q
          · exact .inr q
          · exact absurd (congrArg Prod.fst q) en
    · rintro σ H2 ⟨⟨u, v, rfl⟩, A, ks, c, hk⟩
      walk_at "rd"
      rw [hp.1, List.take_length] at hk
      -- Warshall's turns
      refine i_forA (fun i σ H3 => (∃ x u v y, σ = [some (.ref a), some (.ref b), some (.ref D), x, u, v, y]) ∧ ∃ A ks, CSt H D N A ks H3 ∧ ∀ n ∈ N, ∀ q, q ∈ ks n ↔ OM.wm E' (N.take i).reverse n q = true) ha
        ⟨⟨_, _, _, _, rfl⟩, A, ks, c, fun n hn q => by rw [hk n hn q, List.take_zero]; simp [OM.wm]⟩ (fun i σ H3 p => by obtain ⟨_, A, ks, c, _⟩ := p; exact c.same) ?_ ?_
      · rintro i x σ H3 hx ⟨⟨x0, u0, v0, y0, rfl⟩, A, ks, c, hk⟩
        obtain ⟨m, hm, rfl⟩ := strs_at hx
        have hmN : m ∈ N := List.mem_of_getElem? hm
        walk_at "rd"
        refine i_forA (fun j σ H4 => (∃ x u v, σ = [some (.ref a), some (.ref b), some (.ref D), x, u, v, some (.str m)]) ∧ ∃ A ks, CSt H D N A ks H4 ∧ ∀ n ∈ N, ∀ q, q ∈ ks n ↔ OM.wm E' (if n ∈ N.take j then m :: (N.take i).reverse else (N.take i).reverse) n q = true) ha
          ⟨⟨_, _, _, rfl⟩, A, ks, c, fun n hn q => by rw [hk n hn q, List.take_zero]; simp⟩ (fun i σ H4 p => by obtain ⟨_, A, ks, c, _⟩ := p; exact c.same) ?_ ?_
        · rintro j x σ H4 hx ⟨⟨x1, u1, v1, rfl⟩, A, ks, c, hk⟩
          obtain ⟨n, hn, rfl⟩ := strs_at hx
          have hnN : n ∈ N := List.mem_of_getElem? hn
          have hnt := nodup_take hN hn
          have hkn : ∀ q, q ∈ ks n ↔ OM.wm E' (N.take i).reverse n q = true := fun q => by
            have := hk n hnN q
            rw [if_neg hnt] at this
            exact this
          have hkm : ∀ q, q ∈ ks m ↔ OM.wm E' (N.take i).reverse m q = true := fun q => by
            have := hk m hmN q
            split at this
            · rw [wm_self] at this
              exact this
            · exact this
          have sub : ∀ w ∈ N, ∀ q ∈ ks w, q ∈ N := fun w hw q hq => by
            have := OM.wm_rch ((hk w hw q).mp hq)
            rcases this.mem hE with e | ⟨_, e⟩
            · exact e ▸ hw
            · exact e
          have len : ∀ w ∈ N, (trues (ks w)).length ≤ 1000 := fun w hw => by
            rw [trues_len]
            have := nodup_len (c.nd w hw) (sub w hw)
            omega
          walk_at "rd"
          refine i_dget c.tab (rows_val hnN) ?_
          walk_at "rd"
          refine i_din (c.row n hnN) trues_get ?_
          walk_at "rd"
          refine i_dec (fun e => ?_) (fun e => ?_)
          · walk_at "rd"
            refine i_mg0 fun p H5 hp5 s5 e5 ho5 => ?_
            have c5 : CSt H D N A ks H5 := c.keep fun b hb => ho5 b fun z => hb (z ▸ hp5)
            have pA : ∀ w ∈ N, p ≠ A w := fun w hw z => by rw [z, c.row w hw] at hp5; cases hp5
            have pD : p ≠ D := fun z => by rw [z, c.tab] at hp5; cases hp5
            walk_at "rd"
            refine i_dget c5.tab (rows_val hnN) ?_
            refine i_mg1 (pA n hnN) (c5.row n hnN) e5 (len n hnN) fun H6 e6 ho6 => ?_
            have e6' : H6 p = some (.dK (trues (mk [] (ks n)))) := by
              rw [e6, ← trues_merge]
              rfl
            have r6 : ∀ w ∈ N, H6 (A w) = some (.dK (trues (ks w))) := fun w hw => by
              rw [ho6 _ (Ne.symm (pA w hw))]
              exact c5.row w hw
            have t6 : H6 D = some (.dK (rowsOf N A)) := by
              rw [ho6 _ (Ne.symm pD)]
              exact c5.tab
            walk_at "rd"
            refine i_dget t6 (rows_val hmN) ?_
            refine i_mg2 (pA m hmN) (r6 m hmN) e6 (len m hmN) fun H7 e7 ho7 => ?_
            have e7' : H7 p = some (.dK (trues (mk (mk [] (ks n)) (ks m)))) := by
              rw [e7, ← trues_merge, ← trues_merge]
              rfl
            have t7 : H7 D = some (.dK (rowsOf N A)) := by
              rw [ho7 _ (Ne.symm pD)]
              exact t6
            walk_at "rd"
            refine i_dput t7 (by rw [rows_len]; omega) fun H8 e8 ho8 => ?_
            refine ⟨⟨_, _, _, rfl⟩, _, _, c.set hnN hp5 (mk_nodup _ (mk_nodup _ List.nodup_nil)) (fun b hb => by rw [ho7 b hb, ho6 b hb, ho5 b hb]) e7' e8 ho8, fun w hw q => ?_⟩
            rw [take_snoc hn]
            by_cases ew : w = n
            · subst ew
              rw [setF_same, mem_mk, mem_mk, hkn q, hkm q, if_pos (by simp)]
              have h1 := (hkn m).mp e
              simp [OM.wm, h1]
            · rw [setF_ne ew, hk w hw q]
              simp [ew]
          · walk_at "rd"
            refine ⟨⟨_, _, _, rfl⟩, A, ks, c, fun w hw q => ?_⟩
            rw [take_snoc hn]
            by_cases ew : w = n
            · subst ew
              rw [hkn q, if_pos (by simp)]
              have h1 : OM.wm E' (N.take i).reverse w m = false := by
                cases z : OM.wm E' (N.take i).reverse w m with
                | false => rfl
                | true => exact absurd ((hkn m).mpr z) e
              simp [OM.wm, h1]
            · rw [hk w hw q]
              simp [ew]
        · rintro σ H4 ⟨⟨x1, u1, v1, rfl⟩, A, ks, c, hk⟩
          rw [List.length_map, List.take_length] at hk
          walk_at "rd"
          refine ⟨⟨_, _, _, _, rfl⟩, A, ks, c, fun n hn q => ?_⟩
          have := hk n hn q
          rw [if_pos hn] at this
          rw [this, take_snoc hm, List.reverse_append]
          rfl
      · rintro σ H3 ⟨⟨x0, u0, v0, y0, rfl⟩, A, ks, c, hk⟩
        rw [List.length_map, List.take_length, OM.wm_cl (fun p hp => List.mem_reverse.mpr (hE p hp).2)] at hk
        have mem : ∀ n ∈ N, ∀ q, q ∈ ks n ↔ q ∈ N ∧ OM.cl E' n q = true := fun n hn q => by
          rw [hk n hn q]
          refine ⟨fun z => ⟨?_, z⟩, fun z => z.2⟩
          rcases (OM.cl_iff.mp z).mem hE with e | ⟨_, e⟩
          · exact e ▸ hn
          · exact e
        walk_at "rd"
        refine i_dcA (fun D2 i kvs H4 => Same H3 H4 ∧ ∃ A2, kvs = rowsOf (N.take i) A2 ∧ ∀ n ∈ N.take i, H4 (A2 n) = some (.tup ((OM.ab N (OM.cl E') n).map V.str))) ha c.same ?_ (fun D i ys H4 p => c.same.trans p.1) ?_ ?_
        · intro D2 H4 hD2 s4 e4 ho4
          exact ⟨s4, fun _ => D2, rfl, fun n hn => by simp at hn⟩
        · rintro i x D2 kvs H4 hD2 hx eD2 ⟨s4, A2, rfl, h2⟩
          obtain ⟨n, hn, rfl⟩ := strs_at hx
          have hnN : n ∈ N := List.mem_of_getElem? hn
          have lt := (List.getElem?_eq_some_iff.mp hn).1
          walk_at "rd"
          refine ⟨by with_unfolding_all rfl, ?_⟩
          walk_at "rd"
          refine i_dget (s4 _ _ c.tab) (rows_val hnN) ?_
          walk_at "rd"
          refine i_sortD (s4 _ _ (c.row n hnN)) trues_keys ?_ fun q H5 hq s5 ho5 e5 => ?_
          · have := nodup_len (c.nd n hnN) fun r hr => ((mem n hnN r).mp hr).1
            omega
          walk_at "rd"
          refine i_tupL (SqL.of e5) fun t H6 ht s6 e6 ho6 => ?_
          have eD6 : H6 D2 = some (.dK (rowsOf (N.take i) A2)) := s6 _ _ (s5 _ _ eD2)
          refine i_dcE eD6 (by rw [rows_len, List.length_take]; omega) fun H7 e7 ho7 => ⟨?_, setF A2 n t, ?_, fun w hw => ?_⟩
          · intro b o eb
            rw [ho7 b (ne_of_none eb hD2)]
            exact s6 _ _ (s5 _ _ (s4 _ _ eb))
          · rw [rows_snoc (nodup_take hN hn), take_snoc hn]
          · have tup : ∀ (c : Addr) (ys : List V), H6 c = some (.tup ys) → H7 c = some (.tup ys) := fun c ys hc => by
              rw [ho7 c (ne_of hc eD6 (fun z => nomatch z))]
              exact hc
            by_cases ew : w = n
            · subst ew
              rw [setF_same, tup _ _ e6]
              rw [srt_filter (p := OM.cl E' w) hN hs (c.nd w hnN) (mem w hnN)]
              rfl
            · rw [setF_ne ew]
              refine tup _ _ (s6 _ _ (s5 _ _ (h2 w ?_)))
              rw [take_snoc hn] at hw
              rcases List.mem_append.mp hw with h | h
              · exact h
              · exact absurd (List.mem_singleton.mp h) ew
        · rintro D2 kvs H4 hD2 eD2 ⟨s4, A2, rfl, h2⟩
          rw [List.length_map, List.take_length] at eD2 h2
          walk_at "rd"
          refine k D2 H4 ?_ (c.same.trans s4) ⟨A2, eD2, h2⟩
          cases z : H D2 with
          | none => rfl
          | some o => rw [c.same _ _ z] at hD2; cases hD2
section
variable {K : PySem.W.Frag} {CO a t d : Addr} {H : Hp} {N : List Str} {R : Str → Str → Bool}
theorem rf_names {t d : Addr} : List.lookup ("names" : Str) ([("names", V.ref t), ("_above", V.ref d)] : List (Str × V)) = some (V.ref t) := by simp [List.lookup]
theorem rf_above {t d : Addr} : List.lookup ("_above" : Str) ([("names", V.ref t), ("_above", V.ref d)] : List (Str × V)) = some (V.ref d) := by
  have : (("_above" : Str) == ("names" : Str)) = false := by decide +kernel
  simp [List.lookup, this]
theorem ro_no {m : Str} {t d : Addr} (h1 : (m == ("names" : Str)) = false) (h2 : (m == ("_above" : Str)) = false) : List.lookup m ([("names", V.ref t), ("_above", V.ref d)] : List (Str × V)) = none := by simp [List.lookup, h1, h2]
end
theorem ab_len {N : List Str} {R : Str → Str → Bool} {n : Str} : (OM.ab N R n).length ≤ N.length := List.length_filter_le _ _
def PF (N : List Str) (R : Str → Str → Bool) (L : List Str) : List (Str × Str) := L.flatMap fun a => ((OM.ab N R a).filter fun b => !decide (a = b)).map fun b => (a, b)
theorem PF_len {N : List Str} {R : Str → Str → Bool} : ∀ L : List Str, (PF N R L).length ≤ L.length * N.length
  | [] => Nat.zero_le _
  | a :: L => by
    have ih := PF_len (N := N) (R := R) L
    unfold PF at ih ⊢
    rw [List.flatMap_cons, List.length_append, List.length_map, List.length_cons, Nat.succ_mul]
    have h1 : ((OM.ab N R a).filter fun b => !decide (a = b)).length ≤ N.length := Nat.le_trans (List.length_filter_le _ _) (List.length_filter_le _ _)
    omega
abbrev s_Order_pairs : Stmt := inClass (top 20) 5
theorem sc_Order_pairs : FnScope ["self", "low", "high"] ["self"] (defScope s_Order_pairs) := ⟨rfl, rfl, rfl, by decide +kernel, rfl, by decide +kernel, by decide +kernel⟩
theorem ok_Order_pairs {P : Program} {w : World} {K : PySem.W.Frag} {mg : Str → Option Value} {base : Heap} {CO : Addr} {f : Addr} {fd : FuncData} (F : L2.Fun K "pairs" "Order.pairs" s_Order_pairs f fd)
    (C_c_Order : ClO K CO)
    (C_na_Order__above : NoAttr K CO "_above")
    (C_na_Order_names : NoAttr K CO "names") :
    FnOk P w K mg base (L2.CX P w) 1 f fd ["self"] (spPairs CO) := by
  refine fnOk_mk F sc_Order_pairs (fun vs H Q E h => h.1) (fun cdv A outer s H vs Q E hr h => ?_)
  obtain ⟨_, a, N, R, rfl, ho, k⟩ := h
  obtain ⟨dx, t, d, e1, e2, ⟨A', e3, e4⟩, hl, hN, hnl⟩ := ho
  refine ⟨_, pss_one (ps_ret (pe_lc2 (own := [("low", 1), ("high", 2)]) (vs1 := [2]) (by rfl) sc_Order_pairs.nd (pi_any (K := K) rfl (pe_fld (pv 0) rfl)) (blkOk_by (N := ["self", "low", "high"]) (sc := defScope s_Order_pairs) (by decide +kernel)) (by decide) (fun _ _ _ _ _ => pg_name (i := 1) sc_Order_pairs.nd rfl (Or.inl rfl)) (fun _ _ _ _ _ => pts_nil) (fun _ _ _ _ _ => pi_any (K := K) rfl (pe_dget (hu_of hr) (k_fld (K := K) rfl (pv 0) rfl) (pv 1) (fun _ _ => rfl))) (fun _ _ _ _ _ => pg_name (i := 2) sc_Order_pairs.nd rfl (Or.inl rfl)) (fun _ _ _ _ _ => pts_one (pt_cmpR op_ne (pv 1) (pv 2) (nomark _))) (fun _ _ _ _ _ => pe_tup (pa_cons (pv 1) (pa_cons (pv 2) pa_nil))))), ?_⟩
  try dsimp only [cxOf]
  walk_at "rd"
  refine i_fld1 e1 C_c_Order.toCls C_na_Order_names rf_names ?_
  refine i_lc2A (H0 := H) (fun i ys H1 => Same H H1 ∧ ∃ qs, ys = qs.map V.ref ∧ TPr H1 qs (PF N R (N.take i))) (SqA.t e2) (Same.refl _) ?_ ?_ ?_ ?_
  · intro D H' hD sm e ho
    exact ⟨sm, [], rfl, .nil⟩
  · exact fun i ys H1 p => p.1
  · rintro i x D ys H1 hD hx eD ⟨s1, qs, rfl, hq⟩
    obtain ⟨n, hn, rfl⟩ := strs_at hx
    have hnN : n ∈ N := List.mem_of_getElem? hn
    walk_at "rd"
    refine ⟨by with_unfolding_all rfl, ?_⟩
    walk_at "rd"
    refine i_fld1 (s1 _ _ e1) C_c_Order.toCls C_na_Order__above rf_above ?_
    walk_at "rd"
    refine i_dget (s1 _ _ e3) (rows_val hnN) ?_
    refine i_lcIn (H0 := H) (Pw := fun j ys H2 => Same H H2 ∧ ∃ qs, ys = qs.map V.ref ∧ TPr H2 qs (PF N R (N.take i) ++ (((OM.ab N R n).take j).filter fun b => !decide (n = b)).map fun b => (n, b))) (SqA.t (e4 n hnN)) eD ?_ ?_ ?_ ?_
    · exact ⟨s1, qs, rfl, by simpa using hq⟩
    · exact fun j ys H2 p => p.1
    · rintro j x ys H2 hx eD2 ⟨s2, qs2, rfl, hq2⟩
      obtain ⟨m, hm, rfl⟩ := strs_at hx
      walk_at "rd"
      refine ⟨by with_unfolding_all rfl, ?_⟩
      walk_at "rd"
      refine i_ndec (fun e => ?_) (fun e => ?_)
      · walk_at "rd"
        refine i_tup1 (by show 2 ≤ 100000; decide) fun q H3 hq3 s3 e3' ho3 => ?_
        refine i_lcE (s3 _ _ eD2) ?_ fun H4 e4' ho4 => ⟨?_, qs2 ++ [q], by rw [List.map_append]; rfl, ?_⟩
        · have h1 := hq2.1
          rw [List.length_append, List.length_map] at h1
          have h2 := PF_len (N := N) (R := R) (N.take i)
          have h3 : ((List.take j (OM.ab N R n)).filter fun b => !decide (n = b)).length ≤ N.length := Nat.le_trans (List.length_filter_le _ _) (Nat.le_trans (by rw [List.length_take]; omega) (ab_len (N := N) (R := R) (n := n)))
          have h4 : (N.take i).length * N.length ≤ 8 * 8 := Nat.mul_le_mul (by rw [List.length_take]; omega) hl
          rw [List.length_map]
          omega
        · intro b o eb
          rw [ho4 b (ne_of_none eb hD)]
          exact s3 _ _ (s2 _ _ eb)
        · have := ((hq2.mono s3).snoc e3').keep (lst_keep (s3 _ _ eD2) ho4)
          rw [take_snoc hm, List.filter_append, List.map_append, ← List.append_assoc]
          simpa [e] using this
      · walk_at "rd"
        refine ⟨_, eD2, s2, qs2, rfl, ?_⟩
        rw [take_snoc hm, List.filter_append, List.map_append, ← List.append_assoc]
        simpa [e] using hq2
    · rintro ys H2 eD2 ⟨s2, qs2, rfl, hq2⟩
      refine ⟨s2, qs2, rfl, ?_⟩
      rw [List.length_map, List.take_length] at hq2
      rw [take_snoc hn]
      unfold PF at hq2 ⊢
      rw [List.flatMap_append]
      simpa using hq2
  · rintro D ys H1 hD eD ⟨s1, qs, rfl, hq⟩
    rw [List.length_map, List.take_length] at hq
    exact k D H1 hD s1 ⟨qs, eD, hq⟩
theorem prs_len {N : List Str} {R : Str → Str → Bool} : (OM.prs N R).length ≤ N.length * N.length := PF_len (N := N) (R := R) N
abbrev s_Order___len__ : Stmt := inClass (top 20) 13
theorem sc_Order___len__ : FnScope ["self"] ["self"] (defScope s_Order___len__) := ⟨rfl, rfl, rfl, by decide +kernel, rfl, by decide +kernel, by decide +kernel⟩
theorem ok_Order___len__ {P : Program} {w : World} {K : PySem.W.Frag} {mg : Str → Option Value} {base : Heap} {CO : Addr} {f : Addr} {fd : FuncData} (F : L2.Fun K "__len__" "Order.__len__" s_Order___len__ f fd)
    (C_b_len : mg "len" = none)
    (C_c_Order : ClO K CO)
    (C_na_Order__above : NoAttr K CO "_above")
    (C_na_Order_names : NoAttr K CO "names") :
    FnOk P w K mg base (L2.CX P w) 1 f fd ["self"] (spOLen CO) := by
  refine fnOk_mk F sc_Order___len__ (fun vs H Q E h => h.1) (fun cdv A outer s H vs Q E hr h => ?_)
  obtain ⟨_, a, N, R, rfl, ho, k⟩ := h
  obtain ⟨dx, t, d, e1, e2, ⟨A', e3, e4⟩, hl, hN, hnl⟩ := ho
  refine ⟨_, pss_one (ps_ret (pe_callB (k_len (K := K) rfl) (by rfl) C_b_len (by decide +kernel) (pa_cons (pe_fld (pv 0) rfl) pa_nil))), ?_⟩
  try dsimp only [cxOf]
  walk_at "rd"
  refine i_fld1 e1 C_c_Order.toCls C_na_Order_names rf_names ?_
  walk_at "rd"
  refine i_lenA (SqA.t e2) ?_
  rw [List.length_map]
  exact k H (Same.refl _)
abbrev s_Order___iter__ : Stmt := inClass (top 20) 14
theorem sc_Order___iter__ : FnScope ["self"] ["self"] (defScope s_Order___iter__) := ⟨rfl, rfl, rfl, by decide +kernel, rfl, by decide +kernel, by decide +kernel⟩
theorem ok_Order___iter__ {P : Program} {w : World} {K : PySem.W.Frag} {mg : Str → Option Value} {base : Heap} {CO : Addr} {f : Addr} {fd : FuncData} (F : L2.Fun K "__iter__" "Order.__iter__" s_Order___iter__ f fd)
    (C_b_iter : mg "iter" = none)
    (C_c_Order : ClO K CO)
    (C_na_Order__above : NoAttr K CO "_above")
    (C_na_Order_names : NoAttr K CO "names") :
    FnOk P w K mg base (L2.CX P w) 1 f fd ["self"] (spOIter CO) := by
  refine fnOk_mk F sc_Order___iter__ (fun vs H Q E h => h.1) (fun cdv A outer s H vs Q E hr h => ?_)
  obtain ⟨_, a, dx, t, d, ys, rfl, e1, e2, k⟩ := h
  refine ⟨_, pss_one (ps_ret (pe_callB (k_iterT (K := K) rfl) (by rfl) C_b_iter (by decide +kernel) (pa_cons (pe_fld (pv 0) rfl) pa_nil))), ?_⟩
  try dsimp only [cxOf]
  walk_at "rd"
  refine i_fld1 e1 C_c_Order.toCls C_na_Order_names rf_names ?_
  walk_at "rd"
  exact i_iterT (.of e2) k
theorem eqv_tupS (zs ws : List Str) : PyData.eqv (.tuple (zs.map PyData.str)) (.tuple (ws.map PyData.str)) = decide (zs = ws) := by
  show PyData.eqvAll _ _ = _
  exact eqv_strs zs ws
theorem shaped_tupS {zs : List Str} (h : ∀ z ∈ zs, nameB z = true) : SeqAt.shaped (.tuple (zs.map PyData.str)) = true := by
  unfold SeqAt.shaped
  have d : ∀ zs : List Str, PyData.depthAll (zs.map PyData.str) ≤ 1 := by
    intro zs
    induction zs with
    | nil => decide
    | cons n ns ih => simp [PyData.depthAll, PyData.depth] at *; omega
  have l : ∀ zs : List Str, (∀ z ∈ zs, nameB z = true) → PyData.canLayAll0 (zs.map PyData.str) = true := by
    intro zs
    induction zs with
    | nil => intro _; rfl
    | cons n ns ih =>
      intro hs
      have ih2 := ih fun z hz => hs z (List.mem_cons_of_mem _ hz)
      have h1 : PyData.strOk n = true := nameB_ok (hs n List.mem_cons_self)
      simp [PyData.canLayAll0, PyData.canLay0] at *
      exact ⟨h1, ih2⟩
  have := d zs
  have := l zs h
  simp [PyData.depth, PyData.canLay0] at *
  exact ⟨by assumption, by omega⟩
/-- the other objects stand -/
def But (a : Addr) (H H' : Hp) : Prop := ∀ x o, x ≠ a → H x = some o → H' x = some o
def IsIns (H : Hp) (a : Addr) : Prop := ∃ C dx fs, H a = some (.ins C dx fs)
theorem seqA_ne {K : PySem.W.Frag} {H H' : Hp} {a b : Addr} {xs : List V} (i : IsIns H a) (t : But a H H') (h : SqA K H b xs) : SqA K H' b xs := by
  obtain ⟨C, dx, fs, e⟩ := i
  rcases h with ((h | ⟨o, h⟩) | h) | ((h | ⟨o, h⟩) | h)
  · exact .inl (.inl (.inl (t _ _ (fun z => by rw [z, e] at h; cases h) h)))
  · exact .inl (.inl (.inr ⟨o, t _ _ (fun z => by rw [z, e] at h; cases h) h⟩))
  · exact .inl (.inr h)
  · exact .inr (.inl (.inl (t _ _ (fun z => by rw [z, e] at h; cases h) h)))
  · exact .inr (.inl (.inr ⟨o, t _ _ (fun z => by rw [z, e] at h; cases h) h⟩))
  · exact .inr (.inr h)
theorem seqT_ne {K : PySem.W.Frag} {H H' : Hp} {a b : Addr} {xs : List V} (i : IsIns H a) (t : But a H H') (h : SqT K H b xs) : SqT K H' b xs := by
  obtain ⟨C, dx, fs, e⟩ := i
  rcases h with (h | ⟨o, h⟩) | h
  · exact .inl (.inl (t _ _ (fun z => by rw [z, e] at h; cases h) h))
  · exact .inl (.inr ⟨o, t _ _ (fun z => by rw [z, e] at h; cases h) h⟩)
  · exact .inr h
def dPr (E : List (Str × Str)) : List PyData := E.map fun e => .tuple [.str e.1, .str e.2]
theorem TPr.dp {K : PySem.W.Frag} {H : Hp} : ∀ {qs : List Addr} {E : List (Str × Str)}, TPr H qs E → DpAll K H (qs.map V.ref) (dPr E)
  | [], [], _ => .nil
  | [], _ :: _, h => by have := h.1; simp at this
  | _ :: _, [], h => by have := h.1; simp at this
  | q :: qs, e :: E, h => .cons (.tup (.of (h.2 0 q e rfl rfl)) (.cons (.str _) (.cons (.str _) .nil))) (TPr.dp (E := E) ⟨by have := h.1; simpa using this, fun i q' e' a b => h.2 (i + 1) q' e' (by simpa using a) (by simpa using b)⟩)
theorem shaped_pr {E : List (Str × Str)} (h : ∀ e ∈ E, nameB e.1 = true ∧ nameB e.2 = true) : SeqAt.shaped (.list (dPr E)) = true := by
  unfold SeqAt.shaped
  have d : ∀ E : List (Str × Str), PyData.depthAll (dPr E) ≤ 2 := by
    intro E
    induction E with
    | nil => decide
    | cons n ns ih => unfold dPr at *; simp [PyData.depthAll, PyData.depth] at *; omega
  have l : ∀ E : List (Str × Str), (∀ e ∈ E, nameB e.1 = true ∧ nameB e.2 = true) → PyData.canLayAll0 (dPr E) = true := by
    intro E
    induction E with
    | nil => intro _; rfl
    | cons n ns ih =>
      intro hs
      have ih2 := ih fun z hz => hs z (List.mem_cons_of_mem _ hz)
      have h1 : PyData.strOk n.1 = true := nameB_ok (hs n List.mem_cons_self).1
      have h2 : PyData.strOk n.2 = true := nameB_ok (hs n List.mem_cons_self).2
      unfold dPr at *
      simp [PyData.canLayAll0, PyData.canLay0] at *
      exact ⟨⟨h1, h2⟩, ih2⟩
  have := d E
  have := l E h
  simp [PyData.depth, PyData.canLay0] at *
  exact ⟨by assumption, by omega⟩
theorem eqv_pr (a b c d : Str) : PyData.eqv (.tuple [.str a, .str b]) (.tuple [.str c, .str d]) = decide ((a, b) = (c, d)) := by
  have := eqv_tupS [a, b] [c, d]
  simpa using this
theorem any_pr {E : List (Str × Str)} {x y : Str} : ((dPr E).any fun z => PyData.eqv z (.tuple [.str x, .str y])) = decide ((x, y) ∈ E) := by
  unfold dPr
  rw [List.any_map, Bool.eq_iff_iff, List.any_eq_true, decide_eq_true_eq]
  constructor
  · rintro ⟨e, he, h⟩
    rw [Function.comp_apply, eqv_pr, decide_eq_true_eq] at h
    exact h ▸ he
  · intro h
    exact ⟨(x, y), h, by rw [Function.comp_apply, eqv_pr, decide_eq_true_eq]⟩
theorem i_inPr {K : PySem.W.Frag} {H : Hp} {Q : VK} {p q : Addr} {qs : List Addr} {E : List (Str × Str)} {x y : Str} (hq : H q = some (.tup [.str x, .str y])) (hp : H p = some (.lst (qs.map V.ref))) (ht : TPr H qs E) (hE : ∀ e ∈ E, nameB e.1 = true ∧ nameB e.2 = true) (hx : nameB x = true) (hy : nameB y = true)
    (h : Q (.bl (decide ((x, y) ∈ E))) H) : rInD K (.ref q) (.ref p) H Q := by
  refine ⟨.tuple [.str x, .str y], dPr E, .tup (.of hq) (.cons (.str _) (.cons (.str _) .nil)), .lst (.of hp) ht.dp, ?_, shaped_pr hE, ?_⟩
  · refine shaped_tupS (zs := [x, y]) ?_
    intro z hz
    rcases List.mem_cons.mp hz with rfl | hz
    · exact hx
    · rw [List.mem_singleton.mp hz]
      exact hy
  · rw [any_pr]
    exact h
theorem op1 (t : V) : putF ("names" : Str) t [] = [(("names" : Str), t)] := rfl
theorem op2 (t d : V) : putF ("_above" : Str) d [(("names" : Str), t)] = [(("names" : Str), t), (("_above" : Str), d)] := by
  show (if ("names" : Str) = "_above" then _ else (("names" : Str), t) :: putF "_above" d []) = _
  rw [if_neg (by decide +kernel)]
  rfl
theorem rf_names1 {t : Addr} : List.lookup ("names" : Str) ([("names", V.ref t)] : List (Str × V)) = some (V.ref t) := by simp [List.lookup]
theorem prs_names {N : List Str} {R : Str → Str → Bool} (hN : ∀ n ∈ N, nameB n = true) : ∀ e ∈ OM.prs N R, nameB e.1 = true ∧ nameB e.2 = true := by
  rintro ⟨x, y⟩ he
  obtain ⟨hx, hy, _, _⟩ := OM.mem_prs.mp he
  exact ⟨hN x hx, hN y hy⟩

/-- the first strange name of pairs -/
def missE (ks : List Str) (E : List (Str × Str)) : Option Str := (E.flatMap fun e => [e.1, e.2]).find? fun z => !decide (z ∈ ks)
/-- the names that would be below each other -/
def fR (N : List Str) (R : Str → Str → Bool) (n : Str) : Bool := (OM.ab N R n).any fun m => decide ((m, n) ∈ OM.prs N R)
def rings (N : List Str) (R : Str → Str → Bool) : List Str := N.filter (fR N R)
def spOInitG (K : PySem.W.Frag) (CO CB CN CD CU CG : Addr) : Sp := fun vs H Q E' => vs.length = 3 ∧ ∃ (a b c : Addr) (zs : List Str) (E : List (Str × Str)), vs = [.ref a, .ref b, .ref c] ∧ (∃ dx, H a = some (.ins CO dx [])) ∧ SqA K H b (zs.map V.str) ∧ PrA K H c E ∧
  zs.length ≤ 60 ∧ (∀ z ∈ zs, z.length ≤ 100000) ∧ E.length ≤ 10000 ∧
  (¬ (1 ≤ zs.length ∧ zs.length ≤ 8) → ∀ d H', But a H H' → H' d = some (.xd [("n", .int (zs.length : Nat))]) → E' (.ref CB) (some d) H') ∧
  ((1 ≤ zs.length ∧ zs.length ≤ 8) → (∀ b z, nmF [] zs = some (b, z) → RB z ∧ ∀ d H', But a H H' → H' d = some (.xd [("name", .str z)]) → E' (.ref (if b then CD else CN)) (some d) H') ∧
    (nmF [] zs = none → (∀ z, missE zs E = some z → RB z ∧ ∀ d H', But a H H' → H' d = some (.xd [("name", .str z)]) → E' (.ref CU) (some d) H') ∧
      (missE zs E = none → (rings (srt zs) (OM.cl E) ≠ [] → ∀ d q H', But a H H' → H' d = some (.xd [("names", .ref q)]) → H' q = some (.lst ((rings (srt zs) (OM.cl E)).map V.str)) → E' (.ref CG) (some d) H') ∧
        (rings (srt zs) (OM.cl E) = [] → ∀ H', IsO CO H' a (srt zs) (OM.cl E) → But a H H' → Q .non H'))))
theorem missE_at {ks : List Str} {E : List (Str × Str)} {i : Nat} {e : Str × Str} (hi : E[i]? = some e) (h : ∀ p ∈ E.take i, p.1 ∈ ks ∧ p.2 ∈ ks) {z : Str} (hz : miss ks [e.1, e.2] = some z) : missE ks E = some z := by
  have lt := (List.getElem?_eq_some_iff.mp hi).1
  have ee : E = E.take i ++ e :: E.drop (i + 1) := by
    have := (List.take_append_drop i E).symm
    rw [List.drop_eq_getElem_cons lt, (List.getElem?_eq_some_iff.mp hi).2] at this
    exact this
  unfold missE
  rw [ee, List.flatMap_append, List.flatMap_cons, List.find?_append, List.find?_append]
  have n1 : ((E.take i).flatMap fun e => [e.1, e.2]).find? (fun z => !decide (z ∈ ks)) = none := by
    rw [List.find?_eq_none]
    intro x hx
    obtain ⟨p, hp, hx⟩ := List.mem_flatMap.mp hx
    obtain ⟨h1, h2⟩ := h p hp
    simp at hx
    rcases hx with rfl | rfl
    · simp [h1]
    · simp [h2]
  rw [n1]
  unfold miss at hz
  rw [hz]
  rfl
abbrev s_Order___init__ : Stmt := inClass (top 20) 0
theorem sc_Order___init__ : FnScope ["self", "names", "pairs", "pair", "joined", "ringed", "low", "high"] ["self", "names", "pairs"] (defScope s_Order___init__) := ⟨rfl, rfl, rfl, by decide +kernel, rfl, by decide +kernel, by decide +kernel⟩
theorem ok_Order___init__ {P : Program} {w : World} {K : PySem.W.Frag} {mg : Str → Option Value} {base : Heap} {CB CD CG CN CO CU : Addr} {tk_MOST_NAMES : Tok} {f : Addr} {fd : FuncData} (F : L2.Fun K "__init__" "Order.__init__" s_Order___init__ f fd)
    (C_b_any : mg "any" = none)
    (C_b_len : mg "len" = none)
    (C_b_sorted : mg "sorted" = none)
    (C_b_tuple : mg "tuple" = none)
    (C_c_Order : ClO K CO)
    (C_f_check_among : Cal P w K mg base "check_among" 3 (spAmong K CU))
    (C_f_check_names : Cal P w K mg base "check_names" 3 (spCheckG K CN CD))
    (C_f_closure : Cal P w K mg base "_closure" 1 (spClosure K))
    (C_m_Order_pairs : CalM P w K mg base CO "pairs" 1 (spPairs CO))
    (C_n_MOST_NAMES : mg "MOST_NAMES" = some (.int 8 tk_MOST_NAMES))
    (C_na_Order__above : NoAttr K CO "_above")
    (C_na_Order_names : NoAttr K CO "names")
    (C_x_BadNumber : CalX P w K mg base "BadNumber" CB 2 ["self", "n"] (spX1 K CB "n" GInt))
    (C_x_Ring : CalX P w K mg base "Ring" CG 1 ["self", "names"] (spXR K CG)) :
    FnOk P w K mg base (L2.CX P w) 4 f fd ["self", "names", "pairs"] (spOInitG K CO CB CN CD CU CG) := by
  refine fnOk_mk F sc_Order___init__ (fun vs H Q E h => h.1) (fun cdv A outer s H vs Q E hr h => ?_)
  obtain ⟨_, a, b, c, zs, E', rfl, ⟨dx, ha⟩, hb, ⟨ps, hc, hp⟩, h60, hlen, hlE, kB, kN⟩ := h
  refine ⟨_, pss_cons (ps_if (pt_not (pt_chain op_le op_le pe_int (pe_callB (k_len (K := K) rfl) (by rfl) C_b_len (by decide +kernel) (pa_cons (pv 1) pa_nil)) ((pe_glob (v := .int 8) rfl C_n_MOST_NAMES ⟨_, rfl⟩)))) (pss_one (ps_raise rfl (takes_of rfl rfl rfl rfl) (z_mkX C_x_BadNumber hr (pa_cons (pe_callB (k_len (K := K) rfl) (by rfl) C_b_len (by decide +kernel) (pa_cons (pv 1) pa_nil)) pa_nil)))) (pss_nil))
    (pss_cons (ps_expr (z_callC C_f_check_names hr (fun σ => passAt (takes_of rfl rfl rfl rfl) σ) (pa_cons (pv 1) pa_nil)))
    (pss_cons (ps_for (passes_of rfl) rfl (pi_any (K := K) rfl (pv 2)) (pg_name (i := 3) sc_Order___init__.nd rfl (Or.inl rfl)) (pss_one (ps_expr (z_callC C_f_check_among hr (fun σ => passAt (takes_of rfl rfl rfl rfl) σ) (pa_cons (pv 1) (pa_cons (pv 3) pa_nil))))))
    (pss_cons (ps_fld (pv 0) (pe_callTy (k_tupA (K := K) rfl) (by rfl) C_b_tuple (by decide +kernel) (pa_cons (pe_callB (k_sort (K := K) rfl) (by rfl) C_b_sorted (by decide +kernel) (pa_cons (pv 1) pa_nil)) pa_nil)) rfl)
    (pss_cons (ps_fld (pv 0) (z_callC C_f_closure hr passN (pa_cons (pe_fld (pv 0) rfl) (pa_cons (pv 2) pa_nil))) rfl)
    (pss_cons (ps_set (i := 4) sc_Order___init__.nd rfl (Or.inr rfl) (z_meth0C (pv 0) C_c_Order.toCls C_m_Order_pairs hr passN))
    (pss_cons (ps_setLc (i := 5) (own := [("low", 6)]) (by rfl) sc_Order___init__.nd rfl rfl (sw_true rfl rfl rfl (by decide +kernel)) (pi_any (K := K) rfl (pe_fld (pv 0) rfl)) (blkOk_by (N := ["self", "names", "pairs", "pair", "joined", "ringed", "low", "high"]) (sc := defScope s_Order___init__) (by decide +kernel)) (fun _ _ _ _ _ => pg_name (i := 6) sc_Order___init__.nd rfl (Or.inr rfl)) (fun _ _ _ _ _ => pts_one (pt_val (pe_callB (k_any rfl (K := K) rfl) (by rfl) C_b_any (by decide +kernel) (pa_cons (pe_lc (own := [("high", 7)]) (by rfl) sc_Order___init__.nd (pi_any (K := K) rfl (pe_dget (hu_of hr) (k_fld (K := K) rfl (pv 0) rfl) (pv 6) (fun _ _ => rfl))) (blkOk_by (N := ["self", "names", "pairs", "pair", "joined", "ringed", "low", "high"]) (by rfl)) (fun _ _ _ _ _ => pg_name (i := 7) sc_Order___init__.nd rfl (Or.inl rfl)) (fun _ _ _ _ _ => pts_nil) (fun _ _ _ _ _ => pe_cmpR (k_inD (K := K) rfl (u65 hr)) (pe_tup (pa_cons (pv 7) (pa_cons (pv 6) pa_nil))) (pv 4) rfl)) pa_nil)))) (fun _ _ _ _ _ => pv 6))
    (pss_one (ps_if (k_truth (K := K) rfl (pv 5) (by intro _; rfl)) (pss_one (ps_raise rfl (takes_of rfl rfl rfl rfl) (z_mkX C_x_Ring hr (pa_cons (pv 5) pa_nil)))) (pss_nil))))))))), ?_⟩
  try dsimp only [cxOf]
  walk_at "rd"
  refine i_lenA hb ?_
  rw [List.length_map]
  walk_at "rd"
  have badN : ¬ (1 ≤ zs.length ∧ zs.length ≤ 8) → rMkO CB (spX1 K CB "n" GInt) [V.int (zs.length : Nat)] H fun cls d H' => E cls d H' := fun hb =>
    i_mkX1 (fun H' s => ⟨_, rfl, ZR.Sz.mono (n := 10) (Nat.lt_of_le_of_lt (show ((zs.length : Nat) : Int).natAbs ≤ 60 by omega) (by decide +kernel)) (by decide)⟩) fun d H' hd s e' => kB hb d H' (fun x o _ e => s _ _ e) e'
  refine i_dec (fun g1 => ?_) (fun g1 => ?_)
  rotate_left
  · walk_at "rd"
    refine i_lenA hb ?_
    rw [List.length_map]
    walk_at "rd"
    exact badN (by omega)
  walk_at "rd"
  refine i_ndec (fun g2 => ?_) (fun g2 => ?_)
  · walk_at "rd"
    refine i_lenA hb ?_
    rw [List.length_map]
    walk_at "rd"
    exact badN (by omega)
  walk_at "rd"
  obtain ⟨kF, kN⟩ := kN ⟨by omega, by omega⟩
  refine ⟨rfl, b, zs, rfl, hb, h60, hlen, fun x z hz => ⟨(kF x z hz).1, fun d H' s e => (kF x z hz).2 d H' (fun y o _ e => s _ _ e) e⟩, fun hF H1 s1 => ?_⟩
  obtain ⟨hn, hd⟩ := nmF_none zs [] hF List.nodup_nil
  rw [List.nil_append] at hd
  obtain ⟨kU, kN⟩ := kN hF
  walk_at "rd"
  refine i_forA (H0 := H) (fun i σ H2 => (∃ v, σ = [some (.ref a), some (.ref b), some (.ref c), v, none, none, none, none]) ∧ Same H H2 ∧ ∀ p ∈ E'.take i, p.1 ∈ zs ∧ p.2 ∈ zs) hc ⟨⟨_, rfl⟩, s1, fun p hp => absurd hp (by simp)⟩ (fun i σ H2 p => p.2.1) ?_ ?_
  · rintro i x σ H2 hx ⟨⟨v, rfl⟩, s2, hin⟩
    have lt := (List.getElem?_eq_some_iff.mp hx).1
    rw [hp.1] at lt
    have hei : E'[i]? = some E'[i] := by simp [lt]
    obtain ⟨q, rfl, eq⟩ := hp.2 i x E'[i] hx hei
    walk_at "rd"
    refine ⟨rfl, b, q, zs, [E'[i].1, E'[i].2], rfl, sameA s2 hb, .inr (Same_seqT s2 eq), fun z hz => ?_, fun hz H3 s3 => ?_⟩
    · obtain ⟨rb, kU⟩ := kU z (missE_at hei hin hz)
      exact ⟨rb, fun d' H' s e => kU d' H' (fun y o _ e => s _ _ (s2 _ _ e)) e⟩
    walk_at "rd"
    refine ⟨⟨_, rfl⟩, s2.trans s3, fun p hpm => ?_⟩
    rw [take_snoc hei] at hpm
    rcases List.mem_append.mp hpm with h | h
    · exact hin p h
    · rw [List.mem_singleton.mp h]
      have h0 := List.find?_eq_none.mp hz
      exact ⟨by simpa using h0 E'[i].1 (by simp), by simpa using h0 E'[i].2 (by simp)⟩
  · rintro σ H2 ⟨⟨v, rfl⟩, s2, hin⟩
    rw [hp.1, List.take_length] at hin
    have hE := hin
    have hME : missE zs E' = none := by
      unfold missE
      rw [List.find?_eq_none]
      intro x hx
      obtain ⟨p, hp, hx⟩ := List.mem_flatMap.mp hx
      obtain ⟨h1, h2⟩ := hin p hp
      simp at hx
      rcases hx with rfl | rfl
      · simp [h1]
      · simp [h2]
    obtain ⟨kR, k⟩ := kN hME
    walk_at "rd"
    refine i_sort (sameA s2 hb) (by omega) fun q H3 hq s3 ho3 e3 => ?_
    walk_at "rd"
    refine i_tupL (SqL.of e3) fun t H4 ht s4 e4 ho4 => ?_
    walk_at "rd"
    have ins : IsIns H a := ⟨_, _, _, ha⟩
    have na4 : ∀ o, H a = some o → H4 a = some o := fun o e => s4 _ _ (s3 _ _ (s2 _ _ e))
    have ta : t ≠ a := fun z => by
      have := s3 _ _ (s2 _ _ ha)
      rw [← z, ht] at this
      cases this
    refine i_put1 (na4 _ ha) C_c_Order.toCls C_na_Order_names (by show 0 < 100; decide) (op1 _) fun H5 e5 o5 => ?_
    have b5 : But a H H5 := fun x o hx e => by rw [o5 x hx]; exact s4 _ _ (s3 _ _ (s2 _ _ e))
    walk_at "rd"
    refine i_fld1 e5 C_c_Order.toCls C_na_Order_names rf_names1 ?_
    walk_at "rd"
    have hc5 : PrA K H5 c E' := ⟨ps, seqA_ne ins b5 hc, hp.1, fun i p e hpi hei => by
      obtain ⟨q, e1, e2⟩ := hp.2 i p e hpi hei
      exact ⟨q, e1, seqT_ne ins b5 e2⟩⟩
    have et5 : H5 t = some (.tup ((srt zs).map V.str)) := by rw [o5 t ta]; exact e4
    have hE2 : ∀ p ∈ E', p.1 ∈ srt zs ∧ p.2 ∈ srt zs := fun p hpE => ⟨mem_srt.mpr (hE p hpE).1, mem_srt.mpr (hE p hpE).2⟩
    have l2 : (srt zs).length = zs.length := (srt_perm zs).length_eq
    refine ⟨rfl, t, c, srt zs, E', rfl, .t et5, hc5, by omega, srt_nodup hd, srt_pw zs, hE2, fun d H6 hd6 s6 tab => ?_⟩
    have da : d ≠ a := fun z => by rw [z, e5] at hd6; cases hd6
    walk_at "rb"
    refine i_put1 (s6 _ _ e5) C_c_Order.toCls C_na_Order__above (by show 1 < 100; decide) (op2 _ _) fun H7 e7 o7 => ?_
    have ho7 : IsO CO H7 a (srt zs) (OM.cl E') := by
      obtain ⟨A, e8, e9⟩ := tab
      refine ⟨dx, t, d, e7, by rw [o7 t ta]; exact s6 _ _ et5, ⟨A, by rw [o7 d da]; exact e8, fun n hn => ?_⟩, by omega, srt_nodup hd, fun n hnm => hn n (mem_srt.mp hnm)⟩
      rw [o7 (A n) fun z => ?_]
      · exact e9 n hn
      · have := e9 n hn
        rw [z, s6 _ _ e5] at this
        cases this
    have b7 : But a H H7 := fun x o hx e => by rw [o7 x hx]; exact s6 _ _ (b5 x o hx e)
    walk_at "rd"
    refine i_meth1 e7 (ro_no (by decide +kernel) (by decide +kernel)) ?_
    walk_at "rd"
    refine ⟨rfl, a, srt zs, OM.cl E', rfl, ho7, fun p H8 hp8 s8 hP => ?_⟩
    obtain ⟨qs, ep, tq⟩ := hP
    walk_at "rd"
    refine i_fld1 (s8 _ _ e7) C_c_Order.toCls C_na_Order_names rf_names ?_
    have ho8 := ho7.mono s8
    obtain ⟨dx', t', d', f1, f2, ⟨A, f3, f4⟩, _, _, hnl⟩ := id ho8
    have et8 : H8 t = some (.tup ((srt zs).map V.str)) := by
      have := f1.symm.trans (s8 _ _ e7)
      cases this
      exact f2
    have hab : ∀ n, (OM.ab (srt zs) (OM.cl E') n).length ≤ 8 := fun n => Nat.le_trans ab_len (by omega)
    refine i_lcA (H0 := H8) (fun i ys H => Same H8 H ∧ ys = (((srt zs).take i).filter (fR (srt zs) (OM.cl E'))).map V.str) (SqA.t et8) (Same.refl _) ?_ ?_ ?_ ?_
    · intro D H' hD sm e ho
      exact ⟨sm, rfl⟩
    · exact fun i ys H p => p.1
    · rintro i x D ys H9 hD hx eD ⟨s9, rfl⟩
      obtain ⟨n, hni, rfl⟩ := strs_at hx
      have hnN : n ∈ srt zs := List.mem_of_getElem? hni
      walk_at "rd"
      refine ⟨by with_unfolding_all rfl, ?_⟩
      walk_at "rd"
      refine i_fld1 (s9 _ _ f1) C_c_Order.toCls C_na_Order__above rf_above ?_
      walk_at "rd"
      refine i_dget (s9 _ _ f3) (rows_val hnN) ?_
      refine i_lcA (H0 := H9) (fun i ys H => Same H9 H ∧ ys = (((OM.ab (srt zs) (OM.cl E') n).take i).map fun m => decide ((m, n) ∈ OM.prs (srt zs) (OM.cl E'))).map V.bl) (SqA.t (s9 _ _ (f4 n hnN))) (Same.refl _) ?_ ?_ ?_ ?_
      · intro D H' hD sm e ho
        exact ⟨sm, rfl⟩
      · exact fun i ys H p => p.1
      · rintro j y D2 ys H10 hD2 hy eD2 ⟨s10, rfl⟩
        obtain ⟨m, hmi, rfl⟩ := strs_at hy
        obtain ⟨hmN, hmR⟩ := OM.mem_ab.mp (List.mem_of_getElem? hmi)
        walk_at "rd"
        refine ⟨by with_unfolding_all rfl, ?_⟩
        walk_at "rd"
        refine i_tup1 (by show 2 ≤ 100000; decide) fun q H11 hq s11 e11 ho11 => ?_
        walk_at "rd"
        have s811 := (s9.trans s10).trans s11
        refine i_inPr e11 (s811 _ _ ep) (tq.mono s811) (prs_names hnl) (hnl m hmN) (hnl n hnN) ?_
        have hb60 : j < (OM.ab (srt zs) (OM.cl E') n).length := (List.getElem?_eq_some_iff.mp hmi).1
        have h8 := hab n
        refine i_lcE (s11 _ _ eD2) ?_ fun H12 e12 ho12 => ⟨fun b o eb => ?_, ?_⟩
        · rw [List.length_map, List.length_map, List.length_take]
          omega
        · rw [ho12 b (ne_of_none eb hD2)]
          exact s11 _ _ (s10 _ _ eb)
        · rw [take_snoc hmi, List.map_append, List.map_append]
          rfl
      · rintro D2 ys H10 hD2 eD2 ⟨s10, rfl⟩
        rw [List.length_map, List.take_length] at eD2
        walk_at "rd"
        refine i_any eD2 ?_
        rw [List.any_map]
        refine ⟨_, rfl, ?_⟩
        have eb : (OM.ab (srt zs) (OM.cl E') n).any (id ∘ fun m => decide ((m, n) ∈ OM.prs (srt zs) (OM.cl E'))) = fR (srt zs) (OM.cl E') n := rfl
        rw [eb]
        refine i_bool (fun g => ?_) (fun g => ?_)
        · walk_at "rd"
          refine i_lcE (s10 _ _ eD) ?_ fun H12 e12 ho12 => ⟨fun b o eb => ?_, ?_⟩
          · rw [List.length_map]
            have h1 := List.length_filter_le (fR (srt zs) (OM.cl E')) ((srt zs).take i)
            rw [List.length_take] at h1
            omega
          · rw [ho12 b (ne_of_none eb hD)]
            exact s10 _ _ (s9 _ _ eb)
          · rw [take_snoc hni, List.filter_append, List.filter_cons_of_pos g, List.filter_nil, List.map_append]
            rfl
        · refine ⟨_, s10 _ _ eD, s9.trans s10, ?_⟩
          rw [take_snoc hni, List.filter_append, List.filter_cons_of_neg (by rw [g]; decide), List.filter_nil, List.append_nil]
    · rintro D ys H9 hD eD ⟨s9, rfl⟩
      rw [List.length_map, List.take_length] at eD
      have eR : ((srt zs).filter (fR (srt zs) (OM.cl E'))) = rings (srt zs) (OM.cl E') := rfl
      rw [eR] at eD
      have b9 : But a H H9 := fun x o hx e => s9 _ _ (s8 _ _ (b7 x o hx e))
      walk_at "rd"
      refine ⟨!(((rings (srt zs) (OM.cl E')).map V.str).isEmpty), .inl ⟨_, SqL.of eD, rfl⟩, ?_⟩
      cases hr : rings (srt zs) (OM.cl E') with
      | nil =>
        rw [if_neg (by decide)]
        walk_at "rd"
        exact k hr H9 (ho8.mono s9) b9
      | cons y l =>
        rw [if_pos (show (!(List.map V.str (y :: l)).isEmpty) = true from rfl)]
        walk_at "rd"
        have nn : rings (srt zs) (OM.cl E') ≠ [] := by rw [hr]; simp
        refine i_mkXR nn (.of eD) (fun z hz => hnl z (List.mem_filter.mp hz).1) (Nat.le_trans (List.length_filter_le _ _) (by omega)) fun d2 q2 H' hd2 s' ed2 eq2 => ?_
        exact kR nn d2 q2 H' (fun x o hx e => s' _ _ (b9 x o hx e)) ed2 eq2
def swp (e : Str × Str) : Str × Str := (e.2, e.1)
theorem rch_swp {E : List (Str × Str)} {a b : Str} (h : OM.Rch E a b) : OM.Rch (E.map swp) b a := by
  induction h with
  | refl => exact .refl _
  | @step a b c e _ ih => exact ih.trans (.one (List.mem_map.mpr ⟨(a, b), e, rfl⟩))
theorem swp_swp (E : List (Str × Str)) : (E.map swp).map swp = E := by
  rw [List.map_map]
  have : (swp ∘ swp : Str × Str → Str × Str) = id := by funext e; rfl
  rw [this, List.map_id]
theorem cl_swp {E : List (Str × Str)} {a b : Str} : OM.cl (E.map swp) a b = OM.cl E b a := by
  rw [Bool.eq_iff_iff, OM.cl_iff, OM.cl_iff]
  exact ⟨fun h => by have := rch_swp h; rwa [swp_swp] at this, rch_swp⟩
theorem anti_swp {E : List (Str × Str)} (h : OM.Anti E) : OM.Anti (E.map swp) := fun a b h1 h2 => h a b (by have := rch_swp h2; rwa [swp_swp] at this) (by have := rch_swp h1; rwa [swp_swp] at this)
/-- an order at a of the names N and the pairs E -/
structure IsOE (CO : Addr) (H : Hp) (a : Addr) (N : List Str) (E : List (Str × Str)) : Prop where
  io : IsO CO H a N (OM.cl E)
  pw : N.Pairwise fun a b => ltS b a = false
  anti : OM.Anti E
  sub : ∀ e ∈ E, e.1 ∈ N ∧ e.2 ∈ N
  pos : 1 ≤ N.length
theorem nmF_ok : ∀ (zs seen : List Str), (∀ z ∈ zs, nameB z = true) → (seen ++ zs).Nodup → nmF seen zs = none := by
  intro zs
  induction zs with
  | nil => intro seen _ _; rfl
  | cons z zs ih =>
    intro seen h1 h2
    rw [nmF_cons, if_neg (by rw [h1 z List.mem_cons_self]; decide), if_neg fun h => (List.nodup_append.mp h2).2.2 z h z List.mem_cons_self rfl]
    exact ih _ (fun w hw => h1 w (List.mem_cons_of_mem _ hw)) (by simpa using h2)
theorem missE_ok {ks : List Str} {E : List (Str × Str)} (h : ∀ e ∈ E, e.1 ∈ ks ∧ e.2 ∈ ks) : missE ks E = none := by
  unfold missE
  rw [List.find?_eq_none]
  intro x hx
  obtain ⟨p, hp, hx⟩ := List.mem_flatMap.mp hx
  obtain ⟨h1, h2⟩ := h p hp
  simp at hx
  rcases hx with rfl | rfl
  · simp [h1]
  · simp [h2]
theorem rings_no {N : List Str} {E : List (Str × Str)} (h : OM.Anti E) : rings N (OM.cl E) = [] := by
  unfold rings
  rw [List.filter_eq_nil_iff]
  intro n hn hf
  unfold fR at hf
  obtain ⟨m, hm, h2⟩ := List.any_eq_true.mp hf
  obtain ⟨_, _, r, ne⟩ := OM.mem_prs.mp (of_decide_eq_true h2)
  exact ne (h _ _ (OM.cl_iff.mp r) (OM.cl_iff.mp (OM.mem_ab.mp hm).2))
/-- Order(names, pairs) where nothing is wrong -/
theorem i_newOK {K : PySem.W.Frag} {CO CB CN CD CU CG b c : Addr} {H : Hp} {Q : VK} {X : XK} {zs : List Str} {E : List (Str × Str)} (hb : SqA K H b (zs.map V.str)) (hc : PrA K H c E) (h1 : 1 ≤ zs.length) (h8 : zs.length ≤ 8) (hn : ∀ z ∈ zs, nameB z = true) (hd : zs.Nodup) (hE : ∀ e ∈ E, e.1 ∈ zs ∧ e.2 ∈ zs) (hlE : E.length ≤ 10000) (hA : OM.Anti E)
    (h : ∀ p H', H p = none → Same H H' → IsOE CO H' p (srt zs) E → Q (.ref p) H') : rNew CO (spOInitG K CO CB CN CD CU CG) [.ref b, .ref c] H Q X := by
  intro x dx hx hdx hne
  have sm : Same H (upd (upd H dx (.own x)) x (.ins CO dx [])) := fun c o e => by
    rw [upd_ne (ne_of_none e hx), upd_ne (ne_of_none e hdx)]
    exact e
  have hF := nmF_ok zs [] hn (by simpa using hd)
  have hM := missE_ok hE
  have hR := rings_no (N := srt zs) hA
  refine ⟨rfl, x, b, c, zs, E, rfl, ⟨dx, upd_same⟩, sameA sm hb, hc.mono sm, by omega, fun z hz => Nat.le_trans (nameB_len (hn z hz)) (by decide), hlE, fun g => absurd ⟨h1, h8⟩ g, fun _ => ⟨fun b z hz => (by rw [hF] at hz; cases hz), fun _ => ⟨fun z hz => (by rw [hM] at hz; cases hz), fun _ => ⟨fun g => absurd hR g, fun _ H' io t => ⟨rfl, h x H' hx (fun c o e => t c o (ne_of_none e hx) (sm _ _ e)) ⟨io, srt_pw zs, hA, fun e he => ⟨mem_srt.mpr (hE e he).1, mem_srt.mpr (hE e he).2⟩, ?_⟩⟩⟩⟩⟩⟩
  rw [(srt_perm zs).length_eq]
  exact h1
def spTurned (CO : Addr) : Sp := fun vs H Q _ => vs.length = 1 ∧ ∃ a N E, vs = [.ref a] ∧ IsOE CO H a N E ∧ ∀ p H', H p = none → Same H H' → IsOE CO H' p N ((OM.prs N (OM.cl E)).map swp) → Q (.ref p) H'
abbrev s_Order_turned : Stmt := inClass (top 20) 10
theorem sc_Order_turned : FnScope ["self", "low", "high"] ["self"] (defScope s_Order_turned) := ⟨rfl, rfl, rfl, by decide +kernel, rfl, by decide +kernel, by decide +kernel⟩
theorem ok_Order_turned {P : Program} {w : World} {K : PySem.W.Frag} {mg : Str → Option Value} {base : Heap} {CB CD CG CN CO CU : Addr} {f : Addr} {fd : FuncData} (F : L2.Fun K "turned" "Order.turned" s_Order_turned f fd)
    (C_c_Order : ClO K CO)
    (C_i_Order : CalI P w K mg base "Order" CO 4 (spOInitG K CO CB CN CD CU CG))
    (C_m_Order_pairs : CalM P w K mg base CO "pairs" 1 (spPairs CO))
    (C_na_Order__above : NoAttr K CO "_above")
    (C_na_Order_names : NoAttr K CO "names") :
    FnOk P w K mg base (L2.CX P w) 6 f fd ["self"] (spTurned CO) := by
  refine fnOk_mk F sc_Order_turned (fun vs H Q E h => h.1) (fun cdv A outer s H vs Q E hr h => ?_)
  obtain ⟨_, a, N, E0, rfl, ho, k⟩ := h
  obtain ⟨dx, t, d, e1, e2, _, hl, hN, hnl⟩ := id ho.io
  have hll : N.length * N.length ≤ 8 * 8 := Nat.mul_le_mul hl hl
  have hpl := prs_len (N := N) (R := OM.cl E0)
  refine ⟨_, pss_one (ps_ret (z_makeC C_i_Order hr passN (pa_cons (pe_fld (pv 0) rfl) (pa_cons (pe_lc (own := [("low", 1), ("high", 2)]) (by rfl) sc_Order_turned.nd (pi_any (K := K) rfl (z_meth0C (pv 0) C_c_Order.toCls C_m_Order_pairs hr passN)) (blkOk_by (N := ["self", "low", "high"]) (sc := defScope s_Order_turned) (by decide +kernel)) (fun _ _ _ _ _ => k_tup (K := K) (n := 2) rfl rfl (pgs_cons (pg_name (i := 1) sc_Order_turned.nd rfl (Or.inl rfl)) (pgs_cons (pg_name (i := 2) sc_Order_turned.nd rfl (Or.inl rfl)) pgs_nil))) (fun _ _ _ _ _ => pts_nil) (fun _ _ _ _ _ => pe_tup (pa_cons (pv 2) (pa_cons (pv 1) pa_nil)))) pa_nil)))), ?_⟩
  try dsimp only [cxOf]
  walk_at "rd"
  refine i_fld1 e1 C_c_Order.toCls C_na_Order_names rf_names ?_
  walk_at "rd"
  refine i_meth1 e1 (ro_no (by decide +kernel) (by decide +kernel)) ?_
  walk_at "rd"
  refine ⟨rfl, a, N, _, rfl, ho.io, fun p H1 hp s1 hP => ?_⟩
  obtain ⟨ps, es, ht⟩ := hP
  refine i_lcA (H0 := H1) (fun i ys H2 => Same H1 H2 ∧ ∃ qs, ys = qs.map V.ref ∧ TPr H2 qs (((OM.prs N (OM.cl E0)).take i).map swp)) (SqA.l es) (Same.refl _) ?_ ?_ ?_ ?_
  · intro D H' hD sm e ho
    exact ⟨sm, [], rfl, .nil⟩
  · exact fun i ys H2 p => p.1
  · rintro i v D ys H2 hD hx eD ⟨s2, qs, rfl, hq⟩
    rw [List.getElem?_map] at hx
    obtain ⟨q, hqi, rfl⟩ : ∃ q, ps[i]? = some q ∧ v = V.ref q := by
      cases e : ps[i]? with
      | none => rw [e] at hx; cases hx
      | some q => rw [e] at hx; exact ⟨q, rfl, (Option.some.inj hx).symm⟩
    have lt := (List.getElem?_eq_some_iff.mp hqi).1
    rw [ht.1] at lt
    have hei : (OM.prs N (OM.cl E0))[i]? = some (OM.prs N (OM.cl E0))[i] := by simp [lt]
    have eq := ht.2 i q _ hqi hei
    generalize (OM.prs N (OM.cl E0))[i] = xy at *
    obtain ⟨x, y⟩ := xy
    refine i_gtup (SqT.of (s2 _ _ eq)) rfl ?_
    walk_at "rd"
    refine ⟨by with_unfolding_all rfl, ?_⟩
    walk_at "rd"
    refine i_tup1 (by show 2 ≤ 100000; decide) fun q2 H4 hq4 s4 e4 ho4 => ?_
    have eD4 := s4 _ _ eD
    refine i_lcE eD4 ?_ fun H5 e5 ho5 => ⟨fun b o eb => ?_, qs ++ [q2], by rw [List.map_append]; rfl, ?_⟩
    · rw [List.length_map, hq.1, List.length_map, List.length_take]
      omega
    · rw [ho5 b (ne_of_none eb hD)]
      exact s4 _ _ (s2 _ _ eb)
    · have := ((hq.mono s4).snoc e4).keep (lst_keep eD4 ho5)
      rw [take_snoc hei, List.map_append]
      exact this
  · rintro D ys H2 hD eD ⟨s2, qs, rfl, hq⟩
    rw [List.length_map, ht.1, List.take_length] at hq
    walk_at "rd"
    have t2 := s1.trans s2
    have pE : ∀ e ∈ (OM.prs N (OM.cl E0)).map swp, e.1 ∈ N ∧ e.2 ∈ N := fun e he => by
      obtain ⟨⟨x, y⟩, hm, rfl⟩ := List.mem_map.mp he
      obtain ⟨h1, h2, _, _⟩ := OM.mem_prs.mp hm
      exact ⟨h2, h1⟩
    refine i_newOK (.t (t2 _ _ e2)) ⟨_, .l eD, hq.prt⟩ ho.pos hl hnl hN pE (by rw [List.length_map]; omega) (anti_swp (OM.anti_sub (fun e he => OM.cl_iff.mp (OM.mem_prs.mp he).2.2.1) ho.anti)) fun p2 H3 hp2 s3 io3 => ?_
    rw [srt_of_pw ho.pw] at io3
    exact k p2 H3 (t2.free hp2) (t2.trans s3) io3
/-- the first fault of a part: a name that came (true), or a strange one -/
def ptF (N : List Str) : List Str → List Str → Option (Bool × Str)
  | _, [] => none
  | seen, z :: zs => if z ∈ seen then some (true, z) else if ¬ z ∈ N then some (false, z) else ptF N (seen ++ [z]) zs
theorem ptF_cons {N seen zs : List Str} {z : Str} : ptF N seen (z :: zs) = if z ∈ seen then some (true, z) else if ¬ z ∈ N then some (false, z) else ptF N (seen ++ [z]) zs := rfl
theorem ptF_none {N : List Str} : ∀ (zs seen : List Str), ptF N seen zs = none → seen.Nodup → (∀ z ∈ zs, z ∈ N) ∧ (seen ++ zs).Nodup
  | [], seen, _, h => ⟨fun z hz => absurd hz (by simp), by simpa using h⟩
  | z :: zs, seen, h, hs => by
    rw [ptF_cons] at h
    split at h
    · cases h
    · rename_i h2
      split at h
      · cases h
      · rename_i h1
        have hs2 : (seen ++ [z]).Nodup := List.nodup_append.mpr ⟨hs, by simp, fun x hx y hy e => h2 (by rw [← List.mem_singleton.mp hy, ← e]; exact hx)⟩
        obtain ⟨a, b⟩ := ptF_none zs (seen ++ [z]) h hs2
        refine ⟨fun w hw => ?_, by simpa using b⟩
        rcases List.mem_cons.mp hw with rfl | hw
        · exact Decidable.not_not.mp h1
        · exact a w hw
def both (zs : List Str) (e : Str × Str) : Bool := decide (e.1 ∈ zs) && decide (e.2 ∈ zs)
def spPart (K : PySem.W.Frag) (CO CB CD CU : Addr) : Sp := fun vs H Q E => vs.length = 2 ∧ ∃ (a b : Addr) (N zs : List Str) (E0 : List (Str × Str)), vs = [.ref a, .ref b] ∧ IsOE CO H a N E0 ∧ SqA K H b (zs.map V.str) ∧ zs.length ≤ 60 ∧
  (∀ x z, ptF N [] zs = some (x, z) → RB z ∧ EName (if x then CD else CU) z H E) ∧ (ptF N [] zs = none → (zs = [] → EBad CB 0 H E) ∧
    (zs ≠ [] → ∀ p H', H p = none → Same H H' → IsOE CO H' p (srt zs) ((OM.prs N (OM.cl E0)).filter (both zs)) → Q (.ref p) H'))
abbrev s_Order_part : Stmt := inClass (top 20) 11
theorem sc_Order_part : FnScope ["self", "names", "at", "name", "low", "high"] ["self", "names"] (defScope s_Order_part) := ⟨rfl, rfl, rfl, by decide +kernel, rfl, by decide +kernel, by decide +kernel⟩
theorem ok_Order_part {P : Program} {w : World} {K : PySem.W.Frag} {mg : Str → Option Value} {base : Heap} {CB CD CG CN CO CU : Addr} {f : Addr} {fd : FuncData} (F : L2.Fun K "part" "Order.part" s_Order_part f fd)
    (C_b_enumerate : mg "enumerate" = none)
    (C_c_Order : ClO K CO)
    (C_i_Order : CalI P w K mg base "Order" CO 4 (spOInitG K CO CB CN CD CU CG))
    (C_m_Order_pairs : CalM P w K mg base CO "pairs" 1 (spPairs CO))
    (C_na_Order__above : NoAttr K CO "_above")
    (C_na_Order_names : NoAttr K CO "names")
    (C_x_DuplicateName : CalX P w K mg base "DuplicateName" CD 1 ["self", "name"] (spX1 K CD "name" GStr))
    (C_x_UnknownName : CalX P w K mg base "UnknownName" CU 1 ["self", "name"] (spX1 K CU "name" GStr)) :
    FnOk P w K mg base (L2.CX P w) 6 f fd ["self", "names"] (spPart K CO CB CD CU) := by
  refine fnOk_mk F sc_Order_part (fun vs H Q E h => h.1) (fun cdv A outer s H vs Q E hr h => ?_)
  obtain ⟨_, a, b, N, zs, E0, rfl, ho, hb, h60, kF, kN⟩ := h
  obtain ⟨dx, t, d, e1, e2, _, hl, hN, hnl⟩ := id ho.io
  have hll : N.length * N.length ≤ 8 * 8 := Nat.mul_le_mul hl hl
  have hpl := prs_len (N := N) (R := OM.cl E0)
  refine ⟨_, pss_cons (ps_for (passes_of rfl) rfl (pi_enA (K := K) rfl (by rfl) C_b_enumerate (pa_cons (pv 1) pa_nil)) (k_tup (K := K) (n := 2) rfl rfl (pgs_cons (pg_name (i := 2) sc_Order_part.nd rfl (Or.inl rfl)) (pgs_cons (pg_name (i := 3) sc_Order_part.nd rfl (Or.inl rfl)) pgs_nil))) (pss_cons (ps_if (pt_cmpR (k_inS (K := K) rfl) (pv 3) (pe_slice (k_slA (K := K) rfl) (pv 1) po_none (po_some (pv 2))) rfl) (pss_one (ps_raise rfl (takes_of rfl rfl rfl rfl) (z_mkX C_x_DuplicateName hr (pa_cons (pv 3) pa_nil)))) (pss_nil))
    (pss_one (ps_if (pt_cmpR (k_notInS (K := K) rfl) (pv 3) (pe_fld (pv 0) rfl) rfl) (pss_one (ps_raise rfl (takes_of rfl rfl rfl rfl) (z_mkX C_x_UnknownName hr (pa_cons (pv 3) pa_nil)))) (pss_nil)))))
    (pss_one (ps_ret (z_makeC C_i_Order hr (fun σ => passAt (takes_of rfl rfl rfl rfl) σ) (pa_cons (pv 1) (pa_cons (pe_lc (own := [("low", 4), ("high", 5)]) (by rfl) sc_Order_part.nd (pi_any (K := K) rfl (z_meth0C (pv 0) C_c_Order.toCls C_m_Order_pairs hr passN)) (blkOk_by (N := ["self", "names", "at", "name", "low", "high"]) (sc := defScope s_Order_part) (by decide +kernel)) (fun _ _ _ _ _ => k_tup (K := K) (n := 2) rfl rfl (pgs_cons (pg_name (i := 4) sc_Order_part.nd rfl (Or.inl rfl)) (pgs_cons (pg_name (i := 5) sc_Order_part.nd rfl (Or.inl rfl)) pgs_nil))) (fun _ _ _ _ _ => pts_one (PW.pt (pw_and (pt_cmpR (k_inS (K := K) rfl) (pv 4) (pv 1) rfl) (pw_and1 (pt_cmpR (k_inS (K := K) rfl) (pv 5) (pv 1) rfl))))) (fun _ _ _ _ _ => pe_tup (pa_cons (pv 4) (pa_cons (pv 5) pa_nil)))) pa_nil))))), ?_⟩
  try dsimp only [cxOf]
  walk_at "rd"
  refine i_enA (H0 := H) (fun i σ H1 => (∃ x y, σ = [some (.ref a), some (.ref b), x, y, none, none]) ∧ Same H H1 ∧ ptF N (zs.take i) (zs.drop i) = ptF N [] zs) hb ⟨⟨_, _, rfl⟩, Same.refl _, rfl⟩ (fun i σ H1 p => p.2.1) ?_ ?_
  · rintro i x T σ H1 H2 hx ⟨⟨u, v, rfl⟩, s1, hf⟩ hT s2 eT oT
    obtain ⟨z, hz, rfl⟩ := strs_at hx
    have s02 := s1.trans s2
    have lt := (List.getElem?_eq_some_iff.mp hz).1
    have hd : zs.drop i = z :: zs.drop (i + 1) := by rw [List.drop_eq_getElem_cons lt, (List.getElem?_eq_some_iff.mp hz).2]
    rw [hd, ptF_cons] at hf
    refine i_gtup (SqT.of eT) rfl ?_
    walk_at "rd"
    refine i_slTo (sameA s02 hb) (by rw [List.length_map]; exact lt) fun q H3 hq s3 e3 o3 => ?_
    rw [← List.map_take] at e3
    have s03 := s02.trans s3
    refine i_inS e3 ?_
    walk_at "rd"
    refine i_dec (fun g => ?_) (fun g => ?_)
    · rw [if_pos g] at hf
      walk_at "rd"
      obtain ⟨rb, kx⟩ := kF true z hf.symm
      exact i_mkX1 (fun H' s => ⟨z, rfl, rb⟩) fun d H' hd s e' => kx d H' (s03.trans s) e'
    · rw [if_neg g] at hf
      walk_at "rd"
      refine i_fld1 (s03 _ _ e1) C_c_Order.toCls C_na_Order_names rf_names ?_
      refine i_notInS (SqA.t (s03 _ _ e2)) ?_
      walk_at "rd"
      refine i_ndec (fun g2 => ?_) (fun g2 => ?_)
      · rw [if_pos g2] at hf
        walk_at "rd"
        obtain ⟨rb, kx⟩ := kF false z hf.symm
        exact i_mkX1 (fun H' s => ⟨z, rfl, rb⟩) fun d H' hd s e' => kx d H' (s03.trans s) e'
      · rw [if_neg (not_not_intro g2)] at hf
        walk_at "rd"
        exact ⟨⟨_, _, rfl⟩, s03, by rw [take_snoc hz]; exact hf⟩
  rintro σ H1 ⟨⟨u, v, rfl⟩, s1, hf⟩
  rw [List.length_map, List.drop_length] at hf
  have hF : ptF N [] zs = none := hf.symm
  obtain ⟨hin, hnd⟩ := ptF_none zs [] hF List.nodup_nil
  rw [List.nil_append] at hnd
  obtain ⟨kE, kO⟩ := kN hF
  have hzl : zs.length ≤ 8 := Nat.le_trans (nodup_len hnd hin) hl
  walk_at "rd"
  refine i_meth1 (s1 _ _ e1) (ro_no (by decide +kernel) (by decide +kernel)) ?_
  walk_at "rd"
  refine ⟨rfl, a, N, _, rfl, ho.io.mono s1, fun p H2 hp s2 hP => ?_⟩
  obtain ⟨ps, es, ht⟩ := hP
  have t2 := s1.trans s2
  refine i_lcA (H0 := H2) (fun i ys H3 => Same H2 H3 ∧ ∃ qs, ys = qs.map V.ref ∧ TPr H3 qs (((OM.prs N (OM.cl E0)).take i).filter (both zs))) (SqA.l es) (Same.refl _) ?_ ?_ ?_ ?_
  · intro D H' hD sm e ho
    exact ⟨sm, [], rfl, .nil⟩
  · exact fun i ys H2 p => p.1
  · rintro i w D ys H3 hD hx eD ⟨s3, qs, rfl, hq⟩
    rw [List.getElem?_map] at hx
    obtain ⟨q, hqi, rfl⟩ : ∃ q, ps[i]? = some q ∧ w = V.ref q := by
      cases e : ps[i]? with
      | none => rw [e] at hx; cases hx
      | some q => rw [e] at hx; exact ⟨q, rfl, (Option.some.inj hx).symm⟩
    have lt := (List.getElem?_eq_some_iff.mp hqi).1
    rw [ht.1] at lt
    have hei : (OM.prs N (OM.cl E0))[i]? = some (OM.prs N (OM.cl E0))[i] := by simp [lt]
    have eq := ht.2 i q _ hqi hei
    generalize (OM.prs N (OM.cl E0))[i] = xy at *
    obtain ⟨x, y⟩ := xy
    have t3 := t2.trans s3
    refine i_gtup (SqT.of (s3 _ _ eq)) rfl ?_
    walk_at "rd"
    refine ⟨by with_unfolding_all rfl, ?_⟩
    walk_at "rd"
    have skip : both zs (x, y) = false → LcS D (fun i ys H3 => Same H2 H3 ∧ ∃ qs, ys = qs.map V.ref ∧ TPr H3 qs (((OM.prs N (OM.cl E0)).take i).filter (both zs))) (i + 1) H3 := by
      intro hf
      refine ⟨_, eD, s3, qs, rfl, ?_⟩
      rw [take_snoc hei, List.filter_append, List.filter_cons_of_neg (by rw [hf]; decide), List.filter_nil, List.append_nil]
      exact hq
    refine i_inS (sameA t3 hb) ?_
    refine ⟨_, rfl, ?_⟩
    refine i_bool (fun g1 => ?_) (fun g1 => ?_)
    · walk_at "rd"
      refine i_inS (sameA t3 hb) ?_
      walk_at "rd"
      refine i_bool (fun g2 => ?_) (fun g2 => ?_)
      · walk_at "rd"
        refine i_tup1 (by show 2 ≤ 100000; decide) fun q2 H4 hq4 s4 e4 ho4 => ?_
        have eD4 := s4 _ _ eD
        refine i_lcE eD4 ?_ fun H5 e5 ho5 => ⟨fun b o eb => ?_, qs ++ [q2], by rw [List.map_append]; rfl, ?_⟩
        · have h1 := List.length_filter_le (both zs) ((OM.prs N (OM.cl E0)).take i)
          rw [List.length_take] at h1
          rw [List.length_map, hq.1]
          omega
        · rw [ho5 b (ne_of_none eb hD)]
          exact s4 _ _ (s3 _ _ eb)
        · have := ((hq.mono s4).snoc e4).keep (lst_keep eD4 ho5)
          rw [take_snoc hei, List.filter_append, List.filter_cons_of_pos (by show (_ && _) = true; rw [g1, g2]; rfl), List.filter_nil]
          exact this
      · exact skip (by show (_ && _) = false; rw [g2, Bool.and_false])
    · exact skip (by show (_ && _) = false; rw [g1, Bool.false_and])
  · rintro D ys H3 hD eD ⟨s3, qs, rfl, hq⟩
    rw [List.length_map, ht.1, List.take_length] at hq
    walk_at "rd"
    have t3 := t2.trans s3
    have pE : ∀ e ∈ (OM.prs N (OM.cl E0)).filter (both zs), e.1 ∈ zs ∧ e.2 ∈ zs := fun e he => by
      have := (List.mem_filter.mp he).2
      unfold both at this
      simpa using this
    have aE : OM.Anti ((OM.prs N (OM.cl E0)).filter (both zs)) := OM.anti_sub (fun e he => OM.cl_iff.mp (OM.mem_prs.mp (List.mem_filter.mp he).1).2.2.1) ho.anti
    have lE := List.length_filter_le (both zs) (OM.prs N (OM.cl E0))
    by_cases hz0 : zs = []
    · intro x dy hx hdx hne
      have sm : Same H3 (upd (upd H3 dy (.own x)) x (.ins CO dy [])) := fun c o e => by
        rw [upd_ne (ne_of_none e hx), upd_ne (ne_of_none e hdx)]
        exact e
      refine ⟨rfl, x, b, D, zs, _, rfl, ⟨dy, upd_same⟩, sameA sm (sameA t3 hb), PrA.mono sm ⟨_, .l eD, hq.prt⟩, h60, fun z hz => Nat.le_trans (nameB_len (hnl z (hin z hz))) (by decide), by omega, fun _ d2 H' t2' e => ?_, fun g => absurd g.1 (by rw [hz0]; decide)⟩
      refine kE hz0 d2 H' (fun c o ec => t2' c o (ne_of_none (t3 _ _ ec) hx) (sm _ _ (t3 _ _ ec))) ?_
      rw [hz0] at e
      exact e
    · have h1 : 1 ≤ zs.length := List.length_pos_iff.mpr hz0
      refine i_newOK (sameA t3 hb) ⟨_, .l eD, hq.prt⟩ h1 hzl (fun z hz => hnl z (hin z hz)) hnd pE (by omega) aE fun p2 H4 hp2 s4 io4 => ?_
      exact kO hz0 p2 H4 (t3.free hp2) (t3.trans s4) io4
def spReady (K : PySem.W.Frag) (CO : Addr) : Sp := fun vs H Q _ => vs.length = 3 ∧ ∃ (a t : Addr) (N ws : List Str) (R : Str → Str → Bool) (n : Str), vs = [.ref a, .str n, .ref t] ∧ IsO CO H a N R ∧ n ∈ N ∧ SqA K H t (ws.map V.str) ∧
  ∀ H', Same H H' → Q (.bl (((OM.ab N R n).filter fun h => !decide (h = n)).all fun h => decide (h ∈ ws))) H'
abbrev s_Order__is_ready : Stmt := inClass (top 20) 9
theorem sc_Order__is_ready : FnScope ["self", "name", "names", "high"] ["self", "name", "names"] (defScope s_Order__is_ready) := ⟨rfl, rfl, rfl, by decide +kernel, rfl, by decide +kernel, by decide +kernel⟩
theorem ok_Order__is_ready {P : Program} {w : World} {K : PySem.W.Frag} {mg : Str → Option Value} {base : Heap} {CO : Addr} {f : Addr} {fd : FuncData} (F : L2.Fun K "_is_ready" "Order._is_ready" s_Order__is_ready f fd)
    (C_b_all : mg "all" = none)
    (C_c_Order : ClO K CO)
    (C_na_Order__above : NoAttr K CO "_above")
    (C_na_Order_names : NoAttr K CO "names") :
    FnOk P w K mg base (L2.CX P w) 1 f fd ["self", "name", "names"] (spReady K CO) := by
  refine fnOk_mk F sc_Order__is_ready (fun vs H Q E h => h.1) (fun cdv A outer s H vs Q E hr h => ?_)
  obtain ⟨_, a, t, N, ws, R, n, rfl, ho, hn, hw, k⟩ := h
  obtain ⟨dx, ti, d, e1, e2, ⟨A, e3, e4⟩, hl, hN, hnl⟩ := id ho
  have hab := ab_len (N := N) (R := R) (n := n)
  refine ⟨_, pss_one (ps_ret (pe_callB (k_all rfl (K := K) rfl) (by rfl) C_b_all (by decide +kernel) (pa_cons (pe_lc (own := [("high", 3)]) (by rfl) sc_Order__is_ready.nd (pi_any (K := K) rfl (pe_dget (hu_of hr) (pe_fld (pv 0) rfl) (pv 1) (fun _ _ => rfl))) (blkOk_by (N := ["self", "name", "names", "high"]) (sc := defScope s_Order__is_ready) (by decide +kernel)) (fun _ _ _ _ _ => pg_name (i := 3) sc_Order__is_ready.nd rfl (Or.inl rfl)) (fun _ _ _ _ _ => pts_one (pt_cmpR op_ne (pv 3) (pv 1) (nomark _))) (fun _ _ _ _ _ => pe_cmpR (k_inS (K := K) rfl) (pv 3) (pv 2) rfl)) pa_nil))), ?_⟩
  try dsimp only [cxOf]
  walk_at "rd"
  refine i_fld1 e1 C_c_Order.toCls C_na_Order__above rf_above ?_
  walk_at "rd"
  refine i_dget e3 (rows_val hn) ?_
  refine i_lcA (H0 := H) (fun i ys H1 => Same H H1 ∧ ys = ((((OM.ab N R n).take i).filter fun h => !decide (h = n)).map fun h => decide (h ∈ ws)).map V.bl) (SqA.t (e4 n hn)) (Same.refl _) ?_ ?_ ?_ ?_
  · intro D H' hD sm e ho
    exact ⟨sm, rfl⟩
  · exact fun i ys H1 p => p.1
  · rintro i v D ys H1 hD hx eD ⟨s1, rfl⟩
    obtain ⟨m, hm, rfl⟩ := strs_at hx
    walk_at "rd"
    refine ⟨by with_unfolding_all rfl, ?_⟩
    walk_at "rd"
    refine i_ndec (fun g => ?_) (fun g => ?_)
    · walk_at "rd"
      refine i_inS (sameA s1 hw) ?_
      refine i_lcE eD ?_ fun H4 e4' ho4 => ⟨fun b o eb => ?_, ?_⟩
      · have h1 := List.length_filter_le (fun h => !decide (h = n)) ((OM.ab N R n).take i)
        rw [List.length_take] at h1
        rw [List.length_map, List.length_map]
        omega
      · rw [ho4 b (ne_of_none eb hD)]
        exact s1 _ _ eb
      · rw [take_snoc hm, List.filter_append, List.filter_cons_of_pos (by simp [g]), List.filter_nil, List.map_append, List.map_append]
        rfl
    · refine ⟨_, eD, s1, ?_⟩
      rw [take_snoc hm, List.filter_append, List.filter_cons_of_neg (by simp [g]), List.filter_nil, List.append_nil]
  · rintro D ys H1 hD eD ⟨s1, rfl⟩
    rw [List.length_map, List.take_length] at eD
    walk_at "rd"
    refine i_all eD ?_
    rw [List.all_map]
    exact k H1 s1
open _root_.ZB
theorem _root_.ZB.pa_starK {X : Cx} {K : PySem.W.Frag} {e : Expr} {es : List Expr} {te : TE} {t : TA} {p : Pos} (hK : X.K = K) (he : PE X e te) (hr : PA X es t) (hs : PySem.starEach (.Starred e p :: es) X.env = (true, eval e X.env) :: PySem.starEach es X.env := by rfl) : PA X (.Starred e p :: es) (StX.tStar K te t) := by
  subst hK; exact StX.pa_star he hr
open _root_.ZB
/-- nothing but a table may have stood there -/
def _root_.ZB.FreeN (H : Hp) (q : Addr) : Prop := ∀ o, H q = some o → ∃ ps, o = .tbl ps
theorem _root_.ZB.FreeN.of {H H' : Hp} {q : Addr} (e : LamX.ExtN H H') (h : H' q = none) : FreeN H q := fun o ho => Classical.byContradiction fun hc => by
  rw [e _ _ ho fun ps z => hc ⟨ps, z⟩] at h
  cases h
theorem _root_.ZB.FreeN.ne {H : Hp} {q b : Addr} {o : HO} (h : FreeN H q) (e : H b = some o) (n : ∀ ps, o ≠ .tbl ps) : b ≠ q := fun z => by
  rw [z] at e
  obtain ⟨ps, g⟩ := h o e
  exact n ps g
def spUps (K : PySem.W.Frag) (CO : Addr) (TT : List (Addr × Str)) : Sp := fun vs H Q _ => vs.length = 1 ∧ ∃ (a : Addr) (N : List Str) (E : List (Str × Str)), vs = [.ref a] ∧ IsOE CO H a N E ∧ LamX.Tabs TT H ∧
  ∀ (q : Addr) (H' : Hp) (bs : List AT), FreeN H q → LamX.ExtN H H' → LamX.Tabs TT H' → H' q = some (.lst (refB bs)) → TsAt H' bs → bs.map (·.2) = upsOf (OM.ab N (OM.cl E)) N → Q (.ref q) H'
def keyH (N : List Str) (R : Str → Str → Bool) : V → Int := fun v => match v with
  | .str z => (((OM.ab N R z).length : Nat) : Int)
  | _ => 0
def byH (N : List Str) (R : Str → Str → Bool) : List Str := N.mergeSort fun x y => decide ((((OM.ab N R x).length : Nat) : Int) ≤ (((OM.ab N R y).length : Nat) : Int))
theorem byH_perm (N : List Str) (R : Str → Str → Bool) : (byH N R).Perm N := List.mergeSort_perm _ _
theorem byH_srt (N : List Str) (R : Str → Str → Bool) : srtK (keyH N R) (N.map V.str) = (byH N R).map V.str := by
  unfold srtK byH
  exact (List.map_mergeSort (f := V.str) (s := fun x y => decide (keyH N R x ≤ keyH N R y)) fun x _ y _ => rfl).symm
theorem byH_pw (N : List Str) (R : Str → Str → Bool) : (byH N R).Pairwise fun a b => (OM.ab N R a).length ≤ (OM.ab N R b).length := by
  have h := srtK_pw (keyH N R) (N.map V.str)
  rw [byH_srt, List.pairwise_map] at h
  exact h.imp fun {a b} (h : (((OM.ab N R a).length : Nat) : Int) ≤ (((OM.ab N R b).length : Nat) : Int)) => by omega
theorem _root_.Z.IsO.ext {CO a : Addr} {H H' : Hp} {N : List Str} {R : Str → Str → Bool} (e : LamX.ExtN H H') (h : IsO CO H a N R) : IsO CO H' a N R := by
  obtain ⟨dx, ti, d, e1, e2, ⟨A, e3, e4⟩, h8, hN, hnl⟩ := h
  have nt : ∀ (o : HO), (∀ ps, o ≠ .tbl ps) → ∀ b, H b = some o → H' b = some o := fun o n b g => e b o g n
  refine ⟨dx, ti, d, nt _ (fun _ z => by cases z) _ e1, ?_, ⟨A, nt _ (fun _ z => by cases z) _ e3, fun n hn => ?_⟩, h8, hN, hnl⟩
  · exact nt _ (fun _ z => by cases z) _ e2
  · exact nt _ (fun _ z => by cases z) _ (e4 n hn)
theorem IsOE.ext {CO a : Addr} {H H' : Hp} {N : List Str} {E : List (Str × Str)} (e : LamX.ExtN H H') (h : IsOE CO H a N E) : IsOE CO H' a N E := ⟨h.io.ext e, h.pw, h.anti, h.sub, h.pos⟩
theorem _root_.ZB.TsAt.mono {H H' : Hp} {bs : List AT} (s : Same H H') (h : TsAt H bs) : TsAt H' bs := fun b hb => s _ _ (h b hb)
theorem _root_.ZB.TsAt.snoc {H H' : Hp} {bs : List AT} {b : AT} (k : ∀ c ys, H c = some (.tup ys) → H' c = some (.tup ys)) (h : TsAt H bs) (e : H' b.1 = some (.tup (b.2.map V.str))) : TsAt H' (bs ++ [b]) := fun c hc => by
  rcases List.mem_append.mp hc with hc | hc
  · exact k _ _ (h c hc)
  · rw [List.mem_singleton.mp hc]; exact e
theorem refB_app (bs cs : List AT) : refB (bs ++ cs) = refB bs ++ refB cs := List.map_append
theorem i_star {K : PySem.W.Frag} {te : TE} {t : TA} {σ : L2.St} {H : Hp} {Q : List V → Hp → Prop} (h : te σ H fun x H1 => ∃ p xs, x = V.ref p ∧ (SqT K H1 p xs ∨ SqL K H1 p xs) ∧ t σ H1 fun ys H2 => Q (xs ++ ys) H2) : StX.tStar K te t σ H Q := h
theorem refB_len (bs : List AT) : (refB bs).length = bs.length := List.length_map ..
theorem _root_.ZB.TsAt.app {H : Hp} {bs cs : List AT} (h : TsAt H bs) (k : TsAt H cs) : TsAt H (bs ++ cs) := fun c hc => (List.mem_append.mp hc).elim (h c) (k c)
theorem refB_at {bs : List AT} {i : Nat} {x : V} (h : (refB bs)[i]? = some x) : ∃ b, bs[i]? = some b ∧ x = V.ref b.1 := by
  unfold refB at h
  rw [List.getElem?_map] at h
  cases e : bs[i]? with
  | none => rw [e] at h; cases h
  | some b => rw [e] at h; exact ⟨b, rfl, (Option.some.inj h).symm⟩
theorem _root_.ZB.mem_upsub {f : Str → List Str} {ks ws : List Str} : ws ∈ up f ks → ws.Sublist ks := by
  revert ws
  refine snoc_ind (P := fun ks => ∀ {ws : List Str}, ws ∈ up f ks → ws.Sublist ks) ?_ (fun ks n ih ws h => ?_) ks
  · intro ws h
    rw [List.mem_singleton.mp (show ws ∈ [[]] from h)]
    exact List.Sublist.refl _
  · rw [up_snoc, List.mem_append, List.mem_map] at h
    rcases h with h | ⟨v, hv, rfl⟩
    · exact (ih h).trans (List.sublist_append_left _ _)
    · exact List.Sublist.append (ih (List.mem_filter.mp hv).1) (List.Sublist.refl _)
abbrev s_Order_ups : Stmt := inClass (top 20) 8
theorem sc_Order_ups : FnScope ["self", "found", "name", "names"] ["self"] (defScope s_Order_ups) := ⟨rfl, rfl, rfl, by decide +kernel, rfl, by decide +kernel, by decide +kernel⟩
theorem ok_Order_ups {P : Program} {w : World} {K : PySem.W.Frag} {mg : Str → Option Value} {base : Heap} {TT : List (Addr × Str)} {c_Order_ups p_Order_ups : Addr} {CO : Addr} {f : Addr} {fd : FuncData} (F : ZB.FunC K "ups" "Order.ups" s_Order_ups f fd c_Order_ups)
    (C_b_len : mg "len" = none)
    (C_b_sorted : mg "sorted" = none)
    (C_b_tuple : mg "tuple" = none)
    (C_c_Order : ClO K CO)
    (C_m_Order__is_ready : CalM P w K mg base CO "_is_ready" 1 (spReady K CO))
    (C_na_Order__above : NoAttr K CO "_above")
    (C_na_Order_names : NoAttr K CO "names")
    (C_tb_Order_ups : LamX.TabB base mg c_Order_ups p_Order_ups)
    (C_tm_Order_ups : ZB.TabM TT p_Order_ups (ZB.LQ "Order.ups")) :
    FnOk P w K mg base (L2.CX P w) 4 f fd ["self"] (spUps K CO TT) := by
  refine ZB.fnOkC_mk F sc_Order_ups (fun vs H Q E h => h.1) (fun A outer s H vs Q E hr h => ?_)
  obtain ⟨_, a, N, E, rfl, io, hT, k⟩ := h
  obtain ⟨dx, ti, d, e1, e2, ⟨A, e3, e4⟩, h8, hN, hnl⟩ := id io.io
  refine ⟨_, pss_cons (ps_set (i := 1) sc_Order_ups.nd rfl (Or.inl rfl) (pe_lst (pa_cons (pe_tup pa_nil) pa_nil)))
    (pss_cons (ps_for (passes_of rfl) rfl (pi_any (K := K) rfl (ZB.pe_sortLam (T := TT) (by rfl) C_b_sorted (pa_cons (pe_fld (pv 0) rfl) pa_nil) C_tb_Order_ups rfl C_tm_Order_ups.1 C_tm_Order_ups.2 hr (ZB.lamP_by (sc := defScope s_Order_ups) (by decide +kernel)) (show ¬ (("word" : Str) ∈ (["self", "found", "name", "names"] : List Str)) from by decide) rfl (fun _ _ _ _ _ _ => rfl) (fun _ _ _ _ _ _ _ hr => pe_callB (k_len (K := K) rfl) (by rfl) C_b_len (by decide +kernel) (pa_cons (pe_dget (hu_of hr) (k_fld (K := K) rfl (pv 0) rfl) (pv 4) (fun _ _ => rfl)) pa_nil)))) (pg_name (i := 2) sc_Order_ups.nd rfl (Or.inr rfl)) (pss_one (ps_set (i := 1) sc_Order_ups.nd rfl (Or.inl rfl) (pe_op op_cat (pv 1) (pe_lc (own := [("names", 3)]) (by rfl) sc_Order_ups.nd (pi_any (K := K) rfl (pv 1)) (blkOk_by (N := ["self", "found", "name", "names"]) (sc := defScope s_Order_ups) (by decide +kernel)) (fun _ _ _ _ _ => pg_name (i := 3) sc_Order_ups.nd rfl (Or.inl rfl)) (fun _ _ _ _ _ => pts_one (pt_val (z_methC (pv 0) C_c_Order.toCls C_m_Order__is_ready hr passN (pa_cons (pv 2) (pa_cons (pv 3) pa_nil))))) (fun _ _ _ _ _ => pe_tup (ZB.pa_starK (K := K) rfl (pv 3) (pa_cons (pv 2) pa_nil))))))))
    (pss_one (ps_ret (ZB.pe_sortLen (by rfl) C_b_sorted (by rfl) C_b_len (ZB.u5 hr) (pa_cons (pe_callB (ZB.cr_sortT0 (ZB.u5 hr)) (by rfl) C_b_sorted (by decide +kernel) (pa_cons (pe_lc (own := [("names", 3)]) (by rfl) sc_Order_ups.nd (pi_any (K := K) rfl (pv 1)) (blkOk_by (N := ["self", "found", "name", "names"]) (sc := defScope s_Order_ups) (by decide +kernel)) (fun _ _ _ _ _ => pg_name (i := 3) sc_Order_ups.nd rfl (Or.inl rfl)) (fun _ _ _ _ _ => pts_nil) (fun _ _ _ _ _ => pe_callTy (k_tupA (K := K) rfl) (by rfl) C_b_tuple (by decide +kernel) (pa_cons (pe_callB (k_sort (K := K) rfl) (by rfl) C_b_sorted (by decide +kernel) (pa_cons (pv 3) pa_nil)) pa_nil))) pa_nil)) pa_nil))))), ?_⟩
  try dsimp only [cxOf]
  walk_at "rd"
  refine i_tup1 (by show 0 ≤ 100000; decide) fun p0 H1 hp0 s1 ep0 _ => ?_
  walk_at "rd"
  refine i_lst1 (by show 1 ≤ 100000; decide) fun q0 H2 hq0 s2 eq0 _ => ?_
  walk_at "rd"
  have s02 := s1.trans s2
  refine ZB.i_sortLam ?_
  walk_at "rd"
  refine i_fld1 (s02 _ _ e1) C_c_Order.toCls C_na_Order_names rf_names ?_
  have hks : (byH N (OM.cl E)).Perm N := byH_perm N _
  refine ⟨ti, N.map V.str, keyH N (OM.cl E), rfl, SqA.t (s02 _ _ e2), by rw [List.length_map]; omega, hT.ext s02, fun H3 eN T3 => ⟨fun z hz H4 s4 => ?_, fun q H4 hq s4 eq => ?_⟩⟩
  · obtain ⟨w, hw, rfl⟩ := List.mem_map.mp hz
    obtain ⟨dx4, ti4, d4, g1, g2, ⟨A4, g3, g4⟩, _⟩ := id (((io.io.mono s02).ext eN).mono s4)
    walk_at "rd"
    refine i_fld1 g1 C_c_Order.toCls C_na_Order__above rf_above ?_
    walk_at "rd"
    refine i_dget g3 (rows_val hw) ?_
    walk_at "rd"
    refine i_lenA (.t (g4 w hw)) ?_
    exact ⟨by rw [List.length_map]; rfl, Same.refl _⟩
  · rw [byH_srt] at eq
    have io4 := (((io.io.mono s02).ext eN).mono s4)
    have x04 : LamX.ExtN H H4 := ((extN_of s02).trans eN).trans (extN_of s4)
    have T4 : LamX.Tabs TT H4 := T3.ext s4
    have ep4 := x04.trans (LamX.ExtN.refl _)
    have eq4 := s4 _ _ (eN _ _ eq0 (fun _ z => by cases z))
    have epp := s4 _ _ (eN _ _ (s2 _ _ ep0) (fun _ z => by cases z))
    have nd : (byH N (OM.cl E)).Nodup := hks.nodup_iff.mpr hN
    have ah : Ahd (OM.ab N (OM.cl E)) (byH N (OM.cl E)) := ahd_of hks hN io.anti (byH_pw N _)
    have lk : (byH N (OM.cl E)).length = N.length := hks.length_eq
    have lu : ∀ i, (up (OM.ab N (OM.cl E)) ((byH N (OM.cl E)).take i)).length ≤ 256 := fun i => Nat.le_trans (up_len _ _) (Nat.le_trans (Nat.pow_le_pow_right (by decide) (Nat.le_trans (List.length_take_le' _ _) (by rw [lk]; exact h8))) (by decide))
    have mk : ∀ n ∈ byH N (OM.cl E), n ∈ N := fun n h => hks.mem_iff.mp h
    generalize byH N (OM.cl E) = ks at *
    refine i_forA (H0 := H4) (fun i σ H5 => (∃ q5 bs x y, σ = [some (.ref a), some (.ref q5), x, y] ∧ H5 q5 = some (.lst (refB bs)) ∧ TsAt H5 bs ∧ bs.map (·.2) = up (OM.ab N (OM.cl E)) (ks.take i)) ∧ Same H4 H5) (.l eq) ⟨⟨q0, [(p0, [])], _, _, rfl, eq4, fun b hb => by rw [List.mem_singleton.mp hb]; exact epp, rfl⟩, Same.refl _⟩ (fun i σ H5 p => p.2) ?_ ?_
    · rintro i x σ H5 hx ⟨⟨q5, bs, u, v, rfl, eq5, tb5, hb5⟩, s5⟩
      obtain ⟨n, hn, rfl⟩ := Z.strs_at hx
      have nN := mk n (List.mem_of_getElem? hn)
      walk_at "rd"
      have t5 : Same H4 H5 := s5
      refine i_lcA (H0 := H5) (fun j ys H6 => Same H5 H6 ∧ ∃ cs : List AT, ys = refB cs ∧ TsAt H6 cs ∧ cs.map (·.2) = (((bs.map (·.2)).take j).filter (rdy (OM.ab N (OM.cl E)) n)).map (· ++ [n])) (.l eq5) (Same.refl _) ?_ ?_ ?_ ?_
      · intro D H6 hD sm e ho
        exact ⟨sm, [], rfl, (fun b hb => by cases hb), rfl⟩
      · exact fun j ys H6 p => p.1
      · rintro j w D ys H6 hD hx eD ⟨s6, cs, rfl, tc, hc⟩
        obtain ⟨b, hb, rfl⟩ := refB_at hx
        have lt := (List.getElem?_eq_some_iff.mp hb).1
        have hbj : (bs.map (·.2))[j]? = some b.2 := by rw [List.getElem?_map, hb]; rfl
        have eb := s6 _ _ (tb5 b (List.mem_of_getElem? hb))
        have lb : cs.length ≤ 256 := by
          have h1 := congrArg List.length hc
          rw [List.length_map, List.length_map] at h1
          have h2 := List.length_filter_le (rdy (OM.ab N (OM.cl E)) n) ((bs.map (·.2)).take j)
          have h3 := List.length_take_le' j (bs.map (·.2))
          have h5 := congrArg List.length hb5
          have h4 := lu i
          omega
        have io6 := (io4.mono s5).mono s6
        refine ⟨rfl, ?_⟩
        walk_at "rd"
        obtain ⟨dx6, ti6, d6, g1, _⟩ := id io6
        refine i_meth1 g1 (ro_no (by decide +kernel) (by decide +kernel)) ?_
        walk_at "rd"
        refine ⟨rfl, a, b.1, N, b.2, _, n, rfl, io6, nN, .t eb, fun H7 s7 => ⟨_, rfl, ?_⟩⟩
        refine i_bool (fun g => ?_) (fun g => ?_)
        · walk_at "rd"
          refine i_star ?_
          walk_at "rd"
          refine ⟨b.1, _, rfl, .inl (.of (s7 _ _ eb)), ?_⟩
          walk_at "rd"
          have lb2 : b.2.length ≤ 8 := by
            have m := List.mem_of_getElem? hbj
            rw [hb5] at m
            exact Nat.le_trans (mem_upsub m).length_le (Nat.le_trans (List.length_take_le' _ _) (by rw [lk]; exact h8))
          refine i_tup1 (by rw [List.length_append, List.length_map]; show _ + 1 ≤ 100000; omega) fun p8 H8 hp8 s8 e8 o8 => ?_
          walk_at "rd"
          refine i_lcE (s8 _ _ (s7 _ _ eD)) (by rw [refB_len]; omega) fun H9 e9 o9 => ⟨fun c o ec => ?_, cs ++ [(p8, b.2 ++ [n])], by rw [refB_app]; rfl, ?_, ?_⟩
          · rw [o9 c (ne_of_none ec hD)]
            exact s8 _ _ (s7 _ _ (s6 _ _ ec))
          · refine TsAt.snoc (lst_keep (s8 _ _ (s7 _ _ eD)) o9) ((tc.mono s7).mono s8) ?_
            show H9 p8 = _
            rw [o9 _ (fun z : p8 = D => by rw [z] at e8; rw [s8 _ _ (s7 _ _ eD)] at e8; cases e8), e8, List.map_append]
            rfl
          · rw [take_snoc hbj, List.filter_append, List.filter_cons_of_pos (by show rdy _ _ _ = true; unfold rdy; rw [g]), List.filter_nil, List.map_append, List.map_append, hc]
            rfl
        · refine ⟨refB cs, s7 _ _ eD, s6.trans s7, cs, rfl, tc.mono s7, ?_⟩
          rw [take_snoc hbj, List.filter_append, List.filter_cons_of_neg (by show ¬ (rdy _ _ _ = true); unfold rdy; rw [g]; simp), List.filter_nil, List.append_nil]
          exact hc
      · rintro D ys H6 hD eD ⟨s6, cs, rfl, tc, hc⟩
        walk_at "rd"
        rw [refB_len, ← List.length_map (as := bs) (f := (·.2)), List.take_length, hb5] at hc
        have lb : cs.length ≤ 256 := by
          have h1 := congrArg List.length hc
          rw [List.length_map, List.length_map] at h1
          have h2 := List.length_filter_le (rdy (OM.ab N (OM.cl E)) n) (up (OM.ab N (OM.cl E)) (ks.take i))
          have h4 := lu i
          omega
        have lbs : bs.length ≤ 256 := by
          have h5 := congrArg List.length hb5
          have h4 := lu i
          rw [List.length_map] at h5
          omega
        refine i_cat (s6 _ _ eq5) eD (by rw [refB_len, refB_len]; omega) fun p7 H7 hp7 s7 e7 o7 => ?_
        walk_at "rd"
        exact ⟨⟨p7, bs ++ cs, _, _, rfl, by rw [e7, refB_app], TsAt.app (tb5.mono (s6.trans s7)) (tc.mono s7), by rw [take_snoc hn, up_snoc, List.map_append, hb5, hc]⟩, s5.trans (s6.trans s7)⟩
    · rintro σ H5 ⟨⟨q5, bs, u, v, rfl, eq5, tb5, hb5⟩, s5⟩
      rw [List.length_map, List.take_length] at hb5
      walk_at "rd"
      refine ZB.i_sortLen ?_
      walk_at "rd"
      have lf : bs.length ≤ 256 := by
        have h5 := congrArg List.length hb5
        have h4 := lu ks.length
        rw [List.take_length] at h4
        rw [List.length_map] at h5
        omega
      refine i_lcA (H0 := H5) (fun j ys H6 => Same H5 H6 ∧ ∃ cs : List AT, ys = refB cs ∧ TsAt H6 cs ∧ cs.map (·.2) = ((bs.map (·.2)).take j).map srt) (.l eq5) (Same.refl _) ?_ ?_ ?_ ?_
      · intro D H6 hD sm e ho
        exact ⟨sm, [], rfl, (fun b hb => by cases hb), rfl⟩
      · exact fun j ys H6 p => p.1
      · rintro j w D ys H6 hD hx eD ⟨s6, cs, rfl, tc, hc⟩
        obtain ⟨b, hb, rfl⟩ := refB_at hx
        have lt := (List.getElem?_eq_some_iff.mp hb).1
        have hbj : (bs.map (·.2))[j]? = some b.2 := by rw [List.getElem?_map, hb]; rfl
        have eb := s6 _ _ (tb5 b (List.mem_of_getElem? hb))
        have lb : cs.length ≤ 256 := by
          have h1 := congrArg List.length hc
          rw [List.length_map, List.length_map] at h1
          have h3 := List.length_take_le' j (bs.map (·.2))
          rw [List.length_map] at h3
          omega
        refine ⟨rfl, ?_⟩
        walk_at "rd"
        have lb2 : b.2.length ≤ 8 := by
          have m := List.mem_of_getElem? hbj
          rw [hb5] at m
          exact Nat.le_trans (mem_upsub m).length_le (by rw [lk]; exact h8)
        refine i_sort (.t eb) (by omega) fun p7 H7 hp7 s7 o7 e7 => ?_
        walk_at "rd"
        refine i_tupL (.of e7) fun p8 H8 hp8 s8 e8 o8 => ?_
        refine i_lcE (s8 _ _ (s7 _ _ eD)) (by rw [refB_len]; omega) fun H9 e9 o9 => ⟨fun c o ec => ?_, cs ++ [(p8, srt b.2)], by rw [refB_app]; rfl, ?_, ?_⟩
        · rw [o9 c (ne_of_none ec hD)]
          exact s8 _ _ (s7 _ _ (s6 _ _ ec))
        · refine TsAt.snoc (lst_keep (s8 _ _ (s7 _ _ eD)) o9) ((tc.mono s7).mono s8) ?_
          show H9 p8 = _
          rw [o9 _ (fun z : p8 = D => by rw [z] at e8; rw [s8 _ _ (s7 _ _ eD)] at e8; cases e8), e8]
        · rw [take_snoc hbj, List.map_append, List.map_append, hc]
          rfl
      · rintro D ys H6 hD eD ⟨s6, cs, rfl, tc, hc⟩
        rw [refB_len, ← List.length_map (as := bs) (f := (·.2)), List.take_length, hb5] at hc
        have lc : cs.length ≤ 256 := by
          have h1 := congrArg List.length hc
          rw [List.length_map, List.length_map, ← hb5, List.length_map] at h1
          omega
        walk_at "rd"
        refine ⟨D, cs, rfl, eD, tc, by omega, fun c hcc => ?_, fun q7 H7 hq7 s7 e7 => ?_⟩
        · have h0 : (cs.map (·.2)).head? = some [] := by
            rw [hc, List.head?_map, up_head]
            show some (srt []) = some []
            unfold srt; rw [List.mergeSort_nil]
          rw [List.head?_map, hcc] at h0
          exact Option.some.inj h0
        have pb := srtB_perm cs
        have pl : (srtL (srtB cs)).Perm (srtB cs) := List.mergeSort_perm _ _
        refine ⟨q7, srtB cs, rfl, .l e7, fun b hb => s7 _ _ (tc b (pb.mem_iff.mp hb)), by rw [pb.length_eq]; omega, fun q8 H8 hq8 s8 e8 => ?_⟩
        have s58 := s6.trans (s7.trans s8)
        obtain ⟨up1, up2⟩ := ups_perm hN io.pw hks ah
        have x08 : LamX.ExtN H H8 := x04.trans (extN_of (s5.trans s58))
        refine k q8 H8 (srtL (srtB cs)) (FreeN.of (x04.trans (extN_of (s5.trans (s6.trans s7)))) hq8) x08 (T4.ext (s5.trans s58)) e8 (fun b hb => s8 _ _ (s7 _ _ (tc b (pb.mem_iff.mp (pl.mem_iff.mp hb))))) ?_
        rw [srtLB (by rw [hc]; exact up2), hc]
        exact srtU_of ((srtU_perm _).trans up1) (srtU_pw _)
abbrev s__law_pool : Stmt := top 22
theorem sc__law_pool : FnScope ["_law_cell_here"] ["_law_cell_here"] (defScope s__law_pool) := ⟨rfl, rfl, rfl, by decide +kernel, rfl, by decide +kernel, by decide +kernel⟩
theorem ok__law_pool {P : Program} {w : World} {K : PySem.W.Frag} {mg : Str → Option Value} {base : Heap} {f : Addr} {fd : FuncData} (F : L2.Fun K "_law_pool" "_law_pool" s__law_pool f fd) :
    FnOk P w K mg base (L2.CX P w) 1 f fd ["_law_cell_here"] spPool := by
  refine fnOk_mk F sc__law_pool (fun vs H Q E h => h.1) (fun cdv A outer s H vs Q E hr h => ?_)
  obtain ⟨_, c, rfl, k⟩ := h
  refine ⟨_, pss_one (ps_ret (pe_lst (pa_cons (pv 0) (pa_cons pe_int (pa_cons (pe_cmpR op_ge (pv 0) (pe_op op_pow pe_int pe_int) (nomark _)) pa_nil))))), ?_⟩
  try dsimp only [cxOf]
  walk_at "rd"
  walk_at "rd"
  refine i_lst1 (Nat.le_of_ble_eq_true rfl) fun p H2 hp s e ho => ?_
  exact k p H2 hp s ho ⟨_, _, _, e⟩
abbrev s__law_cell : Stmt := top 24
theorem sc__law_cell : FnScope ["_law_script", "_law_k"] ["_law_script", "_law_k"] (defScope s__law_cell) := ⟨rfl, rfl, rfl, by decide +kernel, rfl, by decide +kernel, by decide +kernel⟩
theorem ok__law_cell {P : Program} {w : World} {K : PySem.W.Frag} {mg : Str → Option Value} {base : Heap} {f : Addr} {fd : FuncData} (F : L2.Fun K "_law_cell" "_law_cell" s__law_cell f fd)
    (C_b_len : mg "len" = none) :
    FnOk P w K mg base (L2.CX P w) 1 f fd ["_law_script", "_law_k"] (spCell K) := by
  refine fnOk_mk F sc__law_cell (fun vs H Q E h => h.1) (fun cdv A outer s H vs Q E hr h => ?_)
  obtain ⟨_, a, ns, i, rfl, hs, k⟩ := h
  refine ⟨_, pss_cons (ps_if (pt_cmpR op_lt (pv 1) (pe_callB (k_len (K := K) rfl) (by rfl) C_b_len (by decide +kernel) (pa_cons (pv 0) pa_nil)) (nomark _)) (pss_one (ps_ret (pe_ix ix_list (pv 0) (pv 1) (fun _ _ => rfl)))) (pss_nil))
    (pss_one (ps_ret pe_int)), ?_⟩
  try dsimp only [cxOf]
  walk_at "rd"
  refine ⟨a, _, rfl, .inl hs, ?_⟩
  walk_at "rd"
  refine i_dec (fun e => ?_) (fun e => ?_)
  · walk_at "rd"
    have hlt : i < ns.length := by
      rw [List.length_map] at e
      omega
    refine i_ixL hs (v := V.int ns[i]) (by simp [hlt]) ?_
    exact k _
  · walk_at "rd"
    exact k 0
abbrev s__law_take : Stmt := top 23
theorem sc__law_take : FnScope ["_law_pool_here", "_law_limit", "_law_drawn", "_law_mixed"] ["_law_pool_here", "_law_limit"] (defScope s__law_take) := ⟨rfl, rfl, rfl, by decide +kernel, rfl, by decide +kernel, by decide +kernel⟩
theorem ok__law_take {P : Program} {w : World} {K : PySem.W.Frag} {mg : Str → Option Value} {base : Heap} {f : Addr} {fd : FuncData} (F : L2.Fun K "_law_take" "_law_take" s__law_take f fd)
    (C_b_int : mg "int" = none) :
    FnOk P w K mg base (L2.CX P w) 1 f fd ["_law_pool_here", "_law_limit"] spTake := by
  refine fnOk_mk F sc__law_take (fun vs H Q E h => h.1) (fun cdv A outer s H vs Q E hr h => ?_)
  obtain ⟨_, p, l, rfl, ⟨c, k0, fl, hp⟩, h0, hz, k⟩ := h
  refine ⟨_, pss_cons (ps_asg (pe_op op_add (pe_ix ix_list (pv 0) pe_int (fun _ _ => rfl)) pe_int) (pg_sub (pv 0) pe_int set_list))
    (pss_cons (ps_if (pt_val (pe_ix ix_list (pv 0) pe_int (fun _ _ => rfl))) (pss_cons (ps_set (i := 2) sc__law_take.nd rfl (Or.inl rfl) (pe_op op_mod (pe_callTy call_int1 (by rfl) C_b_int (by decide +kernel) (pa_cons (pe_ix ix_list (pv 0) pe_int (fun _ _ => rfl)) pa_nil)) (pv 1)))
    (pss_cons (ps_asg (pe_op op_fdivZ (pe_callTy call_int1 (by rfl) C_b_int (by decide +kernel) (pa_cons (pe_ix ix_list (pv 0) pe_int (fun _ _ => rfl)) pa_nil)) (pv 1)) (pg_sub (pv 0) pe_int set_list))
    (pss_one (ps_ret (pv 2))))) (pss_nil))
    (pss_cons (ps_set (i := 3) sc__law_take.nd rfl (Or.inl rfl) (pe_op op_mod (pe_callTy call_int1 (by rfl) C_b_int (by decide +kernel) (pa_cons (pe_op op_add (pe_op op_add (pe_op op_mul (pe_ix ix_list (pv 0) pe_int (fun _ _ => rfl)) pe_int) (pe_op op_mul (pe_ix ix_list (pv 0) pe_int (fun _ _ => rfl)) pe_int)) pe_int) pa_nil)) pe_int))
    (pss_one (ps_ret (pe_op op_mod (pe_op op_fdivZ (pe_callTy call_int1 (by rfl) C_b_int (by decide +kernel) (pa_cons (pe_op op_mod (pe_op op_pow (pv 3) pe_int) pe_int) pa_nil)) pe_int) (pv 1)))))), ?_⟩
  try dsimp only [cxOf]
  walk_at "rd"
  refine i_ix1 (SqL.of hp) ?_
  walk_at "rd"
  refine i_setL (ys := [V.int c, V.int (k0 + 1), V.bl fl]) hp rfl rfl fun H2 e2 s2 => ?_
  have cl : ∀ i, CDivZ i l := fun i => cdivZ (by omega) hz
  walk_at "rd"
  refine i_ix2 (SqL.of e2) ?_
  walk_at "rd"
  cases fl
  · walk_at "rd"
    refine i_ix0 (SqL.of e2) ?_
    walk_at "rd"
    refine i_ix1 (SqL.of e2) ?_
    walk_at "rd"
    refine .inl ⟨_, rfl, ?_⟩
    walk_at "rd"
    refine i_rI ⟨by decide, by decide, ?_⟩ ?_
    · have h1 := Int.emod_lt_of_pos (c * 7919 + (k0 + 1) * 104729 + 13) (show (0 : Int) < 2147483647 by decide)
      have h2 := Int.emod_nonneg (c * 7919 + (k0 + 1) * 104729 + 13) (show (2147483647 : Int) ≠ 0 by decide)
      omega
    walk_at "rd"
    refine .inl ⟨_, rfl, ?_⟩
    walk_at "rd"
    exact k _ H2 (Int.emod_nonneg _ (by omega)) (Int.emod_lt_of_pos _ h0) s2 ⟨_, _, _, e2⟩
  · walk_at "rd"
    refine i_ix0 (SqL.of e2) ?_
    walk_at "rd"
    refine .inl ⟨_, rfl, ?_⟩
    walk_at "rd"
    refine i_ix0 (SqL.of e2) ?_
    walk_at "rd"
    refine .inl ⟨_, rfl, ?_⟩
    walk_at "rd"
    refine i_rI (cl _) ?_
    walk_at "rd"
    refine i_setL (ys := [V.int (c.fdiv l), V.int (k0 + 1), V.bl true]) e2 rfl rfl fun H3 e3 s3 => ?_
    walk_at "rd"
    exact k _ H3 (Int.emod_nonneg _ (by omega)) (Int.emod_lt_of_pos _ h0) (fun b hb => (s3 b hb).trans (s2 b hb)) ⟨_, _, _, e3⟩
theorem erase_perm {α : Type} : ∀ {l : List α} {k : Nat} {v : α}, l[k]? = some v → (v :: l.eraseIdx k).Perm l
  | [], k, v, h => by simp at h
  | x :: l, 0, v, h => by
    have e : x = v := by simpa using h
    subst e
    exact .refl _
  | x :: l, k + 1, v, h => by
    have h2 : l[k]? = some v := by simpa using h
    exact (List.Perm.swap x v (l.eraseIdx k)).trans ((erase_perm h2).cons x)
theorem map_erase {α β : Type} (f : α → β) : ∀ (l : List α) (k : Nat), (l.map f).eraseIdx k = (l.eraseIdx k).map f
  | [], k => by simp
  | x :: l, 0 => rfl
  | x :: l, k + 1 => by
    show f x :: ((l.map f).eraseIdx k) = _
    rw [map_erase f l k]
    rfl
theorem sz8 {l : Int} (h : l.natAbs ≤ 8) : ZR.Sz 8000 l := ZR.Sz.mono (n := 10) (Nat.lt_of_le_of_lt h (by decide +kernel)) (by decide)
def MENU : List Str := ["a", "b", "c", "x1", "x10", "y", "abcdefgh", "d9"]
theorem MENU_nodup : MENU.Nodup := by
  have h : (decide MENU.Nodup) = true := by decide +kernel
  exact of_decide_eq_true h
theorem MENU_ok : ∀ z ∈ MENU, nameB z = true := by
  have h : (MENU.all nameB) = true := by decide +kernel
  exact fun z hz => List.all_eq_true.mp h z hz
def spNames : Sp := fun vs H Q _ => vs.length = 2 ∧ ∃ (p : Addr) (n : Nat), vs = [.ref p, .int n] ∧ Pool H p ∧ n ≤ 8 ∧
  ∀ (q : Addr) (H' : Hp) (zs : List Str), H q = none → But p H H' → Pool H' p → H' q = some (.lst (zs.map V.str)) → zs.length = n → zs.Nodup → (∀ z ∈ zs, z ∈ MENU) → Q (.ref q) H'
/-- one drawn: from rest to zs -/
theorem draw_perm {zs rest : List Str} {k : Nat} {v : Str} {M : List Str} (h : (zs ++ rest).Perm M) (e : rest[k]? = some v) : ((zs ++ [v]) ++ rest.eraseIdx k).Perm M := by
  rw [List.append_assoc]
  exact ((erase_perm e).append_left zs).trans h
def spLPairs : Sp := fun vs H Q _ => vs.length = 2 ∧ ∃ (p b : Addr) (zs : List Str), vs = [.ref p, .ref b] ∧ Pool H p ∧ b ≠ p ∧ H b = some (.lst (zs.map V.str)) ∧ zs.length ≤ 8 ∧ zs.Nodup ∧
  ∀ (q : Addr) (H' : Hp) (E : List (Str × Str)), H q = none → But p H H' → Pool H' p → LPr H' q E → (∀ e ∈ E, e.1 ∈ zs ∧ e.2 ∈ zs) → E.length ≤ 64 → OM.Anti E → Q (.ref q) H'
def rForR2 (g : TG) (tb : TS) (D : Ends) (σ : L2.St) (vs : List V) (H1 : Hp) : Prop := ∃ i j : Int, vs = [.int i, .int j] ∧ (-(2 ^ 62) ≤ i ∧ i < 2 ^ 62 ∧ -(2 ^ 62) ≤ j ∧ j < 2 ^ 62) ∧ rFor (Itr i (j - i).toNat) g tb D σ H1
section
variable {σ : L2.St} {H : Hp} {D : Ends} {tr : TA} {g : TG}
end
theorem But.same {a : Addr} {H H' : Hp} (t : But a H H') {H0 : Hp} (n : H0 a = none) (s : Same H0 H) : Same H0 H' := fun b o e => t b o (ne_of_none e n) (s _ _ e)
theorem But.trans {a : Addr} {H H1 H2 : Hp} (s : But a H H1) (t : But a H1 H2) : But a H H2 := fun x o hx e => t x o hx (s x o hx e)
theorem But.of {a : Addr} {H H' : Hp} (s : Same H H') : But a H H' := fun x o _ e => s _ _ e
abbrev s__law_names : Stmt := top 25
theorem sc__law_names : FnScope ["_law_pool_here", "_law_many", "_law_menu", "_law_found", "_law_k"] ["_law_pool_here", "_law_many"] (defScope s__law_names) := ⟨rfl, rfl, rfl, by decide +kernel, rfl, by decide +kernel, by decide +kernel⟩
theorem ok__law_names {P : Program} {w : World} {K : PySem.W.Frag} {mg : Str → Option Value} {base : Heap} {f : Addr} {fd : FuncData} (F : L2.Fun K "_law_names" "_law_names" s__law_names f fd)
    (C_b_len : mg "len" = none)
    (C_b_range : mg "range" = none)
    (C_f_law_take : Cal P w K mg base "_law_take" 1 spTake) :
    FnOk P w K mg base (L2.CX P w) 2 f fd ["_law_pool_here", "_law_many"] spNames := by
  refine fnOk_mk F sc__law_names (fun vs H Q E h => h.1) (fun cdv A outer s H vs Q E hr h => ?_)
  obtain ⟨_, p, n, rfl, hp, hn, k⟩ := h
  refine ⟨_, pss_cons (ps_set (i := 2) sc__law_names.nd rfl (Or.inl rfl) (pe_lst (pa_cons pe_str (pa_cons pe_str (pa_cons pe_str (pa_cons pe_str (pa_cons pe_str (pa_cons pe_str (pa_cons pe_str (pa_cons pe_str pa_nil))))))))))
    (pss_cons (ps_set (i := 3) sc__law_names.nd rfl (Or.inl rfl) (pe_lst pa_nil))
    (pss_cons (ps_for (passes_of rfl) rfl (pi_range1 (by rfl) C_b_range (pa_cons (pv 1) pa_nil)) (pg_name (i := 4) sc__law_names.nd rfl (Or.inl rfl)) (pss_one (ps_expr (pe_bm PySem.F.plainAttrs_list PySem.F.slot_list_append PySem.F.type_list_append mt_append (pv 3) (pa_cons (pe_bm PySem.F.plainAttrs_list PySem.F.slot_list_pop PySem.F.type_list_pop mt_popAt (pv 2) (pa_cons (z_callC C_f_law_take hr passN (pa_cons (pv 0) (pa_cons (pe_callB (k_len (K := K) rfl) (by rfl) C_b_len (by decide +kernel) (pa_cons (pv 2) pa_nil)) pa_nil))) pa_nil)) pa_nil)))))
    (pss_one (ps_ret (pv 3))))), ?_⟩
  try dsimp only [cxOf]
  walk_at "rd"
  refine i_lst1 (Nat.le_of_ble_eq_true rfl) fun pm H1 hpm s1 e1 ho1 => ?_
  walk_at "rd"
  refine i_lst1 (Nat.le_of_ble_eq_true rfl) fun pf H2 hpf s2 e2 ho2 => ?_
  walk_at "rd"
  have pmn : pm ≠ p := fun z => by obtain ⟨c, k, f, e⟩ := hp; rw [z, e] at hpm; cases hpm
  have pfn : pf ≠ p := fun z => by obtain ⟨c, k, f, e⟩ := hp; rw [z, s1 _ _ e] at hpf; cases hpf
  have pfm : pf ≠ pm := fun z => by rw [z, e1] at hpf; cases hpf
  have hpfH : H pf = none := by
    cases z : H pf with
    | none => rfl
    | some o => rw [s1 _ _ z] at hpf; cases hpf
  refine i_forR (n := n) rfl (by omega) (fun i σ H' => ∃ (zs rest : List Str) (v : Option V), σ = [some (.ref p), some (.int (n : Nat)), some (.ref pm), some (.ref pf), v] ∧ H' pm = some (.lst (rest.map V.str)) ∧ H' pf = some (.lst (zs.map V.str)) ∧ zs.length = i ∧ (zs ++ rest).Perm MENU ∧ But p H H' ∧ Pool H' p)
    ⟨[], MENU, _, rfl, s2 _ _ e1, e2, rfl, .refl _, .of (s1.trans s2), ?_⟩ ?_ ?_
  · obtain ⟨c, k, f, e⟩ := hp
    exact ⟨c, k, f, s2 _ _ (s1 _ _ e)⟩
  · rintro i σ H3 hi ⟨zs, rest, v, rfl, em, ef, hz, perm, bt, pl⟩
    have hrl : zs.length + rest.length = 8 := by have := perm.length_eq; rw [List.length_append] at this; exact this
    walk_at "rd"
    refine ⟨tyL ef, ?_⟩
    walk_at "rd"
    refine ⟨tyL em, ?_⟩
    walk_at "rd"
    refine i_lenL (SqL.of em) ?_
    rw [List.length_map]
    walk_at "rd"
    refine i_take pl (by omega) (sz8 (show ((rest.length : Nat) : Int).natAbs ≤ 8 by omega)) fun r H4 r0 r1 o4 pl4 => ?_
    obtain ⟨m, rfl⟩ : ∃ m : Nat, r = (m : Int) := ⟨r.toNat, by omega⟩
    walk_at "rd"
    have hm : m < rest.length := by omega
    have hv : rest[m]? = some rest[m] := by simp [hm]
    refine i_popAt (k := m) (v := .str rest[m]) (by rw [o4 _ pmn]; exact em) (by rw [List.length_map]; omega) (by rw [List.getElem?_map, hv]; rfl) fun H5 e5 o5 => ?_
    walk_at "rd"
    refine i_app (xs := zs.map V.str) (by rw [o5 _ pfm, o4 _ pfn]; exact ef) (by rw [List.length_map]; omega) fun H6 e6 o6 => ?_
    walk_at "rd"
    refine ⟨zs ++ [rest[m]], rest.eraseIdx m, _, rfl, ?_, by rw [e6, List.map_append]; rfl, by rw [List.length_append, hz]; rfl, draw_perm perm hv, ?_, ?_⟩
    · rw [o6 _ (Ne.symm pfm), e5, map_erase]
    · intro x o hx e
      rw [o6 x (ne_of_none e hpfH), o5 x (ne_of_none e hpm), o4 x hx]
      exact bt x o hx e
    · obtain ⟨c, k, f, e⟩ := pl4
      exact ⟨c, k, f, by rw [o6 _ (Ne.symm pfn), o5 _ (Ne.symm pmn)]; exact e⟩
  · rintro σ H3 ⟨zs, rest, v, rfl, em, ef, hz, perm, bt, pl⟩
    walk_at "rd"
    refine k pf H3 zs hpfH bt pl ef hz ?_ fun z hz => perm.mem_iff.mp (List.mem_append_left _ hz)
    exact (List.nodup_append.mp (perm.nodup_iff.mpr MENU_nodup)).1
/-- pairs of a line: the first one stands ahead of the second -/
def Ahead (ls : List Str) (E : List (Str × Str)) : Prop := ∀ e ∈ E, ∃ (i j : Nat), i < j ∧ ls[i]? = some e.1 ∧ ls[j]? = some e.2
theorem idx_nodup {ls : List Str} (h : ls.Nodup) {i : Nat} {z : Str} (e : ls[i]? = some z) : ls.idxOf z = i := by
  obtain ⟨hi, e⟩ := List.getElem?_eq_some_iff.mp e
  subst e
  exact h.idxOf_getElem i hi
def del (q : Addr) (H : Hp) : Hp := fun x => if x = q then none else H x
theorem del_at {q x : Addr} {H : Hp} (h : x ≠ q) : del q H x = H x := if_neg h
theorem same_del {q : Addr} {H H' : Hp} (t : But q H H') : Same (del q H) H' := fun x o e => by
  by_cases h : x = q
  · rw [h] at e
    unfold del at e
    rw [if_pos rfl] at e
    cases e
  · rw [del_at h] at e
    exact t x o h e
theorem But.refl (a : Addr) (H : Hp) : But a H H := fun _ _ _ e => e
/-- what the law knows about its names and its table -/
structure Tbl (zs : List Str) (W : Str → List Str) (R : Str → Str → Bool) : Prop where
  len : zs.length ≤ 8
  nd : zs.Nodup
  ok : ∀ n ∈ zs, nameB n = true
  wnd : ∀ n ∈ zs, (W n).Nodup
  mem : ∀ n ∈ zs, ∀ x, x ∈ W n ↔ x ∈ zs ∧ R n x = true
  rf : ∀ a, R a a = true
abbrev s_Order_below : Stmt := inClass (top 20) 4
theorem sc_Order_below : FnScope ["self", "low", "high"] ["self", "low", "high"] (defScope s_Order_below) := ⟨rfl, rfl, rfl, by decide +kernel, rfl, by decide +kernel, by decide +kernel⟩
theorem ok_Order_below {P : Program} {w : World} {K : PySem.W.Frag} {mg : Str → Option Value} {base : Heap} {CO CU : Addr} {f : Addr} {fd : FuncData} (F : L2.Fun K "below" "Order.below" s_Order_below f fd)
    (C_c_Order : ClO K CO)
    (C_f_check_among : Cal P w K mg base "check_among" 3 (spAmong K CU))
    (C_na_Order__above : NoAttr K CO "_above")
    (C_na_Order_names : NoAttr K CO "names") :
    FnOk P w K mg base (L2.CX P w) 4 f fd ["self", "low", "high"] (spBelow CO CU) := by
  refine fnOk_mk F sc_Order_below (fun vs H Q E h => h.1) (fun cdv A outer s H vs Q E hr h => ?_)
  obtain ⟨_, a, N, R, x, y, rfl, ho, kx, k⟩ := h
  obtain ⟨dx, t, d, e1, e2, ⟨A', e3, e4⟩, hl, hN, hnl⟩ := ho
  refine ⟨_, pss_cons (ps_expr (z_callC C_f_check_among hr (fun σ => passAt (takes_of rfl rfl rfl rfl) σ) (pa_cons (pe_fld (pv 0) rfl) (pa_cons (pe_tup (pa_cons (pv 1) (pa_cons (pv 2) pa_nil))) pa_nil))))
    (pss_one (ps_ret (pe_cmpR (k_inS (K := K) rfl) (pv 2) (pe_dget (hu_of hr) (pe_fld (pv 0) rfl) (pv 1) (fun _ _ => rfl)) rfl))), ?_⟩
  try dsimp only [cxOf]
  walk_at "rd"
  refine i_fld1 e1 C_c_Order.toCls C_na_Order_names rf_names ?_
  walk_at "rd"
  refine i_tup1 (by show 2 ≤ 100000; decide) fun q H1 hq s1 eq1 ho1 => ?_
  walk_at "rd"
  refine ⟨rfl, t, q, N, [x, y], rfl, SqA.t (s1 _ _ e2), SqA.t eq1, fun z hz => ?_, fun hm H2 s2 => ?_⟩
  · obtain ⟨rb, kx⟩ := kx z hz
    exact ⟨rb, fun d' H' s e => kx d' H' (s1.trans s) e⟩
  · have s02 := s1.trans s2
    have hx0 : x ∈ N := by
      have := List.find?_eq_none.mp hm x (by simp)
      simpa using this
    have hy0 : y ∈ N := by
      have := List.find?_eq_none.mp hm y (by simp)
      simpa using this
    walk_at "rd"
    refine i_fld1 (s02 _ _ e1) C_c_Order.toCls C_na_Order__above rf_above ?_
    walk_at "rd"
    refine i_dget (s02 _ _ e3) (rows_val hx0) ?_
    refine i_inS (SqA.t (s02 _ _ (e4 x hx0))) ?_
    have em : decide (y ∈ OM.ab N R x) = R x y := by
      rw [Bool.eq_iff_iff, decide_eq_true_eq, OM.mem_ab]
      exact ⟨fun z => z.2, fun z => ⟨hy0, z⟩⟩
    rw [em]
    exact k hm H2 s02
abbrev s_Order___contains__ : Stmt := inClass (top 20) 12
theorem sc_Order___contains__ : FnScope ["self", "name"] ["self", "name"] (defScope s_Order___contains__) := ⟨rfl, rfl, rfl, by decide +kernel, rfl, by decide +kernel, by decide +kernel⟩
theorem ok_Order___contains__ {P : Program} {w : World} {K : PySem.W.Frag} {mg : Str → Option Value} {base : Heap} {CO : Addr} {f : Addr} {fd : FuncData} (F : L2.Fun K "__contains__" "Order.__contains__" s_Order___contains__ f fd)
    (C_c_Order : ClO K CO)
    (C_na_Order__above : NoAttr K CO "_above")
    (C_na_Order_names : NoAttr K CO "names") :
    FnOk P w K mg base (L2.CX P w) 1 f fd ["self", "name"] (spOIn CO) := by
  refine fnOk_mk F sc_Order___contains__ (fun vs H Q E h => h.1) (fun cdv A outer s H vs Q E hr h => ?_)
  obtain ⟨_, a, N, R, z, rfl, ho, k⟩ := h
  obtain ⟨dx, t, d, e1, e2, ⟨A', e3, e4⟩, hl, hN, hnl⟩ := ho
  refine ⟨_, pss_one (ps_ret (pe_cmpR (k_inS (K := K) rfl) (pv 1) (pe_fld (pv 0) rfl) rfl)), ?_⟩
  try dsimp only [cxOf]
  walk_at "rd"
  refine i_fld1 e1 C_c_Order.toCls C_na_Order_names rf_names ?_
  refine i_inS (SqA.t e2) ?_
  exact k H (Same.refl _)
def rowD (N : List Str) (R : Str → Str → Bool) : Key → PyData
  | .inr n => .tuple ((OM.ab N R n).map .str)
  | _ => .none
abbrev s_Order___eq__ : Stmt := inClass (top 20) 15
theorem sc_Order___eq__ : FnScope ["self", "other"] ["self", "other"] (defScope s_Order___eq__) := ⟨rfl, rfl, rfl, by decide +kernel, rfl, by decide +kernel, by decide +kernel⟩
theorem ok_Order___eq__ {P : Program} {w : World} {K : PySem.W.Frag} {mg : Str → Option Value} {base : Heap} {CO : Addr} {f : Addr} {fd : FuncData} (F : L2.Fun K "__eq__" "Order.__eq__" s_Order___eq__ f fd)
    (C_b_isinstance : mg "isinstance" = none)
    (C_c_Order : ClO K CO)
    (C_gOrder : mg "Order" = some (.ref CO))
    (C_ki_Order_Order : PySem.W.kitOne K (.ref CO) (.ref CO) = some true)
    (C_na_Order__above : NoAttr K CO "_above")
    (C_na_Order_names : NoAttr K CO "names") :
    FnOk P w K mg base (L2.CX P w) 1 f fd ["self", "other"] (spOEq K CO) := by
  refine fnOk_mk F sc_Order___eq__ (fun vs H Q E h => h.1) (fun cdv A outer s H vs Q E hr h => ?_)
  obtain ⟨_, a, N, R, y, rfl, ho, cs⟩ := h
  refine ⟨_, pss_one (ps_ret (pe_and (pe_callB call_isi (by rfl) C_b_isinstance (by decide +kernel) (pa_cons (pv 1) (pa_cons ((pe_glob (v := .ref CO) rfl C_gOrder rfl)) pa_nil))) (pe_and (pe_cmpR (k_eqD (K := K) rfl hr.units) (pe_fld (pv 0) rfl) (pe_fld (pv 1) rfl) (nomark _)) (pe_one (pe_cmpR (k_eqDD (K := K) rfl (u66 hr)) (pe_fld (pv 0) rfl) (pe_fld (pv 1) rfl) (nomark _)))))), ?_⟩
  try dsimp only [cxOf]
  walk_at "rd"
  rcases cs with ⟨b, M, S, rfl, ho2, k⟩ | ⟨t, ty, hk, k⟩
  · obtain ⟨dx, t, d, e1, e2, ⟨A', e3, e4⟩, hl, hN, hnl⟩ := ho
    obtain ⟨dx2, t2, d2, f1, f2, ⟨A2, f3, f4⟩, hl2, hN2, hnl2⟩ := ho2
    refine i_isiO (C_c_Order.ty f1) (b := true) C_ki_Order_Order ?_
    walk_at "rd"
    refine i_fld1 e1 C_c_Order.toCls C_na_Order_names rf_names ?_
    walk_at "rd"
    refine i_fld1 f1 C_c_Order.toCls C_na_Order_names rf_names ?_
    refine ⟨_, _, .tup (SqT.of e2) (dp_strs N), .tup (SqT.of f2) (dp_strs M), shaped_tupS hnl, shaped_tupS hnl2, ?_⟩
    rw [eqv_tupS]
    refine ⟨_, rfl, ?_⟩
    refine i_dec (fun e => ?_) (fun e => ?_)
    · subst e
      walk_at "rd"
      refine i_fld1 e1 C_c_Order.toCls C_na_Order__above rf_above ?_
      walk_at "rd"
      refine i_fld1 f1 C_c_Order.toCls C_na_Order__above rf_above ?_
      have keys : ∀ A : Str → Addr, (rowsOf N A).map (·.1) = N.map Sum.inr := fun A => by unfold rowsOf; rw [List.map_map]; rfl
      have one : ∀ (A : Str → Addr) (T : Str → Str → Bool), (∀ n ∈ N, H (A n) = some (.tup ((OM.ab N T n).map V.str))) → ∀ p ∈ rowsOf N A, Dp K H p.2 (rowD N T p.1) ∧ SeqAt.shaped (rowD N T p.1) = true := by
        intro A T h p hp
        obtain ⟨n, hn, rfl⟩ := List.mem_map.mp hp
        exact ⟨.tup (SqT.of (h n hn)) (dp_strs _), shaped_tupS fun z hz => hnl z (OM.mem_ab.mp hz).1⟩
      refine ⟨d, d2, _, _, rowD N R, rowD N S, rfl, rfl, e3, f3, by rw [keys, keys], one A' R e4, one A2 S f4, ?_⟩
      have ef : ((rowsOf N A').map (·.1)).all (fun q : Key => PyData.eqv (rowD N R q) (rowD N S q)) = (decide (N = N) && N.all fun n => decide (OM.ab N R n = OM.ab N S n)) := by
        rw [keys, List.all_map, decide_eq_true rfl, Bool.true_and]
        congr 1
        funext n
        exact eqv_tupS _ _
      rw [ef]
      exact k H (Same.refl _)
    · have := k H (Same.refl _)
      rw [decide_eq_false e, Bool.false_and] at this
      exact this
  · refine i_isiO ty hk ?_
    walk_at "rd"
    exact k H (Same.refl _)
abbrev s_Order__between : Stmt := inClass (top 20) 7
theorem sc_Order__between : FnScope ["self", "low", "high", "name"] ["self", "low", "high"] (defScope s_Order__between) := ⟨rfl, rfl, rfl, by decide +kernel, rfl, by decide +kernel, by decide +kernel⟩
theorem ok_Order__between {P : Program} {w : World} {K : PySem.W.Frag} {mg : Str → Option Value} {base : Heap} {CO : Addr} {f : Addr} {fd : FuncData} (F : L2.Fun K "_between" "Order._between" s_Order__between f fd)
    (C_c_Order : ClO K CO)
    (C_na_Order__above : NoAttr K CO "_above")
    (C_na_Order_names : NoAttr K CO "names") :
    FnOk P w K mg base (L2.CX P w) 1 f fd ["self", "low", "high"] (spBtw CO) := by
  refine fnOk_mk F sc_Order__between (fun vs H Q E h => h.1) (fun cdv A outer s H vs Q E hr h => ?_)
  obtain ⟨_, a, N, R, x, y, rfl, ho, hx0, hy0, k⟩ := h
  obtain ⟨dx, t, d, e1, e2, ⟨A', e3, e4⟩, hl, hN, hnl⟩ := ho
  refine ⟨_, pss_one (ps_ret (pe_lc (own := [("name", 3)]) (by rfl) sc_Order__between.nd (pi_any (K := K) rfl (pe_dget (hu_of hr) (pe_fld (pv 0) rfl) (pv 1) (fun _ _ => rfl))) (blkOk_by (N := ["self", "low", "high", "name"]) (sc := defScope s_Order__between) (by decide +kernel)) (fun _ _ _ _ _ => pg_name (i := 3) sc_Order__between.nd rfl (Or.inl rfl)) (fun _ _ _ _ _ => pts_one (pt_cmpR (k_inS (K := K) rfl) (pv 2) (pe_dget (hu_of hr) (k_fld (K := K) rfl (pv 0) rfl) (pv 3) (fun _ _ => rfl)) rfl)) (fun _ _ _ _ _ => pv 3))), ?_⟩
  try dsimp only [cxOf]
  walk_at "rd"
  refine i_fld1 e1 C_c_Order.toCls C_na_Order__above rf_above ?_
  walk_at "rd"
  refine i_dget e3 (rows_val hx0) ?_
  refine i_lcA (H0 := H) (fun i ys H1 => Same H H1 ∧ ys = (((OM.ab N R x).take i).filter fun c => R c y).map V.str) (SqA.t (e4 x hx0)) (Same.refl _) ?_ ?_ ?_ ?_
  · intro D H' hD sm e ho
    exact ⟨sm, rfl⟩
  · exact fun i ys H1 p => p.1
  · rintro i v D ys H1 hD hx eD ⟨s1, rfl⟩
    obtain ⟨c, hc, rfl⟩ := strs_at hx
    have hcN : c ∈ N := (OM.mem_ab.mp (List.mem_of_getElem? hc)).1
    walk_at "rd"
    refine ⟨by with_unfolding_all rfl, ?_⟩
    walk_at "rd"
    refine i_fld1 (s1 _ _ e1) C_c_Order.toCls C_na_Order__above rf_above ?_
    walk_at "rd"
    refine i_dget (s1 _ _ e3) (rows_val hcN) ?_
    refine i_inS (SqA.t (s1 _ _ (e4 c hcN))) ?_
    walk_at "rd"
    have em : decide (y ∈ OM.ab N R c) = R c y := by
      rw [Bool.eq_iff_iff, decide_eq_true_eq, OM.mem_ab]
      exact ⟨fun z => z.2, fun z => ⟨hy0, z⟩⟩
    rw [em]
    refine i_bool (fun e => ?_) (fun e => ?_)
    · walk_at "rd"
      refine i_lcE eD ?_ fun H4 e4' ho4 => ⟨fun b o eb => ?_, ?_⟩
      · rw [List.length_map]
        have := List.length_filter_le (fun c => R c y) ((OM.ab N R x).take i)
        have h2 : ((OM.ab N R x).take i).length ≤ N.length := Nat.le_trans (by rw [List.length_take]; omega) (ab_len (N := N) (R := R) (n := x))
        omega
      · rw [ho4 b (ne_of_none eb hD)]
        exact s1 _ _ eb
      · rw [take_snoc hc, List.filter_append, List.map_append]
        simp [e]
    · refine ⟨_, eD, s1, ?_⟩
      rw [take_snoc hc, List.filter_append, List.map_append]
      simp [e]
  · rintro D ys H1 hD eD ⟨s1, rfl⟩
    rw [List.length_map, List.take_length] at eD
    exact k D H1 hD s1 eD
abbrev s_Order_covers : Stmt := inClass (top 20) 6
theorem sc_Order_covers : FnScope ["self", "low", "high"] ["self"] (defScope s_Order_covers) := ⟨rfl, rfl, rfl, by decide +kernel, rfl, by decide +kernel, by decide +kernel⟩
theorem ok_Order_covers {P : Program} {w : World} {K : PySem.W.Frag} {mg : Str → Option Value} {base : Heap} {CO : Addr} {f : Addr} {fd : FuncData} (F : L2.Fun K "covers" "Order.covers" s_Order_covers f fd)
    (C_b_len : mg "len" = none)
    (C_c_Order : ClO K CO)
    (C_m_Order__between : CalM P w K mg base CO "_between" 1 (spBtw CO))
    (C_m_Order_pairs : CalM P w K mg base CO "pairs" 1 (spPairs CO))
    (C_na_Order__above : NoAttr K CO "_above")
    (C_na_Order_names : NoAttr K CO "names") :
    FnOk P w K mg base (L2.CX P w) 2 f fd ["self"] (spCovers CO) := by
  refine fnOk_mk F sc_Order_covers (fun vs H Q E h => h.1) (fun cdv A outer s H vs Q E hr h => ?_)
  obtain ⟨_, a, N, R, rfl, ho, k⟩ := h
  obtain ⟨dx, t, d, e1, _, _, hl, _, _⟩ := id ho
  have hll : N.length * N.length ≤ 8 * 8 := Nat.mul_le_mul hl hl
  have hpl := prs_len (N := N) (R := R)
  refine ⟨_, pss_one (ps_ret (pe_lc (own := [("low", 1), ("high", 2)]) (by rfl) sc_Order_covers.nd (pi_any (K := K) rfl (z_meth0C (pv 0) C_c_Order.toCls C_m_Order_pairs hr passN)) (blkOk_by (N := ["self", "low", "high"]) (sc := defScope s_Order_covers) (by decide +kernel)) (fun _ _ _ _ _ => k_tup (K := K) (n := 2) rfl rfl (pgs_cons (pg_name (i := 1) sc_Order_covers.nd rfl (Or.inl rfl)) (pgs_cons (pg_name (i := 2) sc_Order_covers.nd rfl (Or.inl rfl)) pgs_nil))) (fun _ _ _ _ _ => pts_one (pt_cmpR op_eq (pe_callB (k_len (K := K) rfl) (by rfl) C_b_len (by decide +kernel) (pa_cons (z_methC (pv 0) C_c_Order.toCls C_m_Order__between hr passN (pa_cons (pv 1) (pa_cons (pv 2) pa_nil))) pa_nil)) pe_int (nomark _))) (fun _ _ _ _ _ => pe_tup (pa_cons (pv 1) (pa_cons (pv 2) pa_nil))))), ?_⟩
  try dsimp only [cxOf]
  walk_at "rd"
  refine i_meth1 e1 (ro_no (by decide +kernel) (by decide +kernel)) ?_
  walk_at "rd"
  refine ⟨rfl, a, N, R, rfl, ho, fun p H1 hp s1 hP => ?_⟩
  obtain ⟨ps, es, ht⟩ := hP
  refine i_lcA (H0 := H1) (fun i ys H2 => Same H1 H2 ∧ ∃ qs, ys = qs.map V.ref ∧ TPr H2 qs (((OM.prs N R).take i).filter fun p => decide ((OM.btw N R p.1 p.2).length = 2))) (SqA.l es) (Same.refl _) ?_ ?_ ?_ ?_
  · intro D H' hD sm e ho
    exact ⟨sm, [], rfl, .nil⟩
  · exact fun i ys H2 p => p.1
  · rintro i v D ys H2 hD hx eD ⟨s2, qs, rfl, hq⟩
    rw [List.getElem?_map] at hx
    obtain ⟨q, hqi, rfl⟩ : ∃ q, ps[i]? = some q ∧ v = V.ref q := by
      cases e : ps[i]? with
      | none => rw [e] at hx; cases hx
      | some q => rw [e] at hx; exact ⟨q, rfl, (Option.some.inj hx).symm⟩
    have lt := (List.getElem?_eq_some_iff.mp hqi).1
    rw [ht.1] at lt
    have hei : (OM.prs N R)[i]? = some (OM.prs N R)[i] := by simp [lt]
    have eq := ht.2 i q _ hqi hei
    generalize hxy : (OM.prs N R)[i] = xy at *
    obtain ⟨x, y⟩ := xy
    have hm : (x, y) ∈ OM.prs N R := List.mem_of_getElem? (i := i) hei
    obtain ⟨hx0, hy0, _, _⟩ := OM.mem_prs.mp hm
    have oo := ho.mono (s1.trans s2)
    obtain ⟨dx2, t2, d2, e1', _⟩ := id oo
    refine i_gtup (SqT.of (s2 _ _ eq)) rfl ?_
    walk_at "rd"
    refine ⟨by with_unfolding_all rfl, ?_⟩
    walk_at "rd"
    refine i_meth1 e1' (ro_no (by decide +kernel) (by decide +kernel)) ?_
    walk_at "rd"
    refine ⟨rfl, a, N, R, x, y, rfl, oo, hx0, hy0, fun l H3 hl3 s3 e3 => ?_⟩
    walk_at "rd"
    refine i_lenA (SqA.l e3) ?_
    rw [List.length_map]
    walk_at "rd"
    refine i_dec (fun e => ?_) (fun e => ?_)
    · walk_at "rd"
      refine i_tup1 (by show 2 ≤ 100000; decide) fun q2 H4 hq4 s4 e4 ho4 => ?_
      have eD4 := s4 _ _ (s3 _ _ eD)
      refine i_lcE eD4 ?_ fun H5 e5 ho5 => ⟨fun b o eb => ?_, qs ++ [q2], by rw [List.map_append]; rfl, ?_⟩
      · rw [List.length_map, hq.1]
        have := List.length_filter_le (fun p => decide ((OM.btw N R p.1 p.2).length = 2)) ((OM.prs N R).take i)
        rw [List.length_take] at this
        omega
      · rw [ho5 b (ne_of_none eb hD)]
        exact s4 _ _ (s3 _ _ (s2 _ _ eb))
      · have := (((hq.mono s3).mono s4).snoc e4).keep (lst_keep eD4 ho5)
        rw [take_snoc hei, List.filter_append]
        have e2 : (OM.btw N R x y).length = 2 := by omega
        simpa [e2] using this
    · refine ⟨_, s3 _ _ eD, s2.trans s3, qs, rfl, ?_⟩
      rw [take_snoc hei, List.filter_append]
      have e2 : ¬ (OM.btw N R x y).length = 2 := by omega
      simpa [e2] using hq.mono s3
  · rintro D ys H2 hD eD ⟨s2, qs, rfl, hq⟩
    rw [List.length_map, ht.1, List.take_length] at hq
    refine k D H2 ?_ (s1.trans s2) ⟨qs, eD, hq⟩
    cases z : H D with
    | none => rfl
    | some o => rw [s1 _ _ z] at hD; cases hD
theorem cut_from (xs : List V) (j : Nat) (h : j ≤ xs.length) : cutV xs (some (j : Int)) none = xs.drop j := by
  have e : HT.sIx xs.length 0 (some (j : Int)) = j := by
    unfold HT.sIx
    simp
    split <;> omega
  have e2 : HT.sIx xs.length xs.length none = xs.length := rfl
  unfold cutV
  rw [e, e2]
  exact List.take_of_length_le (by rw [List.length_drop]; omega)
def pairsOf (zs : List Str) : List (Str × Str) := zs.zip zs.tail
theorem pairs_at {zs : List Str} {i : Nat} {e : Str × Str} (h : (pairsOf zs)[i]? = some e) : zs[i]? = some e.1 ∧ zs[i + 1]? = some e.2 := by
  unfold pairsOf at h
  rw [List.getElem?_zip_eq_some] at h
  refine ⟨h.1, ?_⟩
  have := h.2
  rwa [List.getElem?_tail] at this
theorem pairs_anti {zs : List Str} (h : zs.Nodup) : OM.Anti (pairsOf zs) := OM.anti_rank (fun z => zs.idxOf z) fun e he => .inr (by
  obtain ⟨i, hi⟩ := List.getElem?_of_mem he
  obtain ⟨h1, h2⟩ := pairs_at hi
  have a1 := idx_nodup h h1
  have a2 := idx_nodup h h2
  show zs.idxOf e.1 < zs.idxOf e.2
  omega)
theorem pairs_mem {zs : List Str} {e : Str × Str} (he : e ∈ pairsOf zs) : e.1 ∈ zs ∧ e.2 ∈ zs := by
  obtain ⟨i, hi⟩ := List.getElem?_of_mem he
  obtain ⟨h1, h2⟩ := pairs_at hi
  exact ⟨List.mem_of_getElem? h1, List.mem_of_getElem? h2⟩

def spChainG (K : PySem.W.Frag) (CO CB CN CD : Addr) : Sp := fun vs H Q E => vs.length = 2 ∧ ∃ (t : Addr) (zs : List Str), vs = [.ref CO, .ref t] ∧ H t = some (.tup (zs.map V.str)) ∧ zs.length ≤ 60 ∧ (∀ z ∈ zs, z.length ≤ 100000) ∧
  (¬ (1 ≤ zs.length ∧ zs.length ≤ 8) → EBad CB (zs.length : Nat) H E) ∧
  ((1 ≤ zs.length ∧ zs.length ≤ 8) → (∀ b z, nmF [] zs = some (b, z) → RB z ∧ EName (if b then CD else CN) z H E) ∧
    (nmF [] zs = none → ∀ p H', H p = none → Same H H' → IsOE CO H' p (srt zs) (pairsOf zs) → Q (.ref p) H'))
theorem same_of_but {x : Addr} {H H1 H' : Hp} (s : Same H H1) (hx : H x = none) (b : But x H1 H') : Same H H' := fun c o e => b c o (ne_of_none e hx) (s _ _ e)
theorem i_slA {K : PySem.W.Frag} {a : Addr} {H : Hp} {Q : VK} {xs : List V} {lo hi : Option Int} (ha : SqT K H a xs) (h : ∀ p H', Same H H' → SqT K H' p (cutV xs lo hi) → Q (.ref p) H') : rSlA K (.ref a) lo hi H Q := by
  refine ⟨a, xs, rfl, ha, fun hw => ?_, fun hw p hp => ?_⟩
  · refine h a H (Same.refl _) ?_
    have e : cutV xs lo hi = xs := by
      unfold cutV
      rw [hw.1, hw.2]
      simp
    rw [e]
    exact ha
  · exact h p _ (fun b o e => by rw [upd_ne (ne_of_none e hp)]; exact e) (.of upd_same)
abbrev s_Order_chain : Stmt := inClass (top 20) 1
theorem sc_Order_chain : FnScope ["cls", "names"] ["cls", "names"] (defScope s_Order_chain) := ⟨rfl, rfl, rfl, by decide +kernel, rfl, by decide +kernel, by decide +kernel⟩
theorem ok_Order_chain {P : Program} {w : World} {K : PySem.W.Frag} {mg : Str → Option Value} {base : Heap} {CB CD CG CN CO CU : Addr} {f : Addr} {fd : FuncData} (F : L2.Fun K "chain" "Order.chain" s_Order_chain f fd)
    (C_b_list : mg "list" = none)
    (C_b_zip : mg "zip" = none)
    (C_c_Order : ClO K CO)
    (C_i_Order : CalI P w K mg base "Order" CO 4 (spOInitG K CO CB CN CD CU CG))
    (C_na_Order__above : NoAttr K CO "_above")
    (C_na_Order_names : NoAttr K CO "names") :
    FnR P w K mg base (L2.CX P w) 6 f (spStar 1 (spChainG K CO CB CN CD)) := by
  refine fnS_mk1 (pv := "names") F sc_Order_chain (fun _ _ _ _ _ _ _ => rfl) (fun _ _ _ _ _ _ _ _ _ => rfl) (fun cdv A outer s H vs Q E hr h => ?_)
  obtain ⟨_, t, zs, rfl, ht, h60, hzl, kB, kG⟩ := h
  refine ⟨_, pss_one (ps_ret (z_makeL (i := 0) C_i_Order hr (fun σ => passAt (takes_of rfl rfl rfl rfl) σ) (pa_cons (pv 1) (pa_cons (pe_lzip (K := K) rfl rfl rfl C_b_list rfl C_b_zip (pa_cons (pv 1) (pa_cons (pe_slice sl_tupA (pv 1) (po_some pe_int) po_none) pa_nil))) pa_nil)))), ?_⟩
  try dsimp only [cxOf]
  walk_at "rd"
  refine ⟨by with_unfolding_all rfl, ?_⟩
  walk_at "rd"
  have l1 : (zs.map V.str).length = zs.length := List.length_map ..
  refine i_slA (.of ht) fun p H1 s1 e1 => ?_
  have ec : cutV (zs.map V.str) (some 1) none = (zs.map V.str).drop 1 := by
    by_cases h0 : zs = []
    · subst h0; rfl
    · exact cut_from (zs.map V.str) 1 (by have := List.length_pos_iff.mpr h0; omega)
  rw [ec] at e1
  walk_at "rd"
  refine ⟨t, p, _, _, rfl, .of (s1 _ _ ht), e1, fun q ps H2 hq s2 eq hl hps => ?_⟩
  walk_at "rd"
  have lp : ps.length = (pairsOf zs).length := by
    rw [hl, List.length_drop, l1]
    unfold pairsOf
    rw [List.length_zip, List.length_tail]
  have tp : TPr H2 ps (pairsOf zs) := by
    refine ⟨lp, fun i r e hr he => ?_⟩
    obtain ⟨x, y, hx, hy, hxy⟩ := hps i r hr
    obtain ⟨g1, g2⟩ := pairs_at he
    rw [List.getElem?_map, g1] at hx
    rw [List.getElem?_drop, List.getElem?_map, Nat.add_comm 1 i, g2] at hy
    cases hx
    cases hy
    exact hxy
  have lE : (pairsOf zs).length ≤ 10000 := by
    unfold pairsOf
    rw [List.length_zip]
    omega
  have s12 : Same H H2 := s1.trans s2
  intro x dx hx hdx hne
  have sm : Same H2 (upd (upd H2 dx (.own x)) x (.ins CO dx [])) := fun c o e => by
    rw [upd_ne (ne_of_none e hx), upd_ne (ne_of_none e hdx)]
    exact e
  have hxH : H x = none := by
    cases z : H x with
    | none => rfl
    | some v => rw [s12 _ _ z] at hx; cases hx
  have bs : ∀ {H'}, But x (upd (upd H2 dx (.own x)) x (.ins CO dx [])) H' → Same H H' := fun t => same_of_but (s12.trans sm) hxH t
  have hM := missE_ok (ks := zs) (E := pairsOf zs) fun e he => pairs_mem he
  refine ⟨rfl, x, t, q, zs, pairsOf zs, rfl, ⟨dx, upd_same⟩, sameA sm (SqA.t (s12 _ _ ht)), PrA.mono sm (LPr.a ⟨ps, eq, tp⟩), h60, hzl, lE, fun g d H' b e => kB g d H' (bs b) e, fun g => ⟨fun b z hz => ⟨((kG g).1 b z hz).1, fun d H' bb e => ((kG g).1 b z hz).2 d H' (bs bb) e⟩, fun hF => ⟨fun z hz => (by rw [hM] at hz; cases hz), fun _ => ?_⟩⟩⟩
  have nd : zs.Nodup := by simpa using (nmF_none zs [] hF List.nodup_nil).2
  have hR := rings_no (N := srt zs) (pairs_anti nd)
  refine ⟨fun g => absurd hR g, fun _ H' io t => ⟨rfl, (kG g).2 hF x H' hxH (bs t) ⟨io, srt_pw zs, pairs_anti nd, fun e he => ⟨mem_srt.mpr (pairs_mem he).1, mem_srt.mpr (pairs_mem he).2⟩, ?_⟩⟩⟩
  rw [(srt_perm zs).length_eq]
  exact g.1
def cN (p : Str) (k : Nat) : Str := Str.empty ++ p ++ Str.ofString (toString ((1 : Int) + (k : Nat)))
def cL (p : Str) (m : Nat) : List Str := (List.range m).map (cN p)
def cE1 (m k : Nat) : List (Str × Str) := [(cN "a" k, cN "b" k), (cN "a" k, cN "b" (if k = 0 then m - 1 else k - 1))]
def cE (m : Nat) : List (Str × Str) := (List.range m).flatMap (cE1 m)
def cOk (m : Nat) : Bool := ((cL "a" m ++ cL "b" m).all nameB) && decide (cL "a" m ++ cL "b" m).Nodup && (cE m).all fun e => decide (e.1 ∈ cL "a" m) && decide (e.2 ∈ cL "b" m) && !decide (e.1 ∈ cL "b" m)
theorem cOk_all : ∀ m : Nat, 2 ≤ m → m ≤ 4 → cOk m = true := by
  intro m h1 h2
  have : m = 2 ∨ m = 3 ∨ m = 4 := by omega
  rcases this with rfl | rfl | rfl <;> decide +kernel
def spCrown (CO : Addr) : Sp := fun vs H Q E => vs.length = 2 ∧ ∃ n : Int, vs = [.ref CO, .int n] ∧ (2 ≤ n ∧ n ≤ 4) ∧ ∀ m : Nat, n = (m : Int) → ∀ p H', H p = none → Same H H' → IsOE CO H' p (srt (cL "a" m ++ cL "b" m)) (cE m) → Q (.ref p) H'
theorem cN_len {p : Str} (hp : p.length = 1) {m k : Nat} (hk : k < m) (hm : m ≤ 4) : (Str.ofString (toString ((1 : Int) + (k : Nat)))).length ≤ 10 := by
  have : k = 0 ∨ k = 1 ∨ k = 2 ∨ k = 3 := by omega
  rcases this with rfl | rfl | rfl | rfl <;> decide +kernel
abbrev s_Order_crown : Stmt := inClass (top 20) 2
theorem sc_Order_crown : FnScope ["cls", "size", "lows", "k", "highs", "pairs", "at"] ["cls", "size"] (defScope s_Order_crown) := ⟨rfl, rfl, rfl, by decide +kernel, rfl, by decide +kernel, by decide +kernel⟩
theorem ok_Order_crown {P : Program} {w : World} {K : PySem.W.Frag} {mg : Str → Option Value} {base : Heap} {CB CD CG CN CO CU : Addr} {f : Addr} {fd : FuncData} (F : L2.Fun K "crown" "Order.crown" s_Order_crown f fd)
    (C_b_range : mg "range" = none)
    (C_c_Order : ClO K CO)
    (C_i_Order : CalI P w K mg base "Order" CO 4 (spOInitG K CO CB CN CD CU CG))
    (C_na_Order__above : NoAttr K CO "_above")
    (C_na_Order_names : NoAttr K CO "names")
    (C_x_BadNumber : CalX P w K mg base "BadNumber" CB 2 ["self", "n"] (spX1 K CB "n" GInt)) :
    FnOk P w K mg base (L2.CX P w) 6 f fd ["cls", "size"] (spCrown CO) := by
  refine fnOk_mk F sc_Order_crown (fun vs H Q E h => h.1) (fun cdv A outer s H vs Q E hr h => ?_)
  obtain ⟨_, n, rfl, h24, kO⟩ := h
  refine ⟨_, pss_cons (ps_if (pt_not (pt_chain op_le op_le pe_int (pv 1) pe_int)) (pss_one (ps_raise rfl (takes_of rfl rfl rfl rfl) (z_mkX C_x_BadNumber hr (pa_cons (pv 1) pa_nil)))) (pss_nil))
    (pss_cons (ps_set (i := 2) sc_Order_crown.nd rfl (Or.inr rfl) (pe_lc (own := [("k", 3)]) (by rfl) sc_Order_crown.nd (pi_range2 (by rfl) C_b_range (pa_cons pe_int (pa_cons (pe_op op_add (pv 1) pe_int) pa_nil))) (blkOk_by (N := ["cls", "size", "lows", "k", "highs", "pairs", "at"]) (sc := defScope s_Order_crown) (by decide +kernel)) (fun _ _ _ _ _ => pg_name (i := 3) sc_Order_crown.nd rfl (Or.inl rfl)) (fun _ _ _ _ _ => pts_nil) (fun _ _ _ _ _ => pe_joined (PJ.cons pe_str (PJ.cons (pe_fmt (pv 3)) PJ.nil)))))
    (pss_cons (ps_set (i := 4) sc_Order_crown.nd rfl (Or.inr rfl) (pe_lc (own := [("k", 3)]) (by rfl) sc_Order_crown.nd (pi_range2 (by rfl) C_b_range (pa_cons pe_int (pa_cons (pe_op op_add (pv 1) pe_int) pa_nil))) (blkOk_by (N := ["cls", "size", "lows", "k", "highs", "pairs", "at"]) (sc := defScope s_Order_crown) (by decide +kernel)) (fun _ _ _ _ _ => pg_name (i := 3) sc_Order_crown.nd rfl (Or.inl rfl)) (fun _ _ _ _ _ => pts_nil) (fun _ _ _ _ _ => pe_joined (PJ.cons pe_str (PJ.cons (pe_fmt (pv 3)) PJ.nil)))))
    (pss_cons (ps_setLc2 (i := 5) (own := [("k", 3), ("at", 6)]) (vs1 := [6]) (by rfl) sc_Order_crown.nd rfl rfl (sw_true rfl rfl rfl (by decide +kernel)) (pi_range1 (by rfl) C_b_range (pa_cons (pv 1) pa_nil)) (blkOk_by (N := ["cls", "size", "lows", "k", "highs", "pairs", "at"]) (sc := defScope s_Order_crown) (by decide +kernel)) (by decide) (fun _ _ _ _ _ => pg_name (i := 3) sc_Order_crown.nd rfl (Or.inl rfl)) (fun _ _ _ _ _ => pts_nil) (fun _ _ _ _ _ => pi_any (K := K) rfl (pe_tup (pa_cons (pv 3) (pa_cons (pe_op op_sub (pv 3) pe_int) pa_nil)))) (fun _ _ _ _ _ => pg_name (i := 6) sc_Order_crown.nd rfl (Or.inl rfl)) (fun _ _ _ _ _ => pts_nil) (fun _ _ _ _ _ => pe_tup (pa_cons (pe_ix (k_ixL (K := K) rfl) (pv 2) (pv 3) (fun _ _ => rfl)) (pa_cons (pe_ix (k_ixL (K := K) rfl) (pv 4) (pv 6) (fun _ _ => rfl)) pa_nil))))
    (pss_one (ps_ret (z_makeL (i := 0) C_i_Order hr (fun σ => passAt (takes_of rfl rfl rfl rfl) σ) (pa_cons (pe_op op_cat (pv 2) (pv 4)) (pa_cons (pv 5) pa_nil)))))))), ?_⟩
  try dsimp only [cxOf]
  walk_at "rd"
  refine i_dec (fun g1 => ?_) (fun g1 => ?_)
  rotate_left
  · exact absurd h24.1 g1
  walk_at "rd"
  refine i_ndec (fun g2 => ?_) (fun g2 => ?_)
  · exact absurd h24.2 g2
  obtain ⟨m, rfl⟩ : ∃ m : Nat, n = (m : Int) := ⟨n.toNat, by omega⟩
  have hm1 : 2 ≤ m := by omega
  have hm2 : m ≤ 4 := by omega
  walk_at "rd"
  have la : (Str.ofString "a").length = 1 := by decide +kernel
  have lb : (Str.ofString "b").length = 1 := by decide +kernel
  have l0 : Str.empty.length = 0 := by decide +kernel
  refine i_lcR2 (n := m) (by omega) (by omega) (by omega) (fun k ys H' => Same H H' ∧ ys = (((List.range k).map (cN "a"))).map V.str) (fun D H' hD s e ho => ⟨s, rfl⟩) ?_ ?_
  · rintro k D ys H1 hD hk eD ⟨s1, rfl⟩
    walk_at "rd"
    refine ⟨by with_unfolding_all rfl, ?_⟩
    walk_at "rd"
    refine i_js1 (by decide +kernel) ?_
    walk_at "rd"
    refine i_fmtI (ZR.Sz.mono (n := 10) (Nat.lt_of_le_of_lt (show ((1 : Int) + (k : Nat)).natAbs ≤ 8 by omega) (by decide +kernel)) (by decide)) ?_
    have lk := cN_len la hk hm2
    refine i_js1 (by rw [Str.length_append, Str.length_append, l0, la, sizeLine_eq]; omega) ?_
    walk_at "rd"
    refine i_lcE eD ?_ fun H2 e2 o2 => ⟨fun b o eb => ?_, ?_⟩
    · rw [List.length_map, List.length_map, List.length_range]
      omega
    · rw [o2 b (ne_of_none eb hD)]
      exact s1 _ _ eb
    · rw [List.range_succ, List.map_append, List.map_append]
      rfl
  rintro q1 ys H1 hq1 e1 ⟨s1, rfl⟩
  walk_at "rd"
  refine i_lcR2 (n := m) (by omega) (by omega) (by omega) (fun k ys H' => Same H1 H' ∧ ys = (((List.range k).map (cN "b"))).map V.str) (fun D H' hD s e ho => ⟨s, rfl⟩) ?_ ?_
  · rintro k D ys H2 hD hk eD ⟨s2, rfl⟩
    walk_at "rd"
    refine ⟨by with_unfolding_all rfl, ?_⟩
    walk_at "rd"
    refine i_js1 (by decide +kernel) ?_
    walk_at "rd"
    refine i_fmtI (ZR.Sz.mono (n := 10) (Nat.lt_of_le_of_lt (show ((1 : Int) + (k : Nat)).natAbs ≤ 8 by omega) (by decide +kernel)) (by decide)) ?_
    have lk := cN_len lb hk hm2
    refine i_js1 (by rw [Str.length_append, Str.length_append, l0, lb, sizeLine_eq]; omega) ?_
    walk_at "rd"
    refine i_lcE eD ?_ fun H3 e3 o3 => ⟨fun b o eb => ?_, ?_⟩
    · rw [List.length_map, List.length_map, List.length_range]
      omega
    · rw [o3 b (ne_of_none eb hD)]
      exact s2 _ _ eb
    · rw [List.range_succ, List.map_append, List.map_append]
      rfl
  rintro q2 ys H2 hq2 e2 ⟨s2, rfl⟩
  walk_at "rd"
  have atA : ∀ {k : Nat}, k < m → (((List.range m).map (cN "a")).map V.str)[k]? = some (V.str (cN "a" k)) := fun {k} hk => by simp [hk]
  have atB : ∀ {k : Nat}, k < m → (((List.range m).map (cN "b")).map V.str)[k]? = some (V.str (cN "b" k)) := fun {k} hk => by simp [hk]
  refine i_lc2R (n := m) (by omega) (fun k ys H' => Same H2 H' ∧ ∃ qs, ys = qs.map V.ref ∧ TPr H' qs ((List.range k).flatMap (cE1 m))) (fun D H' hD s e ho => ⟨s, [], rfl, .nil⟩) ?_ ?_
  · rintro k D ys H3 hD hk eD ⟨s3, qs, rfl, tq⟩
    walk_at "rd"
    refine ⟨by with_unfolding_all rfl, ?_⟩
    walk_at "rd"
    refine i_tup1 (by show 2 ≤ 100000; decide) fun u H4 hu s4 e4 o4 => ?_
    have s34 := s3.trans s4
    have uD : u ≠ D := fun z => by rw [z, eD] at hu; cases hu
    have e4' : del D H4 u = some (.tup [V.int (k : Nat), V.int ((k : Nat) - 1)]) := by rw [del_at uD]; exact e4
    refine i_lcIn (H0 := del D H4) (Pw := fun j ys H' => But D H4 H' ∧ ∃ qs, ys = qs.map V.ref ∧ TPr H' qs ((List.range k).flatMap (cE1 m) ++ (cE1 m k).take j)) (SqA.t e4') (s4 _ _ eD) ⟨.refl _ _, qs, rfl, by simpa using tq.mono s4⟩ (fun j ys H' p => same_del p.1) ?_ ?_
    · rintro j x ys H5 hx eD5 ⟨s5, qs5, rfl, tq5⟩
      have t5 : Same H2 H5 := s5.same hD s34
      have e15 := t5 _ _ (s2 _ _ e1)
      have e25 := t5 _ _ e2
      walk_at "rd"
      refine ⟨by with_unfolding_all rfl, ?_⟩
      walk_at "rd"
      refine i_ixL (v := .str (cN "a" k)) (.of e15) (atA hk) ?_
      walk_at "rd"
      have fin : ∀ (z : Str), (cE1 m k)[j]? = some (cN "a" k, z) → rTup [V.str (cN "a" k), V.str z] H5 fun y H7 => rLcE D (fun j ys H' => But D H4 H' ∧ ∃ qs, ys = qs.map V.ref ∧ TPr H' qs ((List.range k).flatMap (cE1 m) ++ (cE1 m k).take j)) j y H7 := by
        intro z hz
        refine i_tup1 (by show 2 ≤ 100000; decide) fun y H6 hy s6 e6 o6 => ?_
        refine i_lcE (s6 _ _ eD5) ?_ fun H7 e7 o7 => ⟨fun b o hb eb => ?_, qs5 ++ [y], by rw [List.map_append]; rfl, ?_⟩
        · have h1 := tq5.1
          rw [List.length_map, h1, List.length_append, List.length_take]
          have h2 : ∀ k : Nat, ((List.range k).flatMap (cE1 m)).length = k * 2 := by
            intro k
            induction k with
            | zero => rfl
            | succ k ih => rw [List.range_succ, List.flatMap_append, List.length_append, ih]; simp [cE1]; omega
          rw [h2]
          have : (cE1 m k).length = 2 := rfl
          omega
        · rw [o7 b hb]
          exact s6 _ _ (s5 b o hb eb)
        · rw [take_snoc hz, ← List.append_assoc]
          exact ((tq5.mono s6).snoc e6).keep (lst_keep (s6 _ _ eD5) o7)
      match j, hx with
      | 0, hx =>
        obtain rfl := Option.some.inj hx
        refine i_ixL (v := .str (cN "b" k)) (.of e25) (atB hk) ?_
        walk_at "rd"
        exact fin _ rfl
      | 1, hx =>
        obtain rfl := Option.some.inj hx
        by_cases k0 : k = 0
        · subst k0
          have el : (((List.range m).map (cN "b")).map V.str) = ((List.range (m - 1)).map (cN "b")).map V.str ++ [V.str (cN "b" (m - 1))] := by
            have : m = (m - 1) + 1 := by omega
            conv => lhs; rw [this]
            rw [List.range_succ, List.map_append, List.map_append]
            rfl
          refine ⟨q2, _, _, .str (cN "b" (m - 1)), rfl, rfl, .of e25, ?_, ?_⟩
          · rw [el]
            exact atI_last _ _
          walk_at "rd"
          exact fin _ (by simp [cE1])
        · have ek : ((k : Nat) : Int) - 1 = (((k - 1 : Nat) : Nat) : Int) := by omega
          rw [ek]
          refine i_ixL (v := .str (cN "b" (k - 1))) (.of e25) (atB (by omega)) ?_
          walk_at "rd"
          exact fin _ (by simp [cE1, k0])
      | j + 2, hx => cases hx
    · rintro ys H5 eD5 ⟨s5, qs5, rfl, tq5⟩
      refine ⟨s5.same hD s34, qs5, rfl, ?_⟩
      rw [List.range_succ, List.flatMap_append]
      simpa [cE1] using tq5
  rintro q3 ys H3 hq3 e3 ⟨s3, qs, rfl, tq⟩
  walk_at "rd"
  refine ⟨by with_unfolding_all rfl, ?_⟩
  walk_at "rd"
  refine i_cat (s3 _ _ (s2 _ _ e1)) (s3 _ _ e2) (by rw [List.length_map, List.length_map, List.length_map, List.length_map, List.length_range]; omega) fun q4 H4 hq4 s4 e4 o4 => ?_
  walk_at "rd"
  rw [← List.map_append] at e4
  have ok := cOk_all m hm1 hm2
  unfold cOk at ok
  rw [Bool.and_eq_true, Bool.and_eq_true] at ok
  obtain ⟨⟨ok1, ok2⟩, ok3⟩ := ok
  have okN := List.all_eq_true.mp ok1
  have nd := of_decide_eq_true ok2
  have okE : ∀ e ∈ cE m, e.1 ∈ cL "a" m ∧ e.2 ∈ cL "b" m ∧ ¬ e.1 ∈ cL "b" m := fun e he => by
    have := List.all_eq_true.mp ok3 e he
    simpa [and_assoc] using this
  have lpE : LPr H4 q3 (cE m) := ⟨qs, s4 _ _ e3, tq.mono s4⟩
  have hl8 : (cL "a" m ++ cL "b" m).length = m + m := by unfold cL; simp
  have anti : OM.Anti (cE m) := OM.anti_rank (fun z => if z ∈ cL "b" m then 1 else 0) fun e he => .inr (by
    obtain ⟨_, h2, h3⟩ := okE e he
    rw [if_neg h3, if_pos h2]
    decide)
  have lE : (cE m).length ≤ 10000 := by
    have h2 : ∀ k : Nat, ((List.range k).flatMap (cE1 m)).length = k * 2 := by
      intro k
      induction k with
      | zero => rfl
      | succ k ih => rw [List.range_succ, List.flatMap_append, List.length_append, ih]; simp [cE1]; omega
    unfold cE
    rw [h2]
    omega
  refine i_newOK (SqA.l e4) lpE.a (by show 1 ≤ (cL "a" m ++ cL "b" m).length; omega) (by show (cL "a" m ++ cL "b" m).length ≤ 8; omega) (fun z hz => okN z hz) nd (fun e he => ⟨List.mem_append_left _ (okE e he).1, List.mem_append_right _ (okE e he).2.1⟩) lE anti fun p H' hp sp io => ?_
  refine kO m rfl p H' ?_ ((((s1.trans s2).trans s3).trans s4).trans sp) io
  cases z : H p with
  | none => rfl
  | some o => rw [s4 _ _ (s3 _ _ (s2 _ _ (s1 _ _ z)))] at hp; cases hp
def spLChain (CO : Addr) : Sp := fun vs H Q _ => vs.length = 1 ∧ ∃ (a : Addr) (zs : List Str), vs = [.ref a] ∧ H a = some (.lst (zs.map V.str)) ∧ 1 ≤ zs.length ∧ zs.length ≤ 8 ∧ (∀ z ∈ zs, nameB z = true) ∧ zs.Nodup ∧
  ∀ p H', H p = none → Same H H' → IsOE CO H' p (srt zs) (pairsOf zs) → Q (.ref p) H'
theorem i_chainO {K : PySem.W.Frag} {CO CB CN CD : Addr} {H : Hp} {Q : VK} {E : XK} {zs : List Str} (h1 : 1 ≤ zs.length) (h8 : zs.length ≤ 8) (hn : ∀ z ∈ zs, nameB z = true) (hd : zs.Nodup)
    (h : ∀ p H', H p = none → Same H H' → IsOE CO H' p (srt zs) (pairsOf zs) → Q (.ref p) H') : spStar 1 (spChainG K CO CB CN CD) (V.ref CO :: zs.map V.str) H Q E := by
  refine ⟨[V.ref CO], zs.map V.str, rfl, rfl, by rw [List.length_map, sizeLine_eq]; omega, fun p hp => ?_⟩
  have s1 : Same H (upd H p (.tup (zs.map V.str))) := fun b o e => by rw [upd_ne (ne_of_none e hp)]; exact e
  refine ⟨rfl, p, zs, rfl, upd_same, by omega, fun z hz => Nat.le_trans (nameB_len (hn z hz)) (by decide), fun g => absurd ⟨h1, h8⟩ g, fun _ => ⟨fun b z hz => (by rw [nmF_ok zs [] hn (by simpa using hd)] at hz; cases hz), fun _ o H' ho s io => h o H' ?_ (s1.trans s) io⟩⟩
  cases z : H o with
  | none => rfl
  | some v => rw [s1 _ _ z] at ho; cases ho
theorem i_ixN {K : PySem.W.Frag} {H : Hp} {Q : VK} {p : Addr} {xs : List V} {v : V} {n : Int} (s : SqL K H p xs) (hn : 0 ≤ n) (e : xs[n.toNat]? = some v) (h : Q v H) : rIxL K (.ref p) (.int n) H Q := by
  obtain ⟨k, rfl⟩ : ∃ k : Nat, n = (k : Int) := ⟨n.toNat, by omega⟩
  exact i_ixL s (by simpa using e) h
theorem len1 {zs : List Str} (h : zs.length = 1) : ∃ z0, zs = [z0] := match zs, h with | [z0], _ => ⟨z0, rfl⟩
theorem len2 {zs : List Str} (h : zs.length = 2) : ∃ z0 z1, zs = [z0, z1] := match zs, h with | [z0, z1], _ => ⟨z0, z1, rfl⟩
theorem len3 {zs : List Str} (h : zs.length = 3) : ∃ z0 z1 z2, zs = [z0, z1, z2] := match zs, h with | [z0, z1, z2], _ => ⟨z0, z1, z2, rfl⟩
theorem len4 {zs : List Str} (h : zs.length = 4) : ∃ z0 z1 z2 z3, zs = [z0, z1, z2, z3] := match zs, h with | [z0, z1, z2, z3], _ => ⟨z0, z1, z2, z3, rfl⟩
theorem len5 {zs : List Str} (h : zs.length = 5) : ∃ z0 z1 z2 z3 z4, zs = [z0, z1, z2, z3, z4] := match zs, h with | [z0, z1, z2, z3, z4], _ => ⟨z0, z1, z2, z3, z4, rfl⟩
theorem len6 {zs : List Str} (h : zs.length = 6) : ∃ z0 z1 z2 z3 z4 z5, zs = [z0, z1, z2, z3, z4, z5] := match zs, h with | [z0, z1, z2, z3, z4, z5], _ => ⟨z0, z1, z2, z3, z4, z5, rfl⟩
theorem len7 {zs : List Str} (h : zs.length = 7) : ∃ z0 z1 z2 z3 z4 z5 z6, zs = [z0, z1, z2, z3, z4, z5, z6] := match zs, h with | [z0, z1, z2, z3, z4, z5, z6], _ => ⟨z0, z1, z2, z3, z4, z5, z6, rfl⟩
theorem len8 {zs : List Str} (h : zs.length = 8) : ∃ z0 z1 z2 z3 z4 z5 z6 z7, zs = [z0, z1, z2, z3, z4, z5, z6, z7] := match zs, h with | [z0, z1, z2, z3, z4, z5, z6, z7], _ => ⟨z0, z1, z2, z3, z4, z5, z6, z7, rfl⟩
abbrev s__law_chain : Stmt := top 29
theorem sc__law_chain : FnScope ["_law_row"] ["_law_row"] (defScope s__law_chain) := ⟨rfl, rfl, rfl, by decide +kernel, rfl, by decide +kernel, by decide +kernel⟩
theorem ok__law_chain {P : Program} {w : World} {K : PySem.W.Frag} {mg : Str → Option Value} {base : Heap} {CB CD CN CO : Addr} {f : Addr} {fd : FuncData} (F : L2.Fun K "_law_chain" "_law_chain" s__law_chain f fd)
    (C_b_len : mg "len" = none)
    (C_gOrder : mg "Order" = some (.ref CO))
    (C_k_Order_chain : CalK P w K mg base CO "chain" 6 (spStar 1 (spChainG K CO CB CN CD))) :
    FnOk P w K mg base (L2.CX P w) 7 f fd ["_law_row"] (spLChain CO) := by
  refine fnOk_mk F sc__law_chain (fun vs H Q E h => h.1) (fun cdv A outer s H vs Q E hr h => ?_)
  obtain ⟨_, a, zs, rfl, ha, h1, h8, hn, nd, k⟩ := h
  refine ⟨_, pss_cons (ps_if (pt_cmpR op_eq (pe_callB (k_len (K := K) rfl) (by rfl) C_b_len (by decide +kernel) (pa_cons (pv 0) pa_nil)) pe_int (nomark _)) (pss_one (ps_ret (z_cmethC (pe_glob (v := .ref CO) rfl C_gOrder rfl) C_k_Order_chain hr passN (pa_cons (pe_ix ix_list (pv 0) pe_int (fun _ _ => rfl)) pa_nil)))) (pss_nil))
    (pss_cons (ps_if (pt_cmpR op_eq (pe_callB (k_len (K := K) rfl) (by rfl) C_b_len (by decide +kernel) (pa_cons (pv 0) pa_nil)) pe_int (nomark _)) (pss_one (ps_ret (z_cmethC (pe_glob (v := .ref CO) rfl C_gOrder rfl) C_k_Order_chain hr passN (pa_cons (pe_ix ix_list (pv 0) pe_int (fun _ _ => rfl)) (pa_cons (pe_ix ix_list (pv 0) pe_int (fun _ _ => rfl)) pa_nil))))) (pss_nil))
    (pss_cons (ps_if (pt_cmpR op_eq (pe_callB (k_len (K := K) rfl) (by rfl) C_b_len (by decide +kernel) (pa_cons (pv 0) pa_nil)) pe_int (nomark _)) (pss_one (ps_ret (z_cmethC (pe_glob (v := .ref CO) rfl C_gOrder rfl) C_k_Order_chain hr passN (pa_cons (pe_ix ix_list (pv 0) pe_int (fun _ _ => rfl)) (pa_cons (pe_ix ix_list (pv 0) pe_int (fun _ _ => rfl)) (pa_cons (pe_ix ix_list (pv 0) pe_int (fun _ _ => rfl)) pa_nil)))))) (pss_nil))
    (pss_cons (ps_if (pt_cmpR op_eq (pe_callB (k_len (K := K) rfl) (by rfl) C_b_len (by decide +kernel) (pa_cons (pv 0) pa_nil)) pe_int (nomark _)) (pss_one (ps_ret (z_cmethC (pe_glob (v := .ref CO) rfl C_gOrder rfl) C_k_Order_chain hr passN (pa_cons (pe_ix ix_list (pv 0) pe_int (fun _ _ => rfl)) (pa_cons (pe_ix ix_list (pv 0) pe_int (fun _ _ => rfl)) (pa_cons (pe_ix ix_list (pv 0) pe_int (fun _ _ => rfl)) (pa_cons (pe_ix ix_list (pv 0) pe_int (fun _ _ => rfl)) pa_nil))))))) (pss_nil))
    (pss_cons (ps_if (pt_cmpR op_eq (pe_callB (k_len (K := K) rfl) (by rfl) C_b_len (by decide +kernel) (pa_cons (pv 0) pa_nil)) pe_int (nomark _)) (pss_one (ps_ret (z_cmethC (pe_glob (v := .ref CO) rfl C_gOrder rfl) C_k_Order_chain hr passN (pa_cons (pe_ix ix_list (pv 0) pe_int (fun _ _ => rfl)) (pa_cons (pe_ix ix_list (pv 0) pe_int (fun _ _ => rfl)) (pa_cons (pe_ix ix_list (pv 0) pe_int (fun _ _ => rfl)) (pa_cons (pe_ix ix_list (pv 0) pe_int (fun _ _ => rfl)) (pa_cons (pe_ix ix_list (pv 0) pe_int (fun _ _ => rfl)) pa_nil)))))))) (pss_nil))
    (pss_cons (ps_if (pt_cmpR op_eq (pe_callB (k_len (K := K) rfl) (by rfl) C_b_len (by decide +kernel) (pa_cons (pv 0) pa_nil)) pe_int (nomark _)) (pss_one (ps_ret (z_cmethC (pe_glob (v := .ref CO) rfl C_gOrder rfl) C_k_Order_chain hr passN (pa_cons (pe_ix ix_list (pv 0) pe_int (fun _ _ => rfl)) (pa_cons (pe_ix ix_list (pv 0) pe_int (fun _ _ => rfl)) (pa_cons (pe_ix ix_list (pv 0) pe_int (fun _ _ => rfl)) (pa_cons (pe_ix ix_list (pv 0) pe_int (fun _ _ => rfl)) (pa_cons (pe_ix ix_list (pv 0) pe_int (fun _ _ => rfl)) (pa_cons (pe_ix ix_list (pv 0) pe_int (fun _ _ => rfl)) pa_nil))))))))) (pss_nil))
    (pss_cons (ps_if (pt_cmpR op_eq (pe_callB (k_len (K := K) rfl) (by rfl) C_b_len (by decide +kernel) (pa_cons (pv 0) pa_nil)) pe_int (nomark _)) (pss_one (ps_ret (z_cmethC (pe_glob (v := .ref CO) rfl C_gOrder rfl) C_k_Order_chain hr passN (pa_cons (pe_ix ix_list (pv 0) pe_int (fun _ _ => rfl)) (pa_cons (pe_ix ix_list (pv 0) pe_int (fun _ _ => rfl)) (pa_cons (pe_ix ix_list (pv 0) pe_int (fun _ _ => rfl)) (pa_cons (pe_ix ix_list (pv 0) pe_int (fun _ _ => rfl)) (pa_cons (pe_ix ix_list (pv 0) pe_int (fun _ _ => rfl)) (pa_cons (pe_ix ix_list (pv 0) pe_int (fun _ _ => rfl)) (pa_cons (pe_ix ix_list (pv 0) pe_int (fun _ _ => rfl)) pa_nil)))))))))) (pss_nil))
    (pss_one (ps_ret (z_cmethC (pe_glob (v := .ref CO) rfl C_gOrder rfl) C_k_Order_chain hr passN (pa_cons (pe_ix ix_list (pv 0) pe_int (fun _ _ => rfl)) (pa_cons (pe_ix ix_list (pv 0) pe_int (fun _ _ => rfl)) (pa_cons (pe_ix ix_list (pv 0) pe_int (fun _ _ => rfl)) (pa_cons (pe_ix ix_list (pv 0) pe_int (fun _ _ => rfl)) (pa_cons (pe_ix ix_list (pv 0) pe_int (fun _ _ => rfl)) (pa_cons (pe_ix ix_list (pv 0) pe_int (fun _ _ => rfl)) (pa_cons (pe_ix ix_list (pv 0) pe_int (fun _ _ => rfl)) (pa_cons (pe_ix ix_list (pv 0) pe_int (fun _ _ => rfl)) pa_nil))))))))))))))))), ?_⟩
  try dsimp only [cxOf]
  walk_at "rd"
  refine i_lenA (SqA.l ha) ?_
  rw [List.length_map]
  walk_at "rd"
  refine i_dec (fun e1 => ?_) (fun e1 => ?_)
  · obtain ⟨z0, rfl⟩ := len1 (zs := zs) (by omega)
    walk_at "rd"
    refine ⟨rfl, ?_⟩
    walk_at "rd"
    refine i_ixN (v := .str z0) (.of ha) ?_ ?_ ?_
    · decide
    · rfl
    walk_at "rd"
    exact i_chainO (zs := [z0]) h1 h8 hn nd k
  walk_at "rd"
  refine i_lenA (SqA.l ha) ?_
  rw [List.length_map]
  walk_at "rd"
  refine i_dec (fun e2 => ?_) (fun e2 => ?_)
  · obtain ⟨z0, z1, rfl⟩ := len2 (zs := zs) (by omega)
    walk_at "rd"
    refine ⟨rfl, ?_⟩
    walk_at "rd"
    refine i_ixN (v := .str z0) (.of ha) ?_ ?_ ?_
    · decide
    · rfl
    walk_at "rd"
    refine i_ixN (v := .str z1) (.of ha) ?_ ?_ ?_
    · decide
    · rfl
    walk_at "rd"
    exact i_chainO (zs := [z0, z1]) h1 h8 hn nd k
  walk_at "rd"
  refine i_lenA (SqA.l ha) ?_
  rw [List.length_map]
  walk_at "rd"
  refine i_dec (fun e3 => ?_) (fun e3 => ?_)
  · obtain ⟨z0, z1, z2, rfl⟩ := len3 (zs := zs) (by omega)
    walk_at "rd"
    refine ⟨rfl, ?_⟩
    walk_at "rd"
    refine i_ixN (v := .str z0) (.of ha) ?_ ?_ ?_
    · decide
    · rfl
    walk_at "rd"
    refine i_ixN (v := .str z1) (.of ha) ?_ ?_ ?_
    · decide
    · rfl
    walk_at "rd"
    refine i_ixN (v := .str z2) (.of ha) ?_ ?_ ?_
    · decide
    · rfl
    walk_at "rd"
    exact i_chainO (zs := [z0, z1, z2]) h1 h8 hn nd k
  walk_at "rd"
  refine i_lenA (SqA.l ha) ?_
  rw [List.length_map]
  walk_at "rd"
  refine i_dec (fun e4 => ?_) (fun e4 => ?_)
  · obtain ⟨z0, z1, z2, z3, rfl⟩ := len4 (zs := zs) (by omega)
    walk_at "rd"
    refine ⟨rfl, ?_⟩
    walk_at "rd"
    refine i_ixN (v := .str z0) (.of ha) ?_ ?_ ?_
    · decide
    · rfl
    walk_at "rd"
    refine i_ixN (v := .str z1) (.of ha) ?_ ?_ ?_
    · decide
    · rfl
    walk_at "rd"
    refine i_ixN (v := .str z2) (.of ha) ?_ ?_ ?_
    · decide
    · rfl
    walk_at "rd"
    refine i_ixN (v := .str z3) (.of ha) ?_ ?_ ?_
    · decide
    · rfl
    walk_at "rd"
    exact i_chainO (zs := [z0, z1, z2, z3]) h1 h8 hn nd k
  walk_at "rd"
  refine i_lenA (SqA.l ha) ?_
  rw [List.length_map]
  walk_at "rd"
  refine i_dec (fun e5 => ?_) (fun e5 => ?_)
  · obtain ⟨z0, z1, z2, z3, z4, rfl⟩ := len5 (zs := zs) (by omega)
    walk_at "rd"
    refine ⟨rfl, ?_⟩
    walk_at "rd"
    refine i_ixN (v := .str z0) (.of ha) ?_ ?_ ?_
    · decide
    · rfl
    walk_at "rd"
    refine i_ixN (v := .str z1) (.of ha) ?_ ?_ ?_
    · decide
    · rfl
    walk_at "rd"
    refine i_ixN (v := .str z2) (.of ha) ?_ ?_ ?_
    · decide
    · rfl
    walk_at "rd"
    refine i_ixN (v := .str z3) (.of ha) ?_ ?_ ?_
    · decide
    · rfl
    walk_at "rd"
    refine i_ixN (v := .str z4) (.of ha) ?_ ?_ ?_
    · decide
    · rfl
    walk_at "rd"
    exact i_chainO (zs := [z0, z1, z2, z3, z4]) h1 h8 hn nd k
  walk_at "rd"
  refine i_lenA (SqA.l ha) ?_
  rw [List.length_map]
  walk_at "rd"
  refine i_dec (fun e6 => ?_) (fun e6 => ?_)
  · obtain ⟨z0, z1, z2, z3, z4, z5, rfl⟩ := len6 (zs := zs) (by omega)
    walk_at "rd"
    refine ⟨rfl, ?_⟩
    walk_at "rd"
    refine i_ixN (v := .str z0) (.of ha) ?_ ?_ ?_
    · decide
    · rfl
    walk_at "rd"
    refine i_ixN (v := .str z1) (.of ha) ?_ ?_ ?_
    · decide
    · rfl
    walk_at "rd"
    refine i_ixN (v := .str z2) (.of ha) ?_ ?_ ?_
    · decide
    · rfl
    walk_at "rd"
    refine i_ixN (v := .str z3) (.of ha) ?_ ?_ ?_
    · decide
    · rfl
    walk_at "rd"
    refine i_ixN (v := .str z4) (.of ha) ?_ ?_ ?_
    · decide
    · rfl
    walk_at "rd"
    refine i_ixN (v := .str z5) (.of ha) ?_ ?_ ?_
    · decide
    · rfl
    walk_at "rd"
    exact i_chainO (zs := [z0, z1, z2, z3, z4, z5]) h1 h8 hn nd k
  walk_at "rd"
  refine i_lenA (SqA.l ha) ?_
  rw [List.length_map]
  walk_at "rd"
  refine i_dec (fun e7 => ?_) (fun e7 => ?_)
  · obtain ⟨z0, z1, z2, z3, z4, z5, z6, rfl⟩ := len7 (zs := zs) (by omega)
    walk_at "rd"
    refine ⟨rfl, ?_⟩
    walk_at "rd"
    refine i_ixN (v := .str z0) (.of ha) ?_ ?_ ?_
    · decide
    · rfl
    walk_at "rd"
    refine i_ixN (v := .str z1) (.of ha) ?_ ?_ ?_
    · decide
    · rfl
    walk_at "rd"
    refine i_ixN (v := .str z2) (.of ha) ?_ ?_ ?_
    · decide
    · rfl
    walk_at "rd"
    refine i_ixN (v := .str z3) (.of ha) ?_ ?_ ?_
    · decide
    · rfl
    walk_at "rd"
    refine i_ixN (v := .str z4) (.of ha) ?_ ?_ ?_
    · decide
    · rfl
    walk_at "rd"
    refine i_ixN (v := .str z5) (.of ha) ?_ ?_ ?_
    · decide
    · rfl
    walk_at "rd"
    refine i_ixN (v := .str z6) (.of ha) ?_ ?_ ?_
    · decide
    · rfl
    walk_at "rd"
    exact i_chainO (zs := [z0, z1, z2, z3, z4, z5, z6]) h1 h8 hn nd k
  walk_at "rd"
  obtain ⟨z0, z1, z2, z3, z4, z5, z6, z7, rfl⟩ := len8 (zs := zs) (by omega)
  walk_at "rd"
  refine ⟨rfl, ?_⟩
  walk_at "rd"
  refine i_ixN (v := .str z0) (.of ha) ?_ ?_ ?_
  · decide
  · rfl
  walk_at "rd"
  refine i_ixN (v := .str z1) (.of ha) ?_ ?_ ?_
  · decide
  · rfl
  walk_at "rd"
  refine i_ixN (v := .str z2) (.of ha) ?_ ?_ ?_
  · decide
  · rfl
  walk_at "rd"
  refine i_ixN (v := .str z3) (.of ha) ?_ ?_ ?_
  · decide
  · rfl
  walk_at "rd"
  refine i_ixN (v := .str z4) (.of ha) ?_ ?_ ?_
  · decide
  · rfl
  walk_at "rd"
  refine i_ixN (v := .str z5) (.of ha) ?_ ?_ ?_
  · decide
  · rfl
  walk_at "rd"
  refine i_ixN (v := .str z6) (.of ha) ?_ ?_ ?_
  · decide
  · rfl
  walk_at "rd"
  refine i_ixN (v := .str z7) (.of ha) ?_ ?_ ?_
  · decide
  · rfl
  walk_at "rd"
  exact i_chainO (zs := [z0, z1, z2, z3, z4, z5, z6, z7]) h1 h8 hn nd k
def spCounted : Sp := fun vs H Q _ => vs.length = 1 ∧ ∃ n : Int, vs = [.int n] ∧ ∀ H', Same H H' → Q (.int (if n = 0 then 0 else 9)) H'
abbrev s__law_counted : Stmt := top 30
theorem sc__law_counted : FnScope ["_law_which", "e"] ["_law_which"] (defScope s__law_counted) := ⟨rfl, rfl, rfl, by decide +kernel, rfl, by decide +kernel, by decide +kernel⟩
theorem ok__law_counted {P : Program} {w : World} {K : PySem.W.Frag} {mg : Str → Option Value} {base : Heap} {CB CD CN CO : Addr} {f : Addr} {fd : FuncData} (F : L2.Fun K "_law_counted" "_law_counted" s__law_counted f fd)
    (C_c_Order : ClO K CO)
    (C_gBadNumber : mg "BadNumber" = some (.ref CB))
    (C_gOrder : mg "Order" = some (.ref CO))
    (C_k_Order_chain : CalK P w K mg base CO "chain" 6 (spStar 1 (spChainG K CO CB CN CD)))
    (C_na_Order__above : NoAttr K CO "_above")
    (C_na_Order_names : NoAttr K CO "names")
    (C_xf_BadNumber : XfC K CB)
    (C_xm_BadNumber : PySem.W.exmOne K (.ref CB) (.ref CB) = some true)
    (C_xn_BadNumber_n : PySem.W.findIn K (.ref CB) "n" = some none) :
    FnOk P w K mg base (L2.CX P w) 7 f fd ["_law_which"] spCounted := by
  refine fnOk_mk F sc__law_counted (fun vs H Q E h => h.1) (fun cdv A outer s H vs Q E hr h => ?_)
  obtain ⟨_, n, rfl, k⟩ := h
  refine ⟨_, pss_cons (ps_try_as (i := 1) rfl rfl sc__law_counted.nd rfl rfl ⟨rfl, by decide, .inl C_gBadNumber⟩ takes0 (fun W pn xe tk po => pss_one (ps_if (pt_cmpR op_eq (pv 0) pe_int (nomark _)) (pss_one (ps_expr (ZX.z_cmethC0 (pe_glob (v := .ref CO) rfl C_gOrder rfl) C_k_Order_chain hr (fun σ => passAt tk σ)))) (pss_one (ps_expr (z_cmethC (pe_glob (v := .ref CO) rfl C_gOrder rfl) C_k_Order_chain hr (fun σ => passAt tk σ) (pa_cons pe_str (pa_cons pe_str (pa_cons pe_str (pa_cons pe_str (pa_cons pe_str (pa_cons pe_str (pa_cons pe_str (pa_cons pe_str (pa_cons pe_str pa_nil)))))))))))))) (fun a oe cls d pn hz hf => pss_one (ps_ret (pe_xf C_xf_BadNumber C_xn_BadNumber_n hz hf (pv 1)))))
    (pss_one (ps_ret pe_non)), ?_⟩
  try dsimp only [cxOf]
  walk_at "rd"
  refine i_dec (fun e => ?_) (fun e => ?_)
  · walk_at "rd"
    refine ⟨rfl, ?_⟩
    walk_at "rd"
    refine ⟨[V.ref CO], [], rfl, rfl, by decide, fun p hp => ?_⟩
    have s1 : Same H (upd H p (.tup [])) := fun b o e => by rw [upd_ne (ne_of_none e hp)]; exact e
    refine ⟨rfl, p, [], rfl, upd_same, by decide, fun z hz => (by cases hz), fun _ d H' s e2 => ?_, fun g => absurd g (by decide)⟩
    refine i_was C_xm_BadNumber fun a ha => ?_
    walk_at "rd"
    refine i_xf1 e2 ?_
    rw [if_pos e] at k
    exact k H' (s1.trans s)
  · walk_at "rd"
    refine ⟨rfl, ?_⟩
    walk_at "rd"
    have ez : ([V.str "a", V.str "b", V.str "c", V.str "d", V.str "e", V.str "f", V.str "g", V.str "h", V.str "i"] : List V) = (["a", "b", "c", "d", "e", "f", "g", "h", "i"] : List Str).map V.str := rfl
    refine ⟨[V.ref CO], _, rfl, rfl, by decide, fun p hp => ?_⟩
    have s1 : ∀ x, Same H (upd H p x) := fun x b o e => by rw [upd_ne (ne_of_none e hp)]; exact e
    refine ⟨rfl, p, ["a", "b", "c", "d", "e", "f", "g", "h", "i"], rfl, upd_same, by decide, fun z hz => ?_, fun _ d H' s e2 => ?_, fun g => absurd g.2 (by decide)⟩
    · have : ∀ z ∈ (["a", "b", "c", "d", "e", "f", "g", "h", "i"] : List Str), z.length = 1 := by decide +kernel
      rw [this z hz]
      decide
    refine i_was C_xm_BadNumber fun a ha => ?_
    walk_at "rd"
    refine i_xf1 e2 ?_
    rw [if_neg e] at k
    exact k H' ((s1 _).trans s)
def spLRef : Sp := fun vs H Q _ => vs.length = 2 ∧ ∃ (x y : Str) (b : Bool) (z : Str), vs = [.str x, .str y] ∧ x.length ≤ 1000 ∧ y.length ≤ 1000 ∧ nmF [] [x, y] = some (b, z) ∧ RB z ∧
  ∀ p H', H p = none → Same H H' → H' p = some (.lst [.str (if b then "twice" else "name"), .str z]) → Q (.ref p) H'
abbrev s__law_refused : Stmt := top 31
theorem sc__law_refused : FnScope ["_law_first", "_law_second", "e"] ["_law_first", "_law_second"] (defScope s__law_refused) := ⟨rfl, rfl, rfl, by decide +kernel, rfl, by decide +kernel, by decide +kernel⟩
theorem ok__law_refused {P : Program} {w : World} {K : PySem.W.Frag} {mg : Str → Option Value} {base : Heap} {CB CD CN CO : Addr} {f : Addr} {fd : FuncData} (F : L2.Fun K "_law_refused" "_law_refused" s__law_refused f fd)
    (C_c_Order : ClO K CO)
    (C_gBadName : mg "BadName" = some (.ref CN))
    (C_gDuplicateName : mg "DuplicateName" = some (.ref CD))
    (C_gOrder : mg "Order" = some (.ref CO))
    (C_k_Order_chain : CalK P w K mg base CO "chain" 6 (spStar 1 (spChainG K CO CB CN CD)))
    (C_na_Order__above : NoAttr K CO "_above")
    (C_na_Order_names : NoAttr K CO "names")
    (C_xf_BadName : XfC K CN)
    (C_xf_DuplicateName : XfC K CD)
    (C_xm_BadName : PySem.W.exmOne K (.ref CN) (.ref CN) = some true)
    (C_xm_DuplicateName : PySem.W.exmOne K (.ref CD) (.ref CD) = some true)
    (C_xm_DuplicateName_BadName : PySem.W.exmOne K (.ref CD) (.ref CN) = some false)
    (C_xn_BadName_name : PySem.W.findIn K (.ref CN) "name" = some none)
    (C_xn_DuplicateName_name : PySem.W.findIn K (.ref CD) "name" = some none) :
    FnOk P w K mg base (L2.CX P w) 7 f fd ["_law_first", "_law_second"] spLRef := by
  refine fnOk_mk F sc__law_refused (fun vs H Q E h => h.1) (fun cdv A outer s H vs Q E hr h => ?_)
  obtain ⟨_, x, y, b, z, rfl, hx, hy, hz, hrb, k⟩ := h
  refine ⟨_, pss_cons (z_tryAll (i := 2) rfl rfl sc__law_refused.nd rfl rfl takes0 (fun W pn xe tk po => pss_one (ps_expr (z_cmethC (pe_glob (v := .ref CO) rfl C_gOrder rfl) C_k_Order_chain hr (fun σ => passAt tk σ) (pa_cons (pv 0) (pa_cons (pv 1) pa_nil))))) (.cons ⟨rfl, by decide, .inl C_gBadName⟩ (fun a oe cls d pn hz hf => pss_one (ps_ret (pe_lst (pa_cons pe_str (pa_cons (pe_xf C_xf_BadName C_xn_BadName_name hz hf (pv 2)) pa_nil))))) (.cons ⟨rfl, by decide, .inl C_gDuplicateName⟩ (fun a oe cls d pn hz hf => pss_one (ps_ret (pe_lst (pa_cons pe_str (pa_cons (pe_xf C_xf_DuplicateName C_xn_DuplicateName_name hz hf (pv 2)) pa_nil))))) .nil)))
    (pss_one (ps_ret (pe_lst pa_nil))), ?_⟩
  try dsimp only [cxOf]
  walk_at "rd"
  refine ⟨rfl, ?_⟩
  walk_at "rd"
  refine ⟨[V.ref CO], [V.str x, V.str y], rfl, rfl, by show 2 ≤ sizeLine; decide, fun p hp => ?_⟩
  have s1 : Same H (upd H p (.tup ([x, y].map V.str))) := fun b o e => by rw [upd_ne (ne_of_none e hp)]; exact e
  refine ⟨rfl, p, [x, y], rfl, upd_same, by show 2 ≤ 60; decide, fun w hw => ?_, fun g => absurd ⟨by show 1 ≤ 2; decide, by show 2 ≤ 8; decide⟩ g, fun _ => ⟨fun b' z' hz' => ?_, fun g => (by rw [hz] at g; cases g)⟩⟩
  · rcases List.mem_cons.mp hw with rfl | hw
    · omega
    · rw [List.mem_singleton.mp hw]; omega
  rw [hz] at hz'
  cases hz'
  refine ⟨hrb, fun d H' s e => ?_⟩
  have fin : ∀ (q : Addr) H2, H' q = none → Same H' H2 → H q = none := fun q H2 hq s2 => by
    cases z : H q with
    | none => rfl
    | some o => rw [s _ _ (s1 _ _ z)] at hq; cases hq
  cases b
  · refine i_was C_xm_BadName fun a ha => ?_
    walk_at "rd"
    refine i_xf1 e ?_
    walk_at "rd"
    refine i_lst1 (Nat.le_of_ble_eq_true rfl) fun q H2 hq s2 e2 o2 => ?_
    exact k q H2 (fin q H2 hq s2) ((s1.trans s).trans s2) e2
  · refine i_wasNo C_xm_DuplicateName_BadName (i_was C_xm_DuplicateName fun a ha => ?_)
    walk_at "rd"
    refine i_xf1 e ?_
    walk_at "rd"
    refine i_lst1 (Nat.le_of_ble_eq_true rfl) fun q H2 hq s2 e2 o2 => ?_
    exact k q H2 (fin q H2 hq s2) ((s1.trans s).trans s2) e2
open _root_.ZB
def sA (k : Nat) : Str := ⟨#[97, 49 + k]⟩
def sB (k : Nat) : Str := ⟨#[98, 49 + k]⟩
def nA (m : Nat) : List Str := (List.range m).map sA
def nB (m : Nat) : List Str := (List.range m).map sB
def eC (m : Nat) : List (Str × Str) := (List.range m).flatMap fun k => [(sA k, sB k), (sA k, sB (if k = 0 then m - 1 else k - 1))]
def cl2 (E : List (Str × Str)) (x y : Str) : Bool := decide (x = y) || decide ((x, y) ∈ E)
def nC (m : Nat) : List Str := nA m ++ nB m
def upN (m : Nat) (E : List (Str × Str)) : Nat := ((pw (nC m)).filter (isUp (OM.ab (nC m) (cl2 E)))).length
def rpl (e : Str × Str) : Str × Str := (Txt.replace e.2 ("b" : Str) ("a" : Str), Txt.replace e.1 ("a" : Str) ("b" : Str))
def pC (m : Nat) : List (Str × Str) := (List.range m).flatMap fun k => (nB m).filterMap fun b => if (sA k, b) ∈ eC m then some (sA k, b) else none
def low (E : List (Str × Str)) : Bool := E.all fun e => E.all fun f => !decide (e.2 = f.1)
theorem cA_eq : ∀ m, 2 ≤ m → m ≤ 4 → cL "a" m = nA m ∧ cL "b" m = nB m ∧ cE m = eC m := by
  intro m h1 h2
  have : m = 2 ∨ m = 3 ∨ m = 4 := by omega
  rcases this with rfl | rfl | rfl <;> decide +kernel
theorem cl_two {E : List (Str × Str)} (h : low E = true) : OM.cl E = cl2 E := by
  have h : ∀ e ∈ E, ∀ f ∈ E, e.2 ≠ f.1 := fun e he f hf => by
    have := List.all_eq_true.mp (List.all_eq_true.mp h e he) f hf
    simpa using this
  have r : ∀ {x y : Str}, OM.Rch E x y → x = y ∨ (x, y) ∈ E := fun hr => by
    induction hr with
    | refl => exact .inl rfl
    | step e _ ih =>
      rcases ih with rfl | ih
      · exact .inr e
      · exact absurd rfl (h _ e _ ih)
  funext x y
  rw [Bool.eq_iff_iff, OM.cl_iff]
  unfold cl2
  rw [Bool.or_eq_true, decide_eq_true_eq, decide_eq_true_eq]
  refine ⟨r, fun z => ?_⟩
  rcases z with rfl | z
  · exact .refl _
  · exact .one z
def crF (m : Nat) : Bool :=
  decide ((nC m).Pairwise fun a b => ltS b a = false) && low (eC m) && decide (OM.prs (nC m) (cl2 (eC m)) = pC m) && decide (OM.cvs (nC m) (cl2 (eC m)) = pC m) && decide ((pC m).length = 2 * m) &&
  low ((pC m).map swp) && low ((pC m).map rpl) && (((pC m).map rpl).all fun e => decide (e.1 ∈ nA m) && decide (e.2 ∈ nB m)) && decide (nC m).Nodup && ((nC m).all fun z => nameB z && decide (z.length = 2)) && (pC m).all fun e => decide (e.1 ∈ nA m) && decide (e.2 ∈ nB m)
theorem crF_all : ∀ m, 2 ≤ m → m ≤ 4 → crF m = true := by
  intro m h1 h2
  have : m = 2 ∨ m = 3 ∨ m = 4 := by omega
  rcases this with rfl | rfl | rfl <;> decide +kernel
def crB (m : Nat) : Bool := (List.range m).all fun i => (List.range m).all fun j =>
  (cl2 (eC m) (sA i) (sB j) == (decide (j = i) || decide (i = (j + 1) % m))) && !cl2 (eC m) (sB j) (sA i) && (cl2 (eC m) (sA i) (sA j) == decide (i = j)) && (cl2 (eC m) (sB i) (sB j) == decide (i = j))
theorem crB_all : ∀ m, 2 ≤ m → m ≤ 4 → crB m = true := by
  intro m h1 h2
  have : m = 2 ∨ m = 3 ∨ m = 4 := by omega
  rcases this with rfl | rfl | rfl <;> decide +kernel
theorem crU_all : ∀ m, 2 ≤ m → m ≤ 4 → upN m (eC m) = upN m ((pC m).map swp) ∧ upN m (eC m) = upN m ((pC m).map rpl) := by
  intro m h1 h2
  have : m = 2 ∨ m = 3 ∨ m = 4 := by omega
  rcases this with rfl | rfl | rfl <;> decide +kernel
theorem ups_len (f : Str → List Str) (N : List Str) : (upsOf f N).length = ((pw N).filter (isUp f)).length := (srtU_perm _).length_eq
/-- what is needed of a crown -/
structure CrF (m : Nat) : Prop where
  pw : (nC m).Pairwise fun a b => ltS b a = false
  cl : OM.cl (eC m) = cl2 (eC m)
  prs : OM.prs (nC m) (OM.cl (eC m)) = pC m
  cvs : OM.cvs (nC m) (OM.cl (eC m)) = pC m
  len : (pC m).length = 2 * m
  cls : OM.cl ((pC m).map swp) = cl2 ((pC m).map swp)
  clr : OM.cl ((pC m).map rpl) = cl2 ((pC m).map rpl)
  inr : ∀ e ∈ (pC m).map rpl, e.1 ∈ nA m ∧ e.2 ∈ nB m
  nd : (nC m).Nodup
  nm : ∀ z ∈ nC m, nameB z = true ∧ z.length = 2
  inp : ∀ e ∈ pC m, e.1 ∈ nA m ∧ e.2 ∈ nB m
  b1 : ∀ i j, i < m → j < m → cl2 (eC m) (sA i) (sB j) = (decide (j = i) || decide (i = (j + 1) % m)) ∧ cl2 (eC m) (sB j) (sA i) = false ∧ cl2 (eC m) (sA i) (sA j) = decide (i = j) ∧ cl2 (eC m) (sB i) (sB j) = decide (i = j)
  u1 : (upsOf (OM.ab (nC m) (OM.cl ((pC m).map swp))) (nC m)).length = (upsOf (OM.ab (nC m) (OM.cl (eC m))) (nC m)).length
  u2 : (upsOf (OM.ab (nC m) (OM.cl ((pC m).map rpl))) (nC m)).length = (upsOf (OM.ab (nC m) (OM.cl (eC m))) (nC m)).length
theorem crF_of (m : Nat) (h1 : 2 ≤ m) (h2 : m ≤ 4) : CrF m := by
  have hF := crF_all m h1 h2
  have hB := crB_all m h1 h2
  obtain ⟨u1, u2⟩ := crU_all m h1 h2
  unfold crF at hF
  simp only [Bool.and_eq_true] at hF
  obtain ⟨⟨⟨⟨⟨⟨⟨⟨⟨⟨f1, f2⟩, f3⟩, f4⟩, f5⟩, f6⟩, f7⟩, f8⟩, f9⟩, f10⟩, f11⟩ := hF
  have c1 := cl_two f2
  have c2 := cl_two f6
  have c3 := cl_two f7
  refine ⟨of_decide_eq_true f1, c1, by rw [c1]; exact of_decide_eq_true f3, by rw [c1]; exact of_decide_eq_true f4, of_decide_eq_true f5, c2, c3, fun e he => ?_, of_decide_eq_true f9, fun z hz => ?_, fun e he => ?_, fun i j hi hj => ?_, ?_, ?_⟩
  · simpa using List.all_eq_true.mp f8 e he
  · simpa using List.all_eq_true.mp f10 z hz
  · simpa using List.all_eq_true.mp f11 e he
  · have := List.all_eq_true.mp (List.all_eq_true.mp hB i (List.mem_range.mpr hi)) j (List.mem_range.mpr hj)
    simp only [Bool.and_eq_true, beq_iff_eq, Bool.not_eq_true'] at this
    obtain ⟨⟨⟨g1, g2⟩, g3⟩, g4⟩ := this
    exact ⟨g1, g2, g3, g4⟩
  · rw [ups_len, ups_len, c1, c2]
    exact u1.symm
  · rw [ups_len, ups_len, c1, c3]
    exact u2.symm
open _root_.ZB
theorem sA_txt : ∀ k : Nat, k < 4 → Str.ofString "a" ++ Str.ofString (toString ((0 : Int) + (k : Nat) + 1)) = sA k ∧ (Str.ofString (toString ((0 : Int) + (k : Nat) + 1))).length ≤ 10 := by
  intro k hk
  have : k = 0 ∨ k = 1 ∨ k = 2 ∨ k = 3 := by omega
  rcases this with rfl | rfl | rfl | rfl <;> decide +kernel
theorem sB_txt : ∀ k : Nat, k < 4 → Str.ofString "b" ++ Str.ofString (toString ((0 : Int) + (k : Nat) + 1)) = sB k ∧ (Str.ofString (toString ((0 : Int) + (k : Nat) + 1))).length ≤ 10 := by
  intro k hk
  have : k = 0 ∨ k = 1 ∨ k = 2 ∨ k = 3 := by omega
  rcases this with rfl | rfl | rfl | rfl <;> decide +kernel
theorem log_small {n : Int} (h : n.natAbs ≤ 100) : n.natAbs.log2 < 1920 := PySem.Flt.log2_lt_of (by decide) (Nat.lt_of_le_of_lt h (by decide +kernel))
section
variable {K : PySem.W.Frag} {CO a : Addr} {H : Hp} {Q : VK} {N : List Str} {R : Str → Str → Bool}
theorem i_lenO (ho : IsO CO H a N R) (h : ∀ H', Same H H' → Q (.int (N.length : Nat)) H') : rLenOwn CO (spOLen CO) [.ref a] H Q := by
  obtain ⟨dx, t, d, e1, _, _, hl, _⟩ := id ho
  exact ⟨a, dx, _, rfl, e1, ⟨rfl, a, N, R, rfl, ho, fun H' s => ⟨_, rfl, by omega, h H' s⟩⟩⟩
theorem IsOE.mono {E : List (Str × Str)} {H' : Hp} (s : Same H H') (h : IsOE CO H a N E) : IsOE CO H' a N E := ⟨h.io.mono s, h.pw, h.anti, h.sub, h.pos⟩
theorem i_listO (io : IsO CO H a N R) (h : ∀ l H', H l = none → Same H H' → H' l = some (.lst (N.map V.str)) → Q (.ref l) H') : rListOwn K CO (spOIter CO) (spOLen CO) [.ref a] H Q := by
  obtain ⟨dx, t, d, e1, et, _, hl8, _, hnl⟩ := id io
  refine ⟨a, dx, _, t, _, rfl, e1, .of et, by rw [List.length_map]; omega, fun H4 s4 => ⟨rfl, a, dx, t, d, _, rfl, s4 _ _ e1, s4 _ _ et, fun q hq => ⟨q, rfl, hq, rfl⟩⟩, fun H4 s4 => ⟨rfl, a, _, _, rfl, io.mono s4, fun H5 s5 => ⟨_, rfl, by omega, by rw [List.length_map], s5⟩⟩, fun l H4 hl s4 e4 => h l H4 hl s4 e4⟩
end
theorem lay_strsN {zs : List Str} (h : ∀ z ∈ zs, nameB z = true) : Lay 1 (.list (zs.map PyData.str)) := lay_list fun d hd => by
  obtain ⟨z, hz, rfl⟩ := List.mem_map.mp hd
  exact lay_str (nameB_ok (h z hz))
theorem miss_no {N : List Str} {x y : Str} (hx : x ∈ N) (hy : y ∈ N) {z : Str} (h : miss N [x, y] = some z) : False := by
  unfold miss at h
  have := List.find?_some h
  have m := List.mem_of_find?_eq_some h
  simp at this m
  rcases m with rfl | rfl <;> exact this (by assumption)
theorem i_repl {to : TE} {y z : Str} {σ : L2.St} {H : Hp} {Q : VK} (h : to σ H fun v H1 => ∃ x, v = .str x ∧ x.length + (x.length + 1) * z.length ≤ 16777216 ∧ Q (.str (Txt.replace x y z)) H1) : CwR.tReplC to y z σ H Q := h
theorem mod_dec {i j m : Nat} : decide ((i : Int) = ((j : Int) + 1) % (m : Int)) = decide (i = (j + 1) % m) := decide_eq_decide.mpr (by
  rw [show ((j : Int) + 1) % (m : Int) = (((j + 1) % m : Nat) : Int) by simp]
  omega)
theorem gName_eq {i : Nat} {x y : V} {σ : L2.St} {H : Hp} {k : L2.St → Hp → Prop} (e : y = x) (h : gName i x σ H k) : gName i y σ H k := e ▸ h
def spIsCr (TT : List (Addr × Str)) : Sp := fun vs H Q _ => vs.length = 1 ∧ ∃ n : Int, vs = [.int n] ∧ (2 ≤ n ∧ n ≤ 4) ∧ LamX.Tabs TT H ∧ ∀ H', LamX.ExtN H H' → LamX.Tabs TT H' → Q (.bl true) H'
abbrev s__law_is_crown : Stmt := top 32
theorem sc__law_is_crown : FnScope ["_law_size", "_law_order", "_law_bottoms", "_law_k", "_law_tops", "_law_i", "_law_j", "_law_near", "_law_turned", "_law_swapped", "_law_low", "_law_high", "_law_again"] ["_law_size"] (defScope s__law_is_crown) := ⟨rfl, rfl, rfl, by decide +kernel, rfl, by decide +kernel, by decide +kernel⟩
theorem ok__law_is_crown {P : Program} {w : World} {K : PySem.W.Frag} {mg : Str → Option Value} {base : Heap} {TT : List (Addr × Str)} {CB CD CG CN CO CU : Addr} {f : Addr} {fd : FuncData} (F : L2.Fun K "_law_is_crown" "_law_is_crown" s__law_is_crown f fd)
    (C_b_len : mg "len" = none)
    (C_b_list : mg "list" = none)
    (C_b_range : mg "range" = none)
    (C_b_str : mg "str" = none)
    (C_c_Order : ClO K CO)
    (C_gOrder : mg "Order" = some (.ref CO))
    (C_i_Order : CalI P w K mg base "Order" CO 4 (spOInitG K CO CB CN CD CU CG))
    (C_k_Order_crown : CalK P w K mg base CO "crown" 6 (spCrown CO))
    (C_m_Order_below : CalM P w K mg base CO "below" 4 (spBelow CO CU))
    (C_m_Order_covers : CalM P w K mg base CO "covers" 2 (spCovers CO))
    (C_m_Order_turned : CalM P w K mg base CO "turned" 6 (spTurned CO))
    (C_m_Order_ups : CalM P w K mg base CO "ups" 4 (spUps K CO TT))
    (C_na_Order__above : NoAttr K CO "_above")
    (C_na_Order_names : NoAttr K CO "names")
    (C_o_Order_iter : CalO P w K mg base CO "__iter__" 1 (spOIter CO))
    (C_o_Order_len : CalO P w K mg base CO "__len__" 1 (spOLen CO)) :
    FnOk P w K mg base (L2.CX P w) 8 f fd ["_law_size"] (spIsCr TT) := by
  refine fnOk_mk F sc__law_is_crown (fun vs H Q E h => h.1) (fun cdv A outer s H vs Q E hr h => ?_)
  obtain ⟨_, n, rfl, h24, hT, k⟩ := h
  refine ⟨_, pss_cons (ps_set (i := 1) sc__law_is_crown.nd rfl (Or.inl rfl) (z_cmethC (pe_glob (v := .ref CO) rfl C_gOrder rfl) C_k_Order_crown hr passN (pa_cons (pv 0) pa_nil)))
    (pss_cons (ps_setLc (i := 2) (own := [("_law_k", 3)]) (by rfl) sc__law_is_crown.nd rfl rfl (sw_true rfl rfl rfl (by decide +kernel)) (pi_range1 (by rfl) C_b_range (pa_cons (pv 0) pa_nil)) (blkOk_by (N := ["_law_size", "_law_order", "_law_bottoms", "_law_k", "_law_tops", "_law_i", "_law_j", "_law_near", "_law_turned", "_law_swapped", "_law_low", "_law_high", "_law_again"]) (sc := defScope s__law_is_crown) (by decide +kernel)) (fun _ _ _ _ _ => pg_name (i := 3) sc__law_is_crown.nd rfl (Or.inl rfl)) (fun _ _ _ _ _ => pts_nil) (fun _ _ _ _ _ => pe_op op_add_str pe_str (pe_callTy call_str_int (by rfl) C_b_str (by decide +kernel) (pa_cons (pe_op op_add (pv 3) pe_int) pa_nil))))
    (pss_cons (ps_setLc (i := 4) (own := [("_law_k", 3)]) (by rfl) sc__law_is_crown.nd rfl rfl (sw_true rfl rfl rfl (by decide +kernel)) (pi_range1 (by rfl) C_b_range (pa_cons (pv 0) pa_nil)) (blkOk_by (N := ["_law_size", "_law_order", "_law_bottoms", "_law_k", "_law_tops", "_law_i", "_law_j", "_law_near", "_law_turned", "_law_swapped", "_law_low", "_law_high", "_law_again"]) (sc := defScope s__law_is_crown) (by decide +kernel)) (fun _ _ _ _ _ => pg_name (i := 3) sc__law_is_crown.nd rfl (Or.inl rfl)) (fun _ _ _ _ _ => pts_nil) (fun _ _ _ _ _ => pe_op op_add_str pe_str (pe_callTy call_str_int (by rfl) C_b_str (by decide +kernel) (pa_cons (pe_op op_add (pv 3) pe_int) pa_nil))))
    (ZX.pssk_if (ZX.ptk_or (pt_cmpR (k_neD (K := K) rfl hr.units) (pe_callTy (k_listOwn (K := K) rfl rfl C_o_Order_iter C_o_Order_len hr) (by rfl) C_b_list (by decide +kernel) (pa_cons (pv 1) pa_nil)) (pe_op op_cat (pv 2) (pv 4)) (nomark _)) (ZX.ptk_cmpR op_ne (pe_callB (z_lenOwn C_o_Order_len hr) (by rfl) C_b_len (by decide +kernel) (pa_cons (pv 1) pa_nil)) (ZX.pek_op op_mul ZX.pek_int (pv 0)) (nomark _))) pe_bl
    (psst_cons (PST.of (ps_for (passes_of rfl) rfl (pi_range1 (by rfl) C_b_range (pa_cons (pv 0) pa_nil)) (pg_name (i := 5) sc__law_is_crown.nd rfl (Or.inl rfl)) (pss_one (ps_for (passes_of rfl) rfl (pi_range1 (by rfl) C_b_range (pa_cons (pv 0) pa_nil)) (pg_name (i := 6) sc__law_is_crown.nd rfl (Or.inl rfl)) (pss_cons (ps_set (i := 7) sc__law_is_crown.nd rfl (Or.inl rfl) (pe_or (pe_cmpR op_eq (pv 6) (pv 5) (nomark _)) (pe_one (pe_cmpR op_eq (pv 5) (pe_op op_mod (pe_op op_add (pv 6) pe_int) (pv 0)) (nomark _)))))
    (pss_cons (ps_if (pt_cmpR op_ne (z_methC (pv 1) C_c_Order.toCls C_m_Order_below hr passN (pa_cons (pe_ix ix_list (pv 2) (pv 5) (fun _ _ => rfl)) (pa_cons (pe_ix ix_list (pv 4) (pv 6) (fun _ _ => rfl)) pa_nil))) (pv 7) (nomark _)) (pss_one (ps_ret pe_bl)) (pss_nil))
    (pss_cons (ps_if (pt_val (z_methC (pv 1) C_c_Order.toCls C_m_Order_below hr passN (pa_cons (pe_ix ix_list (pv 4) (pv 6) (fun _ _ => rfl)) (pa_cons (pe_ix ix_list (pv 2) (pv 5) (fun _ _ => rfl)) pa_nil)))) (pss_one (ps_ret pe_bl)) (pss_nil))
    (pss_cons (ps_if (pt_cmpR op_ne (z_methC (pv 1) C_c_Order.toCls C_m_Order_below hr passN (pa_cons (pe_ix ix_list (pv 2) (pv 5) (fun _ _ => rfl)) (pa_cons (pe_ix ix_list (pv 2) (pv 6) (fun _ _ => rfl)) pa_nil))) (pe_cmpR op_eq (pv 5) (pv 6) (nomark _)) (nomark _)) (pss_one (ps_ret pe_bl)) (pss_nil))
    (pss_one (ps_if (pt_cmpR op_ne (z_methC (pv 1) C_c_Order.toCls C_m_Order_below hr passN (pa_cons (pe_ix ix_list (pv 4) (pv 5) (fun _ _ => rfl)) (pa_cons (pe_ix ix_list (pv 4) (pv 6) (fun _ _ => rfl)) pa_nil))) (pe_cmpR op_eq (pv 5) (pv 6) (nomark _)) (nomark _)) (pss_one (ps_ret pe_bl)) (pss_nil)))))))))))
    (psst_cons (PST.of (ps_set (i := 8) sc__law_is_crown.nd rfl (Or.inl rfl) (z_meth0C (pv 1) C_c_Order.toCls C_m_Order_turned hr passN)))
    (psst_cons (ZX.pst_setLc (i := 9) (own := [("_law_low", 10), ("_law_high", 11)]) (by rfl) sc__law_is_crown.nd rfl rfl (sw_true rfl rfl rfl (by decide +kernel)) (pi_any (K := K) rfl (z_meth0C (pv 1) C_c_Order.toCls C_m_Order_covers hr passN)) (blkOk_by (N := ["_law_size", "_law_order", "_law_bottoms", "_law_k", "_law_tops", "_law_i", "_law_j", "_law_near", "_law_turned", "_law_swapped", "_law_low", "_law_high", "_law_again"]) (sc := defScope s__law_is_crown) (by decide +kernel)) (fun _ _ _ _ _ => k_tup (K := K) (n := 2) rfl rfl (pgs_cons (pg_name (i := 10) sc__law_is_crown.nd rfl (Or.inl rfl)) (pgs_cons (pg_name (i := 11) sc__law_is_crown.nd rfl (Or.inl rfl)) pgs_nil))) (fun _ _ _ _ _ => pts_nil) (fun _ _ _ _ _ => ZX.pet_tup (pat_cons (CwR.pet_replC (pv 11)) (pat_cons (CwR.pet_replC (pv 10)) (pat_nil)))))
    (psst_cons (PST.of (ps_set (i := 12) sc__law_is_crown.nd rfl (Or.inl rfl) (z_makeC C_i_Order hr passN (pa_cons (pe_fld (pv 1) rfl) (pa_cons (pv 9) pa_nil)))))
    (psst_cons (PST.of (ps_if (PW.pt (pw_or (pt_cmpR op_ne (pe_callB (k_len (K := K) rfl) (by rfl) C_b_len (by decide +kernel) (pa_cons (z_meth0C (pv 1) C_c_Order.toCls C_m_Order_covers hr passN) pa_nil)) (pe_op op_mul pe_int (pv 0)) (nomark _)) (pw_or1 (pt_cmpR op_ne (pe_callB (k_len (K := K) rfl) (by rfl) C_b_len (by decide +kernel) (pa_cons (z_meth0C (pv 8) C_c_Order.toCls C_m_Order_ups hr passN) pa_nil)) (pe_callB (k_len (K := K) rfl) (by rfl) C_b_len (by decide +kernel) (pa_cons (z_meth0C (pv 1) C_c_Order.toCls C_m_Order_ups hr passN) pa_nil)) (nomark _))))) (pss_one (ps_ret pe_bl)) (pss_nil)))
    (CwR.psst_one (PST.of (ps_ret (pe_cmpR op_eq (pe_callB (k_len (K := K) rfl) (by rfl) C_b_len (by decide +kernel) (pa_cons (z_meth0C (pv 12) C_c_Order.toCls C_m_Order_ups hr passN) pa_nil)) (pe_callB (k_len (K := K) rfl) (by rfl) C_b_len (by decide +kernel) (pa_cons (z_meth0C (pv 1) C_c_Order.toCls C_m_Order_ups hr passN) pa_nil)) (nomark _))))))))))))), ?_⟩
  try dsimp only [cxOf]
  walk_at "rd"
  refine ⟨rfl, ?_⟩
  walk_at "rd"
  refine ⟨rfl, n, rfl, h24, fun m em o H1 ho s1 io => ?_⟩
  subst em
  have hm1 : 2 ≤ m := by omega
  have hm2 : m ≤ 4 := by omega
  obtain ⟨ea, eb, ec⟩ := cA_eq m hm1 hm2
  have F := crF_of m hm1 hm2
  rw [ea, eb, ec, show nA m ++ nB m = nC m from rfl, srt_of_pw F.pw] at io
  walk_at "rd"
  refine i_lcR1 (n := m) (by omega) (by omega) (fun k ys H' => Same H1 H' ∧ ys = ((List.range k).map sA).map V.str) (fun D H' hD s e ho => ⟨s, rfl⟩) ?_ ?_
  · rintro k D ys H' hD hk eD ⟨s', rfl⟩
    walk_at "rd"
    refine ⟨by with_unfolding_all rfl, ?_⟩
    walk_at "rd"
    obtain ⟨et, el⟩ := sA_txt k (by omega)
    refine ⟨_, rfl, log_small (by omega), _, _, rfl, rfl, ?_, ?_⟩
    · have l1 : (Str.ofString "a").length = 1 := by decide +kernel
      rw [l1, sizeLine_eq]; omega
    rw [et]
    refine i_lcE eD ?_ fun H4 e4 o4 => ⟨fun b o eb => ?_, ?_⟩
    · rw [List.length_map, List.length_map, List.length_range]; omega
    · rw [o4 b (ne_of_none eb hD)]
      exact s' _ _ eb
    · rw [List.range_succ, List.map_append, List.map_append]
      rfl
  rintro qa ys H2 hqa eqa ⟨s2, rfl⟩
  walk_at "rd"
  refine i_lcR1 (n := m) (by omega) (by omega) (fun k ys H' => Same H2 H' ∧ ys = ((List.range k).map sB).map V.str) (fun D H' hD s e ho => ⟨s, rfl⟩) ?_ ?_
  · rintro k D ys H' hD hk eD ⟨s', rfl⟩
    walk_at "rd"
    refine ⟨by with_unfolding_all rfl, ?_⟩
    walk_at "rd"
    obtain ⟨et, el⟩ := sB_txt k (by omega)
    refine ⟨_, rfl, log_small (by omega), _, _, rfl, rfl, ?_, ?_⟩
    · have l1 : (Str.ofString "b").length = 1 := by decide +kernel
      rw [l1, sizeLine_eq]; omega
    rw [et]
    refine i_lcE eD ?_ fun H4 e4 o4 => ⟨fun b o eb => ?_, ?_⟩
    · rw [List.length_map, List.length_map, List.length_range]; omega
    · rw [o4 b (ne_of_none eb hD)]
      exact s' _ _ eb
    · rw [List.range_succ, List.map_append, List.map_append]
      rfl
  rintro qb ys H3 hqb eqb ⟨s3, rfl⟩
  walk_at "rd"
  refine i_listO ((io.mono (s2.trans s3)).io) fun l H4 hl s4 el => ?_
  walk_at "rd"
  have ea4 := s4 _ _ (s3 _ _ eqa)
  have eb4 := s4 _ _ eqb
  refine i_cat ea4 eb4 (by rw [List.length_map, List.length_map, List.length_map, List.length_map, List.length_range]; omega) fun c H5 hc s5 ec' o5 => ?_
  walk_at "rd"
  rw [← List.map_append] at ec'
  refine i_neDR (lay_strsN fun z hz => (F.nm z hz).1) (by decide) (.lst (.of (s5 _ _ el)) (dp_strs _)) (.lst (.of ec') (dp_strs _)) ?_
  walk_at "rd"
  have io5 : IsOE CO H5 o (nC m) (eC m) := io.mono (((s2.trans s3).trans s4).trans s5)
  refine i_lenO io5.io fun H6 s6 => ?_
  walk_at "rd"
  have lN : (nC m).length = 2 * m := by unfold nC nA nB; rw [List.length_append, List.length_map, List.length_map, List.length_range]; omega
  refine i_ndec (fun e => absurd (show ((nC m).length : Int) = 2 * (m : Int) by omega) e) (fun _ => ?_)
  walk_at "rd"
  have mA : ∀ {k}, k < m → sA k ∈ nC m := fun h => List.mem_append_left _ (List.mem_map.mpr ⟨_, List.mem_range.mpr h, rfl⟩)
  have mB : ∀ {k}, k < m → sB k ∈ nC m := fun h => List.mem_append_right _ (List.mem_map.mpr ⟨_, List.mem_range.mpr h, rfl⟩)
  have atA : ∀ {k}, k < m → ((nA m).map V.str)[k]? = some (V.str (sA k)) := fun {k} hk => by simp [nA, hk]
  have atB : ∀ {k}, k < m → ((nB m).map V.str)[k]? = some (V.str (sB k)) := fun {k} hk => by simp [nB, hk]
  have io6 := io5.mono s6
  have ea6 : H6 qa = some (.lst ((nA m).map V.str)) := s6 _ _ (s5 _ _ ea4)
  have eb6 : H6 qb = some (.lst ((nB m).map V.str)) := s6 _ _ (s5 _ _ eb4)
  refine i_forR (n := m) rfl (by omega) (fun i σ H7 => (∃ x5 x6 x7, σ = [some (.int (m : Nat)), some (.ref o), some (.ref qa), none, some (.ref qb), x5, x6, x7, none, none, none, none, none]) ∧ Same H6 H7) ⟨⟨_, _, _, rfl⟩, Same.refl _⟩ ?_ ?_
  · rintro i σ H7 hi ⟨⟨x5, x6, x7, rfl⟩, s7⟩
    walk_at "rd"
    refine i_forR (n := m) rfl (by omega) (fun j σ H8 => (∃ x6 x7, σ = [some (.int (m : Nat)), some (.ref o), some (.ref qa), none, some (.ref qb), some (.int (i : Nat)), x6, x7, none, none, none, none, none]) ∧ Same H6 H8) ⟨⟨_, _, rfl⟩, s7⟩ ?_ ?_
    · rintro j σ H8 hj ⟨⟨x6, x7, rfl⟩, s8⟩
      walk_at "rd"
      obtain ⟨b1, b2, b3, b4⟩ := F.b1 i j hi hj
      have near : ∀ b : Bool, b = (decide (j = i) || decide (i = (j + 1) % m)) → b = OM.cl (eC m) (sA i) (sB j) := fun b e => by rw [e, F.cl, b1]
      have io8 := io6.mono s8
      have ea8 := s8 _ _ ea6
      have eb8 := s8 _ _ eb6
      obtain ⟨dx, ti, d, g, _⟩ := id io8.io
      have hm0 : (0 : Int) < (m : Int) := by omega
      refine i_dec (fun e => gName_eq (x := .bl (OM.cl (eC m) (sA i) (sB j))) (congrArg V.bl (near true (by rw [decide_eq_true (show j = i by omega)]; rfl))) ?_) (fun e => ?_)
      rotate_left
      · walk_at "rd"
        rw [mod_dec, near (decide (i = (j + 1) % m)) (by rw [decide_eq_false (show ¬ j = i by omega), Bool.false_or])]
        walk_at "rd"
        refine i_meth1 g (ro_no (by decide +kernel) (by decide +kernel)) ?_
        walk_at "rd"
        refine i_ixL (.of ea8) (atA hi) ?_
        walk_at "rd"
        refine i_ixL (.of eb8) (atB hj) ?_
        walk_at "rd"
        refine ⟨rfl, o, nC m, _, _, _, rfl, io8.io, fun z hz => (miss_no (mA hi) (mB hj) hz).elim, fun _ H9 s9 => ?_⟩
        walk_at "rd"
        rw [bne_self_eq_false]
        walk_at "rd"
        refine i_meth1 (s9 _ _ g) (ro_no (by decide +kernel) (by decide +kernel)) ?_
        walk_at "rd"
        refine i_ixL (.of (s9 _ _ eb8)) (atB hj) ?_
        walk_at "rd"
        refine i_ixL (.of (s9 _ _ ea8)) (atA hi) ?_
        walk_at "rd"
        refine ⟨rfl, o, nC m, _, _, _, rfl, (io8.mono s9).io, fun z hz => (miss_no (mB hj) (mA hi) hz).elim, fun _ H10 s10 => ?_⟩
        walk_at "rd"
        rw [show OM.cl (eC m) (sB j) (sA i) = false by rw [F.cl]; exact b2]
        walk_at "rd"
        have s89 := s9.trans s10
        refine i_meth1 (s89 _ _ g) (ro_no (by decide +kernel) (by decide +kernel)) ?_
        walk_at "rd"
        refine i_ixL (.of (s89 _ _ ea8)) (atA hi) ?_
        walk_at "rd"
        refine i_ixL (.of (s89 _ _ ea8)) (atA hj) ?_
        walk_at "rd"
        refine ⟨rfl, o, nC m, _, _, _, rfl, (io8.mono s89).io, fun z hz => (miss_no (mA hi) (mA hj) hz).elim, fun _ H11 s11 => ?_⟩
        walk_at "rd"
        rw [show OM.cl (eC m) (sA i) (sA j) = decide ((i : Int) = (j : Int)) by rw [F.cl, b3]; exact decide_eq_decide.mpr (by omega), bne_self_eq_false]
        walk_at "rd"
        have s8b := s89.trans s11
        refine i_meth1 (s8b _ _ g) (ro_no (by decide +kernel) (by decide +kernel)) ?_
        walk_at "rd"
        refine i_ixL (.of (s8b _ _ eb8)) (atB hi) ?_
        walk_at "rd"
        refine i_ixL (.of (s8b _ _ eb8)) (atB hj) ?_
        walk_at "rd"
        refine ⟨rfl, o, nC m, _, _, _, rfl, (io8.mono s8b).io, fun z hz => (miss_no (mB hi) (mB hj) hz).elim, fun _ H12 s12 => ?_⟩
        walk_at "rd"
        rw [show OM.cl (eC m) (sB i) (sB j) = decide ((i : Int) = (j : Int)) by rw [F.cl, b4]; exact decide_eq_decide.mpr (by omega), bne_self_eq_false]
        walk_at "rd"
        exact ⟨⟨_, _, rfl⟩, s8.trans (s8b.trans s12)⟩
      · walk_at "rd"
        refine i_meth1 g (ro_no (by decide +kernel) (by decide +kernel)) ?_
        walk_at "rd"
        refine i_ixL (.of ea8) (atA hi) ?_
        walk_at "rd"
        refine i_ixL (.of eb8) (atB hj) ?_
        walk_at "rd"
        refine ⟨rfl, o, nC m, _, _, _, rfl, io8.io, fun z hz => (miss_no (mA hi) (mB hj) hz).elim, fun _ H9 s9 => ?_⟩
        walk_at "rd"
        rw [bne_self_eq_false]
        walk_at "rd"
        refine i_meth1 (s9 _ _ g) (ro_no (by decide +kernel) (by decide +kernel)) ?_
        walk_at "rd"
        refine i_ixL (.of (s9 _ _ eb8)) (atB hj) ?_
        walk_at "rd"
        refine i_ixL (.of (s9 _ _ ea8)) (atA hi) ?_
        walk_at "rd"
        refine ⟨rfl, o, nC m, _, _, _, rfl, (io8.mono s9).io, fun z hz => (miss_no (mB hj) (mA hi) hz).elim, fun _ H10 s10 => ?_⟩
        walk_at "rd"
        rw [show OM.cl (eC m) (sB j) (sA i) = false by rw [F.cl]; exact b2]
        walk_at "rd"
        have s89 := s9.trans s10
        refine i_meth1 (s89 _ _ g) (ro_no (by decide +kernel) (by decide +kernel)) ?_
        walk_at "rd"
        refine i_ixL (.of (s89 _ _ ea8)) (atA hi) ?_
        walk_at "rd"
        refine i_ixL (.of (s89 _ _ ea8)) (atA hj) ?_
        walk_at "rd"
        refine ⟨rfl, o, nC m, _, _, _, rfl, (io8.mono s89).io, fun z hz => (miss_no (mA hi) (mA hj) hz).elim, fun _ H11 s11 => ?_⟩
        walk_at "rd"
        rw [show OM.cl (eC m) (sA i) (sA j) = decide ((i : Int) = (j : Int)) by rw [F.cl, b3]; exact decide_eq_decide.mpr (by omega), bne_self_eq_false]
        walk_at "rd"
        have s8b := s89.trans s11
        refine i_meth1 (s8b _ _ g) (ro_no (by decide +kernel) (by decide +kernel)) ?_
        walk_at "rd"
        refine i_ixL (.of (s8b _ _ eb8)) (atB hi) ?_
        walk_at "rd"
        refine i_ixL (.of (s8b _ _ eb8)) (atB hj) ?_
        walk_at "rd"
        refine ⟨rfl, o, nC m, _, _, _, rfl, (io8.mono s8b).io, fun z hz => (miss_no (mB hi) (mB hj) hz).elim, fun _ H12 s12 => ?_⟩
        walk_at "rd"
        rw [show OM.cl (eC m) (sB i) (sB j) = decide ((i : Int) = (j : Int)) by rw [F.cl, b4]; exact decide_eq_decide.mpr (by omega), bne_self_eq_false]
        walk_at "rd"
        exact ⟨⟨_, _, rfl⟩, s8.trans (s8b.trans s12)⟩
    · rintro σ H8 ⟨⟨x6, x7, rfl⟩, s8⟩
      exact ⟨⟨_, _, _, rfl⟩, s8⟩
  rintro σ H7 ⟨⟨x5, x6, x7, rfl⟩, s7⟩
  walk_at "rd"
  have io7 := io6.mono s7
  obtain ⟨dx7, ti7, d7, g7, _⟩ := id io7.io
  refine i_meth1 g7 (ro_no (by decide +kernel) (by decide +kernel)) ?_
  walk_at "rd"
  refine ⟨rfl, o, nC m, eC m, rfl, io7, fun u H8 hu s8 iu => ?_⟩
  rw [F.prs] at iu
  walk_at "rd"
  refine i_meth1 (s8 _ _ g7) (ro_no (by decide +kernel) (by decide +kernel)) ?_
  walk_at "rd"
  refine ⟨rfl, o, nC m, OM.cl (eC m), rfl, (io7.mono s8).io, fun q H9 hq s9 hP => ?_⟩
  rw [F.cvs] at hP
  obtain ⟨ps, es, ht⟩ := hP
  have lp10 : (pC m).length = 2 * m := F.len
  refine i_lcA (H0 := H9) (fun i ys H2 => Same H9 H2 ∧ ∃ qs, ys = qs.map V.ref ∧ TPr H2 qs (((pC m).take i).map rpl)) (SqA.l es) (Same.refl _) ?_ ?_ ?_ ?_
  · intro D H' hD sm e ho
    exact ⟨sm, [], rfl, .nil⟩
  · exact fun i ys H2 p => p.1
  · rintro i v D ys H10 hD hx eD ⟨s10, qs, rfl, hq10⟩
    rw [List.getElem?_map] at hx
    obtain ⟨w, hwi, rfl⟩ : ∃ w, ps[i]? = some w ∧ v = V.ref w := by
      cases e : ps[i]? with
      | none => rw [e] at hx; cases hx
      | some w => rw [e] at hx; exact ⟨w, rfl, (Option.some.inj hx).symm⟩
    have lt := (List.getElem?_eq_some_iff.mp hwi).1
    rw [ht.1] at lt
    have hei : (pC m)[i]? = some (pC m)[i] := by simp [lt]
    have eq := ht.2 i w _ hwi hei
    generalize hxy : (pC m)[i] = xy at *
    obtain ⟨x, y⟩ := xy
    have hm : (x, y) ∈ pC m := List.mem_of_getElem? (i := i) hei
    obtain ⟨hx0, hy0⟩ := F.inp _ hm
    have lx := (F.nm x (List.mem_append_left _ hx0)).2
    have ly := (F.nm y (List.mem_append_right _ hy0)).2
    refine i_gtup (SqT.of (s10 _ _ eq)) rfl ?_
    walk_at "rd"
    refine ⟨by with_unfolding_all rfl, ?_⟩
    walk_at "rd"
    have lza : (Str.ofString "a").length = 1 := by decide +kernel
    have lzb : (Str.ofString "b").length = 1 := by decide +kernel
    refine i_repl ?_
    walk_at "rd"
    refine ⟨y, rfl, by rw [ly, lza]; decide, ?_⟩
    walk_at "rd"
    refine i_repl ?_
    walk_at "rd"
    refine ⟨x, rfl, by rw [lx, lzb]; decide, ?_⟩
    walk_at "rd"
    refine i_tup1 (by show 2 ≤ 100000; decide) fun q2 H11 hq2 s11 e11 ho11 => ?_
    refine i_lcE (s11 _ _ eD) ?_ fun H12 e12 ho12 => ⟨fun b o eb => ?_, qs ++ [q2], by rw [List.map_append]; rfl, ?_⟩
    · have h1 := hq10.1
      rw [List.length_map, List.length_take] at h1
      rw [List.length_map]
      omega
    · rw [ho12 b (ne_of_none eb hD)]
      exact s11 _ _ (s10 _ _ eb)
    · have := ((hq10.mono s11).snoc e11).keep (lst_keep (s11 _ _ eD) ho12)
      rw [take_snoc hei, List.map_append]
      exact this
  rintro sw ys H10 hsw esw ⟨s10, qs, rfl, hq10⟩
  rw [List.length_map, ht.1, List.take_length] at hq10
  walk_at "rd"
  have t10 : Same H7 H10 := (s8.trans s9).trans s10
  refine i_fld1 (t10 _ _ g7) C_c_Order.toCls C_na_Order_names rf_names ?_
  walk_at "rd"
  obtain ⟨dx7', ti7', d7', g7', et7, _⟩ := id io7.io
  obtain ⟨rfl, rfl⟩ : ti7' = ti7 ∧ d7' = d7 := by
    rw [g7] at g7'
    cases g7'
    exact ⟨rfl, rfl⟩
  refine i_newOK (.t (t10 _ _ et7)) (LPr.a ⟨qs, esw, hq10⟩) (by omega) (by omega) (fun z hz => (F.nm z hz).1) F.nd (fun e he => ⟨List.mem_append_left _ (F.inr e he).1, List.mem_append_right _ (F.inr e he).2⟩) (by rw [List.length_map]; omega) ?_ fun v H11 hv s11 iv => ?_
  · refine OM.anti_rank (fun z => if z ∈ nB m then 1 else 0) fun e he => .inr ?_
    obtain ⟨h1, h2⟩ := F.inr e he
    have h3 : ¬ e.1 ∈ nB m := fun h => (List.nodup_append.mp F.nd).2.2 _ h1 _ h rfl
    rw [if_neg h3, if_pos h2]
    decide
  rw [srt_of_pw F.pw] at iv
  walk_at "rd"
  have t11 : Same H7 H11 := t10.trans s11
  have io11 := io7.mono t11
  have iu11 := iu.mono ((s9.trans s10).trans s11)
  refine i_meth1 (t11 _ _ g7) (ro_no (by decide +kernel) (by decide +kernel)) ?_
  walk_at "rd"
  refine ⟨rfl, o, nC m, OM.cl (eC m), rfl, io11.io, fun q2 H12 hq2 s12 hP2 => ?_⟩
  rw [F.cvs] at hP2
  obtain ⟨ps2, es2, ht2⟩ := hP2
  walk_at "rd"
  refine i_lenA (SqA.l es2) ?_
  walk_at "rd"
  refine i_ndec (fun e => absurd (show (((ps2.map V.ref).length : Nat) : Int) = 2 * (m : Int) by rw [List.length_map, ht2.1]; omega) e) (fun _ => ?_)
  walk_at "rd"
  have t012 : Same H H12 := (((s1.trans (((s2.trans s3).trans s4).trans (s5.trans s6))).trans s7).trans t11).trans s12
  have x012 : LamX.ExtN H H12 := LamX.ExtN.of t012
  have T12 := hT.ext t012
  have iu12 := iu11.mono s12
  have io12 := io11.mono s12
  have iv12 := iv.mono s12
  obtain ⟨dxu, tu, du, gu, _⟩ := id iu12.io
  refine i_meth1 gu (ro_no (by decide +kernel) (by decide +kernel)) ?_
  walk_at "rd"
  refine ⟨rfl, u, nC m, _, rfl, iu12, T12, fun r1 H13 bs1 fn1 x13 T13 er1 tb1 hbs1 => ?_⟩
  walk_at "rd"
  refine i_lenA (SqA.l er1) ?_
  walk_at "rd"
  have io13 := io12.ext x13
  obtain ⟨dxo, to, do_, go, _⟩ := id io13.io
  refine i_meth1 go (ro_no (by decide +kernel) (by decide +kernel)) ?_
  walk_at "rd"
  refine ⟨rfl, o, nC m, _, rfl, io13, T13, fun r2 H14 bs2 fn2 x14 T14 er2 tb2 hbs2 => ?_⟩
  walk_at "rd"
  refine i_lenA (SqA.l er2) ?_
  walk_at "rd"
  have l1 : (refB bs1).length = (refB bs2).length := by
    rw [refB_len, refB_len, ← List.length_map (f := Prod.snd), hbs1, ← List.length_map (f := Prod.snd) (as := bs2), hbs2]
    exact F.u1
  refine i_ndec (fun e => absurd (congrArg (fun n : Nat => (n : Int)) l1) e) (fun _ => ?_)
  walk_at "rd"
  have iv14 := (iv12.ext x13).ext x14
  have io14 := io13.ext x14
  obtain ⟨dxv, tv, dv, gv, _⟩ := id iv14.io
  refine i_meth1 gv (ro_no (by decide +kernel) (by decide +kernel)) ?_
  walk_at "rd"
  refine ⟨rfl, v, nC m, _, rfl, iv14, T14, fun r3 H15 bs3 fn3 x15 T15 er3 tb3 hbs3 => ?_⟩
  walk_at "rd"
  refine i_lenA (SqA.l er3) ?_
  walk_at "rd"
  have io15 := io14.ext x15
  obtain ⟨dxo5, to5, do5, go5, _⟩ := id io15.io
  refine i_meth1 go5 (ro_no (by decide +kernel) (by decide +kernel)) ?_
  walk_at "rd"
  refine ⟨rfl, o, nC m, _, rfl, io15, T15, fun r4 H16 bs4 fn4 x16 T16 er4 tb4 hbs4 => ?_⟩
  walk_at "rd"
  refine i_lenA (SqA.l er4) ?_
  walk_at "rd"
  have l2 : (refB bs3).length = (refB bs4).length := by
    rw [refB_len, refB_len, ← List.length_map (f := Prod.snd), hbs3, ← List.length_map (f := Prod.snd) (as := bs4), hbs4]
    exact F.u2
  rw [decide_eq_true (congrArg (fun n : Nat => (n : Int)) l2)]
  exact k H16 ((((x012.trans x13).trans x14).trans x15).trans x16) T16
open _root_.ZB
/-- a part's closure -/
theorem cl_part {E : List (Str × Str)} {N ps : List Str} (hN : ∀ z ∈ ps, z ∈ N) {a b : Str} (ha : a ∈ ps) (hb : b ∈ ps) : OM.cl ((OM.prs N (OM.cl E)).filter (both ps)) a b = OM.cl E a b := by
  rw [Bool.eq_iff_iff, OM.cl_iff, OM.cl_iff]
  constructor
  · intro h
    exact h.mono fun e he => OM.cl_iff.mp (OM.mem_prs.mp (List.mem_filter.mp he).1).2.2.1
  · intro h
    by_cases e : a = b
    · rw [e]; exact .refl _
    · exact .one (List.mem_filter.mpr ⟨OM.mem_prs.mpr ⟨hN a ha, hN b hb, OM.cl_iff.mpr h, e⟩, by unfold both; simp [ha, hb]⟩)
theorem abs_all {N : List Str} {R S : Str → Str → Bool} : (N.all fun n => decide (OM.ab N R n = OM.ab N S n)) = true ↔ ∀ a ∈ N, ∀ b ∈ N, R a b = S a b := by
  rw [List.all_eq_true]
  constructor
  · intro h a ha b hb
    have e := of_decide_eq_true (h a ha)
    rw [Bool.eq_iff_iff]
    constructor
    · intro r
      have : b ∈ OM.ab N R a := OM.mem_ab.mpr ⟨hb, r⟩
      rw [e] at this
      exact (OM.mem_ab.mp this).2
    · intro r
      have : b ∈ OM.ab N S a := OM.mem_ab.mpr ⟨hb, r⟩
      rw [← e] at this
      exact (OM.mem_ab.mp this).2
  · intro h a ha
    refine decide_eq_true ?_
    exact List.filter_congr fun b hb => h a ha b hb
theorem i_Oeq {K : PySem.W.Frag} {CO a b : Addr} {H : Hp} {Q : VK} {N M : List Str} {R S : Str → Str → Bool} (ha : IsO CO H a N R) (hb : IsO CO H b M S) (h : ∀ H', Same H H' → Q (.bl (decide (N = M) && N.all fun n => decide (OM.ab N R n = OM.ab M S n))) H') : rOwnC K CO (spOEq K CO) (.ref a) (.ref b) H Q := by
  obtain ⟨dx, t, d, e1, _⟩ := id ha
  obtain ⟨dy, t2, d2, e2, _⟩ := id hb
  exact ⟨a, dx, _, _, rfl, e1, .ins e2, self_first, rfl, a, N, R, _, rfl, ha, .inl ⟨b, M, S, rfl, hb, h⟩⟩

theorem dp_tups {K : PySem.W.Frag} {H : Hp} : ∀ {bs : List AT}, TsAt H bs → DpAll K H (refB bs) ((bs.map (·.2)).map fun ws => .tuple (ws.map PyData.str))
  | [], _ => .nil
  | b :: bs, h => .cons (.tup (.of (h b List.mem_cons_self)) (dp_strs _)) (dp_tups fun c hc => h c (List.mem_cons_of_mem _ hc))
def upD (U : List (List Str)) : PyData := .list (U.map fun ws => .tuple (ws.map PyData.str))
theorem lay_up {U : List (List Str)} (h : ∀ ws ∈ U, ∀ z ∈ ws, PyData.strOk z = true) : Lay 2 (upD U) := lay_list fun d hd => by
  obtain ⟨ws, hw, rfl⟩ := List.mem_map.mp hd
  exact lay_tup fun e he => by
    obtain ⟨z, hz, rfl⟩ := List.mem_map.mp he
    exact lay_str (h ws hw z hz)
theorem ptF_ok {N : List Str} : ∀ (zs seen : List Str), (∀ z ∈ zs, z ∈ N) → (seen ++ zs).Nodup → ptF N seen zs = none
  | [], _, _, _ => rfl
  | z :: zs, seen, h1, h2 => by
    have nz : z ∉ seen := fun m => (List.nodup_append.mp h2).2.2 z m z List.mem_cons_self rfl
    rw [ptF_cons, if_neg nz, if_neg (not_not_intro (h1 z List.mem_cons_self))]
    exact ptF_ok zs _ (fun w hw => h1 w (List.mem_cons_of_mem _ hw)) (by simpa using h2)
theorem i_eqDR {K : PySem.W.Frag} {p q : Addr} {H : Hp} {Q : VK} {n : Nat} {d : PyData} (hd : Lay n d) (hn : n ≤ 64) (h1 : Dp K H (.ref p) d) (h2 : Dp K H (.ref q) d) (h : Q (.bl true) H) : rEqD K (.ref p) (.ref q) H Q :=
  ⟨d, d, h1, h2, hd.shaped hn, hd.shaped hn, by rw [eqv_refl d hd.1]; exact h⟩
theorem cl_sw {N : List Str} {E : List (Str × Str)} (hE : ∀ e ∈ E, e.1 ∈ N ∧ e.2 ∈ N) {a b : Str} : OM.cl ((OM.prs N (OM.cl E)).map swp) a b = OM.cl E b a := by
  rw [cl_swp, OM.prs_cl hE]
theorem rb_name {z : Str} (h : nameB z = true) : RB z := by
  have h1 := StrLaws.reprText_len z (name_chars h)
  have h2 := nameB_len h
  unfold RB
  omega
theorem Pool.same {p : Addr} {H H' : Hp} (s : Same H H') (h : Pool H p) : Pool H' p := let ⟨x, y, z, e⟩ := h; ⟨x, y, z, s _ _ e⟩
theorem Pool.ne {p b : Addr} {H : Hp} (h : Pool H p) (hb : H b = none) : b ≠ p := fun z => by
  obtain ⟨_, _, _, e⟩ := h
  rw [← z, hb] at e
  cases e
/-! ### chains -/
theorem exists_min {P : Nat → Prop} : ∀ {k : Nat}, P k → ∃ m, P m ∧ ∀ j, P j → m ≤ j := by
  intro k
  induction k using Nat.strongRecOn with
  | ind k ih =>
    intro h
    by_cases c : ∃ j, j < k ∧ P j
    · obtain ⟨j, hj, hp⟩ := c
      exact ih j hj hp
    · exact ⟨k, h, fun j hj => Nat.le_of_not_lt fun l => c ⟨j, l, hj⟩⟩
section
variable {zs : List Str}
theorem ix_of (h : zs.Nodup) {z : Str} (hz : z ∈ zs) : zs[zs.idxOf z]? = some z := by
  rw [List.getElem?_eq_some_iff]
  exact ⟨List.idxOf_lt_length_of_mem hz, List.getElem_idxOf _⟩
theorem pair_in {i : Nat} {x y : Str} (hx : zs[i]? = some x) (hy : zs[i + 1]? = some y) : (x, y) ∈ pairsOf zs := by
  refine List.mem_of_getElem? (i := i) ?_
  unfold pairsOf
  rw [List.getElem?_zip_eq_some]
  exact ⟨hx, by rw [List.getElem?_tail]; exact hy⟩
theorem rch_up (d : Nat) : ∀ {i : Nat} {x y : Str}, zs[i]? = some x → zs[i + d]? = some y → OM.Rch (pairsOf zs) x y := by
  induction d with
  | zero =>
    intro i x y hx hy
    rw [Nat.add_zero, hx] at hy
    cases hy
    exact .refl _
  | succ d ih =>
    intro i x y hx hy
    have lt := (List.getElem?_eq_some_iff.mp hy).1
    obtain ⟨z, hz⟩ : ∃ z, zs[i + d]? = some z := ⟨zs[i + d], by rw [List.getElem?_eq_getElem]⟩
    exact (ih hx hz).trans (.one (pair_in hz hy))
theorem cl_chain (h : zs.Nodup) {i j : Nat} {x y : Str} (hx : zs[i]? = some x) (hy : zs[j]? = some y) : OM.cl (pairsOf zs) x y = decide (i ≤ j) := by
  rw [Bool.eq_iff_iff, OM.cl_iff, decide_eq_true_eq]
  constructor
  · intro r
    have key : ∀ {a b : Str}, OM.Rch (pairsOf zs) a b → ∀ k : Nat, zs[k]? = some a → ∃ l : Nat, k ≤ l ∧ zs[l]? = some b := by
      intro a b r
      induction r with
      | refl => exact fun k hk => ⟨k, Nat.le_refl _, hk⟩
      | step e _ ih =>
        intro k hk
        obtain ⟨m, hm⟩ := List.getElem?_of_mem e
        obtain ⟨h1, h2⟩ := pairs_at hm
        have : m = k := by rw [← idx_nodup h h1, ← idx_nodup h hk]
        subst this
        obtain ⟨l, hl, e2⟩ := ih (m + 1) h2
        exact ⟨l, by omega, e2⟩
    obtain ⟨l, hl, e⟩ := key r i hx
    have : l = j := by rw [← idx_nodup h e, ← idx_nodup h hy]
    omega
  · intro hij
    refine rch_up (j - i) hx ?_
    rw [show i + (j - i) = j by omega]
    exact hy
theorem cl_chain' (h : zs.Nodup) {x y : Str} (hx : x ∈ zs) (hy : y ∈ zs) : OM.cl (pairsOf zs) x y = decide (zs.idxOf x ≤ zs.idxOf y) := cl_chain h (ix_of h hx) (ix_of h hy)
theorem mem_drop_ix (h : zs.Nodup) {k : Nat} {y : Str} (hy : y ∈ zs) : y ∈ zs.drop k ↔ k ≤ zs.idxOf y := by
  constructor
  · intro m
    obtain ⟨i, hi⟩ := List.getElem?_of_mem m
    rw [List.getElem?_drop] at hi
    rw [idx_nodup h hi]
    omega
  · intro hk
    refine List.mem_of_getElem? (i := zs.idxOf y - k) ?_
    rw [List.getElem?_drop, show k + (zs.idxOf y - k) = zs.idxOf y by omega]
    exact ix_of h hy
/-- the up-sets of a chain, the small ones first -/
noncomputable def chU (zs : List Str) : List (List Str) := (List.range (zs.length + 1)).map fun i => srt (zs.drop (zs.length - i))
theorem chU_len (i : Nat) (hi : i ≤ zs.length) : (srt (zs.drop (zs.length - i))).length = i := by
  rw [(srt_perm _).length_eq, List.length_drop]
  omega
theorem srt_drop (h : zs.Nodup) (k : Nat) : srt (zs.drop k) = (srt zs).filter fun z => decide (z ∈ zs.drop k) :=
  srt_filter (srt_nodup h) (srt_pw zs) (h.sublist (List.drop_sublist _ _)) fun a => ⟨fun m => ⟨mem_srt.mpr (List.mem_of_mem_drop m), decide_eq_true m⟩, fun m => of_decide_eq_true m.2⟩
theorem ups_chain (h : zs.Nodup) : upsOf (OM.ab (srt zs) (OM.cl (pairsOf zs))) (srt zs) = chU zs := by
  have pwl : (chU zs).Pairwise fun a b => a.length < b.length := by
    unfold chU
    rw [List.pairwise_map]
    refine List.Pairwise.imp_of_mem (R := (· < ·)) (fun {a b} ma mb hab => ?_) List.pairwise_lt_range
    rw [chU_len a (by have := List.mem_range.mp ma; omega), chU_len b (by have := List.mem_range.mp mb; omega)]
    exact hab
  refine (srtU_of (L := chU zs) ?_ ?_).symm
  · have nd : (chU zs).Nodup := pwl.imp fun {a b} hab e => by rw [e] at hab; omega
    refine (List.perm_ext_iff_of_nodup nd ((pw_nd (srt_nodup h)).filter _)).mpr fun ws => ?_
    rw [List.mem_filter, mem_pw, isUp_iff]
    constructor
    · intro hw
      obtain ⟨i, hi, rfl⟩ := List.mem_map.mp (show ws ∈ (List.range (zs.length + 1)).map _ from hw)
      refine ⟨by rw [srt_drop h]; exact List.filter_sublist, fun x hx y hy => ?_⟩
      obtain ⟨y1, y2⟩ := OM.mem_ab.mp hy
      have hx' := mem_srt.mp hx
      have xz := List.mem_of_mem_drop hx'
      have yz := mem_srt.mp y1
      rw [cl_chain' h xz yz, decide_eq_true_eq] at y2
      exact mem_srt.mpr ((mem_drop_ix h yz).mpr (Nat.le_trans ((mem_drop_ix h xz).mp hx') y2))
    · rintro ⟨sub, cl⟩
      have inz : ∀ x ∈ ws, x ∈ zs := fun x hx => mem_srt.mp (sub.subset hx)
      obtain ⟨k, hk, mem⟩ : ∃ k, k ≤ zs.length ∧ ∀ y ∈ zs, y ∈ ws ↔ k ≤ zs.idxOf y := by
        by_cases e : ws = []
        · subst e
          refine ⟨zs.length, Nat.le_refl _, fun y hy => ⟨fun m => (by cases m), fun m => ?_⟩⟩
          have := List.idxOf_lt_length_of_mem hy
          omega
        · obtain ⟨x0, hx0⟩ := List.exists_mem_of_ne_nil _ e
          obtain ⟨m, ⟨x, hx, ex⟩, least⟩ := exists_min (P := fun k => ∃ x, x ∈ ws ∧ zs.idxOf x = k) ⟨x0, hx0, rfl⟩
          have hxz := inz x hx
          refine ⟨m, by have := List.idxOf_lt_length_of_mem hxz; omega, fun y hy => ⟨fun hm => least _ ⟨y, hm, rfl⟩, fun hm => ?_⟩⟩
          refine cl x hx y (OM.mem_ab.mpr ⟨mem_srt.mpr hy, ?_⟩)
          rw [cl_chain' h hxz hy, decide_eq_true_eq]
          omega
      refine List.mem_map.mpr ⟨zs.length - k, List.mem_range.mpr (by omega), ?_⟩
      show srt (zs.drop (zs.length - (zs.length - k))) = ws
      rw [show zs.length - (zs.length - k) = k by omega, srt_drop h, ← sub_filter (srt_nodup h) sub]
      refine List.filter_congr fun y hy => ?_
      exact decide_eq_decide.mpr ((mem_drop_ix h (mem_srt.mp hy)).trans (mem y (mem_srt.mp hy)).symm)
  · refine pwl.imp fun {a b} hab => ?_
    unfold leU
    rw [if_neg (by omega)]
    exact decide_eq_true hab
theorem pairs_nd (h : zs.Nodup) : (pairsOf zs).Nodup := by
  have : ∀ {l : List Str} {r : List Str}, l.Nodup → (l.zip r).Nodup := by
    intro l
    induction l with
    | nil => intro r _; simp
    | cons a l ih =>
      intro r hl
      cases r with
      | nil => simp
      | cons b r =>
        rw [List.zip_cons_cons, List.nodup_cons]
        exact ⟨fun m => (List.nodup_cons.mp hl).1 (List.of_mem_zip m).1, ih (List.nodup_cons.mp hl).2⟩
  exact this h
theorem prs_nd {N : List Str} {R : Str → Str → Bool} (h : N.Nodup) : (OM.prs N R).Nodup := by
  unfold OM.prs
  refine List.pairwise_flatMap.mpr ⟨fun a ha => ?_, ?_⟩
  · exact List.Pairwise.map _ (fun x y hxy e => hxy (congrArg Prod.snd e)) ((h.filter _).filter _)
  · refine h.imp fun {a b} hab p h1 q h2 => ?_
    obtain ⟨_, _, rfl⟩ := List.mem_map.mp h1
    obtain ⟨_, _, rfl⟩ := List.mem_map.mp h2
    exact fun e => hab (congrArg Prod.fst e)
/-- the covers of a chain -/
theorem cvs_chain (h : zs.Nodup) : (OM.cvs (srt zs) (OM.cl (pairsOf zs))).Perm (pairsOf zs) := by
  refine (List.perm_ext_iff_of_nodup ((prs_nd (srt_nodup h)).filter _) (pairs_nd h)).mpr fun ⟨x, y⟩ => ?_
  show (x, y) ∈ OM.cvs _ _ ↔ _
  rw [OM.mem_cvs, mem_srt, mem_srt]
  constructor
  · rintro ⟨⟨hx, hy, r, ne⟩, l2⟩
    rw [cl_chain' h hx hy, decide_eq_true_eq] at r
    have nei : zs.idxOf x ≠ zs.idxOf y := fun e => ne (by
      have := ix_of h hx
      rw [e, ix_of h hy] at this
      exact (Option.some.inj this).symm)
    by_cases s : zs.idxOf x + 1 = zs.idxOf y
    · exact pair_in (ix_of h hx) (by rw [s]; exact ix_of h hy)
    · have lt := List.idxOf_lt_length_of_mem hy
      obtain ⟨z, hz⟩ : ∃ z, zs[zs.idxOf x + 1]? = some z := ⟨zs[zs.idxOf x + 1]'(by omega), by rw [List.getElem?_eq_getElem]⟩
      have zi := idx_nodup h hz
      have zm := List.mem_of_getElem? hz
      have nb : (OM.btw (srt zs) (OM.cl (pairsOf zs)) x y).Nodup := ((srt_nodup h).filter _).filter _
      have bx : x ∈ OM.btw (srt zs) (OM.cl (pairsOf zs)) x y := OM.mem_btw.mpr ⟨mem_srt.mpr hx, OM.cl_refl _ _, by rw [cl_chain' h hx hy, decide_eq_true_eq]; exact r⟩
      have byy : y ∈ OM.btw (srt zs) (OM.cl (pairsOf zs)) x y := OM.mem_btw.mpr ⟨mem_srt.mpr hy, by rw [cl_chain' h hx hy, decide_eq_true_eq]; exact r, OM.cl_refl _ _⟩
      have bz : z ∈ OM.btw (srt zs) (OM.cl (pairsOf zs)) x y := OM.mem_btw.mpr ⟨mem_srt.mpr zm, by rw [cl_chain' h hx zm, decide_eq_true_eq]; omega, by rw [cl_chain' h zm hy, decide_eq_true_eq]; omega⟩
      have c := OM.nodup_two nb bx byy ne
      have zf : z ∈ (OM.btw (srt zs) (OM.cl (pairsOf zs)) x y).filter fun c => !decide (c = x) && !decide (c = y) := List.mem_filter.mpr ⟨bz, by
        have n1 : z ≠ x := fun e => by rw [e] at zi; omega
        have n2 : z ≠ y := fun e => by rw [e] at zi; omega
        simp [n1, n2]⟩
      have := List.length_pos_of_mem zf
      omega
  · intro e
    obtain ⟨i, hi⟩ := List.getElem?_of_mem e
    obtain ⟨h1, h2⟩ := pairs_at hi
    have h1 : zs[i]? = some x := h1
    have h2 : zs[i + 1]? = some y := h2
    have i1 : zs.idxOf x = i := idx_nodup h h1
    have i2 : zs.idxOf y = i + 1 := idx_nodup h h2
    have hx := List.mem_of_getElem? h1
    have hy := List.mem_of_getElem? h2
    have ne : x ≠ y := fun e => by rw [e] at i1; omega
    have r : OM.cl (pairsOf zs) x y = true := by rw [cl_chain' h hx hy, decide_eq_true_eq]; omega
    refine ⟨⟨hx, hy, r, ne⟩, ?_⟩
    have nb : (OM.btw (srt zs) (OM.cl (pairsOf zs)) x y).Nodup := ((srt_nodup h).filter _).filter _
    rw [OM.nodup_two nb (OM.mem_btw.mpr ⟨mem_srt.mpr hx, OM.cl_refl _ _, r⟩) (OM.mem_btw.mpr ⟨mem_srt.mpr hy, r, OM.cl_refl _ _⟩) ne]
    have : (OM.btw (srt zs) (OM.cl (pairsOf zs)) x y).filter (fun c => !decide (c = x) && !decide (c = y)) = [] := by
      rw [List.filter_eq_nil_iff]
      intro c hc hcc
      obtain ⟨c1, c2, c3⟩ := OM.mem_btw.mp hc
      have cz := mem_srt.mp c1
      rw [cl_chain' h hx cz, decide_eq_true_eq] at c2
      rw [cl_chain' h cz hy, decide_eq_true_eq] at c3
      have nn : c ≠ x ∧ c ≠ y := by simpa using hcc
      have ci := ix_of h cz
      have : zs.idxOf c = i ∨ zs.idxOf c = i + 1 := by omega
      rcases this with e2 | e2
      · rw [e2, h1] at ci; exact nn.1 (Option.some.inj ci).symm
      · rw [e2, h2] at ci; exact nn.2 (Option.some.inj ci).symm
    rw [this]
    rfl
/-- turned round, a chain is the chain from behind -/
theorem turn_chain (h : zs.Nodup) : ∀ a ∈ srt zs, ∀ b ∈ srt zs, OM.cl ((OM.prs (srt zs) (OM.cl (pairsOf zs))).map swp) a b = OM.cl (pairsOf zs.reverse) a b := by
  intro a ha b hb
  have az := mem_srt.mp ha
  have bz := mem_srt.mp hb
  rw [cl_sw fun e he => ⟨mem_srt.mpr (pairs_mem he).1, mem_srt.mpr (pairs_mem he).2⟩, cl_chain' h bz az]
  have rev : ∀ {z : Str}, z ∈ zs → zs.reverse[zs.length - 1 - zs.idxOf z]? = some z := fun {z} hz => by
    have lt := List.idxOf_lt_length_of_mem hz
    rw [List.getElem?_reverse (by omega), show zs.length - 1 - (zs.length - 1 - zs.idxOf z) = zs.idxOf z by omega]
    exact ix_of h hz
  rw [cl_chain ((List.reverse_perm zs).nodup_iff.mpr h) (rev az) (rev bz)]
  have l1 := List.idxOf_lt_length_of_mem az
  have l2 := List.idxOf_lt_length_of_mem bz
  exact decide_eq_decide.mpr (by omega)
theorem part_chain (h : zs.Nodup) (k : Nat) : ∀ a ∈ srt (zs.take k), ∀ b ∈ srt (zs.take k), OM.cl ((OM.prs (srt zs) (OM.cl (pairsOf zs))).filter (both (zs.take k))) a b = OM.cl (pairsOf (zs.take k)) a b := by
  intro a ha b hb
  have az := mem_srt.mp ha
  have bz := mem_srt.mp hb
  rw [cl_part (fun z hz => mem_srt.mpr (List.mem_of_mem_take hz)) az bz, cl_chain' h (List.mem_of_mem_take az) (List.mem_of_mem_take bz)]
  have ht : (zs.take k).Nodup := h.sublist (List.take_sublist _ _)
  have ix : ∀ {z : Str}, z ∈ zs.take k → (zs.take k)[zs.idxOf z]? = some z := fun {z} hz => by
    obtain ⟨i, hi⟩ := List.getElem?_of_mem hz
    have lt := (List.getElem?_eq_some_iff.mp hi).1
    rw [List.length_take] at lt
    have h2 := hi
    rw [List.getElem?_take_of_lt (by omega)] at h2
    rw [idx_nodup h h2]
    exact hi
  rw [cl_chain ht (ix az) (ix bz)]
end
open _root_.ZB
def spLaw (K : PySem.W.Frag) (TT : List (Addr × Str)) : Sp := fun vs H Q _ => vs.length = 1 ∧ ∃ (a : Addr) (ns : List Int), vs = [.ref a] ∧ SqL K H a (ns.map V.int) ∧ LamX.Tabs TT H ∧ ∀ H', Q (.bl true) H'
theorem _root_.LamX.Tabs.but {T : List (Addr × Str)} {H H' : Hp} (t : LamX.Tabs T H) (e : ∀ b o, H b = some o → (∀ xs, o ≠ .lst xs) → H' b = some o) : LamX.Tabs T H' := fun p hp => by
  obtain ⟨ps, h1, h2, h3⟩ := t p hp
  refine ⟨ps, e _ _ h1 (fun _ z => by cases z), h2, fun pos cv hc => ?_⟩
  obtain ⟨c, e1, e2⟩ := h3 pos cv hc
  exact ⟨c, e1, e _ _ e2 (fun _ z => by cases z)⟩

structure St (TT : List (Addr × Str)) (p q : Addr) (zs : List Str) (H : Hp) : Prop where
  tabs : LamX.Tabs TT H
  nm : H q = some (.lst (zs.map V.str))
  pool : Pool H p
theorem St.same {TT : List (Addr × Str)} {p q : Addr} {zs : List Str} {H H' : Hp} (h : St TT p q zs H) (s : Same H H') : St TT p q zs H' := ⟨h.tabs.ext s, s _ _ h.nm, h.pool.same s⟩
theorem St.ext {TT : List (Addr × Str)} {p q : Addr} {zs : List Str} {H H' : Hp} (h : St TT p q zs H) (x : LamX.ExtN H H') (t : LamX.Tabs TT H') : St TT p q zs H' := ⟨t, x _ _ h.nm (fun _ z => by cases z), by
  obtain ⟨x1, y, z, e⟩ := h.pool
  exact ⟨x1, y, z, x _ _ e (fun _ z => by cases z)⟩⟩
theorem _root_.ZB.PsAt.mono {H H' : Hp} {bs : List PT} (s : Same H H') (h : PsAt H bs) : PsAt H' bs := fun b hb => s _ _ (h b hb)
theorem pts_of {H : Hp} {ps : List Addr} {E : List (Str × Str)} (h : TPr H ps E) : ∃ bs : List PT, refP bs = ps.map V.ref ∧ PsAt H bs ∧ bs.map (·.2) = E := by
  obtain ⟨hl, ht⟩ := h
  refine ⟨ps.zip E, ?_, fun b hb => ?_, ?_⟩
  · unfold refP
    have : (fun b : PT => V.ref b.1) = V.ref ∘ Prod.fst := rfl
    rw [this, ← List.map_map, List.map_fst_zip (by omega)]
  · obtain ⟨i, hi⟩ := List.getElem?_of_mem hb
    rw [List.getElem?_zip_eq_some] at hi
    exact ht i _ _ hi.1 hi.2
  · exact List.map_snd_zip (by omega)
theorem chU_at {zs : List Str} {i : Nat} (h : i < zs.length + 1) : (chU zs)[i]? = some (srt (zs.drop (zs.length - i))) := by
  unfold chU
  rw [List.getElem?_map, List.getElem?_range h]
  rfl
theorem lay_prs {E : List (Str × Str)} (h : ∀ e ∈ E, PyData.strOk e.1 = true ∧ PyData.strOk e.2 = true) : Lay 2 (.list (E.map fun p => PyData.tuple [.str p.1, .str p.2])) := lay_list fun d hd => by
  obtain ⟨e, he, rfl⟩ := List.mem_map.mp hd
  refine lay_tup fun d hd => ?_
  rcases List.mem_cons.mp hd with rfl | hd
  · exact lay_str (h e he).1
  · rw [List.mem_singleton.mp hd]
    exact lay_str (h e he).2
abbrev s_law : Stmt := top 33
theorem sc_law : FnScope ["_law_script", "_law_pool_here", "_law_row", "_law_turn", "_law_order", "_law_i", "_law_j", "_law_k", "_law_size", "_law_wrong"] ["_law_script"] (defScope s_law) := ⟨rfl, rfl, rfl, by decide +kernel, rfl, by decide +kernel, by decide +kernel⟩
theorem ok_law {P : Program} {w : World} {K : PySem.W.Frag} {mg : Str → Option Value} {base : Heap} {TT : List (Addr × Str)} {CB CD CO CU : Addr} {f : Addr} {fd : FuncData} (F : L2.Fun K "law" "law" s_law f fd)
    (C_b_len : mg "len" = none)
    (C_b_range : mg "range" = none)
    (C_b_sorted : mg "sorted" = none)
    (C_b_tuple : mg "tuple" = none)
    (C_c_Order : ClO K CO)
    (C_f_law_cell : Cal P w K mg base "_law_cell" 1 (spCell K))
    (C_f_law_chain : Cal P w K mg base "_law_chain" 7 (spLChain CO))
    (C_f_law_counted : Cal P w K mg base "_law_counted" 7 spCounted)
    (C_f_law_is_crown : Cal P w K mg base "_law_is_crown" 8 (spIsCr TT))
    (C_f_law_names : Cal P w K mg base "_law_names" 2 spNames)
    (C_f_law_pool : Cal P w K mg base "_law_pool" 1 spPool)
    (C_f_law_refused : Cal P w K mg base "_law_refused" 7 spLRef)
    (C_f_law_take : Cal P w K mg base "_law_take" 1 spTake)
    (C_m_Order_below : CalM P w K mg base CO "below" 4 (spBelow CO CU))
    (C_m_Order_covers : CalM P w K mg base CO "covers" 2 (spCovers CO))
    (C_m_Order_part : CalM P w K mg base CO "part" 6 (spPart K CO CB CD CU))
    (C_m_Order_turned : CalM P w K mg base CO "turned" 6 (spTurned CO))
    (C_m_Order_ups : CalM P w K mg base CO "ups" 4 (spUps K CO TT))
    (C_na_Order__above : NoAttr K CO "_above")
    (C_na_Order_names : NoAttr K CO "names")
    (C_o_Order_eq : CalO P w K mg base CO "__eq__" 1 (spOEq K CO)) :
    FnOk P w K mg base (L2.CX P w) 9 f fd ["_law_script"] (spLaw K TT) := by
  refine fnOk_mk F sc_law (fun vs H Q E h => h.1) (fun cdv A outer s H vs Q E hr h => ?_)
  obtain ⟨_, a, ns, rfl, ha, hT, k⟩ := h
  refine ⟨_, pss_cons (ps_set (i := 1) sc_law.nd rfl (Or.inl rfl) (z_callC C_f_law_pool hr passN (pa_cons (z_callC C_f_law_cell hr passN (pa_cons (pv 0) (pa_cons pe_int pa_nil))) pa_nil)))
    (pss_cons (ps_set (i := 2) sc_law.nd rfl (Or.inr rfl) (z_callC C_f_law_names hr passN (pa_cons (pv 1) (pa_cons (pe_op op_add pe_int (z_callC C_f_law_take hr passN (pa_cons (pv 1) (pa_cons pe_int pa_nil)))) pa_nil))))
    (pss_cons (ps_for (passes_of rfl) rfl (pi_range1 (by rfl) C_b_range (pa_cons pe_int pa_nil)) (pg_name (i := 3) sc_law.nd rfl (Or.inl rfl)) (pss_cons (ps_set (i := 4) sc_law.nd rfl (Or.inl rfl) (z_callC C_f_law_chain hr passN (pa_cons (pv 2) pa_nil)))
    (pss_cons (ps_for (passes_of rfl) rfl (pi_range1 (by rfl) C_b_range (pa_cons (pe_callB (k_len (K := K) rfl) (by rfl) C_b_len (by decide +kernel) (pa_cons (pv 2) pa_nil)) pa_nil)) (pg_name (i := 5) sc_law.nd rfl (Or.inl rfl)) (pss_one (ps_for (passes_of rfl) rfl (pi_range1 (by rfl) C_b_range (pa_cons (pe_callB (k_len (K := K) rfl) (by rfl) C_b_len (by decide +kernel) (pa_cons (pv 2) pa_nil)) pa_nil)) (pg_name (i := 6) sc_law.nd rfl (Or.inl rfl)) (pss_one (ps_if (pt_cmpR op_ne (z_methC (pv 4) C_c_Order.toCls C_m_Order_below hr passN (pa_cons (pe_ix ix_list (pv 2) (pv 5) (fun _ _ => rfl)) (pa_cons (pe_ix ix_list (pv 2) (pv 6) (fun _ _ => rfl)) pa_nil))) (pe_cmpR op_le (pv 5) (pv 6) (nomark _)) (nomark _)) (pss_one (ps_ret pe_bl)) (pss_nil))))))
    (pss_cons (ps_if (pt_cmpR (k_neD (K := K) rfl hr.units) (z_meth0C (pv 4) C_c_Order.toCls C_m_Order_ups hr passN) (pe_lc (own := [("_law_k", 7)]) (by rfl) sc_law.nd (pi_range3 (by rfl) C_b_range (pa_cons (pe_callB (k_len (K := K) rfl) (by rfl) C_b_len (by decide +kernel) (pa_cons (pv 2) pa_nil)) (pa_cons (pe_un un_neg pe_int) (pa_cons (pe_un un_neg pe_int) pa_nil)))) (blkOk_by (N := ["_law_script", "_law_pool_here", "_law_row", "_law_turn", "_law_order", "_law_i", "_law_j", "_law_k", "_law_size", "_law_wrong"]) (sc := defScope s_law) (by decide +kernel)) (fun _ _ _ _ _ => pg_name (i := 7) sc_law.nd rfl (Or.inl rfl)) (fun _ _ _ _ _ => pts_nil) (fun _ _ _ _ _ => pe_callTy (k_tupA (K := K) rfl) (by rfl) C_b_tuple (by decide +kernel) (pa_cons (pe_callB (k_sort (K := K) rfl) (by rfl) C_b_sorted (by decide +kernel) (pa_cons (pe_slice (k_slL (K := K) rfl) (pv 2) (po_some (pv 7)) po_none) pa_nil)) pa_nil))) (nomark _)) (pss_one (ps_ret pe_bl)) (pss_nil))
    (pss_cons (ps_if (pt_cmpR (k_neD (K := K) rfl hr.units) (pe_callB (ZB.cr_sortP (ZB.u5 hr)) (by rfl) C_b_sorted (by decide +kernel) (pa_cons (z_meth0C (pv 4) C_c_Order.toCls C_m_Order_covers hr passN) pa_nil)) (pe_callB (ZB.cr_sortP (ZB.u5 hr)) (by rfl) C_b_sorted (by decide +kernel) (pa_cons (pe_lc (own := [("_law_k", 7)]) (by rfl) sc_law.nd (pi_range1 (by rfl) C_b_range (pa_cons (pe_op op_sub (pe_callB (k_len (K := K) rfl) (by rfl) C_b_len (by decide +kernel) (pa_cons (pv 2) pa_nil)) pe_int) pa_nil)) (blkOk_by (N := ["_law_script", "_law_pool_here", "_law_row", "_law_turn", "_law_order", "_law_i", "_law_j", "_law_k", "_law_size", "_law_wrong"]) (sc := defScope s_law) (by decide +kernel)) (fun _ _ _ _ _ => pg_name (i := 7) sc_law.nd rfl (Or.inl rfl)) (fun _ _ _ _ _ => pts_nil) (fun _ _ _ _ _ => pe_tup (pa_cons (pe_ix (k_ixL (K := K) rfl) (pv 2) (pv 7) (fun _ _ => rfl)) (pa_cons (pe_ix (k_ixL (K := K) rfl) (pv 2) (pe_op op_add (pv 7) pe_int) (fun _ _ => rfl)) pa_nil)))) pa_nil)) (nomark _)) (pss_one (ps_ret pe_bl)) (pss_nil))
    (pss_cons (ps_if (pt_not (pt_cmpR (z_eqO C_o_Order_eq hr) (z_meth0C (pv 4) C_c_Order.toCls C_m_Order_turned hr passN) (z_callC C_f_law_chain hr passN (pa_cons (pe_revL (pv 2)) pa_nil)) (nomark _))) (pss_one (ps_ret pe_bl)) (pss_nil))
    (pss_one (ps_if (pt_not (pt_cmpR (z_eqO C_o_Order_eq hr) (z_methC (pv 4) C_c_Order.toCls C_m_Order_part hr passN (pa_cons (pe_slice sl_list (pv 2) po_none (po_some pe_int)) pa_nil)) (z_callC C_f_law_chain hr passN (pa_cons (pe_slice sl_list (pv 2) po_none (po_some pe_int)) pa_nil)) (nomark _))) (pss_one (ps_ret pe_bl)) (pss_nil)))))))))
    (pss_cons (ps_if (pt_cmpR (k_neD (K := K) rfl hr.units) (pe_lst (pa_cons (z_callC C_f_law_counted hr passN (pa_cons pe_int pa_nil)) (pa_cons (z_callC C_f_law_counted hr passN (pa_cons pe_int pa_nil)) pa_nil))) (pe_lst (pa_cons pe_int (pa_cons pe_int pa_nil))) (nomark _)) (pss_one (ps_ret pe_bl)) (pss_nil))
    (pss_cons (ps_set (i := 8) sc_law.nd rfl (Or.inl rfl) (pe_op op_add pe_int (z_callC C_f_law_take hr passN (pa_cons (pv 1) (pa_cons pe_int pa_nil)))))
    (pss_cons (ps_if (PW.pt (pw_or (pt_not (pt_val (z_callC C_f_law_is_crown hr passN (pa_cons (pv 8) pa_nil)))) (pw_or1 (pt_not (pt_val (z_callC C_f_law_is_crown hr passN (pa_cons pe_int pa_nil))))))) (pss_one (ps_ret pe_bl)) (pss_nil))
    (pss_cons (ps_set (i := 9) sc_law.nd rfl (Or.inl rfl) (pe_lst (pa_cons (z_callC C_f_law_refused hr passN (pa_cons pe_str (pa_cons pe_str pa_nil))) (pa_cons (z_callC C_f_law_refused hr passN (pa_cons pe_str (pa_cons pe_str pa_nil))) (pa_cons (z_callC C_f_law_refused hr passN (pa_cons pe_str (pa_cons pe_str pa_nil))) (pa_cons (z_callC C_f_law_refused hr passN (pa_cons (pe_ix ix_list (pv 2) pe_int (fun _ _ => rfl)) (pa_cons (pe_ix ix_list (pv 2) pe_int (fun _ _ => rfl)) pa_nil))) pa_nil))))))
    (pss_one (ps_ret (pe_cmpR (k_eqD (K := K) rfl hr.units) (pv 9) (pe_lst (pa_cons (pe_lst (pa_cons pe_str (pa_cons pe_str pa_nil))) (pa_cons (pe_lst (pa_cons pe_str (pa_cons pe_str pa_nil))) (pa_cons (pe_lst (pa_cons pe_str (pa_cons pe_str pa_nil))) (pa_cons (pe_lst (pa_cons pe_str (pa_cons (pe_ix ix_list (pv 2) pe_int (fun _ _ => rfl)) pa_nil))) pa_nil))))) (nomark _)))))))))), ?_⟩
  try dsimp only [cxOf]
  walk_at "rd"
  refine i_cell ha fun c0 => ?_
  walk_at "rd"
  refine i_pool fun p H1 hp s1 o1 po1 => ?_
  walk_at "rd"
  refine i_take po1 (by decide) (sz8 (by decide)) fun r H2 r0 r1 o2 po2 => ?_
  walk_at "rd"
  obtain ⟨n, hn⟩ : ∃ n : Nat, 1 + r = (n : Int) := ⟨(1 + r).toNat, by omega⟩
  rw [hn]
  have bt2 : But p H1 H2 := fun x o hx e => by rw [o2 x hx]; exact e
  refine ⟨rfl, p, n, rfl, po2, by omega, fun q H3 zs hq bt3 po3 eq hzn hnd hM => ?_⟩
  have hok : ∀ z ∈ zs, nameB z = true := fun z hz => MENU_ok z (hM z hz)
  have t3 : Same H H3 := (bt2.trans bt3).same hp s1
  have h8 : zs.length ≤ 8 := by omega
  have h1 : 1 ≤ zs.length := by omega
  walk_at "rd"
  have st3 : St TT p q zs H3 := ⟨hT.ext t3, eq, po3⟩
  refine i_forR (n := 2) rfl (by decide) (fun i σ H9 => (∃ x3 x4 x5 x6 x7 x8 x9, σ = [some (.ref a), some (.ref p), some (.ref q), x3, x4, x5, x6, x7, x8, x9]) ∧ St TT p q zs H9) ⟨⟨_, _, _, _, _, _, _, rfl⟩, st3⟩ ?_ ?_
  · rintro t σ H4 lt ⟨⟨x3, x4, x5, x6, x7, x8, x9, rfl⟩, st⟩
    walk_at "rd"
    refine ⟨rfl, q, zs, rfl, st.nm, h1, h8, hok, hnd, fun o H5 ho s5 io => ?_⟩
    have st5 := st.same s5
    walk_at "rd"
    refine i_lenA (SqA.l st5.nm) ?_
    rw [List.length_map]
    walk_at "rd"
    have zat : ∀ {i : Nat} {z : Str}, zs[i]? = some z → (zs.map V.str)[i]? = some (V.str z) := fun h => by rw [List.getElem?_map, h]; rfl
    refine i_forR (n := zs.length) rfl (by omega) (fun i σ H6 => (∃ y5 y6, σ = [some (.ref a), some (.ref p), some (.ref q), some (.int (t : Nat)), some (.ref o), y5, y6, x7, x8, x9]) ∧ Same H5 H6) ⟨⟨_, _, rfl⟩, Same.refl _⟩ ?_ ?_
    · rintro i σ H6 hi ⟨⟨y5, y6, rfl⟩, s6⟩
      walk_at "rd"
      refine i_lenA (SqA.l (s6 _ _ st5.nm)) ?_
      rw [List.length_map]
      walk_at "rd"
      refine i_forR (n := zs.length) rfl (by omega) (fun j σ H7 => (∃ y6, σ = [some (.ref a), some (.ref p), some (.ref q), some (.int (t : Nat)), some (.ref o), some (.int (i : Nat)), y6, x7, x8, x9]) ∧ Same H5 H7) ⟨⟨_, rfl⟩, s6⟩ ?_ ?_
      · rintro j σ H7 hj ⟨⟨y6, rfl⟩, s7⟩
        walk_at "rd"
        have io7 := io.mono s7
        obtain ⟨dx, ti, d, g, _⟩ := id io7.io
        obtain ⟨x, hx⟩ : ∃ x, zs[i]? = some x := ⟨zs[i], by simp [hi]⟩
        obtain ⟨y, hy⟩ : ∃ y, zs[j]? = some y := ⟨zs[j], by simp [hj]⟩
        refine i_meth1 g (ro_no (by decide +kernel) (by decide +kernel)) ?_
        walk_at "rd"
        refine i_ixL (.of (s7 _ _ st5.nm)) (zat hx) ?_
        walk_at "rd"
        refine i_ixL (.of (s7 _ _ st5.nm)) (zat hy) ?_
        walk_at "rd"
        refine ⟨rfl, o, srt zs, _, x, y, rfl, io7.io, fun z hz => (miss_no (mem_srt.mpr (List.mem_of_getElem? hx)) (mem_srt.mpr (List.mem_of_getElem? hy)) hz).elim, fun _ H8 s8 => ?_⟩
        walk_at "rd"
        rw [cl_chain hnd hx hy, show decide (i ≤ j) = decide ((i : Int) ≤ (j : Int)) from decide_eq_decide.mpr (by omega), bne_self_eq_false]
        walk_at "rd"
        exact ⟨⟨_, rfl⟩, s7.trans s8⟩
      · rintro σ H7 ⟨⟨y6, rfl⟩, s7⟩
        exact ⟨⟨_, _, rfl⟩, s7⟩
    rintro σ H6 ⟨⟨y5, y6, rfl⟩, s6⟩
    walk_at "rd"
    have io6 := io.mono s6
    have st6 := st5.same s6
    obtain ⟨dx, ti, d, g, _⟩ := id io6.io
    refine i_meth1 g (ro_no (by decide +kernel) (by decide +kernel)) ?_
    walk_at "rd"
    refine ⟨rfl, o, srt zs, _, rfl, io6, st6.tabs, fun u H7 bs fn x7' T7 eu tb hbs => ?_⟩
    rw [ups_chain hnd] at hbs
    have st7 := st6.ext x7' T7
    have io7 := io6.ext x7'
    walk_at "rd"
    refine i_lenA (SqA.l st7.nm) ?_
    rw [List.length_map]
    walk_at "rd"
    refine i_lcDn (n := zs.length) rfl rfl rfl (by omega) (fun i ys H8 => Same H7 H8 ∧ ∃ cs : List AT, ys = refB cs ∧ TsAt H8 cs ∧ cs.map (·.2) = (chU zs).take i) (fun D H' hD s e ho => ⟨s, [], rfl, fun b hb => (by cases hb), rfl⟩) ?_ ?_
    · rintro i D ys H8 hD hi eD ⟨s8, cs, rfl, tc, hcs⟩ z hz
      walk_at "rd"
      refine ⟨by with_unfolding_all rfl, ?_⟩
      walk_at "rd"
      subst hz
      have jl : zs.length - i ≤ zs.length := by omega
      have cf : cutV (zs.map V.str) (some ((zs.length - i : Nat) : Int)) none = ((zs.drop (zs.length - i)).map V.str) := by
        rw [cut_from _ _ (by rw [List.length_map]; exact jl), List.map_drop]
      refine i_slL (.of (s8 _ _ st7.nm)) cf fun c1 H9 hc1 s9 e9 o9 => ?_
      walk_at "rd"
      refine ⟨c1, zs.drop (zs.length - i), rfl, .inl (.of e9), by rw [List.length_drop]; omega, fun c2 H10 hc2 s10 o10 e10 => ?_⟩
      walk_at "rd"
      refine i_tupL (.of e10) fun c3 H11 hc3 s11 e11 o11 => ?_
      have s811 := (s9.trans s10).trans s11
      refine i_lcE (s811 _ _ eD) ?_ fun H12 e12 o12 => ⟨fun b o eb => ?_, cs ++ [(c3, srt (zs.drop (zs.length - i)))], by rw [refB_app]; rfl, ?_, ?_⟩
      · rw [refB_len, ← List.length_map (f := Prod.snd), hcs, List.length_take]
        omega
      · rw [o12 b (ne_of_none eb hD)]
        exact s811 _ _ (s8 _ _ eb)
      · have kp : ∀ c ys, H11 c = some (.tup ys) → H12 c = some (.tup ys) := fun c ys e => by
          rw [o12 c fun z => by rw [z, s811 _ _ eD] at e; cases e]
          exact e
        exact (tc.mono s811).snoc (b := (c3, srt (zs.drop (zs.length - i)))) kp (kp _ _ e11)
      · rw [List.map_append, hcs, take_snoc (chU_at hi)]
        rfl
    rintro u2 ys H8 hu2 eu2 ⟨s8, cs, rfl, tc, hcs⟩
    walk_at "rd"
    have hcl : cs.map (·.2) = chU zs := by rw [hcs]; exact List.take_of_length_le (by unfold chU; rw [List.length_map, List.length_range]; exact Nat.le_refl _)
    have st8 := st7.same s8
    have io8 := io7.mono s8
    have okz : ∀ z ∈ zs, PyData.strOk z = true := fun z hz => nameB_ok (hok z hz)
    have d1 : Dp K H8 (.ref u) (upD (bs.map (·.2))) := .lst (.of (s8 _ _ eu)) (dp_tups (tb.mono s8))
    have d2 : Dp K H8 (.ref u2) (upD (bs.map (·.2))) := by rw [hbs, ← hcl]; exact .lst (.of eu2) (dp_tups tc)
    refine i_neDR (lay_up fun ws hw z hz => ?_) (by decide) d1 d2 ?_
    · rw [hbs] at hw
      obtain ⟨_, _, rfl⟩ := List.mem_map.mp (show ws ∈ (List.range (zs.length + 1)).map _ from hw)
      exact okz z (List.mem_of_mem_drop (mem_srt.mp hz))
    walk_at "rd"
    obtain ⟨dx8, ti8, d8, g8, _⟩ := id io8.io
    refine i_meth1 g8 (ro_no (by decide +kernel) (by decide +kernel)) ?_
    walk_at "rd"
    refine ⟨rfl, o, srt zs, _, rfl, io8.io, fun c H9 hc s9 hP => ?_⟩
    obtain ⟨ps, es, ht⟩ := hP
    obtain ⟨b1, hb1, pb1, mb1⟩ := pts_of ht
    rw [← hb1] at es
    have pm := cvs_chain hnd
    have lE : (pairsOf zs).length ≤ 8 := by unfold pairsOf; rw [List.length_zip]; omega
    have lb1 : b1.length ≤ 8 := by rw [← List.length_map (f := Prod.snd), mb1, pm.length_eq]; exact lE
    walk_at "rd"
    refine ⟨c, b1, rfl, es, pb1, by omega, fun so1 H10 hso1 s10 eso1 => ?_⟩
    walk_at "rd"
    have s810 := s9.trans s10
    refine i_lenA (SqA.l (s810 _ _ st8.nm)) ?_
    rw [List.length_map]
    walk_at "rd"
    refine i_lcR1 (n := zs.length - 1) (by omega) (by omega) (fun i ys H11 => Same H10 H11 ∧ ∃ cs : List PT, ys = refP cs ∧ PsAt H11 cs ∧ cs.map (·.2) = (pairsOf zs).take i) (fun D H' hD s e ho => ⟨s, [], rfl, fun b hb => (by cases hb), rfl⟩) ?_ ?_
    · rintro i D ys H11 hD hi eD ⟨s11, cs2, rfl, tc2, hcs2⟩
      walk_at "rd"
      refine ⟨by with_unfolding_all rfl, ?_⟩
      walk_at "rd"
      rw [Int.zero_add]
      have nq := s11 _ _ (s810 _ _ st8.nm)
      obtain ⟨x, hx⟩ : ∃ x, zs[i]? = some x := ⟨zs[i]'(by omega), by rw [List.getElem?_eq_getElem]⟩
      obtain ⟨y, hy⟩ : ∃ y, zs[i + 1]? = some y := ⟨zs[i + 1]'(by omega), by rw [List.getElem?_eq_getElem]⟩
      refine i_ixL (.of nq) (zat hx) ?_
      walk_at "rd"
      rw [show ((i : Nat) : Int) + 1 = ((i + 1 : Nat) : Int) from rfl]
      refine i_ixL (.of nq) (zat hy) ?_
      walk_at "rd"
      refine i_tup1 (by show 2 ≤ 100000; decide) fun v H12 hv s12 ev ov => ?_
      have pe : (pairsOf zs)[i]? = some (x, y) := by
        unfold pairsOf
        rw [List.getElem?_zip_eq_some]
        exact ⟨hx, by rw [List.getElem?_tail]; exact hy⟩
      refine i_lcE (s12 _ _ eD) ?_ fun H13 e13 o13 => ⟨fun b o eb => ?_, cs2 ++ [(v, x, y)], by unfold refP; rw [List.map_append]; rfl, ?_, ?_⟩
      · unfold refP
        rw [List.length_map, ← List.length_map (f := Prod.snd), hcs2, List.length_take]
        omega
      · rw [o13 b (ne_of_none eb hD)]
        exact s12 _ _ (s11 _ _ eb)
      · have kp : ∀ c ys, H12 c = some (.tup ys) → H13 c = some (.tup ys) := fun c ys e => by
          rw [o13 c fun z => by rw [z, s12 _ _ eD] at e; cases e]
          exact e
        intro b hb
        rcases List.mem_append.mp hb with hb | hb
        · exact kp _ _ (s12 _ _ (tc2 b hb))
        · rw [List.mem_singleton.mp hb]
          exact kp _ _ ev
      · rw [List.map_append, hcs2, take_snoc pe]
        rfl
    rintro c2 ys H11 hc2 ec2 ⟨s11, cs2, rfl, tc2, hcs2⟩
    walk_at "rd"
    have hc2l : cs2.map (·.2) = pairsOf zs := by
      rw [hcs2]
      refine List.take_of_length_le ?_
      unfold pairsOf
      rw [List.length_zip, List.length_tail]
      omega
    refine ⟨c2, cs2, rfl, ec2, tc2, by rw [← List.length_map (f := Prod.snd), hc2l]; omega, fun so2 H12 hso2 s12 eso2 => ?_⟩
    walk_at "rd"
    have s1012 := s11.trans s12
    have se : (srtP b1).map (·.2) = (srtP cs2).map (·.2) := srtP_eq (by rw [mb1, hc2l]; exact pm)
    have d3 : Dp K H12 (.ref so1) (.list (((srtP b1).map (·.2)).map fun p => PyData.tuple [.str p.1, .str p.2])) := .lst (.of (s1012 _ _ eso1)) (dp_pairs ((pb1.perm.mono s10).mono s1012))
    have d4 : Dp K H12 (.ref so2) (.list (((srtP b1).map (·.2)).map fun p => PyData.tuple [.str p.1, .str p.2])) := by rw [se]; exact .lst (.of eso2) (dp_pairs (tc2.perm.mono s12))
    refine i_neDR (lay_prs fun e he => ?_) (by decide) d3 d4 ?_
    · have m : e ∈ pairsOf zs := by
        rw [← hc2l]
        rw [se] at he
        obtain ⟨b, hb, rfl⟩ := List.mem_map.mp he
        exact List.mem_map.mpr ⟨b, (srtP_perm _).mem_iff.mp hb, rfl⟩
      exact ⟨okz _ (pairs_mem m).1, okz _ (pairs_mem m).2⟩
    walk_at "rd"
    have s812 := s810.trans s1012
    have st12 := st8.same s812
    have io12 := io8.mono s812
    refine i_meth1 (s812 _ _ g8) (ro_no (by decide +kernel) (by decide +kernel)) ?_
    walk_at "rd"
    refine ⟨rfl, o, srt zs, pairsOf zs, rfl, io12, fun tu H13 htu s13 itu => ?_⟩
    walk_at "rd"
    have st13 := st12.same s13
    have io13 := io12.mono s13
    refine i_revL1 (.of st13.nm) fun l3 H14 hl3 s14 e14 o14 => ?_
    walk_at "rd"
    rw [← List.map_reverse] at e14
    have hndr : zs.reverse.Nodup := (List.reverse_perm zs).nodup_iff.mpr hnd
    refine ⟨rfl, l3, zs.reverse, rfl, e14, by rw [List.length_reverse]; omega, by rw [List.length_reverse]; omega, fun z hz => hok z (List.mem_reverse.mp hz), hndr, fun r1 H15 hr1 s15 ir1 => ?_⟩
    have s1315 := s14.trans s15
    have esr : srt zs.reverse = srt zs := by
      refine sort_uniq (((srt_perm _).trans (List.reverse_perm zs)).trans (srt_perm zs).symm) (srt_pw _) (srt_pw _)
    refine i_Oeq (itu.mono s1315).io ir1.io fun H16 s16 => ?_
    rw [esr, decide_eq_true rfl, Bool.true_and, abs_all.mpr (turn_chain hnd)]
    walk_at "rd"
    have s1316 := s1315.trans s16
    have st16 := st13.same s1316
    have io16 := io13.mono s1316
    obtain ⟨dx16, ti16, d16, g16, _⟩ := id io16.io
    refine i_meth1 g16 (ro_no (by decide +kernel) (by decide +kernel)) ?_
    walk_at "rd"
    have ct : cutV (zs.map V.str) none (some 2) = (zs.take 2).map V.str := by
      rw [show (2 : Int) = ((2 : Nat) : Int) from rfl, cut_to, List.map_take]
    refine i_slL (.of st16.nm) ct fun l4 H17 hl4 s17 e17 o17 => ?_
    walk_at "rd"
    have htk : (zs.take 2).Nodup := hnd.sublist (List.take_sublist _ _)
    have ltk : 1 ≤ (zs.take 2).length ∧ (zs.take 2).length ≤ 2 := by rw [List.length_take]; omega
    have intk : ∀ z ∈ zs.take 2, z ∈ zs := fun z hz => List.mem_of_mem_take hz
    have pk := ptF_ok (N := srt zs) (zs.take 2) [] (fun z hz => mem_srt.mpr (intk z hz)) (by simpa using htk)
    have ne : zs.take 2 ≠ [] := fun e => by rw [e] at ltk; exact absurd ltk.1 (by decide)
    refine ⟨rfl, o, l4, srt zs, zs.take 2, pairsOf zs, rfl, io16.mono s17, .l e17, by omega, fun x z hz => (by rw [pk] at hz; cases hz), fun _ => ⟨fun e => absurd e ne, fun _ pt H18 hpt s18 ipt => ?_⟩⟩
    walk_at "rd"
    have st18 := (st16.same s17).same s18
    refine i_slL (.of st18.nm) ct fun l5 H19 hl5 s19 e19 o19 => ?_
    walk_at "rd"
    refine ⟨rfl, l5, zs.take 2, rfl, e19, ltk.1, by omega, fun z hz => hok z (intk z hz), htk, fun r2 H20 hr2 s20 ir2 => ?_⟩
    refine i_Oeq (ipt.mono (s19.trans s20)).io ir2.io fun H21 s21 => ?_
    rw [decide_eq_true rfl, Bool.true_and, abs_all.mpr (part_chain hnd 2)]
    walk_at "rd"
    exact ⟨⟨_, _, _, _, _, _, _, rfl⟩, ((st18.same s19).same s20).same s21⟩
  rintro σ H4 ⟨⟨x3, x4, x5, x6, x7, x8, x9, rfl⟩, st⟩
  walk_at "rd"
  refine ⟨rfl, 0, rfl, fun H5 s5 => ?_⟩
  rw [if_pos rfl]
  walk_at "rd"
  refine ⟨rfl, 1, rfl, fun H6 s6 => ?_⟩
  rw [if_neg (by decide)]
  walk_at "rd"
  refine i_lst1 (Nat.le_of_ble_eq_true rfl) fun c1 H7 hc1 s7 e7 o7 => ?_
  walk_at "rd"
  refine i_lst1 (Nat.le_of_ble_eq_true rfl) fun c2 H8 hc2 s8 e8 o8 => ?_
  refine i_neDR (n := 1) (d := .list [.int 0, .int 9]) (lay_list fun d hd => ?_) (by decide) (.lst (.of (s8 _ _ e7)) (.cons (.int _) (.cons (.int _) .nil))) (.lst (.of e8) (.cons (.int _) (.cons (.int _) .nil))) ?_
  · rcases List.mem_cons.mp hd with rfl | hd
    · exact lay_int _
    · rw [List.mem_singleton.mp hd]; exact lay_int _
  walk_at "rd"
  have st8 := ((st.same s5).same s6).same (s7.trans s8)
  refine i_take st8.pool (by decide) (sz8 (by decide)) fun r2 H9 r0' r1' o9 po9 => ?_
  walk_at "rd"
  have qp : q ≠ p := fun z => by
    obtain ⟨x, y, w, e⟩ := po2
    rw [z, e] at hq
    cases hq
  have T9 : LamX.Tabs TT H9 := st8.tabs.but fun b o e n => by
    by_cases h : b = p
    · subst h
      obtain ⟨x, y, z, e2⟩ := st8.pool
      rw [e2] at e
      cases e
      exact absurd rfl (n _)
    · rw [o9 b h]; exact e
  have nm9 : H9 q = some (.lst (zs.map V.str)) := by rw [o9 q qp]; exact st8.nm
  refine ⟨rfl, _, rfl, ⟨by omega, by omega⟩, T9, fun H10 x10 T10 => ?_⟩
  walk_at "rd"
  refine ⟨rfl, _, rfl, ⟨by decide, by decide⟩, T10, fun H11 x11 T11 => ?_⟩
  walk_at "rd"
  have nm11 : H11 q = some (.lst (zs.map V.str)) := x11 _ _ (x10 _ _ nm9 fun _ z => by cases z) fun _ z => by cases z
  obtain ⟨z0, hz0⟩ : ∃ z, zs[0]? = some z := ⟨zs[0]'(by omega), by rw [List.getElem?_eq_getElem]⟩
  have n0 := hok z0 (List.mem_of_getElem? hz0)
  have l0 := nameB_len n0
  have rbA : RB (Str.ofString "a") := rb_name (by decide +kernel)
  refine ⟨rfl, "a", "a", true, "a", rfl, by decide +kernel, by decide +kernel, by decide +kernel, rbA, fun p1 H12 hp1 s12 e12 => ?_⟩
  walk_at "rd"
  refine ⟨rfl, "X", "X", false, "X", rfl, by decide +kernel, by decide +kernel, by decide +kernel, by unfold RB; decide +kernel, fun p2 H13 hp2 s13 e13 => ?_⟩
  walk_at "rd"
  refine ⟨rfl, "b", "", false, "", rfl, by decide +kernel, by decide +kernel, by decide +kernel, by unfold RB; decide +kernel, fun p3 H14 hp3 s14 e14 => ?_⟩
  walk_at "rd"
  have nm14 := s14 _ _ (s13 _ _ (s12 _ _ nm11))
  have z0at : (zs.map V.str)[0]? = some (V.str z0) := by rw [List.getElem?_map, hz0]; rfl
  refine i_ixN (v := .str z0) (.of nm14) ?_ ?_ ?_
  · decide
  · exact z0at
  walk_at "rd"
  refine i_ixN (v := .str z0) (.of nm14) ?_ ?_ ?_
  · decide
  · exact z0at
  walk_at "rd"
  have nf : nmF [] [z0, z0] = some (true, z0) := by
    rw [nmF_cons, if_neg (by rw [n0]; decide), if_neg (by simp), nmF_cons, if_neg (by rw [n0]; decide), if_pos (by simp)]
  refine ⟨rfl, z0, z0, true, z0, rfl, by omega, by omega, nf, rb_name n0, fun p4 H15 hp4 s15 e15 => ?_⟩
  walk_at "rd"
  refine i_lst1 (Nat.le_of_ble_eq_true rfl) fun w1 H16 hw1 s16 e16 o16 => ?_
  walk_at "rd"
  refine i_lst1 (Nat.le_of_ble_eq_true rfl) fun v1 H17 hv1 s17 e17 o17 => ?_
  walk_at "rd"
  refine i_lst1 (Nat.le_of_ble_eq_true rfl) fun v2 H18 hv2 s18 e18 o18 => ?_
  walk_at "rd"
  refine i_lst1 (Nat.le_of_ble_eq_true rfl) fun v3 H19 hv3 s19 e19 o19 => ?_
  walk_at "rd"
  have s1419 := ((((s15.trans s16).trans s17).trans s18).trans s19)
  refine i_ixN (v := .str z0) (.of (s1419 _ _ nm14)) ?_ ?_ ?_
  · decide
  · exact z0at
  walk_at "rd"
  refine i_lst1 (Nat.le_of_ble_eq_true rfl) fun v4 H20 hv4 s20 e20 o20 => ?_
  walk_at "rd"
  refine i_lst1 (Nat.le_of_ble_eq_true rfl) fun w2 H21 hw2 s21 e21 o21 => ?_
  have t21 : Same H16 H21 := (((s17.trans s18).trans s19).trans s20).trans s21
  have f1 : H21 p1 = some (.lst [.str "twice", .str "a"]) := t21 _ _ (s16 _ _ (s15 _ _ (s14 _ _ (s13 _ _ e12))))
  have f2 : H21 p2 = some (.lst [.str "name", .str "X"]) := t21 _ _ (s16 _ _ (s15 _ _ (s14 _ _ e13)))
  have f3 : H21 p3 = some (.lst [.str "name", .str ""]) := t21 _ _ (s16 _ _ (s15 _ _ e14))
  have f4 : H21 p4 = some (.lst [.str "twice", .str z0]) := t21 _ _ (s16 _ _ e15)
  have g1 := s21 _ _ (s20 _ _ (s19 _ _ (s18 _ _ e17)))
  have g2 := s21 _ _ (s20 _ _ (s19 _ _ e18))
  have g3 := s21 _ _ (s20 _ _ e19)
  have g4 := s21 _ _ e20
  have pr : ∀ {c : Addr} {x y : Str}, H21 c = some (.lst [.str x, .str y]) → Dp K H21 (.ref c) (.list [.str x, .str y]) := fun e => .lst (.of e) (.cons (.str _) (.cons (.str _) .nil))
  have lp : ∀ {x y : Str}, PyData.strOk x = true → PyData.strOk y = true → Lay 1 (.list [.str x, .str y]) := fun hx hy => lay_list fun d hd => by
    rcases List.mem_cons.mp hd with rfl | hd
    · exact lay_str hx
    · rw [List.mem_singleton.mp hd]; exact lay_str hy
  refine i_eqDR (n := 2) (d := .list [.list [.str "twice", .str "a"], .list [.str "name", .str "X"], .list [.str "name", .str ""], .list [.str "twice", .str z0]]) (lay_list fun d hd => ?_) (by decide) (.lst (.of (t21 _ _ e16)) (.cons (pr f1) (.cons (pr f2) (.cons (pr f3) (.cons (pr f4) .nil))))) (.lst (.of e21) (.cons (pr g1) (.cons (pr g2) (.cons (pr g3) (.cons (pr g4) .nil))))) ?_
  · simp only [List.mem_cons, List.not_mem_nil, or_false] at hd
    rcases hd with rfl | rfl | rfl | rfl
    · exact lp (by decide +kernel) (by decide +kernel)
    · exact lp (by decide +kernel) (by decide +kernel)
    · exact lp (by decide +kernel) (by decide +kernel)
    · exact lp (by decide +kernel) (nameB_ok n0)
  exact k _
theorem mk_law {K : PySem.W.Frag} {H : Hp} {a p : Addr} {q : Str} {ns : List Int} (hS : SqL K H a (ns.map V.int)) (hl : ns.length ≤ 63) (hT : H p = some (.tbl #[])) : spLaw K [(p, q)] [.ref a] H (fun v _ => v = .bl true) fun _ _ _ => False := ⟨rfl, a, ns, rfl, hS, _root_.ZB.tabs_one hT, fun _ => rfl⟩
theorem all_mk {P : Program} {w : World} {K : PySem.W.Frag} {h : Heap} {mg : Str → Option Value} {fa : Addr} (X : K.In h) (G : h.Ns mainGlobals mg) (hfa : mg "law" = some (.ref fa))
    {CO : Addr}
    {CB : Addr}
    {CN : Addr}
    {CD : Addr}
    {CU : Addr}
    {CG : Addr}
    {CT : Addr}
    {nm_BadNumber : Str}
    {q_BadNumber : Str}
    {N_BadNumber : Addr}
    {bs_BadNumber : List Value}
    {sn_BadNumber : List Str}
    {sub_BadNumber : List Value}
    {ab_BadNumber : Bool}
    {col_BadNumber : Option Bool}
    {dd_BadNumber : Option Addr}
    {m0_BadNumber : Option Value}
    {m1_BadNumber : Option Value}
    {m2_BadNumber : Option Value}
    {m3_BadNumber : Option Value}
    {m5_BadNumber : Option Value}
    {nm_BadName : Str}
    {q_BadName : Str}
    {N_BadName : Addr}
    {bs_BadName : List Value}
    {sn_BadName : List Str}
    {sub_BadName : List Value}
    {ab_BadName : Bool}
    {col_BadName : Option Bool}
    {dd_BadName : Option Addr}
    {m0_BadName : Option Value}
    {m1_BadName : Option Value}
    {m2_BadName : Option Value}
    {m3_BadName : Option Value}
    {m5_BadName : Option Value}
    {nm_DuplicateName : Str}
    {q_DuplicateName : Str}
    {N_DuplicateName : Addr}
    {bs_DuplicateName : List Value}
    {sn_DuplicateName : List Str}
    {sub_DuplicateName : List Value}
    {ab_DuplicateName : Bool}
    {col_DuplicateName : Option Bool}
    {dd_DuplicateName : Option Addr}
    {m0_DuplicateName : Option Value}
    {m1_DuplicateName : Option Value}
    {m2_DuplicateName : Option Value}
    {m3_DuplicateName : Option Value}
    {m5_DuplicateName : Option Value}
    {nm_UnknownName : Str}
    {q_UnknownName : Str}
    {N_UnknownName : Addr}
    {bs_UnknownName : List Value}
    {sn_UnknownName : List Str}
    {sub_UnknownName : List Value}
    {ab_UnknownName : Bool}
    {col_UnknownName : Option Bool}
    {dd_UnknownName : Option Addr}
    {m0_UnknownName : Option Value}
    {m1_UnknownName : Option Value}
    {m2_UnknownName : Option Value}
    {m3_UnknownName : Option Value}
    {m5_UnknownName : Option Value}
    {nm_Ring : Str}
    {q_Ring : Str}
    {N_Ring : Addr}
    {bs_Ring : List Value}
    {sn_Ring : List Str}
    {sub_Ring : List Value}
    {ab_Ring : Bool}
    {col_Ring : Option Bool}
    {dd_Ring : Option Addr}
    {m0_Ring : Option Value}
    {m1_Ring : Option Value}
    {m2_Ring : Option Value}
    {m3_Ring : Option Value}
    {m5_Ring : Option Value}
    {f0 : Addr} {od0 an0 : Option Addr} {sl0 : Array (Option Value)} {oc0 kV0 dc0 pm0 cd0 ct0 : Value}
    {f1 : Addr} {od1 an1 : Option Addr} {sl1 : Array (Option Value)} {oc1 kV1 dc1 pm1 cd1 ct1 : Value}
    {f2 : Addr} {od2 an2 : Option Addr} {sl2 : Array (Option Value)} {oc2 kV2 dc2 pm2 cd2 ct2 : Value}
    {f3 : Addr} {od3 an3 : Option Addr} {sl3 : Array (Option Value)} {oc3 kV3 dc3 pm3 cd3 ct3 : Value}
    {f4 : Addr} {od4 an4 : Option Addr} {sl4 : Array (Option Value)} {oc4 kV4 dc4 pm4 cd4 ct4 : Value}
    {f5 : Addr} {od5 an5 : Option Addr} {sl5 : Array (Option Value)} {oc5 kV5 dc5 pm5 cd5 ct5 : Value}
    {f6 : Addr} {od6 an6 : Option Addr} {sl6 : Array (Option Value)} {oc6 kV6 dc6 pm6 cd6 ct6 : Value}
    {f7 : Addr} {od7 an7 : Option Addr} {sl7 : Array (Option Value)} {oc7 kV7 dc7 pm7 cd7 ct7 : Value}
    {f8 : Addr} {od8 an8 : Option Addr} {sl8 : Array (Option Value)} {oc8 kV8 dc8 pm8 cd8 ct8 : Value}
    {f9 : Addr} {od9 an9 : Option Addr} {sl9 : Array (Option Value)} {oc9 kV9 dc9 pm9 cd9 ct9 : Value}
    {f10 : Addr} {od10 an10 : Option Addr} {sl10 : Array (Option Value)} {oc10 kV10 dc10 pm10 cd10 ct10 : Value}
    {f11 : Addr} {od11 an11 : Option Addr} {sl11 : Array (Option Value)} {oc11 kV11 dc11 pm11 cd11 ct11 : Value}
    {f12 : Addr} {od12 an12 : Option Addr} {sl12 : Array (Option Value)} {oc12 kV12 dc12 pm12 cd12 ct12 : Value}
    {f13 : Addr} {od13 an13 : Option Addr} {sl13 : Array (Option Value)} {oc13 kV13 dc13 pm13 cd13 ct13 : Value}
    {f14 : Addr} {od14 an14 : Option Addr} {sl14 : Array (Option Value)} {oc14 kV14 dc14 pm14 cd14 ct14 : Value}
    {f15 : Addr} {od15 an15 : Option Addr} {sl15 : Array (Option Value)} {oc15 kV15 dc15 pm15 cd15 ct15 : Value}
    {f16 : Addr} {od16 an16 : Option Addr} {sl16 : Array (Option Value)} {oc16 kV16 dc16 pm16 cd16 ct16 : Value}
    {f17 : Addr} {od17 an17 : Option Addr} {sl17 : Array (Option Value)} {oc17 kV17 dc17 pm17 ct17 : Value}
    {c_Order_ups p_Order_ups : Addr}
    {f18 : Addr} {od18 an18 : Option Addr} {sl18 : Array (Option Value)} {oc18 kV18 dc18 pm18 cd18 ct18 : Value}
    {f19 : Addr} {od19 an19 : Option Addr} {sl19 : Array (Option Value)} {oc19 kV19 dc19 pm19 cd19 ct19 : Value}
    {f20 : Addr} {od20 an20 : Option Addr} {sl20 : Array (Option Value)} {oc20 kV20 dc20 pm20 cd20 ct20 : Value}
    {f21 : Addr} {od21 an21 : Option Addr} {sl21 : Array (Option Value)} {oc21 kV21 dc21 pm21 cd21 ct21 : Value}
    {f22 : Addr} {od22 an22 : Option Addr} {sl22 : Array (Option Value)} {oc22 kV22 dc22 pm22 cd22 ct22 : Value}
    {f23 : Addr} {od23 an23 : Option Addr} {sl23 : Array (Option Value)} {oc23 kV23 dc23 pm23 cd23 ct23 : Value}
    {f24 : Addr} {od24 an24 : Option Addr} {sl24 : Array (Option Value)} {oc24 kV24 dc24 pm24 cd24 ct24 : Value}
    {f25 : Addr} {od25 an25 : Option Addr} {sl25 : Array (Option Value)} {oc25 kV25 dc25 pm25 cd25 ct25 : Value}
    {f26 : Addr} {od26 an26 : Option Addr} {sl26 : Array (Option Value)} {oc26 kV26 dc26 pm26 cd26 ct26 : Value}
    {f27 : Addr} {od27 an27 : Option Addr} {sl27 : Array (Option Value)} {oc27 kV27 dc27 pm27 cd27 ct27 : Value}
    {p27 : Addr} {rs27 : List Value}
    {f28 : Addr} {od28 an28 : Option Addr} {sl28 : Array (Option Value)} {oc28 kV28 dc28 pm28 cd28 ct28 : Value}
    {p28 : Addr} {rs28 : List Value}
    {f29 : Addr} {od29 an29 : Option Addr} {sl29 : Array (Option Value)} {oc29 kV29 dc29 pm29 cd29 ct29 : Value}
    {f30 : Addr} {od30 an30 : Option Addr} {sl30 : Array (Option Value)} {oc30 kV30 dc30 pm30 cd30 ct30 : Value}
    {f31 : Addr} {od31 an31 : Option Addr} {sl31 : Array (Option Value)} {oc31 kV31 dc31 pm31 cd31 ct31 : Value}
    {f32 : Addr} {od32 an32 : Option Addr} {sl32 : Array (Option Value)} {oc32 kV32 dc32 pm32 cd32 ct32 : Value}
    {f33 : Addr} {od33 an33 : Option Addr} {sl33 : Array (Option Value)} {oc33 kV33 dc33 pm33 cd33 ct33 : Value}
    {tk_DIGITS : Tok}
    {tk_LETTERS : Tok}
    {tk_MOST_NAMES : Tok}
    {tk_MOST_SIGNS : Tok}
    (aC_Order : PySem.W.nsIn K mainGlobals "Order" = some (some (.ref CO)))
    (aC_BadNumber : PySem.W.nsIn K mainGlobals "BadNumber" = some (some (.ref CB)))
    (aC_BadName : PySem.W.nsIn K mainGlobals "BadName" = some (some (.ref CN)))
    (aC_DuplicateName : PySem.W.nsIn K mainGlobals "DuplicateName" = some (some (.ref CD)))
    (aC_UnknownName : PySem.W.nsIn K mainGlobals "UnknownName" = some (some (.ref CU)))
    (aC_Ring : PySem.W.nsIn K mainGlobals "Ring" = some (some (.ref CG)))
    (aC_ThrowError : PySem.W.nsIn K mainGlobals "ThrowError" = some (some (.ref CT)))
    (pg_Order : PySem.W.plainGet K CO Str.empty = true)
    (hd_Order : PySem.W.hasDictIn K CO = true)
    (po_Order : PySem.W.plainOver K CO = true)
    (sa_Order : PySem.W.findIn K (.ref CO) "__setattr__" = some (some (.builtin "object.__setattr__")))
    (ha_Order : PySem.W.findIn K (.ref CO) "__class__" = some (some (.builtin "object.__class__")))
    (hm_Order : PySem.W.mroIn K CO (.type "object") = some true)
    (mk_Order : PySem.W.makesIn K CO = true)
    (kc_Order : PySem.W.keepIn K (.ref CO) = true)
    (sf_Order : PySem.W.selfFirst K CO = true)
    (iC_Order : PySem.W.isClsIn K CO = true)
    (tC_Order : PySem.W.typeIn K (.ref CO) = some (.type "type"))
    (hn : PySem.W.specialIn K (.builtin "object.__class__") "__get__" = some (some (.builtin "getset_descriptor.__get__")))
    (htk : PySem.W.takesIn K (.builtin "object.__class__") = some true)
    (xL_BadNumber : K.lookup CB = some (excClassObj nm_BadNumber q_BadNumber CB N_BadNumber bs_BadNumber [.ref CT, .type "ValueError", .type "Exception", .type "BaseException", .type "object"] true sn_BadNumber sub_BadNumber ab_BadNumber col_BadNumber dd_BadNumber m0_BadNumber m1_BadNumber m2_BadNumber m3_BadNumber m5_BadNumber "ValueError.__new__"))
    (sa_BadNumber : PySem.W.findIn K (.ref CB) "__setattr__" = some (some (.builtin "object.__setattr__")))
    (ga_BadNumber : PySem.W.findIn K (.ref CB) "__getattribute__" = some (some (.builtin "BaseException.__getattribute__")))
    (gg_BadNumber : PySem.W.findIn K (.ref CB) "__getattr__" = some none)
    (kC_BadNumber : PySem.W.keepIn K (.ref CB) = true)
    (eC_BadNumber : PySem.W.subIn K (.ref CB) (.type "BaseException") = some true)
    (tC_BadNumber : PySem.W.typeIn K (.ref CB) = some (.type "type"))
    (hC_BadNumber : PySem.W.hasDictIn K CB = true)
    (iC_BadNumber : PySem.W.isClsIn K CB = true)
    (sC_BadNumber : PySem.W.subIn K (.ref CB) (.ref CB) = some true)
    (xL_BadName : K.lookup CN = some (excClassObj nm_BadName q_BadName CN N_BadName bs_BadName [.ref CT, .type "ValueError", .type "Exception", .type "BaseException", .type "object"] true sn_BadName sub_BadName ab_BadName col_BadName dd_BadName m0_BadName m1_BadName m2_BadName m3_BadName m5_BadName "ValueError.__new__"))
    (sa_BadName : PySem.W.findIn K (.ref CN) "__setattr__" = some (some (.builtin "object.__setattr__")))
    (ga_BadName : PySem.W.findIn K (.ref CN) "__getattribute__" = some (some (.builtin "BaseException.__getattribute__")))
    (gg_BadName : PySem.W.findIn K (.ref CN) "__getattr__" = some none)
    (kC_BadName : PySem.W.keepIn K (.ref CN) = true)
    (eC_BadName : PySem.W.subIn K (.ref CN) (.type "BaseException") = some true)
    (tC_BadName : PySem.W.typeIn K (.ref CN) = some (.type "type"))
    (hC_BadName : PySem.W.hasDictIn K CN = true)
    (iC_BadName : PySem.W.isClsIn K CN = true)
    (sC_BadName : PySem.W.subIn K (.ref CN) (.ref CN) = some true)
    (xL_DuplicateName : K.lookup CD = some (excClassObj nm_DuplicateName q_DuplicateName CD N_DuplicateName bs_DuplicateName [.ref CT, .type "ValueError", .type "Exception", .type "BaseException", .type "object"] true sn_DuplicateName sub_DuplicateName ab_DuplicateName col_DuplicateName dd_DuplicateName m0_DuplicateName m1_DuplicateName m2_DuplicateName m3_DuplicateName m5_DuplicateName "ValueError.__new__"))
    (sa_DuplicateName : PySem.W.findIn K (.ref CD) "__setattr__" = some (some (.builtin "object.__setattr__")))
    (ga_DuplicateName : PySem.W.findIn K (.ref CD) "__getattribute__" = some (some (.builtin "BaseException.__getattribute__")))
    (gg_DuplicateName : PySem.W.findIn K (.ref CD) "__getattr__" = some none)
    (kC_DuplicateName : PySem.W.keepIn K (.ref CD) = true)
    (eC_DuplicateName : PySem.W.subIn K (.ref CD) (.type "BaseException") = some true)
    (tC_DuplicateName : PySem.W.typeIn K (.ref CD) = some (.type "type"))
    (hC_DuplicateName : PySem.W.hasDictIn K CD = true)
    (iC_DuplicateName : PySem.W.isClsIn K CD = true)
    (sC_DuplicateName : PySem.W.subIn K (.ref CD) (.ref CD) = some true)
    (xL_UnknownName : K.lookup CU = some (excClassObj nm_UnknownName q_UnknownName CU N_UnknownName bs_UnknownName [.ref CT, .type "ValueError", .type "Exception", .type "BaseException", .type "object"] true sn_UnknownName sub_UnknownName ab_UnknownName col_UnknownName dd_UnknownName m0_UnknownName m1_UnknownName m2_UnknownName m3_UnknownName m5_UnknownName "ValueError.__new__"))
    (sa_UnknownName : PySem.W.findIn K (.ref CU) "__setattr__" = some (some (.builtin "object.__setattr__")))
    (ga_UnknownName : PySem.W.findIn K (.ref CU) "__getattribute__" = some (some (.builtin "BaseException.__getattribute__")))
    (gg_UnknownName : PySem.W.findIn K (.ref CU) "__getattr__" = some none)
    (kC_UnknownName : PySem.W.keepIn K (.ref CU) = true)
    (eC_UnknownName : PySem.W.subIn K (.ref CU) (.type "BaseException") = some true)
    (tC_UnknownName : PySem.W.typeIn K (.ref CU) = some (.type "type"))
    (hC_UnknownName : PySem.W.hasDictIn K CU = true)
    (iC_UnknownName : PySem.W.isClsIn K CU = true)
    (sC_UnknownName : PySem.W.subIn K (.ref CU) (.ref CU) = some true)
    (xL_Ring : K.lookup CG = some (excClassObj nm_Ring q_Ring CG N_Ring bs_Ring [.ref CT, .type "ValueError", .type "Exception", .type "BaseException", .type "object"] true sn_Ring sub_Ring ab_Ring col_Ring dd_Ring m0_Ring m1_Ring m2_Ring m3_Ring m5_Ring "ValueError.__new__"))
    (sa_Ring : PySem.W.findIn K (.ref CG) "__setattr__" = some (some (.builtin "object.__setattr__")))
    (ga_Ring : PySem.W.findIn K (.ref CG) "__getattribute__" = some (some (.builtin "BaseException.__getattribute__")))
    (gg_Ring : PySem.W.findIn K (.ref CG) "__getattr__" = some none)
    (kC_Ring : PySem.W.keepIn K (.ref CG) = true)
    (eC_Ring : PySem.W.subIn K (.ref CG) (.type "BaseException") = some true)
    (tC_Ring : PySem.W.typeIn K (.ref CG) = some (.type "type"))
    (hC_Ring : PySem.W.hasDictIn K CG = true)
    (iC_Ring : PySem.W.isClsIn K CG = true)
    (sC_Ring : PySem.W.subIn K (.ref CG) (.ref CG) = some true)
    (rd_Order : PySem.W.readsIn K CO (.type "type") = true)
    (rg_Order : PySem.W.specialIn K (.ref CO) "__getattribute__" = some (some (.builtin "type.__getattribute__")))
    (rd_ThrowError : PySem.W.readsIn K CT (.type "type") = true)
    (rg_ThrowError : PySem.W.specialIn K (.ref CT) "__getattribute__" = some (some (.builtin "type.__getattribute__")))
    (rv_ThrowError : PySem.W.findCls K (.ref CT) (.type "type") "__init__" = some (.val (.builtin "ValueError.__init__")))
    (a0 : PySem.W.nsIn K mainGlobals "_shown" = some (some (.ref f0)))
    (l0 : K.lookup f0 = some ⟨oc0, od0, .func (PySem.W.fnOf "_shown" "_shown" (defArgs s__shown) (defBody s__shown) (defScope s__shown) .none kV0 dc0 pm0 an0 cd0 ct0), sl0⟩)
    (c0 : PySem.W.codeIn K cd0 "_shown" = true)
    (k0 : PySem.W.keepIn K (.ref f0) = true)
    (a1 : PySem.W.findIn K (.ref CB) "__init__" = some (some (.ref f1)))
    (t1 : PySem.W.typeIn K (.ref f1) = some (.type "function"))
    (l1 : K.lookup f1 = some ⟨oc1, od1, .func (PySem.W.fnOf "__init__" "BadNumber.__init__" (defArgs s_BadNumber___init__) (defBody s_BadNumber___init__) (defScope s_BadNumber___init__) .none kV1 dc1 pm1 an1 cd1 ct1), sl1⟩)
    (c1 : PySem.W.codeIn K cd1 "BadNumber.__init__" = true)
    (k1 : PySem.W.keepIn K (.ref f1) = true)
    (a2 : PySem.W.findIn K (.ref CN) "__init__" = some (some (.ref f2)))
    (t2 : PySem.W.typeIn K (.ref f2) = some (.type "function"))
    (l2 : K.lookup f2 = some ⟨oc2, od2, .func (PySem.W.fnOf "__init__" "BadName.__init__" (defArgs s_BadName___init__) (defBody s_BadName___init__) (defScope s_BadName___init__) .none kV2 dc2 pm2 an2 cd2 ct2), sl2⟩)
    (c2 : PySem.W.codeIn K cd2 "BadName.__init__" = true)
    (k2 : PySem.W.keepIn K (.ref f2) = true)
    (a3 : PySem.W.findIn K (.ref CD) "__init__" = some (some (.ref f3)))
    (t3 : PySem.W.typeIn K (.ref f3) = some (.type "function"))
    (l3 : K.lookup f3 = some ⟨oc3, od3, .func (PySem.W.fnOf "__init__" "DuplicateName.__init__" (defArgs s_DuplicateName___init__) (defBody s_DuplicateName___init__) (defScope s_DuplicateName___init__) .none kV3 dc3 pm3 an3 cd3 ct3), sl3⟩)
    (c3 : PySem.W.codeIn K cd3 "DuplicateName.__init__" = true)
    (k3 : PySem.W.keepIn K (.ref f3) = true)
    (a4 : PySem.W.findIn K (.ref CU) "__init__" = some (some (.ref f4)))
    (t4 : PySem.W.typeIn K (.ref f4) = some (.type "function"))
    (l4 : K.lookup f4 = some ⟨oc4, od4, .func (PySem.W.fnOf "__init__" "UnknownName.__init__" (defArgs s_UnknownName___init__) (defBody s_UnknownName___init__) (defScope s_UnknownName___init__) .none kV4 dc4 pm4 an4 cd4 ct4), sl4⟩)
    (c4 : PySem.W.codeIn K cd4 "UnknownName.__init__" = true)
    (k4 : PySem.W.keepIn K (.ref f4) = true)
    (a5 : PySem.W.findIn K (.ref CG) "__init__" = some (some (.ref f5)))
    (t5 : PySem.W.typeIn K (.ref f5) = some (.type "function"))
    (l5 : K.lookup f5 = some ⟨oc5, od5, .func (PySem.W.fnOf "__init__" "Ring.__init__" (defArgs s_Ring___init__) (defBody s_Ring___init__) (defScope s_Ring___init__) .none kV5 dc5 pm5 an5 cd5 ct5), sl5⟩)
    (c5 : PySem.W.codeIn K cd5 "Ring.__init__" = true)
    (k5 : PySem.W.keepIn K (.ref f5) = true)
    (a6 : PySem.W.nsIn K mainGlobals "is_name" = some (some (.ref f6)))
    (l6 : K.lookup f6 = some ⟨oc6, od6, .func (PySem.W.fnOf "is_name" "is_name" (defArgs s_is_name) (defBody s_is_name) (defScope s_is_name) .none kV6 dc6 pm6 an6 cd6 ct6), sl6⟩)
    (c6 : PySem.W.codeIn K cd6 "is_name" = true)
    (k6 : PySem.W.keepIn K (.ref f6) = true)
    (a7 : PySem.W.nsIn K mainGlobals "check_names" = some (some (.ref f7)))
    (l7 : K.lookup f7 = some ⟨oc7, od7, .func (PySem.W.fnOf "check_names" "check_names" (defArgs s_check_names) (defBody s_check_names) (defScope s_check_names) .none kV7 dc7 pm7 an7 cd7 ct7), sl7⟩)
    (c7 : PySem.W.codeIn K cd7 "check_names" = true)
    (k7 : PySem.W.keepIn K (.ref f7) = true)
    (a8 : PySem.W.nsIn K mainGlobals "check_among" = some (some (.ref f8)))
    (l8 : K.lookup f8 = some ⟨oc8, od8, .func (PySem.W.fnOf "check_among" "check_among" (defArgs s_check_among) (defBody s_check_among) (defScope s_check_among) .none kV8 dc8 pm8 an8 cd8 ct8), sl8⟩)
    (c8 : PySem.W.codeIn K cd8 "check_among" = true)
    (k8 : PySem.W.keepIn K (.ref f8) = true)
    (a9 : PySem.W.nsIn K mainGlobals "_closure" = some (some (.ref f9)))
    (l9 : K.lookup f9 = some ⟨oc9, od9, .func (PySem.W.fnOf "_closure" "_closure" (defArgs s__closure) (defBody s__closure) (defScope s__closure) .none kV9 dc9 pm9 an9 cd9 ct9), sl9⟩)
    (c9 : PySem.W.codeIn K cd9 "_closure" = true)
    (k9 : PySem.W.keepIn K (.ref f9) = true)
    (a10 : PySem.W.findIn K (.ref CO) "pairs" = some (some (.ref f10)))
    (i10 : PySem.W.isFn K (.ref f10) = true)
    (l10 : K.lookup f10 = some ⟨oc10, od10, .func (PySem.W.fnOf "pairs" "Order.pairs" (defArgs s_Order_pairs) (defBody s_Order_pairs) (defScope s_Order_pairs) .none kV10 dc10 pm10 an10 cd10 ct10), sl10⟩)
    (c10 : PySem.W.codeIn K cd10 "Order.pairs" = true)
    (k10 : PySem.W.keepIn K (.ref f10) = true)
    (a11 : PySem.W.findIn K (.ref CO) "__init__" = some (some (.ref f11)))
    (i11 : PySem.W.isFn K (.ref f11) = true)
    (l11 : K.lookup f11 = some ⟨oc11, od11, .func (PySem.W.fnOf "__init__" "Order.__init__" (defArgs s_Order___init__) (defBody s_Order___init__) (defScope s_Order___init__) .none kV11 dc11 pm11 an11 cd11 ct11), sl11⟩)
    (c11 : PySem.W.codeIn K cd11 "Order.__init__" = true)
    (k11 : PySem.W.keepIn K (.ref f11) = true)
    (a12 : PySem.W.findIn K (.ref CO) "__len__" = some (some (.ref f12)))
    (i12 : PySem.W.isFn K (.ref f12) = true)
    (l12 : K.lookup f12 = some ⟨oc12, od12, .func (PySem.W.fnOf "__len__" "Order.__len__" (defArgs s_Order___len__) (defBody s_Order___len__) (defScope s_Order___len__) .none kV12 dc12 pm12 an12 cd12 ct12), sl12⟩)
    (c12 : PySem.W.codeIn K cd12 "Order.__len__" = true)
    (k12 : PySem.W.keepIn K (.ref f12) = true)
    (a13 : PySem.W.findIn K (.ref CO) "__iter__" = some (some (.ref f13)))
    (i13 : PySem.W.isFn K (.ref f13) = true)
    (l13 : K.lookup f13 = some ⟨oc13, od13, .func (PySem.W.fnOf "__iter__" "Order.__iter__" (defArgs s_Order___iter__) (defBody s_Order___iter__) (defScope s_Order___iter__) .none kV13 dc13 pm13 an13 cd13 ct13), sl13⟩)
    (c13 : PySem.W.codeIn K cd13 "Order.__iter__" = true)
    (k13 : PySem.W.keepIn K (.ref f13) = true)
    (a14 : PySem.W.findIn K (.ref CO) "turned" = some (some (.ref f14)))
    (i14 : PySem.W.isFn K (.ref f14) = true)
    (l14 : K.lookup f14 = some ⟨oc14, od14, .func (PySem.W.fnOf "turned" "Order.turned" (defArgs s_Order_turned) (defBody s_Order_turned) (defScope s_Order_turned) .none kV14 dc14 pm14 an14 cd14 ct14), sl14⟩)
    (c14 : PySem.W.codeIn K cd14 "Order.turned" = true)
    (k14 : PySem.W.keepIn K (.ref f14) = true)
    (a15 : PySem.W.findIn K (.ref CO) "_is_ready" = some (some (.ref f15)))
    (i15 : PySem.W.isFn K (.ref f15) = true)
    (l15 : K.lookup f15 = some ⟨oc15, od15, .func (PySem.W.fnOf "_is_ready" "Order._is_ready" (defArgs s_Order__is_ready) (defBody s_Order__is_ready) (defScope s_Order__is_ready) .none kV15 dc15 pm15 an15 cd15 ct15), sl15⟩)
    (c15 : PySem.W.codeIn K cd15 "Order._is_ready" = true)
    (k15 : PySem.W.keepIn K (.ref f15) = true)
    (a16 : PySem.W.findIn K (.ref CO) "part" = some (some (.ref f16)))
    (i16 : PySem.W.isFn K (.ref f16) = true)
    (l16 : K.lookup f16 = some ⟨oc16, od16, .func (PySem.W.fnOf "part" "Order.part" (defArgs s_Order_part) (defBody s_Order_part) (defScope s_Order_part) .none kV16 dc16 pm16 an16 cd16 ct16), sl16⟩)
    (c16 : PySem.W.codeIn K cd16 "Order.part" = true)
    (k16 : PySem.W.keepIn K (.ref f16) = true)
    (a17 : PySem.W.findIn K (.ref CO) "ups" = some (some (.ref f17)))
    (i17 : PySem.W.isFn K (.ref f17) = true)
    (l17 : K.lookup f17 = some ⟨oc17, od17, .func (PySem.W.fnOf "ups" "Order.ups" (defArgs s_Order_ups) (defBody s_Order_ups) (defScope s_Order_ups) .none kV17 dc17 pm17 an17 (.ref c_Order_ups) ct17), sl17⟩)
    (c17 : PySem.W.codeIn K (.ref c_Order_ups) "Order.ups" = true)
    (k17 : PySem.W.keepIn K (.ref f17) = true)
    (a18 : PySem.W.findIn K (.ref CO) "below" = some (some (.ref f18)))
    (i18 : PySem.W.isFn K (.ref f18) = true)
    (l18 : K.lookup f18 = some ⟨oc18, od18, .func (PySem.W.fnOf "below" "Order.below" (defArgs s_Order_below) (defBody s_Order_below) (defScope s_Order_below) .none kV18 dc18 pm18 an18 cd18 ct18), sl18⟩)
    (c18 : PySem.W.codeIn K cd18 "Order.below" = true)
    (k18 : PySem.W.keepIn K (.ref f18) = true)
    (a19 : PySem.W.findIn K (.ref CO) "__contains__" = some (some (.ref f19)))
    (i19 : PySem.W.isFn K (.ref f19) = true)
    (l19 : K.lookup f19 = some ⟨oc19, od19, .func (PySem.W.fnOf "__contains__" "Order.__contains__" (defArgs s_Order___contains__) (defBody s_Order___contains__) (defScope s_Order___contains__) .none kV19 dc19 pm19 an19 cd19 ct19), sl19⟩)
    (c19 : PySem.W.codeIn K cd19 "Order.__contains__" = true)
    (k19 : PySem.W.keepIn K (.ref f19) = true)
    (a20 : PySem.W.findIn K (.ref CO) "__eq__" = some (some (.ref f20)))
    (i20 : PySem.W.isFn K (.ref f20) = true)
    (l20 : K.lookup f20 = some ⟨oc20, od20, .func (PySem.W.fnOf "__eq__" "Order.__eq__" (defArgs s_Order___eq__) (defBody s_Order___eq__) (defScope s_Order___eq__) .none kV20 dc20 pm20 an20 cd20 ct20), sl20⟩)
    (c20 : PySem.W.codeIn K cd20 "Order.__eq__" = true)
    (k20 : PySem.W.keepIn K (.ref f20) = true)
    (a21 : PySem.W.nsIn K mainGlobals "_law_pool" = some (some (.ref f21)))
    (l21 : K.lookup f21 = some ⟨oc21, od21, .func (PySem.W.fnOf "_law_pool" "_law_pool" (defArgs s__law_pool) (defBody s__law_pool) (defScope s__law_pool) .none kV21 dc21 pm21 an21 cd21 ct21), sl21⟩)
    (c21 : PySem.W.codeIn K cd21 "_law_pool" = true)
    (k21 : PySem.W.keepIn K (.ref f21) = true)
    (a22 : PySem.W.nsIn K mainGlobals "_law_take" = some (some (.ref f22)))
    (l22 : K.lookup f22 = some ⟨oc22, od22, .func (PySem.W.fnOf "_law_take" "_law_take" (defArgs s__law_take) (defBody s__law_take) (defScope s__law_take) .none kV22 dc22 pm22 an22 cd22 ct22), sl22⟩)
    (c22 : PySem.W.codeIn K cd22 "_law_take" = true)
    (k22 : PySem.W.keepIn K (.ref f22) = true)
    (a23 : PySem.W.nsIn K mainGlobals "_law_cell" = some (some (.ref f23)))
    (l23 : K.lookup f23 = some ⟨oc23, od23, .func (PySem.W.fnOf "_law_cell" "_law_cell" (defArgs s__law_cell) (defBody s__law_cell) (defScope s__law_cell) .none kV23 dc23 pm23 an23 cd23 ct23), sl23⟩)
    (c23 : PySem.W.codeIn K cd23 "_law_cell" = true)
    (k23 : PySem.W.keepIn K (.ref f23) = true)
    (a24 : PySem.W.nsIn K mainGlobals "_law_names" = some (some (.ref f24)))
    (l24 : K.lookup f24 = some ⟨oc24, od24, .func (PySem.W.fnOf "_law_names" "_law_names" (defArgs s__law_names) (defBody s__law_names) (defScope s__law_names) .none kV24 dc24 pm24 an24 cd24 ct24), sl24⟩)
    (c24 : PySem.W.codeIn K cd24 "_law_names" = true)
    (k24 : PySem.W.keepIn K (.ref f24) = true)
    (a25 : PySem.W.findIn K (.ref CO) "covers" = some (some (.ref f25)))
    (i25 : PySem.W.isFn K (.ref f25) = true)
    (l25 : K.lookup f25 = some ⟨oc25, od25, .func (PySem.W.fnOf "covers" "Order.covers" (defArgs s_Order_covers) (defBody s_Order_covers) (defScope s_Order_covers) .none kV25 dc25 pm25 an25 cd25 ct25), sl25⟩)
    (c25 : PySem.W.codeIn K cd25 "Order.covers" = true)
    (k25 : PySem.W.keepIn K (.ref f25) = true)
    (a26 : PySem.W.findIn K (.ref CO) "_between" = some (some (.ref f26)))
    (i26 : PySem.W.isFn K (.ref f26) = true)
    (l26 : K.lookup f26 = some ⟨oc26, od26, .func (PySem.W.fnOf "_between" "Order._between" (defArgs s_Order__between) (defBody s_Order__between) (defScope s_Order__between) .none kV26 dc26 pm26 an26 cd26 ct26), sl26⟩)
    (c26 : PySem.W.codeIn K cd26 "Order._between" = true)
    (k26 : PySem.W.keepIn K (.ref f26) = true)
    (a27 : PySem.W.findCls K (.ref CO) (.type "type") "chain" = some (.get (.builtin "classmethod.__get__") (.ref p27) .none (.ref CO)))
    (r27 : PySem.W.recIn K p27 "classmethod" = some (.ref f27 :: rs27))
    (i27 : PySem.W.fnIn K f27 = true)
    (l27 : K.lookup f27 = some ⟨oc27, od27, .func (PySem.W.fnOf "chain" "Order.chain" (defArgs s_Order_chain) (defBody s_Order_chain) (defScope s_Order_chain) .none kV27 dc27 pm27 an27 cd27 ct27), sl27⟩)
    (c27 : PySem.W.codeIn K cd27 "Order.chain" = true)
    (k27 : PySem.W.keepIn K (.ref f27) = true)
    (a28 : PySem.W.findCls K (.ref CO) (.type "type") "crown" = some (.get (.builtin "classmethod.__get__") (.ref p28) .none (.ref CO)))
    (r28 : PySem.W.recIn K p28 "classmethod" = some (.ref f28 :: rs28))
    (i28 : PySem.W.fnIn K f28 = true)
    (l28 : K.lookup f28 = some ⟨oc28, od28, .func (PySem.W.fnOf "crown" "Order.crown" (defArgs s_Order_crown) (defBody s_Order_crown) (defScope s_Order_crown) .none kV28 dc28 pm28 an28 cd28 ct28), sl28⟩)
    (c28 : PySem.W.codeIn K cd28 "Order.crown" = true)
    (k28 : PySem.W.keepIn K (.ref f28) = true)
    (a29 : PySem.W.nsIn K mainGlobals "_law_chain" = some (some (.ref f29)))
    (l29 : K.lookup f29 = some ⟨oc29, od29, .func (PySem.W.fnOf "_law_chain" "_law_chain" (defArgs s__law_chain) (defBody s__law_chain) (defScope s__law_chain) .none kV29 dc29 pm29 an29 cd29 ct29), sl29⟩)
    (c29 : PySem.W.codeIn K cd29 "_law_chain" = true)
    (k29 : PySem.W.keepIn K (.ref f29) = true)
    (a30 : PySem.W.nsIn K mainGlobals "_law_counted" = some (some (.ref f30)))
    (l30 : K.lookup f30 = some ⟨oc30, od30, .func (PySem.W.fnOf "_law_counted" "_law_counted" (defArgs s__law_counted) (defBody s__law_counted) (defScope s__law_counted) .none kV30 dc30 pm30 an30 cd30 ct30), sl30⟩)
    (c30 : PySem.W.codeIn K cd30 "_law_counted" = true)
    (k30 : PySem.W.keepIn K (.ref f30) = true)
    (a31 : PySem.W.nsIn K mainGlobals "_law_refused" = some (some (.ref f31)))
    (l31 : K.lookup f31 = some ⟨oc31, od31, .func (PySem.W.fnOf "_law_refused" "_law_refused" (defArgs s__law_refused) (defBody s__law_refused) (defScope s__law_refused) .none kV31 dc31 pm31 an31 cd31 ct31), sl31⟩)
    (c31 : PySem.W.codeIn K cd31 "_law_refused" = true)
    (k31 : PySem.W.keepIn K (.ref f31) = true)
    (a32 : PySem.W.nsIn K mainGlobals "_law_is_crown" = some (some (.ref f32)))
    (l32 : K.lookup f32 = some ⟨oc32, od32, .func (PySem.W.fnOf "_law_is_crown" "_law_is_crown" (defArgs s__law_is_crown) (defBody s__law_is_crown) (defScope s__law_is_crown) .none kV32 dc32 pm32 an32 cd32 ct32), sl32⟩)
    (c32 : PySem.W.codeIn K cd32 "_law_is_crown" = true)
    (k32 : PySem.W.keepIn K (.ref f32) = true)
    (a33 : PySem.W.nsIn K mainGlobals "law" = some (some (.ref f33)))
    (l33 : K.lookup f33 = some ⟨oc33, od33, .func (PySem.W.fnOf "law" "law" (defArgs s_law) (defBody s_law) (defScope s_law) .none kV33 dc33 pm33 an33 cd33 ct33), sl33⟩)
    (c33 : PySem.W.codeIn K cd33 "law" = true)
    (k33 : PySem.W.keepIn K (.ref f33) = true)
    (z_all : PySem.W.nsIn K mainGlobals "all" = some none)
    (z_any : PySem.W.nsIn K mainGlobals "any" = some none)
    (z_enumerate : PySem.W.nsIn K mainGlobals "enumerate" = some none)
    (z_int : PySem.W.nsIn K mainGlobals "int" = some none)
    (z_isinstance : PySem.W.nsIn K mainGlobals "isinstance" = some none)
    (z_iter : PySem.W.nsIn K mainGlobals "iter" = some none)
    (z_len : PySem.W.nsIn K mainGlobals "len" = some none)
    (z_list : PySem.W.nsIn K mainGlobals "list" = some none)
    (z_range : PySem.W.nsIn K mainGlobals "range" = some none)
    (z_sorted : PySem.W.nsIn K mainGlobals "sorted" = some none)
    (z_str : PySem.W.nsIn K mainGlobals "str" = some none)
    (z_tuple : PySem.W.nsIn K mainGlobals "tuple" = some none)
    (z_zip : PySem.W.nsIn K mainGlobals "zip" = some none)
    (g_DIGITS : PySem.W.nsIn K mainGlobals "DIGITS" = some (some (.str "0123456789" tk_DIGITS)))
    (g_LETTERS : PySem.W.nsIn K mainGlobals "LETTERS" = some (some (.str "abcdefghijklmnopqrstuvwxyz" tk_LETTERS)))
    (g_MOST_NAMES : PySem.W.nsIn K mainGlobals "MOST_NAMES" = some (some (.int 8 tk_MOST_NAMES)))
    (g_MOST_SIGNS : PySem.W.nsIn K mainGlobals "MOST_SIGNS" = some (some (.int 8 tk_MOST_SIGNS)))
    (w_na_Order__above : PySem.W.findIn K (.ref CO) "_above" = some none)
    (w_na_Order_names : PySem.W.findIn K (.ref CO) "names" = some none)
    (w_xm_DuplicateName_BadName : PySem.W.subIn K (.ref CD) (.ref CN) = some false)
    (w_xn_BadName_name : PySem.W.findIn K (.ref CN) "name" = some none)
    (w_xn_BadNumber_n : PySem.W.findIn K (.ref CB) "n" = some none)
    (w_xn_DuplicateName_name : PySem.W.findIn K (.ref CD) "name" = some none)
    (w_xn_Ring_names : PySem.W.findIn K (.ref CG) "names" = some none)
    (w_xn_UnknownName_name : PySem.W.findIn K (.ref CU) "name" = some none)
    : ∃ fd : FuncData, (∀ (s : Shared) (v : Value), BindsTo s fd ⟨[v], []⟩ [("_law_script", v)]) ∧ ∀ base : Heap, K.In base → base.Ns mainGlobals mg → (∀ p ∈ [(c_Order_ups, p_Order_ups)], LamX.TabB base mg p.1 p.2) → FnOk P w K mg base (L2.CX P w) 9 fa fd ["_law_script"] (spLaw K [(p_Order_ups, ZB.LQ "Order.ups")]) := by
  have e := hfa.symm.trans (PySem.W.mg_of X G a33)
  cases e
  have F0 := fun_mk (st := s__shown) l0 c0 k0
  have b0 := F0.binds (ps := ["n"]) fun _ _ _ _ _ _ us hl => match us, hl with | [_], _ => rfl
  have F1 := fun_mk (st := s_BadNumber___init__) l1 c1 k1
  have b1 := F1.binds (ps := ["self", "n"]) fun _ _ _ _ _ _ us hl => match us, hl with | [_, _], _ => rfl
  have F2 := fun_mk (st := s_BadName___init__) l2 c2 k2
  have b2 := F2.binds (ps := ["self", "name"]) fun _ _ _ _ _ _ us hl => match us, hl with | [_, _], _ => rfl
  have F3 := fun_mk (st := s_DuplicateName___init__) l3 c3 k3
  have b3 := F3.binds (ps := ["self", "name"]) fun _ _ _ _ _ _ us hl => match us, hl with | [_, _], _ => rfl
  have F4 := fun_mk (st := s_UnknownName___init__) l4 c4 k4
  have b4 := F4.binds (ps := ["self", "name"]) fun _ _ _ _ _ _ us hl => match us, hl with | [_, _], _ => rfl
  have F5 := fun_mk (st := s_Ring___init__) l5 c5 k5
  have b5 := F5.binds (ps := ["self", "names"]) fun _ _ _ _ _ _ us hl => match us, hl with | [_, _], _ => rfl
  have F6 := fun_mk (st := s_is_name) l6 c6 k6
  have b6 := F6.binds (ps := ["text"]) fun _ _ _ _ _ _ us hl => match us, hl with | [_], _ => rfl
  have F7 := fun_mk (st := s_check_names) l7 c7 k7
  have b7 := F7.binds (ps := ["names"]) fun _ _ _ _ _ _ us hl => match us, hl with | [_], _ => rfl
  have F8 := fun_mk (st := s_check_among) l8 c8 k8
  have b8 := F8.binds (ps := ["known", "names"]) fun _ _ _ _ _ _ us hl => match us, hl with | [_, _], _ => rfl
  have F9 := fun_mk (st := s__closure) l9 c9 k9
  have b9 := F9.binds (ps := ["names", "pairs"]) fun _ _ _ _ _ _ us hl => match us, hl with | [_, _], _ => rfl
  have F10 := fun_mk (st := s_Order_pairs) l10 c10 k10
  have b10 := F10.binds (ps := ["self"]) fun _ _ _ _ _ _ us hl => match us, hl with | [_], _ => rfl
  have F11 := fun_mk (st := s_Order___init__) l11 c11 k11
  have b11 := F11.binds (ps := ["self", "names", "pairs"]) fun _ _ _ _ _ _ us hl => match us, hl with | [_, _, _], _ => rfl
  have F12 := fun_mk (st := s_Order___len__) l12 c12 k12
  have b12 := F12.binds (ps := ["self"]) fun _ _ _ _ _ _ us hl => match us, hl with | [_], _ => rfl
  have F13 := fun_mk (st := s_Order___iter__) l13 c13 k13
  have b13 := F13.binds (ps := ["self"]) fun _ _ _ _ _ _ us hl => match us, hl with | [_], _ => rfl
  have F14 := fun_mk (st := s_Order_turned) l14 c14 k14
  have b14 := F14.binds (ps := ["self"]) fun _ _ _ _ _ _ us hl => match us, hl with | [_], _ => rfl
  have F15 := fun_mk (st := s_Order__is_ready) l15 c15 k15
  have b15 := F15.binds (ps := ["self", "name", "names"]) fun _ _ _ _ _ _ us hl => match us, hl with | [_, _, _], _ => rfl
  have F16 := fun_mk (st := s_Order_part) l16 c16 k16
  have b16 := F16.binds (ps := ["self", "names"]) fun _ _ _ _ _ _ us hl => match us, hl with | [_, _], _ => rfl
  have F17 := ZB.funC_mk (st := s_Order_ups) l17 c17 k17
  have b17 := F17.fn.binds (ps := ["self"]) fun _ _ _ _ _ _ us hl => match us, hl with | [_], _ => rfl
  have F18 := fun_mk (st := s_Order_below) l18 c18 k18
  have b18 := F18.binds (ps := ["self", "low", "high"]) fun _ _ _ _ _ _ us hl => match us, hl with | [_, _, _], _ => rfl
  have F19 := fun_mk (st := s_Order___contains__) l19 c19 k19
  have b19 := F19.binds (ps := ["self", "name"]) fun _ _ _ _ _ _ us hl => match us, hl with | [_, _], _ => rfl
  have F20 := fun_mk (st := s_Order___eq__) l20 c20 k20
  have b20 := F20.binds (ps := ["self", "other"]) fun _ _ _ _ _ _ us hl => match us, hl with | [_, _], _ => rfl
  have F21 := fun_mk (st := s__law_pool) l21 c21 k21
  have b21 := F21.binds (ps := ["_law_cell_here"]) fun _ _ _ _ _ _ us hl => match us, hl with | [_], _ => rfl
  have F22 := fun_mk (st := s__law_take) l22 c22 k22
  have b22 := F22.binds (ps := ["_law_pool_here", "_law_limit"]) fun _ _ _ _ _ _ us hl => match us, hl with | [_, _], _ => rfl
  have F23 := fun_mk (st := s__law_cell) l23 c23 k23
  have b23 := F23.binds (ps := ["_law_script", "_law_k"]) fun _ _ _ _ _ _ us hl => match us, hl with | [_, _], _ => rfl
  have F24 := fun_mk (st := s__law_names) l24 c24 k24
  have b24 := F24.binds (ps := ["_law_pool_here", "_law_many"]) fun _ _ _ _ _ _ us hl => match us, hl with | [_, _], _ => rfl
  have F25 := fun_mk (st := s_Order_covers) l25 c25 k25
  have b25 := F25.binds (ps := ["self"]) fun _ _ _ _ _ _ us hl => match us, hl with | [_], _ => rfl
  have F26 := fun_mk (st := s_Order__between) l26 c26 k26
  have b26 := F26.binds (ps := ["self", "low", "high"]) fun _ _ _ _ _ _ us hl => match us, hl with | [_, _, _], _ => rfl
  have F27 := fun_mk (st := s_Order_chain) l27 c27 k27
  have F28 := fun_mk (st := s_Order_crown) l28 c28 k28
  have b28 := F28.binds (ps := ["cls", "size"]) fun _ _ _ _ _ _ us hl => match us, hl with | [_, _], _ => rfl
  have F29 := fun_mk (st := s__law_chain) l29 c29 k29
  have b29 := F29.binds (ps := ["_law_row"]) fun _ _ _ _ _ _ us hl => match us, hl with | [_], _ => rfl
  have F30 := fun_mk (st := s__law_counted) l30 c30 k30
  have b30 := F30.binds (ps := ["_law_which"]) fun _ _ _ _ _ _ us hl => match us, hl with | [_], _ => rfl
  have F31 := fun_mk (st := s__law_refused) l31 c31 k31
  have b31 := F31.binds (ps := ["_law_first", "_law_second"]) fun _ _ _ _ _ _ us hl => match us, hl with | [_, _], _ => rfl
  have F32 := fun_mk (st := s__law_is_crown) l32 c32 k32
  have b32 := F32.binds (ps := ["_law_size"]) fun _ _ _ _ _ _ us hl => match us, hl with | [_], _ => rfl
  have F33 := fun_mk (st := s_law) l33 c33 k33
  refine ⟨PySem.W.fnOf "law" "law" (defArgs s_law) (defBody s_law) (defScope s_law) .none kV33 dc33 pm33 an33 cd33 ct33, fun s v => .of_eq rfl, fun base _ _ hTB => ?_⟩
  have C_b_all := PySem.W.mg_none_of X G z_all
  have C_b_any := PySem.W.mg_none_of X G z_any
  have C_b_enumerate := PySem.W.mg_none_of X G z_enumerate
  have C_b_int := PySem.W.mg_none_of X G z_int
  have C_b_isinstance := PySem.W.mg_none_of X G z_isinstance
  have C_b_iter := PySem.W.mg_none_of X G z_iter
  have C_b_len := PySem.W.mg_none_of X G z_len
  have C_b_list := PySem.W.mg_none_of X G z_list
  have C_b_range := PySem.W.mg_none_of X G z_range
  have C_b_sorted := PySem.W.mg_none_of X G z_sorted
  have C_b_str := PySem.W.mg_none_of X G z_str
  have C_b_tuple := PySem.W.mg_none_of X G z_tuple
  have C_b_zip := PySem.W.mg_none_of X G z_zip
  have C_c_Order : ClO K CO := ⟨⟨pg_Order, hd_Order, po_Order, sa_Order⟩, ha_Order, hn, htk, hm_Order⟩
  have C_gBadName := PySem.W.mg_of X G aC_BadName
  have C_gBadNumber := PySem.W.mg_of X G aC_BadNumber
  have C_gDuplicateName := PySem.W.mg_of X G aC_DuplicateName
  have C_gOrder := PySem.W.mg_of X G aC_Order
  have C_ki_Order_Order : PySem.W.kitOne K (.ref CO) (.ref CO) = some true := kit_self
  have C_n_DIGITS := PySem.W.mg_of X G g_DIGITS
  have C_n_LETTERS := PySem.W.mg_of X G g_LETTERS
  have C_n_MOST_NAMES := PySem.W.mg_of X G g_MOST_NAMES
  have C_n_MOST_SIGNS := PySem.W.mg_of X G g_MOST_SIGNS
  have C_na_Order__above : NoAttr K CO "_above" := w_na_Order__above
  have C_na_Order_names : NoAttr K CO "names" := w_na_Order_names
  have C_ox_BadName : OexC K CN := ⟨⟨_, _, _, _, _, _, _, _, _, _, _, _, _, _, _, xL_BadName, refs_ve _⟩, sa_BadName, eC_BadName, tC_BadName, kC_BadName⟩
  have C_ox_BadNumber : OexC K CB := ⟨⟨_, _, _, _, _, _, _, _, _, _, _, _, _, _, _, xL_BadNumber, refs_ve _⟩, sa_BadNumber, eC_BadNumber, tC_BadNumber, kC_BadNumber⟩
  have C_ox_DuplicateName : OexC K CD := ⟨⟨_, _, _, _, _, _, _, _, _, _, _, _, _, _, _, xL_DuplicateName, refs_ve _⟩, sa_DuplicateName, eC_DuplicateName, tC_DuplicateName, kC_DuplicateName⟩
  have C_ox_Ring : OexC K CG := ⟨⟨_, _, _, _, _, _, _, _, _, _, _, _, _, _, _, xL_Ring, refs_ve _⟩, sa_Ring, eC_Ring, tC_Ring, kC_Ring⟩
  have C_ox_UnknownName : OexC K CU := ⟨⟨_, _, _, _, _, _, _, _, _, _, _, _, _, _, _, xL_UnknownName, refs_ve _⟩, sa_UnknownName, eC_UnknownName, tC_UnknownName, kC_UnknownName⟩
  have C_t_ThrowError : CalT K mg "ThrowError" := mk_calT X G aC_ThrowError ⟨rd_ThrowError, rg_ThrowError⟩ rv_ThrowError
  have C_tb_Order_ups : LamX.TabB base mg c_Order_ups p_Order_ups := hTB (c_Order_ups, p_Order_ups) (by simp)
  have C_tm_Order_ups : ZB.TabM [(p_Order_ups, ZB.LQ "Order.ups")] p_Order_ups (ZB.LQ "Order.ups") := ZB.tabM_one
  have C_xf_BadName : XfC K CN := ⟨ga_BadName, gg_BadName, eC_BadName, hC_BadName⟩
  have C_xf_BadNumber : XfC K CB := ⟨ga_BadNumber, gg_BadNumber, eC_BadNumber, hC_BadNumber⟩
  have C_xf_DuplicateName : XfC K CD := ⟨ga_DuplicateName, gg_DuplicateName, eC_DuplicateName, hC_DuplicateName⟩
  have C_xf_Ring : XfC K CG := ⟨ga_Ring, gg_Ring, eC_Ring, hC_Ring⟩
  have C_xm_BadName : PySem.W.exmOne K (.ref CN) (.ref CN) = some true := exm_in eC_BadName iC_BadName tC_BadName sC_BadName
  have C_xm_BadNumber : PySem.W.exmOne K (.ref CB) (.ref CB) = some true := exm_in eC_BadNumber iC_BadNumber tC_BadNumber sC_BadNumber
  have C_xm_DuplicateName : PySem.W.exmOne K (.ref CD) (.ref CD) = some true := exm_in eC_DuplicateName iC_DuplicateName tC_DuplicateName sC_DuplicateName
  have C_xm_DuplicateName_BadName : PySem.W.exmOne K (.ref CD) (.ref CN) = some false := exm_in eC_BadName iC_BadName tC_BadName w_xm_DuplicateName_BadName
  have C_xn_BadName_name : PySem.W.findIn K (.ref CN) "name" = some none := w_xn_BadName_name
  have C_xn_BadNumber_n : PySem.W.findIn K (.ref CB) "n" = some none := w_xn_BadNumber_n
  have C_xn_DuplicateName_name : PySem.W.findIn K (.ref CD) "name" = some none := w_xn_DuplicateName_name
  have C_xn_Ring_names : PySem.W.findIn K (.ref CG) "names" = some none := w_xn_Ring_names
  have C_xn_UnknownName_name : PySem.W.findIn K (.ref CU) "name" = some none := w_xn_UnknownName_name
  have G__shown : FnOk P w K mg base (L2.CX P w) 1 f0 _ _ spShown := ok__shown F0 C_b_int C_b_isinstance C_b_str
  have C_f_shown : Cal P w K mg base "_shown" 1 spShown := mk_cal X G a0 k0 G__shown b0
  have G_BadName___init__ : FnOk P w K mg base (L2.CX P w) 1 f2 _ _ (spX1 K CN "name" GStr) := ok_BadName___init__ F2 C_ox_BadName C_t_ThrowError C_xn_BadName_name
  have C_x_BadName : CalX P w K mg base "BadName" CN 1 ["self", "name"] (spX1 K CN "name" GStr) := mk_calX X G aC_BadName C_ox_BadName a2 t2 G_BadName___init__ b2
  have G_DuplicateName___init__ : FnOk P w K mg base (L2.CX P w) 1 f3 _ _ (spX1 K CD "name" GStr) := ok_DuplicateName___init__ F3 C_ox_DuplicateName C_t_ThrowError C_xn_DuplicateName_name
  have C_x_DuplicateName : CalX P w K mg base "DuplicateName" CD 1 ["self", "name"] (spX1 K CD "name" GStr) := mk_calX X G aC_DuplicateName C_ox_DuplicateName a3 t3 G_DuplicateName___init__ b3
  have G_UnknownName___init__ : FnOk P w K mg base (L2.CX P w) 1 f4 _ _ (spX1 K CU "name" GStr) := ok_UnknownName___init__ F4 C_ox_UnknownName C_t_ThrowError C_xn_UnknownName_name
  have C_x_UnknownName : CalX P w K mg base "UnknownName" CU 1 ["self", "name"] (spX1 K CU "name" GStr) := mk_calX X G aC_UnknownName C_ox_UnknownName a4 t4 G_UnknownName___init__ b4
  have G_Ring___init__ : FnOk P w K mg base (L2.CX P w) 1 f5 _ _ (spXR K CG) := ok_Ring___init__ F5 C_b_list C_ox_Ring C_t_ThrowError C_xf_Ring C_xn_Ring_names
  have C_x_Ring : CalX P w K mg base "Ring" CG 1 ["self", "names"] (spXR K CG) := mk_calX X G aC_Ring C_ox_Ring a5 t5 G_Ring___init__ b5
  have G_is_name : FnOk P w K mg base (L2.CX P w) 1 f6 _ _ spIsName := ok_is_name F6 C_b_all C_b_len C_n_DIGITS C_n_LETTERS C_n_MOST_SIGNS
  have C_f_is_name : Cal P w K mg base "is_name" 1 spIsName := mk_cal X G a6 k6 G_is_name b6
  have G__closure : FnOk P w K mg base (L2.CX P w) 1 f9 _ _ (spClosure K) := ok__closure F9 C_b_sorted C_b_tuple
  have C_f_closure : Cal P w K mg base "_closure" 1 (spClosure K) := mk_cal X G a9 k9 G__closure b9
  have G_Order_pairs : FnOk P w K mg base (L2.CX P w) 1 f10 _ _ (spPairs CO) := ok_Order_pairs F10 C_c_Order C_na_Order__above C_na_Order_names
  have C_m_Order_pairs : CalM P w K mg base CO "pairs" 1 (spPairs CO) := mk_calM ⟨a10, i10, k10⟩ G_Order_pairs b10
  have G_Order___len__ : FnOk P w K mg base (L2.CX P w) 1 f12 _ _ (spOLen CO) := ok_Order___len__ F12 C_b_len C_c_Order C_na_Order__above C_na_Order_names
  have C_o_Order_len : CalO P w K mg base CO "__len__" 1 (spOLen CO) := mk_calO a12 i12 sf_Order G_Order___len__ b12
  have G_Order___iter__ : FnOk P w K mg base (L2.CX P w) 1 f13 _ _ (spOIter CO) := ok_Order___iter__ F13 C_b_iter C_c_Order C_na_Order__above C_na_Order_names
  have C_o_Order_iter : CalO P w K mg base CO "__iter__" 1 (spOIter CO) := mk_calO a13 i13 sf_Order G_Order___iter__ b13
  have G_Order__is_ready : FnOk P w K mg base (L2.CX P w) 1 f15 _ _ (spReady K CO) := ok_Order__is_ready F15 C_b_all C_c_Order C_na_Order__above C_na_Order_names
  have C_m_Order__is_ready : CalM P w K mg base CO "_is_ready" 1 (spReady K CO) := mk_calM ⟨a15, i15, k15⟩ G_Order__is_ready b15
  have G_Order___contains__ : FnOk P w K mg base (L2.CX P w) 1 f19 _ _ (spOIn CO) := ok_Order___contains__ F19 C_c_Order C_na_Order__above C_na_Order_names
  have G_Order___eq__ : FnOk P w K mg base (L2.CX P w) 1 f20 _ _ (spOEq K CO) := ok_Order___eq__ F20 C_b_isinstance C_c_Order C_gOrder C_ki_Order_Order C_na_Order__above C_na_Order_names
  have C_o_Order_eq : CalO P w K mg base CO "__eq__" 1 (spOEq K CO) := mk_calO a20 i20 sf_Order G_Order___eq__ b20
  have G__law_pool : FnOk P w K mg base (L2.CX P w) 1 f21 _ _ spPool := ok__law_pool F21
  have C_f_law_pool : Cal P w K mg base "_law_pool" 1 spPool := mk_cal X G a21 k21 G__law_pool b21
  have G__law_take : FnOk P w K mg base (L2.CX P w) 1 f22 _ _ spTake := ok__law_take F22 C_b_int
  have C_f_law_take : Cal P w K mg base "_law_take" 1 spTake := mk_cal X G a22 k22 G__law_take b22
  have G__law_cell : FnOk P w K mg base (L2.CX P w) 1 f23 _ _ (spCell K) := ok__law_cell F23 C_b_len
  have C_f_law_cell : Cal P w K mg base "_law_cell" 1 (spCell K) := mk_cal X G a23 k23 G__law_cell b23
  have G_Order__between : FnOk P w K mg base (L2.CX P w) 1 f26 _ _ (spBtw CO) := ok_Order__between F26 C_c_Order C_na_Order__above C_na_Order_names
  have C_m_Order__between : CalM P w K mg base CO "_between" 1 (spBtw CO) := mk_calM ⟨a26, i26, k26⟩ G_Order__between b26
  have G_BadNumber___init__ : FnOk P w K mg base (L2.CX P w) 2 f1 _ _ (spX1 K CB "n" GInt) := ok_BadNumber___init__ F1 C_f_shown C_ox_BadNumber C_t_ThrowError C_xn_BadNumber_n
  have C_x_BadNumber : CalX P w K mg base "BadNumber" CB 2 ["self", "n"] (spX1 K CB "n" GInt) := mk_calX X G aC_BadNumber C_ox_BadNumber a1 t1 G_BadNumber___init__ b1
  have G__law_names : FnOk P w K mg base (L2.CX P w) 2 f24 _ _ spNames := ok__law_names F24 C_b_len C_b_range C_f_law_take
  have C_f_law_names : Cal P w K mg base "_law_names" 2 spNames := mk_cal X G a24 k24 G__law_names b24
  have G_Order_covers : FnOk P w K mg base (L2.CX P w) 2 f25 _ _ (spCovers CO) := ok_Order_covers F25 C_b_len C_c_Order C_m_Order__between C_m_Order_pairs C_na_Order__above C_na_Order_names
  have C_m_Order_covers : CalM P w K mg base CO "covers" 2 (spCovers CO) := mk_calM ⟨a25, i25, k25⟩ G_Order_covers b25
  have G_check_names : FnOk P w K mg base (L2.CX P w) 3 f7 _ _ (spCheckG K CN CD) := ok_check_names F7 C_b_enumerate C_f_is_name C_x_BadName C_x_DuplicateName
  have C_f_check_names : Cal P w K mg base "check_names" 3 (spCheckG K CN CD) := mk_cal X G a7 k7 G_check_names b7
  have G_check_among : FnOk P w K mg base (L2.CX P w) 3 f8 _ _ (spAmong K CU) := ok_check_among F8 C_x_UnknownName
  have C_f_check_among : Cal P w K mg base "check_among" 3 (spAmong K CU) := mk_cal X G a8 k8 G_check_among b8
  have G_Order___init__ : FnOk P w K mg base (L2.CX P w) 4 f11 _ _ (spOInitG K CO CB CN CD CU CG) := ok_Order___init__ F11 C_b_any C_b_len C_b_sorted C_b_tuple C_c_Order C_f_check_among C_f_check_names C_f_closure C_m_Order_pairs C_n_MOST_NAMES C_na_Order__above C_na_Order_names C_x_BadNumber C_x_Ring
  have C_i_Order : CalI P w K mg base "Order" CO 4 (spOInitG K CO CB CN CD CU CG) := mk_calI X G aC_Order ⟨mk_Order, a11, i11, kc_Order⟩ G_Order___init__ b11
  have G_Order_ups : FnOk P w K mg base (L2.CX P w) 4 f17 _ _ (spUps K CO [(p_Order_ups, ZB.LQ "Order.ups")]) := ok_Order_ups F17 C_b_len C_b_sorted C_b_tuple C_c_Order C_m_Order__is_ready C_na_Order__above C_na_Order_names C_tb_Order_ups C_tm_Order_ups
  have C_m_Order_ups : CalM P w K mg base CO "ups" 4 (spUps K CO [(p_Order_ups, ZB.LQ "Order.ups")]) := mk_calM ⟨a17, i17, k17⟩ G_Order_ups b17
  have G_Order_below : FnOk P w K mg base (L2.CX P w) 4 f18 _ _ (spBelow CO CU) := ok_Order_below F18 C_c_Order C_f_check_among C_na_Order__above C_na_Order_names
  have C_m_Order_below : CalM P w K mg base CO "below" 4 (spBelow CO CU) := mk_calM ⟨a18, i18, k18⟩ G_Order_below b18
  have G_Order_turned : FnOk P w K mg base (L2.CX P w) 6 f14 _ _ (spTurned CO) := ok_Order_turned F14 C_c_Order C_i_Order C_m_Order_pairs C_na_Order__above C_na_Order_names
  have C_m_Order_turned : CalM P w K mg base CO "turned" 6 (spTurned CO) := mk_calM ⟨a14, i14, k14⟩ G_Order_turned b14
  have G_Order_part : FnOk P w K mg base (L2.CX P w) 6 f16 _ _ (spPart K CO CB CD CU) := ok_Order_part F16 C_b_enumerate C_c_Order C_i_Order C_m_Order_pairs C_na_Order__above C_na_Order_names C_x_DuplicateName C_x_UnknownName
  have C_m_Order_part : CalM P w K mg base CO "part" 6 (spPart K CO CB CD CU) := mk_calM ⟨a16, i16, k16⟩ G_Order_part b16
  have G_Order_chain : FnR P w K mg base (L2.CX P w) 6 f27 (spStar 1 (spChainG K CO CB CN CD)) := ok_Order_chain F27 C_b_list C_b_zip C_c_Order C_i_Order C_na_Order__above C_na_Order_names
  have C_k_Order_chain : CalK P w K mg base CO "chain" 6 (spStar 1 (spChainG K CO CB CN CD)) := mk_calKS ⟨rd_Order, rg_Order⟩ ⟨a27, ⟨_, r27⟩, i27⟩ G_Order_chain
  have G_Order_crown : FnOk P w K mg base (L2.CX P w) 6 f28 _ _ (spCrown CO) := ok_Order_crown F28 C_b_range C_c_Order C_i_Order C_na_Order__above C_na_Order_names C_x_BadNumber
  have C_k_Order_crown : CalK P w K mg base CO "crown" 6 (spCrown CO) := mk_calK ⟨rd_Order, rg_Order⟩ ⟨a28, ⟨_, r28⟩, i28⟩ G_Order_crown b28
  have G__law_chain : FnOk P w K mg base (L2.CX P w) 7 f29 _ _ (spLChain CO) := ok__law_chain F29 C_b_len C_gOrder C_k_Order_chain
  have C_f_law_chain : Cal P w K mg base "_law_chain" 7 (spLChain CO) := mk_cal X G a29 k29 G__law_chain b29
  have G__law_counted : FnOk P w K mg base (L2.CX P w) 7 f30 _ _ spCounted := ok__law_counted F30 C_c_Order C_gBadNumber C_gOrder C_k_Order_chain C_na_Order__above C_na_Order_names C_xf_BadNumber C_xm_BadNumber C_xn_BadNumber_n
  have C_f_law_counted : Cal P w K mg base "_law_counted" 7 spCounted := mk_cal X G a30 k30 G__law_counted b30
  have G__law_refused : FnOk P w K mg base (L2.CX P w) 7 f31 _ _ spLRef := ok__law_refused F31 C_c_Order C_gBadName C_gDuplicateName C_gOrder C_k_Order_chain C_na_Order__above C_na_Order_names C_xf_BadName C_xf_DuplicateName C_xm_BadName C_xm_DuplicateName C_xm_DuplicateName_BadName C_xn_BadName_name C_xn_DuplicateName_name
  have C_f_law_refused : Cal P w K mg base "_law_refused" 7 spLRef := mk_cal X G a31 k31 G__law_refused b31
  have G__law_is_crown : FnOk P w K mg base (L2.CX P w) 8 f32 _ _ (spIsCr [(p_Order_ups, ZB.LQ "Order.ups")]) := ok__law_is_crown F32 C_b_len C_b_list C_b_range C_b_str C_c_Order C_gOrder C_i_Order C_k_Order_crown C_m_Order_below C_m_Order_covers C_m_Order_turned C_m_Order_ups C_na_Order__above C_na_Order_names C_o_Order_iter C_o_Order_len
  have C_f_law_is_crown : Cal P w K mg base "_law_is_crown" 8 (spIsCr [(p_Order_ups, ZB.LQ "Order.ups")]) := mk_cal X G a32 k32 G__law_is_crown b32
  exact ok_law F33 C_b_len C_b_range C_b_sorted C_b_tuple C_c_Order C_f_law_cell C_f_law_chain C_f_law_counted C_f_law_is_crown C_f_law_names C_f_law_pool C_f_law_refused C_f_law_take C_m_Order_below C_m_Order_covers C_m_Order_part C_m_Order_turned C_m_Order_ups C_na_Order__above C_na_Order_names C_o_Order_eq
theorem walk {c_Order_ups p_Order_ups : Addr} {l : PySem.W.OpenLaw} {q : Program} {loose : List Str} {XP : (Str → Option Value) → Heap → Prop} {YP : World → Heap → Prop} {d : DefRec} {K : Params → PySem.W.Frag} (hn : l.most = some 63) (hdf : d.params.defaults = [])
    (hY : ∀ (w : World) (h : Heap), YP w h → (K w.params).In h) (hT : ∀ (w : World) (h : Heap), YP w h → h.get? p_Order_ups = some (PySem.W.tabObj #[])) (hL : ∀ p : Params, (K p).lookup p_Order_ups = none) (hC : ∀ p : Params, PySem.W.codeHdIn (K p) c_Order_ups p_Order_ups = true)
    (F : ∀ (w : World) (mg : Str → Option Value) (fa : Addr) (h : Heap), (K w.params).In h → h.Ns mainGlobals mg → mg d.name = some (.ref fa) →
      ∃ fd : FuncData, (∀ (s : Shared) (u : Value), BindsTo s fd ⟨[u], []⟩ [("_law_script", u)]) ∧ ∀ base : Heap, (K w.params).In base → base.Ns mainGlobals mg → (∀ p ∈ [(c_Order_ups, p_Order_ups)], LamX.TabB base mg p.1 p.2) → FnOk l.prog w (K w.params) mg base (L2.CX l.prog w) 9 fa fd ["_law_script"] (spLaw (K w.params) [(p_Order_ups, ZB.LQ "Order.ups")])) :
    PySem.W.WalkO q loose XP YP l.row.toRowW d [] (fun f vs => PySem.call f vs) :=
  LamX.walk_ofTs (n := 63) (k := 9) (x := "_law_script") (CX := fun w => L2.CX l.prog w) hn (by decide) hdf ⟨rfl, by decide, by decide⟩ hY (fun w mg fa h Y KX G hmg => by
    obtain ⟨fd, hb, hF⟩ := F w mg fa h KX G hmg
    refine ⟨fd, [(c_Order_ups, p_Order_ups)], spLaw (K w.params) [(p_Order_ups, ZB.LQ "Order.ups")], fun p hp => ?_, fun p hp => ?_, fun p hp => ?_, hb, fun H a ns hl _ hT hS => mk_law hS hl (hT _ (List.mem_singleton.mpr rfl)), hF⟩
    · rw [List.mem_singleton.mp hp]; exact hT w h Y
    · rw [List.mem_singleton.mp hp]; exact hL _
    · rw [List.mem_singleton.mp hp]; exact PySem.W.codeHd_of_K KX (hC _)) fun _ _ _ _ _ z => cxN z
end Z

open PySem PySem.W PyProof.Rows in
set_option maxRecDepth 100000 in
set_option maxHeartbeats 0 in
theorem PySem.Challenge.cw_onethrow_k17_chains_and_crowns_holds : PySem.Challenge.rw_onethrow_k17_chains_and_crowns.Holds := by
  w_on; o_law; k_head; (case hw => w_witness2)
  k_fill
  refine Z.walk (c_Order_ups := ?c) (l := PySem.Challenge.rw_onethrow_k17_chains_and_crowns) rfl rfl (fun w h Y => PySem.W.km_in_of Y) (fun w h Y => PySem.W.km_tabs_of Y _ List.mem_cons_self) ?hL ?hC ?F
  case F =>
    intro w mg fa h KX G hmg
    refine' Z.all_mk KX G hmg ?aC_Order ?aC_BadNumber ?aC_BadName ?aC_DuplicateName ?aC_UnknownName ?aC_Ring ?aC_ThrowError ?pg_Order ?hd_Order ?po_Order ?sa_Order ?ha_Order ?hm_Order ?mk_Order ?kc_Order ?sf_Order ?iC_Order ?tC_Order ?hn ?htk ?xL_BadNumber ?sa_BadNumber ?ga_BadNumber ?gg_BadNumber ?kC_BadNumber ?eC_BadNumber ?tC_BadNumber ?hC_BadNumber ?iC_BadNumber ?sC_BadNumber ?xL_BadName ?sa_BadName ?ga_BadName ?gg_BadName ?kC_BadName ?eC_BadName ?tC_BadName ?hC_BadName ?iC_BadName ?sC_BadName ?xL_DuplicateName ?sa_DuplicateName ?ga_DuplicateName ?gg_DuplicateName ?kC_DuplicateName ?eC_DuplicateName ?tC_DuplicateName ?hC_DuplicateName ?iC_DuplicateName ?sC_DuplicateName ?xL_UnknownName ?sa_UnknownName ?ga_UnknownName ?gg_UnknownName ?kC_UnknownName ?eC_UnknownName ?tC_UnknownName ?hC_UnknownName ?iC_UnknownName ?sC_UnknownName ?xL_Ring ?sa_Ring ?ga_Ring ?gg_Ring ?kC_Ring ?eC_Ring ?tC_Ring ?hC_Ring ?iC_Ring ?sC_Ring ?rd_Order ?rg_Order ?rd_ThrowError ?rg_ThrowError ?rv_ThrowError ?a0 ?l0 ?c0 ?k0 ?a1 ?t1 ?l1 ?c1 ?k1 ?a2 ?t2 ?l2 ?c2 ?k2 ?a3 ?t3 ?l3 ?c3 ?k3 ?a4 ?t4 ?l4 ?c4 ?k4 ?a5 ?t5 ?l5 ?c5 ?k5 ?a6 ?l6 ?c6 ?k6 ?a7 ?l7 ?c7 ?k7 ?a8 ?l8 ?c8 ?k8 ?a9 ?l9 ?c9 ?k9 ?a10 ?i10 ?l10 ?c10 ?k10 ?a11 ?i11 ?l11 ?c11 ?k11 ?a12 ?i12 ?l12 ?c12 ?k12 ?a13 ?i13 ?l13 ?c13 ?k13 ?a14 ?i14 ?l14 ?c14 ?k14 ?a15 ?i15 ?l15 ?c15 ?k15 ?a16 ?i16 ?l16 ?c16 ?k16 ?a17 ?i17 ?l17 ?c17 ?k17 ?a18 ?i18 ?l18 ?c18 ?k18 ?a19 ?i19 ?l19 ?c19 ?k19 ?a20 ?i20 ?l20 ?c20 ?k20 ?a21 ?l21 ?c21 ?k21 ?a22 ?l22 ?c22 ?k22 ?a23 ?l23 ?c23 ?k23 ?a24 ?l24 ?c24 ?k24 ?a25 ?i25 ?l25 ?c25 ?k25 ?a26 ?i26 ?l26 ?c26 ?k26 ?a27 ?r27 ?i27 ?l27 ?c27 ?k27 ?a28 ?r28 ?i28 ?l28 ?c28 ?k28 ?a29 ?l29 ?c29 ?k29 ?a30 ?l30 ?c30 ?k30 ?a31 ?l31 ?c31 ?k31 ?a32 ?l32 ?c32 ?k32 ?a33 ?l33 ?c33 ?k33 ?z_all ?z_any ?z_enumerate ?z_int ?z_isinstance ?z_iter ?z_len ?z_list ?z_range ?z_sorted ?z_str ?z_tuple ?z_zip ?g_DIGITS ?g_LETTERS ?g_MOST_NAMES ?g_MOST_SIGNS ?w_na_Order__above ?w_na_Order_names ?w_xm_DuplicateName_BadName ?w_xn_BadName_name ?w_xn_BadNumber_n ?w_xn_DuplicateName_name ?w_xn_Ring_names ?w_xn_UnknownName_name
    (case aC_Order => k_is)
    (case aC_BadNumber => k_is)
    (case aC_BadName => k_is)
    (case aC_DuplicateName => k_is)
    (case aC_UnknownName => k_is)
    (case aC_Ring => k_is)
    (case aC_ThrowError => k_is)
    (case pg_Order => k_is)
    (case hd_Order => k_is)
    (case po_Order => k_is)
    (case sa_Order => k_is)
    (case ha_Order => k_is)
    (case hm_Order => k_is)
    (case mk_Order => k_is)
    (case kc_Order => k_is)
    (case sf_Order => k_is)
    (case iC_Order => k_is)
    (case tC_Order => k_is)
    (case hn => k_is)
    (case htk => k_is)
    (case xL_BadNumber => k_is)
    (case sa_BadNumber => k_is)
    (case ga_BadNumber => k_is)
    (case gg_BadNumber => k_is)
    (case kC_BadNumber => k_is)
    (case eC_BadNumber => k_is)
    (case tC_BadNumber => k_is)
    (case hC_BadNumber => k_is)
    (case iC_BadNumber => k_is)
    (case sC_BadNumber => k_is)
    (case xL_BadName => k_is)
    (case sa_BadName => k_is)
    (case ga_BadName => k_is)
    (case gg_BadName => k_is)
    (case kC_BadName => k_is)
    (case eC_BadName => k_is)
    (case tC_BadName => k_is)
    (case hC_BadName => k_is)
    (case iC_BadName => k_is)
    (case sC_BadName => k_is)
    (case xL_DuplicateName => k_is)
    (case sa_DuplicateName => k_is)
    (case ga_DuplicateName => k_is)
    (case gg_DuplicateName => k_is)
    (case kC_DuplicateName => k_is)
    (case eC_DuplicateName => k_is)
    (case tC_DuplicateName => k_is)
    (case hC_DuplicateName => k_is)
    (case iC_DuplicateName => k_is)
    (case sC_DuplicateName => k_is)
    (case xL_UnknownName => k_is)
    (case sa_UnknownName => k_is)
    (case ga_UnknownName => k_is)
    (case gg_UnknownName => k_is)
    (case kC_UnknownName => k_is)
    (case eC_UnknownName => k_is)
    (case tC_UnknownName => k_is)
    (case hC_UnknownName => k_is)
    (case iC_UnknownName => k_is)
    (case sC_UnknownName => k_is)
    (case xL_Ring => k_is)
    (case sa_Ring => k_is)
    (case ga_Ring => k_is)
    (case gg_Ring => k_is)
    (case kC_Ring => k_is)
    (case eC_Ring => k_is)
    (case tC_Ring => k_is)
    (case hC_Ring => k_is)
    (case iC_Ring => k_is)
    (case sC_Ring => k_is)
    (case rd_Order => k_is)
    (case rg_Order => k_is)
    (case rd_ThrowError => k_is)
    (case rg_ThrowError => k_is)
    (case rv_ThrowError => k_is)
    (case a0 => k_is)
    (case l0 => k_is)
    (case c0 => k_is)
    (case k0 => k_is)
    (case a1 => k_is)
    (case t1 => k_is)
    (case l1 => k_is)
    (case c1 => k_is)
    (case k1 => k_is)
    (case a2 => k_is)
    (case t2 => k_is)
    (case l2 => k_is)
    (case c2 => k_is)
    (case k2 => k_is)
    (case a3 => k_is)
    (case t3 => k_is)
    (case l3 => k_is)
    (case c3 => k_is)
    (case k3 => k_is)
    (case a4 => k_is)
    (case t4 => k_is)
    (case l4 => k_is)
    (case c4 => k_is)
    (case k4 => k_is)
    (case a5 => k_is)
    (case t5 => k_is)
    (case l5 => k_is)
    (case c5 => k_is)
    (case k5 => k_is)
    (case a6 => k_is)
    (case l6 => k_is)
    (case c6 => k_is)
    (case k6 => k_is)
    (case a7 => k_is)
    (case l7 => k_is)
    (case c7 => k_is)
    (case k7 => k_is)
    (case a8 => k_is)
    (case l8 => k_is)
    (case c8 => k_is)
    (case k8 => k_is)
    (case a9 => k_is)
    (case l9 => k_is)
    (case c9 => k_is)
    (case k9 => k_is)
    (case a10 => k_is)
    (case i10 => k_is)
    (case l10 => k_is)
    (case c10 => k_is)
    (case k10 => k_is)
    (case a11 => k_is)
    (case i11 => k_is)
    (case l11 => k_is)
    (case c11 => k_is)
    (case k11 => k_is)
    (case a12 => k_is)
    (case i12 => k_is)
    (case l12 => k_is)
    (case c12 => k_is)
    (case k12 => k_is)
    (case a13 => k_is)
    (case i13 => k_is)
    (case l13 => k_is)
    (case c13 => k_is)
    (case k13 => k_is)
    (case a14 => k_is)
    (case i14 => k_is)
    (case l14 => k_is)
    (case c14 => k_is)
    (case k14 => k_is)
    (case a15 => k_is)
    (case i15 => k_is)
    (case l15 => k_is)
    (case c15 => k_is)
    (case k15 => k_is)
    (case a16 => k_is)
    (case i16 => k_is)
    (case l16 => k_is)
    (case c16 => k_is)
    (case k16 => k_is)
    (case a17 => k_is)
    (case i17 => k_is)
    (case l17 => k_is)
    (case c17 => k_is)
    (case k17 => k_is)
    (case a18 => k_is)
    (case i18 => k_is)
    (case l18 => k_is)
    (case c18 => k_is)
    (case k18 => k_is)
    (case a19 => k_is)
    (case i19 => k_is)
    (case l19 => k_is)
    (case c19 => k_is)
    (case k19 => k_is)
    (case a20 => k_is)
    (case i20 => k_is)
    (case l20 => k_is)
    (case c20 => k_is)
    (case k20 => k_is)
    (case a21 => k_is)
    (case l21 => k_is)
    (case c21 => k_is)
    (case k21 => k_is)
    (case a22 => k_is)
    (case l22 => k_is)
    (case c22 => k_is)
    (case k22 => k_is)
    (case a23 => k_is)
    (case l23 => k_is)
    (case c23 => k_is)
    (case k23 => k_is)
    (case a24 => k_is)
    (case l24 => k_is)
    (case c24 => k_is)
    (case k24 => k_is)
    (case a25 => k_is)
    (case i25 => k_is)
    (case l25 => k_is)
    (case c25 => k_is)
    (case k25 => k_is)
    (case a26 => k_is)
    (case i26 => k_is)
    (case l26 => k_is)
    (case c26 => k_is)
    (case k26 => k_is)
    (case a27 => k_is)
    (case r27 => k_is)
    (case i27 => k_is)
    (case l27 => k_is)
    (case c27 => k_is)
    (case k27 => k_is)
    (case a28 => k_is)
    (case r28 => k_is)
    (case i28 => k_is)
    (case l28 => k_is)
    (case c28 => k_is)
    (case k28 => k_is)
    (case a29 => k_is)
    (case l29 => k_is)
    (case c29 => k_is)
    (case k29 => k_is)
    (case a30 => k_is)
    (case l30 => k_is)
    (case c30 => k_is)
    (case k30 => k_is)
    (case a31 => k_is)
    (case l31 => k_is)
    (case c31 => k_is)
    (case k31 => k_is)
    (case a32 => k_is)
    (case l32 => k_is)
    (case c32 => k_is)
    (case k32 => k_is)
    (case a33 => k_is)
    (case l33 => k_is)
    (case c33 => k_is)
    (case k33 => k_is)
    (case z_all => k_is)
    (case z_any => k_is)
    (case z_enumerate => k_is)
    (case z_int => k_is)
    (case z_isinstance => k_is)
    (case z_iter => k_is)
    (case z_len => k_is)
    (case z_list => k_is)
    (case z_range => k_is)
    (case z_sorted => k_is)
    (case z_str => k_is)
    (case z_tuple => k_is)
    (case z_zip => k_is)
    (case g_DIGITS => k_is)
    (case g_LETTERS => k_is)
    (case g_MOST_NAMES => k_is)
    (case g_MOST_SIGNS => k_is)
    (case w_na_Order__above => k_is)
    (case w_na_Order_names => k_is)
    (case w_xm_DuplicateName_BadName => k_is)
    (case w_xn_BadName_name => k_is)
    (case w_xn_BadNumber_n => k_is)
    (case w_xn_DuplicateName_name => k_is)
    (case w_xn_Ring_names => k_is)
    (case w_xn_UnknownName_name => k_is)
  case hL => intro p; kernel_rfl
  case hC => intro p; kernel_rfl

