import PyProof.Rows.All
import Wide.All
import OpenK.AllK
import Wide.FinOn
import HandS.ForMost
import HandS.ForExc
import HandS.More
import HandS.Star
import HandS.ClsMeth
import HandS.Wide
import HandS.Gcd
import HandS.ExcInit
import HandS.ExcField
import HandS.IsInst
import HandS.OwnEq
import HandS.FStr
import HandS.WideBits
import KE.IntBitsLaws
import KE.KFmtOwn
import HandS.StrMore
import HandS.Style
import HandS.StrSplit
import HandS.OwnIter
import HandS.IterNext
import HandS.DictComp
import HandS.Deep
import HandS.DeepEq
import HandS.Conv
import HandS.SortOrd
import HandS.Walk
import HandS.TryMany
import HandS.FStrTup
import PyProof.ReprHeadsEmpty
import HandS.TupAny
import HandS.Records
import HandS.HotCalls
import KE.KExcIs
import HandS.ExcIs
import PyProof.FString5
import KE.KItemsList
import HandS.Zip0
import PyProof.CollectIter
import KE.KUnpack
import KE.GoesEnumKw
import HandS.SortKw
import HandS.Lambda
import PyProof.NeKinds
import KE.KDictList
import PyProof.SumAny
import HandS.Set
import HandS.SetFor
import HandS.Strs
import HandS.Finally
import HandS.Zip
import KE.KDictZip
import KE.GoesMore
import KE.GoesRaise
import HandS.TupLen
import HandS.TupMul
import KE.SortKeyHeap
import KE.LtSeq
import KE.SortData
import HandS.EndTab
import KE.KNestM
import PySem.Challenge.RW_onethrow_k28_strange_names
set_option linter.all false
namespace ZR
theorem fdiv_exact {a d : Int} (hd : d ≠ 0) (h : d ∣ a) : a.fdiv d = a / d := by
  obtain ⟨k, rfl⟩ := h
  rw [Int.mul_comm, Int.mul_fdiv_cancel _ hd, Int.mul_ediv_cancel _ hd]
/-- the divisor: the greatest common one, with the sign of b -/
def sg (t b : Int) : Int := if b < 0 then -((Nat.gcd t.natAbs b.natAbs : Nat) : Int) else ((Nat.gcd t.natAbs b.natAbs : Nat) : Int)
theorem gcd_ne (t : Int) {b : Int} (hb : b ≠ 0) : ((Nat.gcd t.natAbs b.natAbs : Nat) : Int) ≠ 0 := by
  have : 0 < Nat.gcd t.natAbs b.natAbs := Nat.gcd_pos_of_pos_right _ (by omega)
  omega
theorem dvd_t (t b : Int) : ((Nat.gcd t.natAbs b.natAbs : Nat) : Int) ∣ t := Int.ofNat_dvd_left.mpr (Nat.gcd_dvd_left _ _)
theorem dvd_b (t b : Int) : ((Nat.gcd t.natAbs b.natAbs : Nat) : Int) ∣ b := Int.ofNat_dvd_left.mpr (Nat.gcd_dvd_right _ _)
theorem norm_num (t b : Int) (hb : b ≠ 0) : t.fdiv (sg t b) = ((t : Rat) / (b : Rat)).num := by
  rw [← Rat.divInt_eq_div, Rat.num_divInt]
  have hg := gcd_ne t hb
  have e : b.gcd t = Nat.gcd t.natAbs b.natAbs := by rw [Int.gcd_comm]; rfl
  have d1 := dvd_t t b
  rw [e]
  unfold sg
  split
  · rename_i h
    rw [fdiv_exact (by omega) (Int.neg_dvd.mpr d1), Int.sign_eq_neg_one_of_neg h, Int.ediv_neg]
    obtain ⟨k, hk⟩ := d1
    generalize ((Nat.gcd t.natAbs b.natAbs : Nat) : Int) = g at *
    subst hk
    rw [Int.mul_ediv_cancel_left _ hg, show -1 * (g * k) = g * (-k) by grind, Int.mul_ediv_cancel_left _ hg]
  · rename_i h
    rw [fdiv_exact hg d1, Int.sign_eq_one_of_pos (by omega), Int.one_mul]
theorem norm_den (t b : Int) (hb : b ≠ 0) : b.fdiv (sg t b) = ((((t : Rat) / (b : Rat)).den : Nat) : Int) := by
  rw [← Rat.divInt_eq_div, Rat.den_divInt, if_neg hb]
  have hg := gcd_ne t hb
  have e : b.gcd t = Nat.gcd t.natAbs b.natAbs := by rw [Int.gcd_comm]; rfl
  have d1 := dvd_b t b
  rw [e, Int.natCast_ediv]
  unfold sg
  split
  · rename_i h
    rw [fdiv_exact (by omega) (Int.neg_dvd.mpr d1), Int.ediv_neg]
    have e2 : ((b.natAbs : Nat) : Int) = -b := by omega
    rw [e2]
    obtain ⟨k, hk⟩ := d1
    generalize ((Nat.gcd t.natAbs b.natAbs : Nat) : Int) = g at *
    subst hk
    rw [Int.mul_ediv_cancel_left _ hg, show -(g * k) = g * (-k) by grind, Int.mul_ediv_cancel_left _ hg]
  · rename_i h
    have e2 : ((b.natAbs : Nat) : Int) = b := by omega
    rw [e2, fdiv_exact hg d1]
theorem num_le (t b : Int) : ((t : Rat) / (b : Rat)).num.natAbs ≤ t.natAbs := by
  rw [← Rat.divInt_eq_div, Rat.num_divInt, Int.natAbs_ediv_of_dvd, Int.natAbs_mul]
  · rcases Int.lt_trichotomy b 0 with h | h | h
    · rw [Int.sign_eq_neg_one_of_neg h]; simp; exact Nat.div_le_self _ _
    · subst h; simp
    · rw [Int.sign_eq_one_of_pos h]; simp; exact Nat.div_le_self _ _
  · exact Int.dvd_mul_of_dvd_right (Int.gcd_dvd_right ..)
theorem den_le (t b : Int) (hb : b ≠ 0) : ((t : Rat) / (b : Rat)).den ≤ b.natAbs := by
  rw [← Rat.divInt_eq_div, Rat.den_divInt, if_neg hb]
  exact Nat.div_le_self _ _
theorem r_add (p q : Rat) : ((p.num * q.den + q.num * p.den : Int) : Rat) / ((p.den * q.den : Int) : Rat) = p + q := by
  rw [← Rat.divInt_eq_div, Rat.add_def', ← Rat.divInt_ofNat]; simp
theorem r_sub (p q : Rat) : ((p.num * q.den - q.num * p.den : Int) : Rat) / ((p.den * q.den : Int) : Rat) = p - q := by
  rw [← Rat.divInt_eq_div, Rat.sub_def', ← Rat.divInt_ofNat]; simp
theorem r_mul (p q : Rat) : ((p.num * q.num : Int) : Rat) / ((p.den * q.den : Int) : Rat) = p * q := by
  rw [← Rat.divInt_eq_div, Rat.mul_def', ← Rat.divInt_ofNat]; simp
theorem ci {b : Int} (hb : b ≠ 0) : (b : Rat) ≠ 0 := by simpa using hb
/-! fractions of ints -/
theorem lt_nd (p q : Rat) : (p.num * q.den < q.num * p.den) ↔ p < q := (Rat.lt_iff p q).symm
theorem eq_nd (p q : Rat) : (p.num = q.num ∧ (p.den : Int) = (q.den : Int)) ↔ p = q := by
  constructor
  · rintro ⟨h1, h2⟩
    exact Rat.ext h1 (by omega)
  · rintro rfl
    exact ⟨rfl, rfl⟩
/-! sizes -/
/-- both terms below 2 ^ n -/
structure Bd (n : Nat) (q : Rat) : Prop where
  num : q.num.natAbs < 2 ^ n
  den : q.den < 2 ^ n
def Sz (n : Nat) (i : Int) : Prop := i.natAbs < 2 ^ n
theorem sz0 {n : Nat} : Sz n 0 := Nat.two_pow_pos n
theorem sz1 {n : Nat} (h : n ≠ 0) : Sz n 1 := Nat.one_lt_two_pow h
theorem sz_of {n : Nat} {i : Int} (h : decide (i.natAbs < 2 ^ n) = true) : Sz n i := by
  unfold Sz
  exact of_decide_eq_true h
theorem Sz.mono {n m : Nat} {i : Int} (h : Sz n i) (hm : n ≤ m) : Sz m i := Nat.lt_of_lt_of_le h (Nat.pow_le_pow_right (by decide) hm)
theorem Bd.mono {n m : Nat} {q : Rat} (h : Bd n q) (hm : n ≤ m) : Bd m q :=
  ⟨Nat.lt_of_lt_of_le h.num (Nat.pow_le_pow_right (by decide) hm), Nat.lt_of_lt_of_le h.den (Nat.pow_le_pow_right (by decide) hm)⟩
theorem Sz.mul {n m : Nat} {i j : Int} (h : Sz n i) (h' : Sz m j) : Sz (n + m) (i * j) := by
  unfold Sz at *
  rw [Int.natAbs_mul, Nat.pow_add]
  exact Nat.mul_lt_mul_of_lt_of_lt h h'
theorem Sz.add {n : Nat} {i j : Int} (h : Sz n i) (h' : Sz n j) : Sz (n + 1) (i + j) := by
  unfold Sz at *
  rw [Nat.pow_succ]
  have := Int.natAbs_add_le i j
  omega
theorem Sz.sub {n : Nat} {i j : Int} (h : Sz n i) (h' : Sz n j) : Sz (n + 1) (i - j) := by
  unfold Sz at *
  rw [Nat.pow_succ]
  have := Int.natAbs_sub_le i j
  omega
theorem Sz.neg {n : Nat} {i : Int} (h : Sz n i) : Sz n (-i) := by
  unfold Sz at *
  rw [Int.natAbs_neg]
  exact h
theorem Bd.n {n : Nat} {q : Rat} (h : Bd n q) : Sz n q.num := h.num
theorem Bd.d {n : Nat} {q : Rat} (h : Bd n q) : Sz n (q.den : Int) := by
  have := h.den
  show ((q.den : Int)).natAbs < 2 ^ n
  simpa using this
theorem Bd.of {n : Nat} {t b : Int} (h : Sz n t) (h' : Sz n b) (hb : b ≠ 0) : Bd n ((t : Rat) / (b : Rat)) :=
  ⟨Nat.lt_of_le_of_lt (num_le t b) h, Nat.lt_of_le_of_lt (den_le t b hb) h'⟩
theorem den_ne (p : Rat) : (p.den : Int) ≠ 0 := by have := p.den_nz; omega
theorem Bd.add {n : Nat} {p q : Rat} (h : Bd n p) (h' : Bd n q) : Bd (n + n + 1) (p + q) := by
  rw [← r_add]
  refine .of ((h.n.mul h'.d).add (h'.n.mul h.d)) ((h.d.mul h'.d).mono (by omega)) ?_
  exact Int.mul_ne_zero (den_ne p) (den_ne q)
theorem Bd.sub {n : Nat} {p q : Rat} (h : Bd n p) (h' : Bd n q) : Bd (n + n + 1) (p - q) := by
  rw [← r_sub]
  refine .of ((h.n.mul h'.d).sub (h'.n.mul h.d)) ((h.d.mul h'.d).mono (by omega)) ?_
  exact Int.mul_ne_zero (den_ne p) (den_ne q)
theorem Bd.mul {n : Nat} {p q : Rat} (h : Bd n p) (h' : Bd n q) : Bd (n + n + 1) (p * q) := by
  rw [← r_mul]
  refine .of ((h.n.mul h'.n).mono (by omega)) ((h.d.mul h'.d).mono (by omega)) ?_
  exact Int.mul_ne_zero (den_ne p) (den_ne q)
theorem Bd.neg {n : Nat} {p : Rat} (h : Bd n p) : Bd n (-p) := ⟨by rw [Rat.neg_num, Int.natAbs_neg]; exact h.num, by rw [Rat.neg_den]; exact h.den⟩
/-! Euclid, as the law does it -/
end ZR

/-! shares dealt: the mathematics -/
namespace ZD
/-- a multiple of 1/D from 0 to M -/
structure Gd (D M : Nat) (q : Rat) : Prop where
  mul : ∃ n : Int, q * (D : Rat) = (n : Rat)
  lo : 0 ≤ q
  hi : q ≤ (M : Rat)
section
variable {D M D' M' : Nat} {p q : Rat}
theorem Gd.zero : Gd D M 0 := ⟨⟨0, by grind⟩, by grind, by exact_mod_cast Nat.zero_le M⟩
theorem Gd.sub (h : Gd D M p) (g : Gd D M q) (l : q ≤ p) : Gd D M (p - q) := by
  obtain ⟨n, hn⟩ := h.mul
  obtain ⟨m, hm⟩ := g.mul
  refine ⟨⟨n - m, ?_⟩, ?_, ?_⟩
  · rw [Rat.intCast_sub, ← hn, ← hm]; grind
  · grind
  · have := h.hi; have := g.lo; grind
theorem Gd.add (h : Gd D M p) (g : Gd D M' q) : Gd D (M + M') (p + q) := by
  obtain ⟨n, hn⟩ := h.mul
  obtain ⟨m, hm⟩ := g.mul
  refine ⟨⟨n + m, ?_⟩, ?_, ?_⟩
  · rw [Rat.intCast_add, ← hn, ← hm]; grind
  · have := h.lo; have := g.lo; grind
  · have := h.hi; have := g.hi
    rw [Rat.natCast_add]
    grind
theorem natR_mono {a b : Nat} (h : a ≤ b) : (a : Rat) ≤ (b : Rat) := Rat.natCast_le_natCast.mpr h
theorem Gd.mono (h : Gd D M q) (l : M ≤ M') : Gd D M' q := ⟨h.mul, h.lo, by have := h.hi; have := natR_mono l; grind⟩
theorem Gd.bd (h : Gd D M q) {n : Nat} (hD : 0 < D) (l1 : D < 2 ^ n) (l2 : M * D < 2 ^ n) : ZR.Bd n q := by
  obtain ⟨z, hz⟩ := h.mul
  have hDi : ((D : Nat) : Int) ≠ 0 := by omega
  have hDr : (D : Rat) ≠ 0 := by
    have := ZR.ci hDi
    simpa using this
  have e : q = (z : Rat) / (((D : Nat) : Int) : Rat) := by
    rw [← hz]
    have : (((D : Nat) : Int) : Rat) = (D : Rat) := rfl
    rw [this]
    grind
  have z0 : 0 ≤ z := by
    have h1 : (0 : Rat) ≤ (z : Rat) := by
      rw [← hz]
      exact Rat.mul_nonneg h.lo (by have := natR_mono (Nat.zero_le D); exact_mod_cast this)
    exact_mod_cast h1
  have zM : z ≤ ((M * D : Nat) : Int) := by
    have h1 : (z : Rat) ≤ ((M * D : Nat) : Rat) := by
      rw [← hz, Rat.natCast_mul]
      exact Rat.mul_le_mul_of_nonneg_right h.hi (by have := natR_mono (Nat.zero_le D); exact_mod_cast this)
    exact_mod_cast h1
  rw [e]
  exact ZR.Bd.of (show z.natAbs < 2 ^ n by omega) (show ((D : Nat) : Int).natAbs < 2 ^ n by simpa using l1) hDi
end
section
variable {α : Type}
def sm (L : List (α × Rat)) : Rat := L.foldl (fun s x => s + x.2) 0
theorem fold_add : ∀ (L : List (α × Rat)) (a : Rat), L.foldl (fun s x => s + x.2) a = a + L.foldl (fun s x => s + x.2) 0
  | [], a => by simp; grind
  | x :: L, a => by
    rw [List.foldl_cons, List.foldl_cons, fold_add L, fold_add L (0 + x.2)]
    grind
theorem sm_nil : sm ([] : List (α × Rat)) = 0 := rfl
theorem sm_cons (x : α × Rat) (L : List (α × Rat)) : sm (x :: L) = x.2 + sm L := by
  show L.foldl _ (0 + x.2) = _
  rw [fold_add]
  unfold sm
  grind
theorem sm_snoc (L : List (α × Rat)) (x : α × Rat) : sm (L ++ [x]) = sm L + x.2 := by
  unfold sm
  rw [List.foldl_append]
  rfl
/-- what goes together -/
def deal : List (α × Rat) → List (α × Rat) → List (α × α × Rat)
  | (a, p) :: xs, (b, q) :: ys =>
    if p < q then (a, b, p) :: deal xs ((b, q - p) :: ys)
    else if p = q then (a, b, p) :: deal xs ys
    else (a, b, q) :: deal ((a, p - q) :: xs) ys
  | [], _ => []
  | _ :: _, [] => []
termination_by xs ys => xs.length + ys.length
end
end ZD

namespace ZD
theorem Gd.form {D M : Nat} {q : Rat} (h : Gd D M q) (hD : 0 < D) : ∃ z : Int, q = (z : Rat) / (((D : Nat) : Int) : Rat) ∧ 0 ≤ z ∧ z ≤ ((M * D : Nat) : Int) := by
  obtain ⟨z, hz⟩ := h.mul
  have hDi : ((D : Nat) : Int) ≠ 0 := by omega
  have hDr : (D : Rat) ≠ 0 := by
    have := ZR.ci hDi
    simpa using this
  have D0 : (0 : Rat) ≤ (D : Rat) := by have := natR_mono (Nat.zero_le D); exact_mod_cast this
  refine ⟨z, ?_, ?_, ?_⟩
  · rw [← hz]
    have : (((D : Nat) : Int) : Rat) = (D : Rat) := rfl
    rw [this]
    grind
  · have h1 : (0 : Rat) ≤ (z : Rat) := by
      rw [← hz]
      exact Rat.mul_nonneg h.lo D0
    exact_mod_cast h1
  · have h1 : (z : Rat) ≤ ((M * D : Nat) : Rat) := by
      rw [← hz, Rat.natCast_mul]
      exact Rat.mul_le_mul_of_nonneg_right h.hi D0
    exact_mod_cast h1
theorem Gd.den {D M : Nat} {q : Rat} (h : Gd D M q) (hD : 0 < D) : q.den ≤ D := by
  obtain ⟨z, e, _⟩ := h.form hD
  rw [e]
  have := ZR.den_le z ((D : Nat) : Int) (by omega)
  simpa using this
theorem Gd.num {D M : Nat} {q : Rat} (h : Gd D M q) (hD : 0 < D) : q.num.natAbs ≤ M * D := by
  obtain ⟨z, e, z0, z1⟩ := h.form hD
  rw [e]
  have := ZR.num_le z ((D : Nat) : Int)
  omega
theorem num_pos {S : Rat} (h : 0 < S) : 0 < S.num := by
  have := (ZR.lt_nd 0 S).mpr h
  simpa using this
end ZD

set_option Elab.async false
set_option linter.all false
set_option maxRecDepth 100000
set_option maxHeartbeats 4000000
/-! general rules of our own -/
namespace Z
open PySem PySem.Spec PyProof.Rows L2

/-- nothing is let out -/
abbrev EN : L2.St → XK := fun _ _ _ _ => False
theorem cxN {P : Program} {w : World} {outer : List Env} {H : Hp} {s s' : Shared} {e : Value} (h : L2.CX P w outer H s (fun _ _ _ => False) e s') : False := by
  obtain ⟨_, _, _, _, _, _, _, _, _, _, _, _, z⟩ := h
  exact z
theorem passN {X : Cx} : ∀ σ, PassesAt (L2.CX X.prog X.w) X σ (EN σ) := fun σ pins H s e s' _ h => by
  obtain ⟨_, _, _, _, _, _, _, _, _, _, _, _, z⟩ := h
  exact z.elim

section
variable {X : Cx} {CX : CXT} {k : Nat} {f C g : Addr} {sp : Sp} {E : L2.St → XK} {x m : Str} {p pos apos : Pos} {e o : Expr} {es : List Expr} {ta te : TE} {t : TA}

theorem runR {pins : List (Addr × Obj)} {σ : L2.St} {H : Hp} {s : Shared} {Q : VK} {us : List Value} {vs : List V}
    (F : FnR X.prog X.w X.K X.mg X.base CX k f sp) (hr : Room k X.A) (hx : ∀ σ, PassesAt CX X σ (E σ)) (I : Inv X pins σ H s)
    (r : Vals vs us) (h : sp vs H Q (E σ)) : wpAny (model X.prog X.w) X.A (call (.ref f) us) (EP X pins σ Q) X.xe s := by
  refine wpAny_call (codeAny_mono (F X.A X.stack s H us vs Q (E σ) hr I.env0 r h) fun q s' hq => ?_)
  rcases q with e | fl
  · exact hx σ pins H s e s' I hq
  · rcases fl with _ | _ | _ | u
    · exact False.elim hq
    · exact False.elim hq
    · exact False.elim hq
    · exact I.after hq

/-- f(e, ..) -/
theorem z_call (F : FnR X.prog X.w X.K X.mg X.base CX k f sp) (hr : Room k X.A) (hm : X.mg x = some (.ref f)) (hk : PySem.W.keepIn X.K (.ref f) = true)
    (hx : ∀ σ, PassesAt CX X σ (E σ)) (ha : PA X (e :: es) t) (hg : Gl X x := by rfl) (hdb : (x == ("__debug__" : Str)) = false := by decide)
    (he : starEach (e :: es) X.env = (false, eval e X.env) :: starEach es X.env := by rfl)
    (hpl : (backTo pos (starEach es X.env)).any (·.1) = false := by rfl) : PE X (.Call (.Name x p) (e :: es) [] pos) (tCallS sp E t) := by
  constructor
  intro pins s σ H Q I h
  apply wpAny_Call_Name_kw
  apply ld_glob I hg hm _ hdb
  apply PySem.W.callWith_K (h₀ := X.base) I.ok.mod.kin hk _ he hpl
  refine thn (ha.run pos pins s σ H _ I h) fun us s1 hh => ?_
  obtain ⟨vs, H1, I1, r, q⟩ := hh
  exact ⟨I1.kIn, runR F hr hx I1 r q⟩
/-- o.m(e, ..) -/
def tMethS (C : Addr) (m : Str) (sp : Sp) (E : L2.St → XK) (ta : TE) (t : TA) : TE := fun σ H Q => ta σ H fun x H1 =>
  ∃ a dx fs, x = .ref a ∧ H1 a = some (.ins C dx fs) ∧ fs.lookup m = none ∧ t σ H1 fun vs H2 => sp (x :: vs) H2 Q (E σ)
theorem z_meth {pl : Sem Bool} (he : PE X o ta) (c : Cls X.K C) (hm : Meth X.K C m f) (F : FnR X.prog X.w X.K X.mg X.base CX k f sp) (hr : Room k X.A)
    (hx : ∀ σ, PassesAt CX X σ (E σ)) (ha : PA X (e :: es) t)
    (hst : starEach (e :: es) X.env = (false, eval e X.env) :: starEach es X.env := by rfl)
    (hpl : (backTo pos (starEach es X.env)).any (·.1) = false := by rfl)
    (ht : eval (.Call (.Attribute o m apos) (e :: es) [] pos) X.env = (do
      let ov ← eval o X.env
      standAt apos.atName
      let (f, first) ← holding [ov] (getMethod ov m pl)
      callWith pos f first (backTo pos (starEach (e :: es) X.env)) (backToKw pos (keywordEach [] X.env))) := by rfl) :
    PE X (.Call (.Attribute o m apos) (e :: es) [] pos) (tMethS C m sp E ta t) := by
  constructor
  intro pins s σ H Q I h
  refine PySem.W.methodCall_KW (pl := pl) (thn (he.run pins s σ H _ I h) fun u s1 hh => ?_) ht
  obtain ⟨x, H1, I1, rx, a, dx, fs, ex, ea, l, q⟩ := hh
  subst ex
  obtain rfl : u = Value.ref a := rx
  apply getmeth_ok I1 ea c hm l
  apply PySem.W.callWith_K (first := [.ref a]) (h₀ := X.base) I.ok.mod.kin hm.kp _ hst hpl
  refine thn (ha.run pos pins s1 σ H1 _ I1 q) fun us s2 hh => ?_
  obtain ⟨vs, H2, I2, r, q2⟩ := hh
  exact ⟨I2.kIn, runR (us := .ref a :: us) (vs := .ref a :: vs) F hr hx I2 (.cons rfl r) q2⟩
theorem z_meth0 {pl : Sem Bool} (he : PE X o ta) (c : Cls X.K C) (hm : Meth X.K C m f) (F : FnR X.prog X.w X.K X.mg X.base CX k f sp) (hr : Room k X.A)
    (hx : ∀ σ, PassesAt CX X σ (E σ))
    (ht : eval (.Call (.Attribute o m apos) [] [] pos) X.env = (do
      let ov ← eval o X.env
      standAt apos.atName
      let (f, first) ← holding [ov] (getMethod ov m pl)
      callWith pos f first (backTo pos (starEach [] X.env)) (backToKw pos (keywordEach [] X.env))) := by rfl) :
    PE X (.Call (.Attribute o m apos) [] [] pos) (tMethS C m sp E ta tNil) := by
  constructor
  intro pins s σ H Q I h
  refine PySem.W.methodCall_KW (pl := pl) (thn (he.run pins s σ H _ I h) fun u s1 hh => ?_) ht
  obtain ⟨x, H1, I1, rx, a, dx, fs, ex, ea, l, q⟩ := hh
  subst ex
  obtain rfl : u = Value.ref a := rx
  apply getmeth_ok I1 ea c hm l
  exact PySem.W.callWith_K0 (first := [.ref a]) I1.kIn hm.kp (runR (us := [.ref a]) (vs := [.ref a]) F hr hx I1 (.cons rfl .nil) q)

/-- C(e, ..) -/
def tMakeS (C : Addr) (sp : Sp) (E : L2.St → XK) (t : TA) : TE := fun σ H Q => t σ H fun vs H1 => ∀ x dx, H1 x = Option.none → H1 dx = Option.none → dx ≠ x →
  sp (V.ref x :: vs) (upd (upd H1 dx (.own x)) x (.ins C dx [])) (fun v H2 => v = .non ∧ Q (.ref x) H2)
    (fun cls d H2 => E σ cls d H2)
theorem runMake {pins : List (Addr × Obj)} {σ : L2.St} {H : Hp} {s : Shared} {Q : VK} {us : List Value} {vs : List V} (M : Mk X.K C f)
    (F : FnR X.prog X.w X.K X.mg X.base CX k f sp) (hr : Room (k + 1) X.A) (hx : ∀ σ, PassesAt CX X σ (E σ)) (I : Inv X pins σ H s) (r : Vals vs us)
    (h : ∀ x dx, H x = Option.none → H dx = Option.none → dx ≠ x →
      sp (V.ref x :: vs) (upd (upd H dx (.own x)) x (.ins C dx [])) (fun v H2 => v = .non ∧ Q (.ref x) H2) (E σ)) :
    wpAny (model X.prog X.w) X.A (call (.ref C) us) (EP X pins σ Q) X.xe s := by
  have hq := h (s.heap.objs.size + 1) s.heap.objs.size (I.hok.fresh (Nat.le_succ _)) (I.hok.fresh (Nat.le_refl _)) (Nat.ne_of_lt (Nat.lt_succ_self _))
  have I2 := Inv.made (C := C) I
  have r2 : Vals (V.ref (s.heap.objs.size + 1) :: vs) (Value.ref (s.heap.objs.size + 1) :: us) := .cons rfl r
  refine wpAny_call (make_map (f := f) I.kIn M.makes M.init (beq_iff_eq.mp M.fn) (codeAny_mono (F _ X.stack _ _ _ _ _ (E σ)
    (hr.make C us []) (I2.env0.make C us []) r2 hq) fun q s' hq' => ?_))
  rcases q with e | fl
  · exact hx σ pins _ _ e s' I2 hq'
  · rcases fl with _ | _ | _ | u
    · exact False.elim hq'
    · exact False.elim hq'
    · exact False.elim hq'
    · obtain ⟨v, H', I3, rv, ev, q3⟩ := I2.after hq'
      subst ev
      exact ⟨rv, ⟨V.ref (s.heap.objs.size + 1), H', I3, rfl, q3⟩⟩
theorem z_make (M : Mk X.K C f) (F : FnR X.prog X.w X.K X.mg X.base CX k f sp) (hr : Room (k + 1) X.A) (hm : X.mg x = some (.ref C))
    (hx : ∀ σ, PassesAt CX X σ (E σ)) (ha : PA X (e :: es) t) (hg : Gl X x := by rfl) (hdb : (x == ("__debug__" : Str)) = false := by decide)
    (he : starEach (e :: es) X.env = (false, eval e X.env) :: starEach es X.env := by rfl)
    (hpl : (backTo pos (starEach es X.env)).any (·.1) = false := by rfl) : PE X (.Call (.Name x p) (e :: es) [] pos) (tMakeS C sp E t) := by
  constructor
  intro pins s σ H Q I h
  apply wpAny_Call_Name_kw
  apply ld_glob I hg hm _ hdb
  apply PySem.W.callWith_K (h₀ := X.base) I.ok.mod.kin M.kp _ he hpl
  refine thn (ha.run pos pins s σ H _ I h) fun us s1 hh => ?_
  obtain ⟨vs, H1, I1, r, q⟩ := hh
  exact ⟨I1.kIn, runMake M F hr hx I1 r q⟩
end
end Z

set_option Elab.async false
set_option linter.all false
set_option maxRecDepth 100000
set_option maxHeartbeats 4000000
namespace Z
open PySem PySem.Spec PyProof.Rows L2

/-- a special method of an own class -/
structure Spc (K : PySem.W.Frag) (C : Addr) (n : Str) (f : Addr) : Prop where
  at_ : PySem.W.findIn K (.ref C) n = some (some (.ref f))
  fn : PySem.W.isFn K (.ref f) = true

section
variable {X : Cx} {k : Nat} {f C g : Addr} {sp : Sp}

theorem instAt {pins : List (Addr × Obj)} {σ : L2.St} {H : Hp} {s : Shared} {a dx : Addr} {fs : List (Str × V)} (I : Inv X pins σ H s)
    (e : H a = some (.ins C dx fs)) : ∃ ox od, PySem.W.InstAt s.heap a ox C od := by
  obtain ⟨mA, O, _⟩ := ins_get I.hok e
  obtain ⟨od, J, _⟩ := O.look
  exact ⟨_, _, J⟩
theorem cmpBack {A : Around} {E : Value → Shared → Prop} {pins : List (Addr × Obj)} {σ : L2.St} {Q : VK} {f : Addr} {us : List Value} {s : Shared}
    (h : wpAny (model X.prog X.w) A (call (.ref f) us) (EP X pins σ Q) E s) :
    wpAny (model X.prog X.w) A (call (.ref f) us) (PySem.W.CmpBack (EP X pins σ Q)) E s := by
  refine wpAny_mono h (fun v s' hv => ?_) fun _ _ z => z
  have hne : v ≠ .notImplemented := by
    rintro rfl
    obtain ⟨x, H', _, r, _⟩ := hv
    cases x
    case int => obtain ⟨t, q⟩ := r; cases q
    case str => obtain ⟨t, q⟩ := r; cases q
    case byt => obtain ⟨t, q⟩ := r; cases q
    case flt => obtain ⟨t, q⟩ := r; cases q
    all_goals cases r
  cases v
  case notImplemented => exact absurd rfl hne
  all_goals exact hv

/-- a op b, both instances of the class at C that has the operator's def -/
def rOwn (C : Addr) (sp : Sp) : R2 := fun x y H Q => ∃ a b dx dy fs gs, x = .ref a ∧ y = .ref b ∧ H a = some (.ins C dx fs) ∧ H b = some (.ins C dy gs) ∧
  sp [x, y] H Q (fun _ _ _ => False)
theorem op_own {op : Operator} (F : FnR X.prog X.w X.K X.mg X.base (L2.CX X.prog X.w) k f sp) (hr : Room k X.A)
    (hf : PySem.W.selfFirst X.K C = true) (S : Spc X.K C (PySem.dunder op.info.2) f) : OpR X (binaryOp op) (rOwn C sp) := by
  intro pins s σ H x y v u Q I rx ry h
  obtain ⟨a, b, dx, dy, fs, gs, rfl, rfl, ea, eb, h⟩ := h
  obtain rfl : v = Value.ref a := rx
  obtain rfl : u = Value.ref b := ry
  obtain ⟨ox, od, Ja⟩ := instAt I ea
  obtain ⟨oy, oe, Jb⟩ := instAt I eb
  obtain ⟨m, fr⟩ := I.fr
  apply PySem.W.binop_K fr I.ok.mod.kin Ja Jb.type hf S.at_ S.fn
  exact cmpBack (runR (us := [.ref a, .ref b]) (vs := [.ref a, .ref b]) (E := EN) F hr passN I (.cons rfl (.cons rfl .nil)) h)
/-- -a -/
def rOwn1 (C : Addr) (sp : Sp) : V → Hp → VK → Prop := fun x H Q => ∃ a dx fs, x = .ref a ∧ H a = some (.ins C dx fs) ∧ sp [x] H Q (fun _ _ _ => False)
/-! ### == and != by an own __eq__ -/
/-- the class of a value, as the other side of == -/
inductive Side (K : PySem.W.Frag) (C : Addr) (H : Hp) : V → Value → Prop where
  | ins {b dy : Addr} {gs : List (Str × V)} (e : H b = some (.ins C dy gs)) : Side K C H (.ref b) (.ref C)
  | lst {b : Addr} {xs : List V} (e : H b = some (.lst xs)) : Side K C H (.ref b) (.type "list")
  | int (i : Int) : Side K C H (.int i) (.type "int")
  | str (z : Str) : Side K C H (.str z) (.type "str")
theorem Side.look {K : PySem.W.Frag} {pins : List (Addr × Obj)} {σ : L2.St} {H : Hp} {s : Shared} {y : V} {u t : Value} (S : Side X.K C H y t) (I : Inv X pins σ H s) (r : RelV y u) :
    PySem.W.Looks (model X.prog X.w) s.heap (typeOf u) t := by
  cases S with
  | @ins b dy gs e =>
    obtain rfl : u = Value.ref b := r
    obtain ⟨ox, od, J⟩ := instAt I e
    exact J.type
  | @lst b xs e =>
    obtain rfl : u = Value.ref b := r
    obtain ⟨_, its, n, _, h1⟩ := (show ObjOk X.prog X.w H s.heap b (.lst xs) from I.hok b _ e)
    intro A Q E s' k q
    exact wpAny_typeOf_ref (k _ _ h1) q
  | int i =>
    obtain ⟨t, rfl⟩ := r
    exact PySem.W.Looks.of_pure rfl
  | str z =>
    obtain ⟨t, rfl⟩ := r
    exact PySem.W.Looks.of_pure rfl

def rOwnC (K : PySem.W.Frag) (C : Addr) (sp : Sp) : R2 := fun x y H Q => ∃ a dx fs t, x = .ref a ∧ H a = some (.ins C dx fs) ∧ Side K C H y t ∧ PySem.W.notFirst K C t = true ∧
  sp [x, y] H Q (fun _ _ _ => False)
theorem op_eqOwn (F : FnR X.prog X.w X.K X.mg X.base (L2.CX X.prog X.w) k f sp) (hr : Room k X.A) (S : Spc X.K C "__eq__" f) :
    OpR X (compareOp .Eq) (rOwnC X.K C sp) := by
  intro pins s σ H x y v u Q I rx ry h
  obtain ⟨a, dx, fs, t, rfl, ea, sd, hn, h⟩ := h
  obtain rfl : v = Value.ref a := rx
  obtain ⟨ox, od, Ja⟩ := instAt I ea
  obtain ⟨m, fr⟩ := I.fr
  have hu := hr.units0
  apply PySem.W.cmp_K (op := .Eq) hu fr I.ok.mod.kin Ja (sd.look (K := X.K) I ry) hn S.at_ S.fn
  exact cmpBack (runR (us := [.ref a, u]) (vs := [.ref a, y]) (E := EN) F hr passN I (.cons rfl (.cons ry .nil)) h)

/-- what the class says of != : it is left to object -/
structure NeC (K : PySem.W.Frag) (C : Addr) : Prop where
  at_ : PySem.W.findIn K (.ref C) "__ne__" = some (some (.builtin "object.__ne__"))
  ob : PySem.W.subIn K (.ref C) (.type "object") = some true
end
end Z

set_option Elab.async false
set_option linter.all false
set_option maxRecDepth 100000
set_option maxHeartbeats 4000000
namespace Z
open PySem PySem.Spec PyProof.Rows L2
section
variable {prog : Program} {w : World} {A : Around} {E : Value → Shared → Prop} {s : Shared}
end
section
variable {X : Cx} {k : Nat} {f C : Addr} {sp : Sp}
/-- bool(x), x an instance with its own __bool__ -/
def rBoolOwn (C : Addr) (sp : Sp) : List V → Hp → VK → Prop := fun xs H Q => ∃ a dx fs, xs = [.ref a] ∧ H a = some (.ins C dx fs) ∧
  sp [.ref a] H (fun v H' => ∃ r, v = .bl r ∧ Q (.bl r) H') (fun _ _ _ => False)
end
end Z

set_option Elab.async false
set_option linter.all false
set_option maxRecDepth 100000
set_option maxHeartbeats 4000000
/-! readings, one step at a time -/
namespace Z
open PySem PySem.Spec PyProof.Rows L2
section
variable {X : Cx} {K : PySem.W.Frag} {σ σ' : L2.St} {H H1 : Hp} {D : Ends} {t u : TS} {te ta tb tc : TE} {tt tu : TT} {tr : TA} {g : TG} {Q : VK} {QB : Bool → Hp → Prop} {QA : List V → Hp → Prop} {QS : L2.St → Hp → Prop} {v x y : V} {i j : Nat} {A B : Prop}

theorem i_seq (h : t { D with nx := u D } σ H) : tSeq t u D σ H := h
theorem i_next (h : D.nx σ H) : tNext D σ H := h
theorem i_asg (h : te σ H (fun x H1 => g x σ H1 D.nx)) : tAsg te g D σ H := h
theorem i_gname (e : σ.set i (some v) = σ') (h : QS σ' H) : gName i v σ H QS := by
  subst e
  exact h
theorem i_ret (h : te σ H D.rt) : tRet te D σ H := h
theorem i_drop (h : te σ H (fun _ H1 => D.nx σ H1)) : tDrop te D σ H := h
theorem i_ifs (h : tt σ H (fun b H1 => if b = true then t D σ H1 else u D σ H1)) : tIfS tt t u D σ H := h
theorem i_test (h : te σ H (fun x H1 => ∃ k, x = .bl k ∧ QB k H1)) : tTest te σ H QB := h
theorem i_B (h : te σ H (fun x H1 => ∃ k, x = .bl k ∧ QB k H1)) : tB te σ H QB := h
theorem i_bl' {b : Bool} {P : Bool → Prop} (h : P b) : ∃ k, V.bl b = .bl k ∧ P k := ⟨b, rfl, h⟩
theorem i_and (h : tt σ H (fun c H1 => if c = true then tu σ H1 QB else QB false H1)) : tAnd tt tu σ H QB := h
theorem i_not (h : tt σ H (fun c H1 => QB (!c) H1)) : tNot tt σ H QB := h
theorem i_andV (h : ta σ H (fun x H1 => ∃ c, x = .bl c ∧ if c = true then tb σ H1 Q else Q (.bl false) H1)) : tAndV ta tb σ H Q := h
theorem i_orV (h : ta σ H (fun x H1 => ∃ c, x = .bl c ∧ if c = true then Q (.bl true) H1 else tb σ H1 Q)) : tOrV ta tb σ H Q := h
theorem i_ifx (h : tt σ H (fun c H1 => if c = true then ta σ H1 Q else tb σ H1 Q)) : tIf tt ta tb σ H Q := h
theorem i_dec {p : Prop} [Decidable p] (h1 : p → A) (h2 : ¬p → B) : if decide p = true then A else B := by
  by_cases hp : p
  · rw [if_pos (decide_eq_true hp)]
    exact h1 hp
  · rw [if_neg (by simpa using hp)]
    exact h2 hp
theorem i_ndec {p : Prop} [Decidable p] (h1 : ¬p → A) (h2 : p → B) : if (!decide p) = true then A else B := by
  by_cases hp : p
  · rw [if_neg (by simpa using hp)]
    exact h2 hp
  · rw [if_pos (by simpa using hp)]
    exact h1 hp
theorem i_bool {b : Bool} (h1 : b = true → A) (h2 : b = false → B) : if b = true then A else B := by
  cases b
  · exact h2 rfl
  · exact h1 rfl
theorem i_tt (h : A) : if true = true then A else B := h
theorem i_ff (h : B) : if false = true then A else B := h
theorem i_nt (h : B) : if (!true) = true then A else B := h
theorem i_nf (h : A) : if (!false) = true then A else B := h
/-! values -/
theorem i_var (e : σ[i]? = some (some v)) (h : Q v H) : tVar i σ H Q := ⟨v, e, h⟩
theorem i_c (h : Q v H) : tC v σ H Q := h
theorem i_op {r : R2} (h : ta σ H (fun x H1 => tb σ H1 (fun y H2 => r x y H2 Q))) : tOp r ta tb σ H Q := h
theorem i_un {r : V → Hp → VK → Prop} (h : ta σ H (fun x H1 => r x H1 Q)) : tUn r ta σ H Q := h
theorem i_cons (h : te σ H (fun x H1 => tr σ H1 (fun xs H2 => QA (x :: xs) H2))) : tCons te tr σ H QA := h
theorem i_nil (h : QA [] H) : tNil σ H QA := h
theorem i_cb {r : List V → Hp → VK → Prop} (h : tr σ H (fun vs H1 => r vs H1 Q)) : tCB r tr σ H Q := h
theorem i_call {sp : Sp} {E : L2.St → XK} (h : tr σ H (fun vs H1 => sp vs H1 Q (E σ))) : tCallS sp E tr σ H Q := h
theorem sz_small {n : Nat} (h : n ≤ 100000) : n ≤ sizeLine := Nat.le_trans h (by decide)
/-- what comes behind the items of a display -/
def rLst (xs : List V) (H1 : Hp) (Q : VK) : Prop := xs.length ≤ sizeLine ∧ ∀ p, H1 p = none → Q (.ref p) (upd H1 p (.lst xs))
def rTup (xs : List V) (H1 : Hp) (Q : VK) : Prop := xs.length ≤ sizeLine ∧ ∀ p, H1 p = none → Q (.ref p) (upd H1 p (.tup xs))
theorem i_lst0 (h : tr σ H (fun xs H1 => rLst xs H1 Q)) : tLst tr σ H Q := h
theorem i_tup0 (h : tr σ H (fun xs H1 => rTup xs H1 Q)) : tTup tr σ H Q := h
theorem i_lst1 {xs : List V} (hl : xs.length ≤ 100000) (h : ∀ p H2, H p = none → Same H H2 → H2 p = some (.lst xs) → (∀ b, b ≠ p → H2 b = H b) → Q (.ref p) H2) : rLst xs H Q :=
  ⟨sz_small hl, fun p hp => h p _ hp (fun b o e => by rw [upd_ne (ne_of_none e hp)]; exact e) upd_same (fun b hb => upd_ne hb)⟩
theorem i_tup1 {xs : List V} (hl : xs.length ≤ 100000) (h : ∀ p H2, H p = none → Same H H2 → H2 p = some (.tup xs) → (∀ b, b ≠ p → H2 b = H b) → Q (.ref p) H2) : rTup xs H Q :=
  ⟨sz_small hl, fun p hp => h p _ hp (fun b o e => by rw [upd_ne (ne_of_none e hp)]; exact e) upd_same (fun b hb => upd_ne hb)⟩
/-! attributes -/
def rFld (K : PySem.W.Frag) (f : Str) (x : V) (H1 : Hp) (Q : VK) : Prop := ∃ a C dx fs v, x = .ref a ∧ H1 a = some (.ins C dx fs) ∧ Cls K C ∧ NoAttr K C f ∧ fs.lookup f = some v ∧ Q v H1
theorem i_fld0 {f : Str} (h : ta σ H (fun x H1 => rFld K f x H1 Q)) : tFld K ta f σ H Q := h
theorem i_fld1 {f : Str} {a C dx : Addr} {fs : List (Str × V)} (e : H a = some (.ins C dx fs)) (c : Cls K C) (n : NoAttr K C f) (l : fs.lookup f = some v) (h : Q v H) : rFld K f (.ref a) H Q := ⟨a, C, dx, fs, v, rfl, e, c, n, l, h⟩
def rPut (K : PySem.W.Frag) (f : Str) (y x : V) (H2 : Hp) (Q : Hp → Prop) : Prop := ∃ a C dx fs, x = .ref a ∧ H2 a = some (.ins C dx fs) ∧ Cls K C ∧ NoAttr K C f ∧ fs.length < 1000 ∧ Q (upd H2 a (.ins C dx (putF f y fs)))
theorem i_put0 {f : Str} {tv : TE} (h : tv σ H (fun y H1 => ta σ H1 (fun x H2 => rPut K f y x H2 (fun H3 => D.nx σ H3)))) : sFld K ta tv f D σ H := h
theorem i_put1 {f : Str} {a C dx : Addr} {fs gs : List (Str × V)} {P : Hp → Prop} (e : H a = some (.ins C dx fs)) (c : Cls K C) (n : NoAttr K C f) (l : fs.length < 100) (w : putF f y fs = gs)
    (h : ∀ H2, H2 a = some (.ins C dx gs) → (∀ b, b ≠ a → H2 b = H b) → P H2) : rPut K f y (.ref a) H P :=
  ⟨a, C, dx, fs, rfl, e, c, n, by omega, by rw [w]; exact h _ upd_same (fun b hb => upd_ne hb)⟩
/-! methods, new instances -/
def rMeth (C : Addr) (m : Str) (x : V) (H1 : Hp) (P : Prop) : Prop := ∃ a dx fs, x = .ref a ∧ H1 a = some (.ins C dx fs) ∧ fs.lookup m = none ∧ P
theorem i_meth {C : Addr} {m : Str} {sp : Sp} {E : L2.St → XK} (h : ta σ H (fun x H1 => rMeth C m x H1 (tr σ H1 (fun vs H2 => sp (x :: vs) H2 Q (E σ))))) : tMethS C m sp E ta tr σ H Q := h
theorem i_meth1 {C a dx : Addr} {m : Str} {fs : List (Str × V)} {P : Prop} (e : H a = some (.ins C dx fs)) (l : fs.lookup m = none) (h : P) : rMeth C m (.ref a) H P := ⟨a, dx, fs, rfl, e, l, h⟩
def rNew (C : Addr) (sp : Sp) (vs : List V) (H1 : Hp) (Q : VK) (E : XK) : Prop := ∀ x dx, H1 x = Option.none → H1 dx = Option.none → dx ≠ x →
  sp (V.ref x :: vs) (upd (upd H1 dx (.own x)) x (.ins C dx [])) (fun v H2 => v = .non ∧ Q (.ref x) H2) (fun cls d H2 => E cls d H2)
theorem i_make {C : Addr} {sp : Sp} {E : L2.St → XK} (h : tr σ H (fun vs H1 => rNew C sp vs H1 Q (E σ))) : tMakeS C sp E tr σ H Q := h
/-! ints -/
theorem i_rI0 {f : Int → Int → V} {a b : Int} (h : Q (f a b) H) : rI0 f (.int a) (.int b) H Q := ⟨a, b, rfl, rfl, h⟩
theorem i_rI {C : Int → Int → Prop} {f : Int → Int → V} {a b : Int} (c : C a b) (h : Q (f a b) H) : rI C f (.int a) (.int b) H Q := ⟨a, b, rfl, rfl, c, h⟩
theorem i_rU {f : Int → V} {a : Int} (h : Q (f a) H) : rU f (.int a) H Q := ⟨a, rfl, h⟩
theorem i_eqI {a b : Int} (h : Q (.bl (decide (a = b))) H) : rEq (.int a) (.int b) H Q := ⟨rfl, by
  have e : decide (V.int a = V.int b) = decide (a = b) := by by_cases h : a = b <;> simp [h]
  rw [e]
  exact h⟩
theorem i_neS {a b : Str} (h : Q (.bl (!decide (a = b))) H) : rNe (.str a) (.str b) H Q := ⟨rfl, by
  have e : decide (V.str a = V.str b) = decide (a = b) := by by_cases h : a = b <;> simp [h]
  rw [e]
  exact h⟩
/-- // by a divisor of either sign -/
def CDivZ (_ j : Int) : Prop := j ≠ 0 ∧ j.natAbs.log2 < 9000
theorem op_fdivZ : OpR X (binaryOp .FloorDiv) (rI CDivZ fun i j => .int (i.fdiv j)) := opI fun i j _ _ _ _ _ hc q => floordiv_int hc.1 q (.inl (PyProof.noPylong_of_log2 hc.2))
theorem cdivZ {i j : Int} {n : Nat} (h : j ≠ 0) (s : ZR.Sz n j) (h0 : 0 < n := by decide) (h9 : n ≤ 9000 := by decide) : CDivZ i j := ⟨h, Nat.lt_of_lt_of_le (PySem.Flt.log2_lt_of h0 s) h9⟩
theorem cmulW {i j : Int} {n m : Nat} (s : ZR.Sz n i) (s' : ZR.Sz m j) (h0 : 0 < n := by decide) (h1 : 0 < m := by decide) (h : n + m ≤ 1000000 := by decide) : CMulW i j := wide_mul s s' h0 h1 h
/-! lists and tuples by place -/
theorem i_ixL {p : Addr} {xs : List V} {k : Nat} (s : SqL K H p xs) (e : xs[k]? = some v) (h : Q v H) : rIxL K (.ref p) (.int (k : Nat)) H Q := ⟨p, xs, _, v, rfl, rfl, s, atI_nat e, h⟩
theorem i_gcd {a b : Int} (h : Q (.int ((Nat.gcd a.natAbs b.natAbs : Nat) : Int)) H) : rGcd [.int a, .int b] H Q := ⟨a, b, rfl, h⟩
end
end Z

set_option Elab.async false
set_option linter.all false
set_option maxRecDepth 100000
set_option maxHeartbeats 4000000
/-! what is known of the text's defs, in short -/
namespace Z
open PySem PySem.Spec PyProof.Rows L2
section
variable (P : Program) (w : World) (K : PySem.W.Frag) (mg : Str → Option Value) (base : Heap)
/-- a def of the module -/
def Cal (x : Str) (k : Nat) (sp : Sp) : Prop := ∃ f, mg x = some (.ref f) ∧ PySem.W.keepIn K (.ref f) = true ∧ FnR P w K mg base (L2.CX P w) k f sp
/-- a method of the class at C -/
def CalM (C : Addr) (m : Str) (k : Nat) (sp : Sp) : Prop := ∃ f, Meth K C m f ∧ FnR P w K mg base (L2.CX P w) k f sp
/-- a class and its __init__ -/
def CalI (x : Str) (C : Addr) (k : Nat) (sp : Sp) : Prop := mg x = some (.ref C) ∧ ∃ f, Mk K C f ∧ FnR P w K mg base (L2.CX P w) k f sp
/-- an operator's def -/
def CalO (C : Addr) (n : Str) (k : Nat) (sp : Sp) : Prop := ∃ f, Spc K C n f ∧ PySem.W.selfFirst K C = true ∧ FnR P w K mg base (L2.CX P w) k f sp
/-- a classmethod -/
def CalK (C : Addr) (m : Str) (k : Nat) (sp : Sp) : Prop := ∃ mc p g, ClX.CRead K C mc ∧ ClX.CMet K C mc m p g ∧ FnR P w K mg base (L2.CX P w) k g sp
/-- an error class with its own __init__ -/
def CalX (x : Str) (C : Addr) (k : Nat) (ps : List Str) (sp : Sp) : Prop := mg x = some (.ref C) ∧ OexC K C ∧ ∃ fI fd, PySem.W.findIn K (.ref C) "__init__" = some (some (.ref fI)) ∧
  PySem.W.typeIn K (.ref fI) = some (.type "function") ∧ FnOk P w K mg base (L2.CX P w) k fI fd ps sp ∧ Binds K fd ps []
/-- the errors' common class, of which __init__ is called by name -/
def CalT (x : Str) : Prop := ∃ T mc, mg x = some (.ref T) ∧ ClX.CRead K T mc ∧ PySem.W.findCls K (.ref T) mc "__init__" = some (.val (.builtin "ValueError.__init__"))
end
section
variable {X : Cx} {k j : Nat} {C : Addr} {sp : Sp} {E : L2.St → XK} {x m : Str} {p pos apos : Pos} {e o : Expr} {es : List Expr} {ta te : TE} {t : TA}
theorem z_callC (c : Cal X.prog X.w X.K X.mg X.base x k sp) (hr : Room j X.A) (hx : ∀ σ, PassesAt (L2.CX X.prog X.w) X σ (E σ)) (ha : PA X (e :: es) t) (hj : k ≤ j := by decide) (hg : Gl X x := by rfl)
    (hdb : (x == ("__debug__" : Str)) = false := by decide) (he : starEach (e :: es) X.env = (false, eval e X.env) :: starEach es X.env := by rfl)
    (hpl : (backTo pos (starEach es X.env)).any (·.1) = false := by rfl) : PE X (.Call (.Name x p) (e :: es) [] pos) (tCallS sp E t) := by
  obtain ⟨f, hm, hk, F⟩ := c
  exact z_call F (hr.mono hj) hm hk hx ha hg hdb he hpl
theorem z_makeC (c : CalI X.prog X.w X.K X.mg X.base x C k sp) (hr : Room j X.A) (hx : ∀ σ, PassesAt (L2.CX X.prog X.w) X σ (E σ)) (ha : PA X (e :: es) t) (hj : k + 1 ≤ j := by decide) (hg : Gl X x := by rfl)
    (hdb : (x == ("__debug__" : Str)) = false := by decide) (he : starEach (e :: es) X.env = (false, eval e X.env) :: starEach es X.env := by rfl)
    (hpl : (backTo pos (starEach es X.env)).any (·.1) = false := by rfl) : PE X (.Call (.Name x p) (e :: es) [] pos) (tMakeS C sp E t) := by
  obtain ⟨hm, f, M, F⟩ := c
  exact z_make M F (hr.mono hj) hm hx ha hg hdb he hpl
/-- cls(e, ..), cls a local name that holds the class -/
def tMakeL (i : Nat) (C : Addr) (sp : Sp) (E : L2.St → XK) (t : TA) : TE := fun σ H Q => σ[i]? = some (some (.ref C)) ∧ tMakeS C sp E t σ H Q
theorem z_makeL {i : Nat} {y : Str} (c : CalI X.prog X.w X.K X.mg X.base y C k sp) (hr : Room j X.A) (hx : ∀ σ, PassesAt (L2.CX X.prog X.w) X σ (E σ)) (ha : PA X (e :: es) t) (hj : k + 1 ≤ j := by decide)
    (hN : X.N[i]? = some x := by rfl) (hv : Vis X.env.scope x := by first | exact Or.inl rfl | exact Or.inr (Or.inl rfl) | exact Or.inr (Or.inr rfl))
    (hdb : (x == ("__debug__" : Str)) = false := by decide) (hcd : (x == ("__classdict__" : Str)) = false := by decide)
    (he : starEach (e :: es) X.env = (false, eval e X.env) :: starEach es X.env := by rfl)
    (hpl : (backTo pos (starEach es X.env)).any (·.1) = false := by rfl) : PE X (.Call (.Name x p) (e :: es) [] pos) (tMakeL i C sp E t) := by
  obtain ⟨hm, f, M, F⟩ := c
  constructor
  intro pins s σ H Q I h
  obtain ⟨hs, h⟩ := h
  apply wpAny_Call_Name_kw
  refine thn ((pe_var (pos := p) (i := i) hN hv hdb hcd).run pins s σ H (fun v H1 => v = .ref C ∧ H1 = H) I ⟨.ref C, hs, rfl, rfl⟩) fun u s1 hh => ?_
  obtain ⟨v, H1, I1, r1, ev, eH⟩ := hh
  subst ev
  rw [eH] at I1
  obtain rfl : u = Value.ref C := r1
  apply PySem.W.callWith_K (h₀ := X.base) I.ok.mod.kin M.kp _ he hpl
  refine thn (ha.run pos pins s1 σ H _ I1 h) fun us s2 hh => ?_
  obtain ⟨vs, H2, I2, r, q⟩ := hh
  exact ⟨I2.kIn, runMake M F (hr.mono hj) hx I2 r q⟩
theorem z_methC {pl : Sem Bool} (he : PE X o ta) (c : Cls X.K C) (d : CalM X.prog X.w X.K X.mg X.base C m k sp) (hr : Room j X.A) (hx : ∀ σ, PassesAt (L2.CX X.prog X.w) X σ (E σ)) (ha : PA X (e :: es) t) (hj : k ≤ j := by decide)
    (hst : starEach (e :: es) X.env = (false, eval e X.env) :: starEach es X.env := by rfl)
    (hpl : (backTo pos (starEach es X.env)).any (·.1) = false := by rfl)
    (ht : eval (.Call (.Attribute o m apos) (e :: es) [] pos) X.env = (do
      let ov ← eval o X.env
      standAt apos.atName
      let (f, first) ← holding [ov] (getMethod ov m pl)
      callWith pos f first (backTo pos (starEach (e :: es) X.env)) (backToKw pos (keywordEach [] X.env))) := by rfl) :
    PE X (.Call (.Attribute o m apos) (e :: es) [] pos) (tMethS C m sp E ta t) := by
  obtain ⟨f, hm, F⟩ := d
  exact z_meth he c hm F (hr.mono hj) hx ha hst hpl ht
theorem z_meth0C {pl : Sem Bool} (he : PE X o ta) (c : Cls X.K C) (d : CalM X.prog X.w X.K X.mg X.base C m k sp) (hr : Room j X.A) (hx : ∀ σ, PassesAt (L2.CX X.prog X.w) X σ (E σ)) (hj : k ≤ j := by decide)
    (ht : eval (.Call (.Attribute o m apos) [] [] pos) X.env = (do
      let ov ← eval o X.env
      standAt apos.atName
      let (f, first) ← holding [ov] (getMethod ov m pl)
      callWith pos f first (backTo pos (starEach [] X.env)) (backToKw pos (keywordEach [] X.env))) := by rfl) :
    PE X (.Call (.Attribute o m apos) [] [] pos) (tMethS C m sp E ta tNil) := by
  obtain ⟨f, hm, F⟩ := d
  exact z_meth0 he c hm F (hr.mono hj) hx ht
/-- C.m(e, ..), m a classmethod -/
def tCMethS (C : Addr) (sp : Sp) (E : L2.St → XK) (ta : TE) (t : TA) : TE := fun σ H Q => ta σ H fun x H1 => x = .ref C ∧ t σ H1 fun vs H2 => sp (.ref C :: vs) H2 Q (E σ)
theorem z_cmethC {pl : Sem Bool} (ho : PE X o ta) (d : CalK X.prog X.w X.K X.mg X.base C m k sp) (hr : Room j X.A) (hx : ∀ σ, PassesAt (L2.CX X.prog X.w) X σ (E σ)) (ha : PA X (e :: es) t) (hj : k ≤ j := by decide)
    (hst : starEach (e :: es) X.env = (false, eval e X.env) :: starEach es X.env := by rfl)
    (hpl : (backTo pos (starEach es X.env)).any (·.1) = false := by rfl)
    (ht : eval (.Call (.Attribute o m apos) (e :: es) [] pos) X.env = (do
      let ov ← eval o X.env
      standAt apos.atName
      let (f, first) ← holding [ov] (getMethod ov m pl)
      callWith pos f first (backTo pos (starEach (e :: es) X.env)) (backToKw pos (keywordEach [] X.env))) := by rfl) :
    PE X (.Call (.Attribute o m apos) (e :: es) [] pos) (tCMethS C sp E ta t) := by
  obtain ⟨mc, pp, g, r, c, F⟩ := d
  constructor
  intro pins s σ H Q I h
  refine PySem.W.methodCall_KW (pl := pl) (thn (ho.run pins s σ H _ I h) fun u s1 hh => ?_) ht
  obtain ⟨x, H1, I1, rx, ex, q⟩ := hh
  subst ex
  obtain rfl : u = Value.ref C := rx
  apply ClX.getmethcm_ok I1 r c
  intro s2 I2
  apply ClX.callwith_cm I2 (ClX.base_none I1 (Nat.le_refl _)) c.fi _ hst hpl
  refine thn (ha.run pos _ s2 σ H1 _ I2 q) fun us s3 hh => ?_
  obtain ⟨vs, H2, I3, rv, q2⟩ := hh
  refine ⟨⟨ClX.pin_at I3, I3.kIn⟩, ?_⟩
  have z : wpAny (model X.prog X.w) X.A (call (.ref s1.heap.objs.size) us) (EP X ((s1.heap.objs.size, PySem.W.methodObj (.ref g) (.ref C)) :: pins) σ Q) X.xe s3 := by
    refine wpAny_call (PySem.W.method_call (ClX.pin_at I3) ?_)
    refine codeAny_mono (F X.A X.stack s3 H2 (.ref C :: us) (.ref C :: vs) Q (E σ) (hr.mono hj) I3.env0 (.cons rfl rv) q2) fun a s' hq => ?_
    rcases a with er | fl
    · exact hx σ _ H2 s3 er s' I3 hq
    · rcases fl with _ | _ | _ | v
      · exact False.elim hq
      · exact False.elim hq
      · exact False.elim hq
      · exact I3.after hq
  exact thn z fun _ _ y => ClX.unpinE y
/-! operators -/
theorem z_op {op : Operator} {nm : Str} (c : CalO X.prog X.w X.K X.mg X.base C nm k sp) (hr : Room j X.A) (hj : k ≤ j := by decide) (hn : nm = PySem.dunder op.info.2 := by rfl) : OpR X (binaryOp op) (rOwn C sp) := by
  obtain ⟨f, S, sf, F⟩ := c
  exact op_own F (hr.mono hj) sf (by rw [← hn]; exact S)
theorem z_eqO (c : CalO X.prog X.w X.K X.mg X.base C "__eq__" k sp) (hr : Room j X.A) (hj : k ≤ j := by decide) : OpR X (compareOp .Eq) (rOwnC X.K C sp) := by
  obtain ⟨f, S, sf, F⟩ := c
  exact op_eqOwn F (hr.mono hj) S
def rOwnN (K : PySem.W.Frag) (C : Addr) (sp : Sp) : R2 := fun x y H Q => ∃ a dx fs t, x = .ref a ∧ H a = some (.ins C dx fs) ∧ Side K C H y t ∧ PySem.W.notFirst K C t = true ∧
      sp [x, y] H (fun v H' => ∃ r, v = .bl r ∧ Q (.bl (!r)) H') (fun _ _ _ => False)
/-! errors -/
theorem z_mkX {ps : List Str} (c : CalX X.prog X.w X.K X.mg X.base x C k ps sp) (hr : Room j X.A) (ha : PA X (e :: es) t) (hj : k + 1 ≤ j := by decide) (hg : Gl X x := by rfl)
    (hdb : (x == ("__debug__" : Str)) = false := by decide) (he : starEach (e :: es) X.env = (false, eval e X.env) :: starEach es X.env := by rfl)
    (hpl : (backTo pos (starEach es X.env)).any (·.1) = false := by rfl) : PMk X (.Call (.Name x p) (e :: es) [] pos) (tMkO C sp [] t) := by
  obtain ⟨hm, T, fI, fd, iC, tI, F, b⟩ := c
  exact pmk_oex T iC tI F (hr.mono hj) b .nil passL hg hm ha hdb he hpl
/-- ThrowError.__init__(self, ..) -/
theorem z_tinit {p1 p2 : Pos} {pl : Sem Bool} (hg : Gl X x) (c : CalT X.K X.mg x) (ha : PA X (e :: es) t)
    (hc : eval (.Call (.Attribute (.Name x p1) "__init__" p2) (e :: es) [] pos) X.env = (do
      let ov ← eval (.Name x p1) X.env
      standAt p2.atName
      let (f, first) ← holding [ov] (getMethod ov "__init__" pl)
      callWith pos f first (backTo pos (starEach (e :: es) X.env)) (backToKw pos (keywordEach [] X.env))) := by rfl)
    (hdb : (x == ("__debug__" : Str)) = false := by decide) (he : starEach (e :: es) X.env = (false, eval e X.env) :: starEach es X.env := by rfl)
    (hpl : (backTo pos (starEach es X.env)).any (·.1) = false := by rfl) :
    PE X (.Call (.Attribute (.Name x p1) "__init__" p2) (e :: es) [] pos) (tVeI X.K t) := by
  obtain ⟨T, mc, hm, r, vV⟩ := c
  constructor
  intro pins s σ H Q I h
  refine PySem.W.methodCall_KW (ld_glob I hg hm ?_ hdb) hc
  apply PySem.W.method_cls I.kIn r.ga
  apply PySem.W.cls_value I.kIn r.rd vV (by decide +kernel)
  show wpAny _ _ (callWith pos (Value.builtin "ValueError.__init__") [] (backTo pos (starEach (e :: es) X.env)) []) _ _ _
  refine PyProof.Rows.callWith_method1 (thn (ha.run pos pins _ σ H _ (I.tok _) h) fun us s1 hh => ?_) he hpl
  obtain ⟨vs, H1, I1, r1, a, C, ws, ev, hl, T', ea, q⟩ := hh
  subst ev
  cases r1 with
  | @cons _ u0 _ ur ra rw' =>
    obtain rfl : u0 = Value.ref a := ra
    have hlen : ur.length ≤ sizeLine := by
      rw [← Paired.length rw', sizeLine_eq]
      omega
    exact oinit_ok T' I1 ea hlen fun s' J => ⟨.non, H1, J, rfl, q⟩
end
/-! a def by its body -/
section
variable {P : Program} {w : World} {K : PySem.W.Frag} {mg : Str → Option Value} {base : Heap}
theorem fnOk_mk {x qual : Str} {st : Stmt} {f : Addr} {fd : FuncData} {N ps : List Str} {k : Nat} {sp : Sp} (F : L2.Fun K x qual st f fd) (S : FnScope N ps (defScope st)) (len : ∀ vs H Q E, sp vs H Q E → vs.length = ps.length)
    (hbody : ∀ (cdv : Value) (A : Around) (outer : List Env) (s : Shared) (H : Hp) (vs : List V) (Q : VK) (E : XK), Room k (A.deeper (envOfC qual (defScope st) s.heap.objs.size f cdv)) → sp vs H Q E →
      ∃ t, PSs (cxOf (L2.CX P w) P w K mg base N qual (defScope st) f cdv A outer s H E) (defBody st) t ∧ t { nx := fun _ H' => Q .non H', rt := Q } (start N vs) H) : FnOk P w K mg base (L2.CX P w) (k + 1) f fd ps sp :=
  F.okX S len hbody
theorem fnR_of {f : Addr} {fd : FuncData} {ps : List Str} {k : Nat} {sp : Sp} (F : FnOk P w K mg base (L2.CX P w) k f fd ps sp) (b : Binds K fd ps []) : FnR P w K mg base (L2.CX P w) k f sp := by
  have h := F.raw b .nil
  refine h.imp fun vs H Q E q => ?_
  rw [List.append_nil]
  exact q
end
end Z

set_option Elab.async false
set_option linter.all false
set_option maxRecDepth 100000
set_option maxHeartbeats 4000000
/-! in, not in over a list, by an own == -/
namespace Z
open PySem PySem.Spec PyProof.Rows L2
section
open PySem.SeqAt AutoSeq1 MeetsSeq MeetsSeq2 MeetsSeq3 SeqRoads2
variable {prog : Program} {w : World} {A : Around} {R : Result → Shared → Prop}
/-- turn i: the list stands, and == of its i-th item and x says r -/
def LookI (prog : Program) (w : World) (A : Around) (R : Result → Shared → Prop) (l : Addr) (x : Value) (N : Nat) (I : Nat → Shared → Prop) : Prop :=
  ∀ i s, I i s → ∃ (its : Array Value) (n : Nat), s.heap.get? l = some { cls := .type "list", data := .seq its n } ∧ its.size = N ∧
    ∀ h1 : i < its.size, wpAny (model prog w) A.in1 (eqBool its[i] x) (fun r s' => if r = true then R (.ok (.ret (.bool true))) s' else I (i + 1) s') (fun e s' => R (.error e) s') s
end
section
variable {X : Cx} {k : Nat} {C : Addr} {sp : Sp}
/-- what == of two instances says here: some bool, and the objects stand -/
def EqSome (C : Addr) (sp : Sp) (H : Hp) (y x : V) : Prop := ∀ H', Same H H' → ∃ a dx fs b dy gs, y = .ref a ∧ x = .ref b ∧ H' a = some (.ins C dx fs) ∧ H' b = some (.ins C dy gs) ∧
  sp [y, x] H' (fun v H2 => (∃ r, v = .bl r) ∧ Same H' H2) (fun _ _ _ => False)
/-- x in xs, where x itself stands in xs -/
def rInO (C : Addr) (sp : Sp) (b : Bool) : R2 := fun x y H Q => ∃ p xs, y = .ref p ∧ H p = some (.lst xs) ∧ x ∈ xs ∧ (∀ z ∈ xs, EqSome C sp H z x) ∧ ∀ H', Same H H' → Q (.bl b) H'
/-- xs != ys, two lists of the very same objects -/
def rNeL : R2 := fun x y H Q => ∃ a b xs, x = .ref a ∧ y = .ref b ∧ H a = some (.lst xs) ∧ H b = some (.lst xs) ∧ (∀ z ∈ xs, ∃ p, z = .ref p) ∧ Q (.bl false) H
end
end Z

set_option Elab.async false
set_option linter.all false
set_option maxRecDepth 100000
set_option maxHeartbeats 4000000
/-! ratios: what stands for them, and what their defs promise -/
namespace Z
open PySem PySem.Spec PyProof.Rows L2
/-- an own class whose instances are asked by isinstance -/
structure ClO (K : PySem.W.Frag) (C : Addr) : Prop extends Cls K C where
  ha : PySem.W.findIn K (.ref C) "__class__" = some (some (.builtin "object.__class__"))
  hn : PySem.W.specialIn K (.builtin "object.__class__") "__get__" = some (some (.builtin "getset_descriptor.__get__"))
  htk : PySem.W.takesIn K (.builtin "object.__class__") = some true
  hm : PySem.W.mroIn K C (.type "object") = some true
theorem ClO.ty {K : PySem.W.Frag} {C a dx : Addr} {H : Hp} {fs : List (Str × V)} (c : ClO K C) (e : H a = some (.ins C dx fs)) : TyX K H (.ref a) (.ref C) := .base (.ins e c.toCls c.ha c.hn c.htk c.hm)
theorem Same.at {H H' : Hp} {a : Addr} {o : HO} (s : Same H H') (e : H a = some o) : H' a = some o := s a o e
/-! ### an error with one attribute, made and raised -/
def rMkO (C : Addr) (sp : Sp) (vs : List V) (H1 : Hp) (Q : XK) : Prop := vs.length ≤ 1000 ∧ ∀ a, H1 a = none → sp (.ref a :: (vs ++ [])) (upd H1 a (exo a C none))
  (fun v H2 => v = .non ∧ ∃ (d : Addr) (fs : List (Str × V)), H2 a = some (exo a C (some d)) ∧ H2 d = some (exd d fs) ∧ H1 d = none ∧ Q (.ref C) (some d) (upd (del H2 a) d (.xd fs))) (fun _ _ _ => False)
theorem i_mkO {C : Addr} {sp : Sp} {ta : TA} {σ : L2.St} {H : Hp} {Q : XK} (h : ta σ H (fun vs H1 => rMkO C sp vs H1 Q)) : tMkO C sp [] ta σ H Q := h
/-- __init__ keeps the one argument under the name f -/
def spX1 (K : PySem.W.Frag) (C : Addr) (f : Str) (G : V → Hp → Prop) : Sp := fun vs H Q _ => vs.length = 2 ∧ ∃ a v, vs = [.ref a, v] ∧ H a = some (exo a C none) ∧ G v H ∧
  ∀ dx H1, H dx = none → dx ≠ a → Same H H1 → H1 dx = none → Q .non (upd (upd H1 dx (exd dx [(f, v)])) a (exo a C (some dx)))
theorem i_mkX1 {K : PySem.W.Frag} {C : Addr} {f : Str} {G : V → Hp → Prop} {v : V} {H : Hp} {Q : XK} (g : ∀ H', Same H H' → G v H') (h : ∀ d H', H d = none → Same H H' → H' d = some (.xd [(f, v)]) → Q (.ref C) (some d) H') :
    rMkO C (spX1 K C f G) [v] H Q := by
  refine ⟨by show 1 ≤ 1000; decide, fun a ha => ?_⟩
  have s0 : Same H (upd H a (exo a C none)) := fun b o e => by rw [upd_ne (ne_of_none e ha)]; exact e
  refine ⟨rfl, a, v, rfl, upd_same, g _ s0, fun dx H1 hd hne sm hd1 => ?_⟩
  have hdH : H dx = none := by rw [upd_ne hne] at hd; exact hd
  refine ⟨rfl, dx, [(f, v)], upd_same, by rw [upd_ne hne, upd_same], hdH, h dx _ hdH (fun b o e => ?_) upd_same⟩
  have nb : b ≠ dx := ne_of_none e hdH
  have na : b ≠ a := ne_of_none e ha
  rw [upd_ne nb, del_ne na, upd_ne na, upd_ne nb]
  exact sm b o (s0 b o e)

/-! ### f-strings, by parts -/
def rFmt (x : V) (H1 : Hp) (Q : VK) : Prop := (∃ y : Str, x = .str y ∧ y.length ≤ sizeLine ∧ Q (.str y) H1) ∨ ∃ i : Int, x = .int i ∧ i.natAbs.log2 < 1920 ∧ Q (.str (toString i)) H1
theorem i_fmt {te : TE} {σ : L2.St} {H : Hp} {Q : VK} (h : te σ H (fun x H1 => rFmt x H1 Q)) : tFmt te σ H Q := h
theorem i_fmtS {y : Str} {H : Hp} {Q : VK} (l : y.length ≤ sizeLine) (h : Q (.str y) H) : rFmt (.str y) H Q := .inl ⟨y, rfl, l, h⟩

/-! ### ratios -/
def rf (q : Rat) : List (Str × V) := [("top", .int q.num), ("bottom", .int (q.den : Int))]
def IsR (CR : Addr) (H : Hp) (a : Addr) (q : Rat) : Prop := ∃ dx, H a = some (.ins CR dx (rf q))
theorem IsR.mono {CR a : Addr} {H H' : Hp} {q : Rat} (s : Same H H') (h : IsR CR H a q) : IsR CR H' a q := let ⟨dx, e⟩ := h; ⟨dx, s _ _ e⟩
theorem rf_top (q : Rat) : (rf q).lookup ("top" : Str) = some (V.int q.num) := by unfold rf; simp [List.lookup]
theorem rf_bot (q : Rat) : (rf q).lookup ("bottom" : Str) = some (V.int (q.den : Int)) := by
  have h : (("bottom" : Str) == "top") = false := by decide +kernel
  unfold rf
  simp [List.lookup, h]
theorem rf_no {m : Str} (q : Rat) (h1 : (m == ("top" : Str)) = false) (h2 : (m == ("bottom" : Str)) = false) : (rf q).lookup m = none := by
  unfold rf
  simp [List.lookup, h1, h2]
theorem rf_put1 (v : V) : putF "top" v [] = [(("top" : Str), v)] := rfl
theorem rf_put2 (v u : V) : putF "bottom" v [(("top" : Str), u)] = [(("top" : Str), u), (("bottom" : Str), v)] := by
  show (if ("top" : Str) = "bottom" then _ else (("top" : Str), u) :: putF "bottom" v []) = _
  rw [if_neg (by decide +kernel)]
  rfl
theorem i_top {K : PySem.W.Frag} {CR a : Addr} {H : Hp} {q : Rat} {Q : VK} (h : IsR CR H a q) (c : ClO K CR) (n : NoAttr K CR "top") (k : Q (.int q.num) H) : rFld K "top" (.ref a) H Q :=
  let ⟨_, e⟩ := h; i_fld1 e c.toCls n (rf_top q) k
theorem i_bot {K : PySem.W.Frag} {CR a : Addr} {H : Hp} {q : Rat} {Q : VK} (h : IsR CR H a q) (c : ClO K CR) (n : NoAttr K CR "bottom") (k : Q (.int (q.den : Int)) H) : rFld K "bottom" (.ref a) H Q :=
  let ⟨_, e⟩ := h; i_fld1 e c.toCls n (rf_bot q) k

/-- the error of a bottom 0 -/
def EBad (CB : Addr) (n : Int) (H : Hp) (E : XK) : Prop := ∀ d H', Same H H' → H' d = some (.xd [("n", .int n)]) → E (.ref CB) (some d) H'
def spRInit (CR CB : Addr) : Sp := fun vs H Q E => vs.length = 3 ∧ ∃ a t b, vs = [.ref a, .int t, .int b] ∧ (∃ dx, H a = some (.ins CR dx [])) ∧ (b = 0 ∨ ZR.Sz 8000 b) ∧
  (b = 0 → EBad CB 0 H E) ∧ (b ≠ 0 → ∀ H', IsR CR H' a ((t : Rat) / (b : Rat)) → (∀ x, x ≠ a → H' x = H x) → Q .non H')
/-- Ratio(t, b) with b other than 0 -/
theorem i_newR {CR CB : Addr} {t b : Int} {H : Hp} {Q : VK} {E : XK} (hb : b ≠ 0) (hz : ZR.Sz 8000 b) (h : ∀ p H', H p = none → Same H H' → IsR CR H' p ((t : Rat) / (b : Rat)) → Q (.ref p) H') :
    rNew CR (spRInit CR CB) [.int t, .int b] H Q E := by
  intro x dx hx hdx hne
  refine ⟨rfl, x, t, b, rfl, ⟨dx, upd_same⟩, .inr hz, fun h0 => absurd h0 hb, fun _ H' hr hs => ⟨rfl, h x H' hx (fun c o e => ?_) hr⟩⟩
  have n1 : c ≠ x := ne_of_none e hx
  rw [hs c n1, upd_ne n1, upd_ne (ne_of_none e hdx)]
  exact e
/-- a def of two ratios that hands back a new one -/
def spR2 (CR : Addr) (f : Rat → Rat → Rat) : Sp := fun vs H Q _ => vs.length = 2 ∧ ∃ a b p q, vs = [.ref a, .ref b] ∧ IsR CR H a p ∧ IsR CR H b q ∧ ZR.Bd 2000 p ∧ ZR.Bd 2000 q ∧
  ∀ c H', H c = none → Same H H' → IsR CR H' c (f p q) → Q (.ref c) H'
def spR1 (CR : Addr) (f : Rat → Rat) : Sp := fun vs H Q _ => vs.length = 1 ∧ ∃ a p, vs = [.ref a] ∧ IsR CR H a p ∧ ZR.Bd 2000 p ∧
  ∀ c H', H c = none → Same H H' → IsR CR H' c (f p) → Q (.ref c) H'
/-- the other side of ==: another ratio, or no ratio -/
def spREq (K : PySem.W.Frag) (CR : Addr) : Sp := fun vs H Q _ => vs.length = 2 ∧ ∃ a p y, vs = [.ref a, y] ∧ IsR CR H a p ∧
  ((∃ b q, y = .ref b ∧ IsR CR H b q ∧ ∀ H', Same H H' → Q (.bl (decide (p = q))) H') ∨
   (∃ t, TyX K H y t ∧ PySem.W.kitOne K t (.ref CR) = some false ∧ ∀ H', Same H H' → Q (.bl false) H'))
def spRBool (CR : Addr) : Sp := fun vs H Q _ => vs.length = 1 ∧ ∃ a p, vs = [.ref a] ∧ IsR CR H a p ∧ ∀ H', Same H H' → Q (.bl (decide (p ≠ 0))) H'
def spRUnder (CR : Addr) : Sp := fun vs H Q _ => vs.length = 2 ∧ ∃ a b p q, vs = [.ref a, .ref b] ∧ IsR CR H a p ∧ IsR CR H b q ∧ ZR.Bd 2000 p ∧ ZR.Bd 2000 q ∧
  ∀ H', Same H H' → Q (.bl (decide (p < q))) H'
def spRQuot (CR CB : Addr) : Sp := fun vs H Q E => vs.length = 2 ∧ ∃ a b p q, vs = [.ref a, .ref b] ∧ IsR CR H a p ∧ IsR CR H b q ∧ ZR.Bd 2000 p ∧ ZR.Bd 2000 q ∧
  (q = 0 → EBad CB 0 H E) ∧ (q ≠ 0 → ∀ c H', H c = none → Same H H' → IsR CR H' c (p / q) → Q (.ref c) H')
def spRWhole (CR : Addr) : Sp := fun vs H Q _ => vs.length = 2 ∧ ∃ n, vs = [.ref CR, .int n] ∧ ∀ c H', H c = none → Same H H' → IsR CR H' c (n : Rat) → Q (.ref c) H'
section
variable {K : PySem.W.Frag} {CR CB a b : Addr} {p q : Rat} {H : Hp} {Q : VK} {E : XK} {f : Rat → Rat → Rat} {f1 : Rat → Rat}
theorem i_R2 (ha : IsR CR H a p) (hb : IsR CR H b q) (bp : ZR.Bd 2000 p) (bq : ZR.Bd 2000 q) (h : ∀ c H', H c = none → Same H H' → IsR CR H' c (f p q) → Q (.ref c) H') : rOwn CR (spR2 CR f) (.ref a) (.ref b) H Q := by
  obtain ⟨dx, e1⟩ := id ha
  obtain ⟨dy, e2⟩ := id hb
  exact ⟨a, b, dx, dy, _, _, rfl, rfl, e1, e2, rfl, a, b, p, q, rfl, ha, hb, bp, bq, h⟩
theorem self_first : PySem.W.notFirst K CR (.ref CR) = true := by simp [PySem.W.notFirst]
theorem i_Req (ha : IsR CR H a p) (hb : IsR CR H b q) (h : ∀ H', Same H H' → Q (.bl (decide (p = q))) H') : rOwnC K CR (spREq K CR) (.ref a) (.ref b) H Q := by
  obtain ⟨dx, e1⟩ := id ha
  obtain ⟨dy, e2⟩ := id hb
  exact ⟨a, dx, _, _, rfl, e1, .ins e2, self_first, rfl, a, p, _, rfl, ha, .inl ⟨b, q, rfl, hb, h⟩⟩
theorem i_under0 {P : Prop} (ha : IsR CR H a p) (h : P) : rMeth CR "under" (.ref a) H P := let ⟨_, e⟩ := ha; i_meth1 e (rf_no p (by decide +kernel) (by decide +kernel)) h
theorem i_under (ha : IsR CR H a p) (hb : IsR CR H b q) (bp : ZR.Bd 2000 p) (bq : ZR.Bd 2000 q) (h : ∀ H', Same H H' → Q (.bl (decide (p < q))) H') : spRUnder CR [.ref a, .ref b] H Q E :=
  ⟨rfl, a, b, p, q, rfl, ha, hb, bp, bq, h⟩
theorem i_whole {n : Int} (h : ∀ c H', H c = none → Same H H' → IsR CR H' c (n : Rat) → Q (.ref c) H') : spRWhole CR [.ref CR, .int n] H Q E := ⟨rfl, n, rfl, h⟩
end
/-! ### the law's own helpers -/
def Pool (H : Hp) (p : Addr) : Prop := ∃ (c k : Int) (f : Bool), H p = some (.lst [V.int c, V.int k, V.bl f])
def spPool : Sp := fun vs H Q _ => vs.length = 1 ∧ ∃ c, vs = [.int c] ∧ ∀ p H', H p = none → Same H H' → (∀ b, b ≠ p → H' b = H b) → Pool H' p → Q (.ref p) H'
def spTake : Sp := fun vs H Q _ => vs.length = 2 ∧ ∃ p l, vs = [.ref p, .int l] ∧ Pool H p ∧ 0 < l ∧ ZR.Sz 8000 l ∧ ∀ r H', 0 ≤ r → r < l → (∀ b, b ≠ p → H' b = H b) → Pool H' p → Q (.int r) H'
def spCell (K : PySem.W.Frag) : Sp := fun vs H Q _ => vs.length = 2 ∧ ∃ (a : Addr) (ns : List Int) (k : Nat), vs = [.ref a, .int k] ∧ SqL K H a (ns.map V.int) ∧ ∀ i, Q (.int i) H
section
variable {K : PySem.W.Frag} {p a : Addr} {H : Hp} {Q : VK} {E : XK}
theorem i_pool {c : Int} (h : ∀ p H', H p = none → Same H H' → (∀ b, b ≠ p → H' b = H b) → Pool H' p → Q (.ref p) H') : spPool [.int c] H Q E := ⟨rfl, c, rfl, h⟩
theorem i_take {l : Int} (hp : Pool H p) (h0 : 0 < l) (hz : ZR.Sz 8000 l) (h : ∀ r H', 0 ≤ r → r < l → (∀ b, b ≠ p → H' b = H b) → Pool H' p → Q (.int r) H') : spTake [.ref p, .int l] H Q E := ⟨rfl, p, l, rfl, hp, h0, hz, h⟩
theorem i_cell {ns : List Int} {k : Nat} (hs : SqL K H a (ns.map V.int)) (h : ∀ i, Q (.int i) H) : spCell K [.ref a, .int k] H Q E := ⟨rfl, a, ns, k, rfl, hs, h⟩
end
/-! ### lists of ints compared -/
end Z

set_option Elab.async false
set_option linter.all false
set_option maxRecDepth 100000
set_option maxHeartbeats 4000000
/-! more readings -/
namespace Z
open PySem PySem.Spec PyProof.Rows L2
section
variable {X : Cx} {K : PySem.W.Frag} {σ σ' : L2.St} {H H1 : Hp} {D : Ends} {t u : TS} {te ta tb tc to : TE} {tt tu : TT} {tr : TA} {g : TG} {gs : TGs} {Q : VK} {QB : Bool → Hp → Prop} {QA : List V → Hp → Prop} {QS : L2.St → Hp → Prop} {QH : Hp → Prop} {v w x y : V} {i j : Nat} {A B : Prop} {b : Bool}
theorem i_isiT {tv : Value} {s : String} (ty : TyX K H x tv) (hk : PySem.W.kitOne K tv (.type s) = some b) (h : Q (.bl b) H) : rIsi K [x, .ty s] H Q := ⟨x, _, tv, _, b, rfl, .ty s, ty, hk, h⟩
theorem i_isiO {tv : Value} {C : Addr} (ty : TyX K H x tv) (hk : PySem.W.kitOne K tv (.ref C) = some b) (h : Q (.bl b) H) : rIsi K [x, .ref C] H Q := ⟨x, _, tv, _, b, rfl, .own C, ty, hk, h⟩
theorem tyInt (n : Int) : TyX K H (.int n) (.type "int") := .base (.int n)
def rBits (x : V) (H1 : Hp) (Q : VK) : Prop := ∃ i : Int, x = .int i ∧ Q (.int (Builtin.Int.intBits i : Nat)) H1
theorem i_bits {n : Int} (h : Q (.int (Builtin.Int.intBits n : Nat)) H) : rBits (.int n) H Q := ⟨n, rfl, h⟩
theorem i_bits0 (h : to σ H (fun x H1 => rBits x H1 Q)) : tBits to σ H Q := h
theorem i_jsC {ts : List TE} {acc : Str} {QJ : Str → Hp → Prop} (h : te σ H (fun x H1 => ∃ y : Str, x = .str y ∧ (acc ++ y).length ≤ sizeLine ∧ tJs ts (acc ++ y) σ H1 QJ)) : tJs (te :: ts) acc σ H QJ := h
theorem i_jsN {acc : Str} {QJ : Str → Hp → Prop} (h : QJ acc H) : tJs [] acc σ H QJ := h
theorem Same_seqT {H H' : Hp} {a : Addr} {xs : List V} (e : Same H H') (h : SqT K H a xs) : SqT K H' a xs := by
  rcases h with (h | ⟨o, h⟩) | h
  · exact .inl (.inl (e _ _ h))
  · exact .inl (.inr ⟨o, e _ _ h⟩)
  · exact .inr h
/-! loops -/
def rFor (it : It) (g : TG) (tb : TS) (D : Ends) (σ : L2.St) (H1 : Hp) : Prop := ∃ W : Nat → Nat → L2.St → Hp → Prop, (∃ m, W 0 m σ H1) ∧ ∀ i m σ H, W i m σ H →
  (it.stop i H ∧ D.nx σ H) ∨ (it.go i H ∧ ∃ N : L2.St → Hp → Prop, (∀ σ' H', N σ' H' → ∃ m', m' < m ∧ W (i + 1) m' σ' H') ∧ ∀ x H', it.yld i H x H' → g x σ H' fun σ2 H2 => tb { D with nx := N, ct := N, bk := D.nx } σ2 H2)
def rForL (K : PySem.W.Frag) (g : TG) (tb : TS) (D : Ends) (σ : L2.St) (x : V) (H1 : Hp) : Prop := ∃ a, x = .ref a ∧ (∃ xs, SqL K H1 a xs) ∧ rFor (Itl K a) g tb D σ H1
def rForT (K : PySem.W.Frag) (g : TG) (tb : TS) (D : Ends) (σ : L2.St) (x : V) (H1 : Hp) : Prop := ∃ a, x = .ref a ∧ (∃ xs, SqT K H1 a xs) ∧ rFor (Itt K a) g tb D σ H1
def rForR (g : TG) (tb : TS) (D : Ends) (σ : L2.St) (vs : List V) (H1 : Hp) : Prop := ∃ j : Int, vs = [.int j] ∧ -(2 ^ 62) ≤ j ∧ j < 2 ^ 62 ∧ rFor (Itr 0 j.toNat) g tb D σ H1
theorem i_forR0 {tb : TS} (h : tr σ H (fun vs H1 => rForR g tb D σ vs H1)) : tFor (iRng1 tr) g tb D σ H := h
theorem i_forR {n : Nat} {k : Int} {tb : TS} (hk : k = (n : Int)) (hn : n < 1000000) (Pv : Nat → L2.St → Hp → Prop) (h0 : Pv 0 σ H)
    (hs : ∀ i σ H, i < n → Pv i σ H → g (.int (i : Nat)) σ H fun σ2 H2 => tb { D with nx := Pv (i + 1), ct := Pv (i + 1), bk := D.nx } σ2 H2) (hd : ∀ σ H, Pv n σ H → D.nx σ H) : rForR g tb D σ [.int k] H := by
  refine ⟨k, rfl, by omega, by omega, ?_⟩
  have e : k.toNat = n := by omega
  rw [e]
  refine for_range Pv h0 (fun i σ H hi p => ?_) hd
  rw [Int.zero_add]
  exact hs i σ H hi p
/-! comprehensions over lists -/
def rLcL (K : PySem.W.Frag) (g : TG) (tt : TT) (te : TE) (vs : List Nat) (σ : L2.St) (Q : VK) (x : V) (H1 : Hp) : Prop := ∃ a, x = .ref a ∧ (∃ xs, SqL K H1 a xs) ∧ ∀ D, H1 D = none → ∃ W : Nat → Nat → Hp → Prop, (∃ m, W 0 m (upd H1 D (.lst []))) ∧ ∀ i m H, W i m H →
  ((Itl K a).stop i H ∧ Q (.ref D) H) ∨ ((Itl K a).go i H ∧ ∃ Nx : Hp → Prop, (∀ H', Nx H' → ∃ m', m' < m ∧ W (i + 1) m' H') ∧ ∀ x H', (Itl K a).yld i H x H' → g x (wipe σ vs) H' fun σ2 H2 => wipe σ2 vs = wipe σ vs ∧ tt σ2 H2 fun b H3 =>
    if b = true then te σ2 H3 fun y H4 => ∃ acc, H4 D = some (.lst acc) ∧ acc.length < sizeLine ∧ Nx (upd H4 D (.lst (acc ++ [y]))) else Nx H3)
theorem i_yes (h : QB true H) : tYes σ H QB := h
def LcS (D : Addr) (Pv : Nat → List V → Hp → Prop) (i : Nat) (H : Hp) : Prop := ∃ ys, H D = some (.lst ys) ∧ Pv i ys H
def rLcE (D : Addr) (Pv : Nat → List V → Hp → Prop) (i : Nat) (y : V) (H4 : Hp) : Prop := ∃ acc, H4 D = some (.lst acc) ∧ acc.length < sizeLine ∧ LcS D Pv (i + 1) (upd H4 D (.lst (acc ++ [y])))
theorem i_lcE {D : Addr} {Pv : Nat → List V → Hp → Prop} {ys : List V} (e : H D = some (.lst ys)) (l : ys.length < 100000) (h : ∀ H5, H5 D = some (.lst (ys ++ [y])) → (∀ c, c ≠ D → H5 c = H c) → Pv (i + 1) (ys ++ [y]) H5) : rLcE D Pv i y H :=
  ⟨ys, e, Nat.lt_of_lt_of_le l (by decide), ys ++ [y], upd_same, h _ upd_same (fun c hc => upd_ne hc)⟩
/-! targets, stores -/
theorem i_gsub {ti : TE} {r : V → V → V → Hp → (Hp → Prop) → Prop} (h : to σ H (fun o H1 => ti σ H1 (fun i H2 => r o i v H2 (fun H3 => QS σ H3)))) : gSub to ti r v σ H QS := h
theorem i_setL {p : Addr} {xs ys : List V} {k : Int} {j : Nat} (e : H p = some (.lst xs)) (hj : ixN xs.length k = some j) (w : xs.set j v = ys) (h : ∀ H2, H2 p = some (.lst ys) → (∀ b, b ≠ p → H2 b = H b) → QH H2) : rSetL (.ref p) (.int k) v H QH :=
  ⟨p, xs, k, j, rfl, rfl, e, hj, h _ (by rw [w]; exact upd_same) (fun b hb => upd_ne hb)⟩
theorem i_gtup {a : Addr} {xs : List V} {n : Nat} (s : SqT K H a xs) (hn : xs.length = n) (h : gs xs σ H QS) : gTup K n gs (.ref a) σ H QS := ⟨a, xs, rfl, s, hn, h⟩
theorem i_gc {vs : List V} (h : g v σ H (fun σ' H' => gs vs σ' H' QS)) : gCons g gs (v :: vs) σ H QS := ⟨v, vs, rfl, h⟩
theorem i_gn (h : QS σ H) : gNil [] σ H QS := ⟨rfl, h⟩
/-! methods of lists -/
theorem i_bm {T : String} {r : V → List V → Hp → VK → Prop} (h : to σ H (fun x H1 => tyV K T x H1 ∧ tr σ H1 (fun xs H2 => r x xs H2 Q))) : tBM K T r to tr σ H Q := h
theorem tyL {p : Addr} {xs : List V} (e : H p = some (.lst xs)) : tyV K "list" (.ref p) H := Or.inl ⟨rfl, _, SqL.of e⟩
theorem i_app {p : Addr} {xs : List V} (e : H p = some (.lst xs)) (l : xs.length < 100000) (h : ∀ H2, H2 p = some (.lst (xs ++ [y])) → (∀ b, b ≠ p → H2 b = H b) → Q .non H2) : rAppend (.ref p) [y] H Q :=
  ⟨p, xs, y, rfl, rfl, e, Nat.lt_of_lt_of_le l (by decide), h _ upd_same (fun b hb => upd_ne hb)⟩
/-! errors' __init__ -/
def rVeI (K : PySem.W.Frag) (vs : List V) (H1 : Hp) (Q : VK) : Prop := ∃ (a C : Addr) (ws : List V), vs = .ref a :: ws ∧ ws.length ≤ 1000 ∧ OexC K C ∧ H1 a = some (exo a C none) ∧ Q .non H1
theorem i_tve (h : tr σ H (fun vs H1 => rVeI K vs H1 Q)) : tVeI K tr σ H Q := h
theorem i_tve1 {a C : Addr} {ws : List V} (T : OexC K C) (e : H a = some (exo a C none)) (l : ws.length ≤ 1000) (h : Q .non H) : rVeI K (.ref a :: ws) H Q := ⟨a, C, ws, rfl, l, T, e, h⟩
def rOst (K : PySem.W.Frag) (f : Str) (y x : V) (H2 : Hp) (P : Hp → Prop) : Prop := ∃ a C : Addr, x = .ref a ∧ OexC K C ∧ PySem.W.findIn K (.ref C) f = some none ∧
  ((H2 a = some (exo a C none) ∧ ∀ dx, H2 dx = none → dx ≠ a → P (upd (upd H2 dx (exd dx [(f, y)])) a (exo a C (some dx)))) ∨
    ∃ (dx : Addr) (fs : List (Str × V)), H2 a = some (exo a C (some dx)) ∧ H2 dx = some (exd dx fs) ∧ fs.length ≤ 900 ∧ P (upd H2 dx (exd dx ((f, y) :: fs))))
theorem i_ost {f : Str} (h : te σ H (fun y H1 => to σ H1 (fun x H2 => rOst K f y x H2 (fun H3 => D.nx σ H3)))) : tOst K f to te D σ H := h
theorem i_ost1 {f : Str} {a C : Addr} (T : OexC K C) (n : PySem.W.findIn K (.ref C) f = some none) (e : H a = some (exo a C none)) (h : ∀ dx, H dx = none → dx ≠ a → QH (upd (upd H dx (exd dx [(f, y)])) a (exo a C (some dx)))) : rOst K f y (.ref a) H QH :=
  ⟨a, C, rfl, T, n, .inl ⟨e, h⟩⟩
theorem i_js1 {ts : List TE} {acc z : Str} {QJ : Str → Hp → Prop} (l : (acc ++ z).length ≤ sizeLine) (h : tJs ts (acc ++ z) σ H QJ) : ∃ y : Str, V.str z = .str y ∧ (acc ++ y).length ≤ sizeLine ∧ tJs ts (acc ++ y) σ H QJ := ⟨z, rfl, l, h⟩
theorem bits_small {n : Int} {k : Nat} (h : ZR.Sz k n) : ¬ ((k : Int) < (Builtin.Int.intBits n : Nat)) := by
  have := (intBits_le_iff (m := k) (x := n)).mpr h
  omega
theorem text_small {n : Int} (h : ZR.Sz 1900 n) : (Str.ofString (toString n)).length ≤ 1901 := by
  have := int_text_length_le10 (k := 1900) (a := n) (by decide) (Nat.lt_of_lt_of_le (show n.natAbs < 2 ^ 1900 from h) (Nat.pow_le_pow_left (by decide) 1900))
  rw [PySem.ofString_length]
  exact this
/-! items by written places -/
theorem i_ix0 {p : Addr} {x0 : V} {xs : List V} (s : SqL K H p (x0 :: xs)) (h : Q x0 H) : rIxL K (.ref p) (.int 0) H Q := i_ixL (k := 0) s rfl h
theorem i_ix1 {p : Addr} {x0 x1 : V} {xs : List V} (s : SqL K H p (x0 :: x1 :: xs)) (h : Q x1 H) : rIxL K (.ref p) (.int 1) H Q := i_ixL (k := 1) s rfl h
theorem i_ix2 {p : Addr} {x0 x1 x2 : V} {xs : List V} (s : SqL K H p (x0 :: x1 :: x2 :: xs)) (h : Q x2 H) : rIxL K (.ref p) (.int 2) H Q := i_ixL (k := 2) s rfl h
end
end Z
namespace Z
open PySem PySem.Spec PyProof.Rows L2
/-! the same rules where the written part stands by its own letter -/
section
variable {X : Cx} {K : PySem.W.Frag} {e : Expr} {te : TE} {f : Str} {pos : Pos}
theorem k_fld (hK : X.K = K) (he : PE X e te) (hb : attributeBase e f X.env (eval e X.env) = eval e X.env) : PE X (.Attribute e f pos) (tFld K te f) := by
  subst hK
  exact pe_fld he hb
theorem k_tup {es : List Expr} {k n : Nat} {t : TGs} (hK : X.K = K) (hc : X.calm = true) (h : PGs X es t) (hn : (assignEach es X.env).length = n := by rfl) (hst : (assignEach es X.env).findIdx? (·.1) = none := by rfl) : PG X (.Tuple es k pos) (gTup K n t) := by
  subst hK
  exact pg_tup hc h hn hst
theorem k_eqO {C : Addr} {k j : Nat} {sp : Sp} (hK : X.K = K) (c : CalO X.prog X.w X.K X.mg X.base C "__eq__" k sp) (hr : Room j X.A) (hj : k ≤ j := by decide) : OpR X (compareOp .Eq) (rOwnC K C sp) := by
  subst hK
  exact z_eqO c hr hj
theorem k_eqD (hK : X.K = K) (hu : X.A.units + 64 < cLine) : OpR X (compareOp .Eq) (rEqD K) := by
  subst hK
  exact op_eqD hu
theorem k_neD (hK : X.K = K) (hu : X.A.units + 64 < cLine) : OpR X (compareOp .NotEq) (rNeD K) := by
  subst hK
  exact op_neD hu
/-- len of a list or a tuple -/
def rLen (K : PySem.W.Frag) : List V → Hp → VK → Prop := fun xs H Q => ∃ p ys, xs = [.ref p] ∧ (SqL K H p ys ∨ SqT K H p ys) ∧ Q (.int ys.length) H
theorem k_len (hK : X.K = K) : CallR X (.builtin "len") (rLen K) := by
  subst hK
  exact call_len_seq
theorem i_lenL {p : Addr} {xs : List V} {H : Hp} {Q : VK} (s : SqL K H p xs) (h : Q (.int xs.length) H) : rLen K [.ref p] H Q := ⟨p, xs, rfl, .inl s, h⟩
theorem i_lenT {p : Addr} {xs : List V} {H : Hp} {Q : VK} (s : SqT K H p xs) (h : Q (.int xs.length) H) : rLen K [.ref p] H Q := ⟨p, xs, rfl, .inr s, h⟩
end
section
variable {K : PySem.W.Frag} {σ : L2.St} {H : Hp} {D : Ends} {Q : VK} {te : TE}
theorem i_was {c cls : Value} {i : Nat} {ts : Addr → Value → Option Addr → TS} {Wout : WX} {d : Option Addr} (hx : PySem.W.exmOne K cls c = some true)
    (h : ∀ a, H a = none → ts a cls d { nx := fun σ' H' => D.nx (σ'.set i none) H', rt := D.rt, bk := fun σ' H' => D.bk (σ'.set i none) H', ct := fun σ' H' => D.ct (σ'.set i none) H' } (σ.set i (some (.ref a))) H) :
    wAs K c i ts Wout D cls d σ H := ⟨true, hx, fun _ => h, fun q => by cases q⟩
def rXf (a : Addr) (cls : Value) (d : Option Addr) (C : Addr) (f : Str) (x : V) (H1 : Hp) (Q : VK) : Prop := x = .ref a ∧ cls = .ref C ∧ ∃ (dd : Addr) (fs : List (Str × V)) (v : V), d = some dd ∧ H1 dd = some (.xd fs) ∧ fs.lookup f = some v ∧ Q v H1
theorem i_xf {a C : Addr} {cls : Value} {d : Option Addr} {f : Str} (h : te σ H (fun x H1 => rXf a cls d C f x H1 Q)) : tXf a cls d C f te σ H Q := h
theorem i_xf1 {a C dd : Addr} {f : Str} {v : V} (e : H dd = some (.xd [(f, v)])) (h : Q v H) : rXf a (.ref C) (some dd) C f (.ref a) H Q :=
  ⟨rfl, rfl, dd, _, v, rfl, e, by simp [List.lookup], h⟩
end
end Z
namespace Z
open PySem PySem.Spec PyProof.Rows L2
/-! facts put together -/
theorem exm_in {K : PySem.W.Frag} {C D : Addr} {b : Bool} (e : PySem.W.subIn K (.ref C) (.type "BaseException") = some true) (i : PySem.W.isClsIn K C = true) (ty : PySem.W.typeIn K (.ref C) = some (.type "type")) (s : PySem.W.subIn K (.ref D) (.ref C) = some b) :
    PySem.W.exmOne K (.ref D) (.ref C) = some b := by
  unfold PySem.W.exmOne
  rw [if_pos (by rw [e]; rfl)]
  unfold PySem.W.kitCls
  have hc : (PySem.W.clsIn K C).isSome = true := i
  show (if ((PySem.W.clsIn K C).isSome && PySem.W.typeIn K (.ref C) == some (.type "type")) = true then PySem.W.subIn K (.ref D) (.ref C) else none) = some b
  rw [if_pos, s]
  rw [hc, ty]
  simp
theorem refs_ve (T : Addr) : PySem.HandSPX.refsVE [.ref T, .type "ValueError", .type "Exception", .type "BaseException", .type "object"] = true := by
  show PySem.HandSPX.refsVE [.type "ValueError", .type "Exception", .type "BaseException", .type "object"] = true
  decide +kernel
theorem kit_self {K : PySem.W.Frag} {C : Addr} : PySem.W.kitOne K (.ref C) (.ref C) = some true := by
  unfold PySem.W.kitOne
  rw [if_pos (by simp)]
section
variable {P : Program} {w : World} {K : PySem.W.Frag} {mg : Str → Option Value} {base h : Heap} {f C : Addr} {fd : FuncData} {ps : List Str} {x : Str} {k : Nat} {sp : Sp}
theorem mk_cal (X : K.In h) (G : h.Ns mainGlobals mg) (a : PySem.W.nsIn K mainGlobals x = some (some (.ref f))) (kk : PySem.W.keepIn K (.ref f) = true) (F : FnOk P w K mg base (L2.CX P w) k f fd ps sp) (b : Binds K fd ps []) : Cal P w K mg base x k sp :=
  ⟨f, PySem.W.mg_of X G a, kk, fnR_of F b⟩
theorem mk_calM (m : Meth K C x f) (F : FnOk P w K mg base (L2.CX P w) k f fd ps sp) (b : Binds K fd ps []) : CalM P w K mg base C x k sp := ⟨f, m, fnR_of F b⟩
theorem mk_calI (X : K.In h) (G : h.Ns mainGlobals mg) (a : PySem.W.nsIn K mainGlobals x = some (some (.ref C))) (m : Mk K C f) (F : FnOk P w K mg base (L2.CX P w) k f fd ps sp) (b : Binds K fd ps []) : CalI P w K mg base x C k sp :=
  ⟨PySem.W.mg_of X G a, f, m, fnR_of F b⟩
theorem mk_calO (a : PySem.W.findIn K (.ref C) x = some (some (.ref f))) (i : PySem.W.isFn K (.ref f) = true) (s : PySem.W.selfFirst K C = true) (F : FnOk P w K mg base (L2.CX P w) k f fd ps sp) (b : Binds K fd ps []) : CalO P w K mg base C x k sp :=
  ⟨f, ⟨a, i⟩, s, fnR_of F b⟩
theorem mk_calK {mc : Value} {p : Addr} (r : ClX.CRead K C mc) (m : ClX.CMet K C mc x p f) (F : FnOk P w K mg base (L2.CX P w) k f fd ps sp) (b : Binds K fd ps []) : CalK P w K mg base C x k sp := ⟨mc, p, f, r, m, fnR_of F b⟩
theorem mk_calX (X : K.In h) (G : h.Ns mainGlobals mg) (a : PySem.W.nsIn K mainGlobals x = some (some (.ref C))) (o : OexC K C) (i : PySem.W.findIn K (.ref C) "__init__" = some (some (.ref f))) (t : PySem.W.typeIn K (.ref f) = some (.type "function"))
    (F : FnOk P w K mg base (L2.CX P w) k f fd ps sp) (b : Binds K fd ps []) : CalX P w K mg base x C k ps sp := ⟨PySem.W.mg_of X G a, o, f, fd, i, t, F, b⟩
theorem mk_calT {mc : Value} (X : K.In h) (G : h.Ns mainGlobals mg) (a : PySem.W.nsIn K mainGlobals x = some (some (.ref C))) (r : ClX.CRead K C mc) (v : PySem.W.findCls K (.ref C) mc "__init__" = some (.val (.builtin "ValueError.__init__"))) : CalT K mg x :=
  ⟨C, mc, PySem.W.mg_of X G a, r, v⟩
end
end Z

set_option Elab.async false
set_option linter.all false
set_option maxRecDepth 100000
set_option maxHeartbeats 4000000
/-! texts: str(x) of own things, s * n, comprehensions over texts -/
namespace Z
open PySem PySem.Spec PyProof.Rows L2
section
variable {X : Cx} {k j : Nat} {f C : Addr} {sp : Sp}
def strO (Q : VK) : VK := fun v H' => ∃ z, v = .str z ∧ Q (.str z) H'
/-- str(x), x an instance with its own __str__ -/
def rStrOwn (C : Addr) (sp : Sp) : List V → Hp → VK → Prop := fun xs H Q => ∃ a dx fs, xs = [.ref a] ∧ H a = some (.ins C dx fs) ∧
  sp [.ref a] H (strO Q) (fun _ _ _ => False)
theorem call_strOwn (F : FnR X.prog X.w X.K X.mg X.base (L2.CX X.prog X.w) k f sp) (hr : Room (k + 2) X.A) (S : Spc X.K C "__str__" f) :
    CallR X (.type "str") (rStrOwn C sp) := by
  intro pins s σ H xs us Q I r h
  obtain ⟨a, dx, fs, rfl, ea, h⟩ := h
  obtain rfl := Vals.ref1 r
  obtain ⟨ox, od, Ja⟩ := instAt I ea
  have hr1 : Room k X.A.in1.in1 := (hr.in1).in1
  refine PySem.W.kso_call (f := f) hr1.units0 I.kIn Ja S.at_ S.fn ?_
  refine wpAny_call (codeAny_mono (F X.A.in1.in1 X.stack s H [.ref a] [.ref a] _ (fun _ _ _ => False) hr1 I.env0.in1.in1 (.cons rfl .nil) h) fun q s' hq => ?_)
  rcases q with e | fl
  · exact (cxN hq).elim
  rcases fl with _ | _ | _ | u'
  · exact False.elim hq
  · exact False.elim hq
  · exact False.elim hq
  obtain ⟨v', H', J', rv, z, ev, q⟩ := I.after hq
  subst ev
  obtain ⟨t, rfl⟩ := rv
  exact ⟨.str z, H', J', ⟨t, rfl⟩, q⟩
theorem z_strO (c : CalO X.prog X.w X.K X.mg X.base C "__str__" k sp) (hr : Room j X.A) (hj : k + 2 ≤ j := by decide) : CallR X (.type "str") (rStrOwn C sp) := by
  obtain ⟨f, S, sf, F⟩ := c
  exact call_strOwn F (hr.mono hj) S
/-- s * n -/
def rMulS : R2 := fun x y H Q => ∃ (z : Str) (n : Int), x = .str z ∧ y = .int n ∧ 2 ≤ n ∧ n ≤ 1000 ∧ z.length ≤ 1000 ∧ Q (.str (Txt.mul z n)) H
end
/-! ### comprehensions over texts -/
section
variable {K : PySem.W.Frag} {σ : L2.St} {H : Hp} {D : Ends} {te : TE} {tt : TT} {g : TG} {Q : VK}
def rLcS (g : TG) (tt : TT) (te : TE) (vs : List Nat) (σ : L2.St) (Q : VK) (x : V) (H1 : Hp) : Prop := ∃ z, x = .str z ∧ ∀ D, H1 D = none → ∃ W : Nat → Nat → Hp → Prop, (∃ m, W 0 m (upd H1 D (.lst []))) ∧ ∀ i m H, W i m H →
  ((Its z).stop i H ∧ Q (.ref D) H) ∨ ((Its z).go i H ∧ ∃ Nx : Hp → Prop, (∀ H', Nx H' → ∃ m', m' < m ∧ W (i + 1) m' H') ∧ ∀ x H', (Its z).yld i H x H' → g x (wipe σ vs) H' fun σ2 H2 => wipe σ2 vs = wipe σ vs ∧ tt σ2 H2 fun b H3 =>
    if b = true then te σ2 H3 fun y H4 => ∃ acc, H4 D = some (.lst acc) ∧ acc.length < sizeLine ∧ Nx (upd H4 D (.lst (acc ++ [y]))) else Nx H3)
theorem i_lcS0 {tl : TE} {vs : List Nat} (h : tl σ H (fun x H1 => rLcS g tt te vs σ Q x H1)) : tLc (iStr tl) g tt te vs σ H Q := h
theorem i_lcS {z : Str} {vs : List Nat} (Pv : Nat → List V → Hp → Prop) (h0 : ∀ D H', H D = none → Same H H' → H' D = some (.lst []) → (∀ b, b ≠ D → H' b = H b) → Pv 0 [] H')
    (hs : ∀ i c D ys H1, H D = none → (TL.tl z)[i]? = some c → H1 D = some (.lst ys) → Pv i ys H1 → g (.str ⟨#[c]⟩) (wipe σ vs) H1 fun σ2 H2 => wipe σ2 vs = wipe σ vs ∧ tt σ2 H2 fun b H3 => if b = true then te σ2 H3 fun y H4 => rLcE D Pv i y H4 else LcS D Pv (i + 1) H3)
    (hd : ∀ D ys H1, H D = none → H1 D = some (.lst ys) → Pv (TL.tl z).length ys H1 → Q (.ref D) H1) : rLcS g tt te vs σ Q (.str z) H := by
  refine ⟨z, rfl, fun D hD => ?_⟩
  have hsz : z.cps.size = (TL.tl z).length := (Array.length_toList).symm
  refine ⟨fun i m H' => m = z.cps.size - i ∧ i ≤ z.cps.size ∧ LcS D Pv i H', ⟨z.cps.size, by simp, Nat.zero_le _, [], upd_same, h0 D _ hD (fun b o e => by rw [upd_ne (ne_of_none e hD)]; exact e) upd_same (fun b hb => upd_ne hb)⟩, ?_⟩
  rintro i m H' ⟨rfl, hi, ys, hD', p⟩
  by_cases hlt : i < z.cps.size
  · refine .inr ⟨hlt, LcS D Pv (i + 1), fun H'' p' => ⟨z.cps.size - (i + 1), by omega, rfl, hlt, p'⟩, fun x H'' y => ?_⟩
    obtain ⟨e, c, hc, rfl⟩ := y
    subst e
    refine hs i c D ys _ hD ?_ hD' p
    show z.cps.toList[i]? = some c
    rw [Array.getElem?_toList]
    exact hc
  · have e : i = z.cps.size := by omega
    refine .inl ⟨Nat.le_of_eq e.symm, hd D ys H' hD hD' ?_⟩
    rw [← hsz, ← e]
    exact p
end
end Z
namespace Z
open PySem PySem.Spec PyProof.Rows L2
section
variable {K : PySem.W.Frag} {σ : L2.St} {H : Hp} {D : Ends} {te ta tb tc : TE} {tlo thi : TO} {QO : Option Int → Hp → Prop} {Q : VK} {z : Str}
theorem i_chain {r r' : R2} (h : ta σ H (fun x H1 => tb σ H1 (fun y H2 => r x y H2 (fun v H3 => ∃ k, v = .bl k ∧ (if k = true then tc σ H3 (fun w' H4 => r' y w' H4 Q) else Q (.bl false) H3))))) : tChain r r' ta tb tc σ H Q := h
theorem i_sl {r : V → Option Int → Option Int → Hp → VK → Prop} (h : te σ H (fun x H1 => tlo σ H1 (fun l H2 => thi σ H2 (fun u H3 => r x l u H3 Q)))) : tSl r te tlo thi σ H Q := h
theorem i_noPart (h : QO none H) : tNoPart σ H QO := h
def rPart (x : V) (H1 : Hp) (QO : Option Int → Hp → Prop) : Prop := ∃ i, x = .int i ∧ QO (some i) H1
theorem i_part (h : te σ H (fun x H1 => rPart x H1 QO)) : tPart te σ H QO := h
theorem i_part1 {i : Int} (h : QO (some i) H) : rPart (.int i) H QO := ⟨i, rfl, h⟩
theorem i_slL {lo hi : Option Int} {a : Addr} {xs ys : List V} (s : SqL K H a xs) (e : cutV xs lo hi = ys) (h : ∀ p H', H p = none → Same H H' → H' p = some (.lst ys) → (∀ b, b ≠ p → H' b = H b) → Q (.ref p) H') : rSlL K (.ref a) lo hi H Q := by
  subst e
  exact ⟨a, xs, rfl, s, fun p hp => h p _ hp (fun b o e => by rw [upd_ne (ne_of_none e hp)]; exact e) upd_same (fun b hb => upd_ne hb)⟩
theorem i_ixS {k : Nat} {c : Nat} (hz : z.length ≤ 100000) (e : (TL.tl z)[k]? = some c) (h : Q (.str ⟨#[c]⟩) H) : rIxS (.str z) (.int (k : Nat)) H Q := ⟨z, _, c, rfl, rfl, Nat.le_trans hz (by decide), atI_nat e, h⟩
theorem i_ixS0 {c : Nat} {r : List Nat} (hz : z.length ≤ 100000) (e : TL.tl z = c :: r) (h : Q (.str ⟨#[c]⟩) H) : rIxS (.str z) (.int 0) H Q := i_ixS (k := 0) hz (by rw [e]; rfl) h
def rRevL (K : PySem.W.Frag) (x : V) (H1 : Hp) (Q : VK) : Prop := ∃ a xs, x = .ref a ∧ SqL K H1 a xs ∧ ∀ p, H1 p = none → Q (.ref p) (upd H1 p (.lst xs.reverse))
theorem i_revL (h : te σ H (fun x H1 => rRevL K x H1 Q)) : tRevL K te σ H Q := h
theorem i_revL1 {a : Addr} {xs : List V} (s : SqL K H a xs) (h : ∀ p H', H p = none → Same H H' → H' p = some (.lst xs.reverse) → (∀ b, b ≠ p → H' b = H b) → Q (.ref p) H') : rRevL K (.ref a) H Q :=
  ⟨a, xs, rfl, s, fun p hp => h p _ hp (fun b o e => by rw [upd_ne (ne_of_none e hp)]; exact e) upd_same (fun b hb => upd_ne hb)⟩
end
end Z
namespace Z
open PySem PySem.Spec PyProof.Rows L2
section
variable {K : PySem.W.Frag} {H : Hp} {Q : VK}
theorem i_cat {l b : Addr} {xs zs : List V} (h1 : H l = some (.lst xs)) (h2 : H b = some (.lst zs)) (hl : xs.length + zs.length ≤ 100000) (h : ∀ p H', H p = none → Same H H' → H' p = some (.lst (xs ++ zs)) → (∀ b, b ≠ p → H' b = H b) → Q (.ref p) H') : rCat (.ref l) (.ref b) H Q :=
  ⟨l, b, xs, zs, rfl, rfl, h1, h2, Nat.le_trans hl (by decide), fun p hp => h p _ hp (fun b o e => by rw [upd_ne (ne_of_none e hp)]; exact e) upd_same (fun b hb => upd_ne hb)⟩
end
end Z
namespace Z
open PySem PySem.Spec PyProof.Rows L2
theorem ixN_n {n j : Nat} (hj : j < n) : ixN n (j : Int) = some j := by
  unfold ixN
  rw [if_pos (by omega), if_pos (by omega)]
  simp
/-! lists of ints and texts, the same ones -/
def sv : Int ⊕ Str → V
  | .inl i => .int i
  | .inr z => .str z
def sd : Int ⊕ Str → PyData
  | .inl i => .int i
  | .inr z => .str z
section
variable {K : PySem.W.Frag} {H : Hp} {Q : VK} {p q : Addr}
end
end Z
namespace Z
open PySem PySem.Spec PyProof.Rows L2
/-- what stands at the end of both branches -/
theorem i_cap {t u : TS} {c : Bool} {D : Ends} {σ : L2.St} {H : Hp} (P : L2.St → Hp → Prop) (hP : ∀ σ H, P σ H → D.nx σ H) (k : (∀ σ H, P σ H → D.nx σ H) → if c = true then t D σ H else u D σ H) : if c = true then t D σ H else u D σ H := k hP
end Z

set_option Elab.async false
set_option linter.all false
set_option maxRecDepth 100000
set_option maxHeartbeats 4000000
/-! texts of numbers, texts of ratios: the mathematics -/
namespace ZS
open PySem TL PySem.NumText
def dig (c : Nat) : Bool := decide (48 ≤ c ∧ c ≤ 57)
/-- the digits of a number from 1 on, at most thirty -/
def posL (l : List Nat) : Bool := decide (1 ≤ l.length ∧ l.length ≤ 30) && (!(l.head? == some 48) && l.all dig)
def sgnL (l : List Nat) : Bool := if l.head? = some 45 then posL l.tail else (decide (l = [48]) || posL l)
def iv (z : Str) : Int := (intText? z).getD 0
theorem posL_iff {l : List Nat} : posL l = true ↔ 1 ≤ l.length ∧ l.length ≤ 30 ∧ l.head? ≠ some 48 ∧ AllDigits l := by
  unfold posL AllDigits
  simp [dig, and_assoc]
theorem val_lt : ∀ (l : List Nat) (a : Nat), AllDigits l → l.foldl (fun acc c => acc * 10 + (c - 48)) a < (a + 1) * 10 ^ l.length
  | [], a, _ => by simp
  | c :: l, a, h => by
    rw [List.foldl_cons]
    have h1 := val_lt l (a * 10 + (c - 48)) h.tail
    have hc := h.head
    refine Nat.lt_of_lt_of_le h1 ?_
    rw [List.length_cons, Nat.pow_succ, Nat.mul_comm (10 ^ l.length) 10, ← Nat.mul_assoc]
    exact Nat.mul_le_mul_right _ (by omega)
theorem val_ge : ∀ (l : List Nat) (a : Nat), a ≤ l.foldl (fun acc c => acc * 10 + (c - 48)) a
  | [], a => Nat.le_refl _
  | c :: l, a => by
    rw [List.foldl_cons]
    exact Nat.le_trans (by omega) (val_ge l (a * 10 + (c - 48)))
theorem digits_lt {l : List Nat} (h : AllDigits l) (hl : l.length ≤ 30) : digitsVal l < 10 ^ 30 := by
  have := val_lt l 0 h
  unfold digitsVal
  rw [Nat.zero_add, Nat.one_mul] at this
  exact Nat.lt_of_lt_of_le this (Nat.pow_le_pow_right (by decide) hl)
theorem digits_pos {l : List Nat} (h : AllDigits l) (h1 : 1 ≤ l.length) (h0 : l.head? ≠ some 48) : 1 ≤ digitsVal l := by
  cases l with
  | nil => simp at h1
  | cons c l =>
    unfold digitsVal
    rw [List.foldl_cons]
    refine Nat.le_trans ?_ (val_ge l _)
    have := h.head
    simp at h0
    omega
theorem len_ne {l : List Nat} (h : 1 ≤ l.length) : l ≠ [] := by
  rintro rfl
  simp at h
theorem pos_int {z : Str} (h : posL (tl z) = true) : ∃ n : Nat, intText? z = some (n : Int) ∧ 1 ≤ n ∧ n < 10 ^ 30 ∧ z.length ≤ 30 := by
  obtain ⟨h1, h2, h3, h4⟩ := posL_iff.mp h
  have hl : z.length ≤ 30 := by rw [len_tl]; exact h2
  exact ⟨digitsVal (tl z), intText_digits h4 (len_ne h1) (by omega), digits_pos h4 h1 h3, digits_lt h4 h2, hl⟩
theorem sgn_cases {l : List Nat} (h : sgnL l = true) : (∃ r, l = 45 :: r ∧ posL r = true) ∨ l = [48] ∨ (posL l = true ∧ l.head? ≠ some 45) := by
  unfold sgnL at h
  by_cases e : l.head? = some 45
  · rw [if_pos e] at h
    cases l with
    | nil => simp at e
    | cons c r =>
      simp at e
      subst e
      exact .inl ⟨r, rfl, h⟩
  · rw [if_neg e] at h
    rcases Bool.or_eq_true_iff.mp h with h | h
    · exact .inr (.inl (of_decide_eq_true h))
    · exact .inr (.inr ⟨h, e⟩)
theorem sgn_int {z : Str} (h : sgnL (tl z) = true) : ∃ n : Int, intText? z = some n ∧ n.natAbs < 10 ^ 30 ∧ z.length ≤ 31 ∧ (1 ≤ n ↔ posL (tl z) = true) := by
  have hl := len_tl z
  rcases sgn_cases h with ⟨r, e, hp⟩ | e | ⟨hp, hne⟩
  · obtain ⟨h1, h2, h3, h4⟩ := posL_iff.mp hp
    have e2 : z.length = r.length + 1 := by rw [hl, e]; rfl
    refine ⟨_, intText_neg e h4 (len_ne h1) (by omega), ?_, by omega, ?_⟩
    · rw [Int.natAbs_neg]
      exact digits_lt h4 h2
    · constructor
      · intro hn
        have := digits_pos h4 h1 h3
        omega
      · intro hp2
        have := (posL_iff.mp hp2).2.2.2 45 (by rw [e]; exact List.mem_cons_self)
        omega
  · have ez : z.length = 1 := by rw [hl, e]; rfl
    have ed : AllDigits (tl z) := by
      rw [e]
      intro c hc
      obtain rfl := List.mem_singleton.mp hc
      decide
    refine ⟨_, intText_digits ed (by rw [show z.cps.toList = [48] from e]; simp) (by omega), ?_, by omega, ?_⟩
    · rw [show z.cps.toList = [48] from e]
      decide
    · rw [show z.cps.toList = [48] from e]
      constructor
      · intro hn
        exact absurd hn (by decide)
      · intro hp
        have := (posL_iff.mp (e ▸ hp)).2.2.1
        exact absurd rfl this
  · obtain ⟨n, hn, h1, h2, h3⟩ := pos_int hp
    exact ⟨n, hn, by omega, by omega, fun _ => hp, fun _ => by omega⟩
/-! ### the text of a number -/
def T (n : Int) : Str := Str.ofString (toString n)
theorem tl_pos (n : Nat) : tl (T (n : Int)) = numL n := tl_num n
theorem tl_neg {n : Nat} (h : 0 < n) : tl (T (-(n : Int))) = 45 :: numL n := by
  obtain ⟨m, rfl⟩ : ∃ m, n = m + 1 := ⟨n - 1, by omega⟩
  unfold T
  rw [tl_ofString]
  show ("-" ++ Nat.repr (m + 1)).toList.map Char.toNat = _
  rw [String.toList_append, List.map_append, Nat.toList_repr]
  rfl
theorem num_head : ∀ n : Nat, 1 ≤ n → (numL n).head? ≠ some 48 := by
  intro n
  induction n using Nat.strongRecOn with
  | ind n ih =>
    intro h
    by_cases h10 : n < 10
    · rw [numL_lt h10]
      simp
      omega
    · rw [numL_step (by omega)]
      have hne := numL_ne (n / 10)
      have := ih (n / 10) (by omega) (by omega)
      cases e : numL (n / 10) with
      | nil => exact absurd e hne
      | cons c r =>
        rw [e] at this
        simpa using this
theorem num_pos {n : Nat} (h : 1 ≤ n) (hn : n < 10 ^ 30) : posL (numL n) = true := by
  refine posL_iff.mpr ⟨?_, numL_len (by decide) hn, num_head n h, numL_digits n⟩
  have := numL_ne n
  cases e : numL n with
  | nil => exact absurd e this
  | cons c r => simp
theorem pos_head {l : List Nat} (h : posL l = true) : l.head? ≠ some 45 := by
  intro e
  cases l with
  | nil => simp at e
  | cons c r =>
    simp at e
    subst e
    have := (posL_iff.mp h).2.2.2.head
    omega
theorem T_sgn {n : Int} (h : n.natAbs < 10 ^ 30) : sgnL (tl (T n)) = true := by
  rcases Int.lt_trichotomy n 0 with hn | rfl | hn
  · obtain ⟨m, rfl⟩ : ∃ m : Nat, n = -(m : Int) := ⟨n.natAbs, by omega⟩
    rw [tl_neg (by omega)]
    show (if (45 :: numL m).head? = some 45 then posL (45 :: numL m).tail else _) = true
    rw [if_pos (show (45 :: numL m).head? = some 45 from rfl)]
    exact num_pos (by omega) (by omega)
  · decide +kernel
  · obtain ⟨m, rfl⟩ : ∃ m : Nat, n = (m : Int) := ⟨n.natAbs, by omega⟩
    rw [tl_pos]
    have hp := num_pos (n := m) (by omega) (by omega)
    unfold sgnL
    rw [if_neg (pos_head hp), hp]
    simp
theorem T_len {n : Int} (h : n.natAbs < 10 ^ 30) : (T n).length ≤ 31 := by
  obtain ⟨_, _, _, h, _⟩ := sgn_int (T_sgn h)
  exact h
theorem T_neg {n : Int} (h : n < 0) : Str.ofString "-" ++ T (-n) = T n := by
  obtain ⟨m, rfl⟩ : ∃ m : Nat, n = -(m : Int) := ⟨n.natAbs, by omega⟩
  refine ext_tl ?_
  rw [tl_append, tl_neg (by omega), Int.neg_neg, tl_pos]
  rfl
/-! ### the stroke -/
abbrev slash : Str := Str.ofString "/"
/-- what read does: the place of the fault, or the two integers -/
def rdF (z : Str) : Int ⊕ (Int × Int) :=
  let p := Txt.partition z slash
  if sgnL (tl p.1) = true then (if p.2.1 = Str.empty then .inr (iv p.1, 1) else if posL (tl p.2.2) = true then .inr (iv p.1, iv p.2.2) else .inl 1) else .inl 0
end ZS
namespace ZS
open PySem TL PySem.NumText
end ZS
namespace ZS
open PySem TL
theorem join1 (y x : Str) : Txt.join y [x] = x := by
  refine ext_tl ?_
  rw [join_eq, tl_join]
  rfl
end ZS
namespace ZS
open PySem TL PySem.NumText
/-- the law's own look: the digits d of the word l -/
def intB (d l : List Nat) : Bool := decide (1 ≤ d.length ∧ d.length ≤ 30) && (d.all dig && (!(d.head? == some 48) || decide (l = [48])))
end ZS
namespace ZS
open PySem TL
end ZS
namespace ZS
open PySem TL
end ZS

set_option linter.all false
namespace OM
variable {α : Type} [DecidableEq α]
inductive Rch (E : List (α × α)) : α → α → Prop
  | refl (a : α) : Rch E a a
  | step {a b c : α} : (a, b) ∈ E → Rch E b c → Rch E a c
theorem Rch.trans {E : List (α × α)} {a b c : α} (h : Rch E a b) (k : Rch E b c) : Rch E a c := by
  induction h with
  | refl => exact k
  | step e _ ih => exact .step e (ih k)
theorem Rch.one {E : List (α × α)} {a b : α} (h : (a, b) ∈ E) : Rch E a b := .step h (.refl _)
theorem Rch.mono {E F : List (α × α)} (hs : ∀ p ∈ E, Rch F p.1 p.2) {a b : α} (h : Rch E a b) : Rch F a b := by
  induction h with
  | refl => exact .refl _
  | step e _ ih => exact (hs _ e).trans ih
theorem Rch.mem {E : List (α × α)} {N : List α} (hE : ∀ p ∈ E, p.1 ∈ N ∧ p.2 ∈ N) {a b : α} (h : Rch E a b) : a = b ∨ (a ∈ N ∧ b ∈ N) := by
  induction h with
  | refl => exact .inl rfl
  | step e _ ih =>
    rcases ih with rfl | h
    · exact .inr (hE _ e)
    · exact .inr ⟨(hE _ e).1, h.2⟩
open Classical in
noncomputable def cl (E : List (α × α)) (a b : α) : Bool := decide (Rch E a b)
theorem cl_iff {E : List (α × α)} {a b : α} : cl E a b = true ↔ Rch E a b := by simp [cl]
theorem cl_refl (E : List (α × α)) (a : α) : cl E a a = true := cl_iff.mpr (.refl a)
theorem cl_trans {E : List (α × α)} {a b c : α} (h : cl E a b = true) (k : cl E b c = true) : cl E a c = true := cl_iff.mpr ((cl_iff.mp h).trans (cl_iff.mp k))
theorem cl_congr {E F : List (α × α)} (h : ∀ p ∈ E, Rch F p.1 p.2) (k : ∀ p ∈ F, Rch E p.1 p.2) : cl E = cl F := by
  funext a b
  rw [Bool.eq_iff_iff, cl_iff, cl_iff]
  exact ⟨Rch.mono h, Rch.mono k⟩
/-! ### Warshall -/
def wm (E : List (α × α)) : List α → α → α → Bool
  | [], a, b => decide (a = b) || decide ((a, b) ∈ E)
  | m :: ms, a, b => wm E ms a b || (wm E ms a m && wm E ms m b)
theorem wm_mono {E : List (α × α)} {m : α} {ms : List α} {a b : α} (h : wm E ms a b = true) : wm E (m :: ms) a b = true := by simp [wm, h]
theorem wm_base {E : List (α × α)} {a b : α} (h : wm E [] a b = true) : ∀ ms, wm E ms a b = true
  | [] => h
  | _ :: ms => wm_mono (wm_base h ms)
theorem wm_refl (E : List (α × α)) (ms : List α) (a : α) : wm E ms a a = true := wm_base (by simp [wm]) ms
theorem wm_edge {E : List (α × α)} {a b : α} (h : (a, b) ∈ E) (ms : List α) : wm E ms a b = true := wm_base (by simp [wm, h]) ms
theorem wm_trans {E : List (α × α)} : ∀ {ms : List α} {m a b : α}, m ∈ ms → wm E ms a m = true → wm E ms m b = true → wm E ms a b = true
  | m' :: ms, m, a, b, hm, h1, h2 => by
    simp only [wm, Bool.or_eq_true, Bool.and_eq_true] at h1 h2 ⊢
    by_cases e : m = m'
    · subst e
      have h1' : wm E ms a m = true := by rcases h1 with h | h; exact h; exact h.1
      have h2' : wm E ms m b = true := by rcases h2 with h | h; exact h; exact h.2
      exact .inr ⟨h1', h2'⟩
    · have hm : m ∈ ms := by
        rcases List.mem_cons.mp hm with h | h
        · exact absurd h e
        · exact h
      rcases h1 with h1 | ⟨h1, h1'⟩ <;> rcases h2 with h2 | ⟨h2, h2'⟩
      · exact .inl (wm_trans hm h1 h2)
      · exact .inr ⟨wm_trans hm h1 h2, h2'⟩
      · exact .inr ⟨h1, wm_trans hm h1' h2⟩
      · exact .inr ⟨h1, h2'⟩
theorem wm_rch {E : List (α × α)} : ∀ {ms : List α} {a b : α}, wm E ms a b = true → Rch E a b
  | [], a, b, h => by
    simp only [wm, Bool.or_eq_true, decide_eq_true_eq] at h
    rcases h with rfl | h
    · exact .refl _
    · exact .one h
  | m :: ms, a, b, h => by
    simp only [wm, Bool.or_eq_true, Bool.and_eq_true] at h
    rcases h with h | ⟨h, k⟩
    · exact wm_rch h
    · exact (wm_rch h).trans (wm_rch k)
theorem rch_wm {E : List (α × α)} {ms : List α} (hE : ∀ p ∈ E, p.2 ∈ ms) {a b : α} (h : Rch E a b) : wm E ms a b = true := by
  induction h with
  | refl => exact wm_refl _ _ _
  | step e _ ih => exact wm_trans (hE _ e) (wm_edge e ms) ih
theorem wm_cl {E : List (α × α)} {ms : List α} (hE : ∀ p ∈ E, p.2 ∈ ms) : wm E ms = cl E := by
  funext a b
  rw [Bool.eq_iff_iff, cl_iff]
  exact ⟨wm_rch, rch_wm hE⟩
/-! ### paths of a length -/
def Pth (E : List (α × α)) : Nat → α → α → Prop
  | 0, a, b => a = b
  | k + 1, a, b => a = b ∨ ∃ c, (a, c) ∈ E ∧ Pth E k c b
theorem Pth.refl (E : List (α × α)) : ∀ (k : Nat) (a : α), Pth E k a a
  | 0, _ => rfl
  | _ + 1, _ => .inl rfl
theorem Pth.succ {E : List (α × α)} : ∀ {k : Nat} {a b : α}, Pth E k a b → Pth E (k + 1) a b
  | 0, _, _, h => .inl h
  | k + 1, _, _, h => by
    rcases h with rfl | ⟨c, e, h⟩
    · exact .inl rfl
    · exact .inr ⟨c, e, h.succ⟩
theorem Pth.le {E : List (α × α)} {k j : Nat} (h : k ≤ j) {a b : α} (p : Pth E k a b) : Pth E j a b := by
  induction h with
  | refl => exact p
  | step _ ih => exact ih.succ
theorem rch_pth {E : List (α × α)} {a b : α} (h : Rch E a b) : ∃ k, Pth E k a b := by
  induction h with
  | refl => exact ⟨0, rfl⟩
  | step e _ ih => exact ⟨ih.choose + 1, .inr ⟨_, e, ih.choose_spec⟩⟩
theorem Pth.mem {E : List (α × α)} {N : List α} (hE : ∀ p ∈ E, p.1 ∈ N ∧ p.2 ∈ N) : ∀ {k : Nat} {a b : α}, Pth E k a b → b ∈ N → a ∈ N
  | 0, _, _, h, hb => h ▸ hb
  | k + 1, _, _, h, hb => by
    rcases h with rfl | ⟨c, e, _⟩
    · exact hb
    · exact (hE _ e).1
open Classical in
theorem stall {E : List (α × α)} {b : α} {k : Nat} (h : ∀ a, Pth E (k + 1) a b → Pth E k a b) : ∀ j a, Pth E j a b → Pth E k a b
  | 0, a, p => by
    cases p
    exact Pth.refl _ _ _
  | j + 1, a, p => by
    rcases p with rfl | ⟨c, e, p⟩
    · exact Pth.refl _ _ _
    · exact h a (.inr ⟨c, e, stall h j c p⟩)
theorem filter_sub_eq {p q : α → Bool} : ∀ {l : List α}, (∀ a ∈ l, p a = true → q a = true) → (l.filter q).length ≤ (l.filter p).length → ∀ a ∈ l, q a = true → p a = true
  | [], _, _, a, ha, _ => by cases ha
  | x :: l, hs, hl, a, ha, hq => by
    have hs' : ∀ a ∈ l, p a = true → q a = true := fun a h => hs a (List.mem_cons_of_mem _ h)
    have le : (l.filter p).length ≤ (l.filter q).length := by
      clear hl hq ha
      induction l with
      | nil => exact Nat.le_refl _
      | cons y l ih =>
        have ih := ih (fun a h => hs a (by
          rcases List.mem_cons.mp h with h | h
          · exact h ▸ List.mem_cons_self
          · exact List.mem_cons_of_mem _ (List.mem_cons_of_mem _ h))) fun a h => hs' a (List.mem_cons_of_mem _ h)
        have := hs' y List.mem_cons_self
        simp only [List.filter_cons]
        by_cases h1 : p y = true
        · rw [if_pos h1, if_pos (this h1)]
          simp; omega
        · rw [if_neg h1]
          split
          · simp; omega
          · exact ih
    have hx := hs x List.mem_cons_self
    simp only [List.filter_cons] at hl
    by_cases h1 : p x = true
    · rw [if_pos h1, if_pos (hx h1)] at hl
      rcases List.mem_cons.mp ha with h | h
      · exact h ▸ h1
      · exact filter_sub_eq hs' (by simpa using hl) a h hq
    · rw [if_neg h1] at hl
      by_cases h2 : q x = true
      · rw [if_pos h2] at hl
        simp at hl
        omega
      · rw [if_neg h2] at hl
        rcases List.mem_cons.mp ha with h | h
        · exact absurd (h ▸ hq) h2
        · exact filter_sub_eq hs' hl a h hq
open Classical in
theorem grows {E : List (α × α)} {N : List α} (hE : ∀ p ∈ E, p.1 ∈ N ∧ p.2 ∈ N) {b : α} (hb : b ∈ N) : ∀ k, (∀ a, Pth E (k + 1) a b → Pth E k a b) ∨ k + 1 ≤ (N.filter fun a => decide (Pth E k a b)).length
  | 0 => by
    right
    have : b ∈ N.filter fun a => decide (Pth E 0 a b) := List.mem_filter.mpr ⟨hb, by simp [Pth]⟩
    have := List.length_pos_of_mem this
    omega
  | k + 1 => by
    rcases grows hE hb k with h | h
    · exact .inl fun a p => (stall h _ a p).succ
    · by_cases q : k + 2 ≤ (N.filter fun a => decide (Pth E (k + 1) a b)).length
      · exact .inr q
      · left
        have st : ∀ a, Pth E (k + 1) a b → Pth E k a b := fun a p => by
          have := filter_sub_eq (l := N) (p := fun a => decide (Pth E k a b)) (q := fun a => decide (Pth E (k + 1) a b)) (fun a _ h => by simpa using (of_decide_eq_true h).succ) (by omega) a (p.mem hE hb) (by simpa using p)
          simpa using this
        exact fun a p => (stall st _ a p).succ
open Classical in
theorem rch_short {E : List (α × α)} {N : List α} (hE : ∀ p ∈ E, p.1 ∈ N ∧ p.2 ∈ N) {a b : α} (h : Rch E a b) : Pth E N.length a b := by
  rcases h.mem hE with rfl | ⟨_, hb⟩
  · exact Pth.refl _ _ _
  · obtain ⟨j, p⟩ := rch_pth h
    rcases grows hE hb N.length with q | q
    · exact stall q j a p
    · have := List.length_filter_le (fun a => decide (Pth E N.length a b)) N
      omega
/-! ### the law's own closure -/
def put (f : α → List α) (a : α) (l : List α) : α → List α := fun x => if x = a then l else f x
def turn1 (f : α → List α) (p : α × α) : α → List α := put f p.1 (f p.1 ++ (f p.2).filter fun x => !decide (x ∈ f p.1))
def turn (E : List (α × α)) (f : α → List α) : α → List α := E.foldl turn1 f
def turns (E : List (α × α)) : Nat → (α → List α) → α → List α
  | 0, f => f
  | n + 1, f => turns E n (turn E f)
theorem turn1_mono {f : α → List α} {p : α × α} {a b : α} (h : b ∈ f a) : b ∈ turn1 f p a := by
  unfold turn1 put
  split
  · rename_i e
    subst e
    exact List.mem_append_left _ h
  · exact h
theorem turn_mono {E : List (α × α)} : ∀ {f : α → List α} {a b : α}, b ∈ f a → b ∈ turn E f a := by
  induction E with
  | nil => exact fun h => h
  | cons p E ih => exact fun h => ih (turn1_mono h)
theorem turn_edge {E : List (α × α)} : ∀ {f : α → List α} {p : α × α} {b : α}, p ∈ E → b ∈ f p.2 → b ∈ turn E f p.1 := by
  induction E with
  | nil => intro f p b h; cases h
  | cons q E ih =>
    intro f p b h hb
    rcases List.mem_cons.mp h with rfl | h
    · show b ∈ turn E (turn1 f p) p.1
      refine turn_mono ?_
      unfold turn1 put
      rw [if_pos rfl]
      by_cases e : b ∈ f p.1
      · exact List.mem_append_left _ e
      · exact List.mem_append_right _ (List.mem_filter.mpr ⟨hb, by simp [e]⟩)
    · exact ih h (turn1_mono hb)
theorem turns_succ (E : List (α × α)) : ∀ (n : Nat) (f : α → List α), turns E (n + 1) f = turn E (turns E n f)
  | 0, _ => rfl
  | n + 1, f => turns_succ E n (turn E f)
theorem turns_pth {E : List (α × α)} : ∀ {k : Nat} {a b : α}, Pth E k a b → b ∈ turns E k (fun x => [x]) a
  | 0, a, b, h => by
    cases h
    exact List.mem_singleton.mpr rfl
  | k + 1, a, b, h => by
    rw [turns_succ]
    rcases h with rfl | ⟨c, e, h⟩
    · exact turn_mono (turns_pth (Pth.refl E k a))
    · exact turn_edge (p := (a, c)) e (turns_pth h)
theorem turn1_sound {E : List (α × α)} {f : α → List α} {p : α × α} (hp : p ∈ E) (h : ∀ a b, b ∈ f a → Rch E a b) : ∀ a b, b ∈ turn1 f p a → Rch E a b := by
  intro a b hb
  unfold turn1 put at hb
  split at hb
  · rename_i e
    subst e
    rcases List.mem_append.mp hb with hb | hb
    · exact h _ _ hb
    · exact .step hp (h _ _ (List.mem_filter.mp hb).1)
  · exact h _ _ hb
theorem turn_sound {E : List (α × α)} : ∀ {F : List (α × α)} {f : α → List α}, (∀ p ∈ F, p ∈ E) → (∀ a b, b ∈ f a → Rch E a b) → ∀ a b, b ∈ turn F f a → Rch E a b := by
  intro F
  induction F with
  | nil => exact fun _ h => h
  | cons p F ih => exact fun hs h => ih (fun q hq => hs q (List.mem_cons_of_mem _ hq)) (turn1_sound (hs p List.mem_cons_self) h)
theorem turns_sound {E : List (α × α)} : ∀ {k : Nat} {a b : α}, b ∈ turns E k (fun x => [x]) a → Rch E a b
  | 0, a, b, h => by
    rw [List.mem_singleton.mp h]
    exact .refl _
  | k + 1, a, b, h => by
    rw [turns_succ] at h
    exact turn_sound (fun _ h => h) (fun _ _ h => turns_sound h) a b h
theorem turn1_nodup {f : α → List α} {p : α × α} (h : ∀ a, (f a).Nodup) : ∀ a, (turn1 f p a).Nodup := by
  intro a
  unfold turn1 put
  split
  · refine List.nodup_append.mpr ⟨h _, (h _).filter _, ?_⟩
    intro x hx y hy e
    subst e
    have := (List.mem_filter.mp hy).2
    simp [hx] at this
  · exact h a
theorem turn_nodup : ∀ {F : List (α × α)} {f : α → List α}, (∀ a, (f a).Nodup) → ∀ a, (turn F f a).Nodup := by
  intro F
  induction F with
  | nil => exact fun h => h
  | cons p F ih => exact fun h => ih (turn1_nodup h)
theorem turns_nodup {E : List (α × α)} : ∀ {k : Nat} (a : α), (turns E k (fun x => [x]) a).Nodup
  | 0, a => by simp [turns]
  | k + 1, a => by
    rw [turns_succ]
    exact turn_nodup (fun a => turns_nodup a) a
/-- what the law's closure has -/
theorem turns_iff {E : List (α × α)} {N : List α} (hE : ∀ p ∈ E, p.1 ∈ N ∧ p.2 ∈ N) {a b : α} : b ∈ turns E N.length (fun x => [x]) a ↔ cl E a b = true := by
  rw [cl_iff]
  exact ⟨turns_sound, fun h => turns_pth (rch_short hE h)⟩
end OM

set_option linter.all false
namespace OM
variable {α : Type} [DecidableEq α]
/-! ### pairs and covers -/
def ab (N : List α) (R : α → α → Bool) (a : α) : List α := N.filter (R a)
def prs (N : List α) (R : α → α → Bool) : List (α × α) := N.flatMap fun a => ((ab N R a).filter fun b => !decide (a = b)).map fun b => (a, b)
def btw (N : List α) (R : α → α → Bool) (a b : α) : List α := (ab N R a).filter fun c => R c b
def cvs (N : List α) (R : α → α → Bool) : List (α × α) := (prs N R).filter fun p => decide ((btw N R p.1 p.2).length = 2)
theorem mem_ab {N : List α} {R : α → α → Bool} {a b : α} : b ∈ ab N R a ↔ b ∈ N ∧ R a b = true := List.mem_filter
theorem mem_prs {N : List α} {R : α → α → Bool} {a b : α} : (a, b) ∈ prs N R ↔ a ∈ N ∧ b ∈ N ∧ R a b = true ∧ a ≠ b := by
  simp only [prs, List.mem_flatMap, List.mem_map, List.mem_filter, Prod.mk.injEq, mem_ab]
  constructor
  · rintro ⟨x, hx, y, ⟨hy, hn⟩, rfl, rfl⟩
    exact ⟨hx, hy.1, hy.2, by simpa using hn⟩
  · rintro ⟨h1, h2, h3, h4⟩
    exact ⟨a, h1, b, ⟨⟨h2, h3⟩, by simpa using h4⟩, rfl, rfl⟩
theorem mem_btw {N : List α} {R : α → α → Bool} {a b c : α} : c ∈ btw N R a b ↔ c ∈ N ∧ R a c = true ∧ R c b = true := by
  simp only [btw, List.mem_filter, mem_ab, and_assoc]
theorem mem_cvs {N : List α} {R : α → α → Bool} {a b : α} : (a, b) ∈ cvs N R ↔ (a ∈ N ∧ b ∈ N ∧ R a b = true ∧ a ≠ b) ∧ (btw N R a b).length = 2 := by
  simp only [cvs, List.mem_filter, mem_prs, decide_eq_true_eq]
theorem nodup_two {l : List α} (h : l.Nodup) {a b : α} (ha : a ∈ l) (hb : b ∈ l) (ne : a ≠ b) : l.length = 2 + (l.filter fun c => !decide (c = a) && !decide (c = b)).length := by
  have one : ∀ {l : List α} {a : α}, l.Nodup → a ∈ l → l.length = 1 + (l.filter fun c => !decide (c = a)).length := by
    intro l a
    induction l with
    | nil => intro _ h; cases h
    | cons x l ih =>
      intro hn hm
      obtain ⟨h1, h2⟩ := List.nodup_cons.mp hn
      by_cases e : x = a
      · subst e
        have : l.filter (fun c => !decide (c = x)) = l := List.filter_eq_self.mpr fun c hc => by
          have : c ≠ x := fun e => h1 (e ▸ hc)
          simpa using this
        simp [this]
        omega
      · have hm : a ∈ l := by
          rcases List.mem_cons.mp hm with h | h
          · exact absurd h.symm e
          · exact h
        have := ih h2 hm
        simp [e]
        omega
  have h1 := one h ha
  have h2 := one (a := b) (h.filter fun c => !decide (c = a)) (List.mem_filter.mpr ⟨hb, by simpa using Ne.symm ne⟩)
  rw [List.filter_filter] at h2
  have e : (l.filter fun c => (!decide (c = b)) && !decide (c = a)) = l.filter fun c => !decide (c = a) && !decide (c = b) := by
    congr 1
    funext c
    exact Bool.and_comm _ _
  rw [e] at h2
  omega
theorem btw_two {N : List α} {R : α → α → Bool} (hN : N.Nodup) (hr : ∀ a, R a a = true) {a b : α} (ha : a ∈ N) (hb : b ∈ N) (h : R a b = true) (ne : a ≠ b) :
    (btw N R a b).length = 2 ↔ ∀ c ∈ N, R a c = true → R c b = true → c = a ∨ c = b := by
  have hn : (btw N R a b).Nodup := (hN.filter _).filter _
  have := nodup_two hn (mem_btw.mpr ⟨ha, hr a, h⟩) (mem_btw.mpr ⟨hb, h, hr b⟩) ne
  rw [this]
  constructor
  · intro e c hc h1 h2
    have z : ((btw N R a b).filter fun c => !decide (c = a) && !decide (c = b)) = [] := List.eq_nil_of_length_eq_zero (by omega)
    have := List.filter_eq_nil_iff.mp z c (mem_btw.mpr ⟨hc, h1, h2⟩)
    simp at this
    by_cases e : c = a
    · exact .inl e
    · exact .inr (this e)
  · intro k
    have z : ((btw N R a b).filter fun c => !decide (c = a) && !decide (c = b)) = [] := List.filter_eq_nil_iff.mpr fun c hc => by
      obtain ⟨hc, h1, h2⟩ := mem_btw.mp hc
      rcases k c hc h1 h2 with e | e <;> simp [e]
    rw [z]
    rfl
/-- covers as the law finds them: f tells what is above -/
def lcv (N : List α) (f : α → List α) (g : α → List α) : List (α × α) := N.flatMap fun a => ((g a).filter fun b => !decide (b = a) && decide (((f a).filter fun c => !(decide (c = a) || decide (c = b)) && decide (b ∈ f c)) = [])).map fun b => (a, b)
theorem lcv_eq {N : List α} {R : α → α → Bool} {f : α → List α} (hN : N.Nodup) (hr : ∀ a, R a a = true) (hf : ∀ a ∈ N, ∀ b, b ∈ f a ↔ b ∈ N ∧ R a b = true) : lcv N f (ab N R) = cvs N R := by
  unfold lcv cvs prs
  rw [List.filter_flatMap]
  have cong : ∀ {l : List α} {F G : α → List (α × α)}, (∀ a ∈ l, F a = G a) → l.flatMap F = l.flatMap G := by
    intro l F G h
    induction l with
    | nil => rfl
    | cons x l ih => rw [List.flatMap_cons, List.flatMap_cons, h x List.mem_cons_self, ih fun a ha => h a (List.mem_cons_of_mem _ ha)]
  refine cong fun a ha => ?_
  rw [List.filter_map, List.filter_filter]
  congr 1
  refine List.filter_congr fun b hb => ?_
  obtain ⟨hb, hR⟩ := mem_ab.mp hb
  by_cases e : b = a
  · simp [e]
  · have e' : ¬ a = b := fun z => e z.symm
    simp only [Function.comp, e, e', decide_false, Bool.not_false, Bool.true_and, Bool.and_true]
    refine decide_eq_decide.mpr ?_
    rw [btw_two hN hr ha hb hR e', List.filter_eq_nil_iff]
    constructor
    · intro k c hc h1 h2
      have := k c ((hf a ha c).mpr ⟨hc, h1⟩)
      have := this
      simp [(hf c hc b).mpr ⟨hb, h2⟩] at this
      by_cases z : c = a
      · exact .inl z
      · exact .inr (this z)
    · intro k c hc
      obtain ⟨hc, h1⟩ := (hf a ha c).mp hc
      by_cases h2 : b ∈ f c
      · rcases k c hc h1 ((hf c hc b).mp h2).2 with z | z <;> simp [z]
      · simp [h2]
/-- covers tell the order -/
theorem cvs_rch {N : List α} {R : α → α → Bool} (hN : N.Nodup) (hr : ∀ a, R a a = true) (ht : ∀ a b c, R a b = true → R b c = true → R a c = true) (hs : ∀ a b, a ∈ N → b ∈ N → R a b = true → R b a = true → a = b) :
    ∀ (n : Nat) (a b : α), (btw N R a b).length ≤ n → a ∈ N → b ∈ N → R a b = true → Rch (cvs N R) a b
  | 0, a, b, h, ha, hb, k => by
    have := List.length_pos_of_mem (mem_btw.mpr ⟨ha, hr a, k⟩)
    omega
  | n + 1, a, b, h, ha, hb, k => by
    by_cases e : a = b
    · exact e ▸ .refl _
    by_cases two : (btw N R a b).length = 2
    · exact .one (mem_cvs.mpr ⟨⟨ha, hb, k, e⟩, two⟩)
    · rw [btw_two hN hr ha hb k e] at two
      obtain ⟨c, hc, h1, h2, ca, cb⟩ : ∃ c, c ∈ N ∧ R a c = true ∧ R c b = true ∧ c ≠ a ∧ c ≠ b := by
        refine Classical.byContradiction fun no => two fun c hc h1 h2 => ?_
        by_cases z : c = a
        · exact .inl z
        · exact .inr (Classical.byContradiction fun z2 => no ⟨c, hc, h1, h2, z, z2⟩)
      have less : ∀ x y z, x ∈ btw N R a b → x ∉ btw N R y z → (∀ w, w ∈ btw N R y z → w ∈ btw N R a b) → (btw N R y z).length ≤ n := by
        intro x y z hx hn hsub
        have nd : (x :: btw N R y z).Nodup := List.nodup_cons.mpr ⟨hn, (hN.filter _).filter _⟩
        have := nd.length_le_of_subset (l₂ := btw N R a b) fun w hw => by
          rcases List.mem_cons.mp hw with rfl | hw
          · exact hx
          · exact hsub w hw
        simp at this
        omega
      refine (cvs_rch hN hr ht hs n a c (less b a c (mem_btw.mpr ⟨hb, k, hr b⟩) (fun z => cb (hs _ _ hc hb h2 (mem_btw.mp z).2.2)) fun w hw => ?_) ha hc h1).trans
        (cvs_rch hN hr ht hs n c b (less a c b (mem_btw.mpr ⟨ha, hr a, k⟩) (fun z => ca (hs _ _ hc ha (mem_btw.mp z).2.1 h1)) fun w hw => ?_) hc hb h2)
      · obtain ⟨x, y, z⟩ := mem_btw.mp hw
        exact mem_btw.mpr ⟨x, y, ht _ _ _ z h2⟩
      · obtain ⟨x, y, z⟩ := mem_btw.mp hw
        exact mem_btw.mpr ⟨x, ht _ _ _ h1 y, z⟩
/-- no two below each other -/
def Anti (E : List (α × α)) : Prop := ∀ a b, Rch E a b → Rch E b a → a = b
theorem cvs_cl {E : List (α × α)} {N : List α} (hN : N.Nodup) (hE : ∀ p ∈ E, p.1 ∈ N ∧ p.2 ∈ N) (ha : Anti E) : cl (cvs N (cl E)) = cl E := by
  refine cl_congr (fun p hp => ?_) fun p hp => ?_
  · exact cl_iff.mp (mem_cvs.mp hp).1.2.2.1
  · exact cvs_rch hN (cl_refl E) (fun _ _ _ => cl_trans) (fun a b _ _ h k => ha a b (cl_iff.mp h) (cl_iff.mp k)) _ _ _ (Nat.le_refl _) (hE _ hp).1 (hE _ hp).2 (cl_iff.mpr (.one hp))
/-- pairs along a line -/
theorem anti_rank {E : List (α × α)} (r : α → Nat) (h : ∀ p ∈ E, p.1 = p.2 ∨ r p.1 < r p.2) : Anti E := by
  have up : ∀ {a b}, Rch E a b → a = b ∨ r a < r b := by
    intro a b k
    induction k with
    | refl => exact .inl rfl
    | step e _ ih =>
      have := h _ e
      rcases this with z | z <;> rcases ih with y | y
      · exact .inl (z.trans y)
      · exact .inr (by dsimp only at z; rw [z]; exact y)
      · exact .inr (by rw [← y]; exact z)
      · exact .inr (Nat.lt_trans z y)
  intro a b k1 k2
  rcases up k1 with e | e
  · exact e
  · rcases up k2 with e2 | e2
    · exact e2.symm
    · omega
theorem anti_sub {E F : List (α × α)} (hs : ∀ p ∈ E, Rch F p.1 p.2) (h : Anti F) : Anti E := fun a b k1 k2 => h a b (k1.mono hs) (k2.mono hs)
end OM

set_option Elab.async false
set_option linter.all false
set_option maxRecDepth 100000
set_option maxHeartbeats 4000000
/-! own __contains__, __len__, __iter__ (which hands back iter of a tuple), list(o) -/
namespace Z
open PySem PySem.Spec PyProof.Rows L2
section
variable {X : Cx} {k j : Nat} {f C : Addr} {sp : Sp}
/-- x in o, o an instance with its own __contains__ -/
def rInOwn (C : Addr) (sp : Sp) (neg : Bool) : R2 := fun x y H Q => ∃ a dx fs, y = .ref a ∧ H a = some (.ins C dx fs) ∧
  sp [.ref a, x] H (fun v H' => ∃ r : Bool, v = .bl r ∧ Q (.bl (r != neg)) H') (fun _ _ _ => False)
theorem backBl {A : Around} {pins : List (Addr × Obj)} {σ : L2.St} {H : Hp} {s : Shared} {g : Bool → Bool} {Q : VK} {us : List Value} {vs : List V} (F : FnR X.prog X.w X.K X.mg X.base (L2.CX X.prog X.w) k f sp) (hr : Room k A) (e0 : Env0 X.prog X.w X.K X.mg X.base A X.stack s H)
    (I : Inv X pins σ H s) (r : Vals vs us) (h : sp vs H (fun v H' => ∃ r : Bool, v = .bl r ∧ Q (.bl (g r)) H') (fun _ _ _ => False)) :
    wpAny (model X.prog X.w) A (call (.ref f) us) (fun v s' => ∃ r : Bool, v = .bool r ∧ EP X pins σ Q (.bool (g r)) s') X.xe s := by
  refine wpAny_call (codeAny_mono (F A X.stack s H us vs _ (fun _ _ _ => False) hr e0 r h) fun q s' hq => ?_)
  rcases q with e | fl
  · exact (cxN hq).elim
  rcases fl with _ | _ | _ | u'
  · exact False.elim hq
  · exact False.elim hq
  · exact False.elim hq
  obtain ⟨v', H', J', rv, r, ev, q⟩ := I.after hq
  subst ev
  obtain rfl : u' = Value.bool r := rv
  exact ⟨r, rfl, .bl (g r), H', J', rfl, q⟩
theorem z_notInOwn (c : CalO X.prog X.w X.K X.mg X.base C "__contains__" k sp) (hr : Room j X.A) (hj : k ≤ j := by decide) : OpR X (compareOp .NotIn) (rInOwn C sp true) := by
  intro pins s σ H x y v u Q I rx ry h
  obtain ⟨f, S, sf, F⟩ := c
  obtain ⟨a, dx, fs, rfl, ea, h⟩ := h
  obtain rfl : u = Value.ref a := ry
  obtain ⟨ox, od, Ja⟩ := instAt I ea
  obtain ⟨m, fr⟩ := I.fr
  refine PySem.W.notIn_K fr I.ok.mod.kin Ja S.at_ S.fn (wpAny_mono (backBl (vs := [.ref a, x]) F (hr.mono hj) I.env0 I (.cons rfl (.cons rx .nil)) h) (fun v s' hv => ?_) fun _ _ z => z)
  obtain ⟨r, rfl, q⟩ := hv
  refine wpAny_truthy_bool ?_
  have e : (r != true) = !r := by cases r <;> rfl
  rw [e] at q
  exact q
/-- len(o) by an own __len__ -/
def rLenOwn (C : Addr) (sp : Sp) : List V → Hp → VK → Prop := fun xs H Q => ∃ a dx fs, xs = [.ref a] ∧ H a = some (.ins C dx fs) ∧
  sp [.ref a] H (fun v H' => ∃ n : Int, v = .int n ∧ (0 ≤ n ∧ n < 2 ^ 63) ∧ Q (.int n) H') (fun _ _ _ => False)
/-- iter(t), a tuple: an iterator at its start -/
def TupIt (q t : Addr) (i : Nat) : HO := .ext fun h => h.IsTupleIter q t i
theorem tupIt_ok {P : Program} {w : World} {H : Hp} {h : Heap} {q t : Addr} {i : Nat} (e : h.IsTupleIter q t i) : ObjOk P w H h q (TupIt q t i) := by
  obtain ⟨o, ho, hc, hd⟩ := id e
  refine ⟨e, ⟨o, ho⟩, fun h1 h2 ⟨o1, e1, c1, d1⟩ k => ⟨o1, k _ e1, c1, d1⟩⟩
def rIterT (K : PySem.W.Frag) : List V → Hp → VK → Prop := fun xs H Q => ∃ t ys, xs = [.ref t] ∧ SqT K H t ys ∧ ∀ q, H q = none → Q (.ref q) (upd H q (TupIt q t 0))
/-- what is known of an iterator that is used up: it stands -/
def DeadIt (q : Addr) : HO := .ext fun h => ∃ o, h.get? q = some o
/-- list(o), where __iter__ hands back iter of a tuple, and __len__ says how long that is -/
def rListOwn (K : PySem.W.Frag) (C : Addr) (spI spL : Sp) : List V → Hp → VK → Prop := fun xs H Q => ∃ a dx fs t ys, xs = [.ref a] ∧ H a = some (.ins C dx fs) ∧ SqT K H t ys ∧ ys.length < 1000 ∧
  (∀ H1, Same H H1 → spI [.ref a] H1 (fun v H2 => ∃ q, v = .ref q ∧ H1 q = none ∧ H2 = upd H1 q (TupIt q t 0)) fun _ _ _ => False) ∧
  (∀ H1, Same H H1 → spL [.ref a] H1 (fun v H2 => ∃ n : Int, v = .int n ∧ (0 ≤ n ∧ n < 2 ^ 63) ∧ (fun v H' => v = V.int ys.length ∧ Same H1 H') (V.int n) H2) fun _ _ _ => False) ∧
  ∀ l H', H l = none → Same H H' → H' l = some (.lst ys) → Q (.ref l) H'
end
end Z

set_option Elab.async false
set_option linter.all false
set_option maxRecDepth 100000
set_option maxHeartbeats 4000000
/-! {**a, **b}; sorted of a tuple of texts; == of dicts of tuples -/
namespace Z
open PySem PySem.Spec PyProof.Rows L2
section
variable {P : Program} {w : World} {A : Around} {E : Value → Shared → Prop} {s : Shared}
theorem putDict {d : Addr} {kvs : List (Key × Value)} {k : Key} {key v : Value} {Q : Unit → Shared → Prop} (hkey : (mixKind P w).is k key = true) (hm : s.heap.DictOf (mixKind P w) d kvs)
    (hQ : ∀ h', h'.DictOf (mixKind P w) d (stored kvs k v) → Heap.SameBut d s.heap h' → Q () { s with heap := h' }) (hsz : kvs.length ≤ sizeLine) :
    wpAny (model P w) A (dictPut d ((mixKind P w).hash k) key v) Q E s := by
  obtain ⟨o, es, ep, ho, hc, hd, hk, hp, hn⟩ := hm
  have hes : es.size ≤ sizeLine := by
    have e1 := hp.length
    have e2 : es.toList.length = es.size := by simp
    omega
  unfold dictPut
  refine wpAny_bind (wpAny_dictFind_of hkey ho hd hk ?_)
  have hidx : (es.findIdx? fun e => (mixKind P w).is k e.key) = kvs.findIdx? fun kv => decide (kv.1 = k) := by rw [← hp.findIdx k]; obtain ⟨l⟩ := es; simp
  cases hi : es.findIdx? fun e => (mixKind P w).is k e.key with
  | some i =>
    refine wpAny_updateDict ho hd (hQ _ ⟨_, _, ep, Heap.get?_update_self _ ho (Obj.isFreed_of_dict (Obj.data_mapDict hd _)), hc.mapDict _, Obj.data_mapDict hd _, hk.modify _ _, ?_, ?_⟩ (Heap.SameBut.update ..))
    · rw [stored, if_pos (any_of_findIdx_some (hidx ▸ hi))]
      have hl : (es.toList.findIdx? fun e => (mixKind P w).is k e.key) = some i := by rw [← hi]; obtain ⟨l⟩ := es; simp
      have := hp.modify hn hl v
      obtain ⟨l⟩ := es
      simpa using this
    · rw [stored, if_pos (any_of_findIdx_some (hidx ▸ hi)), keys_map_store]; exact hn
  | none =>
    have hnot : k ∉ kvs.map (·.1) := not_mem_of_findIdx_none (hidx ▸ hi)
    have hany : ¬ (kvs.any fun kv => decide (kv.1 = k)) = true := by
      rw [List.any_eq_true]; rintro ⟨kv, hkv, he⟩; exact hnot (List.mem_map.mpr ⟨kv, hkv, of_decide_eq_true he⟩)
    refine wpAny_updateDictKeys (hz := hes) ho hd (hQ _ ⟨_, _, ep + 1, Heap.get?_update_self _ ho (Obj.isFreed_of_dict (Obj.data_mapDictKeys hd _)), hc.mapDictKeys _, Obj.data_mapDictKeys hd _, hk.push hkey _, ?_, ?_⟩ (Heap.SameBut.update ..))
    · rw [stored, if_neg hany]
      have := hp.append hkey ((mixKind P w).hash k) v
      obtain ⟨l⟩ := es
      simpa using this
    · rw [stored, if_neg hany, List.map_append, List.nodup_append]
      refine ⟨hn, by simp, ?_⟩
      intro a ha b hb
      simp only [List.map_cons, List.map_nil, List.mem_singleton] at hb
      subst hb
      exact fun e => hnot (e ▸ ha)
theorem iteBoth {α : Type} {M : Model} {A : Around} {E : Value → Shared → Prop} {s : Shared} {c : Bool} {a b : Sem α} {Q : α → Shared → Prop} (hb : wpAny M A b Q E s) (ha : wpAny M A b Q E s → wpAny M A a Q E s) : wpAny M A (if c = true then a else b) Q E s := by
  cases c
  · exact hb
  · exact ha hb
theorem mergeIn {d o : Addr} {kvs more : List (Key × Value)} {Q : Unit → Shared → Prop} (hdo : d ≠ o) (hoS : (o == sysModules) = false) (hd : s.heap.DictOf (mixKind P w) d kvs) (ho : s.heap.DictOf (mixKind P w) o more)
    (hQ : ∀ h', h'.DictOf (mixKind P w) d (merged kvs more) → Heap.SameBut d s.heap h' → Q () { s with heap := h' }) (hsz : kvs.length + more.length ≤ sizeLine) :
    wpAny (model P w) A (mergeMapping d (.ref o) false) Q E s := by
  obtain ⟨od, esd, epd, hod, hcd, hdd, hkd, hpd, hnd⟩ := id hd
  obtain ⟨oo, eso, epo, hoo, hco, hdo', hko, hpo, hno⟩ := id ho
  have hlen : more.length = eso.size := by rw [← hpo.length]; simp
  unfold mergeMapping
  refine wpAny_bind (wpAny_isInstance (T := "dict") ho.typeIs PySem.F.sub_dict_dict ?_)
  refine PySem.W.KFB.if_so rfl ?_
  refine wpAny_bind (wpAny_specialOf ho.typeIs PySem.F.slot_dict_iter.lookup ?_)
  refine wpAny_bind (wpAny_of_eq (a := true) (by rw [show (some (Value.builtin "dict.__iter__") == some (Value.builtin "dict.__iter__")) = true by decide]) ?_)
  dsimp only
  refine PySem.W.KFB.if_not (by rw [hoS]) ?_
  refine wpAny_bind (wpAny_dictEntries hod hdd ?_)
  refine iteBoth ?_ fun loop => ?_
  · refine wpAny_bind (wpAny_dictEntries hoo hdo' (wpAny_bind (wpAny_dictEpoch hoo hdo' (wpAny_bind ?_))))
    refine wpAny_forIn_list _ (fun rest _ s' => ∃ h' i, s' = { s with heap := h' } ∧ rest = List.range' i (eso.size - i) ∧ i ≤ eso.size ∧ h'.DictOf (mixKind P w) d (merged kvs (more.take i)) ∧ h'.get? o = some oo ∧ Heap.SameBut d s.heap h') _ ?_ ?_ _ _ ⟨s.heap, 0, rfl, by rw [List.range_eq_range']; rfl, Nat.zero_le _, hd, hoo, Heap.SameBut.refl _ _⟩
    · rintro x rest b s' ⟨h', i, rfl, hr, hi, hd', hoo', hs'⟩
      have hlt : i < eso.size := by
        rcases Nat.lt_or_ge i eso.size with h | h
        · exact h
        · rw [Nat.sub_eq_zero_of_le h] at hr; simp at hr
      obtain ⟨rfl, hrest⟩ : x = i ∧ rest = List.range' (i + 1) (eso.size - (i + 1)) := by
        have e : eso.size - i = (eso.size - (i + 1)) + 1 := by omega
        rw [e, List.range'_succ] at hr
        injection hr with h1 h2; exact ⟨h1, h2⟩
      refine wpAny_bind (wpAny_dictEntries hoo' hdo' ?_)
      rw [Array.getElem?_eq_getElem hlt]
      obtain ⟨kv, hkv⟩ : ∃ kv, more[x]? = some kv := ⟨more[x]'(by rw [hlen]; exact hlt), List.getElem?_eq_getElem _⟩
      obtain ⟨k, v⟩ := kv
      obtain ⟨hkey, hval⟩ := hpo.get? (e := eso[x]) (by simp [hlt]) hkv
      obtain ⟨k', hkey', hhash⟩ := hko eso[x] (Array.getElem_mem hlt)
      obtain rfl : k' = k := (mixKind P w).inj _ _ _ hkey' hkey
      refine wpAny_bind (wpAny_holding ?_)
      refine PySem.W.KFB.if_not rfl ?_
      rw [hhash, hval]
      have hmx : (merged kvs (more.take x)).length ≤ sizeLine := by
        have e1 := merged_length_le kvs (more.take x)
        have e2 : (more.take x).length ≤ more.length := by rw [List.length_take]; omega
        omega
      refine putDict hkey hd' (fun h'' hd'' hs'' => ?_) hmx
      have hoo'' : h''.get? o = some oo := (hs''.2 o (Ne.symm hdo)).trans hoo'
      refine wpAny_bind (wpAny_dictEpoch hoo'' hdo' ?_)
      rw [if_neg (by simp)]
      refine wpAny_pure ⟨h'', x + 1, rfl, hrest, hlt, ?_, hoo'', hs'.trans hs''⟩
      rw [merged_take_succ kvs more x (k', v) hkv]
      exact hd''
    · rintro b s' ⟨h', i, rfl, hr, hi, hd', hoo', hs'⟩
      have hin : i = eso.size := by
        rcases Nat.lt_or_ge i eso.size with h | h
        · have e : eso.size - i = (eso.size - (i + 1)) + 1 := by omega
          rw [e, List.range'_succ] at hr; exact nomatch hr
        · exact Nat.le_antisymm hi h
      rw [hin, ← hlen, List.take_length] at hd'
      exact wpAny_pure (hQ h' hd' hs')
  · refine wpAny_bind (wpAny_dictEntries hoo hdo' (wpAny_bind ?_))
    rw [← Array.forIn_toList]
    refine wpAny_forIn_list _ (fun rest _ s' => s' = s ∧ ∀ e ∈ rest, e ∈ eso) _ ?_ ?_ _ _ ⟨rfl, fun e h => by simpa using h⟩
    · rintro e rest b s' ⟨rfl, hm⟩
      obtain ⟨k, hk, _⟩ := hko e (hm e List.mem_cons_self)
      have hm' : ∀ e ∈ rest, e ∈ eso := fun e h => hm e (List.mem_cons_of_mem _ h)
      rcases keyIs_shape hk with ⟨i, t, _, ek⟩ | ⟨x, t, _, ek⟩
      · rw [ek]
        exact wpAny_pure ⟨rfl, hm'⟩
      · rw [ek]
        exact wpAny_pure ⟨rfl, hm'⟩
    · rintro b s' ⟨rfl, _⟩
      exact loop
end
/-- {**a, **b}: two dicts with keys ints and texts -/
def tMerge2 (t1 t2 : TE) : TE := fun σ H Q => ∀ p, H p = Option.none → t1 σ (upd H p (.dK [])) fun x H1 => ∃ a ks, x = .ref a ∧ p ≠ a ∧ H1 a = some (.dK ks) ∧ H1 p = some (.dK []) ∧ ks.length ≤ 1000 ∧
  t2 σ (upd H1 p (.dK (mergeK [] ks))) fun y H2 => ∃ b ls, y = .ref b ∧ p ≠ b ∧ H2 b = some (.dK ls) ∧ H2 p = some (.dK (mergeK [] ks)) ∧ ls.length ≤ 1000 ∧ Q (.ref p) (upd H2 p (.dK (mergeK (mergeK [] ks) ls)))
section
variable {X : Cx} {pos : Pos} {e1 e2 : Expr} {t1 t2 : TE} {pins : List (Addr × Obj)} {σ : L2.St} {H : Hp} {s : Shared}
theorem mergeStep {p a : Addr} {kvs ks : List (Key × V)} {E : Value → Shared → Prop} {Q : Unit → Shared → Prop} (I : Inv X pins σ H s) (hne : p ≠ a) (ha : H a = some (.dK ks)) (hp : H p = some (.dK kvs)) (z1 : kvs.length ≤ 1000) (z2 : ks.length ≤ 1000)
    (h : ∀ s', Inv X pins σ (upd H p (.dK (mergeK kvs ks))) s' → Q () s') : wpAny (model X.prog X.w) X.A (mergeMapping p (.ref a) false) Q E s := by
  obtain ⟨_, sa, vs, ra, da⟩ := dk_of I.hok ha
  obtain ⟨_, sp, us, rp, dp⟩ := dk_of I.hok hp
  have l1 := ra.length
  have l2 := rp.length
  have big : (3000 : Nat) ≤ sizeLine := by rw [sizeLine_eq]; decide
  refine mergeIn hne sa dp da (fun h' dd hs => h _ ?_) (by omega)
  have he : ∃ q, h'.get? p = some q := let ⟨q, _, _, hq, _⟩ := dd; ⟨q, hq⟩
  have hz := length_mergeK ks kvs
  exact d_write I (by rw [hp]; exact True.intro) hs he (dk_new (by omega) sp (ra.merge rp) dd)
theorem pe_merge2 (h1 : PE X e1 t1) (h2 : PE X e2 t2) : PE X (.Dict [Option.none, Option.none] [e1, e2] pos) (tMerge2 t1 t2) := by
  refine ⟨fun pins s σ H Q I q => ?_⟩
  have hn := I.hok.fresh (Nat.le_refl s.heap.objs.size)
  have I1 := I.laid (a := s.heap.objs.size) (o := .dK []) (h' := s.heap.push { cls := .type "dict", data := .dict #[] }) (t' := s.toks) (fun _ _ q => Heap.get?_push_of_some _ q) (Nat.le_refl _) (dk_empty s.heap I.big)
  have q1 := q _ hn
  generalize hp : s.heap.objs.size = p at *
  rw [arm_eval_Dict]
  refine wpAny_bind (wpAny_standAt ?_)
  show wpAny _ _ (dictDisplay [(Option.none, (do let x ← eval e1 X.env; standAt pos; pure x)), (Option.none, (do let x ← eval e2 X.env; standAt pos; pure x))]) _ _ s
  unfold dictDisplay
  dsimp only
  refine wpAny_bind ?_
  rw [List.forIn_cons]
  refine wpAny_bind ?_
  dsimp only
  refine wpAny_bind (PySem.W.KFB.if_so rfl (wpAny_pure ?_))
  dsimp only
  refine wpAny_bind (wpAny_alloc ?_)
  rw [hp]
  refine wpAny_bind (wpAny_holding (wpAny_bind (thn (h1.run pins _ σ _ _ I1 q1) fun u s1 hh => ?_)))
  obtain ⟨x, H1, I2, rx, a, ks, ex, hne, ha, hpp, z, q2⟩ := hh
  subst ex
  obtain rfl : u = Value.ref a := rx
  refine wpAny_bind (wpAny_standAt (wpAny_pure ?_))
  have h0 : ([] : List (Key × V)).length ≤ 1000 := by decide
  refine wpAny_bind (wpAny_onRaise (wpAny_tryCatch (wpAny_onRaise (wpAny_holding (mergeStep I2 hne ha hpp h0 z fun s2 I3 => ?_)))))
  refine wpAny_pure ?_
  dsimp only
  rw [List.forIn_cons]
  refine wpAny_bind ?_
  dsimp only
  refine wpAny_bind (PySem.W.KFB.if_so rfl (wpAny_pure ?_))
  dsimp only
  refine wpAny_bind (wpAny_pure ?_)
  refine wpAny_bind (wpAny_holding (wpAny_bind (thn (h2.run pins _ σ _ _ I3 q2) fun u s3 hh => ?_)))
  obtain ⟨y, H2, I4, ry, b, ls, ey, hne2, hb, hpp2, z2, q3⟩ := hh
  subst ey
  obtain rfl : u = Value.ref b := ry
  refine wpAny_bind (wpAny_standAt (wpAny_pure ?_))
  have zm : (mergeK [] ks).length ≤ 1000 := by
    have := length_mergeK ks []
    simp only [List.length_nil] at this
    omega
  refine wpAny_bind (wpAny_onRaise (wpAny_tryCatch (wpAny_onRaise (wpAny_holding (mergeStep I4 hne2 hb hpp2 zm z2 fun s4 I5 => ?_)))))
  refine wpAny_pure ?_
  dsimp only
  rw [List.forIn_nil]
  refine wpAny_pure ?_
  refine wpAny_bind (PySem.W.KFB.if_so rfl (wpAny_pure ?_))
  exact wpAny_pure ⟨.ref p, _, I5, rfl, q3⟩
end
end Z

set_option Elab.async false
set_option linter.all false
set_option maxRecDepth 100000
set_option maxHeartbeats 4000000
/-! sorted of a list or a tuple of texts; == of dicts whose values are data; texts in order -/
namespace Z
open PySem PySem.Spec PyProof.Rows L2
/-! ### ascending texts -/
def ltS (a b : Str) : Bool := ltCps a.cps.toList b.cps.toList
theorem ltCps_irr : ∀ l : List Nat, ltCps l l = false
  | [] => rfl
  | x :: l => by
    unfold ltCps
    simp [ltCps_irr l]
theorem ltCps_tri : ∀ l m : List Nat, ltCps l m = false → ltCps m l = false → l = m
  | [], [], _, _ => rfl
  | [], y :: m, h, _ => by simp [ltCps] at h
  | x :: l, [], _, h => by simp [ltCps] at h
  | x :: l, y :: m, h, k => by
    unfold ltCps at h k
    by_cases e1 : x < y
    · simp [e1] at h
    · by_cases e2 : y < x
      · simp [e2] at k
      · have e : x = y := by omega
        subst e
        simp at h k
        rw [ltCps_tri l m h k]
theorem ltS_tri {a b : Str} (h : ltS a b = false) (k : ltS b a = false) : a = b := by
  have := ltCps_tri _ _ h k
  cases a; cases b
  congr 1
  exact Array.toList_inj.mp this
theorem ltCps_tr : ∀ l m n : List Nat, ltCps m l = false → ltCps n m = false → ltCps n l = false
  | [], m, n, _, _ => by cases n <;> rfl
  | x :: l, [], n, h, _ => by simp [ltCps] at h
  | x :: l, y :: m, [], _, h => by simp [ltCps] at h
  | x :: l, y :: m, z :: n, h, k => by
    unfold ltCps at h k ⊢
    by_cases e1 : y < x
    · simp [e1] at h
    · by_cases e2 : z < y
      · simp [e2] at k
      · by_cases e3 : z < x
        · omega
        · simp only [e3, if_false]
          by_cases e4 : x < z
          · simp [e4]
            intro h
            omega
          · have exz : x = z := by omega
            have exy : x = y := by omega
            subst exz; subst exy
            simp at h k ⊢
            exact ltCps_tr l m n h k
theorem risingS_pw : ∀ (l : List Str) (p : Str), risingS p l = true → (∀ x ∈ l, ltS x p = false) ∧ l.Pairwise fun a b => ltS b a = false
  | [], p, _ => ⟨(fun x h => (by cases h)), .nil⟩
  | x :: r, p, h => by
    unfold risingS at h
    rw [Bool.and_eq_true] at h
    obtain ⟨h1, h2⟩ := h
    have h1' : ltS x p = false := by simpa [ltS] using h1
    obtain ⟨a, b⟩ := risingS_pw r x h2
    refine ⟨fun y hy => ?_, List.pairwise_cons.mpr ⟨a, b⟩⟩
    rcases List.mem_cons.mp hy with rfl | hy
    · exact h1'
    · exact ltCps_tr _ _ _ h1' (a y hy)
theorem sortedS_pw {l : List Str} (h : sortedS l = true) : l.Pairwise fun a b => ltS b a = false := by
  cases l with
  | nil => exact .nil
  | cons x r =>
    obtain ⟨a, b⟩ := risingS_pw r x h
    exact List.pairwise_cons.mpr ⟨a, b⟩
/-- texts of the same members that ascend are the same list -/
theorem sort_uniq {l m : List Str} (hp : l.Perm m) (hl : l.Pairwise fun a b => ltS b a = false) (hm : m.Pairwise fun a b => ltS b a = false) : l = m :=
  hp.eq_of_pairwise (fun a b _ _ h k => (ltS_tri k h)) hl hm
noncomputable def srt (l : List Str) : List Str := l.mergeSort fun a b => !ltS b a
theorem srt_perm (l : List Str) : (srt l).Perm l := List.mergeSort_perm l _
theorem srt_pw (l : List Str) : (srt l).Pairwise fun a b => ltS b a = false := by
  have h := List.pairwise_mergeSort (le := fun a b => !ltS b a) (fun a b c h k => ?_) (fun a b => ?_) l
  · exact h.imp fun {a b} h => by simpa using h
  · simp only [Bool.not_eq_true'] at h k ⊢
    exact ltCps_tr _ _ _ h k
  · by_cases h : ltS b a = true
    · by_cases k : ltS a b = true
      · exfalso
        have := ltCps_tr a.cps.toList b.cps.toList a.cps.toList
        -- a < b and b < a: by totality of the order
        have asym : ∀ l m : List Nat, ltCps l m = true → ltCps m l = false := by
          intro l
          induction l with
          | nil => intro m h; cases m <;> rfl
          | cons x l ih =>
            intro m h
            cases m with
            | nil => simp [ltCps] at h
            | cons y m =>
              unfold ltCps at h ⊢
              by_cases e1 : x < y
              · have : ¬ y < x := by omega
                simp [this, e1]
                intro h
                omega
              · by_cases e2 : y < x
                · simp [e1, e2] at h
                  omega
                · have e : x = y := by omega
                  subst e
                  simp at h ⊢
                  exact ih m h
        have := asym _ _ k
        unfold ltS at h
        rw [this] at h
        cases h
      · simp [k]
    · simp [h]
theorem srt_eq {l m : List Str} (hp : m.Perm l) (hs : sortedS m = true) : m = srt l := sort_uniq (hp.trans (srt_perm l).symm) (sortedS_pw hs) (srt_pw l)
theorem srt_of_pw {l : List Str} (h : l.Pairwise fun a b => ltS b a = false) : srt l = l := sort_uniq (srt_perm l) (srt_pw l) h
theorem srt_nodup {l : List Str} (h : l.Nodup) : (srt l).Nodup := (srt_perm l).nodup_iff.mpr h
theorem mem_srt {l : List Str} {a : Str} : a ∈ srt l ↔ a ∈ l := (srt_perm l).mem_iff
/-- the members of a rising list that are in another one, sorted, are a filter -/
theorem srt_filter {N l : List Str} {p : Str → Bool} (hN : N.Nodup) (hs : N.Pairwise fun a b => ltS b a = false) (hl : l.Nodup) (h : ∀ a, a ∈ l ↔ a ∈ N ∧ p a = true) : srt l = N.filter p := by
  refine sort_uniq ?_ (srt_pw l) (hs.filter p)
  refine (srt_perm l).trans ((List.perm_ext_iff_of_nodup hl (hN.filter p)).mpr fun a => ?_)
  rw [h, List.mem_filter]
section
variable {X : Cx}
/-- sorted of a list or a tuple of texts -/
def rSortST (K : PySem.W.Frag) : List V → Hp → VK → Prop := fun vs H Q => ∃ (a : Addr) (xs : List Str), vs = [V.ref a] ∧ (SqL K H a (xs.map V.str) ∨ SqT K H a (xs.map V.str)) ∧ xs.length < 64 ∧
  ∀ p H', H p = none → Same H H' → (∀ b, b ≠ p → H' b = H b) → H' p = some (.lst ((srt xs).map V.str)) → Q (.ref p) H'
theorem cr_sortST : CallR X (.builtin "sorted") (rSortST X.K) := by
  intro pins s σ H xs us Q I r q
  obtain ⟨a, ks, ex, hd, h64, q⟩ := q
  subst ex
  obtain ⟨u, eu, rx⟩ := vals1 r
  subst eu
  cases rx
  obtain ⟨its, o, n, T, rv, ho, hc, hT, hdt⟩ : ∃ (its : List Value) (o : Obj) (n : Nat) (T : String), Vals (ks.map V.str) its ∧ s.heap.get? a = some o ∧ o.cls = .type T ∧ (T = "list" ∨ T = "tuple") ∧ o.data = .seq its.toArray n := by
    rcases hd with hd | hd
    · obtain ⟨its, rv, pl, _⟩ := I.list hd
      obtain ⟨o, ho, hc, n, hdt⟩ := pl.isList
      exact ⟨its, o, n, _, rv, ho, hc, .inl rfl, hdt⟩
    · obtain ⟨its, rv, ⟨o, ho, hc, n, hdt⟩, _⟩ := I.tuple hd
      exact ⟨its, o, n, _, rv, ho, hc, .inr rfl, hdt⟩
  have hlen := rv.length
  rw [List.length_map] at hlen
  have hsl : (64 : Nat) < sizeLine := by rw [sizeLine_eq]; decide
  refine Calls.call_function_entry PyProof.Rows.kind_sorted PyProof.Rows.plain_sorted PyProof.Rows.entry_sorted (PyProof.Rows.args_sorted1 _) ?_
  unfold Builtin.«sorted»
  refine wpAny_bind (m := checkCount "sorted" 1 1 _) (wpAny_pure ?_)
  refine wpAny_bind (wpAny_collect_seq a hT ho hc hdt (fun h' hk => ?_) (by rw [List.size_toArray]; omega))
  rw [show its.toArray.toList = its by simp]
  have hS := rv.strs
  have I1 : Inv X pins σ H { s with heap := h' } := I.kept (t' := s.toks) hk
  refine wpAny_bind (wpAny_newList ?_ (by omega))
  have hoL : (h'.push (seqObj "list" its.toArray 0)).get? h'.objs.size = some (seqObj "list" its.toArray 0) := Heap.get?_push_size _ rfl
  show wpAny _ _ _ _ _ { s with heap := h'.push (seqObj "list" its.toArray 0) }
  refine wpAny_bind (wpAny_holding (wpAny_call_entry PyProof.Rows.slot_list_sort ⟨_, hoL, rfl⟩ PyProof.Rows.entry_list_sort (list_sort_treeK strKind_oneLt (s := { s with heap := h'.push (seqObj "list" its.toArray 0) }) hoL hS.keysOf
    (fun v₁ v₂ rest e => keyKind_strs (by rw [← e]; exact hS)) (by omega) fun st' hp hs => ⟨_, rfl, ?_⟩) (PyProof.Rows.args_list_sort _)))
  obtain ⟨ys, g1, g2, g3⟩ := sorted_out_str hS hp hs
  obtain rfl := srt_eq g2 g3
  obtain ⟨e', he'⟩ := PyProof.Rows.sortedHeap_at (vs := its) (out := (arrOf st').map (·.2)) hoL
  have hlen2 : ((srt ks).map V.str).length ≤ sizeLine := by
    rw [List.length_map, g2.length_eq]
    omega
  have fr := I1.hok.fresh (Nat.le_refl h'.objs.size)
  refine wpAny_pure ⟨_, rfl, .ref h'.objs.size, upd H h'.objs.size (.lst ((srt ks).map V.str)), I1.laid (t' := s.toks) (fun b u e => ?_) (Nat.le_refl _)
    (show ObjOk X.prog X.w _ _ _ (.lst ((srt ks).map V.str)) from ⟨hlen2, ((arrOf st').map (·.2)).toList, e', vals_of_strs g1, by rw [Array.toArray_toList]; exact he'⟩), rfl, q _ _ fr (fun b o e => by rw [upd_ne (ne_of_none e fr)]; exact e) (fun b hb => upd_ne hb) upd_same⟩
  have hb : b < h'.objs.size := Heap.lt_size e
  rw [PyProof.Rows.sortedHeap_old (Nat.ne_of_lt hb) (by rw [size_push']; exact Nat.lt_succ_of_lt hb)]
  exact Heap.get?_push_of_some _ e
/-- two dicts of the same keys in the same order, whose values are data -/
def rEqDD (K : PySem.W.Frag) : R2 := fun x y H Q => ∃ (a b : Addr) (ks ls : List (Key × V)) (f g : Key → PyData), x = .ref a ∧ y = .ref b ∧ H a = some (.dK ks) ∧ H b = some (.dK ls) ∧ ks.map (·.1) = ls.map (·.1) ∧
  (∀ p ∈ ks, Dp K H p.2 (f p.1) ∧ SeqAt.shaped (f p.1) = true) ∧ (∀ p ∈ ls, Dp K H p.2 (g p.1) ∧ SeqAt.shaped (g p.1) = true) ∧ Q (.bl ((ks.map (·.1)).all fun k => PyData.eqv (f k) (g k))) H
theorem valV_mem : ∀ {ls : List (Key × V)} {k : Key}, k ∈ ls.map (·.1) → ∃ v, valV ls k = some v ∧ (k, v) ∈ ls
  | p :: ls, k, h => by
    by_cases e : p.1 = k
    · exact ⟨p.2, valV_pos e, by rw [← e]; exact List.mem_cons_self⟩
    · obtain ⟨v, h1, h2⟩ := valV_mem (ls := ls) (k := k) (by
        rcases List.mem_cons.mp h with h | h
        · exact absurd h.symm e
        · exact h)
      exact ⟨v, by rw [valV_neg e]; exact h1, List.mem_cons_of_mem _ h2⟩
end
end Z

set_option Elab.async false
set_option linter.all false
set_option maxRecDepth 100000
set_option maxHeartbeats 4000000
/-! enumerate of a tuple -/
namespace Z
open PySem PySem.Spec PyProof.Rows L2
section
variable {prog : Program} {w : World} {A : Around} {E : Value → Shared → Prop} {s : Shared} {q t : Addr} {i : Nat} {its : Array Value} {x : Value} {Q : Value → Shared → Prop}
theorem tupItem (hit : s.heap.IsTupleIter q t i) (ht : s.heap.IsTuple t its) (hx : its[i]? = some x) (hQ : ∀ h', h'.IsTupleIter q t (i + 1) → Heap.SameBut q s.heap h' → Q x { s with heap := h' }) :
    wpAny (model prog w) A (Builtin.SmallTypes.nextOf (.ref q)) Q E s := by
  obtain ⟨ob, ho, hc, hd⟩ := id hit; obtain ⟨ot, hot, _, nn, hdt⟩ := ht
  unfold Builtin.SmallTypes.nextOf; refine wpAny_bind (wpAny_callSpecial?_slot (name := Str.ofString "__next__") hit.typeIs F.slot_tuple_iterator_next (wpAny_call_entry F.slot_tuple_iterator_next hit.typeIs F.entry_tuple_iterator_next ?_ (F.args_tuple_iterator_next_1 _)))
  show wpAny _ _ (field (.ref q) 0 >>= _) _ _ s; refine wpAny_bind (wpAny_field ho hd (x := .ref t) rfl ?_)
  show wpAny _ _ (if (Value.ref t == Value.none) = true then _ else _) _ _ s; rw [if_neg (show ¬ ((Value.ref t == Value.none) = true) from Bool.false_ne_true)]
  show wpAny _ _ (field (.ref q) 1 >>= _) _ _ s; refine wpAny_bind (wpAny_field ho hd (x := .int i 0) rfl ?_)
  show wpAny _ _ (seqItems? (.ref t) >>= _) _ _ s; refine wpAny_bind (wpAny_seqItems hot hdt ?_); simp only [Int.toNat_natCast, hx]
  refine wpAny_bind (wpAny_setField ho hd (by simp) (wpAny_pure ⟨x, rfl, wpAny_pure (hQ _ ⟨_, Heap.get?_update_self _ ho (Obj.isFreed_of_fields (Obj.data_mapFields hd _)), (Obj.cls_mapFields ..).trans hc, by rw [Obj.data_mapFields hd]; simp [rawInt]⟩ (Heap.SameBut.update ..))⟩))
theorem tupDone (calm : A.handled = none) (hit : s.heap.IsTupleIter q t i) (ht : s.heap.IsTuple t its) (out : its[i]? = none)
    (hE : ∀ h' e, Heap.ExtBut q s.heap h' → (∃ o, h'.get? e = some o ∧ o.cls = .type "StopIteration") → E (.ref e) { s with heap := h' }) : wpAny (model prog w) A (Builtin.SmallTypes.nextOf (.ref q)) Q E s := by
  obtain ⟨ob, ho, hc, hd⟩ := id hit; obtain ⟨ot, hot, _, nn, hdt⟩ := ht
  unfold Builtin.SmallTypes.nextOf; refine wpAny_bind (wpAny_callSpecial?_slot (name := Str.ofString "__next__") hit.typeIs F.slot_tuple_iterator_next (wpAny_call_entry F.slot_tuple_iterator_next hit.typeIs F.entry_tuple_iterator_next ?_ (F.args_tuple_iterator_next_1 _)))
  show wpAny _ _ (field (.ref q) 0 >>= _) _ _ s; refine wpAny_bind (wpAny_field ho hd (x := .ref t) rfl ?_)
  show wpAny _ _ (if (Value.ref t == Value.none) = true then _ else _) _ _ s; rw [if_neg (show ¬ ((Value.ref t == Value.none) = true) from Bool.false_ne_true)]
  show wpAny _ _ (field (.ref q) 1 >>= _) _ _ s; refine wpAny_bind (wpAny_field ho hd (x := .int i 0) rfl ?_)
  show wpAny _ _ (seqItems? (.ref t) >>= _) _ _ s; refine wpAny_bind (wpAny_seqItems hot hdt ?_); simp only [Int.toNat_natCast, out]
  refine wpAny_bind (wpAny_rule (wpAny_bind (wpAny_setField ho hd (by simp) ?_))); show wpAny _ _ (newExc (.type "StopIteration") [] >>= _) _ _ _
  refine wpAny_bind ?_; simp only [newExc, newTuple]
  refine wpAny_bind (wpAny_newObj_type ?_ (by size_fits)); refine wpAny_bind (m := firstArgMember _ _) (wpAny_of_eq (a := Value.none) (by first | rfl | (simp only [firstArgMember]; rfl)) ?_)
  refine wpAny_newObj_type ?_ (by size_fits); simp only [raiseNew]
  refine wpAny_bind (wpAny_handled ?_); first | rw [show A.in1.handled = none from calm] | rw [calm]
  refine wpAny_bind (wpAny_pure (wpAny_throw ?_)); exact hE _ _ (((Heap.SameBut.update ..).extBut.push _).push _) ⟨_, Heap.get?_push_size _ rfl, rfl⟩
end
theorem drawsTup {prog : Program} {w : World} {A : Around} (calm : A.handled = none) (q t : Addr) (hne : t ≠ q) (its : Array Value) :
    Draws prog w A q [q, t] its.size (fun i v => its[i]? = some v) (fun i h => h.IsTupleIter q t i ∧ h.IsTuple t its) where
  live := fun _ _ st => let ⟨o, ho, _⟩ := st.1; ⟨o, ho⟩
  frame := fun _ _ _ st hk => ⟨let ⟨o, ho, r⟩ := st.1; ⟨o, hk q (by simp) o ho, r⟩, let ⟨o, ho, r⟩ := st.2; ⟨o, hk t (by simp) o ho, r⟩⟩
  item := fun i s Q E hi st hQ => by
    refine tupItem st.1 st.2 (x := its[i]) (by simp [hi]) fun h' hit' sb => ?_
    exact hQ _ h' s.toks (by simp [hi]) ⟨hit', st.2.extBut sb.extBut hne⟩ sb
  done := fun s Q E st hE => tupDone calm st.1 st.2 (by simp) hE
/-- the end alone -/
theorem drawsEnd {prog : Program} {w : World} {A : Around} (calm : A.handled = none) (q t : Addr) (its : Array Value) (i : Nat) (out : its[i]? = none) :
    Draws prog w A q [q, t] i (fun _ _ => True) (fun j h => j = i ∧ h.IsTupleIter q t j ∧ h.IsTuple t its) where
  live := fun _ _ st => let ⟨o, ho, _⟩ := st.2.1; ⟨o, ho⟩
  frame := fun _ _ _ st hk => ⟨st.1, let ⟨o, ho, r⟩ := st.2.1; ⟨o, hk q (by simp) o ho, r⟩, let ⟨o, ho, r⟩ := st.2.2; ⟨o, hk t (by simp) o ho, r⟩⟩
  item := fun j s Q E hi st hQ => by
    have := st.1
    omega
  done := fun s Q E st hE => tupDone calm st.2.1 st.2.2 out hE
/-- the tuple at a, each item in a new pair -/
def IteT (K : PySem.W.Frag) (a : Addr) : It :=
  ⟨fun i H => ∃ (xs : List V) (x : V), SqT K H a xs ∧ xs[i]? = some x, fun i H v H' => ∃ T x, v = .ref T ∧ H T = none ∧ H' = upd H T (.tup [.int (i : Nat), x]) ∧ ∀ xs, SqT K H a xs → xs[i]? = some x, fun i H => ∃ xs : List V, SqT K H a xs ∧ xs.length ≤ i⟩
theorem turn_enumT {P : Program} {w : World} {K : PySem.W.Frag} {elts : List Expr} {kk : Nat} {tpos : Pos} (a e it : Addr) :
    Turn P w K (.Tuple elts kk tpos) (IteT K a) [e, it] e (fun i h => (∃ old, IsEnum h e it ((i : Nat) : Int) old) ∧ h.IsTupleIter it a i ∧ e ≠ it ∧ a ≠ it ∧ a ≠ e) where
  mem := by simp
  obj := fun i h st b hb => by
    obtain ⟨⟨old, he⟩, ⟨o, ho, hc, hd⟩, _⟩ := st
    have e' : b = e ∨ b = it := by simpa using hb
    rcases e' with z | z
    · rw [z]; exact ⟨_, he, fun v q => nomatch q⟩
    · rw [z]; exact ⟨o, ho, fun v q => by rw [hd] at q; cases q⟩
  keep := fun i h h' st k => let ⟨⟨old, he⟩, ⟨o, ho, r⟩, hne⟩ := st; ⟨⟨old, k e (by simp) _ he⟩, ⟨o, k it (by simp) _ ho, r⟩, hne⟩
  item := by
    intro X hP hw hK hc i pins s σ H E I hf st hg
    subst hP hw hK
    obtain ⟨⟨old, he⟩, hit, hne, hai, hae⟩ := st
    obtain ⟨xs, x, hq, hx⟩ := hg
    obtain ⟨its, rv, p, hz⟩ := I.tuple hq
    obtain ⟨u, hu, ru⟩ := rv.get hx
    have hel : e < s.heap.objs.size := Heap.lt_size he
    have hil : it < s.heap.objs.size := by obtain ⟨_, z, _⟩ := hit; exact Heap.lt_size z
    have hlt : i < its.toArray.size := by
      have := (List.getElem?_eq_some_iff.mp hu).1
      simpa using this
    refine wpAny_pyNext_enum_itemD (drawsTup (by first | exact I.ok.hd hc | (show X.A.in1.handled = none; exact I.ok.hd hc)) it a hai its.toArray) he ⟨hit, p⟩ hlt hne (by simp [hne, Ne.symm hae]) fun x' h' tk hx' ho hst' hT hsz hk => ?_
    obtain rfl : x' = u := by
      rw [show its.toArray[i]? = its[i]? by simp, hu] at hx'
      exact (Option.some.inj hx').symm
    refine ⟨_, rfl, wpAny_letOwnedTupleGo_enum (s := { s with heap := h', toks := tk + 1 }) ho fun h'' he' sb => ?_⟩
    have hT2 : h''.get? s.heap.objs.size = some { cls := .type "tuple", data := .seq #[.int i tk, x'] } := (sb.2 _ (Nat.ne_of_gt hel)).trans hT
    have new : ObjOk X.prog X.w (upd H s.heap.objs.size (.tup [.int (i : Nat), x])) h'' s.heap.objs.size (.tup [.int (i : Nat), x]) :=
      ⟨by show 2 ≤ sizeLine; decide, [.int i tk, x'], .cons ⟨_, rfl⟩ (.cons ru .nil), ⟨_, hT2, rfl, _, rfl⟩⟩
    have I1 : Inv X pins σ (upd H s.heap.objs.size (.tup [.int (i : Nat), x])) { s with heap := h'', toks := tk + 1 } :=
      I.turnedNew (ch := [e, it]) (fun b ob hb z => (sb.2 b (fun y => hb (by simp [y]))).trans (hk b ob (fun y => hb (by simp [y])) (fun y => hb (by simp [y])) z)) hf (Nat.le_refl _) new
    have hit2 : h''.IsTupleIter it a (i + 1) := let ⟨o, ho, r⟩ := hst'.1; ⟨o, (sb.2 it (Ne.symm hne)).trans ho, r⟩
    refine ⟨.ref s.heap.objs.size, _, I1, rfl, ⟨_, x, rfl, I.hok.fresh (Nat.le_refl _), rfl, fun ys hy => by rw [I.tuple_inj hy hq]; exact hx⟩, ⟨⟨x', ?_⟩, hit2, hne, hai, hae⟩, fun b hb => ?_⟩
    · have e1 : ((i + 1 : Nat) : Int) = (i : Int) + 1 := by omega
      rw [e1]; exact he'
    · have hb' : b < s.heap.objs.size := by
        have e' : b = e ∨ b = it := by simpa using hb
        rcases e' with z | z
        · rw [z]; exact hel
        · rw [z]; exact hil
      rw [upd_ne (Nat.ne_of_lt hb')]
      exact (hf b hb).1
  done := by
    intro X hP hw hK hc i pins s σ H E I hf st hg
    subst hP hw hK
    obtain ⟨⟨old, he⟩, hit, hne, hai, hae⟩ := st
    obtain ⟨xs, hq, hx⟩ := hg
    obtain ⟨its, rv, p, hz⟩ := I.tuple hq
    obtain ⟨f0, f1, f2, f3, f4, f5⟩ := hf it (by simp)
    have hl := rv.length
    refine wpAny_pyNext_enum_endD (drawsEnd (by first | exact I.ok.hd hc | (show X.A.in1.handled = none; exact I.ok.hd hc)) it a its.toArray i (by simp; omega)) he ⟨rfl, hit, p⟩ fun h' eb => ⟨rfl, I.turned (t' := s.toks) (fun b o hb q => eb b o hb q) f0 f1 f3 f4 f5⟩
  self := fun A i s Q E st h => let ⟨⟨_, he⟩, _⟩ := st; wpAny_pyIter_enum he h
set_option maxHeartbeats 4000000 in
theorem enumNewT (l : Addr) (its : Array Value) (n : Nat) (dct : Option Addr) (sl : Array (Option Value)) :
    Meets (Builtin.«enumerate.__new__» ⟨[.type "enumerate", .ref l], []⟩) (fun _ R s => s.heap.get? l = some { cls := .type "tuple", dict := dct, data := .seq its n, slots := sl } ∧
      R (.ok (.ret (.ref (s.heap.push { cls := .type "tuple_iterator", data := .fields #[.ref l, .int 0 0] }).objs.size)))
        { s with heap := (s.heap.push { cls := .type "tuple_iterator", data := .fields #[.ref l, .int 0 0] }).push { cls := .type "enumerate", data := .fields #[.none, .bool false, .ref s.heap.objs.size, rawInt 0, .none, .none] } }) :=
  .of_wp fun prog w A R s h => by
    obtain ⟨hl, h⟩ := h
    obtain ⟨hp, g, d, tk, os⟩ := s
    have hT : (⟨hp, g, d, tk, os⟩ : Shared).heap.IsTuple l its := ⟨_, hl, rfl, n, rfl⟩
    have hsub := sub_enumerate
    wp_walk
    refine wpAny_stack_any fun st => wpAny_pure ?_
    split
    · rename_i c _ _ _ _ _
      cases (c == Value.type "enumerate")
      · wp_walk using wpAny_loadPart' hl, wpAny_pyIter_tuple hT
        exact ⟨_, rfl, h⟩
      · wp_walk using wpAny_loadPart' hl, wpAny_pyIter_tuple hT
        exact ⟨_, rfl, h⟩
    · wp_walk using wpAny_loadPart' hl, wpAny_pyIter_tuple hT
      exact ⟨_, rfl, h⟩
theorem callEnumT {prog : Program} {w : World} {A : Around} {E : Value → Shared → Prop} {s : Shared} {l : Addr} {its : Array Value} {Q : Value → Shared → Prop} (hL : s.heap.IsTuple l its)
    (h : ∀ h', IsEnum h' (s.heap.objs.size + 1) s.heap.objs.size 0 .none → h'.IsTupleIter s.heap.objs.size l 0 → (∀ b o, s.heap.get? b = some o → h'.get? b = some o) → Q (.ref (s.heap.objs.size + 1)) { s with heap := h' }) :
    wpAny (model prog w) A (call (.type "enumerate") [.ref l]) Q E s := by
  obtain ⟨⟨c, dct, dt, sl⟩, hl, hc, n, hd⟩ := hL
  replace hc : c = .type "tuple" := hc
  replace hd : dt = .seq its n := hd
  subst hc hd
  refine callType_new F.called_enumerate (by decide) (F.typeCall_enumerate_1 _) (F.newCall_enumerate_1 _) (fun obj => F.args_object_init_2 obj _) F.entry_enumerate_new (enumNewT l its n dct sl) ⟨hl, ?_⟩
  have hz : (s.heap.push { cls := .type "tuple_iterator", data := .fields #[.ref l, .int 0 0] }).objs.size = s.heap.objs.size + 1 := Heap.size_push ..
  show _ ∧ _
  rw [hz]
  have he : IsEnum ((s.heap.push { cls := .type "tuple_iterator", data := .fields #[.ref l, .int 0 0] }).push { cls := .type "enumerate", data := .fields #[.none, .bool false, .ref s.heap.objs.size, rawInt 0, .none, .none] }) (s.heap.objs.size + 1) s.heap.objs.size 0 .none := by
    have := Heap.get?_push_size (s.heap.push { cls := .type "tuple_iterator", data := .fields #[.ref l, .int 0 0] }) (o := { cls := .type "enumerate", data := .fields #[.none, .bool false, .ref s.heap.objs.size, rawInt 0, .none, .none] }) rfl
    rw [hz] at this; exact this
  exact ⟨⟨_, he, rfl⟩, h _ he ⟨_, Heap.get?_push_of_some _ (Heap.get?_push_size _ rfl), rfl, rfl⟩ fun b o x => Heap.get?_push_of_some _ (Heap.get?_push_of_some _ x)⟩
def iEnumT (K : PySem.W.Frag) (ta : TA) : TI := fun σ H R => ta σ H fun vs H1 => ∃ a xs, vs = [.ref a] ∧ SqT K H1 a xs ∧ R (IteT K a) H1
end Z

set_option Elab.async false
set_option linter.all false
set_option maxRecDepth 100000
set_option maxHeartbeats 4000000
/-! what is walked, be it a list or a tuple; readings of loops, comprehensions and dicts -/
namespace Z
open PySem PySem.Spec PyProof.Rows L2
def SqA (K : PySem.W.Frag) (H : Hp) (a : Addr) (xs : List V) : Prop := SqL K H a xs ∨ SqT K H a xs
/-- what stood at a stands there -/
def AtS (H : Hp) (a : Addr) (H' : Hp) : Prop := ∀ o, H a = some o → H' a = some o
section
variable {K : PySem.W.Frag} {H H' : Hp} {a : Addr} {xs : List V}
theorem AtS.refl : AtS H a H := fun _ e => e
theorem AtS.of (s : Same H H') : AtS H a H' := fun _ e => s _ _ e
theorem atL (s : AtS H a H') (h : SqL K H a xs) : SqL K H' a xs := by
  rcases h with (h | ⟨o, h⟩) | h
  · exact .inl (.inl (s _ h))
  · exact .inl (.inr ⟨o, s _ h⟩)
  · exact .inr h
theorem atT (s : AtS H a H') (h : SqT K H a xs) : SqT K H' a xs := by
  rcases h with (h | ⟨o, h⟩) | h
  · exact .inl (.inl (s _ h))
  · exact .inl (.inr ⟨o, s _ h⟩)
  · exact .inr h
theorem atA (s : AtS H a H') (h : SqA K H a xs) : SqA K H' a xs := h.elim (fun h => .inl (atL s h)) fun h => .inr (atT s h)
theorem sameA (s : Same H H') (h : SqA K H a xs) : SqA K H' a xs := atA (.of s) h
theorem SqA.l (h : H a = some (.lst xs)) : SqA K H a xs := .inl (.of h)
theorem SqA.t (h : H a = some (.tup xs)) : SqA K H a xs := .inr (.of h)
end
/-- e, a list or a tuple, item by item -/
def WkA (K : PySem.W.Frag) (H1 : Hp) (a : Addr) (xs : List V) (Y : Nat → Hp → V → Hp → Prop) (R : It → Prop) : Prop := (SqL K H1 a xs ∧ ∀ J, Walk J xs.length (fun H' => SqL K H' a xs) Y → R J) ∨ (SqT K H1 a xs ∧ ∀ J, Walk J xs.length (fun H' => SqT K H' a xs) Y → R J)
theorem WkA.intro {K : PySem.W.Frag} {H0 H1 : Hp} {a : Addr} {xs : List V} {Y : Nat → Hp → V → Hp → Prop} {R : It → Prop} (s : SqA K H0 a xs) (s1 : Same H0 H1) (h : ∀ J G, Walk J xs.length G Y → (∀ H', Same H0 H' → G H') → R J) : WkA K H1 a xs Y R := by
  rcases s with s | s
  · exact .inl ⟨atL (.of s1) s, fun J w => h J _ w fun H' z => atL (.of z) s⟩
  · exact .inr ⟨atT (.of s1) s, fun J w => h J _ w fun H' z => atT (.of z) s⟩
def iAny (K : PySem.W.Frag) (tl : TE) : TI := fun σ H R => tl σ H fun x H1 => ∃ a xs, x = .ref a ∧ WkA K H1 a xs (YAt xs) fun J => R J H1
theorem pi_any {X : Cx} {K : PySem.W.Frag} {tg l : Expr} {tl : TE} (hK : X.K = K) (hl : PE X l tl) : PI X tg l (iAny K tl) := by
  subst hK
  refine ⟨fun pins s σ H R I h => ?_⟩
  refine thn (hl.run pins s σ H _ I h) fun v s1 ⟨x, H1, I1, r1, q1⟩ => ?_
  obtain ⟨a, xs, e, hq⟩ := q1
  subst e
  cases r1
  have one : ∀ b ∈ [s1.heap.objs.size], FpOk X pins H1 b := fun b hb => by
    have e : b = s1.heap.objs.size := by simpa using hb
    subst e
    exact I1.fpOk (Nat.le_refl _) (I1.hok.fresh (Nat.le_refl _))
  rcases hq with ⟨hq, q⟩ | ⟨hq, q⟩
  · obtain ⟨its, rv, p, hz⟩ := I1.list hq
    exact wpAny_pyIter_list p.isList ⟨s1.heap.objs.size, [s1.heap.objs.size], _, _, H1, rfl, I1.kept (t' := s1.toks) fun b o e => Heap.get?_push_of_some _ e, turn_list a _, ⟨_, Heap.get?_push_size _ rfl, rfl, rfl⟩, one, q _ walk_list⟩
  · obtain ⟨its, rv, p, hz⟩ := I1.tuple hq
    exact wpAny_pyIter_tuple (show s1.heap.IsTuple a its.toArray from p) ⟨s1.heap.objs.size, [s1.heap.objs.size], _, _, H1, rfl, I1.kept (t' := s1.toks) fun b o e => Heap.get?_push_of_some _ e, turn_tuple a _, ⟨_, Heap.get?_push_size _ rfl, rfl, rfl⟩, one, q _ walk_tup⟩
theorem walk_enumT {K : PySem.W.Frag} {a : Addr} {xs : List V} : Walk (IteT K a) xs.length (fun H => SqT K H a xs) (YPair (fun i => some (.int (i : Nat))) (fun i => xs[i]?)) := by
  refine ⟨fun i _ hi q => ⟨xs, xs[i], q, by simp [hi]⟩, fun _ q => ⟨xs, q, Nat.le_refl _⟩, fun i H v H' _ q y => ?_⟩
  obtain ⟨T, x, h1, h2, h3, h4⟩ := y
  exact ⟨T, .int (i : Nat), x, h1, h2, h3, rfl, h4 xs q⟩
/-- enumerate of a list or a tuple -/
def iEnA (K : PySem.W.Frag) (ta : TA) : TI := fun σ H R => ta σ H fun vs H1 => ∃ a xs, vs = [.ref a] ∧ WkA K H1 a xs (YPair (fun i => some (.int (i : Nat))) (fun i => xs[i]?)) fun J => R J H1
theorem pi_enA {X : Cx} {K : PySem.W.Frag} {e : Expr} {ta : TA} {p pos tpos : Pos} {elts : List Expr} {kk : Nat} (hK : X.K = K) (hg : Gl X "enumerate") (hm : X.mg "enumerate" = none) (ha : PA X [e] ta) (hs : starEach [e] X.env = [(false, eval e X.env)] := by rfl) :
    PI X (.Tuple elts kk tpos) (.Call (.Name "enumerate" p) [e] [] pos) (iEnA K ta) := by
  subst hK
  refine ⟨fun pins s σ H R I h => ?_⟩
  refine Call_ (ld_blt I hg hm boot_enumerate (PyProof.Rows.callWith_type1 (thn (ha.run pos pins s σ H _ I h) fun us s1 ⟨vs, H1, I1, r1, q1⟩ => ?_) hs rfl))
  obtain ⟨a, xs, ex, hq⟩ := q1
  subst ex
  obtain ⟨u, rfl, r⟩ := r1.one
  cases r
  have two : ∀ b ∈ [s1.heap.objs.size + 1, s1.heap.objs.size], FpOk X pins H1 b := fun b hb => by
    have e' : b = s1.heap.objs.size + 1 ∨ b = s1.heap.objs.size := by simpa using hb
    have hle : s1.heap.objs.size ≤ b := by
      rcases e' with z | z
      · rw [z]; exact Nat.le_add_right _ _
      · rw [z]; exact Nat.le_refl _
    exact I1.fpOk hle (I1.hok.fresh hle)
  rcases hq with ⟨hq, q⟩ | ⟨hq, q⟩
  · obtain ⟨its, rv, p', hz⟩ := I1.list hq
    refine call_enumerate_list p'.isList fun h' he hit hsz hk => wpAny_pyIter_enum he ?_
    exact ⟨s1.heap.objs.size + 1, [s1.heap.objs.size + 1, s1.heap.objs.size], _, _, H1, rfl, I1.kept (t' := s1.toks) hk, turn_enum a (s1.heap.objs.size + 1) s1.heap.objs.size, ⟨⟨.none, he⟩, hit, Nat.succ_ne_self _⟩, two, q _ walk_enum⟩
  · obtain ⟨its, rv, p', hz⟩ := I1.tuple hq
    refine callEnumT p' fun h' he hit hk => wpAny_pyIter_enum he ?_
    have hal : a < s1.heap.objs.size := by obtain ⟨_, z, _⟩ := p'; exact Heap.lt_size z
    exact ⟨s1.heap.objs.size + 1, [s1.heap.objs.size + 1, s1.heap.objs.size], _, _, H1, rfl, I1.kept (t' := s1.toks) hk, turn_enumT a (s1.heap.objs.size + 1) s1.heap.objs.size, ⟨⟨.none, he⟩, hit, Nat.succ_ne_self _, Nat.ne_of_lt hal, Nat.ne_of_lt (Nat.lt_succ_of_lt hal)⟩, two, q _ walk_enumT⟩
/-! ### readings -/
section
variable {K : PySem.W.Frag} {σ : L2.St} {H H0 : Hp} {D : Ends} {te tl tk tv td ty : TE} {tt tt1 : TT} {tr : TA} {g g1 : TG} {tb : TS} {Q : VK} {a : Addr} {xs : List V} {n : Nat}
def rForA (K : PySem.W.Frag) (g : TG) (tb : TS) (D : Ends) (σ : L2.St) (x : V) (H1 : Hp) : Prop := ∃ a xs, x = .ref a ∧ WkA K H1 a xs (YAt xs) fun J => rFor J g tb D σ H1
theorem i_forA0 (h : tl σ H (fun x H1 => rForA K g tb D σ x H1)) : tFor (iAny K tl) g tb D σ H := h
theorem i_forA (Pv : Nat → L2.St → Hp → Prop) (s : SqA K H0 a xs) (h0 : Pv 0 σ H) (hl : ∀ i σ H1, Pv i σ H1 → Same H0 H1)
    (hs : ∀ i x σ H, xs[i]? = some x → Pv i σ H → g x σ H fun σ2 H2 => tb { D with nx := Pv (i + 1), ct := Pv (i + 1), bk := D.nx } σ2 H2) (hd : ∀ σ H, Pv xs.length σ H → D.nx σ H) : rForA K g tb D σ (.ref a) H :=
  ⟨a, xs, rfl, .intro s (hl _ _ _ h0) fun J G w hG => for_it w Pv h0 (fun i σ H1 _ p => hG _ (hl i σ H1 p)) (fun i x σ H H' _ p y => by obtain ⟨rfl, e⟩ := y; exact hs i x σ _ e p) hd⟩
def rEnA (K : PySem.W.Frag) (g : TG) (tb : TS) (D : Ends) (σ : L2.St) (vs : List V) (H1 : Hp) : Prop := ∃ a xs, vs = [.ref a] ∧ WkA K H1 a xs (YPair (fun i => some (.int (i : Nat))) (fun i => xs[i]?)) fun J => rFor J g tb D σ H1
theorem i_enA0 (h : tr σ H (fun vs H1 => rEnA K g tb D σ vs H1)) : tFor (iEnA K tr) g tb D σ H := h
theorem i_enA (Pv : Nat → L2.St → Hp → Prop) (s : SqA K H0 a xs) (h0 : Pv 0 σ H) (hl : ∀ i σ H1, Pv i σ H1 → Same H0 H1)
    (hs : ∀ i x T σ H H2, xs[i]? = some x → Pv i σ H → H T = none → Same H H2 → H2 T = some (.tup [.int (i : Nat), x]) → (∀ b, b ≠ T → H2 b = H b) → g (.ref T) σ H2 fun σ2 H2 => tb { D with nx := Pv (i + 1), ct := Pv (i + 1), bk := D.nx } σ2 H2)
    (hd : ∀ σ H, Pv xs.length σ H → D.nx σ H) : rEnA K g tb D σ [.ref a] H :=
  ⟨a, xs, rfl, .intro s (hl _ _ _ h0) fun J G w hG => for_it w Pv h0 (fun i σ H1 _ p => hG _ (hl i σ H1 p)) (fun i x σ H H' _ p y => by
    obtain ⟨T, v, z, rfl, hT, rfl, e1, e2⟩ := y
    cases e1
    exact hs i z T σ H _ e2 p hT (fun b o e => by rw [upd_ne (ne_of_none e hT)]; exact e) upd_same fun b hb => upd_ne hb) hd⟩
/-- list comprehensions over it -/
def rLcA (K : PySem.W.Frag) (g : TG) (tt : TT) (te : TE) (vs : List Nat) (σ : L2.St) (Q : VK) (x : V) (H1 : Hp) : Prop := ∃ a xs, x = .ref a ∧ WkA K H1 a xs (YAt xs) fun J => ∀ D, H1 D = none → ∃ W : Nat → Nat → Hp → Prop, (∃ m, W 0 m (upd H1 D (.lst []))) ∧ ∀ i m H, W i m H →
  (J.stop i H ∧ Q (.ref D) H) ∨ (J.go i H ∧ ∃ Nx : Hp → Prop, (∀ H', Nx H' → ∃ m', m' < m ∧ W (i + 1) m' H') ∧ ∀ x H', J.yld i H x H' → g x (wipe σ vs) H' fun σ2 H2 => wipe σ2 vs = wipe σ vs ∧ tt σ2 H2 fun b H3 =>
    if b = true then te σ2 H3 fun y H4 => ∃ acc, H4 D = some (.lst acc) ∧ acc.length < sizeLine ∧ Nx (upd H4 D (.lst (acc ++ [y]))) else Nx H3)
theorem i_lcA0 {vs : List Nat} (h : tl σ H (fun x H1 => rLcA K g tt te vs σ Q x H1)) : tLc (iAny K tl) g tt te vs σ H Q := h
theorem i_lcA {vs : List Nat} (Pv : Nat → List V → Hp → Prop) (s : SqA K H0 a xs) (s0 : Same H0 H) (h0 : ∀ D H', H D = none → Same H H' → H' D = some (.lst []) → (∀ b, b ≠ D → H' b = H b) → Pv 0 [] H')
    (hl : ∀ i ys H1, Pv i ys H1 → Same H0 H1)
    (hs : ∀ i x D ys H1, H D = none → xs[i]? = some x → H1 D = some (.lst ys) → Pv i ys H1 → g x (wipe σ vs) H1 fun σ2 H2 => wipe σ2 vs = wipe σ vs ∧ tt σ2 H2 fun b H3 => if b = true then te σ2 H3 fun y H4 => rLcE D Pv i y H4 else LcS D Pv (i + 1) H3)
    (hd : ∀ D ys H1, H D = none → H1 D = some (.lst ys) → Pv xs.length ys H1 → Q (.ref D) H1) : rLcA K g tt te vs σ Q (.ref a) H := by
  refine ⟨a, xs, rfl, .intro s s0 fun J G w hG D hD => ?_⟩
  refine lc_it w (LcS D Pv) ⟨[], upd_same, h0 D _ hD (fun b o e => by rw [upd_ne (ne_of_none e hD)]; exact e) upd_same (fun b hb => upd_ne hb)⟩ ?_ ?_ ?_
  · rintro i H' _ ⟨ys, _, p⟩
    exact hG _ (hl i ys H' p)
  · rintro i x H1 H2 hi ⟨ys, hD', p⟩ ⟨rfl, e⟩
    exact hs i x D ys _ hD e hD' p
  · rintro H' ⟨ys, hD', p⟩
    exact hd D ys H' hD hD' p
/-- dict comprehensions over it -/
def DcS (D : Addr) (Pv : Nat → List (Key × V) → Hp → Prop) (i : Nat) (H : Hp) : Prop := ∃ kvs, H D = some (.dK kvs) ∧ Pv i kvs H
def rDcE (D : Addr) (Pv : Nat → List (Key × V) → Hp → Prop) (i : Nat) (y z : V) (H5 : Hp) : Prop := ∃ kvs k, y = kV k ∧ H5 D = some (.dK kvs) ∧ kvs.length < sizeLine ∧ DcS D Pv (i + 1) (upd H5 D (.dK (putK kvs k z)))
theorem i_dcE {D : Addr} {Pv : Nat → List (Key × V) → Hp → Prop} {i : Nat} {y : Str} {z : V} {kvs : List (Key × V)} (e : H D = some (.dK kvs)) (l : kvs.length < 100000) (h : ∀ H5, H5 D = some (.dK (putK kvs (.inr y) z)) → (∀ c, c ≠ D → H5 c = H c) → Pv (i + 1) (putK kvs (.inr y) z) H5) : rDcE D Pv i (.str y) z H :=
  ⟨kvs, .inr y, rfl, e, Nat.lt_of_lt_of_le l (by decide), _, upd_same, h _ upd_same (fun c hc => upd_ne hc)⟩
def rDcA (K : PySem.W.Frag) (g : TG) (tt : TT) (tk tv : TE) (vs : List Nat) (σ : L2.St) (Q : VK) (x : V) (H1 : Hp) : Prop := ∃ a xs, x = .ref a ∧ WkA K H1 a xs (YAt xs) fun J => ∀ D, H1 D = none → ∃ W : Nat → Nat → Hp → Prop, (∃ m, W 0 m (upd H1 D (.dK []))) ∧ ∀ i m H, W i m H →
  (J.stop i H ∧ Q (.ref D) H) ∨ (J.go i H ∧ ∃ Nx : Hp → Prop, (∀ H', Nx H' → ∃ m', m' < m ∧ W (i + 1) m' H') ∧ ∀ x H', J.yld i H x H' → g x (wipe σ vs) H' fun σ2 H2 => wipe σ2 vs = wipe σ vs ∧ tt σ2 H2 fun b H3 =>
    if b = true then tk σ2 H3 fun y H4 => tv σ2 H4 fun z H5 => ∃ kvs k, y = kV k ∧ H5 D = some (.dK kvs) ∧ kvs.length < sizeLine ∧ Nx (upd H5 D (.dK (putK kvs k z))) else Nx H3)
theorem i_dcA0 {vs : List Nat} (h : tl σ H (fun x H1 => rDcA K g tt tk tv vs σ Q x H1)) : tDc (iAny K tl) g tt tk tv vs σ H Q := h
theorem i_dcA {vs : List Nat} (Pv : Addr → Nat → List (Key × V) → Hp → Prop) (s : SqA K H0 a xs) (s0 : Same H0 H) (h0 : ∀ D H', H D = none → Same H H' → H' D = some (.dK []) → (∀ b, b ≠ D → H' b = H b) → Pv D 0 [] H')
    (hl : ∀ D i ys H1, Pv D i ys H1 → Same H0 H1)
    (hs : ∀ i x D kvs H1, H D = none → xs[i]? = some x → H1 D = some (.dK kvs) → Pv D i kvs H1 → g x (wipe σ vs) H1 fun σ2 H2 => wipe σ2 vs = wipe σ vs ∧ tt σ2 H2 fun b H3 => if b = true then tk σ2 H3 fun y H4 => tv σ2 H4 fun z H5 => rDcE D (Pv D) i y z H5 else DcS D (Pv D) (i + 1) H3)
    (hd : ∀ D kvs H1, H D = none → H1 D = some (.dK kvs) → Pv D xs.length kvs H1 → Q (.ref D) H1) : rDcA K g tt tk tv vs σ Q (.ref a) H := by
  refine ⟨a, xs, rfl, .intro s s0 fun J G w hG D hD => ⟨fun i m H => m = xs.length - i ∧ i ≤ xs.length ∧ DcS D (Pv D) i H, ⟨xs.length, by simp, Nat.zero_le _, [], upd_same, h0 D _ hD (fun b o e => by rw [upd_ne (ne_of_none e hD)]; exact e) upd_same (fun b hb => upd_ne hb)⟩, ?_⟩⟩
  rintro i m H' ⟨rfl, hi, kvs, hD', p⟩
  have q := hG _ (hl D i kvs H' p)
  by_cases hlt : i < xs.length
  · refine .inr ⟨w.goes i H' hlt q, DcS D (Pv D) (i + 1), fun H'' p' => ⟨xs.length - (i + 1), by omega, rfl, hlt, p'⟩, fun x H'' y => ?_⟩
    obtain ⟨rfl, e⟩ := w.yields i H' x H'' hlt q y
    exact hs i x D kvs _ hD e hD' p
  · have e : i = xs.length := by omega
    subst e
    exact .inl ⟨w.stops H' q, hd D kvs H' hD hD' p⟩
/-! dicts -/
def rDGet (x y : V) (H2 : Hp) (Q : VK) : Prop := ∃ a v, x = .ref a ∧ DGet H2 a y (some v) ∧ Q v H2
theorem i_dget0 (h : td σ H (fun x H1 => ty σ H1 (fun y H2 => rDGet x y H2 Q))) : tDGet td ty σ H Q := h
theorem i_dget {kvs : List (Key × V)} {z : Str} {v : V} (e : H a = some (.dK kvs)) (l : valV kvs (.inr z) = some v) (h : Q v H) : rDGet (.ref a) (.str z) H Q := ⟨a, v, rfl, by rw [← l]; exact DGet.k (k := .inr z) e, h⟩
def rDIn (y x : V) (H2 : Hp) (Q : VK) : Prop := ∃ a o, x = .ref a ∧ DGet H2 a y o ∧ Q (.bl o.isSome) H2
theorem i_din0 (h : ty σ H (fun y H1 => td σ H1 (fun x H2 => rDIn y x H2 Q))) : tDIn ty td σ H Q := h
theorem i_din {kvs : List (Key × V)} {z : Str} {b : Bool} (e : H a = some (.dK kvs)) (l : (valV kvs (.inr z)).isSome = b) (h : Q (.bl b) H) : rDIn (.str z) (.ref a) H Q := ⟨a, _, rfl, DGet.k (k := .inr z) e, by rw [l]; exact h⟩
def rDPut (v x y : V) (H3 : Hp) (P : Hp → Prop) : Prop := ∃ a H4, x = .ref a ∧ DPut H3 a y v H4 ∧ P H4
theorem i_dput0 (h : tv σ H (fun v H1 => td σ H1 (fun x H2 => ty σ H2 (fun y H3 => rDPut v x y H3 (fun H4 => D.nx σ H4))))) : sDPut td ty tv D σ H := h
theorem i_dput {kvs : List (Key × V)} {z : Str} {v : V} {P : Hp → Prop} (e : H a = some (.dK kvs)) (l : kvs.length < 100000) (h : ∀ H4, H4 a = some (.dK (putK kvs (.inr z) v)) → (∀ b, b ≠ a → H4 b = H b) → P H4) : rDPut v (.ref a) (.str z) H P :=
  ⟨a, _, rfl, DPut.k (k := .inr z) e (Nat.lt_of_lt_of_le l (by decide)), h _ upd_same fun b hb => upd_ne hb⟩
/-- the merge of two dicts -/
def rMg2 (p : Addr) (kvs : List (Key × V)) (y : V) (H2 : Hp) (Q : VK) : Prop := ∃ b ls, y = .ref b ∧ p ≠ b ∧ H2 b = some (.dK ls) ∧ H2 p = some (.dK kvs) ∧ ls.length ≤ 1000 ∧ Q (.ref p) (upd H2 p (.dK (mergeK kvs ls)))
def rMg1 (p : Addr) (t2 : TE) (σ : L2.St) (x : V) (H1 : Hp) (Q : VK) : Prop := ∃ a ks, x = .ref a ∧ p ≠ a ∧ H1 a = some (.dK ks) ∧ H1 p = some (.dK []) ∧ ks.length ≤ 1000 ∧ t2 σ (upd H1 p (.dK (mergeK [] ks))) fun y H2 => rMg2 p (mergeK [] ks) y H2 Q
theorem i_mg0 {t1 t2 : TE} (h : ∀ p H1, H p = none → Same H H1 → H1 p = some (.dK []) → (∀ b, b ≠ p → H1 b = H b) → t1 σ H1 fun x H2 => rMg1 p t2 σ x H2 Q) : tMerge2 t1 t2 σ H Q :=
  fun p hp => h p _ hp (fun b o e => by rw [upd_ne (ne_of_none e hp)]; exact e) upd_same fun b hb => upd_ne hb
theorem i_mg1 {p : Addr} {ks : List (Key × V)} {t2 : TE} (ne : p ≠ a) (e : H a = some (.dK ks)) (ep : H p = some (.dK [])) (l : ks.length ≤ 1000) (h : ∀ H2, H2 p = some (.dK (mergeK [] ks)) → (∀ b, b ≠ p → H2 b = H b) → t2 σ H2 fun y H3 => rMg2 p (mergeK [] ks) y H3 Q) : rMg1 p t2 σ (.ref a) H Q :=
  ⟨a, ks, rfl, ne, e, ep, l, h _ upd_same fun b hb => upd_ne hb⟩
theorem i_mg2 {p : Addr} {kvs ls : List (Key × V)} (ne : p ≠ a) (e : H a = some (.dK ls)) (ep : H p = some (.dK kvs)) (l : ls.length ≤ 1000) (h : ∀ H2, H2 p = some (.dK (mergeK kvs ls)) → (∀ b, b ≠ p → H2 b = H b) → Q (.ref p) H2) : rMg2 p kvs (.ref a) H Q :=
  ⟨a, ls, rfl, ne, e, ep, l, h _ upd_same fun b hb => upd_ne hb⟩
/-- a display of one pair -/
theorem i_disp1 {tk tv : TE} (h : ∀ p H1, H p = none → Same H H1 → H1 p = some (.dK []) → (∀ b, b ≠ p → H1 b = H b) → tk σ H1 fun x H2 => tv σ H2 fun y H3 => H3 p = some (.dK []) ∧ ∃ z : Str, x = .str z ∧ ∀ H4, H4 p = some (.dK [(.inr z, y)]) → (∀ b, b ≠ p → H4 b = H3 b) → Q (.ref p) H4)
    (mono : ∀ (P P' : VK), (∀ x H, P x H → P' x H) → ∀ σ H, tk σ H P → tk σ H P') (mono2 : ∀ (P P' : VK), (∀ x H, P x H → P' x H) → ∀ σ H, tv σ H P → tv σ H P') : tDisp [(tk, tv)] σ H Q := by
  intro p hp
  refine mono _ _ (fun x H2 q => mono2 _ _ (fun y H3 q2 => ?_) _ _ q) _ _ (h p _ hp (fun b o e => by rw [upd_ne (ne_of_none e hp)]; exact e) upd_same fun b hb => upd_ne hb)
  obtain ⟨e, z, rfl, k⟩ := q2
  exact ⟨e, [(.inr z, y)], rfl, (by show 1 ≤ 15; decide), k _ upd_same fun b hb => upd_ne hb⟩
/-! comprehensions with two fors -/
def rLcIn (K : PySem.W.Frag) (D : Addr) (N : Hp → Prop) (g1 : TG) (tt1 : TT) (te : TE) (vs1 : List Nat) (σ2 : L2.St) (x1 : V) (H4 : Hp) : Prop := ∃ a xs, x1 = .ref a ∧ WkA K H4 a xs (YAt xs) fun J1 => ∃ W1 : Nat → Nat → Hp → Prop, (∃ m, W1 0 m H4) ∧ ∀ j k H, W1 j k H →
  (J1.stop j H ∧ N H) ∨ (J1.go j H ∧ ∃ Nx1 : Hp → Prop, (∀ H', Nx1 H' → ∃ k', k' < k ∧ W1 (j + 1) k' H') ∧ ∀ x H', J1.yld j H x H' → g1 x (wipe σ2 vs1) H' fun σ3 H5 => wipe σ3 vs1 = wipe σ2 vs1 ∧ tt1 σ3 H5 fun b H6 =>
    if b = true then te σ3 H6 fun y H7 => ∃ acc, H7 D = some (.lst acc) ∧ acc.length < sizeLine ∧ Nx1 (upd H7 D (.lst (acc ++ [y]))) else Nx1 H6)
def rLc2A (K : PySem.W.Frag) (g : TG) (tt : TT) (tl1 : TE) (g1 : TG) (tt1 : TT) (te : TE) (vs vs1 : List Nat) (σ : L2.St) (Q : VK) (x : V) (H1 : Hp) : Prop := ∃ a xs, x = .ref a ∧ WkA K H1 a xs (YAt xs) fun J => ∀ D, H1 D = none → ∃ W : Nat → Nat → Hp → Prop, (∃ m, W 0 m (upd H1 D (.lst []))) ∧ ∀ i m H, W i m H →
  (J.stop i H ∧ Q (.ref D) H) ∨ (J.go i H ∧ ∃ Nx : Hp → Prop, (∀ H', Nx H' → ∃ m', m' < m ∧ W (i + 1) m' H') ∧ ∀ x H', J.yld i H x H' → g x (wipe σ vs) H' fun σ2 H2 => wipe σ2 vs = wipe σ vs ∧ tt σ2 H2 fun b H3 =>
    if b = true then tl1 σ2 H3 fun x1 H4 => rLcIn K D Nx g1 tt1 te vs1 σ2 x1 H4 else Nx H3)
theorem i_lc2A0 {tl1 : TE} {vs vs1 : List Nat} (h : tl σ H (fun x H1 => rLc2A K g tt tl1 g1 tt1 te vs vs1 σ Q x H1)) : tLc2 (iAny K tl) g tt (iAny K tl1) g1 tt1 te vs vs1 σ H Q := h
theorem i_lcIn {D : Addr} {Pv Pw : Nat → List V → Hp → Prop} {i : Nat} {vs1 : List Nat} {ys : List V} (s : SqA K H0 a xs) (e : H D = some (.lst ys)) (h0 : Pw 0 ys H) (hl : ∀ j ys H1, Pw j ys H1 → Same H0 H1)
    (hs : ∀ j x ys H1, xs[j]? = some x → H1 D = some (.lst ys) → Pw j ys H1 → g1 x (wipe σ vs1) H1 fun σ3 H5 => wipe σ3 vs1 = wipe σ vs1 ∧ tt1 σ3 H5 fun b H6 => if b = true then te σ3 H6 fun y H7 => rLcE D Pw j y H7 else LcS D Pw (j + 1) H6)
    (hd : ∀ ys H1, H1 D = some (.lst ys) → Pw xs.length ys H1 → Pv (i + 1) ys H1) : rLcIn K D (LcS D Pv (i + 1)) g1 tt1 te vs1 σ (.ref a) H := by
  refine ⟨a, xs, rfl, .intro s (hl _ _ _ h0) fun J G w hG => ⟨fun j k H => k = xs.length - j ∧ j ≤ xs.length ∧ LcS D Pw j H, ⟨xs.length, by simp, Nat.zero_le _, ys, e, h0⟩, ?_⟩⟩
  rintro j k H' ⟨rfl, hj, zs, hD, p⟩
  have q := hG _ (hl j zs H' p)
  by_cases hlt : j < xs.length
  · refine .inr ⟨w.goes j H' hlt q, LcS D Pw (j + 1), fun H'' p' => ⟨xs.length - (j + 1), by omega, rfl, hlt, p'⟩, fun x H'' y => ?_⟩
    obtain ⟨rfl, e⟩ := w.yields j H' x H'' hlt q y
    exact hs j x zs _ e hD p
  · have e : j = xs.length := by omega
    subst e
    exact .inl ⟨w.stops H' q, zs, hD, hd zs H' hD p⟩
theorem i_lc2A {tl1 : TE} {vs vs1 : List Nat} (Pv : Nat → List V → Hp → Prop) (s : SqA K H0 a xs) (s0 : Same H0 H) (h0 : ∀ D H', H D = none → Same H H' → H' D = some (.lst []) → (∀ b, b ≠ D → H' b = H b) → Pv 0 [] H')
    (hl : ∀ i ys H1, Pv i ys H1 → Same H0 H1)
    (hs : ∀ i x D ys H1, H D = none → xs[i]? = some x → H1 D = some (.lst ys) → Pv i ys H1 → g x (wipe σ vs) H1 fun σ2 H2 => wipe σ2 vs = wipe σ vs ∧ tt σ2 H2 fun b H3 => if b = true then tl1 σ2 H3 fun x1 H4 => rLcIn K D (LcS D Pv (i + 1)) g1 tt1 te vs1 σ2 x1 H4 else LcS D Pv (i + 1) H3)
    (hd : ∀ D ys H1, H D = none → H1 D = some (.lst ys) → Pv xs.length ys H1 → Q (.ref D) H1) : rLc2A K g tt tl1 g1 tt1 te vs vs1 σ Q (.ref a) H := by
  refine ⟨a, xs, rfl, .intro s s0 fun J G w hG D hD => ⟨fun i m H => m = xs.length - i ∧ i ≤ xs.length ∧ LcS D Pv i H, ⟨xs.length, by simp, Nat.zero_le _, [], upd_same, h0 D _ hD (fun b o e => by rw [upd_ne (ne_of_none e hD)]; exact e) upd_same (fun b hb => upd_ne hb)⟩, ?_⟩⟩
  rintro i m H' ⟨rfl, hi, ys, hD', p⟩
  have q := hG _ (hl i ys H' p)
  by_cases hlt : i < xs.length
  · refine .inr ⟨w.goes i H' hlt q, LcS D Pv (i + 1), fun H'' p' => ⟨xs.length - (i + 1), by omega, rfl, hlt, p'⟩, fun x H'' y => ?_⟩
    obtain ⟨rfl, e⟩ := w.yields i H' x H'' hlt q y
    exact hs i x D ys _ hD e hD' p
  · have e : i = xs.length := by omega
    subst e
    exact .inl ⟨w.stops H' q, hd D ys H' hD hD' p⟩
end
end Z

set_option Elab.async false
set_option linter.all false
set_option maxRecDepth 100000
set_option maxHeartbeats 4000000
/-! more readings: lists and tuples of texts -/
namespace Z
open PySem PySem.Spec PyProof.Rows L2
theorem same_new {H : Hp} {p : Addr} {o : HO} (hp : H p = none) : Same H (upd H p o) := fun b q e => by rw [upd_ne (ne_of_none e hp)]; exact e
section
variable {X : Cx} {K : PySem.W.Frag}
theorem k_inS (hK : X.K = K) : OpR X (compareOp .In) (rIn K false) := by subst hK; exact op_in_seq
theorem k_notInS (hK : X.K = K) : OpR X (compareOp .NotIn) (rIn K true) := by subst hK; exact op_notIn_seq
theorem k_inD (hK : X.K = K) (hu : X.A.units + 65 < cLine) : OpR X (compareOp .In) (rInD K) := by subst hK; exact op_inD hu
theorem k_slA (hK : X.K = K) : SlR X (fun x lo hi H Q => rSlL K x lo hi H Q ∨ rSlT K x lo hi H Q) := by subst hK; exact sl_list.or sl_tup
def rListA (K : PySem.W.Frag) : List V → Hp → VK → Prop := fun xs H Q => ∃ p ys, xs = [.ref p] ∧ (SqL K H p ys ∨ SqT K H p ys) ∧ ∀ l, H l = none → Q (.ref l) (upd H l (.lst ys))
theorem k_listA (hK : X.K = K) : CallR X (.type "list") (rListA K) := by subst hK; exact call_list_of
def rTupA (K : PySem.W.Frag) : List V → Hp → VK → Prop := fun xs H Q => ∃ p ys, xs = [.ref p] ∧ ((SqL K H p ys ∧ ∀ l, H l = none → Q (.ref l) (upd H l (.tup ys))) ∨ (SqT K H p ys ∧ Q (.ref p) H))
theorem k_tupA (hK : X.K = K) : CallR X (.type "tuple") (rTupA K) := by subst hK; exact call_tuple_of
theorem k_sort (hK : X.K = K) : CallR X (.builtin "sorted") (rSortST K) := by subst hK; exact cr_sortST
theorem k_any (hK : X.calm = true) (hK2 : X.K = K) : CallR X (.builtin "any") (rAny K) := by subst hK2; exact cr_any hK
theorem k_all (hK : X.calm = true) (hK2 : X.K = K) : CallR X (.builtin "all") (rAll K) := by subst hK2; exact cr_all hK
/-- the truth of any value -/
def tTruA (K : PySem.W.Frag) (ta : TE) : TT := fun σ H Q => ta σ H fun x H' => ∃ k, TruV K x H' k ∧ Q k H'
theorem k_truth {a : Expr} {ta : TE} (hK : X.K = K) (ha : PE X a ta) (he : ∀ whole, isTrue a X.env whole = (do let v ← whole; standAt a.pos; holding [v] (truthy v))) : PT X a (tTruA K ta) := by subst hK; exact pt_truth ha he
/-- a dict's own pairs, copied -/
def rDictD : List V → Hp → VK → Prop := fun xs H Q => ∃ (a : Addr) (kvs : List (Key × V)), xs = [.ref a] ∧ Rd H a (.dK kvs) ∧ ∀ p, H p = none → Q (.ref p) (upd H p (.dK kvs))
theorem k_dictD : CallR X (.type "dict") rDictD := call_dictD
def rSortD : List V → Hp → VK → Prop := fun xs H Q => ∃ (a : Addr) (kvs : List (Key × V)) (ks : List Str), xs = [.ref a] ∧ Rd H a (.dK kvs) ∧ kvs.map (·.1) = ks.map Sum.inr ∧ ks.length < 64 ∧
    ∀ ys p, ys.Perm ks → sortedS ys = true → H p = none → Q (.ref p) (upd H p (.lst (ys.map V.str)))
theorem k_sortD (hc : X.calm = true) : CallR X (.builtin "sorted") rSortD := call_sortedD hc
end
section
variable {K : PySem.W.Frag} {σ : L2.St} {H : Hp} {D : Ends} {te ta : TE} {Q : VK} {QB : Bool → Hp → Prop} {a p : Addr} {xs ys : List V} {zs : List Str} {x y : Str}
theorem flat_strs : ∀ zs : List Str, (zs.map V.str).all flatV = true
  | [] => rfl
  | z :: zs => by
    rw [List.map_cons, List.all_cons, flat_strs zs]
    rfl
theorem inV_strs : ∀ (zs : List Str) (x : Str), inV (.str x) (zs.map V.str) = decide (x ∈ zs)
  | [], x => by simp [inV]
  | z :: zs, x => by
    have ih := inV_strs zs x
    unfold inV at ih ⊢
    rw [List.map_cons, List.any_cons, ih]
    have e : eqV (.str z) (.str x) = decide (z = x) := by
      show (z == x) = decide (z = x)
      rfl
    rw [e]
    by_cases h : z = x
    · subst h
      simp
    · have : ¬ x = z := fun e => h e.symm
      simp [h, this]
theorem i_inS (s : SqA K H p (zs.map V.str)) (h : Q (.bl (decide (x ∈ zs))) H) : rIn K false (.str x) (.ref p) H Q := ⟨p, _, rfl, s, rfl, flat_strs zs, by rw [inV_strs]; exact h⟩
theorem i_notInS (s : SqA K H p (zs.map V.str)) (h : Q (.bl (!decide (x ∈ zs))) H) : rIn K true (.str x) (.ref p) H Q := ⟨p, _, rfl, s, rfl, flat_strs zs, by rw [inV_strs]; exact h⟩
theorem i_lenA (s : SqA K H p xs) (h : Q (.int xs.length) H) : rLen K [.ref p] H Q := s.elim (fun s => i_lenL s h) fun s => i_lenT s h
theorem i_tru0 (h : ta σ H (fun x H1 => ∃ k, TruV K x H1 k ∧ QB k H1)) : tTruA K ta σ H QB := h
theorem i_listA (s : SqA K H p ys) (h : ∀ l H', H l = none → Same H H' → H' l = some (.lst ys) → (∀ b, b ≠ l → H' b = H b) → Q (.ref l) H') : rListA K [.ref p] H Q := ⟨p, ys, rfl, s, fun l hl => h l _ hl (same_new hl) upd_same fun b hb => upd_ne hb⟩
theorem i_tupL (s : SqL K H p ys) (h : ∀ l H', H l = none → Same H H' → H' l = some (.tup ys) → (∀ b, b ≠ l → H' b = H b) → Q (.ref l) H') : rTupA K [.ref p] H Q := ⟨p, ys, rfl, .inl ⟨s, fun l hl => h l _ hl (same_new hl) upd_same fun b hb => upd_ne hb⟩⟩
theorem i_sort (s : SqA K H p (zs.map V.str)) (l : zs.length < 64) (h : ∀ q H', H q = none → Same H H' → (∀ b, b ≠ q → H' b = H b) → H' q = some (.lst ((srt zs).map V.str)) → Q (.ref q) H') : rSortST K [.ref p] H Q := ⟨p, zs, rfl, s, l, h⟩
theorem i_sortD {kvs : List (Key × V)} (e : H a = some (.dK kvs)) (k : kvs.map (·.1) = zs.map Sum.inr) (l : zs.length < 64) (h : ∀ q H', H q = none → Same H H' → (∀ b, b ≠ q → H' b = H b) → H' q = some (.lst ((srt zs).map V.str)) → Q (.ref q) H') : rSortD [.ref a] H Q :=
  ⟨a, kvs, zs, rfl, .inl e, k, l, fun ys q hp hs hq => by obtain rfl := srt_eq hp hs; exact h q _ hq (same_new hq) (fun b hb => upd_ne hb) upd_same⟩
/-- xs[:j], j below the length -/
theorem cut_to (xs : List V) (j : Nat) : cutV xs none (some (j : Int)) = xs.take j := by
  unfold cutV
  rw [HT.sIx_none, HT.sIx_nat, List.drop_zero, Nat.sub_zero]
  by_cases h : j ≤ xs.length
  · rw [Nat.min_eq_left h]
  · rw [Nat.min_eq_right (by omega), List.take_length, List.take_of_length_le (by omega)]
theorem i_slTo {j : Nat} (s : SqA K H a xs) (hj : j < xs.length) (h : ∀ q H2, H q = none → Same H H2 → SqA K H2 q (xs.take j) → (∀ b, b ≠ q → H2 b = H b) → Q (.ref q) H2) : (rSlL K (.ref a) none (some (j : Int)) H Q ∨ rSlT K (.ref a) none (some (j : Int)) H Q) := by
  rcases s with s | s
  · exact .inl ⟨a, xs, rfl, s, fun q hq => by rw [cut_to]; exact h q _ hq (same_new hq) (.l upd_same) fun b hb => upd_ne hb⟩
  · refine .inr ⟨a, xs, rfl, s, ?_, fun q hq => by rw [cut_to]; exact h q _ hq (same_new hq) (.t upd_same) fun b hb => upd_ne hb⟩
    rintro ⟨_, e⟩
    rw [HT.sIx_nat, Nat.min_eq_left (by omega)] at e
    omega
/-- {x!r} -/
def rFmtR (x : V) (H1 : Hp) (Q : VK) : Prop := (∃ y : Str, x = .str y ∧ (reprText y).length ≤ sizeLine ∧ Q (.str (reprText y)) H1) ∨ ∃ i : Int, x = .int i ∧ i.natAbs.log2 < 1920 ∧ Q (.str (toString i)) H1
theorem i_fmtR (h : te σ H (fun x H1 => rFmtR x H1 Q)) : tFmtR te σ H Q := h
/-! lists changed -/
theorem ix_seq {n k : Nat} (h : k < n) : seqIndex? (k : Int) n = some k := by
  have := ixN_seq (ixN_n h)
  exact this.1
theorem i_popAt {k : Nat} {v : V} (e : H p = some (.lst xs)) (l : xs.length ≤ 100000) (hk : xs[k]? = some v) (h : ∀ H2, H2 p = some (.lst (xs.eraseIdx k)) → (∀ b, b ≠ p → H2 b = H b) → Q v H2) : rPopAt (.ref p) [.int (k : Nat)] H Q := by
  have lt := (List.getElem?_eq_some_iff.mp hk).1
  exact ⟨p, xs, k, k, v, rfl, rfl, e, by omega, by omega, ix_seq lt, hk, h _ upd_same fun b hb => upd_ne hb⟩
/-! data -/
theorem dp_strs : ∀ zs : List Str, DpAll K H (zs.map V.str) (zs.map PyData.str)
  | [] => .nil
  | z :: zs => .cons (.str z) (dp_strs zs)
theorem eqv_strs : ∀ zs ws : List Str, PyData.eqvAll (zs.map PyData.str) (ws.map PyData.str) = decide (zs = ws)
  | [], [] => rfl
  | [], _ :: _ => rfl
  | _ :: _, [] => rfl
  | z :: zs, w :: ws => by
    show (PyData.eqv (.str z) (.str w) && PyData.eqvAll _ _) = _
    rw [eqv_strs zs ws]
    show ((z == w) && _) = _
    by_cases h1 : z = w <;> by_cases h2 : zs = ws <;> simp [h1, h2]
end
end Z

set_option Elab.async false
set_option linter.all false
set_option maxRecDepth 100000
set_option maxHeartbeats 4000000
/-! orders in the heap; promises of the defs about them -/
namespace Z
open PySem PySem.Spec PyProof.Rows L2
theorem u65 {A : Around} {k : Nat} (hr : Room k A) : A.units + 65 < cLine := by have := hr.un; omega
/-- this promise is never asked -/
def spNo2 : Sp := fun vs _ _ _ => vs.length = 2 ∧ False
/-! ### words -/
def let_ (c : Nat) : Bool := decide (97 ≤ c ∧ c ≤ 122)
def nameL (l : List Nat) : Bool := decide (1 ≤ l.length ∧ l.length ≤ 8) && (l.head?.any let_ && l.all fun c => let_ c || ZS.dig c)
def nameB (z : Str) : Bool := nameL (TL.tl z)
theorem nameB_len {z : Str} (h : nameB z = true) : z.length ≤ 8 := by
  unfold nameB nameL at h
  rw [Bool.and_eq_true] at h
  have := of_decide_eq_true h.1
  have e := TL.len_tl z
  omega
theorem nameB_ok {z : Str} (h : nameB z = true) : PyData.strOk z = true := by
  unfold nameB nameL at h
  rw [Bool.and_eq_true, Bool.and_eq_true] at h
  have h2 := List.all_eq_true.mp h.2.2
  unfold PyData.strOk
  rw [← Array.all_toList, List.all_eq_true]
  intro c hc
  have := h2 c hc
  unfold let_ ZS.dig at this
  simp at this ⊢
  omega
def spIsName : Sp := fun vs H Q _ => vs.length = 1 ∧ ∃ z : Str, vs = [.str z] ∧ z.length ≤ 100000 ∧ ∀ H', Same H H' → Q (.bl (nameB z)) H'
def spCheckN (K : PySem.W.Frag) : Sp := fun vs H Q _ => vs.length = 1 ∧ ∃ (a : Addr) (zs : List Str), vs = [.ref a] ∧ SqA K H a (zs.map V.str) ∧ zs.length ≤ 60 ∧ (∀ z ∈ zs, nameB z = true) ∧ zs.Nodup ∧ ∀ H', Same H H' → Q .non H'
/-- a text whose printed form is not too long -/
def RB (z : Str) : Prop := (reprText z).length ≤ 10000
def GStr : V → Hp → Prop := fun v _ => ∃ z : Str, v = .str z ∧ RB z
/-- an error's own name -/
def EName (CU : Addr) (z : Str) (H : Hp) (E : XK) : Prop := ∀ d H', Same H H' → H' d = some (.xd [("name", .str z)]) → E (.ref CU) (some d) H'
def miss (ks zs : List Str) : Option Str := zs.find? fun z => !decide (z ∈ ks)
def spAmong (K : PySem.W.Frag) (CU : Addr) : Sp := fun vs H Q E => vs.length = 2 ∧ ∃ (a b : Addr) (ks zs : List Str), vs = [.ref a, .ref b] ∧ SqA K H a (ks.map V.str) ∧ SqA K H b (zs.map V.str) ∧
  (∀ z, miss ks zs = some z → RB z ∧ EName CU z H E) ∧ (miss ks zs = none → ∀ H', Same H H' → Q .non H')
theorem miss_none {ks zs : List Str} (h : ∀ z ∈ zs, z ∈ ks) : miss ks zs = none := by
  unfold miss
  rw [List.find?_eq_none]
  intro z hz
  simp [h z hz]
section
variable {K : PySem.W.Frag} {CU a b : Addr} {H : Hp} {Q : VK} {E : XK} {ks zs : List Str} {z : Str}
theorem i_isName (hz : z.length ≤ 100000) (h : ∀ H', Same H H' → Q (.bl (nameB z)) H') : spIsName [.str z] H Q E := ⟨rfl, z, rfl, hz, h⟩
end
/-! ### pairs and orders in the heap -/
/-- tuples of two texts -/
def PrT (K : PySem.W.Frag) (H : Hp) (ps : List V) (E : List (Str × Str)) : Prop := ps.length = E.length ∧ ∀ (i : Nat) (p : V) (e : Str × Str), ps[i]? = some p → E[i]? = some e → ∃ q, p = .ref q ∧ SqT K H q [.str e.1, .str e.2]
def PrA (K : PySem.W.Frag) (H : Hp) (b : Addr) (E : List (Str × Str)) : Prop := ∃ ps, SqA K H b ps ∧ PrT K H ps E
theorem PrT.mono {K : PySem.W.Frag} {H H' : Hp} {ps : List V} {E : List (Str × Str)} (s : Same H H') (h : PrT K H ps E) : PrT K H' ps E :=
  ⟨h.1, fun i p e hp he => let ⟨q, e1, e2⟩ := h.2 i p e hp he; ⟨q, e1, Same_seqT s e2⟩⟩
theorem PrA.mono {K : PySem.W.Frag} {H H' : Hp} {b : Addr} {E : List (Str × Str)} (s : Same H H') (h : PrA K H b E) : PrA K H' b E := let ⟨ps, h1, h2⟩ := h; ⟨ps, sameA s h1, h2.mono s⟩
theorem PrT.nil {K : PySem.W.Frag} {H : Hp} : PrT K H [] [] := ⟨rfl, fun i p e hp => by simp at hp⟩
theorem PrT.snoc {K : PySem.W.Frag} {H : Hp} {ps : List V} {E : List (Str × Str)} {q : Addr} {a b : Str} (h : PrT K H ps E) (e : SqT K H q [.str a, .str b]) : PrT K H (ps ++ [.ref q]) (E ++ [(a, b)]) := by
  refine ⟨by rw [List.length_append, List.length_append, h.1]; rfl, fun i p e' hp he => ?_⟩
  by_cases lt : i < ps.length
  · rw [List.getElem?_append_left lt] at hp
    rw [List.getElem?_append_left (by rw [← h.1]; exact lt)] at he
    exact h.2 i p e' hp he
  · rw [List.getElem?_append_right (by omega)] at hp
    rw [List.getElem?_append_right (by rw [← h.1]; omega), ← h.1] at he
    cases hk : i - ps.length with
    | zero =>
      rw [hk] at hp he
      cases hp
      cases he
      exact ⟨q, rfl, e⟩
    | succ n =>
      rw [hk] at hp
      simp at hp
/-- an order at a: its names ascending, what is above each -/
def rowsOf (N : List Str) (A : Str → Addr) : List (Key × V) := N.map fun n => (.inr n, .ref (A n))
def OTab (H : Hp) (d : Addr) (N : List Str) (R : Str → Str → Bool) : Prop := ∃ A, H d = some (.dK (rowsOf N A)) ∧ ∀ n ∈ N, H (A n) = some (.tup ((OM.ab N R n).map V.str))
def IsO (CO : Addr) (H : Hp) (a : Addr) (N : List Str) (R : Str → Str → Bool) : Prop := ∃ dx t d, H a = some (.ins CO dx [("names", .ref t), ("_above", .ref d)]) ∧ H t = some (.tup (N.map V.str)) ∧ OTab H d N R ∧ N.length ≤ 8 ∧ N.Nodup ∧ ∀ n ∈ N, nameB n = true
theorem OTab.mono {H H' : Hp} {d : Addr} {N : List Str} {R : Str → Str → Bool} (s : Same H H') (h : OTab H d N R) : OTab H' d N R := let ⟨A, h1, h2⟩ := h; ⟨A, s _ _ h1, fun n hn => s _ _ (h2 n hn)⟩
theorem IsO.mono {CO : Addr} {H H' : Hp} {a : Addr} {N : List Str} {R : Str → Str → Bool} (s : Same H H') (h : IsO CO H a N R) : IsO CO H' a N R :=
  let ⟨dx, t, d, h1, h2, h3, h4⟩ := h; ⟨dx, t, d, s _ _ h1, s _ _ h2, h3.mono s, h4⟩
theorem rows_val {A : Str → Addr} {n : Str} : ∀ {N : List Str}, n ∈ N → valV (rowsOf N A) (.inr n) = some (.ref (A n))
  | m :: N, h => by
    by_cases e : m = n
    · subst e
      exact valV_pos rfl
    · have hm : n ∈ N := by
        rcases List.mem_cons.mp h with h | h
        · exact absurd h.symm e
        · exact h
      have := rows_val (A := A) hm
      unfold rowsOf at this ⊢
      rw [List.map_cons, valV_neg (fun z => e (Sum.inr.inj z))]
      exact this
def spClosure (K : PySem.W.Frag) : Sp := fun vs H Q _ => vs.length = 2 ∧ ∃ (a b : Addr) (N : List Str) (E : List (Str × Str)), vs = [.ref a, .ref b] ∧ SqA K H a (N.map V.str) ∧ PrA K H b E ∧ N.length ≤ 8 ∧ N.Nodup ∧ N.Pairwise (fun a b => ltS b a = false) ∧
  (∀ p ∈ E, p.1 ∈ N ∧ p.2 ∈ N) ∧ ∀ d H', H d = none → Same H H' → OTab H' d N (OM.cl E) → Q (.ref d) H'
/-- new tuples of two texts -/
def TPr (H : Hp) (qs : List Addr) (E : List (Str × Str)) : Prop := qs.length = E.length ∧ ∀ (i : Nat) (q : Addr) (e : Str × Str), qs[i]? = some q → E[i]? = some e → H q = some (.tup [.str e.1, .str e.2])
theorem TPr.keep {H H' : Hp} {qs : List Addr} {E : List (Str × Str)} (h : TPr H qs E) (t : ∀ c ys, H c = some (.tup ys) → H' c = some (.tup ys)) : TPr H' qs E := ⟨h.1, fun i q e a b => t _ _ (h.2 i q e a b)⟩
theorem TPr.mono {H H' : Hp} {qs : List Addr} {E : List (Str × Str)} (s : Same H H') (h : TPr H qs E) : TPr H' qs E := h.keep fun c ys e => s _ _ e
theorem TPr.nil {H : Hp} : TPr H [] [] := ⟨rfl, fun i q e h => by simp at h⟩
theorem TPr.snoc {H : Hp} {qs : List Addr} {E : List (Str × Str)} {q : Addr} {a b : Str} (h : TPr H qs E) (e : H q = some (.tup [.str a, .str b])) : TPr H (qs ++ [q]) (E ++ [(a, b)]) := by
  refine ⟨by rw [List.length_append, List.length_append, h.1]; rfl, fun i q' e' hq he => ?_⟩
  by_cases lt : i < qs.length
  · rw [List.getElem?_append_left lt] at hq
    rw [List.getElem?_append_left (by rw [← h.1]; exact lt)] at he
    exact h.2 i q' e' hq he
  · rw [List.getElem?_append_right (by omega)] at hq
    rw [List.getElem?_append_right (by rw [← h.1]; omega), ← h.1] at he
    cases hk : i - qs.length with
    | zero =>
      rw [hk] at hq he
      cases hq
      cases he
      exact e
    | succ n =>
      rw [hk] at hq
      simp at hq
theorem TPr.prt {K : PySem.W.Frag} {H : Hp} {qs : List Addr} {E : List (Str × Str)} (h : TPr H qs E) : PrT K H (qs.map V.ref) E := by
  refine ⟨by rw [List.length_map, h.1], fun i p e hp he => ?_⟩
  rw [List.getElem?_map] at hp
  cases hq : qs[i]? with
  | none => rw [hq] at hp; cases hp
  | some q =>
    rw [hq] at hp
    cases hp
    exact ⟨q, rfl, .of (h.2 i q e hq he)⟩
/-- a new list of pairs -/
def LPr (H : Hp) (p : Addr) (E : List (Str × Str)) : Prop := ∃ qs : List Addr, H p = some (.lst (qs.map V.ref)) ∧ TPr H qs E
theorem LPr.a {K : PySem.W.Frag} {H : Hp} {p : Addr} {E : List (Str × Str)} (h : LPr H p E) : PrA K H p E := let ⟨qs, h1, h2⟩ := h; ⟨_, .l h1, h2.prt⟩
theorem LPr.mono {H H' : Hp} {p : Addr} {E : List (Str × Str)} (s : Same H H') (h : LPr H p E) : LPr H' p E := let ⟨qs, h1, h2⟩ := h; ⟨qs, s _ _ h1, h2.mono s⟩
/-- the tuples stand when an object of another kind is changed -/
theorem tup_keep {H H' : Hp} {p : Addr} {o : HO} (e : H p = some o) (nt : ∀ ys, o ≠ .tup ys) (ho : ∀ b, b ≠ p → H' b = H b) : ∀ c ys, H c = some (.tup ys) → H' c = some (.tup ys) := fun c ys hc => by
  rw [ho c (ne_of hc e (fun z => nt ys z.symm))]
  exact hc
theorem lst_keep {H H' : Hp} {p : Addr} {xs : List V} (e : H p = some (.lst xs)) (ho : ∀ b, b ≠ p → H' b = H b) : ∀ c ys, H c = some (.tup ys) → H' c = some (.tup ys) := tup_keep e (fun _ z => nomatch z) ho
/-- one pair more -/
theorem LPr.snoc {H H2 : Hp} {p q : Addr} {E : List (Str × Str)} {xs : List V} {a b : Str} (h : LPr H p E) (e : H p = some (.lst xs)) (eq : H q = some (.tup [.str a, .str b])) (e2 : H2 p = some (.lst (xs ++ [.ref q]))) (ho : ∀ b, b ≠ p → H2 b = H b) : LPr H2 p (E ++ [(a, b)]) := by
  obtain ⟨qs, h1, h2⟩ := h
  have ex : xs = qs.map V.ref := by
    have := h1.symm.trans e
    cases this
    rfl
  subst ex
  exact ⟨qs ++ [q], by rw [e2, List.map_append]; rfl, (h2.snoc eq).keep (lst_keep e ho)⟩
def spPairs (CO : Addr) : Sp := fun vs H Q _ => vs.length = 1 ∧ ∃ a N R, vs = [.ref a] ∧ IsO CO H a N R ∧ ∀ p H', H p = none → Same H H' → LPr H' p (OM.prs N R) → Q (.ref p) H'
def spBtw (CO : Addr) : Sp := fun vs H Q _ => vs.length = 3 ∧ ∃ a N R x y, vs = [.ref a, .str x, .str y] ∧ IsO CO H a N R ∧ x ∈ N ∧ y ∈ N ∧ ∀ p H', H p = none → Same H H' → H' p = some (.lst ((OM.btw N R x y).map V.str)) → Q (.ref p) H'
def spCovers (CO : Addr) : Sp := fun vs H Q _ => vs.length = 1 ∧ ∃ a N R, vs = [.ref a] ∧ IsO CO H a N R ∧ ∀ p H', H p = none → Same H H' → LPr H' p (OM.cvs N R) → Q (.ref p) H'
def spBelow (CO CU : Addr) : Sp := fun vs H Q E => vs.length = 3 ∧ ∃ a N R x y, vs = [.ref a, .str x, .str y] ∧ IsO CO H a N R ∧ (∀ z, miss N [x, y] = some z → RB z ∧ EName CU z H E) ∧ (miss N [x, y] = none → ∀ H', Same H H' → Q (.bl (R x y)) H')
def spOInit (K : PySem.W.Frag) (CO : Addr) : Sp := fun vs H Q _ => vs.length = 3 ∧ ∃ (a b c : Addr) (zs : List Str) (E : List (Str × Str)), vs = [.ref a, .ref b, .ref c] ∧ (∃ dx, H a = some (.ins CO dx [])) ∧ SqA K H b (zs.map V.str) ∧ PrA K H c E ∧
  1 ≤ zs.length ∧ zs.length ≤ 8 ∧ (∀ z ∈ zs, nameB z = true) ∧ zs.Nodup ∧ (∀ p ∈ E, p.1 ∈ zs ∧ p.2 ∈ zs) ∧ E.length ≤ 10000 ∧ OM.Anti E ∧
  ∀ H', IsO CO H' a (srt zs) (OM.cl E) → (∀ x o, x ≠ a → H x = some o → H' x = some o) → Q .non H'
def spOIn (CO : Addr) : Sp := fun vs H Q _ => vs.length = 2 ∧ ∃ a N R z, vs = [.ref a, .str z] ∧ IsO CO H a N R ∧ ∀ H', Same H H' → Q (.bl (decide (z ∈ N))) H'
def spOLen (CO : Addr) : Sp := fun vs H Q _ => vs.length = 1 ∧ ∃ a N R, vs = [.ref a] ∧ IsO CO H a N R ∧ ∀ H', Same H H' → Q (.int (N.length : Nat)) H'
def spOIter (CO : Addr) : Sp := fun vs H Q _ => vs.length = 1 ∧ ∃ a dx t d ys, vs = [.ref a] ∧ H a = some (.ins CO dx [("names", .ref t), ("_above", .ref d)]) ∧ H t = some (.tup ys) ∧ ∀ q, H q = none → Q (.ref q) (upd H q (TupIt q t 0))
/-- the other side of ==: another order, or no order -/
def spOEq (K : PySem.W.Frag) (CO : Addr) : Sp := fun vs H Q _ => vs.length = 2 ∧ ∃ a N R y, vs = [.ref a, y] ∧ IsO CO H a N R ∧
  ((∃ b M S, y = .ref b ∧ IsO CO H b M S ∧ ∀ H', Same H H' → Q (.bl (decide (N = M) && N.all fun n => decide (OM.ab N R n = OM.ab M S n))) H') ∨
   (∃ t, TyX K H y t ∧ PySem.W.kitOne K t (.ref CO) = some false ∧ ∀ H', Same H H' → Q (.bl false) H'))
def spOStr (CO : Addr) : Sp := fun vs H Q _ => vs.length = 1 ∧ ∃ a N R, vs = [.ref a] ∧ IsO CO H a N R ∧ ∀ z H', Same H H' → Q (.str z) H'
/-! ### the closure's dict of dicts -/
def trues (l : List Str) : List (Key × V) := l.map fun k => (.inr k, .bl true)
def setF {α : Type} (f : Str → α) (n : Str) (v : α) : Str → α := fun x => if x = n then v else f x
theorem setF_same {α : Type} {f : Str → α} {n : Str} {v : α} : setF f n v n = v := by simp [setF]
theorem setF_ne {α : Type} {f : Str → α} {n m : Str} {v : α} (h : m ≠ n) : setF f n v m = f m := by simp [setF, h]
theorem valV_map_none {α : Type} {g : α → V} {f : α → Str} {k : Str} : ∀ {l : List α}, (∀ x ∈ l, f x ≠ k) → valV (l.map fun x => (Sum.inr (f x), g x)) (Sum.inr k : Key) = none
  | [], _ => rfl
  | x :: l, h => by
    rw [List.map_cons, valV_neg (fun z => h x List.mem_cons_self (Sum.inr.inj z))]
    exact valV_map_none fun y hy => h y (List.mem_cons_of_mem _ hy)
theorem trues_put {l : List Str} {k : Str} : putK (trues l) (.inr k) (.bl true) = trues (if k ∈ l then l else l ++ [k]) := by
  by_cases h : k ∈ l
  · rw [if_pos h]
    have hany : ((trues l).any fun kv => decide (kv.1 = Sum.inr k)) = true := List.any_eq_true.mpr ⟨((.inr k : Key), V.bl true), List.mem_map.mpr ⟨k, h, rfl⟩, by simp⟩
    unfold putK
    rw [if_pos hany]
    unfold trues
    rw [List.map_map]
    refine List.map_congr_left fun x _ => ?_
    show (if _ = _ then _ else _) = _
    split
    · rfl
    · rfl
  · have hno : valV (trues l) (.inr k) = none := valV_map_none (k := k) (f := fun x => x) (g := fun _ => V.bl true) fun x hx (e : x = k) => h (e ▸ hx)
    rw [if_neg h, putK_new _ hno]
    unfold trues
    rw [List.map_append]
    rfl
theorem trues_get {l : List Str} {k : Str} : (valV (trues l) (.inr k)).isSome = decide (k ∈ l) := by
  by_cases h : k ∈ l
  · obtain ⟨v, h1, _⟩ := valV_mem (ls := trues l) (k := .inr k) (by
      unfold trues
      rw [List.map_map]
      exact List.mem_map.mpr ⟨k, h, rfl⟩)
    rw [h1]
    simp [h]
  · unfold trues
    rw [valV_map_none (k := k) (f := fun x => x) (g := fun _ => V.bl true) fun x hx (e : x = k) => h (e ▸ hx)]
    simp [h]
def mk (l m : List Str) : List Str := m.foldl (fun acc k => if k ∈ acc then acc else acc ++ [k]) l
theorem trues_merge : ∀ (m l : List Str), mergeK (trues l) (trues m) = trues (mk l m)
  | [], l => rfl
  | k :: m, l => by
    show mergeK (putK (trues l) (.inr k) (.bl true)) (trues m) = trues (mk (if k ∈ l then l else l ++ [k]) m)
    rw [trues_put, trues_merge m]
theorem mem_mk : ∀ (m l : List Str) (x : Str), x ∈ mk l m ↔ x ∈ l ∨ x ∈ m
  | [], l, x => by simp [mk]
  | k :: m, l, x => by
    show x ∈ mk (if k ∈ l then l else l ++ [k]) m ↔ _
    rw [mem_mk m]
    by_cases h : k ∈ l
    · rw [if_pos h]
      constructor
      · rintro (q | q)
        · exact .inl q
        · exact .inr (List.mem_cons_of_mem _ q)
      · rintro (q | q)
        · exact .inl q
        · rcases List.mem_cons.mp q with rfl | q
          · exact .inl h
          · exact .inr q
    · rw [if_neg h]
      simp [or_assoc]
theorem put_nodup {l : List Str} {k : Str} (h : l.Nodup) : (if k ∈ l then l else l ++ [k]).Nodup := by
  split
  · exact h
  · rename_i hn
    refine List.nodup_append.mpr ⟨h, by simp, fun x hx y hy e => hn ?_⟩
    rw [← List.mem_singleton.mp hy, ← e]
    exact hx
theorem mk_nodup : ∀ (m : List Str) {l : List Str}, l.Nodup → (mk l m).Nodup
  | [], l, h => h
  | k :: m, l, h => mk_nodup m (put_nodup h)
theorem nodup_len {N l : List Str} (h : l.Nodup) (s : ∀ x ∈ l, x ∈ N) : l.length ≤ N.length := h.length_le_of_subset s
theorem rows_put {A : Str → Addr} {n : Str} {p : Addr} {N : List Str} (h : n ∈ N) : putK (rowsOf N A) (.inr n) (.ref p) = rowsOf N (setF A n p) := by
  have hany : ((rowsOf N A).any fun kv => decide (kv.1 = Sum.inr n)) = true := List.any_eq_true.mpr ⟨((.inr n : Key), V.ref (A n)), List.mem_map.mpr ⟨n, h, rfl⟩, by simp⟩
  unfold putK
  rw [if_pos hany]
  unfold rowsOf
  rw [List.map_map]
  refine List.map_congr_left fun x _ => ?_
  show (if (Sum.inr x : Key) = Sum.inr n then ((Sum.inr x : Key), V.ref p) else (Sum.inr x, V.ref (A x))) = _
  by_cases e : x = n
  · subst e
    rw [if_pos rfl, setF_same]
  · rw [if_neg (fun z => e (Sum.inr.inj z)), setF_ne e]
theorem rows_snoc {A : Str → Addr} {n : Str} {p : Addr} {N : List Str} (h : ¬ n ∈ N) : putK (rowsOf N A) (.inr n) (.ref p) = rowsOf (N ++ [n]) (setF A n p) := by
  unfold rowsOf
  rw [putK_new _ (valV_map_none (k := n) (f := fun x => x) (g := fun n => V.ref (A n)) fun x hx (e : x = n) => h (e ▸ hx)), List.map_append]
  congr 1
  · refine List.map_congr_left fun x hx => ?_
    rw [setF_ne fun (e : x = n) => h (e ▸ hx)]
  · show _ = [(_, V.ref (setF A n p n))]
    rw [setF_same]
/-- the dict at d0 has a dict of its own for each name: its keys are ks n -/
structure CSt (H : Hp) (d0 : Addr) (N : List Str) (A : Str → Addr) (ks : Str → List Str) (H1 : Hp) : Prop where
  same : Same H H1
  d0n : H d0 = none
  tab : H1 d0 = some (.dK (rowsOf N A))
  new : ∀ n ∈ N, H (A n) = none
  ne : ∀ n ∈ N, A n ≠ d0
  row : ∀ n ∈ N, H1 (A n) = some (.dK (trues (ks n)))
  nd : ∀ n ∈ N, (ks n).Nodup
  inj : ∀ n ∈ N, ∀ m ∈ N, A n = A m → n = m
/-- a key more in the row of n -/
theorem CSt.put {H H1 H2 : Hp} {d0 : Addr} {N : List Str} {A : Str → Addr} {ks : Str → List Str} {n k : Str} (c : CSt H d0 N A ks H1) (hn : n ∈ N) (e : H2 (A n) = some (.dK (putK (trues (ks n)) (.inr k) (.bl true)))) (ho : ∀ b, b ≠ A n → H2 b = H1 b) :
    CSt H d0 N A (setF ks n (if k ∈ ks n then ks n else ks n ++ [k])) H2 where
  same := fun b o eb => by
    rw [ho b (ne_of_none eb (c.new n hn))]
    exact c.same _ _ eb
  d0n := c.d0n
  tab := by
    rw [ho d0 (Ne.symm (c.ne n hn))]
    exact c.tab
  new := c.new
  ne := c.ne
  row := fun m hm => by
    by_cases em : m = n
    · subst em
      rw [e, trues_put, setF_same]
    · rw [setF_ne em, ho _ (fun z => em (c.inj m hm n hn z))]
      exact c.row m hm
  nd := fun m hm => by
    by_cases em : m = n
    · subst em
      rw [setF_same]
      exact put_nodup (c.nd m hm)
    · rw [setF_ne em]
      exact c.nd m hm
  inj := c.inj
/-- another dict for n -/
theorem CSt.set {H H1 H2 H3 : Hp} {d0 p : Addr} {N l : List Str} {A : Str → Addr} {ks : Str → List Str} {n : Str} (c : CSt H d0 N A ks H1) (hn : n ∈ N) (hp : H1 p = none) (hl : l.Nodup) (s2 : ∀ b, b ≠ p → H2 b = H1 b) (e2 : H2 p = some (.dK (trues l)))
    (e : H3 d0 = some (.dK (putK (rowsOf N A) (.inr n) (.ref p)))) (ho : ∀ b, b ≠ d0 → H3 b = H2 b) : CSt H d0 N (setF A n p) (setF ks n l) H3 := by
  have hpH : H p = none := by
    cases q : H p with
    | none => rfl
    | some o => rw [c.same _ _ q] at hp; cases hp
  have pd : p ≠ d0 := fun z => by rw [z, c.tab] at hp; cases hp
  have pA : ∀ m ∈ N, A m ≠ p := fun m hm z => by rw [← z, c.row m hm] at hp; cases hp
  refine ⟨fun b o eb => ?_, c.d0n, by rw [e, rows_put hn], fun m hm => ?_, fun m hm => ?_, fun m hm => ?_, fun m hm => ?_, fun m hm m' hm' z => ?_⟩
  · rw [ho b (ne_of_none eb c.d0n), s2 b (ne_of_none eb hpH)]
    exact c.same _ _ eb
  · by_cases em : m = n
    · subst em
      rw [setF_same]
      exact hpH
    · rw [setF_ne em]
      exact c.new m hm
  · by_cases em : m = n
    · subst em
      rw [setF_same]
      exact pd
    · rw [setF_ne em]
      exact c.ne m hm
  · by_cases em : m = n
    · subst em
      rw [setF_same, setF_same, ho p pd]
      exact e2
    · rw [setF_ne em, setF_ne em, ho _ (c.ne m hm), s2 _ (pA m hm)]
      exact c.row m hm
  · by_cases em : m = n
    · subst em
      rw [setF_same]
      exact hl
    · rw [setF_ne em]
      exact c.nd m hm
  · by_cases em : m = n <;> by_cases em' : m' = n
    · rw [em, em']
    · subst em
      rw [setF_same, setF_ne em'] at z
      exact absurd z.symm (pA m' hm')
    · subst em'
      rw [setF_same, setF_ne em] at z
      exact absurd z (pA m hm)
    · rw [setF_ne em, setF_ne em'] at z
      exact c.inj m hm m' hm' z
/-- a name more -/
theorem CSt.snoc {H H1 H2 H3 : Hp} {d0 p : Addr} {L : List Str} {A : Str → Addr} {ks : Str → List Str} {n : Str} (c : CSt H d0 L A ks H1) (hn : ¬ n ∈ L) (hp : H1 p = none) (hl : (ks n).Nodup) (s2 : ∀ b, b ≠ p → H2 b = H1 b) (e2 : H2 p = some (.dK (trues (ks n))))
    (e : H3 d0 = some (.dK (putK (rowsOf L A) (.inr n) (.ref p)))) (ho : ∀ b, b ≠ d0 → H3 b = H2 b) : CSt H d0 (L ++ [n]) (setF A n p) ks H3 := by
  have hpH : H p = none := by
    cases q : H p with
    | none => rfl
    | some o => rw [c.same _ _ q] at hp; cases hp
  have pd : p ≠ d0 := fun z => by rw [z, c.tab] at hp; cases hp
  have pA : ∀ m ∈ L, A m ≠ p := fun m hm z => by rw [← z, c.row m hm] at hp; cases hp
  have two : ∀ m, m ∈ L ++ [n] → (m ∈ L ∧ m ≠ n) ∨ m = n := fun m hm => by
    rcases List.mem_append.mp hm with h | h
    · exact .inl ⟨h, fun e => hn (e ▸ h)⟩
    · exact .inr (List.mem_singleton.mp h)
  refine ⟨fun b o eb => ?_, c.d0n, by rw [e, rows_snoc hn], fun m hm => ?_, fun m hm => ?_, fun m hm => ?_, fun m hm => ?_, fun m hm m' hm' z => ?_⟩
  · rw [ho b (ne_of_none eb c.d0n), s2 b (ne_of_none eb hpH)]
    exact c.same _ _ eb
  · rcases two m hm with ⟨h, em⟩ | rfl
    · rw [setF_ne em]
      exact c.new m h
    · rw [setF_same]
      exact hpH
  · rcases two m hm with ⟨h, em⟩ | rfl
    · rw [setF_ne em]
      exact c.ne m h
    · rw [setF_same]
      exact pd
  · rcases two m hm with ⟨h, em⟩ | rfl
    · rw [setF_ne em, ho _ (c.ne m h), s2 _ (pA m h)]
      exact c.row m h
    · rw [setF_same, ho p pd]
      exact e2
  · rcases two m hm with ⟨h, em⟩ | rfl
    · exact c.nd m h
    · exact hl
  · rcases two m hm with ⟨h, em⟩ | rfl <;> rcases two m' hm' with ⟨h', em'⟩ | rfl
    · rw [setF_ne em, setF_ne em'] at z
      exact c.inj m h m' h' z
    · rw [setF_same, setF_ne em] at z
      exact absurd z (pA m h)
    · rw [setF_same, setF_ne em'] at z
      exact absurd z.symm (pA m' h')
    · rfl
theorem CSt.keep {H H1 H2 : Hp} {d0 : Addr} {N : List Str} {A : Str → Addr} {ks : Str → List Str} (c : CSt H d0 N A ks H1) (h : ∀ b, H1 b ≠ none → H2 b = H1 b) : CSt H d0 N A ks H2 where
  same := fun b o e => by
    rw [h b (by rw [c.same _ _ e]; simp)]
    exact c.same _ _ e
  d0n := c.d0n
  tab := by
    rw [h d0 (by rw [c.tab]; simp)]
    exact c.tab
  new := c.new
  ne := c.ne
  row := fun n hn => by
    rw [h _ (by rw [c.row n hn]; simp)]
    exact c.row n hn
  nd := c.nd
  inj := c.inj
theorem mem_put {l : List Str} {k x : Str} : x ∈ (if k ∈ l then l else l ++ [k]) ↔ x ∈ l ∨ x = k := by
  split
  · rename_i h
    exact ⟨.inl, fun q => q.elim (fun q => q) fun e => e ▸ h⟩
  · simp
theorem wm_self {E : List (Str × Str)} {ms : List Str} {m q : Str} : OM.wm E (m :: ms) m q = OM.wm E ms m q := by
  have := OM.wm_refl E ms m
  show (OM.wm E ms m q || (OM.wm E ms m m && OM.wm E ms m q)) = _
  rw [this]
  simp
theorem trues_keys {l : List Str} : (trues l).map (·.1) = l.map Sum.inr := by
  unfold trues
  rw [List.map_map]
  rfl
theorem trues_len {l : List Str} : (trues l).length = l.length := by unfold trues; rw [List.length_map]
theorem rows_len {N : List Str} {A : Str → Addr} : (rowsOf N A).length = N.length := by unfold rowsOf; rw [List.length_map]
end Z

set_option Elab.async false
set_option linter.all false
set_option maxRecDepth 100000
set_option maxHeartbeats 4000000
/-! try with several clauses, each with its name -/
namespace Z
open PySem PySem.Spec PyProof.Rows L2
abbrev CTS := Value × (Addr → Value → Option Addr → TS)
/-- what the clauses wish, one after the other -/
def wAll (K : PySem.W.Frag) (i : Nat) (Wout : WX) (D : Ends) : List CTS → WX
  | [] => Wout
  | (c, ts) :: r => wAs K c i ts (wAll K i Wout D r) D
/-- the clauses' suites are understood -/
inductive Clauses (X : Cx) (n : Str) : List ExceptHandler → List CTS → Prop
  | nil : Clauses X n [] []
  | cons {x : Str} {c : Value} {ts : Addr → Value → Option Addr → TS} {b : Stmt} {bs : List Stmt} {np hp : Pos} {hds : List ExceptHandler} {l : List CTS} (hc : Names X x c)
      (hsu : ∀ (a : Addr) (oe : Obj) (cls : Value) (d : Option Addr) (pn : List (Addr × Obj)), Zc cls d oe → (∃ vs, oe.data = .fields vs) → PSs (X.suite a ((a, oe) :: pn)) (b :: bs) (ts a cls d)) (r : Clauses X n hds l) :
      Clauses X n (.ExceptHandler (some (.Name x np)) (some n) (b :: bs) hp :: hds) ((c, ts) :: l)
section
variable {X : Cx} {n : Str} {i : Nat} {body : List Stmt} {h₀ : ExceptHandler} {hds : List ExceptHandler} {l : List CTS} {pos : Pos} {tb : WX → TS} {Wout : WX}
end
end Z

set_option Elab.async false
set_option linter.all false
set_option maxRecDepth 100000
set_option maxHeartbeats 4000000
/-! a list of texts in an f-string: some bounded text -/
namespace Z
open PySem PySem.Spec PyProof.Rows PySem.Sem
section
variable {prog : Program} {w : World} {A : Around} {E : Value → Shared → Prop} {s : Shared}
theorem dots_len : ("[...]" : Str).length ≤ 5 := by decide +kernel
theorem z_reprHead {M : Model} {Q : Fin → Shared → Prop} {a : Addr} {o : Obj} {x : Value} {l : List Value} {n : Nat} {b : Nat} (hget : s.heap.get? a = some o) (hd : o.data = .seq (x :: l).toArray n)
    (h1 : wpAny M A (do again (.builtin "list.__repr__.loop" ⟨[.ref a, rawInt 0, ← newList [], rawInt b], []⟩)) Q E s) (h2 : wpAny M A (do rule "list.__repr__.in-itself"; retStr "[...]") Q E s) : wpAny M A (Builtin.listReprAt b ⟨[.ref a], []⟩) Q E s := by
  intro Γ p hΓ
  have k1 := h1 Γ p hΓ
  have k2 := h2 Γ p hΓ
  unfold Builtin.listReprAt
  simp [slotArgs, Builtin.List.listItems, seqItems?, wp_load_of (h := hget), hd, PySem.stack]
  show wp M Γ (if (Γ.below.any _) = true then _ else _) _ _ p s
  split
  · exact k2
  · exact k1
theorem z_item {prog : Program} {w : World} : ∀ {l : List Value} {ts : List Str}, ReprAll prog w l ts → ∀ (i : Nat) (y : Value), l[i]? = some y → ∃ t, ts[i]? = some t ∧ ReprIs prog w y t
  | _, _, .nil, i, y, h => by simp at h
  | _, _, .cons h1 h2, 0, y, h => by
    have e := Option.some.inj h
    subst e
    exact ⟨_, rfl, h1⟩
  | _, _, .cons h1 h2, i + 1, y, h => z_item h2 i y h
theorem z_listRepr {a : Addr} {o : Obj} {x : Value} {l : List Value} {n : Nat} {ts : List Str} {Q : Value → Shared → Prop} (hT : s.TypeIs (.ref a) "list") (ha : s.heap.get? a = some o) (hd : o.data = .seq (x :: l).toArray n) (hA : ReprAll prog w (x :: l) ts) (hz : (listText ts).length ≤ sizeLine)
    (h : ∀ (m : Str) (u tk : Tok) (h' : Heap), (∀ b o, s.heap.get? b = some o → h'.get? b = some o) → m.length ≤ (listText ts).length + 5 → Q (.str m u) { s with heap := h', toks := tk }) : wpAny (model prog w) A (call (.builtin "list.__repr__") [.ref a]) Q E s := by
  refine wpAny_call (codeAny_call_builtin F.slot_list_repr.plain F.entry_list_repr (F.slot_list_repr.check _ _ _ _ _ _ _ _ hT (F.args_list_repr_1 _) ?_))
  refine z_reprHead (b := 0) ha hd ?_ ?_
  · refine wpAny_bind (m := newList []) (wpAny_newObj_type ?_)
    refine wpAny_pure ⟨F.quiet_list_repr_loop _, ?_⟩
    refine codeAny_list_repr_start (P := s.heap.objs.size) (ts := ts) (Nat.ne_of_lt (Heap.lt_size ha)) (by rw [hA.length_eq]; rfl) (fun i y hy => ?_) (Heap.get?_push_of_some _ ha) hd (Heap.get?_push_size _ rfl) (fun h' u tk hk => ?_) (by omega)
    · exact z_item hA i y (by simpa using hy)
    · exact h _ u tk h' (fun b o e => hk b o (Nat.ne_of_lt (Heap.lt_size e)) (Heap.get?_push_of_some _ e)) (Nat.le_add_right _ _)
  · refine wpAny_bind (wpAny_rule ?_)
    refine wpAny_bind (wpAny_mkStr (wpAny_pure ?_) (by decide +kernel))
    exact h "[...]" _ _ s.heap (fun _ _ e => e) (Nat.le_trans dots_len (Nat.le_add_left _ _))
theorem z_listFmt {a : Addr} {o : Obj} {x : Value} {l : List Value} {n : Nat} {ts : List Str} {Q : Value → Shared → Prop} (hu : A.units + 2 < cLine) (hT : s.TypeIs (.ref a) "list") (ha : s.heap.get? a = some o) (hd : o.data = .seq (x :: l).toArray n) (hA : ReprAll prog w (x :: l) ts) (hz : (listText ts).length ≤ sizeLine)
    (h : ∀ (m : Str) (u tk : Tok) (h' : Heap), (∀ b o, s.heap.get? b = some o → h'.get? b = some o) → m.length ≤ (listText ts).length + 5 → Q (.str m u) { s with heap := h', toks := tk }) : wpAny (model prog w) A (formatField (.ref a) Str.empty) Q E s :=
  wpAny_formatField_slot (fun _ _ => nofun) hu hT F.slot_list_format F.slot_list_str F.slot_list_repr.toG
    (z_listRepr (s := { s with toks := s.toks + 1 }) hT ha hd hA hz fun m u tk h' k hm => ⟨m, u, rfl, h m u tk h' k hm⟩)
end
theorem from_len : ∀ (ts : List Str) (k : Nat) (acc : Str), (textFrom k acc ts).length ≤ acc.length + piled ts
  | [], _, acc => by rw [piled_nil]; exact Nat.le_add_right _ _
  | t :: ts, k, acc => by
    have ih := from_len ts (k + 1) (acc ++ (if k > 0 then ", " else "" : String) ++ t)
    have e : (acc ++ (if k > 0 then ", " else "" : String) ++ t).length ≤ acc.length + 2 + t.length := by
      rw [strLen_append, strLen_append]
      have : ((if k > 0 then ", " else "" : String) : Str).length ≤ 2 := by split <;> decide +kernel
      omega
    rw [piled_cons]
    show (textFrom (k + 1) _ ts).length ≤ _
    omega
theorem listText_le (ts : List Str) : (listText ts).length ≤ piled ts + 2 := by
  have := from_len ts 0 "["
  have e1 : (("[" : String) : Str).length = 1 := rfl
  have e2 : (("]" : String) : Str).length = 1 := rfl
  unfold listText
  rw [strLen_append]
  omega
end Z
namespace Z
open PySem PySem.Spec PyProof.Rows L2
section
variable {X : Cx}
/-- {l}, l a list of texts, not empty: some text, no longer than ten times its signs and a little -/
def tFmtL (K : PySem.W.Frag) (te : TE) : TE := fun σ H Q => te σ H fun x H1 => ∃ (a : Addr) (y : Str) (l : List Str), x = .ref a ∧ SqL K H1 a ((y :: l).map V.str) ∧ (∀ z ∈ y :: l, ∀ c ∈ z.cps.toList, c < 16 ^ 8) ∧ fmtCost (y :: l) + 7 ≤ sizeLine ∧ ∀ m : Str, m.length ≤ fmtCost (y :: l) + 7 → Q (.str m) H1
theorem pe_fmtL {e : Expr} {te : TE} {pos : Pos} {k : Nat} (hr : Room k X.A) (he : PE X e te) : PE X (.FormattedValue e (-1) none pos) (tFmtL X.K te) := by
  refine ⟨fun pins s σ H Q I h => ?_⟩
  refine wpAny_FormattedValue_plain (thn (he.run pins s σ H _ I h) fun v s1 hv => ?_)
  obtain ⟨x, H1, I1, r1, a, y, l, rfl, ht, hc, hz, q⟩ := hv
  cases r1
  obtain ⟨its, rv, pl, _⟩ := I1.list ht
  obtain ⟨o, ho, hcl, n, hd⟩ := pl.isList
  have hp := fmt_piled (y :: l) hc
  have htx := listText_le ((y :: l).map reprText)
  have hu := hr.units
  cases rv with
  | @cons _ u _ us r1 r2 =>
    refine z_listFmt (ts := (y :: l).map reprText) (by omega) ⟨o, ho, hcl⟩ ho hd (repr_all (.cons r1 r2) fun z hz => ?_) (by omega) fun m u tk h' k hm => ⟨.str m, H1, I1.kept k, ⟨u, rfl⟩, q m (by omega)⟩
    have h1 := StrLaws.reprText_len z (hc z hz)
    have h2 := fmtCost_mem hz
    omega
end
end Z

set_option Elab.async false
set_option linter.all false
set_option maxRecDepth 100000
set_option maxHeartbeats 400000
/-! an exception that has a field already: its field read, its base's __init__ -/
namespace Z
open PySem PySem.Spec PyProof.Rows L2 PySem.OEX
section
variable {prog : Program} {w : World} {A : Around} {R : Result → Shared → Prop} {g : Array GenState} {d : Drawn} {t : Nat} {os : OsState} {h : Heap} {B newId initId : String} {bmB : List Value}
variable {C : Addr}
theorem z_initD (F : ExcBaseFacts B newId initId bmB) {e t0 : Addr} {od : Option Addr} {rest : List Value}
    (hk : ∀ {Q : Unit → Shared → Prop} {E : Value → Shared → Prop} {M : Model} {A' : Around}, Q () ⟨h, g, d, t, os⟩ → wpAny M A' (checkBuiltinCall initId ⟨.ref e :: rest, []⟩) Q E ⟨h, g, d, t, os⟩)
    (he : h.get? e = some ({ cls := .ref C, dict := od, data := .fields #[.ref t0, .none, .none, .none, .bool false, .none] } : Obj)) (hrest : rest.length ≤ sizeLine)
    (hq : ∀ h' t1, (∀ b o, b ≠ e → h.get? b = some o → h'.get? b = some o) → h'.get? e = some ({ cls := .ref C, dict := od, data := .fields #[.ref t1, .none, .none, .none, .bool false, .none] } : Obj) → R (.ok (.ret .none)) ⟨h', g, d, t, os⟩) :
    codeAny (model prog w) A (.call (.builtin initId) ⟨.ref e :: rest, []⟩) R ⟨h, g, d, t, os⟩ := by
  refine codeAny_call_builtin F.init.plain F.initEntry (hk ?_)
  wp_walk
  refine hq _ h.objs.size (fun b o hb ho => ?_) ?_
  · rw [Heap.get?_update_other _ _ (Ne.symm hb)]
    exact Heap.get?_push_of_some _ ho
  · rw [Heap.get?_update_self _ (Heap.get?_push_of_some _ he) rfl]
    rfl
end
end Z
namespace Z
open PySem PySem.Spec PyProof.Rows L2 PySem.OEX
section
variable {X : Cx} {pins : List (Addr × Obj)} {σ : L2.St} {H : Hp} {s : Shared} {a C : Addr} {dx : Option Addr} {E : Value → Shared → Prop}
theorem z_oinitD {us : List Value} {Q : Value → Shared → Prop} (T : OexC X.K C) (I : Inv X pins σ H s) (e : H a = some (exo a C dx)) (hl : us.length ≤ sizeLine) (h : ∀ s', Inv X pins σ H s' → Q .none s') :
    wpAny (model X.prog X.w) X.A (call (.builtin "ValueError.__init__") (.ref a :: us)) Q E s := by
  obtain ⟨nm, q, N, bs, bm, sn, sub, ab, col, dd, k0, k1, k2, k3, k5, hC, hbm⟩ := T.cls
  obtain ⟨t1, ho⟩ := exo_at I.hok e
  obtain ⟨hp, g, d, t, os⟩ := s
  refine wpAny_call (z_initD PySem.F.excBase_ValueError (fun {Q E M A'} hq => PySem.HandSPX.check_init_own PySem.F.excBase_ValueError (fun Y => PySem.HandSPX.refsVE_contains Y bm hbm) (I.kIn _ _ hC) ho rfl hq) ho hl fun h' t2 k hx => ?_)
  have J := I.write (t' := t) (x := a) (e := a) (o := exo a C dx) (by rw [e]; exact True.intro) (.inl rfl) k ⟨_, hx⟩ (exo_ok hx)
  have eu : upd H a (exo a C dx) = H := by
    funext b
    by_cases hb : b = a
    · rw [hb, upd_same, e]
    · rw [upd_ne hb]
  rw [eu] at J
  exact h _ J
end
/-- ThrowError.__init__(self, ..) behind a field that is set -/
def tVeD (K : PySem.W.Frag) (ta : TA) : TE := fun σ H Q => ta σ H fun vs H1 => ∃ (a C : Addr) (ws : List V) (d : Option Addr), vs = .ref a :: ws ∧ ws.length ≤ 1000 ∧ OexC K C ∧ H1 a = some (exo a C d) ∧ Q .non H1
/-- self.f of an exception in its own __init__ -/
def tXat (K : PySem.W.Frag) (f : Str) (te : TE) : TE := fun σ H Q => te σ H fun x H1 => ∃ (a C dd : Addr) (fs : List (Str × V)) (v : V), x = .ref a ∧ XfC K C ∧ PySem.W.findIn K (.ref C) f = some none ∧ H1 a = some (exo a C (some dd)) ∧ H1 dd = some (exd dd fs) ∧ fs.lookup f = some v ∧ Q v H1
section
variable {X : Cx} {x : Str} {e : Expr} {es : List Expr} {t : TA} {te : TE} {pos : Pos}
theorem z_tinitD {p1 p2 : Pos} {pl : Sem Bool} (hg : Gl X x) (c : CalT X.K X.mg x) (ha : PA X (e :: es) t)
    (hc : eval (.Call (.Attribute (.Name x p1) "__init__" p2) (e :: es) [] pos) X.env = (do
      let ov ← eval (.Name x p1) X.env
      standAt p2.atName
      let (f, first) ← holding [ov] (getMethod ov "__init__" pl)
      callWith pos f first (backTo pos (starEach (e :: es) X.env)) (backToKw pos (keywordEach [] X.env))) := by rfl)
    (hdb : (x == ("__debug__" : Str)) = false := by decide) (he : starEach (e :: es) X.env = (false, eval e X.env) :: starEach es X.env := by rfl)
    (hpl : (backTo pos (starEach es X.env)).any (·.1) = false := by rfl) :
    PE X (.Call (.Attribute (.Name x p1) "__init__" p2) (e :: es) [] pos) (tVeD X.K t) := by
  obtain ⟨T, mc, hm, r, vV⟩ := c
  constructor
  intro pins s σ H Q I h
  refine PySem.W.methodCall_KW (ld_glob I hg hm ?_ hdb) hc
  apply PySem.W.method_cls I.kIn r.ga
  apply PySem.W.cls_value I.kIn r.rd vV (by decide +kernel)
  show wpAny _ _ (callWith pos (Value.builtin "ValueError.__init__") [] (backTo pos (starEach (e :: es) X.env)) []) _ _ _
  refine PyProof.Rows.callWith_method1 (thn (ha.run pos pins _ σ H _ (I.tok _) h) fun us s1 hh => ?_) he hpl
  obtain ⟨vs, H1, I1, r1, a, C, ws, d, ev, hl, T', ea, q⟩ := hh
  subst ev
  cases r1 with
  | @cons _ u0 _ ur ra rw' =>
    obtain rfl : u0 = Value.ref a := ra
    have hlen : ur.length ≤ sizeLine := by
      rw [← Paired.length rw', sizeLine_eq]
      omega
    exact z_oinitD T' I1 ea hlen fun s' J => ⟨.non, H1, J, rfl, q⟩
theorem pe_xat {n : Str} (he : PE X e te) (hb : attributeBase e n X.env (eval e X.env) = eval e X.env := by rfl) : PE X (.Attribute e n pos) (tXat X.K n te) := by
  refine ⟨fun pins s σ H Q I h => ?_⟩
  refine attr_of hb (thn (he.run pins s σ H _ I h) fun u s1 hh => ?_)
  obtain ⟨x, H1, I1, rx, a, C, dd, fs, v, ex, T, hno, ea, ed, l, q⟩ := hh
  subst ex
  obtain rfl : u = Value.ref a := rx
  obtain ⟨t1, ho⟩ := exo_at I1.hok ea
  obtain ⟨mA, hns, hr⟩ := exd_at I1.hok ed
  obtain ⟨od, ho2, hl⟩ := lookIn_ns hns
  obtain ⟨u, hu, ru⟩ := RelO.some_of (v := v) (o := mA n) (by rw [← l]; exact hr n)
  have J : PySem.W.InstAt s1.heap a _ C (some od) := ⟨ho, rfl, rfl, ho2⟩
  exact HandSPX.exc_get I1.kIn J T.ga T.gg T.exC (PySem.W.findObj_own T.hdC hno rfl (by rw [hl, hu])) (handed_of ru) ⟨v, H1, I1.tok _, ru, q⟩
end
/-! readings -/
section
variable {K : PySem.W.Frag} {σ : L2.St} {H : Hp} {Q : VK} {te : TE} {tr : TA}
def rVeD (K : PySem.W.Frag) (vs : List V) (H1 : Hp) (Q : VK) : Prop := ∃ (a C : Addr) (ws : List V) (d : Option Addr), vs = .ref a :: ws ∧ ws.length ≤ 1000 ∧ OexC K C ∧ H1 a = some (exo a C d) ∧ Q .non H1
theorem i_tvd (h : tr σ H (fun vs H1 => rVeD K vs H1 Q)) : tVeD K tr σ H Q := h
theorem i_tvd1 {a C : Addr} {ws : List V} {d : Option Addr} (T : OexC K C) (e : H a = some (exo a C d)) (l : ws.length ≤ 1000) (h : Q .non H) : rVeD K (.ref a :: ws) H Q := ⟨a, C, ws, d, rfl, l, T, e, h⟩
def rXat (K : PySem.W.Frag) (f : Str) (x : V) (H1 : Hp) (Q : VK) : Prop := ∃ (a C dd : Addr) (fs : List (Str × V)) (v : V), x = .ref a ∧ XfC K C ∧ PySem.W.findIn K (.ref C) f = some none ∧ H1 a = some (exo a C (some dd)) ∧ H1 dd = some (exd dd fs) ∧ fs.lookup f = some v ∧ Q v H1
theorem i_xat {f : Str} (h : te σ H (fun x H1 => rXat K f x H1 Q)) : tXat K f te σ H Q := h
theorem i_xat1 {f : Str} {a C dd : Addr} {v : V} (T : XfC K C) (n : PySem.W.findIn K (.ref C) f = some none) (e : H a = some (exo a C (some dd))) (ed : H dd = some (exd dd [(f, v)])) (h : Q v H) : rXat K f (.ref a) H Q := ⟨a, C, dd, _, v, rfl, T, n, e, ed, by simp [List.lookup], h⟩
def rFmtL (K : PySem.W.Frag) (x : V) (H1 : Hp) (Q : VK) : Prop := ∃ (a : Addr) (y : Str) (l : List Str), x = .ref a ∧ SqL K H1 a ((y :: l).map V.str) ∧ (∀ z ∈ y :: l, ∀ c ∈ z.cps.toList, c < 16 ^ 8) ∧ fmtCost (y :: l) + 7 ≤ sizeLine ∧ ∀ m : Str, m.length ≤ fmtCost (y :: l) + 7 → Q (.str m) H1
theorem i_fmtL (h : te σ H (fun x H1 => rFmtL K x H1 Q)) : tFmtL K te σ H Q := h
end
end Z

set_option Elab.async false
set_option linter.all false
set_option maxRecDepth 100000
set_option maxHeartbeats 400000
/-! comprehensions over ranges, read -/
namespace Z
open PySem PySem.Spec PyProof.Rows L2
section
variable {K : PySem.W.Frag} {σ : L2.St} {H : Hp} {g g1 : TG} {tt tt1 : TT} {te tl1 : TE} {tr : TA} {Q : VK}
def rLcR2 (g : TG) (tt : TT) (te : TE) (vs : List Nat) (σ : L2.St) (Q : VK) (ws : List V) (H1 : Hp) : Prop := ∃ i j : Int, ws = [.int i, .int j] ∧ (-(2 ^ 62) ≤ i ∧ i < 2 ^ 62 ∧ -(2 ^ 62) ≤ j ∧ j < 2 ^ 62) ∧ ∀ D, H1 D = none → ∃ W : Nat → Nat → Hp → Prop, (∃ m, W 0 m (upd H1 D (.lst []))) ∧ ∀ k m H, W k m H →
  ((Itr i (j - i).toNat).stop k H ∧ Q (.ref D) H) ∨ ((Itr i (j - i).toNat).go k H ∧ ∃ Nx : Hp → Prop, (∀ H', Nx H' → ∃ m', m' < m ∧ W (k + 1) m' H') ∧ ∀ x H', (Itr i (j - i).toNat).yld k H x H' → g x (wipe σ vs) H' fun σ2 H2 => wipe σ2 vs = wipe σ vs ∧ tt σ2 H2 fun b H3 =>
    if b = true then te σ2 H3 fun y H4 => ∃ acc, H4 D = some (.lst acc) ∧ acc.length < sizeLine ∧ Nx (upd H4 D (.lst (acc ++ [y]))) else Nx H3)
/-- two fors, the outer one over a range -/
def rLc2R (K : PySem.W.Frag) (g : TG) (tt : TT) (tl1 : TE) (g1 : TG) (tt1 : TT) (te : TE) (vs vs1 : List Nat) (σ : L2.St) (Q : VK) (ws : List V) (H1 : Hp) : Prop := ∃ j : Int, ws = [.int j] ∧ -(2 ^ 62) ≤ j ∧ j < 2 ^ 62 ∧ ∀ D, H1 D = none → ∃ W : Nat → Nat → Hp → Prop, (∃ m, W 0 m (upd H1 D (.lst []))) ∧ ∀ i m H, W i m H →
  ((Itr 0 j.toNat).stop i H ∧ Q (.ref D) H) ∨ ((Itr 0 j.toNat).go i H ∧ ∃ Nx : Hp → Prop, (∀ H', Nx H' → ∃ m', m' < m ∧ W (i + 1) m' H') ∧ ∀ x H', (Itr 0 j.toNat).yld i H x H' → g x (wipe σ vs) H' fun σ2 H2 => wipe σ2 vs = wipe σ vs ∧ tt σ2 H2 fun b H3 =>
    if b = true then tl1 σ2 H3 fun x1 H4 => rLcIn K D Nx g1 tt1 te vs1 σ2 x1 H4 else Nx H3)
end
end Z

set_option Elab.async false
set_option linter.all false
set_option maxRecDepth 100000
set_option maxHeartbeats 4000000
/-! the truth of an own object; x[::-1] of a list or a tuple; xs != ys of lists of lists; a list's last item -/
namespace Z
open PySem PySem.Spec PyProof.Rows L2
section
variable {X : Cx} {k j : Nat} {f C : Addr} {sp : Sp}
/-- the truth of an instance with its own __bool__ -/
def rTruO (C : Addr) (sp : Sp) : V → Hp → (Bool → Hp → Prop) → Prop := fun x H Q => ∃ a dx fs, x = .ref a ∧ H a = some (.ins C dx fs) ∧
  sp [.ref a] H (fun v H' => ∃ r, v = .bl r ∧ Q r H') (fun _ _ _ => False)
def tTruO (C : Addr) (sp : Sp) (ta : TE) : TT := fun σ H Q => ta σ H fun x H' => rTruO C sp x H' Q
end
section
variable {prog : Program} {w : World} {A : Around} {E : Value → Shared → Prop} {s : Shared}
end
section
variable {X : Cx}
/-- x[::-1], x a list or a tuple -/
def tRevA (K : PySem.W.Frag) (te : TE) : TE := fun σ H Q => te σ H fun x H1 => ∃ a xs, x = .ref a ∧ ((SqL K H1 a xs ∧ ∀ p, H1 p = none → Q (.ref p) (upd H1 p (.lst xs.reverse))) ∨ (SqT K H1 a xs ∧ ∀ p, H1 p = none → Q (.ref p) (upd H1 p (.tup xs.reverse))))
/-- xs != ys, lists of lists of the very same objects -/
def rNeLL : R2 := fun x y H Q => ∃ a b ls ms, x = .ref a ∧ y = .ref b ∧ H a = some (.lst ls) ∧ H b = some (.lst ms) ∧ ls.length = ms.length ∧
  (∀ (i : Nat) (u v : V), ls[i]? = some u → ms[i]? = some v → ∃ p q xs, u = .ref p ∧ v = .ref q ∧ p ≠ q ∧ H p = some (.lst xs) ∧ H q = some (.lst xs) ∧ ∀ z ∈ xs, ∃ r, z = .ref r) ∧ Q (.bl false) H
end
/-! ### read -/
section
variable {K : PySem.W.Frag} {σ : L2.St} {H : Hp} {te : TE} {Q : VK} {a : Addr} {xs : List V} {n : Nat}
def rRevA (K : PySem.W.Frag) (x : V) (H1 : Hp) (Q : VK) : Prop := ∃ a xs, x = .ref a ∧ ((SqL K H1 a xs ∧ ∀ p, H1 p = none → Q (.ref p) (upd H1 p (.lst xs.reverse))) ∨ (SqT K H1 a xs ∧ ∀ p, H1 p = none → Q (.ref p) (upd H1 p (.tup xs.reverse))))
end
end Z

set_option Elab.async false
set_option linter.all false
set_option maxRecDepth 100000
set_option maxHeartbeats 4000000
/-! a def called within an except suite, whatever is handled there -/
namespace Z
open PySem PySem.Spec PyProof.Rows L2 L2H
structure FnL (P : Program) (w : World) (K : PySem.W.Frag) (mg : Str → Option Value) (base : Heap) (k : Nat) (f : Addr) (fd : FuncData) (ps : List Str) (sp : Sp) : Prop where
  len : ∀ vs H Q E, sp vs H Q E → vs.length = ps.length
  run : ∀ (A : Around) (outer : List Env) (s : Shared) (H : Hp) (args : Args) (us : List Value) (vs : List V) (Q : VK) (E : XK) (p : Addr × Obj), RoomH k A → PinOk outer H s p → Env0 P w K mg base A outer s H → BindsTo s fd args (ps.zip us) → Vals vs us → sp vs H Q E → codeAny (model P w) A (.call (.ref f) args) (CR (L2.CX P w) outer P w H s Q E) s
/-- such a def by its name -/
def CalL (P : Program) (w : World) (K : PySem.W.Frag) (mg : Str → Option Value) (base : Heap) (x : Str) (k : Nat) (sp : Sp) : Prop := ∃ f fd ps, mg x = some (.ref f) ∧ PySem.W.keepIn K (.ref f) = true ∧ Binds K fd ps [] ∧ FnL P w K mg base k f fd ps sp
theorem kit_b {K : PySem.W.Frag} {C : Addr} {T : String} {b : Bool} (h : PySem.W.kitMeta T = true) (e : PySem.W.subIn K (.ref C) (.type T) = some b) : PySem.W.kitOne K (.ref C) (.type T) = some b := by
  unfold PySem.W.kitOne
  rw [if_neg (by simp)]
  unfold PySem.W.kitCls
  show (if PySem.W.kitMeta T = true then PySem.W.subIn K (.ref C) (.type T) else none) = some b
  rw [if_pos h, e]
end Z

set_option Elab.async false
set_option linter.all false
set_option maxRecDepth 100000
set_option maxHeartbeats 4000000
/-! errors that are made and not raised; isinstance of them; {x!s} of own things -/
namespace Z
open PySem PySem.Spec PyProof.Rows L2
section
variable {X : Cx} {C : Addr} {k j : Nat} {sp : Sp} {x : Str} {e : Expr} {es : List Expr} {t : TA} {te : TE} {p pos : Pos}
/-- C(e, ..), C an error class: the new object -/
def tMkV (C : Addr) (sp : Sp) (ta : TA) : TE := fun σ H Q => ta σ H fun vs H1 => vs.length ≤ 1000 ∧ ∀ a, H1 a = none → sp (.ref a :: (vs ++ [])) (upd H1 a (exo a C none)) (fun v H2 => v = .non ∧ Q (.ref a) H2) (fun _ _ _ => False)
/-- isinstance(e, c), e an error that stands -/
def rIsX (K : PySem.W.Frag) : List V → Hp → VK → Prop := fun xs H Q => ∃ (a D : Addr) (d : Option Addr) (c : V) (u : Value) (b : Bool), xs = [.ref a, c] ∧ ClsV c u ∧ ExcC K D ∧ H a = some (exo a D d) ∧ (∀ dd, d = some dd → ∃ fs, H dd = some (exd dd fs)) ∧ PySem.W.kitOne K (.ref D) u = some b ∧ Q (.bl b) H
/-- {x!s}, x an instance with its own __str__ -/
def tFmtSO (C : Addr) (sp : Sp) (te : TE) : TE := fun σ H Q => te σ H fun x H1 => ∃ a dx fs, x = .ref a ∧ H1 a = some (.ins C dx fs) ∧ sp [.ref a] H1 (fun v H' => ∃ z, v = .str z ∧ z.length ≤ 100000 ∧ Q (.str z) H') (fun _ _ _ => False)
/-- [x] * k -/
def rMulLI : R2 := fun x y H Q => ∃ (a : Addr) (v : V) (k : Nat), x = .ref a ∧ y = .int k ∧ H a = some (.lst [v]) ∧ k ≤ 1000 ∧ ∀ p, H p = none → Q (.ref p) (upd H p (.lst (List.replicate k v)))
end
/-! ### a def with a star parameter, as a classmethod -/
section
variable {P : Program} {w : World} {K : PySem.W.Frag} {mg : Str → Option Value} {base : Heap}
/-- what a call of def f(a, *v) asks: sp of the new tuple -/
def spStar (n : Nat) (sp : Sp) : Sp := fun vs H Q E => ∃ ws rest, vs = ws ++ rest ∧ ws.length = n ∧ rest.length ≤ sizeLine ∧ ∀ p, H p = Option.none → sp (ws ++ [V.ref p]) (upd H p (.tup rest)) Q E
end
end Z

set_option Elab.async false
set_option linter.all false
set_option maxRecDepth 100000
set_option maxHeartbeats 1000000
/-! list(zip(xs, ys)), xs and ys tuples: the pairs that are kept -/
namespace Z
open PySem RZ
section
variable {prog : Program} {w : World} {A : Around} {E : Value → Shared → Prop} {s : Shared}
abbrev IsZipF (h : Heap) (z TI TO : Addr) (f0 : Value) (b : Bool) : Prop :=
  h.get? z = some { cls := .type "zip", dict := none, data := .fields #[f0, .bool b, .bool false, .ref TI, .ref TO], slots := #[] }
/-- a zip of two tuples amid its walk, its pairs kept by others -/
def ZSt (h : Heap) (z TI TO i1 i2 l1 l2 S : Addr) (xs ys : Array Value) (i : Nat) : Prop :=
  IsPair h TI (.ref i1) (.ref i2) ∧ h.IsTupleIter i1 l1 i ∧ h.IsTupleIter i2 l2 i ∧ h.IsTuple l1 xs ∧ h.IsTuple l2 ys ∧
    ((IsZip h z TI TO .none ∧ ∃ a b, IsPair h TO a b) ∨ ∃ (T : Nat) (b : Bool) (oT : Obj), IsZipF h z TI TO (rawInt T) b ∧ h.get? T = some oT ∧ S < T)
theorem ZSt.keep {h h' : Heap} {z TI TO i1 i2 l1 l2 S : Addr} {xs ys : Array Value} {i : Nat} (x : ZSt h z TI TO i1 i2 l1 l2 S xs ys i) (hk : ∀ b o, b ≠ S → h.get? b = some o → h'.get? b = some o) (lo : ∀ c ∈ [z, TI, TO, i1, i2, l1, l2], c < S) : ZSt h' z TI TO i1 i2 l1 l2 S xs ys i := by
  have ne : ∀ c ∈ [z, TI, TO, i1, i2, l1, l2], c ≠ S := fun c hc => Nat.ne_of_lt (lo c hc)
  obtain ⟨hTI, h1, h2, hl1, hl2, hz⟩ := x
  refine ⟨hk _ _ (ne TI (by simp)) hTI, h1.at fun o e => hk _ o (ne i1 (by simp)) e, h2.at fun o e => hk _ o (ne i2 (by simp)) e, hl1.at fun o e => hk _ o (ne l1 (by simp)) e, hl2.at fun o e => hk _ o (ne l2 (by simp)) e, ?_⟩
  rcases hz with ⟨hz, a, b, hTO⟩ | ⟨T, b, oT, hz, hT, hS⟩
  · exact .inl ⟨hk _ _ (ne z (by simp)) hz, a, b, hk _ _ (ne TO (by simp)) hTO⟩
  · exact .inr ⟨T, b, oT, hk _ _ (ne z (by simp)) hz, hk _ _ (Nat.ne_of_gt hS) hT, hS⟩
structure ZG (xs ys : Array Value) (lo : Addr) (h : Heap) (as : List Addr) : Prop where
  rise : as.Pairwise (· < ·)
  above : ∀ a ∈ as, lo < a
  pairs : ∀ (j : Nat) (a : Addr), as[j]? = some a → ∃ x y, xs[j]? = some x ∧ ys[j]? = some y ∧ IsPair h a x y
variable {z TI TO i1 i2 l1 l2 S : Addr} {xs ys : Array Value} {R : Result → Shared → Prop}
end
end Z

set_option Elab.async false
set_option linter.all false
set_option maxRecDepth 100000
set_option maxHeartbeats 1000000
namespace Z
open PySem PySem.Spec PyProof.Rows L2 RZ
def hpZip (H : Hp) (q : Addr) (ps : List Addr) (ls : List (List V)) : Hp := fun b => if b = q then some (.lst (ps.map V.ref)) else match (ps.zip ls).lookup b with | some l => some (.tup l) | none => H b
/-- list(zip(x, y)), tuples -/
def tLZip (K : PySem.W.Frag) (ta : TA) : TE := fun σ H Q => ta σ H fun vs H1 => ∃ a b xs ys, vs = [.ref a, .ref b] ∧ SqT K H1 a xs ∧ SqT K H1 b ys ∧ ∀ (q : Addr) (ps : List Addr) (H2 : Hp), H1 q = none → (∀ c o, H1 c = some o → H2 c = some o) → H2 q = some (.lst (ps.map V.ref)) → ps.length = min xs.length ys.length →
  (∀ (i : Nat) (p : Addr), ps[i]? = some p → ∃ x y, xs[i]? = some x ∧ ys[i]? = some y ∧ H2 p = some (.tup [x, y])) → Q (.ref q) H2
section
variable {X : Cx} {e e2 : Expr} {ta : TA} {p1 p2 pos pos2 : Pos}
end
end Z
namespace Z
open PySem L2
section
variable {K : PySem.W.Frag} {σ : L2.St} {H : Hp} {Q : VK} {ta : TA} {te : TE}
/-! ### read -/
def rLZip (K : PySem.W.Frag) (vs : List V) (H1 : Hp) (Q : VK) : Prop := ∃ a b xs ys, vs = [.ref a, .ref b] ∧ SqT K H1 a xs ∧ SqT K H1 b ys ∧ ∀ (q : Addr) (ps : List Addr) (H2 : Hp), H1 q = none → (∀ c o, H1 c = some o → H2 c = some o) → H2 q = some (.lst (ps.map V.ref)) → ps.length = min xs.length ys.length →
  (∀ (i : Nat) (p : Addr), ps[i]? = some p → ∃ x y, xs[i]? = some x ∧ ys[i]? = some y ∧ H2 p = some (.tup [x, y])) → Q (.ref q) H2
def rMkV (C : Addr) (sp : Sp) (vs : List V) (H1 : Hp) (Q : VK) : Prop := vs.length ≤ 1000 ∧ ∀ a, H1 a = none → sp (.ref a :: (vs ++ [])) (upd H1 a (exo a C none)) (fun v H2 => v = .non ∧ Q (.ref a) H2) (fun _ _ _ => False)
def rFmtSO (C : Addr) (sp : Sp) (x : V) (H1 : Hp) (Q : VK) : Prop := ∃ a dx fs, x = .ref a ∧ H1 a = some (.ins C dx fs) ∧ sp [.ref a] H1 (fun v H' => ∃ z, v = .str z ∧ z.length ≤ 100000 ∧ Q (.str z) H') (fun _ _ _ => False)
end
end Z
namespace Z
open PySem PySem.Spec PyProof.Rows L2
section
variable {K : PySem.W.Frag} {σ : L2.St} {H : Hp} {g : TG} {tt : TT} {te : TE} {tr : TA} {Q : VK}
def rLcR1 (g : TG) (tt : TT) (te : TE) (vs : List Nat) (σ : L2.St) (Q : VK) (ws : List V) (H1 : Hp) : Prop := ∃ j : Int, ws = [.int j] ∧ -(2 ^ 62) ≤ j ∧ j < 2 ^ 62 ∧ ∀ D, H1 D = none → ∃ W : Nat → Nat → Hp → Prop, (∃ m, W 0 m (upd H1 D (.lst []))) ∧ ∀ k m H, W k m H →
  ((Itr 0 j.toNat).stop k H ∧ Q (.ref D) H) ∨ ((Itr 0 j.toNat).go k H ∧ ∃ Nx : Hp → Prop, (∀ H', Nx H' → ∃ m', m' < m ∧ W (k + 1) m' H') ∧ ∀ x H', (Itr 0 j.toNat).yld k H x H' → g x (wipe σ vs) H' fun σ2 H2 => wipe σ2 vs = wipe σ vs ∧ tt σ2 H2 fun b H3 =>
    if b = true then te σ2 H3 fun y H4 => ∃ acc, H4 D = some (.lst acc) ∧ acc.length < sizeLine ∧ Nx (upd H4 D (.lst (acc ++ [y]))) else Nx H3)
end
end Z

set_option Elab.async false
set_option linter.all false
set_option maxRecDepth 100000
set_option maxHeartbeats 1000000
/-! a, *rest = xs -/
namespace Z
open PySem PySem.Spec PyProof.Rows L2
section
variable {prog : Program} {w : World} {A : Around} {E : Value → Shared → Prop} {s : Shared} {l : Addr} {items : Array Value}
end
section
variable {P : Program} {w : World} {H : Hp} {h h' : Heap} {a : Addr} {o : HO}
end
/-- a, *b = xs -/
def gStar (K : PySem.W.Frag) (t : TGs) : TG := fun v σ H Q => ∃ (a : Addr) (x : V) (xs : List V), v = .ref a ∧ SqL K H a (x :: xs) ∧ ∀ p, H p = none → t [x, .ref p] σ (upd H p (.lst xs)) Q
end Z

set_option Elab.async false
set_option linter.all false
set_option maxRecDepth 100000
set_option maxHeartbeats 4000000
/-! enumerate(xs, start=k), xs a list -/
namespace Z
open PySem PySem.Spec PyProof.Rows L2
section
variable {M : Model} {A : Around} {E : Value → Shared → Prop} {s : Shared} {env : Env}
end
/-- the list at a from the number k on, each item in a new pair -/
def IteS (K : PySem.W.Frag) (a : Addr) (k : Int) : It :=
  ⟨fun i H => ∃ (xs : List V) (x : V), SqL K H a xs ∧ xs[i]? = some x, fun i H v H' => ∃ T x, v = .ref T ∧ H T = none ∧ H' = upd H T (.tup [.int (k + (i : Nat)), x]) ∧ ∀ xs, SqL K H a xs → xs[i]? = some x, fun i H => ∃ xs : List V, SqL K H a xs ∧ xs.length ≤ i⟩
/-- enumerate(xs, start=k) -/
def iEnS (K : PySem.W.Frag) (ta tk : TA) : TI := fun σ H R => ta σ H fun vs H1 => tk σ H1 fun ws H2 => ∃ a xs k, vs = [.ref a] ∧ ws = [.int k] ∧ -(2 ^ 62) ≤ k ∧ k < 2 ^ 62 ∧ SqL K H2 a xs ∧ R (IteS K a k) H2
/-! ### read -/
section
variable {K : PySem.W.Frag} {σ : L2.St} {H H0 : Hp} {D : Ends} {ta tk : TA} {g : TG} {tb : TS} {a : Addr} {xs : List V} {k : Int}
def rEnS (K : PySem.W.Frag) (g : TG) (tb : TS) (D : Ends) (σ : L2.St) (vs ws : List V) (H2 : Hp) : Prop := ∃ a xs k, vs = [.ref a] ∧ ws = [.int k] ∧ -(2 ^ 62) ≤ k ∧ k < 2 ^ 62 ∧ SqL K H2 a xs ∧ rFor (IteS K a k) g tb D σ H2
end
end Z

set_option Elab.async false
set_option linter.all false
set_option maxRecDepth 100000
set_option maxHeartbeats 1000000
/-! own objects walked: `for x in o`, where __iter__ hands back iter of a tuple or of a dict; a dict known from now on; sums of a dict's values -/
namespace Z
open PySem PySem.Spec PyProof.Rows L2
section
variable {P : Program} {w : World} {K : PySem.W.Frag} {mg : Str → Option Value} {base : Heap}
/-- a promise that may speak of the size of the heap at the call -/
def FnT (P : Program) (w : World) (K : PySem.W.Frag) (mg : Str → Option Value) (base : Heap) (k : Nat) (f : Addr) (sp : Nat → Sp) : Prop :=
  ∀ (A : Around) (outer : List Env) (s : Shared) (H : Hp) (us : List Value) (vs : List V) (Q : VK) (E : XK), Room k A → Env0 P w K mg base A outer s H → Vals vs us → sp s.heap.objs.size vs H Q E →
    codeAny (model P w) A (.call (.ref f) ⟨us, []⟩) (CR (L2.CX P w) outer P w H s Q E) s
theorem fnT_mk {x qual : Str} {st : Stmt} {f : Addr} {fd : FuncData} {N ps : List Str} {k : Nat} {sp : Nat → Sp} (F : L2.Fun K x qual st f fd) (S : FnScope N ps (defScope st)) (b : Binds K fd ps []) (len : ∀ n vs H Q E, sp n vs H Q E → vs.length = ps.length)
    (hbody : ∀ (cdv : Value) (A : Around) (outer : List Env) (s : Shared) (H : Hp) (vs : List V) (Q : VK) (E : XK), Room k (A.deeper (envOfC qual (defScope st) s.heap.objs.size f cdv)) → sp s.heap.objs.size vs H Q E →
      ∃ t, PSs (cxOf (L2.CX P w) P w K mg base N qual (defScope st) f cdv A outer s H E) (defBody st) t ∧ t { nx := fun _ H' => Q .non H', rt := Q } (start N vs) H) : FnT P w K mg base (k + 1) f sp := by
  obtain ⟨oc, od, kV, doc, pm, an, cdv, ct, osl, rfl, lk, hcd⟩ := F.ex
  intro A outer s H us vs Q E hr e0 r h
  have hl := len _ _ _ _ _ h
  have KX : K.In s.heap := e0.mod.kin.keeps fun b o e => (e0.bs b o e).1
  have hb := b s us KX (by rw [List.append_nil, ← r.length]; exact hl)
  rw [List.append_nil] at hb
  exact LamX.run_ofS lk hcd S hr e0 hb r hl fun hr' => hbody cdv A outer s H vs Q E hr' h
/-- an own __iter__ -/
def ItO (P : Program) (w : World) (K : PySem.W.Frag) (mg : Str → Option Value) (base : Heap) (C : Addr) (k : Nat) (sp : Nat → Sp) : Prop := ∃ f, Spc K C "__iter__" f ∧ FnT P w K mg base k f sp
end
/-- iter(t), told with the heap's size at the def's entry -/
def rIterTS (K : PySem.W.Frag) (n : Nat) : List V → Hp → VK → Prop := fun xs H Q => ∃ t ys, xs = [.ref t] ∧ SqT K H t ys ∧ ∀ q, n ≤ q → H q = none → Q (.ref q) (upd H q (TupIt q t 0))
/-- the keys' iterator of a known dict -/
def KeyIt (q d : Addr) (i : Nat) (o : Obj) (m : Nat) : HO := .ext fun h => ∃ es ep, o.data = .dict es ep ∧ h.IsKeyIter q d i m ep
theorem keyIt_ok {P : Program} {w : World} {H : Hp} {h : Heap} {q d : Addr} {i m : Nat} {o : Obj} {es : Array DictEntry} {ep : Nat} (hd : o.data = .dict es ep) (e : h.IsKeyIter q d i m ep) : ObjOk P w H h q (KeyIt q d i o m) := by
  obtain ⟨ob, ho, hc, hdt⟩ := id e
  refine ⟨⟨es, ep, hd, e⟩, ⟨ob, ho⟩, fun h1 h2 ⟨es1, ep1, e1, o1, f1, c1, d1⟩ k => ⟨es1, ep1, e1, o1, k _ f1, c1, d1⟩⟩
def rIterDS (n : Nat) : List V → Hp → VK → Prop := fun xs H Q => ∃ d o kvs, xs = [.ref d] ∧ H d = some (.frz o (.dK kvs)) ∧ ∀ q, n ≤ q → H q = none → Q (.ref q) (upd H q (KeyIt q d 0 o kvs.length))
section
variable {X : Cx}
theorem cr_iterTS : CallR X (.builtin "iter") (rIterTS X.K X.s_0.heap.objs.size) := by
  intro pins s σ H xs us Q I r h
  obtain ⟨t, ys, rfl, ht, h⟩ := h
  obtain rfl := Vals.ref1 r
  obtain ⟨its, rv, hl, _⟩ := I.tuple ht
  refine Calls.call_function_entry (by decide +kernel) (by decide +kernel) PySem.W.kdk_entry_iter (PySem.W.kdk_args_iter _) ?_
  unfold Builtin.«iter»
  refine wpAny_bind (m := someArgs "iter" 1 2 _) (wpAny_of_eq (a := [Value.ref t]) (by first | rfl | kernel_rfl!) ?_)
  show wpAny _ _ (pyIter (.ref t) >>= _) _ _ _
  refine wpAny_bind (wpAny_pyIter_tuple hl ?_)
  refine wpAny_pure ⟨_, rfl, .ref s.heap.objs.size, _, I.laid (a := s.heap.objs.size) (o := TupIt s.heap.objs.size t 0) (t' := s.toks) (fun b o e => Heap.get?_push_of_some _ e) (Nat.le_refl _) (tupIt_ok ⟨_, Heap.get?_push_size _ rfl, rfl, rfl⟩), rfl, h _ I.sz (I.hok.fresh (Nat.le_refl _))⟩
theorem cr_iterDS : CallR X (.builtin "iter") (rIterDS X.s_0.heap.objs.size) := by
  intro pins s σ H xs us Q I r h
  obtain ⟨d, o, kvs, rfl, hd, h⟩ := h
  obtain rfl := Vals.ref1 r
  obtain ⟨hs, hgd, hx, es, ep, vs, hdt, hsz, kv, hm⟩ := I.frzK hd
  refine Calls.call_function_entry (by decide +kernel) (by decide +kernel) PySem.W.kdk_entry_iter (PySem.W.kdk_args_iter _) ?_
  unfold Builtin.«iter»
  refine wpAny_bind (m := someArgs "iter" 1 2 _) (wpAny_of_eq (a := [Value.ref d]) (by first | rfl | kernel_rfl!) ?_)
  show wpAny _ _ (pyIter (.ref d) >>= _) _ _ _
  refine wpAny_bind (iter_keys hs hgd hx hdt ?_)
  rw [hsz]
  refine wpAny_pure ⟨_, rfl, .ref s.heap.objs.size, _, I.laid (a := s.heap.objs.size) (o := KeyIt s.heap.objs.size d 0 o kvs.length) (t' := s.toks) (fun b o e => Heap.get?_push_of_some _ e) (Nat.le_refl _) (keyIt_ok hdt ⟨_, Heap.get?_push_size _ rfl, rfl, rfl⟩), rfl, h _ I.sz (I.hok.fresh (Nat.le_refl _))⟩
end
/-- the object at q is known no more -/
theorem Un.drop {fs ex : List Addr} {H : Hp} {h h' : Heap} {q : Addr} {o : HO} (u : Un fs ex H (upd H q o) h h') (hn : H q = none) : Un fs ex H H h h' where
  keep := u.keep
  slot := u.slot
  free := fun _ _ _ n _ => n
  there := u.there
  tups := fun _ _ e => e
  frzs := fun _ _ _ e => e
  tbls := fun _ ps e => ⟨#[], by simpa using e⟩
theorem HOk.drop {P : Program} {w : World} {H : Hp} {h : Heap} {q : Addr} {φ : Heap → Prop} (x : HOk P w (upd H q (.ext φ)) h) (hn : H q = none) : HOk P w H h := fun b u e => by
  have nb : b ≠ q := ne_of_none e hn
  have y := x b u (by rw [upd_ne nb]; exact e)
  refine y.stay (fun _ _ _ k => k) (fun c k => ?_) fun c xs k => ?_
  · by_cases hc : c = q
    · rw [hc, upd_same] at k; cases k
    · rw [upd_ne hc] at k; exact k
  · by_cases hc : c = q
    · rw [hc, upd_same] at k; cases k
    · rw [upd_ne hc] at k; exact k
section
variable {X : Cx} {k j : Nat} {C : Addr} {sp : Nat → Sp} {tg e : Expr} {te : TE}
/-- an own object whose __iter__ hands back iter of the tuple at t -/
def OwnT (K : PySem.W.Frag) (C : Addr) (sp : Nat → Sp) (a t : Addr) (ys : List V) (H1 : Hp) : Prop := (∃ dx fs, H1 a = some (.ins C dx fs)) ∧ SqT K H1 t ys ∧
  ∀ n, sp n [.ref a] H1 (fun v H' => ∃ q, v = .ref q ∧ n ≤ q ∧ H1 q = none ∧ H' = upd H1 q (TupIt q t 0)) fun _ _ _ => False
/-- .. of the known dict at d -/
def OwnD (C : Addr) (sp : Nat → Sp) (a d : Addr) (o : Obj) (kvs : List (Key × V)) (H1 : Hp) : Prop := (∃ dx fs, H1 a = some (.ins C dx fs)) ∧ H1 d = some (.frz o (.dK kvs)) ∧
  ∀ n, sp n [.ref a] H1 (fun v H' => ∃ q, v = .ref q ∧ n ≤ q ∧ H1 q = none ∧ H' = upd H1 q (KeyIt q d 0 o kvs.length)) fun _ _ _ => False
/-- the walk of an own object by its tuple -/
def iOwnT (K : PySem.W.Frag) (C : Addr) (sp : Nat → Sp) (te : TE) : TI := fun σ H R => te σ H fun x H1 => ∃ a t ys, x = .ref a ∧ OwnT K C sp a t ys H1 ∧ R (Itt K t) H1
/-- .. by its dict, which is known -/
def iOwnD (C : Addr) (sp : Nat → Sp) (te : TE) : TI := fun σ H R => te σ H fun x H1 => ∃ a d o kvs, x = .ref a ∧ OwnD C sp a d o kvs H1 ∧ R (Itk d o kvs) H1
theorem special_key {q : Addr} {s : Shared} {d : Addr} {i m ep : Nat} {M : Model} {A : Around} {E : Value → Shared → Prop} {Q : Option Value → Shared → Prop} (hit : s.heap.IsKeyIter q d i m ep) (h : ∀ g, Q (some g) s) : wpAny M A (specialOf (.ref q) "__next__") Q E s := by
  unfold specialOf
  exact wpAny_bind (wpAny_typeOf hit.typeIs (wpAny_of_eq PySem.F.slot_dict_keyiterator_next.lookup (h _)))
theorem pi_ownT (c : ItO X.prog X.w X.K X.mg X.base C k sp) (hr : Room j X.A) (he : PE X e te) (hj : k ≤ j := by decide) : PI X tg e (iOwnT X.K C sp te) := by
  obtain ⟨f, S, F⟩ := c
  refine ⟨fun pins s σ H R I h => ?_⟩
  refine thn (he.run pins s σ H _ I h) fun u s1 ⟨x, H1, I1, rx, a, t, ys, ex, ⟨⟨dx, fs, ea⟩, ht, hp⟩, q⟩ => ?_
  subst ex
  obtain rfl : u = Value.ref a := rx
  obtain ⟨ox, od, Ja⟩ := instAt I1 ea
  obtain ⟨m, fr⟩ := I1.fr
  refine PySem.W.owit_iter fr I1.ok.mod.kin Ja S.at_ S.fn ?_
  refine wpAny_call (codeAny_mono (F X.A X.stack s1 H1 [.ref a] [.ref a] _ (fun _ _ _ => False) (hr.mono hj) I1.env0 (.cons rfl .nil) (hp _)) fun r s' hq' => ?_)
  rcases r with e | fl
  · exact (cxN hq').elim
  rcases fl with _ | _ | _ | u'
  · exact False.elim hq'
  · exact False.elim hq'
  · exact False.elim hq'
  obtain ⟨v, H', os, bare, un, hok, rv, q0, ev, hle, hn, eH⟩ := hq'
  subst ev
  subst eH
  obtain rfl : u' = Value.ref q0 := rv
  have hit : s'.heap.IsTupleIter q0 t 0 := (hok q0 _ upd_same).1
  have I2 : Inv X pins σ H1 s' := I1.call' (ch := []) os (Un.drop un hn) (HOk.drop hok hn) bare (fun b z => absurd z (by simp))
  unfold PySem.W.OwitIt specialOf
  refine wpAny_bind (wpAny_typeOf hit.typeIs (wpAny_of_eq PySem.F.slot_tuple_iterator_next.lookup ?_))
  exact ⟨q0, [q0], _, _, H1, rfl, I2, turn_tuple t q0, hit, fun b hb => by
    have e : b = q0 := by simpa using hb
    subst e
    exact I1.fpOk hle hn, q⟩
theorem pi_ownD (c : ItO X.prog X.w X.K X.mg X.base C k sp) (hr : Room j X.A) (he : PE X e te) (hj : k ≤ j := by decide) : PI X tg e (iOwnD C sp te) := by
  obtain ⟨f, S, F⟩ := c
  refine ⟨fun pins s σ H R I h => ?_⟩
  refine thn (he.run pins s σ H _ I h) fun u s1 ⟨x, H1, I1, rx, a, d, o, kvs, ex, ⟨⟨dx, fs, ea⟩, hd, hp⟩, q⟩ => ?_
  subst ex
  obtain rfl : u = Value.ref a := rx
  obtain ⟨ox, od, Ja⟩ := instAt I1 ea
  obtain ⟨m, fr⟩ := I1.fr
  refine PySem.W.owit_iter fr I1.ok.mod.kin Ja S.at_ S.fn ?_
  refine wpAny_call (codeAny_mono (F X.A X.stack s1 H1 [.ref a] [.ref a] _ (fun _ _ _ => False) (hr.mono hj) I1.env0 (.cons rfl .nil) (hp _)) fun r s' hq' => ?_)
  rcases r with e | fl
  · exact (cxN hq').elim
  rcases fl with _ | _ | _ | u'
  · exact False.elim hq'
  · exact False.elim hq'
  · exact False.elim hq'
  obtain ⟨v, H', os, bare, un, hok, rv, q0, ev, hle, hn, eH⟩ := hq'
  subst ev
  subst eH
  obtain rfl : u' = Value.ref q0 := rv
  obtain ⟨es, ep, hdt, hit⟩ := (hok q0 _ upd_same).1
  have I2 : Inv X pins σ H1 s' := I1.call' (ch := []) os (Un.drop un hn) (HOk.drop hok hn) bare (fun b z => absurd z (by simp))
  unfold PySem.W.OwitIt
  refine special_key hit fun g => ?_
  exact ⟨q0, [q0], _, _, H1, rfl, I2, turn_keys q0 hdt, hit, fun b hb => by
    have e : b = q0 := by simpa using hb
    subst e
    exact I1.fpOk hle hn, q⟩
end
end Z

set_option Elab.async false
set_option linter.all false
set_option maxRecDepth 100000
set_option maxHeartbeats 1000000
/-! a dict known from now on; sum of a dict's values; != of lists and dicts that are equal in depth, dicts among them -/
namespace Z
open PySem PySem.Spec PyProof.Rows L2
section
variable {X : Cx} {st : Stmt} {t : TS} {e : Expr} {te : TE}
/-- from here on the thing at d is known and not written any more -/
def tFrz (t : TS) : TS := fun D σ H => ∃ d u, H d = some u ∧ Mut (some u) ∧ ∀ od, t D σ (upd H d (.frz od u))
theorem ps_frz (h : PS X st t) : PS X st (tFrz t) := by
  refine ⟨fun pins s σ H D I q => ?_⟩
  obtain ⟨d, u, hd, mu, q⟩ := q
  obtain ⟨od, I1⟩ := I.lock hd mu
  exact h.run pins s σ _ D I1 (q od)
end
/-! ### the values' sum -/
section
variable {prog : Program} {w : World} {A : Around} {E : Value → Shared → Prop} {s : Shared} {T : String} {r d : Addr} {n : Nat} {P : Nat → Value → Prop} {OK : Heap → Prop} {Q : Value → Shared → Prop}
theorem sumSrc (src : PySem.W.KdlSrc prog w T r d n P OK) (calm : A.handled = none) (ok : OK s.heap) (f : Nat → Int) (isf : ∀ (i : Nat) (v : Value), P i v → ∃ t : Tok, v = Value.int (f i) t)
    (fin : ∀ (h' : Heap) (tk : Nat) (t' : Tok), (∀ b o, s.heap.get? b = some o → h'.get? b = some o) → Q (.int (preSum f n) t') { s with heap := h', toks := tk }) :
    wpAny (model prog w) A (call (.builtin "sum") [.ref r]) Q E s := by
  refine call_sum_walkAnyS ?_
  obtain ⟨oI, St, begin_, W, st0⟩ := src.iter A.in1 s calm ok
  refine begin_ _ _ ⟨s.heap.objs.size, _, _, _, n, P, _, f, rfl, W.toS, st0, fun b hb => ?_, isf, fun s' t' mv => ?_⟩
  · rw [show (({ s with heap := s.heap.push oI } : Shared)).heap.objs.size = s.heap.objs.size + 1 from size_push' ..]
    rcases List.mem_cons.mp hb with e | hb
    · rw [e]
      exact Nat.lt_succ_self _
    · rw [List.mem_singleton.mp hb]
      exact Nat.lt_succ_of_lt (src.there _ ok).2
  · have kp : ∀ b o, s.heap.get? b = some o → s'.heap.get? b = some o := fun b o e => by
      refine mv.heap b o (fun z => ?_) (Heap.get?_push_of_some _ e)
      have := Heap.lt_size e
      rw [List.mem_singleton.mp z] at this
      exact absurd this (Nat.lt_irrefl _)
    rw [Moved.eq_with mv]
    exact fin s'.heap s'.toks t' kp
end
/-- d.values(), kept as a value -/
def ValO (q d : Addr) : HO := .ext fun h => h.get? q = some { cls := .type "dict_values", data := .fields #[.ref d] }
def tVals (td : TE) : TE := fun σ H Q => td σ H fun x H1 => ∃ d o kvs, x = .ref d ∧ H1 d = some (.frz o (.dK kvs)) ∧ ∀ q, H1 q = none → Q (.ref q) (upd H1 q (ValO q d))
section
variable {X : Cx} {e : Expr} {td : TE} {apos cpos : Pos}
theorem pe_vals (he : PE X e td) (hbase : attributeBase e "values" X.env (eval e X.env) = eval e X.env := by rfl) (hline : (apos.endLine == cpos.line) = true := by rfl) : PE X (.Call (.Attribute e "values" apos) [] [] cpos) (tVals td) := by
  refine ⟨fun pins s σ H Q I h => ?_⟩
  refine wpAny_Call_method (T := "dict") (id := "dict.values") hbase rfl hline F.plainAttrs_dict F.slot_dict_values F.type_dict_values (thn (he.run pins s σ H _ I h) fun u s1 ⟨x, H1, I1, rx, d, o, kvs, ex, hd, q⟩ => ?_)
  subst ex
  obtain rfl : u = Value.ref d := rx
  obtain ⟨hs, hgd, hx, es, ep, vs, hdt, hsz, kv, hm⟩ := I1.frzK hd
  refine ⟨hm.dictOf.typeIs, hm.dictOf.mapOf.noDict, ?_⟩
  have fin : EP X pins σ Q (.ref s1.heap.objs.size) { s1 with heap := s1.heap.push { cls := .type "dict_values", data := .fields #[.ref d] } } := by
    refine ⟨.ref s1.heap.objs.size, _, I1.laid (a := s1.heap.objs.size) (o := ValO s1.heap.objs.size d) (t' := s1.toks) (fun b o e => Heap.get?_push_of_some _ e) (Nat.le_refl _) ?_, rfl, q _ (I1.hok.fresh (Nat.le_refl _))⟩
    exact ⟨Heap.get?_push_size _ rfl, ⟨_, Heap.get?_push_size _ rfl⟩, fun h1 h2 e k => k _ e⟩
  show wpAny _ _ (callWith cpos (.builtin "dict.values") [.ref d] [] []) _ X.xe s1
  exact method_meetsIn F.slot_dict_values F.entry_dict_values rfl (PySem.evalArgs_none ⟨rfl, hm.dictOf.typeIs, F.args_dict_values_1 _, _, meets_dict_values (mixKind X.prog X.w) d hs, ⟨vs, hm.dictOf⟩, fin⟩)
/-- sum of them -/
def rSumV : List V → Hp → VK → Prop := fun xs H Q => ∃ q d o kvs, ∃ ns : List Int, xs = [.ref q] ∧ H q = some (ValO q d) ∧ H d = some (.frz o (.dK kvs)) ∧ kvs.map (·.2) = ns.map V.int ∧ Q (.int ns.sum) H
theorem preSum_list : ∀ (ns : List Int), preSum (fun i => ns.getD i 0) ns.length = ns.sum := by
  intro ns
  have key : ∀ (k : Nat), k ≤ ns.length → preSum (fun i => ns.getD i 0) k = (ns.take k).sum := by
    intro k
    induction k with
    | zero => intro _; simp [preSum]
    | succ k ih =>
      intro hk
      have e : ns.take (k + 1) = ns.take k ++ [ns[k]] := by rw [List.take_add_one, List.getElem?_eq_getElem (by omega)]; rfl
      show preSum (fun i => ns.getD i 0) k + ns.getD k 0 = _
      rw [ih (by omega), e, List.sum_append_int]
      simp [List.getD, List.getElem?_eq_getElem (show k < ns.length by omega)]
  rw [key _ (Nat.le_refl _), List.take_length]
theorem cr_sumV (hc : X.calm = true) : CallR X (.builtin "sum") rSumV := by
  intro pins s σ H xs us Q I r h
  obtain ⟨q, d, o, kvs, ns, rfl, hq, hd, hv, k⟩ := h
  obtain rfl := Vals.ref1 r
  obtain ⟨hs, hgd, hx, es, ep, vs, hdt, hsz, kv, hm⟩ := I.frzK hd
  have hq1 : s.heap.get? q = some { cls := .type "dict_values", data := .fields #[.ref d] } := (I.hok q _ hq).1
  have hl : kvs.length = vs.length := Paired.length kv
  have hn : ns.length = vs.length := by rw [← hl, ← List.length_map (f := V.int), ← hv, List.length_map]
  refine sumSrc (PySem.W.kdl_values (knd := mixKind X.prog X.w) (r := q) (d := d) (kvs := vs) (ep := ep)) (I.ok.hd hc) ⟨⟨_, hq1, rfl, rfl⟩, hm⟩ (fun i => ns.getD i 0) (fun i v hi => ?_) fun h' tk t' kp => ?_
  · obtain ⟨key, e⟩ := hi
    have lt : i < vs.length := (List.getElem?_eq_some_iff.mp e).1
    obtain ⟨b, hb⟩ : ∃ b, kvs[i]? = some b := ⟨kvs[i], List.getElem?_eq_getElem (by omega)⟩
    obtain ⟨c, hc', ec, rc⟩ := paired_get kv hb
    rw [e] at hc'
    cases hc'
    have e2 : (kvs.map (·.2))[i]? = some b.2 := by rw [List.getElem?_map, hb]; rfl
    rw [hv, List.getElem?_map] at e2
    obtain ⟨z, hz, ez⟩ := Option.map_eq_some_iff.mp e2
    rw [← ez] at rc
    obtain ⟨t, rfl⟩ := rc
    exact ⟨t, by simp [List.getD, hz]⟩
  · rw [← hn, preSum_list]
    exact ⟨.int _, H, I.kept kp, ⟨_, rfl⟩, k⟩
end
/-! ### equal in depth -/
section
variable {prog : Program} {w : World}
open SeqAt AutoSeq1 MeetsSeq MeetsSeq2 MeetsSeq3 in
open SeqAt AutoSeq1 MeetsSeq MeetsSeq2 MeetsSeq3 in
end
section
variable {X : Cx} {pins : List (Addr × Obj)} {σ : L2.St} {H : Hp} {s : Shared}
/-- the same data -/
def W0 (K : PySem.W.Frag) (H : Hp) (x y : V) : Prop := ∃ d, Dp K H x d ∧ Dp K H y d ∧ SeqAt.shaped d = true ∧ PyData.eqv d d = true
/-- two dicts of the same keys with the same data -/
def WD (K : PySem.W.Frag) (H : Hp) (x y : V) : Prop := ∃ a b ks ls, x = .ref a ∧ y = .ref b ∧ Rd H a (.dK ks) ∧ Rd H b (.dK ls) ∧ ks.length = ls.length ∧ ∀ p ∈ ks, ∃ u, valV ls p.1 = some u ∧ W0 K H p.2 u
def W1 (K : PySem.W.Frag) (H : Hp) (x y : V) : Prop := W0 K H x y ∨ WD K H x y
/-- lists, item by item -/
def WL (K : PySem.W.Frag) (H : Hp) (x y : V) : Prop := ∃ a b xs ys, x = .ref a ∧ y = .ref b ∧ SqL K H a xs ∧ SqL K H b ys ∧ Paired (W1 K H) xs ys
/-- x == y, x != y, equal in depth -/
def rEqW (K : PySem.W.Frag) (r : Bool) : R2 := fun x y H Q => (WL K H x y ∨ WD K H x y) ∧ Q (.bl r) H
end
end Z

set_option Elab.async false
set_option linter.all false
set_option maxRecDepth 100000
set_option maxHeartbeats 1000000
/-! readings: dicts with text keys (known or not), own objects walked by their dict, zip; lcm -/
namespace Z
open PySem PySem.Spec PyProof.Rows L2
/-- a dict by its keys in their order, which are texts, and their values -/
def dF (zs : List Str) (f : Str → V) : List (Key × V) := zs.map fun z => (.inr z, f z)
def upF {α : Type} (f : Str → α) (z : Str) (v : α) : Str → α := fun x => if x = z then v else f x
/-- a key more, or none -/
def adK (zs : List Str) (z : Str) : List Str := if z ∈ zs then zs else zs ++ [z]
theorem dF_len (zs : List Str) (f : Str → V) : (dF zs f).length = zs.length := by unfold dF; simp
theorem dF_keys (zs : List Str) (f : Str → V) : (dF zs f).map (·.1) = zs.map Sum.inr := by unfold dF; simp [List.map_map, Function.comp_def]
theorem dF_vals (zs : List Str) (f : Str → V) : (dF zs f).map (·.2) = zs.map f := by unfold dF; simp [List.map_map, Function.comp_def]
theorem dF_congr {zs : List Str} {f g : Str → V} (h : ∀ z ∈ zs, f z = g z) : dF zs f = dF zs g := List.map_congr_left fun z hz => by rw [h z hz]
theorem dF_cons (z : Str) (zs : List Str) (f : Str → V) : dF (z :: zs) f = (.inr z, f z) :: dF zs f := rfl
theorem dF_get {zs : List Str} {f : Str → V} {i : Nat} {k : Key} {v : V} (h : (dF zs f)[i]? = some (k, v)) : ∃ z, zs[i]? = some z ∧ k = .inr z ∧ v = f z := by
  unfold dF at h
  rw [List.getElem?_map] at h
  obtain ⟨z, hz, e⟩ := Option.map_eq_some_iff.mp h
  cases e
  exact ⟨z, hz, rfl, rfl⟩
theorem valV_dF (f : Str → V) (z : Str) : ∀ zs : List Str, valV (dF zs f) (.inr z) = if z ∈ zs then some (f z) else none
  | [] => rfl
  | y :: zs => by
    rw [dF_cons]
    by_cases h : y = z
    · subst h
      rw [if_pos List.mem_cons_self]
      exact valV_pos rfl
    · have hn : ¬ ((Sum.inr y : Key) = .inr z) := fun e => h (Sum.inr.inj e)
      rw [valV_neg hn, valV_dF f z zs]
      by_cases h2 : z ∈ zs
      · rw [if_pos h2, if_pos (List.mem_cons_of_mem _ h2)]
      · rw [if_neg h2, if_neg (fun g => (List.mem_cons.mp g).elim (fun e => h e.symm) h2)]
theorem valV_in {zs : List Str} {f : Str → V} {z : Str} (h : z ∈ zs) : valV (dF zs f) (.inr z) = some (f z) := by rw [valV_dF, if_pos h]
theorem valV_out {zs : List Str} {f : Str → V} {z : Str} (h : z ∉ zs) : valV (dF zs f) (.inr z) = none := by rw [valV_dF, if_neg h]
theorem putK_dF (zs : List Str) (f : Str → V) (z : Str) (v : V) : putK (dF zs f) (.inr z) v = dF (adK zs z) (upF f z v) := by
  unfold adK
  by_cases h : z ∈ zs
  · rw [if_pos h]
    unfold putK
    rw [valV_any, valV_in h, if_pos (by rfl)]
    unfold dF
    rw [List.map_map]
    refine List.map_congr_left fun y _ => ?_
    show (if (Sum.inr y : Key) = .inr z then ((Sum.inr y : Key), v) else (Sum.inr y, f y)) = (Sum.inr y, upF f z v y)
    unfold upF
    by_cases e : y = z
    · rw [if_pos (by rw [e]), if_pos e]
    · rw [if_neg (fun g => e (Sum.inr.inj g)), if_neg e]
  · rw [if_neg h, putK_new _ (valV_out h)]
    unfold dF
    rw [List.map_append]
    congr 1
    · refine List.map_congr_left fun y hy => ?_
      unfold upF
      rw [if_neg (fun e => h (by rw [← e]; exact hy))]
    · simp [upF]
theorem adK_new {zs : List Str} {z : Str} (h : z ∉ zs) : adK zs z = zs ++ [z] := if_neg h
theorem adK_old {zs : List Str} {z : Str} (h : z ∈ zs) : adK zs z = zs := if_pos h
theorem adK_nodup {zs : List Str} {z : Str} (h : zs.Nodup) : (adK zs z).Nodup := by
  unfold adK
  split
  · exact h
  · rename_i hn
    exact List.nodup_append.mpr ⟨h, by simp, fun a ha b hb e => by rw [List.mem_singleton.mp hb] at e; exact hn (by rw [← e]; exact ha)⟩
theorem mem_adK {zs : List Str} {z y : Str} : y ∈ adK zs z ↔ y ∈ zs ∨ y = z := by
  unfold adK
  split
  · rename_i h
    exact ⟨.inl, fun g => g.elim id fun e => by rw [e]; exact h⟩
  · rw [List.mem_append, List.mem_singleton]
theorem adK_len {zs : List Str} {z : Str} : (adK zs z).length ≤ zs.length + 1 := by
  unfold adK
  split
  · omega
  · simp
/-! ### walks -/
section
variable {K : PySem.W.Frag} {σ : L2.St} {H H0 : Hp} {D : Ends} {te tl tk tv td ty tx : TE} {tt : TT} {tr : TA} {g : TG} {tb : TS} {Q : VK} {a d : Addr} {o : Obj} {zs : List Str} {f : Str → V}
def rForKeys (g : TG) (tb : TS) (D : Ends) (σ : L2.St) (x : V) (H1 : Hp) : Prop := ∃ d o, x = .ref d ∧ ((∃ kvs, H1 d = some (.frz o (.dK kvs)) ∧ rFor (Itk d o kvs) g tb D σ H1) ∨ ∃ kvs, H1 d = some (.frz o (.dT kvs)) ∧ rFor (Itkt d o kvs) g tb D σ H1)
theorem i_forK0 (h : td σ H (fun x H1 => rForKeys g tb D σ x H1)) : tFor (iKeys td) g tb D σ H := h
theorem forKeys (Pv : Nat → L2.St → Hp → Prop) (e : H0 d = some (.frz o (.dK (dF zs f)))) (h0 : Pv 0 σ H) (hl : ∀ i σ H1, Pv i σ H1 → AtS H0 d H1)
    (hs : ∀ i z σ H, zs[i]? = some z → Pv i σ H → g (.str z) σ H fun σ2 H2 => tb { D with nx := Pv (i + 1), ct := Pv (i + 1), bk := D.nx } σ2 H2) (hd : ∀ σ H, Pv zs.length σ H → D.nx σ H) : rFor (Itk d o (dF zs f)) g tb D σ H := by
  refine for_it (walk_keys (kvs := dF zs f)) Pv h0 (fun i σ H1 _ p => hl i σ H1 p _ e) (fun i x σ H H' hi p y => ?_) fun σ H p => hd σ H (by rw [dF_len] at p; exact p)
  obtain ⟨rfl, k, v, e1, rfl⟩ := y
  obtain ⟨z, hz, rfl, _⟩ := dF_get e1
  exact hs i z σ _ hz p
theorem i_forK (Pv : Nat → L2.St → Hp → Prop) (e : H0 d = some (.frz o (.dK (dF zs f)))) (h0 : Pv 0 σ H) (hl : ∀ i σ H1, Pv i σ H1 → AtS H0 d H1)
    (hs : ∀ i z σ H, zs[i]? = some z → Pv i σ H → g (.str z) σ H fun σ2 H2 => tb { D with nx := Pv (i + 1), ct := Pv (i + 1), bk := D.nx } σ2 H2) (hd : ∀ σ H, Pv zs.length σ H → D.nx σ H) : rForKeys g tb D σ (.ref d) H :=
  ⟨d, o, rfl, .inl ⟨_, hl 0 σ H h0 _ e, forKeys Pv e h0 hl hs hd⟩⟩
/-- a comprehension over J -/
def rLcJ (J : It) (g : TG) (tt : TT) (te : TE) (vs : List Nat) (σ : L2.St) (Q : VK) (H1 : Hp) : Prop := ∀ D, H1 D = none → ∃ W : Nat → Nat → Hp → Prop, (∃ m, W 0 m (upd H1 D (.lst []))) ∧ ∀ i m H, W i m H →
  (J.stop i H ∧ Q (.ref D) H) ∨ (J.go i H ∧ ∃ Nx : Hp → Prop, (∀ H', Nx H' → ∃ m', m' < m ∧ W (i + 1) m' H') ∧ ∀ x H', J.yld i H x H' → g x (wipe σ vs) H' fun σ2 H2 => wipe σ2 vs = wipe σ vs ∧ tt σ2 H2 fun b H3 =>
    if b = true then te σ2 H3 fun y H4 => ∃ acc, H4 D = some (.lst acc) ∧ acc.length < sizeLine ∧ Nx (upd H4 D (.lst (acc ++ [y]))) else Nx H3)
def rLcKeys (g : TG) (tt : TT) (te : TE) (vs : List Nat) (σ : L2.St) (Q : VK) (x : V) (H1 : Hp) : Prop := ∃ d o, x = .ref d ∧ ((∃ kvs, H1 d = some (.frz o (.dK kvs)) ∧ rLcJ (Itk d o kvs) g tt te vs σ Q H1) ∨ ∃ kvs, H1 d = some (.frz o (.dT kvs)) ∧ rLcJ (Itkt d o kvs) g tt te vs σ Q H1)
/-! own objects -/
def rForOwn (C : Addr) (sp : Nat → Sp) (g : TG) (tb : TS) (D : Ends) (σ : L2.St) (x : V) (H1 : Hp) : Prop := ∃ a d o kvs, x = .ref a ∧ OwnD C sp a d o kvs H1 ∧ rFor (Itk d o kvs) g tb D σ H1
theorem i_forO0 {C : Addr} {sp : Nat → Sp} (h : te σ H (fun x H1 => rForOwn C sp g tb D σ x H1)) : tFor (iOwnD C sp te) g tb D σ H := h
theorem i_forO {C : Addr} {sp : Nat → Sp} {kvs : List (Key × V)} (w : OwnD C sp a d o kvs H) (h : rFor (Itk d o kvs) g tb D σ H) : rForOwn C sp g tb D σ (.ref a) H := ⟨a, d, o, kvs, rfl, w, h⟩
def rLcOwn (C : Addr) (sp : Nat → Sp) (g : TG) (tt : TT) (te : TE) (vs : List Nat) (σ : L2.St) (Q : VK) (x : V) (H1 : Hp) : Prop := ∃ a d o kvs, x = .ref a ∧ OwnD C sp a d o kvs H1 ∧ rLcJ (Itk d o kvs) g tt te vs σ Q H1
/-! zip of two lists of one length -/
def rForZip (K : PySem.W.Frag) (g : TG) (tb : TS) (D : Ends) (σ : L2.St) (vs : List V) (H1 : Hp) : Prop := ∃ a b xs ys, vs = [.ref a, .ref b] ∧ SqL K H1 a xs ∧ SqL K H1 b ys ∧ rFor (Itz K a b) g tb D σ H1
/-! dicts, read -/
theorem i_dgetR {z : Str} {v : V} {kvs : List (Key × V)} (e : Rd H a (.dK kvs)) (l : valV kvs (.inr z) = some v) (h : Q v H) : rDGet (.ref a) (.str z) H Q := ⟨a, v, rfl, .inl ⟨kvs, .inr z, e, rfl, l.symm⟩, h⟩
def rG2b (a : Addr) (y z : V) (H3 : Hp) (Q : VK) : Prop := ∃ o, DGet H3 a y o ∧ Q (o.getD z) H3
def rG2 (ty tx : TE) (σ : L2.St) (Q : VK) (x : V) (H1 : Hp) : Prop := ∃ a, x = .ref a ∧ IsD H1 a ∧ ty σ H1 fun y H2 => tx σ H2 fun z H3 => rG2b a y z H3 Q
theorem i_dget20 (h : td σ H (fun x H1 => rG2 ty tx σ Q x H1)) : tDGet2 td ty tx σ H Q := h
theorem i_dget2 {kvs : List (Key × V)} (e : Rd H a (.dK kvs)) (h : ty σ H fun y H2 => tx σ H2 fun z H3 => rG2b a y z H3 Q) : rG2 ty tx σ Q (.ref a) H := ⟨a, rfl, .inl ⟨kvs, e⟩, h⟩
theorem i_dget2b {kvs : List (Key × V)} {z : Str} {v : V} (e : Rd H a (.dK kvs)) (h : Q ((valV kvs (.inr z)).getD v) H) : rG2b a (.str z) v H Q := ⟨_, .inl ⟨kvs, .inr z, e, rfl, rfl⟩, h⟩
def rP1b (a : Addr) (y : V) (H2 : Hp) (Q : VK) : Prop := ∃ kvs k v, H2 a = some (.dK kvs) ∧ y = kV k ∧ valV kvs k = some v ∧ Q v (upd H2 a (.dK (dropK kvs k)))
def rP1 (ty : TE) (σ : L2.St) (Q : VK) (x : V) (H1 : Hp) : Prop := ∃ a, x = .ref a ∧ IsD H1 a ∧ ty σ H1 fun y H2 => rP1b a y H2 Q
theorem i_dputF {z : Str} {v : V} {P : Hp → Prop} (e : H a = some (.dK (dF zs f))) (l : zs.length < 100000) (h : ∀ H4, H4 a = some (.dK (dF (adK zs z) (upF f z v))) → (∀ b, b ≠ a → H4 b = H b) → P H4) : rDPut v (.ref a) (.str z) H P :=
  i_dput e (by rw [dF_len]; exact l) fun H4 e4 o4 => h H4 (by rw [e4, putK_dF]) o4
theorem i_sortR {kvs : List (Key × V)} (e : Rd H a (.dK kvs)) (k : kvs.map (·.1) = zs.map Sum.inr) (l : zs.length < 64) (h : ∀ q H', H q = none → Same H H' → (∀ b, b ≠ q → H' b = H b) → H' q = some (.lst ((srt zs).map V.str)) → Q (.ref q) H') : rSortD [.ref a] H Q :=
  ⟨a, kvs, zs, rfl, e, k, l, fun ys q hp hs hq => by obtain rfl := srt_eq hp hs; exact h q _ hq (same_new hq) (fun b hb => upd_ne hb) upd_same⟩
theorem i_dictR {kvs : List (Key × V)} (e : Rd H a (.dK kvs)) (h : ∀ q H', H q = none → Same H H' → (∀ b, b ≠ q → H' b = H b) → H' q = some (.dK kvs) → Q (.ref q) H') : rDictD [.ref a] H Q :=
  ⟨a, kvs, rfl, e, fun q hq => h q _ hq (same_new hq) (fun b hb => upd_ne hb) upd_same⟩
/-- the dict is known from here on -/
theorem i_frz {t : TS} {u : HO} (e : H d = some u) (mu : Mut (some u)) (h : ∀ od H', H' d = some (.frz od u) → (∀ b, b ≠ d → H' b = H b) → t D σ H') : tFrz t D σ H := ⟨d, u, e, mu, fun od => h od _ upd_same fun b hb => upd_ne hb⟩
theorem i_vals0 (h : td σ H (fun x H1 => ∃ d o kvs, x = .ref d ∧ H1 d = some (.frz o (.dK kvs)) ∧ ∀ q, H1 q = none → Q (.ref q) (upd H1 q (ValO q d)))) : tVals td σ H Q := h
end
/-- dict of a list of pairs -/
def rDictP (K : PySem.W.Frag) : List V → Hp → VK → Prop := fun xs H Q => ∃ (a : Addr) (ps : List Addr) (kvs : List (Key × V)), xs = [.ref a] ∧ SqL K H a (ps.map V.ref) ∧ Paired (fun p kv => SqT K H p [kV kv.1, kv.2]) ps kvs ∧
    ∀ p, H p = none → Q (.ref p) (upd H p (.dK (mergeK [] kvs)))
section
variable {X : Cx} {K : PySem.W.Frag}
theorem k_listD (hc : X.calm = true) : CallR X (.type "list") rListD := call_list_dK hc
/-- the least common multiple -/
def rLcm : List V → Hp → VK → Prop := fun vs H Q => ∃ a b : Int, vs = [.int a, .int b] ∧ a.natAbs.log2 < 9000 ∧ b.natAbs.log2 < 9000 ∧ Q (.int ((Nat.lcm a.natAbs b.natAbs : Nat) : Int)) H
end
end Z

set_option Elab.async false
set_option linter.all false
set_option maxRecDepth 100000
set_option maxHeartbeats 1000000
/-! data that can be compared: lists, tuples, known and unknown dicts -/
namespace Z
open PySem PySem.Spec PyProof.Rows L2
mutual
theorem dpMono {K : PySem.W.Frag} {H H' : Hp} (s : Same H H') : ∀ {v : V} {d : PyData}, Dp K H v d → Dp K H' v d
  | _, _, .non => .non
  | _, _, .bl b => .bl b
  | _, _, .int i => .int i
  | _, _, .str x => .str x
  | _, _, .lst h hs => .lst (s.seq h) (dpMonoAll s hs)
  | _, _, .tup h hs => .tup (Same_seqT s h) (dpMonoAll s hs)
theorem dpMonoAll {K : PySem.W.Frag} {H H' : Hp} (s : Same H H') : ∀ {vs : List V} {ds : List PyData}, DpAll K H vs ds → DpAll K H' vs ds
  | _, _, .nil => .nil
  | _, _, .cons h hs => .cons (dpMono s h) (dpMonoAll s hs)
end
def Lay (n : Nat) (d : PyData) : Prop := d.canLay0 = true ∧ d.depth ≤ n
theorem Lay.mono {n m : Nat} {d : PyData} (h : Lay n d) (l : n ≤ m) : Lay m d := ⟨h.1, Nat.le_trans h.2 l⟩
theorem Lay.shaped {n : Nat} {d : PyData} (h : Lay n d) (hn : n ≤ 64) : SeqAt.shaped d = true := by
  unfold SeqAt.shaped
  rw [h.1, decide_eq_true (Nat.le_trans h.2 hn)]
  rfl
theorem lay_str {z : Str} (h : PyData.strOk z = true) : Lay 0 (.str z) := ⟨by unfold PyData.canLay0; exact h, Nat.le_refl _⟩
mutual
theorem eqv_refl : ∀ d : PyData, d.canLay0 = true → PyData.eqv d d = true
  | .none, _ => rfl
  | .bool a, _ => by show (a == a) = true; simp
  | .int a, _ => by show (a == a) = true; simp
  | .str a, _ => by show (a == a) = true; simp
  | .list xs, h => by
    unfold PyData.canLay0 at h
    show PyData.eqvAll xs xs = true
    exact eqv_reflAll xs h
  | .tuple xs, h => by
    unfold PyData.canLay0 at h
    show PyData.eqvAll xs xs = true
    exact eqv_reflAll xs h
  | .dict _, h => by unfold PyData.canLay0 at h; cases h
theorem eqv_reflAll : ∀ ds : List PyData, PyData.canLayAll0 ds = true → PyData.eqvAll ds ds = true
  | [], _ => rfl
  | d :: ds, h => by
    unfold PyData.canLayAll0 at h
    rw [Bool.and_eq_true] at h
    show (PyData.eqv d d && PyData.eqvAll ds ds) = true
    rw [eqv_refl d h.1, eqv_reflAll ds h.2]
    rfl
end

def rDNIn (y x : V) (H2 : Hp) (Q : VK) : Prop := ∃ a o, x = .ref a ∧ DGet H2 a y o ∧ Q (.bl (!o.isSome)) H2
end Z

set_option Elab.async false
set_option linter.all false
set_option maxRecDepth 100000
set_option maxHeartbeats 1000000
/-! a dict that was known is open again; == and != of dicts with an answer of either kind -/
namespace Z
open PySem PySem.Spec PyProof.Rows L2
section
variable {X : Cx} {st : Stmt} {t : TS}
/-- from here on the dict at d may be written again (it was none of the caller's known ones) -/
def tUnf (H0 : Hp) (t : TS) : TS := fun D σ H => ∃ d od u, H d = some (.frz od u) ∧ (∀ o' u', H0 d ≠ some (.frz o' u')) ∧ t D σ (upd H d u)
theorem ps_unf (h : PS X st t) : PS X st (tUnf X.H_0 t) := by
  refine ⟨fun pins s σ H D I q => ?_⟩
  obtain ⟨d, od, u, hd, hn, q⟩ := q
  exact h.run pins s σ _ D (I.unlock hd hn) q
end
/-- what == of two dicts of data gives -/
def eqvD (ks ls : List (Key × V)) (f g : Key → PyData) : Bool := ks.length == ls.length && ks.all fun p => (valV ls p.1).isSome && PyData.eqv (f p.1) (g p.1)
def rEqDG (K : PySem.W.Frag) (neg : Bool) : R2 := fun x y H Q => ∃ (a b : Addr) (ks ls : List (Key × V)) (f g : Key → PyData), x = .ref a ∧ y = .ref b ∧ Rd H a (.dK ks) ∧ Rd H b (.dK ls) ∧
  (∀ p ∈ ks, Dp K H p.2 (f p.1) ∧ SeqAt.shaped (f p.1) = true) ∧ (∀ p ∈ ls, Dp K H p.2 (g p.1) ∧ SeqAt.shaped (g p.1) = true) ∧ Q (.bl (if neg then !eqvD ks ls f g else eqvD ks ls f g)) H
section
variable {X : Cx} {pins : List (Addr × Obj)} {σ : L2.St} {H : Hp} {s : Shared}
end
end Z

set_option Elab.async false
set_option linter.all false
set_option maxRecDepth 100000
set_option maxHeartbeats 2000000
/-! sets of texts: set(names) of a list or a tuple, sorted(set(names)) -/
namespace Z
open PySem PySem.Spec PyProof.Rows L2
/-- the text that an entry holds -/
def enT (e : Int × Value) : Str := match e.2 with | .str x _ => x | _ => Str.empty
/-- an entry that holds a text, with its hash -/
def EnT (P : Program) (w : World) (e : Int × Value) : Prop := ∃ x tk, e.2 = .str x tk ∧ e.1 = (strKind P w).hash x
/-- the set at a has the texts zs -/
def TxSet (P : Program) (w : World) (h : Heap) (a : Addr) (zs : List Str) : Prop := ∃ o es ep tb,
  (h.get? a = some o ∧ o.ExactSet ∧ o.data = .set es ep tb) ∧ ((∀ e ∈ es.toList, EnT P w e) ∧ (es.toList.map enT).Perm zs ∧ zs.Nodup) ∧
    (es.size < scanBound ∧ tb.fits es.size = true) ∧ Ris tb.place.toList ∧ (w.params.followText "set-order" = true ∨ tb.led = true)
section
variable {P : Program} {w : World} {h h' : Heap} {a : Addr} {zs ys : List Str}
theorem TxSet.stay (R : TxSet P w h a zs) (k : ∀ o, h.get? a = some o → h'.get? a = some o) : TxSet P w h' a zs :=
  let ⟨o, es, ep, tb, ⟨ho, r1⟩, r2⟩ := R; ⟨o, es, ep, tb, ⟨k o ho, r1⟩, r2⟩
theorem TxSet.order (R : TxSet P w h a zs) (p : zs.Perm ys) : TxSet P w h a ys :=
  let ⟨o, es, ep, tb, r1, ⟨r2, r3, r4⟩, r5⟩ := R; ⟨o, es, ep, tb, r1, ⟨r2, r3.trans p, p.nodup_iff.mp r4⟩, r5⟩
theorem enT_is {e : Int × Value} (g : EnT P w e) (x : Str) : (strKind P w).is x e.2 = true ↔ enT e = x := by
  obtain ⟨y, tk, e1, _⟩ := g
  unfold enT
  rw [e1]
  show ((y == x) = true) ↔ _
  exact beq_iff_eq
theorem enT_all {l : List (Int × Value)} (g : ∀ e ∈ l, EnT P w e) : ElemsOf (strKind P w) l := by
  intro e he
  obtain ⟨y, tk, e1, e2⟩ := g e he
  refine ⟨⟨y, ?_, e2⟩, ?_⟩
  · rw [e1]; exact strKind_is P w y tk
  · rw [e1]; rfl
end
section
variable {P : Program} {w : World} {A : Around} {E : Value → Shared → Prop} {s : Shared} {a : Addr} {zs : List Str}
/-- what an add does after it found a place -/
theorem tx_tail {give : Bool → Sem Unit} (free : ∀ (b : Bool) (s1 : Shared) (T : Unit → Shared → Prop), T () s1 → wpAny (model P w) A (give b) T E s1)
    {o : Obj} {es l1 : Array (Int × Value)} {ep : Nat} {tb t1 : SetTable} {ys : List Str} {gone : Bool} {R : Option Bool → Shared → Prop}
    (at0 : s.heap.get? a = some o ∧ o.ExactSet ∧ o.data = .set es ep tb) (c1 : (∀ e ∈ l1.toList, EnT P w e) ∧ (l1.toList.map enT).Perm ys ∧ ys.Nodup) (c2 : l1.size < scanBound ∧ t1.fits l1.size = true)
    (c3 : Ris t1.place.toList) (c4 : w.params.followText "set-order" = true ∨ t1.led = true) (k : ∀ h1, s.heap.SameBut a h1 → TxSet P w h1 a ys → R (some true) { s with heap := h1 }) :
    wpAny (model P w) A (storeSet a l1 t1 >>= fun _ => if (!gone && t1.tooFull) = true then (give (relayAll t1 l1 (SetTable.grown l1.size)).2.2 >>= fun _ =>
      storeSet a (relayAll t1 l1 (SetTable.grown l1.size)).1 (relayAll t1 l1 (SetTable.grown l1.size)).2.1 >>= fun _ => pure (some true)) else pure (some true)) R E s := by
  obtain ⟨ho, ex, hd⟩ := at0
  obtain ⟨g, pm, nd⟩ := c1
  refine wpAny_bind (wpAny_storeSet_of ho hd ?_ (fits_of_scanBound c2.1))
  have at1 : (s.heap.update a (Obj.putSet l1 t1)).get? a = _ := store_at (es' := l1) (t' := t1) ho hd
  have same1 : s.heap.SameBut a (s.heap.update a (Obj.putSet l1 t1)) := Heap.SameBut.update ..
  by_cases full : (!gone && t1.tooFull) = true
  · rw [if_pos full]
    have p2 := relayAll_perm t1 l1 (SetTable.grown l1.size)
    have f2 := relayAll_fits t1 l1 (SetTable.grown l1.size)
    have r2 := relayAll_ris t1 l1 (SetTable.grown l1.size)
    have d2 := relayAll_led t1 l1 (SetTable.grown l1.size)
    revert p2 f2 r2 d2
    generalize relayAll t1 l1 (SetTable.grown l1.size) = out
    obtain ⟨l2, t2, gv⟩ := out
    intro p2 f2 r2 d2
    have n2 : l2.size = l1.size := by have := p2.length_eq; simpa using this
    have b2 : l2.size < scanBound := n2 ▸ c2.1
    refine wpAny_bind (free _ _ _ (wpAny_bind (wpAny_storeSet_of at1 rfl ?_ (fits_of_scanBound b2))))
    have at2 := store_at (es' := l2) (t' := t2) at1 rfl
    refine wpAny_pure (k _ (same1.trans (Heap.SameBut.update _ a _)) ⟨_, l2, _, t2, ⟨at2, ex, rfl⟩, ⟨fun e he => g e (p2.mem_iff.mp he), (p2.map enT).trans pm, nd⟩, ⟨b2, f2⟩, r2, ?_⟩)
    rcases c4 with c | c
    · exact .inl c
    · exact .inr (d2.trans c)
  · rw [if_neg full]
    exact wpAny_pure (k _ same1 ⟨_, l1, _, t1, ⟨at1, ex, rfl⟩, ⟨g, pm, nd⟩, c2, c3, c4⟩)
/-- a text is added -/
theorem tx_add {x : Str} {tk : Tok} {Q : Bool → Shared → Prop} (R : TxSet P w s.heap a zs) (room : zs.length + 1 < scanBound)
    (k : ∀ h1, s.heap.SameBut a h1 → TxSet P w h1 a (if x ∈ zs then zs else x :: zs) → Q (!decide (x ∈ zs)) { s with heap := h1 }) :
    wpAny (model P w) A (setAddHashed a (.str x tk) ((strKind P w).hash x)) Q E s := by
  obtain ⟨o, es, ep, tb, ⟨ho, ex, hd⟩, ⟨g, pm, nd⟩, ⟨bd, ft⟩, rs, ld⟩ := id R
  have key : (strKind P w).is x (.str x tk) = true := strKind_is P w x tk
  have els := enT_all g
  have scan : (Value.str x tk).scannable = true := rfl
  unfold setAddHashed setAddHashedIn
  refine wpAny_holding (wpAny_bind (wpAny_setState_of ho hd ft ?_))
  dsimp only
  rw [byScan_of scan bd els, if_pos rfl]
  unfold setAddByScan
  refine wpAny_bind (wpAny_bind (wpAny_rule (wpAny_bind (wpAny_setScan_of key ho hd ft els ?_))))
  have mem : x ∈ zs ↔ ∃ e ∈ es.toList, (strKind P w).is x e.2 = true := by
    rw [← pm.mem_iff, List.mem_map]
    exact ⟨fun ⟨e, he, q⟩ => ⟨e, he, (enT_is (g e he) x).mpr q⟩, fun ⟨e, he, q⟩ => ⟨e, he, (enT_is (g e he) x).mp q⟩⟩
  cases hf : es.toList.findIdx? (fun e => (strKind P w).is x e.2) with
  | some j =>
    obtain ⟨lt, q, _⟩ := List.findIdx?_eq_some_iff_getElem.mp hf
    have hx : x ∈ zs := mem.mpr ⟨_, List.getElem_mem lt, q⟩
    have k0 := k s.heap (Heap.SameBut.refl ..) (by rw [if_pos hx]; exact R)
    rw [decide_eq_true hx] at k0
    exact wpAny_pure (wpAny_pure k0)
  | none =>
    have hx : x ∉ zs := fun z => by
      obtain ⟨e, he, q⟩ := mem.mp z
      rw [List.findIdx?_eq_none_iff.mp hf e he] at q
      exact Bool.noConfusion q
    dsimp only
    have p1 := layNew_perm tb es ((strKind P w).hash x) (.str x tk)
    have f1 := layNew_fits tb es ((strKind P w).hash x) (.str x tk)
    have r1 := layNew_ris tb es ((strKind P w).hash x) (.str x tk) rs
    have d1 := layNew_led tb es ((strKind P w).hash x) (.str x tk)
    revert p1 f1 r1 d1
    generalize layNew tb es ((strKind P w).hash x) (.str x tk) = out
    obtain ⟨l1, t1, gone, gv⟩ := out
    intro p1 f1 r1 d1
    dsimp only at p1 f1 r1 d1 ⊢
    have q1 : l1.toList.Perm (((strKind P w).hash x, .str x tk) :: es.toList) := by
      rw [Array.toList_push] at p1
      exact p1.trans (List.perm_append_singleton _ _)
    have G1 : ∀ e ∈ l1.toList, EnT P w e := fun e he => (List.mem_cons.mp (q1.mem_iff.mp he)).elim (fun z => ⟨x, tk, by rw [z], by rw [z]⟩) (g e)
    have m1 : (l1.toList.map enT).Perm (x :: zs) := (q1.map enT).trans (.cons x pm)
    have n1 : (x :: zs).Nodup := List.nodup_cons.mpr ⟨hx, nd⟩
    have z1 : l1.size < scanBound := by
      have u := m1.length_eq
      rw [List.length_map, Array.length_toList, List.length_cons] at u
      rw [u]
      exact room
    have e1 : w.params.followText "set-order" = true ∨ t1.led = true := ld.elim .inl fun z => .inr (d1.trans z)
    have fin : ∀ h1, s.heap.SameBut a h1 → TxSet P w h1 a (x :: zs) → Q true { s with heap := h1 } := fun h1 u v => by
      have y := k h1 u (by rw [if_neg hx]; exact v)
      rw [decide_eq_false hx] at y
      exact y
    have nop : ∀ (b : Bool) (s1 : Shared) (T : Unit → Shared → Prop), T () s1 → wpAny (model P w) A (match b with | true => rule "set.scan.the-table-gave-way" | false => pure ()) T E s1 := by
      intro b s1 T y
      cases b
      · exact wpAny_pure y
      · exact wpAny_rule y
    refine wpAny_bind (nop gv _ _ ?_)
    by_cases pl : t1.plain = true
    · rw [if_pos pl]
      refine wpAny_bind ?_
      rw [hashByValue_scannable 8 scan]
      refine wpAny_pure (tx_tail (ys := x :: zs) nop ⟨ho, ex, hd⟩ ⟨G1, m1, n1⟩ ⟨z1, ?_⟩ ?_ ?_ fun h1 u v => wpAny_pure (fin h1 u v))
      all_goals split
      · exact f1
      · exact SetTable.fits_plain_off f1
      · exact r1
      · exact r1
      · exact e1
      · exact e1
    · rw [if_neg pl]
      refine wpAny_bind (wpAny_pure ?_)
      rw [if_pos rfl]
      exact tx_tail (ys := x :: zs) nop ⟨ho, ex, hd⟩ ⟨G1, m1, n1⟩ ⟨z1, f1⟩ r1 e1 fun h1 u v => wpAny_pure (fin h1 u v)
end

/-- the texts met, each once (the last first) -/
def ddp (xs : List Str) : List Str := xs.foldl (fun l z => if z ∈ l then l else z :: l) []
theorem ddp_snoc (xs : List Str) (z : Str) : ddp (xs ++ [z]) = if z ∈ ddp xs then ddp xs else z :: ddp xs := by unfold ddp; rw [List.foldl_append]; rfl
theorem ddp_len : ∀ xs : List Str, (ddp xs).length ≤ xs.length := by
  intro xs
  rw [← xs.reverse_reverse]
  generalize xs.reverse = m
  induction m with
  | nil => exact Nat.le_refl _
  | cons x m ih =>
    rw [List.reverse_cons, ddp_snoc, List.length_append, List.length_singleton]
    split
    · omega
    · rw [List.length_cons]; omega
section
variable {P : Program} {w : World} {A : Around} {I : Addr} {fp wr : List Addr} {G : Array GenState → Array GenState → Prop} {n : Nat} {Pv : Nat → Value → Prop} {St : Nat → Shared → Prop} {R : Result → Shared → Prop}
theorem tx_update (W : WalksS P w A.in1 I fp wr G n Pv St) {S : Addr} (out : S ∉ fp) {xs : List Str} (len : xs.length = n) (few : n + 1 < scanBound) (val : ∀ i v, Pv i v → ∃ z tk, xs[i]? = some z ∧ v = .str z tk) :
    ∀ (m i : Nat) (s : Shared), m + i = n → St i s → TxSet P w s.heap S (ddp (xs.take i)) → (∀ s', Moved (S :: wr) G s s' → TxSet P w s'.heap S (ddp xs) → R (.ok (.ret .none)) s') → codeAny (model P w) A (.builtin "set.update.loop" ⟨[.ref S, .ref I], []⟩) R s := by
  have nw : S ∉ wr := fun z => out (W.sub _ z)
  have up : ∀ b ∈ wr, b ∈ S :: wr := fun b z => .tail _ z
  intro m
  induction m with
  | zero =>
    intro i s hi st T k
    obtain rfl : i = n := by omega
    refine codeAny_builtin F.entry_set_update_loop ?_
    rw [Around.under_plainId F.plain_set_update_loop]
    refine wpAny_bind (W.done s _ _ st fun s1 mv => wpAny_pure (k s1 (mv.mono up) ?_))
    rw [← len, List.take_length] at T
    exact T.stay fun o e => mv.heap S o nw e
  | succ m ih =>
    intro i s hi st T k
    refine codeAny_builtin F.entry_set_update_loop ?_
    rw [Around.under_plainId F.plain_set_update_loop]
    refine wpAny_bind (W.item i s _ _ (by omega) st fun v s1 pv st1 mv => ?_)
    obtain ⟨z, tk, hz, rfl⟩ := val i v pv
    have T1 : TxSet P w s1.heap S (ddp (xs.take i)) := T.stay fun o e => mv.heap S o nw e
    refine wpAny_bind (wpAny_holding ?_)
    unfold setAdd
    refine wpAny_holding (wpAny_bind ((strKind P w).pyHash (k := z) (strKind_is P w z tk) ?_))
    have few1 : (ddp (xs.take i)).length + 1 < scanBound := by
      have u := ddp_len (xs.take i)
      rw [List.length_take] at u
      omega
    refine tx_add (s := { s1 with toks := s1.toks + 1 }) T1 few1 fun h1 sb T2 => ?_
    have nx : ddp (xs.take (i + 1)) = if z ∈ ddp (xs.take i) then ddp (xs.take i) else z :: ddp (xs.take i) := by rw [List.take_add_one, hz]; exact ddp_snoc _ z
    rw [← nx] at T2
    refine wpAny_pure ⟨plainId_quiet F.plain_set_update_loop _, ih (i + 1) _ (by omega) (W.frame _ s1 _ _ st1 (Nat.le_succ _) fun b hb o e => ?_) T2 fun s2 mv2 T3 => k s2 (Moved.trans W.gtrans ((mv.mono up).then_heap (Nat.le_succ _) fun b o hb e => ?_) mv2) T3⟩
    · exact (sb.2 b fun y => out (y ▸ hb)).trans e
    · exact (sb.2 b fun y => hb (y ▸ List.mem_cons_self)).trans e
end

/-- a new set -/
abbrev newS (w : World) : Obj := { cls := .type "set", dict := none, data := .set #[] 0 (.fresh 0 0 (!w.params.followText "set-order")) }
section
variable {P : Program} {w : World} {A : Around} {E : Value → Shared → Prop} {s : Shared}
theorem tx_new {h : Heap} {a : Addr} (e : h.get? a = some (newS w)) : TxSet P w h a [] := by
  have led : w.params.followText "set-order" = true ∨ (SetTable.fresh 0 0 (!w.params.followText "set-order")).led = true := by
    cases z : w.params.followText "set-order"
    · exact .inr rfl
    · exact .inl rfl
  unfold TxSet
  refine ⟨newS w, #[], 0, SetTable.fresh 0 0 (!w.params.followText "set-order"), ⟨e, ?_, rfl⟩, ⟨?_, ?_, List.nodup_nil⟩, ⟨?_, ?_⟩, ?_, led⟩
  · exact ⟨rfl, rfl, rfl⟩
  · intro x hx
    simp at hx
  · exact .nil
  · show (0 : Nat) < scanBound
    decide
  · rfl
  · exact .nil

set_option maxHeartbeats 8000000 in
theorem tx_setL {l : Addr} {items : Array Value} {xs : List Str} {Q : Value → Shared → Prop} (calm : A.handled = none) (hl : s.heap.IsList l items) (hi : StrsAre items.toList xs) (few : xs.length + 1 < scanBound)
    (k : ∀ (h1 : Heap) (tk : Nat), TxSet P w h1 s.heap.objs.size (ddp xs) → (∀ b o, s.heap.get? b = some o → h1.get? b = some o) → Q (.ref s.heap.objs.size) { s with heap := h1, toks := tk }) :
    wpAny (model P w) A (call (.type "set") [.ref l]) Q E s := by
  have szi : xs.length = items.size := by rw [← Array.length_toList]; exact (StrsAre.len_eq hi).symm
  obtain ⟨mc, mt, mro⟩ := F.called_set.mro
  have w1 := F.called_set.made
  have w2 := F.called_set.sub
  have w3 := F.called_set.notType
  have w4 := F.called_set.canCreate
  have w5 := F.typeCall_set_1 (.ref l)
  have w6 := F.called_set.init.lookup
  refine wpAny_call (codeAny_of_tree (wpAny_pure ⟨Code.quiet_builtin _ (by decide +kernel), codeAny_builtin F.entry_type_call ?_⟩))
  rw [Around.under_plain (weight_type_call_type "set" [.ref l] []) rfl]
  repeat (any_goals (first | assumption | wp_step))
  refine codeAny_mono (code_set_led1 (.ref l) (E := E) (Q₁ := fun v s1 => v = .ref s.heap.objs.size ∧ s1 = { s with heap := s.heap.push (newS w) }) ⟨rfl, rfl⟩) fun r s1 hr => ?_
  rcases r with e | fl
  · exact hr
  cases fl with
  | ret v =>
    obtain ⟨rfl, rfl⟩ := hr
    have hS : (s.heap.push (newS w)).get? s.heap.objs.size = some (newS w) := Heap.get?_push_size _ rfl
    have tS : ({ s with heap := s.heap.push (newS w) } : Shared).TypeIs (.ref s.heap.objs.size) "set" := ⟨_, hS, rfl⟩
    have w7 := F.called_set.init.bind (.ref s.heap.objs.size)
    repeat (any_goals (first | assumption | wp_step))
    refine codeAny_mono (codeAny_call_builtin (R := wants (fun v s2 => v = .none ∧ ∃ h1 tk, s2 = { s with heap := h1, toks := tk } ∧ TxSet P w h1 s.heap.objs.size (ddp xs) ∧ ∀ b o, s.heap.get? b = some o → h1.get? b = some o) E)
      F.called_set.init.plain F.entry_set_init (check_set_init_1 tS ?_)) fun r2 s2 hr2 => ?_
    · have hl1 : (s.heap.push (newS w)).IsList l items := hl.push _
      obtain ⟨⟨ocl, odi, oda, osl⟩, ol, oc, on, od⟩ := id hl
      cases oc
      cases od
      have ol1 := Heap.get?_push_of_some (newS w) ol
      have lt := Heap.lt_size ol
      have n1 := F.sub_list_set
      have n2 := F.sub_list_frozenset
      have n3 : (Value.type "list" == Value.type "dict") = false := by decide
      unfold Builtin.«set.__init__» noKeywords Builtin.Frozenset.updateFrom
      generalize it0 : pyIter = PI
      wp_walk
      subst it0
      refine wpAny_pyIter_list hl1 (wpAny_bind (wpAny_runValue ?_))
      have sz1 : (s.heap.push (newS w)).objs.size = s.heap.objs.size + 1 := Heap.size_push ..
      have ne1 : l ≠ (s.heap.push (newS w)).objs.size := by rw [sz1]; exact Nat.ne_of_lt (Nat.lt_succ_of_lt lt)
      have calm1 : A.in1.in1.in1.handled = none := by simp [calm]
      refine tx_update ((Walks.list calm1 _ l ne1 items).toS) (S := s.heap.objs.size) (by
          rw [sz1]
          intro z
          rcases List.mem_cons.mp z with z | z
          · exact Nat.ne_of_lt (Nat.lt_succ_self _) z
          · exact Nat.ne_of_gt lt (List.mem_singleton.mp z)) szi (by rw [← szi]; exact few) (fun i v hv => ?_) items.size 0 _ (by omega) ⟨⟨_, Heap.get?_push_size _ rfl, rfl, rfl⟩, hl1.push _⟩ (tx_new (Heap.get?_push_of_some _ hS)) fun s3 mv T => ?_
      · obtain ⟨tk, e⟩ := SS.strs_at hi i v (by rw [Array.getElem?_toList]; exact hv)
        have li : i < xs.length := by rw [szi]; exact (Array.getElem?_eq_some_iff.mp hv).1
        exact ⟨xs[i], tk, List.getElem?_eq_getElem li, by rw [e, List.getD_eq_getElem?_getD, List.getElem?_eq_getElem li]; rfl⟩
      · obtain ⟨h3, g3, d3, t3, o3⟩ := s3
        obtain rfl : g3 = s.gens := mv.gens
        obtain rfl : d3 = s.drawn := mv.drawn
        obtain rfl : o3 = s.os := mv.os
        refine wpAny_pure (wpAny_pure ⟨rfl, h3, t3, rfl, T, fun b o e => mv.heap b o (fun z => ?_) (Heap.get?_push_of_some _ (Heap.get?_push_of_some _ e))⟩)
        have lb := Heap.lt_size e
        rcases List.mem_cons.mp z with z | z
        · exact Nat.ne_of_lt lb z
        · rw [List.mem_singleton.mp z, sz1] at lb
          exact absurd lb (Nat.not_lt_of_lt (Nat.lt_succ_self _))
    · rcases r2 with e | fl2
      · exact hr2
      cases fl2 with
      | ret v =>
        obtain ⟨rfl, h1, tk, rfl, T, kp⟩ := hr2
        repeat (any_goals (first | assumption | wp_step))
        exact k _ _ T kp
      | _ => exact hr2.elim
  | _ => exact hr.elim

set_option maxHeartbeats 8000000 in
theorem tx_setT {l : Addr} {items : Array Value} {xs : List Str} {Q : Value → Shared → Prop} (calm : A.handled = none) (hl : s.heap.IsTuple l items) (hi : StrsAre items.toList xs) (few : xs.length + 1 < scanBound)
    (k : ∀ (h1 : Heap) (tk : Nat), TxSet P w h1 s.heap.objs.size (ddp xs) → (∀ b o, s.heap.get? b = some o → h1.get? b = some o) → Q (.ref s.heap.objs.size) { s with heap := h1, toks := tk }) :
    wpAny (model P w) A (call (.type "set") [.ref l]) Q E s := by
  have szi : xs.length = items.size := by rw [← Array.length_toList]; exact (StrsAre.len_eq hi).symm
  obtain ⟨mc, mt, mro⟩ := F.called_set.mro
  have w1 := F.called_set.made
  have w2 := F.called_set.sub
  have w3 := F.called_set.notType
  have w4 := F.called_set.canCreate
  have w5 := F.typeCall_set_1 (.ref l)
  have w6 := F.called_set.init.lookup
  refine wpAny_call (codeAny_of_tree (wpAny_pure ⟨Code.quiet_builtin _ (by decide +kernel), codeAny_builtin F.entry_type_call ?_⟩))
  rw [Around.under_plain (weight_type_call_type "set" [.ref l] []) rfl]
  repeat (any_goals (first | assumption | wp_step))
  refine codeAny_mono (code_set_led1 (.ref l) (E := E) (Q₁ := fun v s1 => v = .ref s.heap.objs.size ∧ s1 = { s with heap := s.heap.push (newS w) }) ⟨rfl, rfl⟩) fun r s1 hr => ?_
  rcases r with e | fl
  · exact hr
  cases fl with
  | ret v =>
    obtain ⟨rfl, rfl⟩ := hr
    have hS : (s.heap.push (newS w)).get? s.heap.objs.size = some (newS w) := Heap.get?_push_size _ rfl
    have tS : ({ s with heap := s.heap.push (newS w) } : Shared).TypeIs (.ref s.heap.objs.size) "set" := ⟨_, hS, rfl⟩
    have w7 := F.called_set.init.bind (.ref s.heap.objs.size)
    repeat (any_goals (first | assumption | wp_step))
    refine codeAny_mono (codeAny_call_builtin (R := wants (fun v s2 => v = .none ∧ ∃ h1 tk, s2 = { s with heap := h1, toks := tk } ∧ TxSet P w h1 s.heap.objs.size (ddp xs) ∧ ∀ b o, s.heap.get? b = some o → h1.get? b = some o) E)
      F.called_set.init.plain F.entry_set_init (check_set_init_1 tS ?_)) fun r2 s2 hr2 => ?_
    · have hl1 : (s.heap.push (newS w)).IsTuple l items := hl.push _
      obtain ⟨⟨ocl, odi, oda, osl⟩, ol, oc, on, od⟩ := id hl
      cases oc
      cases od
      have ol1 := Heap.get?_push_of_some (newS w) ol
      have lt := Heap.lt_size ol
      have n1 := F.sub_tuple_set
      have n2 := F.sub_tuple_frozenset
      have n3 : (Value.type "tuple" == Value.type "dict") = false := by decide
      unfold Builtin.«set.__init__» noKeywords Builtin.Frozenset.updateFrom
      generalize it0 : pyIter = PI
      wp_walk
      subst it0
      refine wpAny_pyIter_tuple hl1 (wpAny_bind (wpAny_runValue ?_))
      have sz1 : (s.heap.push (newS w)).objs.size = s.heap.objs.size + 1 := Heap.size_push ..
      have ne1 : l ≠ (s.heap.push (newS w)).objs.size := by rw [sz1]; exact Nat.ne_of_lt (Nat.lt_succ_of_lt lt)
      have calm1 : A.in1.in1.in1.handled = none := by simp [calm]
      refine tx_update ((Walks.tuple calm1 _ l ne1 items).toS) (S := s.heap.objs.size) (by
          rw [sz1]
          intro z
          rcases List.mem_cons.mp z with z | z
          · exact Nat.ne_of_lt (Nat.lt_succ_self _) z
          · exact Nat.ne_of_gt lt (List.mem_singleton.mp z)) szi (by rw [← szi]; exact few) (fun i v hv => ?_) items.size 0 _ (by omega) ⟨⟨_, Heap.get?_push_size _ rfl, rfl, rfl⟩, hl1.push _⟩ (tx_new (Heap.get?_push_of_some _ hS)) fun s3 mv T => ?_
      · obtain ⟨tk, e⟩ := SS.strs_at hi i v (by rw [Array.getElem?_toList]; exact hv)
        have li : i < xs.length := by rw [szi]; exact (Array.getElem?_eq_some_iff.mp hv).1
        exact ⟨xs[i], tk, List.getElem?_eq_getElem li, by rw [e, List.getD_eq_getElem?_getD, List.getElem?_eq_getElem li]; rfl⟩
      · obtain ⟨h3, g3, d3, t3, o3⟩ := s3
        obtain rfl : g3 = s.gens := mv.gens
        obtain rfl : d3 = s.drawn := mv.drawn
        obtain rfl : o3 = s.os := mv.os
        refine wpAny_pure (wpAny_pure ⟨rfl, h3, t3, rfl, T, fun b o e => mv.heap b o (fun z => ?_) (Heap.get?_push_of_some _ (Heap.get?_push_of_some _ e))⟩)
        have lb := Heap.lt_size e
        rcases List.mem_cons.mp z with z | z
        · exact Nat.ne_of_lt lb z
        · rw [List.mem_singleton.mp z, sz1] at lb
          exact absurd lb (Nat.not_lt_of_lt (Nat.lt_succ_self _))
    · rcases r2 with e | fl2
      · exact hr2
      cases fl2 with
      | ret v =>
        obtain ⟨rfl, h1, tk, rfl, T, kp⟩ := hr2
        repeat (any_goals (first | assumption | wp_step))
        exact k _ _ T kp
      | _ => exact hr2.elim
  | _ => exact hr.elim
end
end Z

set_option Elab.async false
set_option linter.all false
set_option maxRecDepth 100000
set_option maxHeartbeats 2000000
/-! sets of texts as rules: set(xs), sorted(set) -/
namespace Z
open PySem PySem.Spec PyProof.Rows L2
/-- the set of texts at a, as a thing of the heap -/
def TxO (P : Program) (w : World) (a : Addr) (zs : List Str) : HO := .ext fun h => TxSet P w h a zs
theorem txO_new {P : Program} {w : World} {H : Hp} {h : Heap} {a : Addr} {zs : List Str} (R : TxSet P w h a zs) : ObjOk P w H h a (TxO P w a zs) := by
  obtain ⟨o, _, _, _, ⟨ho, _⟩, _⟩ := id R
  exact ⟨R, ⟨o, ho⟩, fun h1 h2 p k => TxSet.stay p k⟩
section
variable {X : Cx}
/-- set(xs) of a list or a tuple of texts -/
def rSetX (P : Program) (w : World) (K : PySem.W.Frag) : List V → Hp → VK → Prop := fun xs H Q => ∃ (l : Addr) (zs : List Str), xs = [.ref l] ∧ SqA K H l (zs.map V.str) ∧ zs.length < 1000 ∧ ∀ p, H p = none → Q (.ref p) (upd H p (TxO P w p (ddp zs)))
theorem cr_setX (hc : X.calm = true) : CallR X (.type "set") (rSetX X.prog X.w X.K) := by
  intro pins s σ H xs us Q I r h
  obtain ⟨l, zs, rfl, hl, few, q⟩ := h
  obtain rfl := Vals.ref1 r
  have few1 : zs.length + 1 < scanBound := Nat.lt_of_lt_of_le (Nat.succ_lt_succ few) (by decide)
  have fin : ∀ (h1 : Heap) (tk : Nat), TxSet X.prog X.w h1 s.heap.objs.size (ddp zs) → (∀ b o, s.heap.get? b = some o → h1.get? b = some o) → EP X pins σ Q (.ref s.heap.objs.size) { s with heap := h1, toks := tk } := fun h1 tk T kp =>
    ⟨.ref s.heap.objs.size, _, I.laid kp (Nat.le_refl _) (txO_new T), rfl, q _ (I.hok.fresh (Nat.le_refl _))⟩
  rcases hl with hl | hl
  · obtain ⟨its, rv, pl, _⟩ := I.list hl
    exact tx_setL (I.ok.hd hc) pl.isList (by rw [show its.toArray.toList = its by simp]; exact rv.strs) few1 fin
  · obtain ⟨its, rv, pl, _⟩ := I.tuple hl
    exact tx_setT (I.ok.hd hc) pl (by rw [show its.toArray.toList = its by simp]; exact rv.strs) few1 fin
/-- sorted of a set of texts -/
def rSortX (P : Program) (w : World) : List V → Hp → VK → Prop := fun vs H Q => ∃ (a : Addr) (zs : List Str), vs = [.ref a] ∧ H a = some (TxO P w a zs) ∧ zs.length < 64 ∧
  ∀ p H', H p = none → Same H H' → (∀ b, b ≠ p → H' b = H b) → H' p = some (.lst ((srt zs).map V.str)) → Q (.ref p) H'
theorem strs_of_en {P : Program} {w : World} : ∀ {l : List (Int × Value)}, (∀ e ∈ l, EnT P w e) → StrsAre (l.map (·.2)) (l.map enT)
  | [], _ => .nil
  | e :: l, g => by
    obtain ⟨x, tk, e1, _⟩ := g e List.mem_cons_self
    have ih := strs_of_en fun y hy => g y (List.mem_cons_of_mem _ hy)
    show StrsAre (e.2 :: _) (enT e :: _)
    unfold enT
    rw [e1]
    exact .cons x tk ih
theorem strs_perm {us vs : List Value} (p : us.Perm vs) : ∀ {xs : List Str}, StrsAre vs xs → ∃ ys, StrsAre us ys ∧ ys.Perm xs := by
  induction p with
  | nil => intro xs h; exact ⟨xs, h, .refl _⟩
  | cons u _ ih =>
    intro xs h
    cases h with
    | cons x t hr =>
      obtain ⟨ys, a, b⟩ := ih hr
      exact ⟨_, .cons x t a, b.cons x⟩
  | swap u v l =>
    intro xs h
    cases h with
    | cons x t hr =>
      cases hr with
      | cons y t2 hr2 => exact ⟨_, .cons y t2 (.cons x t hr2), List.Perm.swap x y _⟩
  | trans _ _ ih1 ih2 =>
    intro xs h
    obtain ⟨ys, a, b⟩ := ih2 h
    obtain ⟨zs, c, d⟩ := ih1 a
    exact ⟨zs, c, d.trans b⟩
theorem cr_sortX (hc : X.calm = true) : CallR X (.builtin "sorted") (rSortX X.prog X.w) := by
  intro pins s σ H vs us Q I r h
  obtain ⟨a, zs, rfl, ha, few, q⟩ := h
  obtain rfl := Vals.ref1 r
  obtain ⟨o, es, ep, tb, ⟨ho, ex, hd⟩, ⟨g, pm, nd⟩, ⟨bd, ft⟩, rs, ld⟩ := (I.hok a _ ha).1
  refine Calls.call_function_entry PyProof.Rows.kind_sorted PyProof.Rows.plain_sorted PyProof.Rows.entry_sorted (PyProof.Rows.args_sorted1 _) ?_
  unfold Builtin.«sorted»
  refine wpAny_bind (m := checkCount "sorted" 1 1 _) (wpAny_pure ?_)
  refine wpAny_bind (collect_set (A := X.A.in1) (I.ok.hd hc) ⟨o, ho, ex.1, hd⟩ ft bd rs ld fun s1 its kp sz g1 o1 pi => ?_)
  obtain ⟨ys, hS, py⟩ := strs_perm pi (strs_of_en g)
  have pz : ys.Perm zs := py.trans pm
  have ln : its.length < 64 := by rw [StrsAre.len_eq hS, pz.length_eq]; exact few
  have big : (64 : Nat) < sizeLine := by rw [sizeLine_eq]; decide
  refine wpAny_bind (wpAny_newList ?_ (by omega))
  have oL : (s1.heap.push (seqObj "list" its.toArray 0)).get? s1.heap.objs.size = some (seqObj "list" its.toArray 0) := Heap.get?_push_size _ rfl
  refine wpAny_bind (wpAny_holding (wpAny_call_entry PyProof.Rows.slot_list_sort ⟨_, oL, rfl⟩ PyProof.Rows.entry_list_sort (list_sort_treeK strKind_oneLt (s := { s1 with heap := s1.heap.push (seqObj "list" its.toArray 0) }) oL hS.keysOf
    (fun v₁ v₂ rest e => keyKind_strs (by rw [← e]; exact hS)) ln fun st hp hs => ⟨_, rfl, ?_⟩) (PyProof.Rows.args_list_sort _)))
  obtain ⟨zs', u1, u2, u3⟩ := sorted_out_str hS hp hs
  have ez : zs' = srt zs := (srt_eq u2 u3).trans (sort_uniq ((srt_perm ys).trans (pz.trans (srt_perm zs).symm)) (srt_pw ys) (srt_pw zs))
  subst ez
  obtain ⟨c, hc'⟩ := PyProof.Rows.sortedHeap_at (vs := its) (out := (arrOf st).map (·.2)) oL
  have l2 : ((srt zs).map V.str).length ≤ sizeLine := by rw [List.length_map, (srt_perm zs).length_eq]; omega
  have fr : H s1.heap.objs.size = none := I.hok.fresh sz
  have kp2 : ∀ b u, s.heap.get? b = some u → (PyProof.Rows.sortedHeap (s1.heap.push (seqObj "list" its.toArray 0)) s1.heap.objs.size its ((arrOf st).map (·.2))).get? b = some u := fun b u e => by
    have y := kp b u e
    have lb := Heap.lt_size y
    rw [PyProof.Rows.sortedHeap_old (Nat.ne_of_lt lb) (by rw [size_push']; exact Nat.lt_succ_of_lt lb)]
    exact Heap.get?_push_of_some _ y
  have J : Inv X pins σ (upd H s1.heap.objs.size (.lst ((srt zs).map V.str))) { s1 with heap := PyProof.Rows.sortedHeap (s1.heap.push (seqObj "list" its.toArray 0)) s1.heap.objs.size its ((arrOf st).map (·.2)) } :=
    I.call' (ch := []) o1 (Un.laid kp2 sz fr) (I.hok.laid kp2 sz ⟨l2, ((arrOf st).map (·.2)).toList, c, vals_of_strs u1, by rw [Array.toArray_toList]; exact hc'⟩) (by show AllBare s1.gens; rw [g1]; exact I.bare) (fun _ z => nomatch z)
  exact wpAny_pure ⟨_, rfl, .ref s1.heap.objs.size, _, J, rfl, q _ _ fr (fun b o e => by rw [upd_ne (ne_of_none e fr)]; exact e) (fun b hb => upd_ne hb) upd_same⟩
end
end Z

set_option Elab.async false
set_option linter.all false
set_option maxRecDepth 100000
set_option maxHeartbeats 1000000
/-! a new dict known at once; d.items() walked -/
namespace Z
open PySem PySem.Spec PyProof.Rows L2
/-- what e makes is known from here on -/
def tFrzE (te : TE) : TE := fun σ H Q => te σ H fun x H1 => ∃ d u, x = .ref d ∧ H1 d = some u ∧ Mut (some u) ∧ ∀ od, Q x (upd H1 d (.frz od u))
section
variable {K : PySem.W.Frag} {σ : L2.St} {H H0 : Hp} {D : Ends} {te td tx : TE} {tt : TT} {g : TG} {Q : VK} {a d : Addr} {o : Obj} {zs : List Str} {f : Str → V}
def rFrzE (x : V) (H1 : Hp) (Q : VK) : Prop := ∃ d u, x = .ref d ∧ H1 d = some u ∧ Mut (some u) ∧ ∀ od, Q x (upd H1 d (.frz od u))
def rLcItems (g : TG) (tt : TT) (te : TE) (vs : List Nat) (σ : L2.St) (Q : VK) (x : V) (H1 : Hp) : Prop := ∃ d o kvs, x = .ref d ∧ H1 d = some (.frz o (.dK kvs)) ∧ rLcJ (Iti d o kvs) g tt te vs σ Q H1
end
/-- len of a dict, known or not -/
def rLenR : List V → Hp → VK → Prop := fun xs H Q => ∃ a kvs, xs = [V.ref a] ∧ Rd H a (.dK kvs) ∧ Q (.int (kvs.length : Nat)) H
end Z

set_option Elab.async false
set_option linter.all false
set_option maxRecDepth 100000
set_option maxHeartbeats 1000000
/-! isinstance(e, c), e the caught error -/
namespace Z
open PySem PySem.Spec PyProof.Rows L2
def rIsXe (K : PySem.W.Frag) (a : Addr) (cls : Value) (d : Option Addr) : List V → Hp → VK → Prop := fun xs H Q => ∃ (D : Addr) (c : V) (u : Value) (b : Bool), xs = [.ref a, c] ∧ ClsV c u ∧ ExcC K D ∧ cls = .ref D ∧ (∀ dd, d = some dd → ∃ fs, H dd = some (.xd fs)) ∧ PySem.W.kitOne K (.ref D) u = some b ∧ Q (.bl b) H
end Z
namespace Z
open PySem PySem.Spec PyProof.Rows L2
end Z

set_option Elab.async false
set_option linter.all false
set_option maxRecDepth 100000
set_option maxHeartbeats 1000000
/-! dicts compared by !=, with an answer of either kind -/
namespace Z
open PySem PySem.Spec PyProof.Rows L2
section
variable {X : Cx}
end
end Z

set_option Elab.async false
set_option linter.all false
set_option maxRecDepth 100000
set_option maxHeartbeats 1000000
/-! an own object == a dict that is known -/
namespace Z
open PySem PySem.Spec PyProof.Rows L2
section
variable {X : Cx} {C f : Addr} {sp : Sp} {k j : Nat}
def rOwnCF (K : PySem.W.Frag) (C : Addr) (sp : Sp) : R2 := fun x y H Q => ∃ a dx fs b o kvs, x = .ref a ∧ H a = some (.ins C dx fs) ∧ y = .ref b ∧ H b = some (.frz o (.dK kvs)) ∧ PySem.W.notFirst K C (.type "dict") = true ∧
  sp [x, y] H Q (fun _ _ _ => False)
end
end Z

set_option Elab.async false
set_option linter.all false
set_option maxRecDepth 100000
set_option maxHeartbeats 1000000
/-! xs[::2], xs[1::2]; a dict comprehension over zip -/
namespace Z
open PySem PySem.Spec PyProof.Rows L2
def evL {α : Type} : List α → List α
  | [] => []
  | [x] => [x]
  | x :: _ :: r => x :: evL r
section
variable {X : Cx}
def tEv (K : PySem.W.Frag) (j : Nat) (te : TE) : TE := fun σ H Q => te σ H fun x H1 => ∃ a xs, x = .ref a ∧ SqL K H1 a xs ∧ ∀ p, H1 p = none → Q (.ref p) (upd H1 p (.lst (evL (xs.drop j))))
def rEv (K : PySem.W.Frag) (j : Nat) (x : V) (H1 : Hp) (Q : VK) : Prop := ∃ a xs, x = .ref a ∧ SqL K H1 a xs ∧ ∀ p, H1 p = none → Q (.ref p) (upd H1 p (.lst (evL (xs.drop j))))
end
end Z
namespace Z
open PySem PySem.Spec PyProof.Rows L2
section
variable {K : PySem.W.Frag} {g : TG} {tt : TT} {tk tv : TE} {σ : L2.St} {H H0 : Hp} {Q : VK}
/-- a dict comprehension over J -/
def rDcJ (J : It) (g : TG) (tt : TT) (tk tv : TE) (vs : List Nat) (σ : L2.St) (Q : VK) (H1 : Hp) : Prop := ∀ D, H1 D = none → ∃ W : Nat → Nat → Hp → Prop, (∃ m, W 0 m (upd H1 D (.dK []))) ∧ ∀ i m H, W i m H →
  (J.stop i H ∧ Q (.ref D) H) ∨ (J.go i H ∧ ∃ Nx : Hp → Prop, (∀ H', Nx H' → ∃ m', m' < m ∧ W (i + 1) m' H') ∧ ∀ x H', J.yld i H x H' → g x (wipe σ vs) H' fun σ2 H2 => wipe σ2 vs = wipe σ vs ∧ tt σ2 H2 fun b H3 =>
    if b = true then tk σ2 H3 fun y H4 => tv σ2 H4 fun z H5 => ∃ kvs k, y = kV k ∧ H5 D = some (.dK kvs) ∧ kvs.length < sizeLine ∧ Nx (upd H5 D (.dK (putK kvs k z))) else Nx H3)
def rDcZip (K : PySem.W.Frag) (g : TG) (tt : TT) (tk tv : TE) (vs : List Nat) (σ : L2.St) (Q : VK) (ws : List V) (H1 : Hp) : Prop := ∃ a b xs ys, ws = [.ref a, .ref b] ∧ SqL K H1 a xs ∧ SqL K H1 b ys ∧ rDcJ (Itz K a b) g tt tk tv vs σ Q H1
end
end Z
namespace Z
open PySem PySem.Spec PyProof.Rows L2
end Z

set_option Elab.async false
set_option linter.all false
set_option maxRecDepth 100000
set_option maxHeartbeats 2000000
/-! zip of a tuple and a list -/
namespace ZM
open PySem
section
variable {pg : Program} {wd : World} {Ar : Around} {Er : Value → Shared → Prop} {sh : Shared} {q ti tu j1 j2 m1 m2 : Addr} {n1 n2 : Nat} {us vs : Array Value} {c0 d0 : Value}
end
end ZM
namespace ZM
open PySem PySem.Spec PyProof.Rows L2
section
variable {pg : Program} {wd : World} {Ar : Around} {Er : Value → Shared → Prop} {sh : Shared} {q ti tu j1 j2 m1 m2 : Addr} {n1 n2 : Nat} {us vs : Array Value} {c0 d0 : Value}
abbrev mx1 (g : Heap) (m1 : Addr) : Heap := g.push { cls := .type "tuple_iterator", data := .fields #[.ref m1, .int 0 0] }
abbrev mx2 (g : Heap) (m1 m2 : Addr) : Heap := (mx1 g m1).push { cls := .type "list_iterator", data := .fields #[.ref m2, .int 0 0] }
abbrev mx3 (g : Heap) (m1 m2 : Addr) : Heap := (mx2 g m1 m2).push { cls := .type "tuple", data := .seq #[.ref g.objs.size, .ref (mx1 g m1).objs.size] }
abbrev mx4 (g : Heap) (m1 m2 : Addr) : Heap := (mx3 g m1 m2).push { cls := .type "tuple", data := .seq #[.none, .none] }
abbrev mx5 (g : Heap) (m1 m2 : Addr) : Heap := (mx4 g m1 m2).push { cls := .type "zip", data := .fields #[.none, .bool false, .bool false, .ref (mx2 g m1 m2).objs.size, .ref (mx3 g m1 m2).objs.size] }
end
/-- the tuple at a and the list at b, their items in new pairs -/
def ItzM (K : PySem.W.Frag) (a b : Addr) : It :=
  ⟨fun i H => ∃ (xs ys : List V) (x y : V), SqT K H a xs ∧ SqL K H b ys ∧ xs[i]? = some x ∧ ys[i]? = some y,
    fun i H v H' => ∃ T x y, v = .ref T ∧ H T = none ∧ H' = upd H T (.tup [x, y]) ∧ (∀ us, SqT K H a us → us[i]? = some x) ∧ ∀ us, SqL K H b us → us[i]? = some y,
    fun i H => ∃ xs ys : List V, SqT K H a xs ∧ SqL K H b ys ∧ (xs.length ≤ i ∨ ys.length ≤ i)⟩
end ZM
namespace Z
open PySem PySem.Spec PyProof.Rows L2 ZM
/-- zip of a list or a tuple, and a list -/
def iZipM (K : PySem.W.Frag) (ta : TA) : TI := fun σ H R => ta σ H fun vs H1 => ∃ a b xs ys, vs = [.ref a, .ref b] ∧ SqL K H1 b ys ∧ ((SqL K H1 a xs ∧ R (Itz K a b) H1) ∨ (SqT K H1 a xs ∧ R (ItzM K a b) H1))
section
variable {K : PySem.W.Frag} {g : TG} {tb : TS} {D : Ends} {σ : L2.St} {H H0 : Hp} {tr : TA}
def rForZipM (K : PySem.W.Frag) (g : TG) (tb : TS) (D : Ends) (σ : L2.St) (vs : List V) (H1 : Hp) : Prop := ∃ a b xs ys, vs = [.ref a, .ref b] ∧ SqL K H1 b ys ∧ ((SqL K H1 a xs ∧ rFor (Itz K a b) g tb D σ H1) ∨ (SqT K H1 a xs ∧ rFor (ItzM K a b) g tb D σ H1))
end
end Z

set_option Elab.async false
set_option linter.all false
set_option maxRecDepth 100000
set_option maxHeartbeats 2000000
/-! zip of two sequences, each a list or a tuple (or an own object walked by its tuple): in comprehensions, and in dict(zip(..)) -/
namespace ZA
open PySem
/-- the iterator at j of the sequence at m (b: a tuple), n items told -/
def AIt (b : Bool) (g : Heap) (j m : Addr) (n : Nat) : Prop := cond b (g.IsTupleIter j m n) (g.IsListIter j m n)
def ASq (b : Bool) (g : Heap) (m : Addr) (us : Array Value) : Prop := cond b (g.IsTuple m us) (g.IsList m us)
variable {b b1 b2 : Bool} {g g' : Heap} {j m c : Addr} {n : Nat} {us : Array Value}
theorem AIt.ext (x : AIt b g j m n) (k : Heap.ExtBut c g g') (h : j ≠ c) : AIt b g' j m n := by
  cases b
  · exact Heap.IsListIter.extBut x k h
  · exact Heap.IsTupleIter.extBut x k h
theorem ASq.ext (x : ASq b g m us) (k : Heap.ExtBut c g g') (h : m ≠ c) : ASq b g' m us := by
  cases b
  · exact Heap.IsList.extBut x k h
  · exact Heap.IsTuple.extBut x k h
theorem AIt.at (x : AIt b g j m n) (k : ∀ o, g.get? j = some o → g'.get? j = some o) : AIt b g' j m n := by
  cases b
  · exact Heap.IsListIter.at x k
  · exact Heap.IsTupleIter.at x k
theorem ASq.at (x : ASq b g m us) (k : ∀ o, g.get? m = some o → g'.get? m = some o) : ASq b g' m us := by
  cases b
  · exact Heap.IsList.at x k
  · exact Heap.IsTuple.at x k
theorem AIt.obj (x : AIt b g j m n) : ∃ o, g.get? j = some o ∧ ∀ v k, o.data ≠ .seq v k := by
  cases b
  · obtain ⟨o, h1, _, h2⟩ := x
    exact ⟨o, h1, fun v k z => by rw [h2] at z; cases z⟩
  · obtain ⟨o, h1, _, h2⟩ := x
    exact ⟨o, h1, fun v k z => by rw [h2] at z; cases z⟩
theorem ASq.obj (x : ASq b g m us) : ∃ o, g.get? m = some o := by
  cases b
  · obtain ⟨o, h1, _⟩ := x
    exact ⟨o, h1⟩
  · obtain ⟨o, h1, _⟩ := x
    exact ⟨o, h1⟩
section
variable {pg : Program} {wd : World} {Ar : Around} {Er : Value → Shared → Prop} {sh : Shared}
variable {q ti tu j1 j2 m1 m2 : Addr} {n1 n2 : Nat} {us1 us2 : Array Value} {c0 d0 : Value}
end
/-- what a new zip is -/
structure ZNew (b1 b2 : Bool) (g : Heap) (q ti tu j1 j2 m1 m2 : Addr) : Prop where
  z : IsZip g q ti tu .none
  t : IsPair g ti (.ref j1) (.ref j2)
  u : IsPair g tu .none .none
  i1 : AIt b1 g j1 m1 0
  i2 : AIt b2 g j2 m2 0
end ZA

set_option Elab.async false
set_option linter.all false
set_option maxRecDepth 100000
set_option maxHeartbeats 2000000
namespace ZA
open PySem PySem.Spec PyProof.Rows L2 Z
/-- a new iterator of the sequence at m -/
def itO (b : Bool) (m : Addr) : Obj := cond b { cls := .type "tuple_iterator", data := .fields #[.ref m, .int 0 0] } { cls := .type "list_iterator", data := .fields #[.ref m, .int 0 0] }
abbrev oh1 (g : Heap) (b2 : Bool) (m2 : Addr) : Heap := g.push (itO b2 m2)
abbrev oh2 (g : Heap) (b2 : Bool) (j1 m2 : Addr) : Heap := (oh1 g b2 m2).push { cls := .type "tuple", data := .seq #[.ref j1, .ref g.objs.size] }
abbrev oh3 (g : Heap) (b2 : Bool) (j1 m2 : Addr) : Heap := (oh2 g b2 j1 m2).push { cls := .type "tuple", data := .seq #[.none, .none] }
abbrev oh4 (g : Heap) (b2 : Bool) (j1 m2 : Addr) : Heap := (oh3 g b2 j1 m2).push { cls := .type "zip", data := .fields #[.none, .bool false, .bool false, .ref (oh1 g b2 m2).objs.size, .ref (oh2 g b2 j1 m2).objs.size] }
section
variable {pg : Program} {wd : World} {Ar : Around} {Er : Value → Shared → Prop} {sh : Shared}
end
/-- a list (false) or a tuple (true) of xs -/
def SqB (K : PySem.W.Frag) (b : Bool) (H : Hp) (a : Addr) (xs : List V) : Prop := cond b (SqT K H a xs) (SqL K H a xs)
theorem SqB.mono {K : PySem.W.Frag} {b : Bool} {H H' : Hp} {a : Addr} {xs : List V} (s : Same H H') (h : SqB K b H a xs) : SqB K b H' a xs := by
  cases b
  · exact s.seq h
  · exact Same_seqT s h
/-- the sequences at a and c, their items in new pairs -/
def ItzX (K : PySem.W.Frag) (b1 b2 : Bool) (a c : Addr) : It :=
  ⟨fun i H => ∃ (xs ys : List V) (x y : V), SqB K b1 H a xs ∧ SqB K b2 H c ys ∧ xs[i]? = some x ∧ ys[i]? = some y,
    fun i H v H' => ∃ T x y, v = .ref T ∧ H T = none ∧ H' = upd H T (.tup [x, y]) ∧ (∀ us, SqB K b1 H a us → us[i]? = some x) ∧ ∀ us, SqB K b2 H c us → us[i]? = some y,
    fun i H => ∃ xs ys : List V, SqB K b1 H a xs ∧ SqB K b2 H c ys ∧ (xs.length ≤ i ∨ ys.length ≤ i)⟩
end ZA

set_option Elab.async false
set_option linter.all false
set_option maxRecDepth 100000
set_option maxHeartbeats 2000000
namespace ZA
open PySem PySem.Spec PyProof.Rows L2 Z
section
variable {X : Cx} {k j : Nat} {C : Addr} {sp : Nat → Sp} {pins : List (Addr × Obj)} {σ : L2.St} {H1 : Hp} {s1 : Shared} {a t : Addr} {ys : List V} {R : Value → Shared → Prop} {E : Value → Shared → Prop}
end
/-! ### in a for, in a comprehension -/
def iZipO (K : PySem.W.Frag) (C : Addr) (sp : Nat → Sp) (ta : TA) : TI := fun σ H R => ta σ H fun vs H1 => ∃ a c t xs ys b2, vs = [.ref a, .ref c] ∧ OwnT K C sp a t xs H1 ∧ SqB K b2 H1 c ys ∧ R (ItzX K true b2 t c) H1
def iZipS (K : PySem.W.Frag) (ta : TA) : TI := fun σ H R => ta σ H fun vs H1 => ∃ a c xs ys b1 b2, vs = [.ref a, .ref c] ∧ SqB K b1 H1 a xs ∧ SqB K b2 H1 c ys ∧ R (ItzX K b1 b2 a c) H1
section
variable {X : Cx} {k j : Nat} {C : Addr} {sp : Nat → Sp} {e e2 : Expr} {ta : TA} {p pos tpos : Pos} {elts : List Expr} {kk : Nat}
/-! ### dict(zip(o, xs)) -/
def zkv (zs : List Str) (ys : List V) : List (Key × V) := (zs.zip ys).map fun p => (.inr p.1, p.2)
def tDZipO (K : PySem.W.Frag) (C : Addr) (sp : Nat → Sp) (ta : TA) : TE := fun σ H Q => ta σ H fun vs H1 => ∃ a c t zs ys b2, vs = [.ref a, .ref c] ∧ OwnT K C sp a t (zs.map V.str) H1 ∧ SqB K b2 H1 c ys ∧ ∀ d, H1 d = none → Q (.ref d) (upd H1 d (.dK (mergeK [] (zkv zs ys))))
end
end ZA

set_option Elab.async false
set_option linter.all false
set_option maxRecDepth 100000
set_option maxHeartbeats 1000000
namespace Z
open PySem PySem.Spec PyProof.Rows L2 ZA
section
variable {K : PySem.W.Frag} {σ : L2.St} {H H0 : Hp} {D : Ends} {te tl : TE} {tt : TT} {tr : TA} {g : TG} {tb : TS} {Q : VK} {a c t : Addr} {C : Addr} {sp : Nat → Sp}
def rLcZO (K : PySem.W.Frag) (C : Addr) (sp : Nat → Sp) (g : TG) (tt : TT) (te : TE) (vs : List Nat) (σ : L2.St) (Q : VK) (ws : List V) (H1 : Hp) : Prop := ∃ a c t xs ys b2, ws = [.ref a, .ref c] ∧ OwnT K C sp a t xs H1 ∧ SqB K b2 H1 c ys ∧ rLcJ (ItzX K true b2 t c) g tt te vs σ Q H1
def rLcZS (K : PySem.W.Frag) (g : TG) (tt : TT) (te : TE) (vs : List Nat) (σ : L2.St) (Q : VK) (ws : List V) (H1 : Hp) : Prop := ∃ a c xs ys b1 b2, ws = [.ref a, .ref c] ∧ SqB K b1 H1 a xs ∧ SqB K b2 H1 c ys ∧ rLcJ (ItzX K b1 b2 a c) g tt te vs σ Q H1
/-! dict(zip(o, ys)) -/
def rDZipO (K : PySem.W.Frag) (C : Addr) (sp : Nat → Sp) (Q : VK) (vs : List V) (H1 : Hp) : Prop := ∃ a c t zs ys b2, vs = [.ref a, .ref c] ∧ OwnT K C sp a t (zs.map V.str) H1 ∧ SqB K b2 H1 c ys ∧ ∀ d, H1 d = none → Q (.ref d) (upd H1 d (.dK (mergeK [] (zkv zs ys))))
/-- what a zip says of a name -/
def zpF (zs : List Str) (ys : List V) (z : Str) : V := ((zs.zip ys).lookup z).getD .non
end
end Z

set_option Elab.async false
set_option linter.all false
set_option maxRecDepth 100000
set_option maxHeartbeats 1000000
namespace Z
open PySem PySem.Spec PyProof.Rows L2 ZA
section
variable {X : Cx} {K : PySem.W.Frag}
theorem k_iterTS (hK : X.K = K) : CallR X (.builtin "iter") (rIterTS K X.s_0.heap.objs.size) := by subst hK; exact cr_iterTS
end
section
variable {K : PySem.W.Frag} {H : Hp} {Q : VK}
end
end Z

set_option Elab.async false
set_option linter.all false
set_option maxRecDepth 100000
set_option maxHeartbeats 1000000
/-! an error out of a comprehension's element, which a callee raised -/
namespace ZA
open PySem PySem.Spec PyProof.Rows L2
section
variable {X : Cx} {pins : List (Addr × Obj)} {σ : L2.St} {H H3 : Hp} {s s' s3 : Shared} {E : XK} {fp : List Addr} {ce : Env} {scope : Scope}
/-- a block's context, where errors go out -/
abbrev blkE (X : Cx) (s : Shared) (H : Hp) (scope : Scope) (cenv : Env) (fp : List Addr) (xe : Value → Shared → Prop) : Cx := { X with s_0 := s, H_0 := H, env := cenv, outer := X.stack, ex := fp, fn := fun x => scope.names.lookup x == some .cell, pn := [], xe := xe }
end

section
variable {X : Cx}
end
end ZA

set_option Elab.async false
set_option linter.all false
set_option maxRecDepth 100000
set_option maxHeartbeats 1000000
/-! dicts with tuple keys: made by a comprehension -/
namespace ZA
open PySem PySem.Spec PyProof.Rows L2
section
variable {X : Cx}
def tDcT (wi : TI) (g : TG) (tt : TT) (tk tv : TE) (vs : List Nat) : TE := fun σ H Q => wi σ H fun J H1 => ∀ D, H1 D = none → ∃ W : Nat → Nat → Hp → Prop, (∃ m, W 0 m (upd H1 D (.dT []))) ∧ ∀ i m H, W i m H →
  (J.stop i H ∧ Q (.ref D) H) ∨ (J.go i H ∧ ∃ Nx : Hp → Prop, (∀ H', Nx H' → ∃ m', m' < m ∧ W (i + 1) m' H') ∧ ∀ x H', J.yld i H x H' → g x (wipe σ vs) H' fun σ2 H2 => wipe σ2 vs = wipe σ vs ∧ tt σ2 H2 fun b H3 =>
    if b = true then tk σ2 H3 fun y H4 => tv σ2 H4 fun z H5 => ∃ (kvs : List (List L2.Key × V)) (k : List L2.Key) (b : Addr), y = .ref b ∧ H5 b = some (.tup (k.map kV)) ∧ H5 D = some (.dT kvs) ∧ kvs.length < sizeLine ∧ Nx (upd H5 D (.dT (putK kvs k z))) else Nx H3)
end
end ZA

set_option Elab.async false
set_option linter.all false
set_option maxRecDepth 100000
set_option maxHeartbeats 1000000
/-! dict(xs) of a list of pairs whose keys are tuples -/
namespace ZA
open PySem PySem.Spec PyProof.Rows L2
def mergeT (kvs more : List (List L2.Key × V)) : List (List L2.Key × V) := more.foldl (fun acc kv => putK acc kv.1 kv.2) kvs
def rDictPT (K : PySem.W.Frag) : List V → Hp → VK → Prop := fun xs H Q => ∃ (a : Addr) (ps : List Addr) (kvs : List (List L2.Key × V)), xs = [.ref a] ∧ SqL K H a (ps.map V.ref) ∧ Paired (fun p kv => ∃ b, SqT K H p [.ref b, kv.2] ∧ H b = some (.tup (kv.1.map kV))) ps kvs ∧
  ∀ p, H p = none → Q (.ref p) (upd H p (.dT (mergeT [] kvs)))
section
variable {X : Cx}
end
end ZA

set_option Elab.async false
set_option linter.all false
set_option maxRecDepth 100000
set_option maxHeartbeats 1000000
/-! dicts whose keys are pairs of texts: their readings -/
namespace ZA
open PySem PySem.Spec PyProof.Rows L2 Z
/-- such a dict, all values True -/
def pT (ps : List (Str × Str)) : List (List L2.Key × V) := ps.map fun p => ([.inr p.1, .inr p.2], .bl true)
def adP (ps : List (Str × Str)) (p : Str × Str) : List (Str × Str) := if p ∈ ps then ps else ps ++ [p]
section
variable {K : PySem.W.Frag} {σ : L2.St} {H H0 : Hp} {tl tk tv : TE} {tt : TT} {g : TG} {Q : VK} {a : Addr} {xs : List V}
def DcST (D : Addr) (Pv : Nat → List (Str × Str) → Hp → Prop) (i : Nat) (H : Hp) : Prop := ∃ ps, H D = some (.dT (pT ps)) ∧ Pv i ps H
def rDcET (D : Addr) (Pv : Nat → List (Str × Str) → Hp → Prop) (i : Nat) (y z : V) (H5 : Hp) : Prop := ∃ (kvs : List (List L2.Key × V)) (k : List L2.Key) (b : Addr), y = .ref b ∧ H5 b = some (.tup (k.map kV)) ∧ H5 D = some (.dT kvs) ∧ kvs.length < sizeLine ∧ DcST D Pv (i + 1) (upd H5 D (.dT (putK kvs k z)))
def rDcAT (K : PySem.W.Frag) (g : TG) (tt : TT) (tk tv : TE) (vs : List Nat) (σ : L2.St) (Q : VK) (x : V) (H1 : Hp) : Prop := ∃ a xs, x = .ref a ∧ WkA K H1 a xs (YAt xs) fun J => ∀ D, H1 D = none → ∃ W : Nat → Nat → Hp → Prop, (∃ m, W 0 m (upd H1 D (.dT []))) ∧ ∀ i m H, W i m H →
  (J.stop i H ∧ Q (.ref D) H) ∨ (J.go i H ∧ ∃ Nx : Hp → Prop, (∀ H', Nx H' → ∃ m', m' < m ∧ W (i + 1) m' H') ∧ ∀ x H', J.yld i H x H' → g x (wipe σ vs) H' fun σ2 H2 => wipe σ2 vs = wipe σ vs ∧ tt σ2 H2 fun b H3 =>
    if b = true then tk σ2 H3 fun y H4 => tv σ2 H4 fun z H5 => ∃ (kvs : List (List L2.Key × V)) (k : List L2.Key) (b : Addr), y = .ref b ∧ H5 b = some (.tup (k.map kV)) ∧ H5 D = some (.dT kvs) ∧ kvs.length < sizeLine ∧ Nx (upd H5 D (.dT (putK kvs k z))) else Nx H3)
end
section
variable {X : Cx}
end
end ZA

set_option Elab.async false
set_option linter.all false
set_option maxRecDepth 100000
set_option maxHeartbeats 1000000
/-! [.. for x in o for y in o] over own objects that are walked by their tuple -/
namespace ZA
open PySem PySem.Spec PyProof.Rows L2 Z
section
variable {K : PySem.W.Frag} {C : Addr} {sp : Nat → Sp} {σ : L2.St} {H : Hp} {tl tl1 te : TE} {tt tt1 : TT} {g g1 : TG} {Q : VK} {a t : Addr} {xs : List V}
def rLcInO (K : PySem.W.Frag) (C : Addr) (sp : Nat → Sp) (D : Addr) (Nx : Hp → Prop) (g1 : TG) (tt1 : TT) (te : TE) (vs1 : List Nat) (σ2 : L2.St) (x : V) (H4 : Hp) : Prop := ∃ a t ys, x = .ref a ∧ OwnT K C sp a t ys H4 ∧ ∃ W1 : Nat → Nat → Hp → Prop, (∃ m, W1 0 m H4) ∧ ∀ j k H, W1 j k H →
  ((Itt K t).stop j H ∧ Nx H) ∨ ((Itt K t).go j H ∧ ∃ Nx1 : Hp → Prop, (∀ H', Nx1 H' → ∃ k', k' < k ∧ W1 (j + 1) k' H') ∧ ∀ x H', (Itt K t).yld j H x H' → g1 x (wipe σ2 vs1) H' fun σ3 H5 => wipe σ3 vs1 = wipe σ2 vs1 ∧ tt1 σ3 H5 fun b H6 =>
    if b = true then te σ3 H6 fun y H7 => ∃ acc, H7 D = some (.lst acc) ∧ acc.length < sizeLine ∧ Nx1 (upd H7 D (.lst (acc ++ [y]))) else Nx1 H6)
def rLc2O (K : PySem.W.Frag) (C : Addr) (sp : Nat → Sp) (g : TG) (tt : TT) (tl1 : TE) (g1 : TG) (tt1 : TT) (te : TE) (vs vs1 : List Nat) (σ : L2.St) (Q : VK) (x : V) (H1 : Hp) : Prop := ∃ a t ys, x = .ref a ∧ OwnT K C sp a t ys H1 ∧ ∀ D, H1 D = none → ∃ W : Nat → Nat → Hp → Prop, (∃ m, W 0 m (upd H1 D (.lst []))) ∧ ∀ i m H, W i m H →
  ((Itt K t).stop i H ∧ Q (.ref D) H) ∨ ((Itt K t).go i H ∧ ∃ Nx : Hp → Prop, (∀ H', Nx H' → ∃ m', m' < m ∧ W (i + 1) m' H') ∧ ∀ x H', (Itt K t).yld i H x H' → g x (wipe σ vs) H' fun σ2 H2 => wipe σ2 vs = wipe σ vs ∧ tt σ2 H2 fun b H3 =>
    if b = true then tl1 σ2 H3 fun x1 H4 => rLcInO K C sp D Nx g1 tt1 te vs1 σ2 x1 H4 else Nx H3)
theorem i_lc2O0 {vs vs1 : List Nat} (h : tl σ H fun x H1 => rLc2O K C sp g tt tl1 g1 tt1 te vs vs1 σ Q x H1) : tLc2 (iOwnT K C sp tl) g tt (iOwnT K C sp tl1) g1 tt1 te vs vs1 σ H Q := h
theorem i_lcInO {D : Addr} {Pv Pw : Nat → List V → Hp → Prop} {i : Nat} {vs1 : List Nat} {ys : List V} (s : OwnT K C sp a t xs H) (e : H D = some (.lst ys)) (h0 : Pw 0 ys H) (hl : ∀ j ys H1, Pw j ys H1 → SqT K H1 t xs)
    (hs : ∀ j x ys H1, xs[j]? = some x → H1 D = some (.lst ys) → Pw j ys H1 → g1 x (wipe σ vs1) H1 fun σ3 H5 => wipe σ3 vs1 = wipe σ vs1 ∧ tt1 σ3 H5 fun b H6 => if b = true then te σ3 H6 fun y H7 => rLcE D Pw j y H7 else LcS D Pw (j + 1) H6)
    (hd : ∀ ys H1, H1 D = some (.lst ys) → Pw xs.length ys H1 → Pv (i + 1) ys H1) : rLcInO K C sp D (LcS D Pv (i + 1)) g1 tt1 te vs1 σ (.ref a) H := by
  have w := walk_tup (K := K) (a := t) (xs := xs)
  refine ⟨a, t, xs, rfl, s, fun j k H => k = xs.length - j ∧ j ≤ xs.length ∧ LcS D Pw j H, ⟨xs.length, by simp, Nat.zero_le _, ys, e, h0⟩, ?_⟩
  rintro j k H' ⟨rfl, hj, zs, hD, p⟩
  have q := hl j zs H' p
  by_cases hlt : j < xs.length
  · refine .inr ⟨w.goes j H' hlt q, LcS D Pw (j + 1), fun H'' p' => ⟨xs.length - (j + 1), by omega, rfl, hlt, p'⟩, fun x H'' y => ?_⟩
    obtain ⟨rfl, e⟩ := w.yields j H' x H'' hlt q y
    exact hs j x zs _ e hD p
  · have e : j = xs.length := by omega
    subst e
    exact .inl ⟨w.stops H' q, zs, hD, hd zs H' hD p⟩
theorem i_lc2O {vs vs1 : List Nat} (Pv : Nat → List V → Hp → Prop) (s : OwnT K C sp a t xs H) (h0 : ∀ D H', H D = none → Same H H' → H' D = some (.lst []) → (∀ b, b ≠ D → H' b = H b) → Pv 0 [] H')
    (hl : ∀ i ys H1, Pv i ys H1 → SqT K H1 t xs)
    (hs : ∀ i x D ys H1, H D = none → xs[i]? = some x → H1 D = some (.lst ys) → Pv i ys H1 → g x (wipe σ vs) H1 fun σ2 H2 => wipe σ2 vs = wipe σ vs ∧ tt σ2 H2 fun b H3 => if b = true then tl1 σ2 H3 fun x1 H4 => rLcInO K C sp D (LcS D Pv (i + 1)) g1 tt1 te vs1 σ2 x1 H4 else LcS D Pv (i + 1) H3)
    (hd : ∀ D ys H1, H D = none → H1 D = some (.lst ys) → Pv xs.length ys H1 → Q (.ref D) H1) : rLc2O K C sp g tt tl1 g1 tt1 te vs vs1 σ Q (.ref a) H := by
  have w := walk_tup (K := K) (a := t) (xs := xs)
  refine ⟨a, t, xs, rfl, s, fun D hD => ⟨fun i m H => m = xs.length - i ∧ i ≤ xs.length ∧ LcS D Pv i H, ⟨xs.length, by simp, Nat.zero_le _, [], upd_same, h0 D _ hD (fun b o e => by rw [upd_ne (ne_of_none e hD)]; exact e) upd_same (fun b hb => upd_ne hb)⟩, ?_⟩⟩
  rintro i m H' ⟨rfl, hi, ys, hD', p⟩
  have q := hl i ys H' p
  by_cases hlt : i < xs.length
  · refine .inr ⟨w.goes i H' hlt q, LcS D Pv (i + 1), fun H'' p' => ⟨xs.length - (i + 1), by omega, rfl, hlt, p'⟩, fun x H'' y => ?_⟩
    obtain ⟨rfl, e⟩ := w.yields i H' x H'' hlt q y
    exact hs i x D ys _ hD e hD' p
  · have e : i = xs.length := by omega
    subst e
    exact .inl ⟨w.stops H' q, hd D ys H' hD hD' p⟩
end
end ZA

set_option Elab.async false
set_option linter.all false
set_option maxRecDepth 100000
set_option maxHeartbeats 1000000
/-! (x,) * n; dict of pairs with tuple keys in blocks -/
namespace ZA
open PySem PySem.Spec PyProof.Rows L2 Z
/-- (x,) * k -/
def rMulT1 (K : PySem.W.Frag) : R2 := fun x y H Q => ∃ (a : Addr) (v : V) (k : Nat), x = .ref a ∧ y = .int k ∧ H a = some (.tup [v]) ∧ 1 ≤ k ∧ k ≤ 1000 ∧ (k = 1 → Q (.ref a) H) ∧ (2 ≤ k → ∀ p, H p = none → Q (.ref p) (upd H p (.tup (List.replicate k v))))
section
variable {X : Cx}
end
end ZA

set_option Elab.async false
set_option linter.all false
set_option maxRecDepth 100000
set_option maxHeartbeats 1000000
/-! a lambda with one parameter, called where it was made -/
namespace ZB
open PySem PySem.Spec PyProof.Rows L2 LamX Z
/-- a lambda's names: its parameter y, captured names, globals -/
structure LamP (sc scope : Scope) (y : Str) : Prop where
  fn : scope.kind = .function
  nco : scope.isCoroutine = false
  ngen : scope.isGenerator = false
  par : scope.names.lookup y = some .local
  own : ∀ z ∈ scope.names, z.2 ≠ .cell ∧ (z.2 = .local → z.1 = y)
  cap : ∀ z ∈ scope.names, z.2 = .free → sc.names.lookup z.1 = some .cell ∨ sc.names.lookup z.1 = some .free
def lamPB (sc scope : Scope) (y : Str) : Bool :=
  decide (scope.kind = .function) && (!scope.isCoroutine && (!scope.isGenerator && (decide (scope.names.lookup y = some .local) &&
    scope.names.all fun z => (!decide (z.2 = .cell) && (!decide (z.2 = .local) || decide (z.1 = y))) && ((!decide (z.2 = .free) || decide (sc.names.lookup z.1 = some .cell)) || decide (sc.names.lookup z.1 = some .free)))))
theorem lamP_by {sc scope : Scope} {y : Str} (h : lamPB sc scope y = true) : LamP sc scope y := by
  unfold lamPB at h
  simp only [Bool.and_eq_true, Bool.or_eq_true, Bool.not_eq_true', decide_eq_true_eq, decide_eq_false_iff_not, List.all_eq_true] at h
  obtain ⟨a1, a2, a3, a4, a5⟩ := h
  refine ⟨a1, a2, a3, a4, fun z hz => ⟨(a5 z hz).1.1, fun e => ?_⟩, fun z hz e => ?_⟩
  · rcases (a5 z hz).1.2 with g | g
    · exact absurd e g
    · exact g
  · rcases (a5 z hz).2 with (g | g) | g
    · exact absurd e g
    · exact .inl g
    · exact .inr g
theorem LamP.has {X : Cx} {scope : Scope} {y : Str} (L : LamP X.env.scope scope y) (ok : X.Ok) : ∀ z ∈ scope.names, z.2 = .free → ∃ c, X.env.cells.lookup z.1 = some c :=
  fun z hz e => (L.cap z hz e).elim (fun g => ok.has _ (.inl g)) fun g => ok.has _ (.inr g)
theorem clo_of {X : Cx} {scope : Scope} (hf : ∀ z ∈ scope.names, z.2 = .free → ∃ c, X.env.cells.lookup z.1 = some c) {y : Str} {c : Addr} (e : (cloFrom X.env.cells scope.names []).lookup y = some c) : X.env.cells.lookup y = some c := by
  rcases cloFrom_mem (PySem.mem_of_lookup e) with g | ⟨g1, g2⟩
  · cases g
  · obtain ⟨d, hd⟩ := hf _ g1 rfl
    have hd : X.env.cells.lookup y = some d := hd
    rw [show c = d from by rw [g2, hd] <;> rfl]
    exact hd
/-- the context of its body -/
def parCx (X : Cx) (A : Around) (outer : List Env) (s : Shared) (H : Hp) (E : XK) (scope : Scope) (f c' : Addr) (y : Str) : Cx := { lamCx X A outer s H E scope f c' with N := X.N ++ [y] }
section
variable {X : Cx} {pins : List (Addr × Obj)} {σ : L2.St} {H : Hp} {s : Shared} {A : Around} {outer : List Env} {E : XK} {scope : Scope} {f c' : Addr} {y : Str}
theorem par_start {x : V} {v : Value} {h1 : Heap} {tk : Nat} (I : Inv X pins σ H s) (L : LamP X.env.scope scope y) (hy : y ∉ X.N) (e0 : Env0 X.prog X.w X.K X.mg X.base A outer s H) (hd : A.handled = none) (rx : RelV x v)
    (hns : h1.Ns s.heap.objs.size fun z => ([(y, v)] : List (Str × Value)).reverse.lookup z) (kp : ∀ b o, s.heap.get? b = some o → h1.get? b = some o) :
    Inv (parCx X A outer s H E scope f c' y) [] (σ ++ [some x]) H { s with heap := h1, toks := tk } := by
  have hf := L.has I.ok
  have cm := fun {z : Str} {c : Addr} => clo_of (y := z) (c := c) hf
  have look : ∀ {z}, scope.names.lookup z = some .free → ∃ c, (cloFrom X.env.cells scope.names []).lookup z = some c := fun {z} g =>
    mem_lookup (cloFrom_has (cells := X.env.cells) (acc := []) (PySem.mem_of_lookup g))
  have noA : ∀ b : Addr, b ∉ (parCx X A outer s H E scope f c' y).ex := fun b z => by cases z
  have cellK : ∀ {c : Addr} {u : Option Value}, s.heap.IsCell c u → h1.IsCell c u := fun {c u} ⟨o, ho, hd⟩ => ⟨o, kp _ _ ho, hd⟩
  have nocell : ∀ {z : Str}, scope.names.lookup z ≠ some .cell := fun {z} g => (L.own _ (PySem.mem_of_lookup g)).1 rfl
  refine ⟨⟨I.ok.mod, L.fn, rfl, rfl, Nat.le_refl _, fun a b c e1 e2 => I.ok.inj a b c (cm e1) (cm e2), fun z hz => ?_, fun z c g _ => ?_, fun _ => hd, Around.frames_deeper e0.frames, .inr ⟨rfl, rfl⟩, fun b z => absurd z (noA b), e0.bs, e0.bsz, fun b _ _ => noA b,
      fun b z => absurd z (noA b), e0.funs, e0.frf⟩, rfl, e0.bare, Un.kept kp, ⟨_, hns, fun i z u e1 e2 e3 => ?_⟩, fun z c e => ?_, e0.hok.fresh (Nat.le_refl _), fun z c e => ?_, fun q hq => absurd (show q ∈ ([] : List (Addr × Obj)) from hq) (by simp), e0.hok.kept kp, ?_⟩
  · rcases (hz : scope.names.lookup z = some .cell ∨ scope.names.lookup z = some .free) with g | g
    · exact absurd g nocell
    · exact look g
  · cases (g : false = true)
  · have e1 : (X.N ++ [y])[i]? = some z := e1
    have e3 : Vis scope z := e3
    have lN := I.len
    by_cases li : i < X.N.length
    · rw [List.getElem?_append_left li] at e1
      rw [List.getElem?_append_left (by omega)] at e2
      have nz : z ≠ y := fun g => hy (by rw [← g]; exact List.mem_of_getElem? e1)
      rcases e3 with g | g | g
      · exact absurd ((L.own _ (PySem.mem_of_lookup g)).2 rfl) nz
      · exact absurd g nocell
      · obtain ⟨m, hn, hl⟩ := I.loc
        have cp := L.cap _ (PySem.mem_of_lookup g) rfl
        obtain ⟨w', r, q⟩ := hl i z u e1 e2 (cp.elim (fun k => .inr (.inl k)) fun k => .inr (.inr k))
        obtain ⟨c2, h2⟩ := look g
        refine ⟨w', r, .inr ⟨.inr g, c2, h2, ?_⟩⟩
        rcases q with ⟨k, _⟩ | ⟨_, c3, e', k⟩
        · have k : X.env.scope.names.lookup z = some .local := k
          rcases cp with k2 | k2 <;> rw [show X.env.scope.names.lookup z = _ from k2] at k <;> cases k
        · rw [cm h2] at e'
          cases e'
          exact cellK k
    · have hl := (List.getElem?_eq_some_iff.mp e1).1
      rw [List.length_append, List.length_singleton] at hl
      have ei : i = X.N.length := by omega
      rw [List.getElem?_append_right (by omega), ei, Nat.sub_self] at e1
      rw [List.getElem?_append_right (by omega), ei, lN, Nat.sub_self] at e2
      cases e1
      cases e2
      exact ⟨v, rx, .inl ⟨L.par, by simp⟩⟩
  · obtain ⟨u, k⟩ := I.cell z c (cm e)
    exact ⟨u, cellK k⟩
  · exact I.freeC z c (cm e)
  · show (σ ++ [some x]).length = (X.N ++ [y]).length
    rw [List.length_append, List.length_append, I.len]
    rfl
end
end ZB

set_option Elab.async false
set_option linter.all false
set_option maxRecDepth 100000
set_option maxHeartbeats 1000000
/-! the call of such a lambda; sorted(xs, key=lambda) -/
namespace ZB
open PySem PySem.Spec PyProof.Rows L2 LamX Z
section
variable {X : Cx} {pins : List (Addr × Obj)} {σ : L2.St} {H : Hp} {s : Shared} {A : Around} {outer : List Env} {E : XK} {scope : Scope} {f c' : Addr} {y : Str}
theorem par_call {x : V} {v pm ctv : Value} {params : Arguments} {body : Expr} {k : Nat} {tb : TE} {Q : VK} (I : Inv X pins σ H s) (L : LamP X.env.scope scope y) (hy : y ∉ X.N) (e0 : Env0 X.prog X.w X.K X.mg X.base A outer s H) (rx : RelV x v)
    (hf : s.heap.get? f = some (PySem.W.kla_obj "<lambda>" (X.env.qual ++ "<lambda>") params body scope (cloFrom X.env.cells scope.names []) pm c' ctv)) (hc : H c' = some (CodeO c' (X.env.qual ++ "<lambda>")))
    (hb : bindArgs (PySem.W.kla_fn "<lambda>" (X.env.qual ++ "<lambda>") params body scope (cloFrom X.env.cells scope.names []) pm (.ref c') ctv) ⟨[v], []⟩ = pure [(y, v)]) (hr : Room (k + 1) A)
    (hbody : Room k (A.deeper (lamEnv X scope s.heap.objs.size f c')) → PE (parCx X A outer s H E scope f c' y) body tb) (ht : tb (σ ++ [some x]) H Q) :
    codeAny (model X.prog X.w) A (.call (.ref f) ⟨[v], []⟩) (CR (L2.CX X.prog X.w) outer X.prog X.w H s Q E) s := by
  obtain ⟨⟨oc, vs, t, h1, h2, h3⟩, _, _⟩ := I.hok c' _ hc
  refine PySem.W.kla_callFunE hr.depth hf rfl L.nco L.ngen rfl ⟨c', oc, vs, t, rfl, h1, h2, h3⟩ ?_
  rw [hb]
  refine wpAny_pure (wpAny_newFunctionEnv (fun z hz => (L.own z hz).1) (fun z hz => by rw [List.mem_singleton.mp hz]; exact L.par) (fun g hns hsb => ⟨I.nolimit.fresh _ hsb, ?_⟩) L.fn)
  show codeAny _ _ (.expr body (lamEnv X scope s.heap.objs.size f c')) _ _
  have kp : ∀ b o, s.heap.get? b = some o → g.get? b = some o := fun b o e => hsb.extBut b o (Nat.ne_of_lt (Heap.lt_size e)) (Heap.get?_push_of_some _ e)
  have J : Inv (parCx X A outer s H E scope f c' y) [] (σ ++ [some x]) H { s with heap := g, toks := s.toks + ([(y, v)] : List (Str × Value)).length } := par_start I L hy e0 hr.hd rx hns kp
  refine PySem.W.kla_codeExpr (wpAny_mono ((hbody (hr.deeper _)).run [] _ _ H Q J ht) (fun u s' q => ?_) fun _ _ q => q)
  obtain ⟨w', H', J', rv, q⟩ := q
  exact ⟨w', H', J'.os, J'.bare, J'.base, J'.hok, rv, q⟩
end
end ZB

set_option Elab.async false
set_option linter.all false
set_option maxRecDepth 100000
set_option maxHeartbeats 1000000
/-! sorted(xs, key=lambda): the sort's own lists beside the invariant -/
namespace ZB
open PySem PySem.Spec PyProof.Rows L2 LamX Z
section
variable {X : Cx} {pins pl : List (Addr × Obj)} {σ : L2.St} {H : Hp} {s : Shared} {kS a : Addr} {o o' oa : Obj} {h' : Heap} {t' : Nat}
theorem pin_cell {p : Addr × Obj} (I : Inv X pins σ H s) (hp : p ∈ pins) : ∀ z c, X.env.cells.lookup z = some c → c ≠ p.1 := fun z c e g => by
  obtain ⟨h1, _, _, _, h5⟩ := I.pin p (List.mem_append_right _ hp)
  obtain ⟨v, u, hu, hd⟩ := I.cell z c e
  rw [g, h1] at hu
  cases hu
  exact h5 _ hd
theorem repin (I : Inv X (pins ++ (kS, o) :: pl) σ H s) (k : ∀ b u, b ≠ kS → s.heap.get? b = some u → h'.get? b = some u) (hk : h'.get? kS = some o') (hd : ∀ v, o'.data ≠ .cell v) (h1 : X.s_0.heap.objs.size ≤ kS)
    (h3 : ∀ p ∈ X.pn ++ pins, p.1 ≠ kS) (h4 : ∀ p ∈ pl, p.1 ≠ kS) : Inv X (pins ++ (kS, o') :: pl) σ H { s with heap := h', toks := t' } := by
  have mk : (kS, o) ∈ pins ++ (kS, o) :: pl := List.mem_append_right _ List.mem_cons_self
  obtain ⟨e1, e2, e3, e4, e5⟩ := I.pin _ (List.mem_append_right _ mk)
  have sub : ∀ p ∈ pins ++ pl, p ∈ pins ++ (kS, o) :: pl := fun p hp => (List.mem_append.mp hp).elim (fun g => List.mem_append_left _ g) fun g => List.mem_append_right _ (List.mem_cons_of_mem _ g)
  have I1 : Inv X (pins ++ pl) σ H s := I.pins_of fun p hp => I.pin p (List.mem_append_right _ (sub p hp))
  have I2 : Inv X (pins ++ pl) σ H { s with heap := h', toks := t' } := I1.turned k e2 e3 (.inr h1) (pin_cell I mk) fun p hp => by
    rcases List.mem_append.mp hp with g | g
    · exact h3 p (List.mem_append_left _ g)
    · rcases List.mem_append.mp g with g | g
      · exact h3 p (List.mem_append_right _ g)
      · exact h4 p g
  refine I2.pins_of fun p hp => ?_
  rcases List.mem_append.mp hp with g | g
  · exact I2.pin p (List.mem_append_right _ (List.mem_append_left _ g))
  · rcases List.mem_cons.mp g with rfl | g
    · exact ⟨hk, e2, e3, e4, hd⟩
    · exact I2.pin p (List.mem_append_right _ (List.mem_append_right _ g))
theorem untrack {its : List Value} {n : Nat} {ys : List V} (I : Inv X (pins ++ [(kS, o), (a, oa)]) σ H s) (k : ∀ b u, b ≠ a → b ≠ kS → s.heap.get? b = some u → h'.get? b = some u)
    (ha : h'.get? a = some { cls := .type "list", data := .seq its.toArray n }) (rv : Vals ys its) (hz : ys.length ≤ sizeLine) (h1 : X.s_0.heap.objs.size ≤ kS) (h2 : X.s_0.heap.objs.size ≤ a)
    (h3 : ∀ p ∈ X.pn ++ pins, p.1 ≠ kS) (h4 : ∀ p ∈ X.pn ++ pins, p.1 ≠ a) : Inv X pins σ (upd H a (.lst ys)) { s with heap := h', toks := t' } := by
  have m1 : (kS, o) ∈ pins ++ [(kS, o), (a, oa)] := List.mem_append_right _ List.mem_cons_self
  have m2 : (a, oa) ∈ pins ++ [(kS, o), (a, oa)] := List.mem_append_right _ (List.mem_cons_of_mem _ List.mem_cons_self)
  obtain ⟨e1, e2, e3, e4, e5⟩ := I.pin _ (List.mem_append_right _ m1)
  obtain ⟨g1, g2, g3, g4, g5⟩ := I.pin _ (List.mem_append_right _ m2)
  have I1 : Inv X pins σ H s := I.pins_of fun p hp => I.pin p (List.mem_append_right _ (List.mem_append_left _ hp))
  have na : ∀ {b : Addr} {u : HO}, H b = some u → b ≠ a := fun e => ne_of_none e g2
  have nk : ∀ {b : Addr} {u : HO}, H b = some u → b ≠ kS := fun e => ne_of_none e e2
  have ne : ∀ {b : Addr} {u : HO}, H b = some u → upd H a (.lst ys) b = some u := fun {b u} e => by rw [upd_ne (na e)]; exact e
  have nch : ∀ {b : Addr}, b ∉ [kS, a] → b ≠ a ∧ b ≠ kS := fun {b} h => ⟨fun z => h (by rw [z]; simp), fun z => h (by rw [z]; simp)⟩
  refine I1.step (g' := s.gens) (d' := s.drawn) (ch := [kS, a]) (fun b hb => ?_) (fun b u _ _ hc e _ => k b u (nch hc).1 (nch hc).2 e) (fun b u _ _ hc e _ => ⟨u.slots, k b u (nch hc).1 (nch hc).2 e⟩)
    (fun b u hc _ n => by rw [upd_ne (nch hc).1]; exact n) (fun b u hc e => ⟨u, k b u (nch hc).1 (nch hc).2 e⟩) (fun b xs e => ne e) (fun b u w e => ne e) (fun b ps e => ⟨#[], by rw [ne e]; simp⟩) (fun m hm => ?_) (fun b u e => ?_) I.bare
  · rcases List.mem_cons.mp hb with rfl | hb
    · exact ⟨.inr h1, e3, pin_cell I m1, h3⟩
    · rw [List.mem_singleton.mp hb]
      exact ⟨.inr h2, g3, pin_cell I m2, h4⟩
  · obtain ⟨u, es, ep, hu, r⟩ := hm
    exact ⟨u, es, ep, k _ u (Ne.symm g3) (Ne.symm e3) hu, r⟩
  · by_cases hb : b = a
    · subst hb
      rw [upd_same] at e
      cases e
      exact ⟨hz, its, n, rv, ha⟩
    · rw [upd_ne hb] at e
      refine (I.hok b u e).stay (fun c v hc q => ?_) (fun c q => ne q) fun c xs q => ne q
      rcases hc with z | z
      · rw [z] at q ⊢
        exact k _ v (na e) (nk e) q
      · exact k _ v (na z) (nk z) q
end
end ZB

set_option Elab.async false
set_option linter.all false
set_option maxRecDepth 100000
set_option maxHeartbeats 1000000
/-! sorted(xs, key=lambda): the keys made one by one, the end -/
namespace ZB
open PySem PySem.Spec PyProof.Rows L2 LamX Z
/-- the things in the order of their keys -/
def srtK (k : V → Int) (xs : List V) : List V := xs.mergeSort fun x y => decide (k x ≤ k y)
theorem srtK_perm (k : V → Int) (xs : List V) : (srtK k xs).Perm xs := List.mergeSort_perm _ _
theorem srtK_pw (k : V → Int) (xs : List V) : (srtK k xs).Pairwise fun x y => k x ≤ k y := by
  have h := List.pairwise_mergeSort (le := fun x y => decide (k x ≤ k y)) (fun a b c h1 h2 => by
    have := of_decide_eq_true h1
    have := of_decide_eq_true h2
    exact decide_eq_true (by omega)) (fun a b => by
    rw [Bool.or_eq_true, decide_eq_true_eq, decide_eq_true_eq]
    omega) xs
  exact h.imp fun h => of_decide_eq_true h
theorem tk1 {α : Type} {N : List α} {i : Nat} {n : α} (h : N[i]? = some n) : N.take (i + 1) = N.take i ++ [n] := by
  rw [List.take_add_one, h]
  rfl
theorem each_vals : ∀ {xs : List V} {vs : List Value}, Vals xs vs → PySem.W.EachIs (fun (v : Value) (x : V) => RelV x v) vs xs
  | _, _, .nil => .nil
  | _, _, .cons r t => .cons r (each_vals t)
theorem vals_each : ∀ {vs : List Value} {xs : List V}, PySem.W.EachIs (fun (v : Value) (x : V) => RelV x v) vs xs → Vals xs vs
  | _, _, .nil => .nil
  | _, _, .cons r t => .cons r (vals_each t)
theorem ints_reads {h : Heap} : ∀ {vs : List Value} {ns : List Int}, IntsAre vs ns → PySem.W.EachIs (fun (v : Value) (d : PyData) => ∃ as, Reads h v d as) vs (ns.map PyData.int)
  | _, _, .nil => .nil
  | _, _, .cons n t r => .cons ⟨[], .int n t⟩ (ints_reads r)
section
variable {X : Cx} {pins : List (Addr × Obj)} {σ : L2.St} {H : Hp} {s : Shared} {A : Around} {E : Value → Shared → Prop} {kS a : Addr} {fv : Value} {vs : List Value} {xs : List V} {k : V → Int} {e1 : Nat} {ok : Hp → Prop} {P : PySem.Fin → Shared → Prop}
theorem end_run {kA : Array Value} {e : Nat} (I : Inv X (pins ++ [(kS, seqObj "list" kA e), (a, seqObj "list" #[] e1)]) σ H s) (rv : Vals xs vs) (hz : vs.length ≤ 1000) (hka : kS ≠ a) (h1 : X.s_0.heap.objs.size ≤ kS) (h2 : X.s_0.heap.objs.size ≤ a)
    (h3 : ∀ p ∈ X.pn ++ pins, p.1 ≠ kS) (h4 : ∀ p ∈ X.pn ++ pins, p.1 ≠ a) (hk : IntsAre kA.toList (xs.map k)) (hu : A.units < cLine)
    (h : ∀ h' tk, Inv X pins σ (upd H a (.lst (srtK k xs))) { s with heap := h', toks := tk } → P (.done (.ret .none)) { s with heap := h', toks := tk }) :
    wpAny (model X.prog X.w) A (ksk_end a false vs.toArray e1 (.ref kS) kA) P E s := by
  have nk := (I.pin (kS, seqObj "list" kA e) (List.mem_append_right _ (List.mem_append_right _ List.mem_cons_self))).1
  have na := (I.pin (a, seqObj "list" #[] e1) (List.mem_append_right _ (List.mem_append_right _ (List.mem_cons_of_mem _ List.mem_cons_self)))).1
  have lx := rv.length
  have lk : kA.size = vs.length := by
    have := hk.length
    rw [Array.length_toList, List.length_map] at this
    omega
  have sL : (1000 : Nat) < sizeLine := by rw [sizeLine_eq]; decide
  have al : PySem.W.AllAlike (xs.map fun x => PyData.int (k x)) := PySem.W.AllAlike.of fun _ _ => by simp [PySem.W.alike]
  have er : PySem.W.EachIs (fun (v : Value) (d : PyData) => ∃ as, Reads s.heap v d as) kA.toList (xs.map fun x => PyData.int (k x)) := by
    have := ints_reads (h := s.heap) hk
    rw [List.map_map] at this
    exact this
  let hk0 : Heap := hidT s.heap fun b => if b = kS then some (.lst []) else none
  have k0 : ∀ b o, hk0.get? b = some o → s.heap.get? b = some o ∧ b ≠ kS := fun b o e => by
    obtain ⟨g1, g2⟩ := of_hidT e
    refine ⟨g1, fun z => ?_⟩
    rw [if_pos z] at g2
    cases g2
  refine PySem.W.keyH_end (h₁ := hk0) (κ := PySem.W.dataKind s.heap (xs.map fun x => PyData.int (k x))) (fun b o _ e => (k0 b o e).1) ?_ nk na hka (PySem.W.SortsAt.data er al (PySem.W.Sortable.others fun _ => ⟨(fun z => by cases z), (fun _ z => by cases z)⟩) fun d hd => ?_) lk (by omega) fun h' tk c kp hc => h h' tk ?_
  · cases g : hk0.get? kS with
    | none => rfl
    | some o => exact absurd rfl (k0 _ _ g).2
  · obtain ⟨x, _, rfl⟩ := List.mem_map.mp hd
    exact hu
  · have ko : PySem.W.EachIs (fun (v : Value) (x : V) => RelV x v) (PySem.W.sortVals (PySem.W.dataKind s.heap (xs.map fun x => PyData.int (k x))) false kA.toList vs) (xs.mergeSort (PySem.W.dataLe false fun x => PyData.int (k x))) :=
      PySem.W.keyedOut_each (fun x => PyData.int (k x)) ⟨s.heap, kA.toList, al, rfl, er⟩ (each_vals rv)
    rw [PySem.W.dataLe_int] at ko
    refine untrack I (fun b u n1 n2 e => kp b u n1 (hidT_get e (by rw [if_neg n2]))) hc (vals_each ko) ?_ h1 h2 h3 h4
    rw [(srtK_perm k xs).length_eq]
    omega
theorem rest_run (I : Inv X (pins ++ [(kS, seqObj "list" #[] 0), (a, seqObj "list" #[] e1)]) σ H s) (ok0 : ok H) (rv : Vals xs vs) (hz : vs.length ≤ 1000) (hka : kS ≠ a) (h1 : X.s_0.heap.objs.size ≤ kS) (h3 : ∀ p ∈ X.pn ++ pins, p.1 ≠ kS)
    (turn : ∀ x ∈ xs, ∀ v, RelV x v → ∀ (pl : List (Addr × Obj)) (s : Shared) (H : Hp), Inv X (pins ++ pl) σ H s → ok H → wpAny (model X.prog X.w) A (call fv [v]) (EP X (pins ++ pl) σ fun r H' => r = .int (k x) ∧ ok H') (fun _ _ => False) s)
    (h : ∀ s' H' kA e, Inv X (pins ++ [(kS, seqObj "list" kA e), (a, seqObj "list" #[] e1)]) σ H' s' → ok H' → IntsAre kA.toList (xs.map k) → wpAny (model X.prog X.w) A (ksk_end a false vs.toArray e1 (.ref kS) kA) P E s') :
    wpAny (model X.prog X.w) A (ksk_rest a fv false vs.toArray e1 (.ref kS)) P E s := by
  have lx := rv.length
  have sL : (1000 : Nat) < sizeLine := by rw [sizeLine_eq]; decide
  unfold ksk_rest
  refine wpAny_bind (wpAny_rule ?_)
  first
    | rw [List.forIn_toArray]
    | (rw [← Array.forIn_toList]; simp only [List.toList_toArray])
  refine wpAny_bind (ksk_fold (fun i s' => ∃ H' kA e, Inv X (pins ++ [(kS, seqObj "list" kA e), (a, seqObj "list" #[] e1)]) σ H' s' ∧ ok H' ∧ IntsAre kA.toList ((xs.map k).take i)) vs 0 s ⟨H, #[], 0, I, ok0, by rw [List.take_zero]; exact .nil⟩ ?_ ?_)
  · rintro j u s' hu ⟨H', kA, e, I', ok', hk⟩
    rw [Nat.zero_add] at hk ⊢
    have hj : j < vs.length := (List.getElem?_eq_some_iff.mp hu).1
    have hx : xs[j]? = some (xs[j]'(by omega)) := List.getElem?_eq_getElem _
    obtain ⟨u', hu', rx⟩ := rv.get hx
    rw [hu] at hu'
    cases hu'
    have xm := List.mem_of_getElem? hx
    generalize xs[j]'(by omega) = x at *
    have lk : kA.size ≤ 1000 := by
      have := hk.length
      rw [Array.length_toList, List.length_take, List.length_map] at this
      omega
    refine wpAny_bind (wpAny_attempt (wpAny_mono (turn x xm u rx _ _ H' I' ok') (fun w s2 he => ?_) fun _ _ z => z.elim))
    obtain ⟨r, H2, I2, rr, rfl, ok2⟩ := he
    obtain ⟨t, rfl⟩ := rr
    try dsimp only
    have nk := (I2.pin (kS, seqObj "list" kA e) (List.mem_append_right _ (List.mem_append_right _ List.mem_cons_self))).1
    have sb := Heap.SameBut.update s2.heap kS (Obj.mapSeq (·.push (Value.int (k x) t)))
    obtain ⟨c2, hc2⟩ : ∃ c2, (s2.heap.update kS (Obj.mapSeq (·.push (Value.int (k x) t)))).get? kS = some (seqObj "list" (kA.push (Value.int (k x) t)) c2) := ⟨_, get?_update_seq nk (·.push (Value.int (k x) t))⟩
    refine wpAny_bind (listUpdate_at nk rfl ?_ (by omega) (by rw [Array.size_push]; omega))
    refine wpAny_pure ⟨rfl, H2, kA.push (Value.int (k x) t), c2, repin (t' := s2.toks) I2 (fun b v nb q => (sb.2 b nb).trans q) hc2 (fun v z => by cases z) h1 h3 (fun p hp => by rw [List.mem_singleton.mp hp]; exact Ne.symm hka), ok2, ?_⟩
    rw [tk1 (show (xs.map k)[j]? = some (k x) by rw [List.getElem?_map, hx]; rfl), show (kA.push (Value.int (k x) t)).toList = kA.toList ++ [Value.int (k x) t] from by simp]
    exact ksk_snoc hk
  · rintro s' ⟨H', kA, e, I', ok', hk⟩
    rw [Nat.zero_add, List.take_of_length_le (by rw [List.length_map]; omega)] at hk
    have nk := (I'.pin (kS, seqObj "list" kA e) (List.mem_append_right _ (List.mem_append_right _ List.mem_cons_self))).1
    try dsimp only
    refine wpAny_bind (listItems_at nk rfl ?_)
    exact h s' H' kA e I' ok' hk
end
end ZB

set_option Elab.async false
set_option linter.all false
set_option maxRecDepth 100000
set_option maxHeartbeats 1000000
/-! sorted(xs, key=lambda): the whole call -/
namespace ZB
open PySem PySem.Spec PyProof.Rows L2 LamX Z
section
variable {X : Cx} {pins : List (Addr × Obj)} {σ : L2.St} {H : Hp} {s : Shared} {E : Value → Shared → Prop} {l : Addr} {fv : Value} {xs : List V} {k : V → Int} {ok : Hp → Prop} {Q : Value → Shared → Prop}
theorem sorted_run (I : Inv X pins σ H s) (hs : SqA X.K H l xs) (hz : xs.length ≤ 1000) (hu : X.A.in1.in1.units < cLine) (ok0 : ok H) (hkt : ∀ a, Builtin.«list.sort» ⟨[.ref a], [(Str.ofString "key", fv)]⟩ = ksk_tree a fv false)
    (turn : ∀ x ∈ xs, ∀ v, RelV x v → ∀ (pl : List (Addr × Obj)) (s : Shared) (H : Hp), Inv X (pins ++ pl) σ H s → ok H → wpAny (model X.prog X.w) X.A.in1.in1 (call fv [v]) (EP X (pins ++ pl) σ fun r H' => r = .int (k x) ∧ ok H') (fun _ _ => False) s)
    (h : ∀ (a : Addr) (H' : Hp) (s' : Shared), ok H' → H a = none → H' a = none → Inv X pins σ (upd H' a (.lst (srtK k xs))) s' → Q (.ref a) s') :
    wpAny (model X.prog X.w) X.A (call (.builtin "sorted") [.ref l] [(Str.ofString "key", fv)]) Q E s := by
  have sL : (1000 : Nat) < sizeLine := by rw [sizeLine_eq]; decide
  obtain ⟨its, o, n, T, rv, ho, hc, hT, hdt⟩ : ∃ (its : List Value) (o : Obj) (n : Nat) (T : String), Vals xs its ∧ s.heap.get? l = some o ∧ o.cls = .type T ∧ (T = "list" ∨ T = "tuple") ∧ o.data = .seq its.toArray n := by
    rcases hs with hd | hd
    · obtain ⟨its, rv, pl, _⟩ := I.list hd
      obtain ⟨o, g1, g2, n, g3⟩ := pl.isList
      exact ⟨its, o, n, _, rv, g1, g2, .inl rfl, g3⟩
    · obtain ⟨its, rv, ⟨o, g1, g2, n, g3⟩, _⟩ := I.tuple hd
      exact ⟨its, o, n, _, rv, g1, g2, .inr rfl, g3⟩
  have lx := rv.length
  refine call_function_entry_kw kind_sorted plain_sorted entry_sorted (ksk_s1 _ _) ?_
  unfold Builtin.«sorted»
  refine wpAny_bind (m := checkCount "sorted" 1 1 _) (wpAny_pure ?_)
  refine wpAny_bind (wpAny_collect_seq l hT ho hc hdt (fun g hk => ?_) (by rw [List.size_toArray]; omega))
  rw [show its.toArray.toList = its by simp]
  have I1 : Inv X pins σ H { s with heap := g } := I.kept (t' := s.toks) hk
  refine wpAny_bind (wpAny_newList ?_ (by omega))
  have hL : (g.push (seqObj "list" its.toArray 0)).get? g.objs.size = some (seqObj "list" its.toArray 0) := Heap.get?_push_size _ rfl
  show wpAny _ _ _ _ _ { s with heap := g.push (seqObj "list" its.toArray 0) }
  refine wpAny_bind (wpAny_holding (wpAny_call_entry_kw slot_list_sort ⟨_, hL, rfl⟩ entry_list_sort ?_ (ksk_l1 _ _)))
  rw [hkt]
  generalize ha : g.objs.size = a at *
  obtain ⟨e1, ho1⟩ : ∃ e1, ((g.push (seqObj "list" its.toArray 0)).update a (Obj.mapSeq fun _ => (#[] : Array Value))).get? a = some (seqObj "list" #[] e1) := ⟨_, get?_update_seq hL fun _ => #[]⟩
  unfold ksk_tree
  refine wpAny_bind (listItems_at hL rfl ?_)
  refine wpAny_bind (listUpdate_at hL rfl ?_ (by rw [List.size_toArray]; omega) (Nat.zero_le _))
  refine wpAny_bind (seqEpoch_at ho1 rfl ?_)
  refine wpAny_bind (wpAny_newTuple ?_ (by show its.length ≤ _; omega))
  refine wpAny_bind (wpAny_newList ?_ (Nat.zero_le _))
  refine wpAny_holding ?_
  show wpAny _ _ (ksk_rest a fv false its.toArray e1 (.ref (((g.push (seqObj "list" its.toArray 0)).update a (Obj.mapSeq fun _ => (#[] : Array Value))).push (seqObj "tuple" its.toArray.toList.toArray 0)).objs.size)) _ _
    { s with heap := (((g.push (seqObj "list" its.toArray 0)).update a (Obj.mapSeq fun _ => (#[] : Array Value))).push (seqObj "tuple" its.toArray.toList.toArray 0)).push (seqObj "list" #[] 0) }
  have z3 : (((g.push (seqObj "list" its.toArray 0)).update a (Obj.mapSeq fun _ => (#[] : Array Value))).push (seqObj "tuple" its.toArray.toList.toArray 0)).objs.size = a + 2 := by
    rw [size_push', Heap.size_update, size_push', ha]
  have kp : ∀ b u, g.get? b = some u → ((((g.push (seqObj "list" its.toArray 0)).update a (Obj.mapSeq fun _ => (#[] : Array Value))).push (seqObj "tuple" its.toArray.toList.toArray 0)).push (seqObj "list" #[] 0)).get? b = some u := fun b u e =>
    Heap.get?_push_of_some _ (Heap.get?_push_of_some _ (((Heap.SameBut.update (g.push (seqObj "list" its.toArray 0)) a (Obj.mapSeq fun _ => (#[] : Array Value))).2 b (fun z => by have h := Heap.lt_size e; rw [z, ← ha] at h; exact Nat.lt_irrefl _ h)).trans (Heap.get?_push_of_some _ e)))
  have I4 : Inv X pins σ H { s with heap := (((g.push (seqObj "list" its.toArray 0)).update a (Obj.mapSeq fun _ => (#[] : Array Value))).push (seqObj "tuple" its.toArray.toList.toArray 0)).push (seqObj "list" #[] 0) } := I1.kept (t' := s.toks) kp
  have gkS : ((((g.push (seqObj "list" its.toArray 0)).update a (Obj.mapSeq fun _ => (#[] : Array Value))).push (seqObj "tuple" its.toArray.toList.toArray 0)).push (seqObj "list" #[] 0)).get? (((g.push (seqObj "list" its.toArray 0)).update a (Obj.mapSeq fun _ => (#[] : Array Value))).push (seqObj "tuple" its.toArray.toList.toArray 0)).objs.size = some (seqObj "list" #[] 0) := Heap.get?_push_size _ rfl
  have ga : ((((g.push (seqObj "list" its.toArray 0)).update a (Obj.mapSeq fun _ => (#[] : Array Value))).push (seqObj "tuple" its.toArray.toList.toArray 0)).push (seqObj "list" #[] 0)).get? a = some (seqObj "list" #[] e1) := Heap.get?_push_of_some _ (Heap.get?_push_of_some _ ho1)
  rw [z3] at gkS ⊢
  generalize (((g.push (seqObj "list" its.toArray 0)).update a (Obj.mapSeq fun _ => (#[] : Array Value))).push (seqObj "tuple" its.toArray.toList.toArray 0)).push (seqObj "list" #[] 0) = g4 at *
  have la : X.s_0.heap.objs.size ≤ a := by rw [← ha]; exact I1.sz
  have na : H a = none := I1.hok.fresh (Nat.le_of_eq ha)
  have nS : H (a + 2) = none := I1.hok.fresh (show g.objs.size ≤ a + 2 by rw [ha]; exact Nat.le_add_right _ _)
  have lt := I1.lt
  have lt : X.env.locals < g.objs.size := lt
  have pl : ∀ p ∈ X.pn ++ pins, p.1 < a := fun p hp => by
    have := Heap.lt_size (I1.pin p hp).1
    rw [← ha]
    exact this
  have I5 : Inv X (pins ++ [(a + 2, seqObj "list" #[] 0), (a, seqObj "list" #[] e1)]) σ H { s with heap := g4 } := I4.pins_of fun p hp => by
    rcases List.mem_append.mp hp with hp | hp
    · exact I4.pin p (List.mem_append_right _ hp)
    · simp only [List.mem_cons, List.not_mem_nil, or_false] at hp
      rcases hp with rfl | rfl
      · exact ⟨gkS, nS, Ne.symm (Nat.ne_of_lt (Nat.lt_of_lt_of_le lt (by rw [ha]; exact Nat.le_add_right _ _))), I1.nofs (show g.objs.size ≤ a + 2 by rw [ha]; exact Nat.le_add_right _ _), fun v z => by cases z⟩
      · exact ⟨ga, na, Ne.symm (Nat.ne_of_lt (Nat.lt_of_lt_of_le lt (Nat.le_of_eq ha))), I1.nofs (Nat.le_of_eq ha), fun v z => by cases z⟩
  have n2 : ∀ p ∈ X.pn ++ pins, p.1 ≠ a + 2 := fun p hp => Nat.ne_of_lt (Nat.lt_of_lt_of_le (pl p hp) (Nat.le_add_right _ _))
  have n0 : ∀ p ∈ X.pn ++ pins, p.1 ≠ a := fun p hp => Nat.ne_of_lt (pl p hp)
  have l2 : X.s_0.heap.objs.size ≤ a + 2 := Nat.le_trans la (Nat.le_add_right _ _)
  have na2 : a + 2 ≠ a := Nat.ne_of_gt (Nat.lt_add_of_pos_right (by decide))
  have zi : its.length ≤ 1000 := by omega
  refine rest_run (k := k) (ok := ok) I5 ok0 rv zi na2 l2 n2 turn fun s' H' kA e I' ok' hk => ?_
  refine end_run I' rv zi na2 l2 la n2 n0 hk hu fun h' tk J => ⟨_, rfl, wpAny_pure ⟨_, rfl, h a H' _ ok' na ?_ J⟩⟩
  exact (I'.pin (a, seqObj "list" #[] e1) (List.mem_append_right _ (List.mem_append_right _ (List.mem_cons_of_mem _ List.mem_cons_self)))).2.1
end
end ZB

set_option Elab.async false
set_option linter.all false
set_option maxRecDepth 100000
set_option maxHeartbeats 1000000
/-! sorted(xs, key=lambda): the rule -/
namespace ZB
open PySem PySem.Spec PyProof.Rows L2 LamX Z
theorem extN_of {H H' : Hp} (s : Same H H') : ExtN H H' := fun b o e _ => s _ _ e
theorem rdN {H H' : Hp} {a : Addr} {u : HO} (e : ExtN H H') (n : ∀ ps, u ≠ .tbl ps) (h : Rd H a u) : Rd H' a u :=
  h.elim (fun g => .inl (e _ _ g n)) fun ⟨o, g⟩ => .inr ⟨o, e _ _ g fun ps z => by cases z⟩
theorem seqN {K : PySem.W.Frag} {H H' : Hp} {a : Addr} {xs : List V} (e : ExtN H H') (h : SqA K H a xs) : SqA K H' a xs :=
  h.elim (fun g => .inl (g.elim (fun r => .inl (rdN e (fun ps z => by cases z) r)) .inr)) fun g => .inr (g.elim (fun r => .inl (rdN e (fun ps z => by cases z) r)) .inr)
def rSortLam (K : PySem.W.Frag) (T : List (Addr × Str)) (tb : TE) (σ : L2.St) (Q : VK) (x : V) (H1 : Hp) : Prop := ∃ (a : Addr) (xs : List V) (k : V → Int), x = .ref a ∧ SqA K H1 a xs ∧ xs.length ≤ 1000 ∧ Tabs T H1 ∧
  ∀ H2, ExtN H1 H2 → Tabs T H2 → (∀ z ∈ xs, ∀ H3, Same H2 H3 → tb (σ ++ [some z]) H3 fun r H4 => r = .int (k z) ∧ Same H3 H4) ∧ ∀ q H3, H2 q = none → Same H2 H3 → H3 q = some (.lst (srtK k xs)) → Q (.ref q) H3
def tSortLam (K : PySem.W.Frag) (T : List (Addr × Str)) (te tb : TE) : TE := fun σ H Q => te σ H fun x H1 => rSortLam K T tb σ Q x H1
theorem i_sortLam {K : PySem.W.Frag} {T : List (Addr × Str)} {te tb : TE} {σ : L2.St} {H : Hp} {Q : VK} (h : te σ H fun x H1 => rSortLam K T tb σ Q x H1) : tSortLam K T te tb σ H Q := h
def oneArg (r : V → Hp → Prop) : List V → Hp → Prop := fun vs H => match vs with
  | [x] => r x H
  | _ => False
section
variable {X : Cx}
theorem pe_sortLam {T : List (Addr × Str)} {e body : Expr} {te tb : TE} {params : Arguments} {scope : Scope} {y : Str} {c P : Addr} {j : Nat} {p kp lpos pos : Pos} (hg : Gl X "sorted") (hm : X.mg "sorted" = none) (he : PA X [e] (tCons te tNil))
    (TB : TabB X.base X.mg c P) (hcode : X.env.code = .ref c) (hmT : (P, X.env.qual ++ "<lambda>") ∈ T) (hu : ∀ p ∈ T, p.1 = P → p.2 = X.env.qual ++ "<lambda>") (hr : Room (j + 3) X.A) (L : LamP X.env.scope scope y) (hy : y ∉ X.N) (hdef : defaultsOf params X.env = ([], []))
    (hbind : ∀ (q : Str) (cl : List (Str × Addr)) (pm cv ctv v : Value), bindArgs (PySem.W.kla_fn "<lambda>" q params body scope cl pm cv ctv) ⟨[v], []⟩ = pure [(y, v)])
    (hbody : ∀ (A : Around) (outer : List Env) (s : Shared) (H : Hp) (E : XK) (f c' : Addr), Room j (A.deeper (lamEnv X scope s.heap.objs.size f c')) → PE (parCx X A outer s H E scope f c' y) body tb)
    (he1 : backTo pos (starEach [e] X.env) = (false, eval e X.env) :: backTo pos (starEach [] X.env) := by rfl) (hp1 : (backTo pos (starEach [e] X.env)).any (·.1) = false := by rfl) :
    PE X (.Call (.Name "sorted" p) [e] [⟨some "key", .Lambda params body scope lpos, kp⟩] pos) (tSortLam X.K T te tb) := by
  refine ⟨fun pins s σ H Q I h => ?_⟩
  have h' : tCons te tNil σ H (oneArg fun x H1 => rSortLam X.K T tb σ Q x H1) := h
  refine wpAny_Call_Name_kw (ld_blt I hg hm (by rfl) ?_ (by decide) (by decide))
  refine callWith_kw (thn (he.run pos pins s σ H _ I h') fun us s1 ⟨vs, H1, I1, r1, q1⟩ => ?_) he1 hp1 (by rfl) (by rfl)
  obtain ⟨x, rfl⟩ : ∃ x, vs = [x] := by
    match vs, q1 with
    | [x], _ => exact ⟨x, rfl⟩
  obtain ⟨u, rfl, rx⟩ := vals1 r1
  obtain ⟨a, xs, k, rfl, hs, hz, hT, q2⟩ := q1
  cases rx
  show wpAny _ _ (evalAll [do let v ← eval (.Lambda params body scope lpos) X.env; standAt pos; pure v]) _ _ s1
  refine wpAny_evalAll_cons (wpAny_bind (lam_make2 I1 TB hcode hmT hu hT hdef (L.has I1.ok) fun f c' pm ctv H2 s2 I2 eN T2 hf hfn hfr hco => wpAny_bind (wpAny_standAt (wpAny_pure (wpAny_evalAll_nil ?_)))))
  obtain ⟨ht, hq⟩ := q2 H2 eN T2
  show wpAny _ _ (call (.builtin "sorted") [.ref a] [(Str.ofString "key", .ref f)]) _ _ s2
  have fs : f ∉ X.fs := fun z => by
    rcases I2.ok.stk with g | ⟨g, _⟩
    · exact hfr (by rw [g]; exact z)
    · refine hfr ?_
      rw [g]
      show f ∈ List.filterMap (fun e : Env => e.frame) (X.env :: X.outer)
      rw [List.filterMap_cons]
      split
      · exact z
      · exact List.mem_cons_of_mem _ z
  have fl : f ≠ X.env.locals := fun z => by
    obtain ⟨m, ⟨o, es, ep, ho, hd, _⟩, _⟩ := I2.loc
    rw [z, ho] at hf
    cases hf
    cases hd
  have I3 : Inv X (pins ++ [(f, PySem.W.kla_obj "<lambda>" (X.env.qual ++ "<lambda>") params body scope (cloFrom X.env.cells scope.names []) pm c' ctv)]) σ H2 s2 := I2.pins_of fun p hp => by
    rcases List.mem_append.mp hp with hp | hp
    · exact I2.pin p (List.mem_append_right _ hp)
    · rw [List.mem_singleton.mp hp]
      exact ⟨hf, hfn, fl, fs, fun v z => by cases z⟩
  have hr1 : Room (j + 1) X.A.in1.in1 := hr.in1.in1
  refine sorted_run (k := k) (ok := fun H => Same H2 H) I3 (seqN eN hs) hz (by have := hr1.units; omega) (.refl _) (fun a => ksk_t1 _ a) (fun z hz v rz pl s3 H3 J s23 => ?_) fun q H3 s3 s23 n2 n3 J => ?_
  · have pf := (J.pin (f, _) (List.mem_append_right _ (List.mem_append_left _ (List.mem_append_right _ List.mem_cons_self)))).1
    refine wpAny_call (codeAny_mono (par_call (E := fun _ _ _ => False) (Q := fun r H4 => r = .int (k z) ∧ Same H3 H4) J L hy J.env0.in1.in1 rz pf (s23 _ _ hco) (hbind _ _ _ _ _ _) hr1 (hbody _ _ _ _ _ _ _) (ht z hz H3 s23)) fun r s4 hq => ?_)
    rcases r with e | fl
    · exact (cxN hq).elim
    rcases fl with _ | _ | _ | u'
    · exact False.elim hq
    · exact False.elim hq
    · exact False.elim hq
    obtain ⟨v', H4, J4, rv, g1, g2⟩ := J.after hq
    exact ⟨v', H4, J4, rv, g1, s23.trans g2⟩
  · refine ⟨.ref q, _, J.pins_of fun p hp => J.pin p (List.mem_append_right _ (List.mem_append_left _ hp)), rfl, hq q _ n2 (fun b o e => ?_) upd_same⟩
    rw [upd_ne (ne_of_none (s23 _ _ e) n3)]
    exact s23 _ _ e
end
end ZB

set_option Elab.async false
set_option linter.all false
set_option maxRecDepth 100000
set_option maxHeartbeats 1000000
/-! tuples sorted, the first of them empty -/
namespace ZB
open PySem PySem.Spec PyProof.Rows L2 PySem.W PySem.SeqAt
section
variable {prog : Program} {w : World} {A : Around} {E : Value → Shared → Prop} {s : Shared} {a b : Value} {as bs : List Addr} {Q : Bool → Shared → Prop}
theorem oneLt_tup {xs ys : List PyData} (ra : Reads s.heap a (.tuple xs) as) (rb : Reads s.heap b (.tuple ys) bs) (hal : alikeAll xs ys = true) (hu : A.units + min (PyData.depth (.tuple xs)) (PyData.depth (.tuple ys)) < cLine) (hq : Q (dataLt (.tuple xs) (.tuple ys)) s) :
    wpAny (model prog w) A (oneLt' true a b) Q E s := by
  cases ra with
  | @tuple l o vs n _ _ h1 h2 h3 h4 =>
    cases rb with
    | @tuple l' o' vs' n' _ _ k1 k2 k3 k4 =>
      have n1 : vs.size = xs.length := by simpa using ReadsAll.length _ _ _ h4
      have n2 : vs'.size = ys.length := by simpa using ReadsAll.length _ _ _ k4
      rw [dataLt_tuple, ← firstLt_toks xs ys hal, ← n1, ← n2] at hq
      rw [oneLt'_eq]
      simp only [if_true]
      refine wpAny_bind (wpAny_cRoomFor (room_here hu) ?_)
      obtain ⟨cls, dd, data, sl⟩ := o
      obtain ⟨cls2, dd2, data2, sl2⟩ := o'
      simp only at h2 h3 k2 k3
      subst h2 h3 k2 k3
      refine wpAny_bind (wpAny_callSpecialIfBound?_slot (T := "tuple") ⟨_, h1, rfl⟩ F.slot_tuple_lt (call_meets F.slot_tuple_lt ⟨_, h1, rfl⟩ F.entry_tuple_lt (F.args_tuple_lt_2 _ _)
        (SeqAt.tuple_ltAt l l' vs vs' n n' dd dd2 sl sl2 (pairEq xs ys) (fun j => dataLt (xs.getD j .none) (ys.getD j .none))) ⟨h1, k1, fun j j1 j2 => ?_, fun j j1 j2 hj => ?_, ?_⟩))
      · have := eqAt_alikeAll xs ys A.in1 s vs.toList vs'.toList _ _ h4 k4 hal (room_in hu) j (by simpa using j1) (by simpa using j2)
        simpa using this
      · have := rcLt_alikeAll xs ys A.in1 s vs.toList vs'.toList _ _ h4 k4 hal (room_in hu) j (by simpa using j1) (by simpa using j2) hj
        simpa using this
      · exact wpAny_truthy_bool hq
/-- what tells the kind of the keys: one by one -/
theorem mapM_each {α β : Type} {f : α → Sem β} {M : Model} : ∀ (l : List α) {Q : List β → Shared → Prop}, (∀ v ∈ l, ∃ r, ∀ (Q' : β → Shared → Prop), Q' r s → wpAny M A (f v) Q' E s) → (∀ rs : List β, rs.length = l.length → (∀ v, l.head? = some v → ∃ r, rs.head? = some r ∧ ∀ r', (∀ (Q' : β → Shared → Prop), Q' r' s → wpAny M A (f v) Q' E s) → True) → Q rs s) → wpAny M A (l.mapM f) Q E s
  | [], _, _, h => by rw [List.mapM_nil]; exact wpAny_pure (h [] rfl fun v e => by cases e)
  | x :: l, Q, hf, h => by
    obtain ⟨r, hr⟩ := hf x List.mem_cons_self
    rw [List.mapM_cons]
    refine wpAny_bind (hr _ (wpAny_bind (mapM_each l (fun v hv => hf v (List.mem_cons_of_mem _ hv)) fun rs hl _ => wpAny_pure (h (r :: rs) (by rw [List.length_cons, List.length_cons, hl]) fun v e => ⟨r, rfl, fun _ _ => trivial⟩))))
theorem first_tup {v : Value} {xs : List PyData} (r : Reads s.heap v (.tuple xs) as) : ∃ x : Option Value, (xs = [] → x = none) ∧ ∀ {M : Model} (Q' : Option Value → Shared → Prop), Q' x s → wpAny M A (firstOfTuple' v) Q' E s := by
  cases r with
  | @tuple l o vs n _ _ h1 h2 h3 h4 =>
    refine ⟨vs[0]?, fun e => ?_, fun Q' hq => ?_⟩
    · subst e
      have := ReadsAll.length _ _ _ h4
      have : vs.size = 0 := by simpa using this
      rw [Array.getElem?_eq_none (by omega)]
    · rw [kas_first_eq]
      refine wpAny_bind ((looks_reads (Reads.tuple h1 h2 h3 h4)).here ?_)
      rw [if_neg (by simp [dataType])]
      exact wpAny_bind (listItems_at h1 h3 (wpAny_pure hq))
theorem kind_tup0 {v1 v2 : Value} {vs : List Value} {Q : SortKind → Shared → Prop} (h0 : Reads s.heap v1 (.tuple []) as) (h : ∀ v ∈ v2 :: vs, ∃ xs as, Reads s.heap v (.tuple xs) as) (hq : Q oneType' s) :
    wpAny (model prog w) A (keyKind' (v1 :: v2 :: vs).toArray) Q E s := by
  have hall : ∀ v ∈ v1 :: v2 :: vs, ∃ xs as, Reads s.heap v (.tuple xs) as := fun v hv => by
    rcases List.mem_cons.mp hv with rfl | hv
    · exact ⟨_, _, h0⟩
    · exact h v hv
  rw [keyKind'_eq, List.mapM_toArray, map_eq_pure_bind, List.mapM_cons]
  obtain ⟨x, hx, hr⟩ := first_tup (A := A) (E := E) h0
  rw [hx rfl] at hr
  refine wpAny_bind (wpAny_bind (wpAny_bind (hr _ (wpAny_bind (mapM_each (v2 :: vs) (fun v hv => ?_) fun rs _ _ => wpAny_pure (wpAny_pure ?_))))))
  · obtain ⟨xs, bs, g⟩ := h v hv
    obtain ⟨y, _, hy⟩ := first_tup (A := A) (E := E) g
    exact ⟨y, fun Q' q => hy Q' q⟩
  · rw [if_neg (by simp), if_neg (by simp)]
    rw [oneTypeOnly'_eq, List.mapM_toArray, map_eq_pure_bind]
    refine wpAny_bind (wpAny_bind (wpAny_bind (kas_mapM (r := Value.type "tuple") _ (fun v hv Q' q => ?_) (wpAny_pure ?_))))
    · obtain ⟨xs, bs, g⟩ := hall v hv
      exact (looks_reads g).here q
    · have e1 : ((List.map (fun _ => Value.type "tuple") (v1 :: v2 :: vs)).toArray.all fun x => x == Value.type "tuple") = true := by
        simp only [List.all_toArray, List.all_map, List.all_eq_true]
        intro _ _
        exact beq_self_eq_true _
      have e0 : (List.map (fun _ => Value.type "tuple") (v1 :: v2 :: vs)).toArray[0]? = some (Value.type "tuple") := by simp
      rw [e0]
      simp only [e1, if_true]
      exact wpAny_pure (wpAny_pure hq)
end
end ZB

set_option Elab.async false
set_option linter.all false
set_option maxRecDepth 100000
set_option maxHeartbeats 1000000
/-! rules: sorted of tuples of texts, the first empty; sorted(xs, key=len); sorted of pairs of an int and a tuple of texts -/
namespace ZB
open PySem PySem.Spec PyProof.Rows L2 PySem.W Z
section
variable {X : Cx} {pins : List (Addr × Obj)} {σ : L2.St} {H : Hp} {s : Shared}
theorem inv_at (I : Inv X pins σ H s) (A' : Around) (hf : A'.frames = X.A.frames) (hh : A'.handled = X.A.handled) : Inv { X with A := A', xe := fun _ _ => False } pins σ H s :=
  ⟨⟨I.ok.mod, I.ok.kind, I.ok.glob, I.ok.blt, I.ok.above, I.ok.inj, I.ok.has, I.ok.cab, fun h => hh.trans (I.ok.hd h), hf.trans I.ok.frames, I.ok.stk, I.ok.exf, I.ok.bs, I.ok.bsz, I.ok.noex, I.ok.exfs, I.ok.funs, I.ok.frf⟩,
    I.os, I.bare, I.base, I.loc, I.cell, I.free, I.freeC, I.pin, I.hok, I.len⟩
theorem inv_back {A' : Around} {xe : Value → Shared → Prop} (ok : X.Ok) (I : Inv { X with A := A', xe := xe } pins σ H s) : Inv X pins σ H s := ⟨ok, I.os, I.bare, I.base, I.loc, I.cell, I.free, I.freeC, I.pin, I.hok, I.len⟩
/-- a tuple of texts with its address -/
abbrev AT := Addr × List Str
def encT (b : AT) : PyData := .tuple (b.2.map PyData.str)
noncomputable def srtB (bs : List AT) : List AT := bs.mergeSort (dataLe false encT)
theorem srtB_perm (bs : List AT) : (srtB bs).Perm bs := List.mergeSort_perm _ _
def TsAt (H : Hp) (bs : List AT) : Prop := ∀ b ∈ bs, H b.1 = some (.tup (b.2.map V.str))
def refB (bs : List AT) : List V := bs.map fun b => V.ref b.1
theorem alike_strs : ∀ xs ys : List Str, alikeAll (xs.map PyData.str) (ys.map PyData.str) = true
  | [], _ => by simp [alikeAll]
  | _ :: _, [] => by simp [alikeAll]
  | x :: xs, y :: ys => by
    show alikeAll (.str x :: xs.map .str) (.str y :: ys.map .str) = true
    rw [alikeAll, alike_strs xs ys]
    simp [alike]
theorem depth_strs : ∀ xs : List Str, PyData.depthAll (xs.map PyData.str) = 0
  | [] => by simp [PyData.depthAll]
  | x :: xs => by
    show PyData.depthAll (.str x :: xs.map .str) = 0
    rw [PyData.depthAll, depth_strs xs]
    simp [PyData.depth]
theorem dep_encT (b : AT) : (encT b).depth ≤ 1 := by
  unfold encT
  unfold PyData.depth
  rw [depth_strs]
  decide
theorem alike_encT (bs : List AT) : AllAlike (bs.map encT) := AllAlike.of fun x y => by
  show alikeAll _ _ = true
  exact alike_strs _ _
theorem dp_strs {K : PySem.W.Frag} {H : Hp} : ∀ (zs : List Str), DpAll K H (zs.map V.str) (zs.map PyData.str)
  | [] => .nil
  | z :: zs => .cons (.str z) (dp_strs zs)
theorem each_of {R : Value → AT → Prop} : ∀ {bs : List AT} {its : List Value}, Vals (refB bs) its → (∀ b ∈ bs, ∀ u, RelV (V.ref b.1) u → R u b) → EachIs R its bs
  | [], [], _, _ => .nil
  | [], _ :: _, r, _ => by cases r
  | b :: bs, [], r, _ => by cases r
  | b :: bs, u :: us, r, h => by
    cases r with
    | cons r1 r2 => exact .cons (h b List.mem_cons_self u r1) (each_of r2 fun c hc => h c (List.mem_cons_of_mem _ hc))
theorem vals_of {bs : List AT} {out : List Value} (h : EachIs (fun (v : Value) (b : AT) => v = Value.ref b.1) out bs) : Vals (refB bs) out := by
  induction h with
  | nil => exact .nil
  | cons h1 _ ih => exact .cons h1 ih
theorem sorts_tup0 {prog : Program} {w : World} {A : Around} {vs : List Value} {ds : List PyData} (e : EachIs (fun v d => ∃ as, Reads s.heap v d as) vs ds) (hal : AllAlike ds) (ht : ∀ d ∈ ds, ∃ xs, d = .tuple xs) (h0 : ∀ d, ds.head? = some d → d = .tuple []) (hu : ∀ d ∈ ds, A.units + d.depth < cLine) :
    SortsAt prog w A s (dataKind s.heap ds) vs := by
  refine ⟨fun v hv => ?_, oneType', ?_, fun h2 E Q hq => ?_⟩
  · obtain ⟨d, hd, as, r⟩ := e.left v hv
    exact ⟨_, dataKind_some hal hd r⟩
  · intro E x y a b Q ha hb hq
    obtain ⟨d, as, hd, ra, rfl⟩ := dataKind_inv ha
    obtain ⟨d', as', hd', rb, rfl⟩ := dataKind_inv hb
    obtain ⟨xs, rfl⟩ := ht d hd
    obtain ⟨ys, rfl⟩ := ht d' hd'
    rw [keyLt'_oneType]
    refine oneLt_tup ra rb (by simpa [alike] using hal _ hd _ hd') ?_ hq
    have := hu _ hd
    have m := Nat.min_le_left (PyData.depth (.tuple xs)) (PyData.depth (.tuple ys))
    omega
  · match vs, ds, e, h2 with
    | v1 :: v2 :: vs, d1 :: ds, .cons ⟨as, r1⟩ t, _ =>
      rw [h0 d1 rfl] at r1
      refine kind_tup0 r1 (fun v hv => ?_) hq
      obtain ⟨d, hd, bs, r⟩ := t.left v hv
      obtain ⟨xs, rfl⟩ := ht d (List.mem_cons_of_mem _ hd)
      exact ⟨xs, bs, r⟩
theorem u5 {A : Around} {k : Nat} (hr : Room k A) : A.units + 5 < cLine := by have := u65 hr; omega
def rSortT0 (K : PySem.W.Frag) : List V → Hp → VK → Prop := fun vs H Q => ∃ (a : Addr) (bs : List AT), vs = [.ref a] ∧ H a = some (.lst (refB bs)) ∧ TsAt H bs ∧ bs.length ≤ 1000 ∧ (∀ b, bs.head? = some b → b.2 = []) ∧
  ∀ q H', H q = none → Same H H' → H' q = some (.lst (refB (srtB bs))) → Q (.ref q) H'
theorem cr_sortT0 (hu : X.A.units + 5 < cLine) : CallR X (.builtin "sorted") (rSortT0 X.K) := by
  intro pins s σ H xs us Q I r h
  obtain ⟨a, bs, rfl, ea, hT, hz, h0, q⟩ := h
  obtain ⟨u, rfl, rx⟩ := vals1 r
  cases rx
  obtain ⟨its, rv, pl, _⟩ := I.list (.of (K := X.K) ea)
  have hl := pl.isList
  have sL : (1000 : Nat) < sizeLine := by rw [sizeLine_eq]; decide
  have lx := rv.length
  have lr : (refB bs).length = bs.length := List.length_map _
  have er : EachIs (fun (v : Value) (b : AT) => ∃ as, Reads s.heap v (encT b) as) its bs := each_of rv fun b hb u ru => by
    exact Dp.reads I _ _ u (.tup (.of (hT b hb)) (dp_strs b.2)) ru
  have e0 : EachIs (fun (v : Value) (b : AT) => v = Value.ref b.1) its bs := each_of rv fun b hb u ru => ru
  have er' : EachIs (fun (v : Value) (b : AT) => ∃ as, Reads (sortingHeap (copyHeap s.heap its) (s.heap.objs.size + 1) its) v (encT b) as) its bs := er.mono fun _ _ ⟨as, r⟩ => ⟨as, PyProof.Rows.Reads.keeps (fun _ _ => sorting_copy_old) r⟩
  have S : SortsAt X.prog X.w X.A.in1.in1 { s with heap := sortingHeap (copyHeap s.heap its) (s.heap.objs.size + 1) its } (dataKind (sortingHeap (copyHeap s.heap its) (s.heap.objs.size + 1) its) (bs.map encT)) its :=
    sorts_tup0 (s := { s with heap := sortingHeap (copyHeap s.heap its) (s.heap.objs.size + 1) its }) (each_map (R := fun v d => ∃ as, Reads (sortingHeap (copyHeap s.heap its) (s.heap.objs.size + 1) its) v d as) encT er') (alike_encT bs) (fun d hd => by
      obtain ⟨b, _, rfl⟩ := List.mem_map.mp hd
      exact ⟨_, rfl⟩) (fun d hd => by
      rw [List.head?_map] at hd
      obtain ⟨b, hb, rfl⟩ := Option.map_eq_some_iff.mp hd
      unfold encT
      rw [h0 b hb]
      rfl) fun d hd => by
      obtain ⟨b, _, rfl⟩ := List.mem_map.mp hd
      have := dep_encT b
      show X.A.units + 1 + 1 + _ < _
      omega
  refine sorted_vals hl S (by omega) ?_
  obtain ⟨c, hc⟩ := sortedAll_at s.heap its (sortVals (dataKind (sortingHeap (copyHeap s.heap its) (s.heap.objs.size + 1) its) (bs.map encT)) false its its).toArray
  have ro := sortVals_data (h' := sortingHeap (copyHeap s.heap its) (s.heap.objs.size + 1) its) false e0 er' (alike_encT bs)
  have fr := I.hok.fresh (Nat.le_succ s.heap.objs.size)
  have lo : (refB (srtB bs)).length ≤ sizeLine := by
    show (List.map _ _).length ≤ _
    rw [List.length_map, (srtB_perm bs).length_eq]
    omega
  refine ⟨.ref (s.heap.objs.size + 1), upd H (s.heap.objs.size + 1) (.lst (refB (srtB bs))), I.laid (t' := s.toks) (fun b u e => sortedAll_old e) (Nat.le_succ _)
    (show ObjOk X.prog X.w _ _ _ (.lst (refB (srtB bs))) from ⟨lo, _, c, vals_of ro, hc⟩), rfl, q _ _ fr (fun b o e => by rw [upd_ne (ne_of_none e fr)]; exact e) upd_same⟩
/-! sorted(xs, key=len) -/
def srtL (bs : List AT) : List AT := bs.mergeSort fun x y => decide (((x.2.length : Nat) : Int) ≤ ((y.2.length : Nat) : Int))
def rSortLen (K : PySem.W.Frag) (Q : VK) (x : V) (H : Hp) : Prop := ∃ (a : Addr) (bs : List AT), x = .ref a ∧ SqA K H a (refB bs) ∧ TsAt H bs ∧ bs.length ≤ 1000 ∧ ∀ q H', H q = none → Same H H' → H' q = some (.lst (refB (srtL bs))) → Q (.ref q) H'
def tSortLen (K : PySem.W.Frag) (te : TE) : TE := fun σ H Q => te σ H fun x H1 => rSortLen K Q x H1
theorem i_sortLen {K : PySem.W.Frag} {te : TE} {σ : L2.St} {H : Hp} {Q : VK} (h : te σ H fun x H1 => rSortLen K Q x H1) : tSortLen K te σ H Q := h
def lenAt (H : Hp) : V → Int := fun v => match v with
  | .ref p => (match H p with
    | some (.tup ys) => ((ys.length : Nat) : Int)
    | _ => 0)
  | _ => 0
theorem pe_sortLen {e : Expr} {te : TE} {p kp np pos : Pos} (hg : Gl X "sorted") (hm : X.mg "sorted" = none) (hg2 : Gl X "len") (hm2 : X.mg "len" = none) (hr : X.A.units + 5 < cLine) (he : PA X [e] (tCons te tNil))
    (he1 : backTo pos (starEach [e] X.env) = (false, eval e X.env) :: backTo pos (starEach [] X.env) := by rfl) (hp1 : (backTo pos (starEach [e] X.env)).any (·.1) = false := by rfl) :
    PE X (.Call (.Name "sorted" p) [e] [⟨some "key", .Name "len" np, kp⟩] pos) (tSortLen X.K te) := by
  refine ⟨fun pins s σ H Q I h => ?_⟩
  have h' : tCons te tNil σ H (oneArg fun x H1 => rSortLen X.K Q x H1) := h
  refine wpAny_Call_Name_kw (ld_blt I hg hm (by rfl) ?_ (by decide) (by decide))
  refine callWith_kw (thn (he.run pos pins s σ H _ I h') fun us s1 ⟨vs, H1, I1, r1, q1⟩ => ?_) he1 hp1 (by rfl) (by rfl)
  obtain ⟨x, rfl⟩ : ∃ x, vs = [x] := by
    match vs, q1 with
    | [x], _ => exact ⟨x, rfl⟩
  obtain ⟨u, rfl, rx⟩ := vals1 r1
  obtain ⟨a, bs, rfl, hs, hT, hz, q2⟩ := q1
  cases rx
  show wpAny _ _ (evalAll [do let v ← eval (.Name "len" np) X.env; standAt pos; pure v]) _ _ s1
  refine wpAny_evalAll_cons (wpAny_bind (ld_blt I1 hg2 hm2 (u := .builtin "len") (by rfl) (wpAny_bind (wpAny_standAt (wpAny_pure (wpAny_evalAll_nil ?_)))) (by decide) (by decide)))
  show wpAny _ _ (call (.builtin "sorted") [.ref a] [(Str.ofString "key", .builtin "len")]) _ _ s1
  refine sorted_run (k := lenAt H1) (ok := fun H => Same H1 H) I1 hs (by rw [show (refB bs).length = bs.length from List.length_map _]; exact hz) (by show X.A.units + 1 + 1 < _; omega) (.refl _) (fun a => ksk_t4 _ a) (fun z hz v rz pl s3 H3 J s13 => ?_) fun q H3 s3 s13 n2 n3 J => ?_
  · obtain ⟨b, hb, rfl⟩ := List.mem_map.mp hz
    have eb := hT b hb
    have J' := inv_at J X.A.in1.in1 rfl rfl
    refine wpAny_mono (call_len_seq (X := { X with A := X.A.in1.in1, xe := fun _ _ => False }) _ s3 σ H3 [.ref b.1] [v] (fun r H' => r = .int (lenAt H1 (.ref b.1)) ∧ Same H1 H') J' (.cons rz .nil) ⟨b.1, b.2.map V.str, rfl, .inr (.of (s13 _ _ eb)), ?_, s13⟩) (fun w s4 ⟨v', H4, J4, rv, q4⟩ => ⟨v', H4, inv_back J.ok J4, rv, q4⟩) fun _ _ z => z
    show V.int _ = V.int (match H1 b.1 with | some (.tup ys) => ((ys.length : Nat) : Int) | _ => 0)
    rw [eb]
  · refine ⟨.ref q, _, J, rfl, q2 q _ n2 (fun b o e => ?_) ?_⟩
    · rw [upd_ne (ne_of_none (s13 _ _ e) n3)]
      exact s13 _ _ e
    · rw [upd_same]
      congr 2
      unfold srtK refB srtL
      refine (List.map_mergeSort fun x hx y hy => ?_).symm
      have lx : lenAt H1 (.ref x.1) = ((x.2.length : Nat) : Int) := by
        show (match H1 x.1 with | some (.tup ys) => ((ys.length : Nat) : Int) | _ => 0) = _
        rw [hT x hx]
        show (((x.2.map V.str).length : Nat) : Int) = _
        rw [List.length_map]
      have ly : lenAt H1 (.ref y.1) = ((y.2.length : Nat) : Int) := by
        show (match H1 y.1 with | some (.tup ys) => ((ys.length : Nat) : Int) | _ => 0) = _
        rw [hT y hy]
        show (((y.2.map V.str).length : Nat) : Int) = _
        rw [List.length_map]
      rw [lx, ly]
/-! sorted of pairs of an int and a tuple of texts -/
structure NT where
  p : Addr
  n : Nat
  t : Addr
  zs : List Str
def encN (b : NT) : PyData := .tuple [.int (b.n : Nat), .tuple (b.zs.map PyData.str)]
noncomputable def srtN (bs : List NT) : List NT := bs.mergeSort (dataLe false encN)
def NsAt (H : Hp) (bs : List NT) : Prop := ∀ b ∈ bs, H b.p = some (.tup [.int (b.n : Nat), .ref b.t]) ∧ H b.t = some (.tup (b.zs.map V.str))
def refN (bs : List NT) : List V := bs.map fun b => V.ref b.p
def rSortNT (K : PySem.W.Frag) : List V → Hp → VK → Prop := fun vs H Q => ∃ (a : Addr) (bs : List NT), vs = [.ref a] ∧ H a = some (.lst (refN bs)) ∧ NsAt H bs ∧ bs.length ≤ 1000 ∧
  ∀ q H', H q = none → Same H H' → H' q = some (.lst (refN (srtN bs))) → Q (.ref q) H'
end
end ZB

set_option Elab.async false
set_option linter.all false
set_option maxRecDepth 100000
set_option maxHeartbeats 1000000
/-! a def that makes a lambda: its code object is known; the law's end with tables -/
namespace ZB
open PySem PySem.Spec PyProof.Rows L2 LamX Z
/-- a lambda's name, of the def's name -/
def LQ (x : Str) : Str := (x ++ ".<locals>.") ++ "<lambda>"
/-- the table p bears lambdas of the name q -/
def TabM (T : List (Addr × Str)) (p : Addr) (q : Str) : Prop := (p, q) ∈ T ∧ ∀ z ∈ T, z.1 = p → z.2 = q
structure FunC (K : PySem.W.Frag) (x qual : Str) (st : Stmt) (f : Addr) (fd : FuncData) (c : Addr) : Prop where
  ex : ∃ (oc : Value) (od : Option Addr) (kV doc pm : Value) (an : Option Addr) (ct : Value) (osl : Array (Option Value)),
    fd = PySem.W.fnOf x qual (defArgs st) (defBody st) (defScope st) .none kV doc pm an (.ref c) ct ∧ (K.lookup f = some ⟨oc, od, .func fd, osl⟩ ∧ PySem.W.codeIn K (.ref c) qual = true)
  fn : L2.Fun K x qual st f fd
section
variable {P : Program} {w : World} {K : PySem.W.Frag} {mg : Str → Option Value} {base : Heap}
theorem funC_mk {x qual : Str} {st : Stmt} {f c : Addr} {oc : Value} {od an : Option Addr} {osl : Array (Option Value)} {kV doc pm ct : Value} (l : K.lookup f = some ⟨oc, od, .func (PySem.W.fnOf x qual (defArgs st) (defBody st) (defScope st) .none kV doc pm an (.ref c) ct), osl⟩)
    (h : PySem.W.codeIn K (.ref c) qual = true) (k : PySem.W.keepIn K (.ref f) = true) : FunC K x qual st f (PySem.W.fnOf x qual (defArgs st) (defBody st) (defScope st) .none kV doc pm an (.ref c) ct) c :=
  ⟨⟨oc, od, kV, doc, pm, an, ct, osl, rfl, l, h⟩, fun_mk l h k⟩
theorem fnOkC_mk {x qual : Str} {st : Stmt} {f c : Addr} {fd : FuncData} {N ps : List Str} {k : Nat} {sp : Sp} (F : FunC K x qual st f fd c) (S : FnScope N ps (defScope st)) (len : ∀ vs H Q E, sp vs H Q E → vs.length = ps.length)
    (body : ∀ (A : Around) (outer : List Env) (s : Shared) (H : Hp) (vs : List V) (Q : VK) (E : XK), Room k (A.deeper (envOfC qual (defScope st) s.heap.objs.size f (.ref c))) → sp vs H Q E →
      ∃ t, PSs (cxOf (L2.CX P w) P w K mg base N qual (defScope st) f (.ref c) A outer s H E) (defBody st) t ∧ t { nx := fun _ H' => Q .non H', rt := Q } (start N vs) H) : FnOk P w K mg base (L2.CX P w) (k + 1) f fd ps sp := by
  obtain ⟨oc, od, kV, doc, pm, an, ct, osl, rfl, lk, hcd⟩ := F.ex
  exact fn_of lk hcd S len fun A outer s H vs Q E hr hs => body A outer s H vs Q E hr hs
end
theorem tabs_one {p : Addr} {q : Str} {H : Hp} (h : H p = some (.tbl #[])) : Tabs [(p, q)] H := fun z hz => by
  rw [List.mem_singleton.mp hz]
  exact TabS.nil h
theorem tabM_one {p : Addr} {q : Str} : TabM [(p, q)] p q := ⟨List.mem_singleton.mpr rfl, fun z hz _ => by rw [List.mem_singleton.mp hz]⟩
end ZB

set_option Elab.async false
set_option linter.all false
set_option maxRecDepth 100000
set_option maxHeartbeats 1000000
/-! up-sets: mathematics -/
namespace ZB
open PySem PySem.Spec PyProof.Rows L2 PySem.W Z
/-! ### texts in order of tuples -/
def ltT : List Str → List Str → Bool
  | _, [] => false
  | [], _ :: _ => true
  | x :: xs, y :: ys => if x = y then ltT xs ys else ltS x y
theorem lt_cps : ∀ l m : List Nat, decide (l < m) = ltCps l m
  | _, [] => by
    rw [decide_eq_false (List.not_lt_nil _)]
    cases ‹List Nat› <;> rfl
  | [], y :: m => by
    rw [decide_eq_true (List.nil_lt_cons _ _)]
    rfl
  | x :: l, y :: m => by
    have ih := lt_cps l m
    unfold ltCps
    by_cases h1 : x < y
    · rw [decide_eq_true (List.cons_lt_cons_iff.mpr (.inl h1))]
      simp [h1]
    · by_cases h2 : y < x
      · rw [decide_eq_false (fun h => by rcases List.cons_lt_cons_iff.mp h with g | ⟨g, _⟩ <;> omega)]
        simp [h1, h2]
        intro e
        omega
      · have e : x = y := by omega
        subst e
        rw [show (decide (x < x) || x == x && ltCps l m) = ltCps l m from by simp, ← ih]
        rw [Bool.eq_iff_iff, decide_eq_true_eq, decide_eq_true_eq]
        constructor
        · intro h
          rcases List.cons_lt_cons_iff.mp h with g | ⟨_, g⟩
          · omega
          · exact g
        · exact fun h => List.cons_lt_cons_iff.mpr (.inr ⟨rfl, h⟩)
theorem lt_strD (x y : Str) : dataLt (.str x) (.str y) = ltS x y := by
  rw [dataLt_str]
  exact lt_cps _ _
theorem eqv_strD (x y : Str) : PyData.eqv (.str x) (.str y) = decide (x = y) := by
  rw [Bool.eq_iff_iff, decide_eq_true_eq]
  exact beq_iff_eq
theorem toksT : ∀ xs ys : List Str, PyProof.Rows.lexLt itemOrd (keyToksAll (xs.map PyData.str)) (keyToksAll (ys.map PyData.str)) = ltT xs ys
  | [], [] => lex_irrefl _
  | [], y :: ys => rfl
  | x :: xs, [] => rfl
  | x :: xs, y :: ys => by
    show PyProof.Rows.lexLt itemOrd (keyToksAll (.str x :: xs.map .str)) (keyToksAll (.str y :: ys.map .str)) = _
    rw [dataLt_cons rfl, eqv_strD, toksT xs ys, lt_strD]
    show _ = if x = y then ltT xs ys else ltS x y
    by_cases e : x = y
    · rw [if_pos (decide_eq_true e), if_pos e]
    · rw [if_neg (by simpa using e), if_neg e]
theorem lt_tupD (xs ys : List Str) : dataLt (.tuple (xs.map .str)) (.tuple (ys.map .str)) = ltT xs ys := by rw [dataLt_tuple, toksT]
theorem ltT_irr : ∀ xs, ltT xs xs = false
  | [] => rfl
  | x :: xs => by
    unfold ltT
    rw [if_pos rfl, ltT_irr xs]
theorem ltT_tri : ∀ xs ys, ltT xs ys = false → ltT ys xs = false → xs = ys
  | [], [], _, _ => rfl
  | [], _ :: _, h, _ => by cases h
  | _ :: _, [], _, h => by cases h
  | x :: xs, y :: ys, h, k => by
    unfold ltT at h k
    by_cases e : x = y
    · rw [if_pos e] at h
      rw [if_pos e.symm] at k
      rw [e, ltT_tri xs ys h k]
    · rw [if_neg e] at h
      rw [if_neg (fun g => e g.symm)] at k
      exact absurd (ltS_tri h k) e
theorem ltT_tr : ∀ a b c, ltT b a = false → ltT c b = false → ltT c a = false
  | [], b, c, _, _ => by cases c <;> rfl
  | x :: a, [], c, h, _ => by cases h
  | x :: a, y :: b, [], _, h => by cases h
  | x :: a, y :: b, z :: c, h, k => by
    unfold ltT at h k ⊢
    by_cases e1 : y = x
    · rw [if_pos e1] at h
      by_cases e2 : z = y
      · rw [if_pos e2] at k
        rw [if_pos (e2.trans e1)]
        exact ltT_tr a b c h k
      · rw [if_neg e2] at k
        rw [if_neg (fun g => e2 (g.trans e1.symm)), ← e1]
        exact k
    · rw [if_neg e1] at h
      by_cases e2 : z = y
      · rw [if_neg (fun g => e1 (e2.symm.trans g)), e2]
        exact h
      · rw [if_neg e2] at k
        have t := ltCps_tr _ _ _ h k
        by_cases e3 : z = x
        · subst e3
          exact absurd (ltS_tri k h) e2
        · rw [if_neg e3]
          exact t
/-! ### by size, then as tuples -/
def leU (a b : List Str) : Bool := if a.length = b.length then !ltT b a else decide (a.length < b.length)
theorem leU_anti {a b : List Str} (h : leU a b = true) (k : leU b a = true) : a = b := by
  unfold leU at h k
  by_cases e : a.length = b.length
  · rw [if_pos e] at h
    rw [if_pos e.symm] at k
    exact ltT_tri a b (by simpa using k) (by simpa using h)
  · rw [if_neg e] at h
    rw [if_neg (fun g => e g.symm)] at k
    have := of_decide_eq_true h
    have := of_decide_eq_true k
    omega
theorem leU_trans (a b c : List Str) (h : leU a b = true) (k : leU b c = true) : leU a c = true := by
  unfold leU at h k ⊢
  by_cases e1 : a.length = b.length
  · rw [if_pos e1] at h
    by_cases e2 : b.length = c.length
    · rw [if_pos e2] at k
      rw [if_pos (by omega)]
      rw [ltT_tr a b c (by simpa using h) (by simpa using k)]
      rfl
    · rw [if_neg e2] at k
      have := of_decide_eq_true k
      rw [if_neg (by omega)]
      exact decide_eq_true (by omega)
  · rw [if_neg e1] at h
    have := of_decide_eq_true h
    by_cases e2 : b.length = c.length
    · rw [if_neg (by omega)]
      exact decide_eq_true (by omega)
    · rw [if_neg e2] at k
      have := of_decide_eq_true k
      rw [if_neg (by omega)]
      exact decide_eq_true (by omega)
theorem ltT_asym {a b : List Str} (h : ltT a b = true) : ltT b a = false := by
  cases g : ltT b a with
  | false => rfl
  | true =>
    exfalso
    have asymS : ∀ x y : Str, ltS x y = true → ltS y x = true → False := fun x y h1 h2 => by
      have i : ltS x x = false := ltCps_irr _
      cases e : ltS y y with
      | _ =>
        have as : ∀ l m : List Nat, ltCps l m = true → ltCps m l = true → False := fun l m g1 g2 => by
          rw [← lt_cps] at g1 g2
          exact absurd (List.lt_trans (of_decide_eq_true g1) (of_decide_eq_true g2)) (List.lt_irrefl _)
        exact as _ _ h1 h2
    have : ∀ a b : List Str, ltT a b = true → ltT b a = true → False := by
      intro a
      induction a with
      | nil => intro b h k; cases b <;> cases k
      | cons x a ih =>
        intro b h k
        cases b with
        | nil => cases h
        | cons y b =>
          unfold ltT at h k
          by_cases e : x = y
          · rw [if_pos e] at h
            rw [if_pos e.symm] at k
            exact ih b h k
          · rw [if_neg e] at h
            rw [if_neg (fun g => e g.symm)] at k
            exact asymS _ _ h k
    exact this a b h g
theorem leU_total (a b : List Str) : (leU a b || leU b a) = true := by
  unfold leU
  by_cases e : a.length = b.length
  · rw [if_pos e, if_pos e.symm]
    cases g : ltT b a with
    | false => rfl
    | true => rw [ltT_asym g]; rfl
  · rw [if_neg e, if_neg (fun g => e g.symm)]
    rcases Nat.lt_or_gt_of_ne e with g | g
    · rw [decide_eq_true g]; rfl
    · rw [decide_eq_true g, Bool.or_true]
def srtU (L : List (List Str)) : List (List Str) := L.mergeSort leU
theorem srtU_perm (L : List (List Str)) : (srtU L).Perm L := List.mergeSort_perm _ _
theorem srtU_pw (L : List (List Str)) : (srtU L).Pairwise fun a b => leU a b = true := List.pairwise_mergeSort leU_trans leU_total L
theorem srtU_of {L M : List (List Str)} (hp : L.Perm M) (hl : L.Pairwise fun a b => leU a b = true) : L = srtU M :=
  (hp.trans (srtU_perm M).symm).eq_of_pairwise (fun a b _ _ h k => leU_anti h k) hl (srtU_pw M)
/-! ### sorted, then by size -/
theorem pair_or {α : Type} {x y : α} (ne : x ≠ y) : ∀ {L : List α}, x ∈ L → y ∈ L → [x, y].Sublist L ∨ [y, x].Sublist L
  | [], h, _ => by cases h
  | z :: L, hx, hy => by
    by_cases e1 : x = z
    · by_cases e2 : y = z
      · exact absurd (e1.trans e2.symm) ne
      · rw [e1]
        exact .inl (List.Sublist.cons_cons _ (List.singleton_sublist.mpr ((List.mem_cons.mp hy).resolve_left e2)))
    · have hx' := (List.mem_cons.mp hx).resolve_left e1
      by_cases e2 : y = z
      · rw [e2]
        exact .inr (List.Sublist.cons_cons _ (List.singleton_sublist.mpr hx'))
      · exact (pair_or ne hx' ((List.mem_cons.mp hy).resolve_left e2)).imp (fun h => h.cons _) fun h => h.cons _
theorem pair_not {α : Type} {x y : α} : ∀ {L : List α}, L.Nodup → [x, y].Sublist L → [y, x].Sublist L → False
  | [], _, h, _ => by cases h
  | z :: L, hn, h1, h2 => by
    obtain ⟨n1, n2⟩ := List.nodup_cons.mp hn
    cases h1 with
    | cons _ h1 =>
      cases h2 with
      | cons _ h2 => exact pair_not n2 h1 h2
      | cons_cons _ h2 => exact n1 (h1.subset (List.mem_cons_of_mem _ List.mem_cons_self))
    | cons_cons _ h1 =>
      cases h2 with
      | cons _ h2 => exact n1 (h2.subset (List.mem_cons_of_mem _ List.mem_cons_self))
      | cons_cons _ h2 => exact n1 (List.singleton_sublist.mp h1)
theorem srtLB {bs : List AT} (hn : (bs.map (·.2)).Nodup) : (srtL (srtB bs)).map (·.2) = srtU (bs.map (·.2)) := by
  have p1 : (srtL (srtB bs)).Perm (srtB bs) := List.mergeSort_perm _ _
  have p2 := srtB_perm bs
  refine srtU_of ((p1.trans p2).map _) ?_
  rw [List.pairwise_map]
  have nb : bs.Nodup := (List.pairwise_map.mp hn).imp fun h e => h (by rw [e])
  have nB : (srtB bs).Nodup := p2.nodup_iff.mpr nb
  have nL : (srtL (srtB bs)).Nodup := p1.nodup_iff.mpr nB
  have tL : ∀ a b c : AT, decide (((a.2.length : Nat) : Int) ≤ ((b.2.length : Nat) : Int)) = true → decide (((b.2.length : Nat) : Int) ≤ ((c.2.length : Nat) : Int)) = true → decide (((a.2.length : Nat) : Int) ≤ ((c.2.length : Nat) : Int)) = true := fun a b c h k => by
    have := of_decide_eq_true h
    have := of_decide_eq_true k
    exact decide_eq_true (by omega)
  have oL : ∀ a b : AT, (decide (((a.2.length : Nat) : Int) ≤ ((b.2.length : Nat) : Int)) || decide (((b.2.length : Nat) : Int) ≤ ((a.2.length : Nat) : Int))) = true := fun a b => by
    rw [Bool.or_eq_true, decide_eq_true_eq, decide_eq_true_eq]
    omega
  have dl : ∀ x y : AT, dataLe false encT x y = !ltT y.2 x.2 := fun x y => by
    show (!dataLt (encT y) (encT x)) = _
    unfold encT
    rw [lt_tupD]
  have pB : (srtB bs).Pairwise fun x y => ltT y.2 x.2 = false := by
    have := List.pairwise_mergeSort (le := dataLe false encT) (fun a b c h k => by
      rw [dl] at h k ⊢
      rw [ltT_tr a.2 b.2 c.2 (by simpa using h) (by simpa using k)]
      rfl) (fun a b => by
      rw [dl, dl]
      cases g : ltT b.2 a.2 with
      | false => rfl
      | true => rw [ltT_asym g]; rfl) bs
    exact this.imp fun {x y} h => by rw [dl] at h; simpa using h
  have pL : (srtL (srtB bs)).Pairwise fun x y => x.2.length ≤ y.2.length := by
    have := List.pairwise_mergeSort tL oL (srtB bs)
    exact this.imp fun {x y} h => by have := of_decide_eq_true h; omega
  have key : ∀ x y, [x, y].Sublist (srtL (srtB bs)) → x.2.length = y.2.length → ltT y.2 x.2 = false := fun x y hs e => by
    have mx := p1.mem_iff.mp (hs.subset List.mem_cons_self)
    have my := p1.mem_iff.mp (hs.subset (List.mem_cons_of_mem _ List.mem_cons_self))
    by_cases ne : x = y
    · rw [ne, ltT_irr]
    · rcases pair_or ne mx my with h | h
      · have := List.Pairwise.sublist h pB
        simpa using this
      · exact (pair_not nL hs (List.pair_sublist_mergeSort tL oL (decide_eq_true (by omega)) h)).elim
  refine List.pairwise_iff_forall_sublist.mpr fun {x y} hs => ?_
  have l := List.pairwise_iff_forall_sublist.mp pL hs
  unfold leU
  by_cases e : x.2.length = y.2.length
  · rw [if_pos e, key x y hs e]
    rfl
  · rw [if_neg e]
    exact decide_eq_true (by omega)
end ZB

set_option Elab.async false
set_option linter.all false
set_option maxRecDepth 100000
set_option maxHeartbeats 1000000
/-! up-sets: those that are found one after the other are all -/
namespace ZB
open PySem PySem.Spec PyProof.Rows L2 PySem.W Z
/-- all lists out of N, in its order -/
def pw (N : List Str) : List (List Str) := N.foldl (fun F n => F ++ F.map (· ++ [n])) [[]]
theorem pw_snoc (N : List Str) (n : Str) : pw (N ++ [n]) = pw N ++ (pw N).map (· ++ [n]) := by
  unfold pw
  rw [List.foldl_append]
  rfl
theorem snoc_ind {α : Type} {P : List α → Prop} (h0 : P []) (h1 : ∀ l a, P l → P (l ++ [a])) (l : List α) : P l := by
  have : ∀ n (l : List α), l.length = n → P l := by
    intro n
    induction n with
    | zero => intro l h; rw [List.length_eq_zero_iff.mp h]; exact h0
    | succ n ih =>
      intro l h
      have ne : l ≠ [] := fun e => by rw [e] at h; simp at h
      rw [← List.dropLast_concat_getLast ne]
      exact h1 _ _ (ih _ (by rw [List.length_dropLast, h]; rfl))
  exact this _ l rfl
theorem sub_snoc {ws P : List Str} {n : Str} : ws.Sublist (P ++ [n]) ↔ ws.Sublist P ∨ ∃ v, v.Sublist P ∧ ws = v ++ [n] := by
  rw [List.sublist_append_iff]
  constructor
  · rintro ⟨a, b, rfl, ha, hb⟩
    cases hb with
    | cons _ h => cases h; rw [List.append_nil]; exact .inl ha
    | cons_cons _ h => cases h; exact .inr ⟨a, ha, rfl⟩
  · rintro (h | ⟨v, hv, rfl⟩)
    · exact ⟨ws, [], by rw [List.append_nil], h, List.nil_sublist _⟩
    · exact ⟨v, [n], rfl, hv, List.Sublist.refl _⟩
theorem mem_pw {ws : List Str} : ∀ (N : List Str), ws ∈ pw N ↔ ws.Sublist N := by
  intro N
  revert ws
  refine snoc_ind (P := fun N => ∀ {ws : List Str}, ws ∈ pw N ↔ ws.Sublist N) ?_ ?_ N
  · intro ws
    show ws ∈ [[]] ↔ _
    rw [List.mem_singleton, List.sublist_nil]
  · intro N n ih ws
    rw [pw_snoc, List.mem_append, List.mem_map, sub_snoc, ih]
    constructor
    · rintro (h | ⟨v, hv, rfl⟩)
      · exact .inl h
      · exact .inr ⟨v, ih.mp hv, rfl⟩
    · rintro (h | ⟨v, hv, rfl⟩)
      · exact .inl h
      · exact .inr ⟨v, ih.mpr hv, rfl⟩
theorem nd_snocs {F G : List (List Str)} {n : Str} (hF : F.Nodup) (hG : G.Nodup) (h : ∀ v ∈ F, n ∉ v) : (F ++ G.map (· ++ [n])).Nodup := by
  refine List.nodup_append.mpr ⟨hF, List.Pairwise.map _ (fun a b hab e => hab (List.append_cancel_right e)) hG, fun a ha b hb e => ?_⟩
  obtain ⟨v, _, rfl⟩ := List.mem_map.mp hb
  exact h a ha (by rw [e]; simp)
theorem pw_nd : ∀ {N : List Str}, N.Nodup → (pw N).Nodup := by
  intro N
  refine snoc_ind (P := fun N => N.Nodup → (pw N).Nodup) (fun _ => by show [[]].Nodup; simp) (fun N n ih h => ?_) N
  obtain ⟨h1, h2, h3⟩ := List.nodup_append.mp h
  rw [pw_snoc]
  exact nd_snocs (ih h1) (ih h1) fun v hv hn => h3 n (((mem_pw N).mp hv).subset hn) n List.mem_cons_self rfl
/-- the up-sets that are found, name by name -/
def rdy (f : Str → List Str) (n : Str) (ws : List Str) : Bool := ((f n).filter fun h => !decide (h = n)).all fun h => decide (h ∈ ws)
def up (f : Str → List Str) (ks : List Str) : List (List Str) := ks.foldl (fun F n => F ++ (F.filter (rdy f n)).map (· ++ [n])) [[]]
theorem up_snoc (f : Str → List Str) (ks : List Str) (n : Str) : up f (ks ++ [n]) = up f ks ++ ((up f ks).filter (rdy f n)).map (· ++ [n]) := by
  unfold up
  rw [List.foldl_append]
  rfl
theorem up_head (f : Str → List Str) : ∀ ks, (up f ks).head? = some [] := by
  refine snoc_ind rfl fun ks n ih => ?_
  rw [up_snoc, List.head?_append, ih]
  rfl
theorem up_len (f : Str → List Str) : ∀ ks, (up f ks).length ≤ 2 ^ ks.length := by
  refine snoc_ind (Nat.le_refl _) fun ks n ih => ?_
  rw [up_snoc, List.length_append, List.length_map, List.length_append, List.length_singleton, Nat.pow_succ]
  have := List.length_filter_le (rdy f n) (up f ks)
  omega
def closedU (f : Str → List Str) (ws : List Str) : Prop := ∀ x ∈ ws, ∀ y ∈ f x, y ∈ ws
/-- what is above a name comes ahead of it -/
def Ahd (f : Str → List Str) (ks : List Str) : Prop := ∀ P n S, ks = P ++ n :: S → ∀ h ∈ f n, h ≠ n → h ∈ P
theorem Ahd.pre {f : Str → List Str} {ks : List Str} {n : Str} (h : Ahd f (ks ++ [n])) : Ahd f ks := fun P m S e => h P m (S ++ [n]) (by rw [e]; simp)
theorem mem_up {f : Str → List Str} : ∀ {ks : List Str}, ks.Nodup → Ahd f ks → ∀ ws, ws ∈ up f ks ↔ ws.Sublist ks ∧ closedU f ws := by
  intro ks
  refine snoc_ind (P := fun ks => ks.Nodup → Ahd f ks → ∀ ws, ws ∈ up f ks ↔ ws.Sublist ks ∧ closedU f ws) (fun _ _ ws => ?_) (fun ks n ih hn ha ws => ?_) ks
  · show ws ∈ [[]] ↔ _
    rw [List.mem_singleton, List.sublist_nil]
    exact ⟨fun e => ⟨e, fun x hx => by rw [e] at hx; cases hx⟩, fun h => h.1⟩
  · obtain ⟨h1, h2, h3⟩ := List.nodup_append.mp hn
    have nk : n ∉ ks := fun h => h3 n h n List.mem_cons_self rfl
    have ih := ih h1 ha.pre
    rw [up_snoc, List.mem_append, List.mem_map, sub_snoc]
    constructor
    · rintro (h | ⟨v, hv, rfl⟩)
      · obtain ⟨g1, g2⟩ := (ih ws).mp h
        exact ⟨.inl g1, g2⟩
      · obtain ⟨m1, m2⟩ := List.mem_filter.mp hv
        obtain ⟨g1, g2⟩ := (ih v).mp m1
        refine ⟨.inr ⟨v, g1, rfl⟩, fun x hx y hy => ?_⟩
        rcases List.mem_append.mp hx with hx | hx
        · exact List.mem_append_left _ (g2 x hx y hy)
        · rw [List.mem_singleton.mp hx] at hy
          by_cases e : y = n
          · rw [e]; simp
          · have := List.all_eq_true.mp m2 y (List.mem_filter.mpr ⟨hy, by simpa using e⟩)
            exact List.mem_append_left _ (of_decide_eq_true this)
    · rintro ⟨h | ⟨v, hv, rfl⟩, hc⟩
      · exact .inl ((ih ws).mpr ⟨h, hc⟩)
      · have cv : closedU f v := fun x hx y hy => by
          rcases List.mem_append.mp (hc x (List.mem_append_left _ hx) y hy) with g | g
          · exact g
          · exfalso
            rw [List.mem_singleton.mp g] at hy
            have xk := hv.subset hx
            obtain ⟨P, S, e⟩ := List.append_of_mem xk
            have := ha.pre P x S e n hy (fun z => nk (by rw [z]; exact xk))
            exact nk (by rw [e]; exact List.mem_append_left _ this)
        refine .inr ⟨v, List.mem_filter.mpr ⟨(ih v).mpr ⟨hv, cv⟩, List.all_eq_true.mpr fun y hy => ?_⟩, rfl⟩
        obtain ⟨g1, g2⟩ := List.mem_filter.mp hy
        rcases List.mem_append.mp (hc n (by simp) y g1) with g | g
        · exact decide_eq_true g
        · rw [List.mem_singleton.mp g] at g2
          simp at g2
theorem up_nd {f : Str → List Str} : ∀ {ks : List Str}, ks.Nodup → Ahd f ks → (up f ks).Nodup := by
  intro ks
  refine snoc_ind (P := fun ks => ks.Nodup → Ahd f ks → (up f ks).Nodup) (fun _ _ => by show [[]].Nodup; simp) (fun ks n ih hn ha => ?_) ks
  obtain ⟨h1, h2, h3⟩ := List.nodup_append.mp hn
  rw [up_snoc]
  have := ih h1 ha.pre
  exact nd_snocs this (this.filter _) fun v hv hm => h3 n ((((mem_up h1 ha.pre v).mp hv).1).subset hm) n List.mem_cons_self rfl
theorem sub_filter {ws : List Str} : ∀ {ks : List Str}, ks.Nodup → ws.Sublist ks → ks.filter (fun z => decide (z ∈ ws)) = ws := by
  intro ks hn hs
  induction hs with
  | slnil => rfl
  | @cons l1 l2 a h ih =>
    obtain ⟨n1, n2⟩ := List.nodup_cons.mp hn
    rw [List.filter_cons_of_neg (by simpa using fun m => n1 (h.subset m))]
    exact ih n2
  | @cons_cons l1 l2 a h ih =>
    obtain ⟨n1, n2⟩ := List.nodup_cons.mp hn
    rw [List.filter_cons_of_pos (by simp)]
    congr 1
    rw [← ih n2]
    refine List.filter_congr fun z hz => ?_
    have : z ≠ a := fun e => n1 (by rw [← e]; exact hz)
    rw [ih n2]
    simp [this]
/-- an up-set, told -/
def isUp (f : Str → List Str) (ws : List Str) : Bool := ws.all fun x => (f x).all fun y => decide (y ∈ ws)
theorem isUp_iff {f : Str → List Str} {ws : List Str} : isUp f ws = true ↔ closedU f ws := by
  unfold isUp closedU
  rw [List.all_eq_true]
  exact forall_congr' fun x => imp_congr_right fun _ => by rw [List.all_eq_true]; exact forall_congr' fun y => imp_congr_right fun _ => decide_eq_true_iff
/-- all up-sets, the small ones first -/
def upsOf (f : Str → List Str) (N : List Str) : List (List Str) := srtU ((pw N).filter (isUp f))
theorem ups_perm {f : Str → List Str} {N ks : List Str} (hN : N.Nodup) (hp : N.Pairwise fun a b => ltS b a = false) (hk : ks.Perm N) (ha : Ahd f ks) : ((up f ks).map srt).Perm ((pw N).filter (isUp f)) ∧ ((up f ks).map srt).Nodup := by
  have nk : ks.Nodup := hk.nodup_iff.mpr hN
  have fl : ∀ ws, ws.Sublist ks → srt ws = N.filter fun z => decide (z ∈ ws) := fun ws hs => srt_filter hN hp (hs.nodup nk) fun a => ⟨fun h => ⟨hk.mem_iff.mp (hs.subset h), decide_eq_true h⟩, fun h => of_decide_eq_true h.2⟩
  have nd : ((up f ks).map srt).Nodup := by
    unfold List.Nodup
    rw [List.pairwise_map]
    refine (up_nd nk ha).imp_of_mem fun {a b} ma mb hab e => hab ?_
    obtain ⟨sa, _⟩ := (mem_up nk ha a).mp ma
    obtain ⟨sb, _⟩ := (mem_up nk ha b).mp mb
    rw [← sub_filter nk sa, ← sub_filter nk sb]
    refine List.filter_congr fun z _ => ?_
    have : z ∈ a ↔ z ∈ b := by rw [← mem_srt, e, mem_srt]
    simp [this]
  refine ⟨(List.perm_ext_iff_of_nodup nd ((pw_nd hN).filter _)).mpr fun zs => ?_, nd⟩
  rw [List.mem_map, List.mem_filter, mem_pw, isUp_iff]
  constructor
  · rintro ⟨ws, hw, rfl⟩
    obtain ⟨g1, g2⟩ := (mem_up nk ha ws).mp hw
    refine ⟨by rw [fl ws g1]; exact List.filter_sublist, fun x hx y hy => mem_srt.mpr (g2 x (mem_srt.mp hx) y hy)⟩
  · rintro ⟨g1, g2⟩
    have ms : ∀ z, z ∈ ks.filter (fun z => decide (z ∈ zs)) ↔ z ∈ zs := fun z => by
      rw [List.mem_filter, decide_eq_true_eq]
      exact ⟨fun h => h.2, fun h => ⟨hk.mem_iff.mpr (g1.subset h), h⟩⟩
    refine ⟨ks.filter fun z => decide (z ∈ zs), (mem_up nk ha _).mpr ⟨List.filter_sublist, fun x hx y hy => (ms y).mpr (g2 x ((ms x).mp hx) y hy)⟩, ?_⟩
    refine sort_uniq ((srt_perm _).trans ((List.perm_ext_iff_of_nodup (nk.filter _) (g1.nodup hN)).mpr ms)) (srt_pw _) (List.Pairwise.sublist g1 hp)
/-- by heights what is above comes ahead -/
theorem ahd_of {N ks : List Str} {E : List (Str × Str)} (hk : ks.Perm N) (hN : N.Nodup) (an : OM.Anti E) (pw : ks.Pairwise fun a b => (OM.ab N (OM.cl E) a).length ≤ (OM.ab N (OM.cl E) b).length) : Ahd (OM.ab N (OM.cl E)) ks := by
  intro P n S e h hh ne
  obtain ⟨hN1, hr⟩ := OM.mem_ab.mp hh
  have hks : h ∈ ks := hk.mem_iff.mpr hN1
  have nN : n ∈ N := hk.mem_iff.mp (by rw [e]; simp)
  rw [e] at hks
  rcases List.mem_append.mp hks with g | g
  · exact g
  · rcases List.mem_cons.mp g with g | g
    · exact absurd g ne
    · exfalso
      rw [e] at pw
      have le := (List.pairwise_cons.mp (List.pairwise_append.mp pw).2.1).1 h g
      have sub : ∀ z ∈ n :: OM.ab N (OM.cl E) h, z ∈ OM.ab N (OM.cl E) n := fun z hz => by
        rcases List.mem_cons.mp hz with rfl | hz
        · exact OM.mem_ab.mpr ⟨nN, OM.cl_refl E _⟩
        · obtain ⟨z1, z2⟩ := OM.mem_ab.mp hz
          exact OM.mem_ab.mpr ⟨z1, OM.cl_trans hr z2⟩
      have nn : n ∉ OM.ab N (OM.cl E) h := fun m => ne (an h n (OM.cl_iff.mp (OM.mem_ab.mp m).2) (OM.cl_iff.mp hr))
      have nd2 : (n :: OM.ab N (OM.cl E) h).Nodup := List.nodup_cons.mpr ⟨nn, hN.filter _⟩
      have := (List.Perm.length_eq ((List.perm_ext_iff_of_nodup nd2 (((hN.filter (OM.cl E n)).filter fun z => decide (z ∈ n :: OM.ab N (OM.cl E) h)))).mpr fun z => by
        rw [List.mem_filter, decide_eq_true_eq]
        exact ⟨fun m => ⟨sub z m, m⟩, fun m => m.2⟩))
      have l2 := List.length_filter_le (fun z => decide (z ∈ n :: OM.ab N (OM.cl E) h)) (N.filter (OM.cl E n))
      rw [List.length_cons] at this
      have e3 : (OM.ab N (OM.cl E) n).length = (N.filter (OM.cl E n)).length := rfl
      omega
end ZB

set_option Elab.async false
set_option linter.all false
set_option maxRecDepth 100000
set_option maxHeartbeats 1000000
/-! list(d.values()), d a known dict -/
namespace ZB
open PySem PySem.Spec PyProof.Rows L2 Z
section
variable {X : Cx}
def rListV : List V → Hp → VK → Prop := fun xs H Q => ∃ q d o kvs, xs = [.ref q] ∧ H q = some (ValO q d) ∧ H d = some (.frz o (.dK kvs)) ∧ kvs.length ≤ 1000 ∧ ∀ l H', H l = none → Same H H' → H' l = some (.lst (kvs.map (·.2))) → Q (.ref l) H'
end
end ZB

set_option Elab.async false
set_option linter.all false
set_option maxRecDepth 100000
set_option maxHeartbeats 1000000
/-! name = {..} on one line, where a name of the comprehension is a name of the def -/
namespace L2
open PySem PySem.Spec PyProof.Rows
section
variable {X : Cx}
theorem ps_setDc {i : Nat} {y : Str} {py : Pos} {kx vx tg iter : Expr} {ifs : List Expr} {scope : Scope} {own : List (Str × Nat)} {pos spos : Pos} {wi : TI} {g : TG} {tt : TT} {tk tv : TE} (hc : X.calm = true) (hN : X.N.Nodup) (hy : X.N[i]? = some y) (hyl : X.env.scope.names.lookup y = some .local)
    (hsw : swapsWith (.DictComp kx vx [⟨tg, iter, ifs, 0⟩] scope pos) (some (.Name y py)) spos.line X.env = pure true) (hi : PI X tg iter wi) (ok : BlkOk X.N X.env.scope scope own)
    (hg : ∀ (s : Shared) (H : Hp) (C : Addr) (cl : List (Str × Addr)) (fp : List Addr), PG (X.blk s H scope (compEnvC scope cl C X.env) fp) tg g) (ht : ∀ (s : Shared) (H : Hp) (C : Addr) (cl : List (Str × Addr)) (fp : List Addr), PTs (X.blk s H scope (compEnvC scope cl C X.env) fp) ifs tt)
    (hk : ∀ (s : Shared) (H : Hp) (C : Addr) (cl : List (Str × Addr)) (fp : List Addr), PE (X.blk s H scope (compEnvC scope cl C X.env) fp) kx tk)
    (he : ∀ (s : Shared) (H : Hp) (C : Addr) (cl : List (Str × Addr)) (fp : List Addr), PE (X.blk s H scope (compEnvC scope cl C X.env) fp) vx tv) (hs : ∀ x, foldedSetIterable iter X.env x = pure x := by intro _; rfl) :
    PS X (.Assign [.Name y py] (.DictComp kx vx [⟨tg, iter, ifs, 0⟩] scope pos) spos) (tAsg (tDc wi g tt tk tv (own.map (·.2))) (gName i)) := by
  refine ⟨fun pins s σ H D I h => ?_⟩
  rw [exec_Assign_Name_used _ _ _ _ hsw]
  refine wpAny_bind (wpAny_standAt (wpAny_bind ?_))
  show wpAny _ X.A (do let _ ← comprehension (.DictComp kx vx [⟨tg, iter, ifs, 0⟩] scope pos) scope X.env (firstIterPos [⟨tg, iter, ifs, 0⟩] pos) newDict false (eval iter X.env) (some (assign (.Name y py) X.env))) _ _ s
  have h : tDc wi g tt tk tv (own.map (·.2)) σ H (fun x H1 => gName i x σ H1 D.nx) := h
  refine wpAny_bind (thn (dc_core (Qf := fun _ s' => SP X pins D .next s') hc hN I hi ok hg ht hk he hs h fun L C s' m H' I' q hn f => ?_) fun _ s' hq => wpAny_pure (wpAny_pure hq))
  show wpAny _ _ (assign (.Name y py) X.env (.ref L)) _ _ _
  refine wpAny_assign_Name (store_ok2 (v := V.ref L) I' hN hy (.inl hyl) rfl (fun s2 I2 ⟨a, sb, ha⟩ => ?_) (.inr hyl))
  obtain ⟨f0, f1, f2, f3, f4, f5⟩ := f
  have haC : C ≠ a := by
    rcases ha with z | z
    · rw [z]; exact f1
    · exact fun e => f4 y a z e.symm
  refine ⟨m, hn.sameBut sb haC, fun h3 sb3 => ?_⟩
  exact ⟨_, H', I2.turned (t' := s2.toks) (fun b o hb e => (sb3.2 b hb).trans e) f0 f1 f3 f4 f5, q⟩
theorem sw_trueD {kx vx : Expr} {gs : List Comprehension} {scope : Scope} {pos py : Pos} {y : Str} {l : Nat} {env : Env} (hk : env.scope.kind = .function) (hy : env.scope.names.lookup y = some .local) (hl : (py.line == pos.line) = true)
    (ha : (scope.names.any fun (n, k) => n == y && (k == .local || k == .cell)) = false) : swapsWith (.DictComp kx vx gs scope pos) (some (.Name y py)) l env = pure true := by
  have ky : env.kindOf y = some .local := hy
  have hb : env.blockKind = .function := by unfold Env.blockKind; rw [hk]; rfl
  unfold swapsWith
  simp only [hb, ky, ha, Expr.pos, hl]
  rfl
end
end L2

set_option Elab.async false
set_option linter.all false
set_option maxRecDepth 100000
set_option maxHeartbeats 4000000
namespace Z
open PySem PySem.Spec PyProof.Rows L2

local macro_rules | `(tactic| walk_at "sm") => `(tactic| first | (with_reducible assumption) | ((with_reducible refine' IsR.mono ?s ?h); (case s => with_reducible assumption); (case h => walk_at "sm")) | ((with_reducible refine' Same.at ?s ?h); (case s => with_reducible assumption); (case h => walk_at "sm")) | ((with_reducible refine' Same.seq ?s ?h); (case s => with_reducible assumption); (case h => walk_at "sm")) | ((with_reducible refine' SqL.of ?h); (case h => walk_at "sm")))
local macro_rules | `(tactic| walk_at "cd") => `(tactic| first | assumption | exact cmulW (by assumption) (by assumption) | exact cmulW (ZR.Bd.n (by assumption)) (ZR.Bd.n (by assumption)) | exact cmulW (ZR.Bd.n (by assumption)) (ZR.Bd.d (by assumption)) | exact cmulW (ZR.Bd.d (by assumption)) (ZR.Bd.d (by assumption)) | exact cmulW (ZR.Bd.d (by assumption)) (ZR.Bd.n (by assumption)) | exact (by show (0 : Int) < _; decide) | exact .inr ⟨by decide, by decide⟩ | exact .inl ⟨by decide, by decide⟩ | exact ⟨by decide, by decide⟩ | exact ⟨by decide, by decide, by decide⟩)
local macro_rules | `(tactic| walk_at "r1") => `(tactic| first
  | (with_reducible first
  | refine i_seq ?_ | refine i_next ?_ | refine i_asg ?_ | refine i_gname (by with_unfolding_all rfl) ?_ | refine i_ret ?_ | refine i_retN ?_ | refine i_drop ?_ | refine i_ifs ?_ | refine i_test ?_ | refine i_B ?_
  | refine i_bl ?_ | refine i_bl' ?_ | refine i_and ?_ | refine i_or ?_ | refine i_not ?_ | refine i_andV ?_ | refine i_orV ?_ | refine i_notV ?_ | refine i_ifx ?_
  | refine i_tt ?_ | refine i_ff ?_ | refine i_nt ?_ | refine i_nf ?_
  | refine i_var (by with_unfolding_all rfl) ?_ | refine i_c ?_ | refine i_op ?_ | refine i_un ?_ | refine i_cons ?_ | refine i_nil ?_ | refine i_cb ?_ | refine i_call ?_ | refine i_lst0 ?_ | refine i_tup0 ?_
  | refine i_fld0 ?_ | refine i_put0 ?_ | refine i_meth ?_ | refine i_make ?_ | refine i_mkO ?_ | refine i_fmt ?_ | refine i_jsC ?_ | refine i_jsN ?_ | refine i_bits0 ?_ | refine i_bits ?_
  | refine i_lcR10 ?_ | refine i_enS0 ?_ | refine i_lzip ?_ | refine i_mkV ?_ | refine i_fmtSO ?_ | refine i_revA0 ?_ | refine i_truO0 ?_ | refine i_lcR20 ?_ | refine i_lc2R0 ?_ | refine i_forR20 ?_ | refine i_tvd ?_ | refine i_xat ?_ | refine i_fmtL ?_ | refine i_forA0 ?_ | refine i_enA0 ?_ | refine i_lcA0 ?_ | refine i_lc2A0 ?_ | refine i_dcA0 ?_ | refine ZA.i_dcAT0 ?_ | refine ZA.i_lc2O0 ?_ | refine i_dget0 ?_ | refine i_din0 ?_ | refine i_dput0 ?_ | refine i_tru0 ?_ | refine i_fmtR ?_ | refine i_bm0 ?_ | refine i_gn ?_ | refine i_xf ?_ | refine i_chain ?_ | refine i_sl ?_ | refine i_noPart ?_ | refine i_part ?_ | refine i_part1 ?_ | refine i_revL ?_ | refine i_lcS0 ?_ | refine i_tve ?_ | refine i_ost ?_ | refine i_forL0 ?_ | refine i_forT0 ?_ | refine i_forR0 ?_ | refine i_lcL0 ?_ | refine i_yes ?_ | refine i_gsub ?_ | refine i_par ?_ | refine i_par1 ?_ | refine i_gc ?_ | refine i_gn ?_ | refine i_bm ?_
  | refine i_dnin0 ?_ | refine i_forK0 ?_ | refine i_lcK0 ?_ | refine i_forO0 ?_ | refine i_lcO0 ?_ | refine i_forZ0 ?_ | refine i_dget20 ?_ | refine i_dpop0 ?_ | refine i_vals0 ?_ | refine i_frzE0 ?_ | refine i_lcI0 ?_ | refine i_ev0 ?_ | refine i_dcZ0 ?_
  | refine i_lcZO0 ?_ | refine i_lcZS0 ?_ | refine i_dzip0 ?_ | refine i_rI0 ?_ | refine i_forZM0 ?_ | refine i_rU ?_ | refine i_eqI ?_ | refine i_neI ?_ | refine i_eqB ?_ | refine i_neB ?_ | refine i_eqS ?_ | refine i_neS ?_ | refine i_gcd ?_)
  | ((with_reducible refine i_rI ?c ?_); (case c => walk_at "cd"))
  | walk_at "r2")
local macro_rules | `(tactic| walk_at "rd") => `(tactic| repeat walk_at "r1")
local macro_rules | `(tactic| walk_at "rb") => `(tactic| ((try dsimp only); repeat walk_at "r1"))

local macro_rules | `(tactic| walk_at "r2") => `(tactic| with_reducible first | refine i_top (by walk_at "sm") (by assumption) (by assumption) ?_ | refine i_bot (by walk_at "sm") (by assumption) (by assumption) ?_ | refine i_mkO ?_)
def top (i : Nat) : Stmt := PySem.Challenge.pw_onethrow_k28_strange_names.main.body.getD i (.Pass ⟨0, 0, 0, 0⟩)
def GInt : V → Hp → Prop := fun v _ => ∃ n : Int, v = .int n ∧ ZR.Sz 1000 n
theorem i_fmtRSW {z : Str} {H : Hp} {Q : VK} (l : (reprText z).length ≤ 400000) (h : Q (.str (reprText z)) H) : rFmtR (.str z) H Q := .inl ⟨z, rfl, Nat.le_trans l (by rw [sizeLine_eq]; decide), h⟩
def RW (z : Str) : Prop := (reprText z).length ≤ 400000
def spAmW (K : PySem.W.Frag) (CU : Addr) : Sp := fun vs H Q E => vs.length = 2 ∧ ∃ (a b : Addr) (ks zs : List Str), vs = [.ref a, .ref b] ∧ SqA K H a (ks.map V.str) ∧ SqA K H b (zs.map V.str) ∧
  (∀ z, miss ks zs = some z → RW z ∧ EName CU z H E) ∧ (miss ks zs = none → ∀ H', Same H H' → Q .non H')
def GStW : V → Hp → Prop := fun v _ => ∃ z : Str, v = .str z ∧ RW z
open TL ZS in
def spDec : Sp := fun vs H Q _ => vs.length = 1 ∧ ∃ n : Int, vs = [.int n] ∧ n.natAbs < 10 ^ 64 ∧ ∀ H', Same H H' → Q (.str (ZS.T n)) H'
def strR (p : Rat) : Str := if p.den = 1 then ZS.T p.num else ZS.T p.num ++ ZS.slash ++ ZS.T (p.den : Int)
def spRStr (CR : Addr) : Sp := fun vs H Q _ => vs.length = 1 ∧ ∃ (a : Addr) (p : Rat), vs = [.ref a] ∧ IsR CR H a p ∧ p.num.natAbs < 10 ^ 30 ∧ p.den < 10 ^ 30 ∧ ∀ H', Same H H' → Q (.str (strR p)) H'
section
variable {CR CX : Addr} {H : Hp} {Q : VK} {E : XK} {z : Str}
theorem i_decT {n : Int} (hz : n.natAbs < 10 ^ 64) (h : ∀ H', Same H H' → Q (.str (ZS.T n)) H') : spDec [.int n] H Q E := ⟨rfl, n, rfl, hz, h⟩
end
abbrev s_decimal : Stmt := top 23
theorem sc_decimal : FnScope ["n", "blocks", "rest", "block", "text"] ["n"] (defScope s_decimal) := ⟨rfl, rfl, rfl, by decide +kernel, rfl, by decide +kernel, by decide +kernel⟩
theorem ok_decimal {P : Program} {w : World} {K : PySem.W.Frag} {mg : Str → Option Value} {base : Heap} {f : Addr} {fd : FuncData} (F : L2.Fun K "decimal" "decimal" s_decimal f fd)
    (C_b_abs : mg "abs" = none)
    (C_b_divmod : mg "divmod" = none)
    (C_b_str : mg "str" = none) :
    FnOk P w K mg base (L2.CX P w) 1 f fd ["n"] spDec := by
  refine fnOk_mk F sc_decimal (fun vs H Q E h => h.1) (fun cdv A outer s H vs Q E hr h => ?_)
  obtain ⟨_, n, rfl, hz, k⟩ := h
  refine ⟨_, pss_cons (ps_set (i := 1) sc_decimal.nd rfl (Or.inl rfl) (pe_lst pa_nil))
    (pss_cons (ps_set (i := 2) sc_decimal.nd rfl (Or.inl rfl) (pe_callB call_abs (by rfl) C_b_abs (by decide +kernel) (pa_cons (pv 0) pa_nil)))
    (pss_cons (ps_while (passes_of rfl) (pt_cmpR op_ge (pv 2) (pe_op op_pow pe_int pe_int) (nomark _)) (pss_cons (ps_asg (pe_callB call_divmodW (by rfl) C_b_divmod (by decide +kernel) (pa_cons (pv 2) (pa_cons (pe_op op_pow pe_int pe_int) pa_nil))) (k_tup (K := K) (n := 2) rfl rfl (pgs_cons (pg_name (i := 2) sc_decimal.nd rfl (Or.inl rfl)) (pgs_cons (pg_name (i := 3) sc_decimal.nd rfl (Or.inl rfl)) pgs_nil))))
    (pss_one (ps_expr (pe_bm PySem.F.plainAttrs_list PySem.F.slot_list_append PySem.F.type_list_append mt_append (pv 1) (pa_cons (pe_bm PySem.F.plainAttrs_str PySem.F.slot_str_zfill PySem.F.type_str_zfill mt_zfill (pe_callTy call_str_int (by rfl) C_b_str (by decide +kernel) (pa_cons (pv 3) pa_nil)) (pa_cons pe_int pa_nil)) pa_nil))))))
    (pss_cons (ps_expr (pe_bm PySem.F.plainAttrs_list PySem.F.slot_list_append PySem.F.type_list_append mt_append (pv 1) (pa_cons (pe_callTy call_str_int (by rfl) C_b_str (by decide +kernel) (pa_cons (pv 2) pa_nil)) pa_nil)))
    (pss_cons (ps_set (i := 4) sc_decimal.nd rfl (Or.inl rfl) (pe_bm PySem.F.plainAttrs_str PySem.F.slot_str_join PySem.F.type_str_join mt_join pe_str (pa_cons (pe_revL (pv 1)) pa_nil)))
    (pss_one (ps_ret (pe_ifExp (pt_cmpR op_lt (pv 0) pe_int (nomark _)) (pe_joined (PJ.cons pe_str (PJ.cons (pe_fmt (pv 4)) PJ.nil))) (pv 4)))))))), ?_⟩
  try dsimp only [cxOf]
  walk_at "rd"
  refine i_lst1 (Nat.le_of_ble_eq_true rfl) fun p H1 hp s1 e1 ho1 => ?_
  walk_at "rd"
  refine ⟨n, rfl, ?_⟩
  walk_at "rd"
  have eabs : (if n < 0 then -n else n) = ((n.natAbs : Nat) : Int) := by split <;> omega
  rw [eabs]
  refine while_by (fun σ H' => σ = [some (.int n), some (.ref p), some (.int ((n.natAbs : Nat) : Int)), none, none] ∧ H' = H1) (fun _ _ => 0) ⟨rfl, rfl⟩ ?_ ?_
  · rintro σ H2 ⟨rfl, rfl⟩
    walk_at "rd"
    rw [decide_eq_false (show ¬ (10 : Int) ^ Int.toNat 64 ≤ ((n.natAbs : Nat) : Int) by
      have : (10 : Int) ^ Int.toNat 64 = ((10 ^ 64 : Nat) : Int) := by decide +kernel
      rw [this]
      omega)]
    walk_at "rd"
    refine ⟨tyL e1, ?_⟩
    walk_at "rd"
    refine ⟨_, rfl, ?_, ?_⟩
    · exact PySem.Flt.log2_lt_of (by decide) (show ((n.natAbs : Nat) : Int).natAbs < 2 ^ 1920 from Nat.lt_of_lt_of_le hz (by decide +kernel))
    walk_at "rd"
    refine i_app e1 (by decide) fun H3 e3 ho3 => ?_
    walk_at "rd"
    refine ⟨rfl, ?_⟩
    walk_at "rd"
    refine i_revL1 (xs := [V.str (ZS.T ((n.natAbs : Nat) : Int))]) (SqL.of e3) fun q H4 hq s4 e4 ho4 => ?_
    walk_at "rd"
    have hl : (ZS.T ((n.natAbs : Nat) : Int)).length ≤ 64 := by
      rw [TL.len_tl, ZS.tl_pos]
      exact TL.numL_len (by decide) hz
    refine ⟨Str.ofString "", q, [ZS.T ((n.natAbs : Nat) : Int)], rfl, rfl, .inl (SqL.of e4), ?_, ?_⟩
    · show ((ZS.T ((n.natAbs : Nat) : Int)).length + 0) + 1 * _ ≤ _
      have : (Str.ofString "").length = 0 := by decide +kernel
      rw [this]
      omega
    rw [ZS.join1]
    walk_at "rb"
    have s24 : Same H H4 := by
      intro b o e
      have nb : b ≠ p := ne_of_none e hp
      exact s4 _ _ ((ho3 b nb).trans (s1 _ _ e))
    refine i_dec (fun hn => ?_) (fun hn => ?_)
    · walk_at "rd"
      refine i_js1 (by decide +kernel) ?_
      walk_at "rd"
      refine i_fmtS (Nat.le_trans hl (by decide)) ?_
      refine i_js1 ?_ ?_
      · rw [Str.length_append, Str.length_append]
        have e : (Str.ofString "-").length = 1 := by decide +kernel
        have e0 : Str.empty.length = 0 := by decide +kernel
        rw [e, e0, sizeLine_eq]
        omega
      walk_at "rd"
      have en : ((n.natAbs : Nat) : Int) = -n := by omega
      have ee : Str.empty ++ Str.ofString "-" ++ ZS.T ((n.natAbs : Nat) : Int) = ZS.T n := by
        rw [en, ← ZS.T_neg hn]
        refine TL.ext_tl ?_
        rw [TL.tl_append, TL.tl_append, TL.tl_append]
        rfl
      rw [ee]
      exact k H4 s24
    · walk_at "rd"
      have en : ((n.natAbs : Nat) : Int) = n := by omega
      rw [en]
      exact k H4 s24
  · intro σ H Q Q' kk h
    obtain ⟨y, e, q⟩ := h
    refine ⟨y, e, ?_⟩
    obtain ⟨i, j, ei, ej, cc, q⟩ := q
    refine ⟨i, j, ei, ej, cc, ?_⟩
    obtain ⟨i, j, ei, ej, q⟩ := q
    refine ⟨i, j, ei, ej, ?_⟩
    obtain ⟨c, ec, q⟩ := q
    exact ⟨c, ec, kk _ _ q⟩
abbrev s_Ratio___str__ : Stmt := inClass (top 25) 11
theorem sc_Ratio___str__ : FnScope ["self"] ["self"] (defScope s_Ratio___str__) := ⟨rfl, rfl, rfl, by decide +kernel, rfl, by decide +kernel, by decide +kernel⟩
theorem ok_Ratio___str__ {P : Program} {w : World} {K : PySem.W.Frag} {mg : Str → Option Value} {base : Heap} {CR : Addr} {f : Addr} {fd : FuncData} (F : L2.Fun K "__str__" "Ratio.__str__" s_Ratio___str__ f fd)
    (C_c_Ratio : ClO K CR)
    (C_f_decimal : Cal P w K mg base "decimal" 1 spDec)
    (C_na_Ratio_bottom : NoAttr K CR "bottom")
    (C_na_Ratio_top : NoAttr K CR "top") :
    FnOk P w K mg base (L2.CX P w) 2 f fd ["self"] (spRStr CR) := by
  refine fnOk_mk F sc_Ratio___str__ (fun vs H Q E h => h.1) (fun cdv A outer s H vs Q E hr h => ?_)
  obtain ⟨_, a, p, rfl, ha, hn, hd, k⟩ := h
  have b64 : ∀ {m : Nat}, m < 10 ^ 30 → m < 10 ^ 64 := fun h => Nat.lt_of_lt_of_le h (by decide +kernel)
  have hdi : ((p.den : Int)).natAbs < 10 ^ 30 := hd
  refine ⟨_, pss_cons (ps_if (pt_cmpR op_eq (pe_fld (pv 0) rfl) pe_int (nomark _)) (pss_one (ps_ret (pe_joined1 (pe_fmt (z_callC C_f_decimal hr passN (pa_cons (pe_fld (pv 0) rfl) pa_nil)))))) (pss_nil))
    (pss_one (ps_ret (pe_joined (PJ.cons (pe_fmt (z_callC C_f_decimal hr passN (pa_cons (pe_fld (pv 0) rfl) pa_nil))) (PJ.cons pe_str (PJ.cons (pe_fmt (z_callC C_f_decimal hr passN (pa_cons (pe_fld (pv 0) rfl) pa_nil))) PJ.nil)))))), ?_⟩
  try dsimp only [cxOf]
  walk_at "rd"
  refine i_dec (fun e => ?_) (fun e => ?_)
  · walk_at "rd"
    refine i_decT (b64 hn) fun H1 s1 => ?_
    refine i_fmtS (Nat.le_trans (ZS.T_len hn) (by decide)) ?_
    have e1 : strR p = ZS.T p.num := by
      unfold strR
      rw [if_pos (by omega)]
    rw [← e1]
    exact k H1 s1
  · walk_at "rd"
    refine i_decT (b64 hn) fun H1 s1 => ?_
    refine i_fmtS (Nat.le_trans (ZS.T_len hn) (by decide)) ?_
    have h1 := ZS.T_len hn
    have h2 := ZS.T_len hdi
    have e0 : Str.empty.length = 0 := by decide +kernel
    have es : (Str.ofString "/").length = 1 := by decide +kernel
    refine i_js1 ?_ ?_
    · rw [Str.length_append, e0, sizeLine_eq]
      omega
    walk_at "rd"
    refine i_js1 ?_ ?_
    · rw [Str.length_append, Str.length_append, e0, es, sizeLine_eq]
      omega
    walk_at "rd"
    refine i_decT (b64 hdi) fun H2 s2 => ?_
    refine i_fmtS (Nat.le_trans h2 (by decide)) ?_
    refine i_js1 ?_ ?_
    · rw [Str.length_append, Str.length_append, Str.length_append, e0, es, sizeLine_eq]
      omega
    walk_at "rd"
    have e1 : strR p = Str.empty ++ ZS.T p.num ++ Str.ofString "/" ++ ZS.T (p.den : Int) := by
      unfold strR
      rw [if_neg (by omega)]
      refine TL.ext_tl ?_
      rw [TL.tl_append, TL.tl_append, TL.tl_append, TL.tl_append, TL.tl_append]
      rfl
    rw [← e1]
    exact k H2 (s1.trans s2)
def spShownR (CR : Addr) : Sp := fun vs H Q _ => vs.length = 1 ∧ ∃ (a : Addr) (p : Rat), vs = [.ref a] ∧ IsR CR H a p ∧ p.num.natAbs < 10 ^ 30 ∧ p.den < 10 ^ 30 ∧ ∀ (y : Str) H', Same H H' → y.length ≤ 200 → Q (.str y) H'
def GRat (CR : Addr) : V → Hp → Prop := fun v H => ∃ (a : Addr) (p : Rat), v = .ref a ∧ IsR CR H a p ∧ p.num.natAbs < 10 ^ 30 ∧ p.den < 10 ^ 30
theorem strR_len {p : Rat} (h : p.num.natAbs < 10 ^ 30) (g : p.den < 10 ^ 30) : (strR p).length ≤ 200 := by
  have h1 := ZS.T_len h
  have h2 := ZS.T_len (n := (p.den : Int)) (by exact g)
  have e : ZS.slash.length = 1 := by decide +kernel
  unfold strR
  split
  · omega
  · rw [Str.length_append, Str.length_append, e]
    omega
def spShownA (CR : Addr) : Sp := fun vs H Q _ => vs.length = 1 ∧ ((∃ n : Int, vs = [.int n] ∧ ZR.Sz 1000 n ∧ ∀ y : Str, y.length ≤ 2000 → Q (.str y) H) ∨ ∃ (a : Addr) (p : Rat), vs = [.ref a] ∧ IsR CR H a p ∧ p.num.natAbs < 10 ^ 30 ∧ p.den < 10 ^ 30 ∧ ∀ (y : Str) H', Same H H' → y.length ≤ 2000 → Q (.str y) H')
def GNum (CR : Addr) : V → Hp → Prop := fun v H => GInt v H ∨ GRat CR v H
theorem i_shownA {CR : Addr} {v : V} {H : Hp} {Q : VK} {E : XK} (g : GNum CR v H) (h : ∀ (y : Str) H', Same H H' → y.length ≤ 2000 → Q (.str y) H') : spShownA CR [v] H Q E := by
  refine ⟨rfl, ?_⟩
  rcases g with ⟨n, rfl, hz⟩ | ⟨a, p, rfl, ha, hn, hd⟩
  · exact .inl ⟨n, rfl, hz, fun y hy => h y H (Same.refl _) hy⟩
  · exact .inr ⟨a, p, rfl, ha, hn, hd, h⟩
abbrev s__shown : Stmt := top 3
theorem sc__shown : FnScope ["n"] ["n"] (defScope s__shown) := ⟨rfl, rfl, rfl, by decide +kernel, rfl, by decide +kernel, by decide +kernel⟩
theorem ok__shown {P : Program} {w : World} {K : PySem.W.Frag} {mg : Str → Option Value} {base : Heap} {CR : Addr} {f : Addr} {fd : FuncData} (F : L2.Fun K "_shown" "_shown" s__shown f fd)
    (C_b_int : mg "int" = none)
    (C_b_isinstance : mg "isinstance" = none)
    (C_b_str : mg "str" = none)
    (C_c_Ratio : ClO K CR)
    (C_ki_Ratio_int : PySem.W.kitOne K (.ref CR) (.type "int") = some false)
    (C_na_Ratio_bottom : NoAttr K CR "bottom")
    (C_na_Ratio_top : NoAttr K CR "top")
    (C_o_Ratio_str : CalO P w K mg base CR "__str__" 2 (spRStr CR)) :
    FnOk P w K mg base (L2.CX P w) 5 f fd ["n"] (spShownA CR) := by
  refine fnOk_mk F sc__shown (fun vs H Q E h => h.1) (fun cdv A outer s H vs Q E hr h => ?_)
  obtain ⟨_, h⟩ := h
  rcases h with ⟨n, rfl, hz, k⟩ | ⟨a, p, rfl, ha, hn, hd, k⟩
  · refine ⟨_, pss_cons (ps_if (PW.pt (pw_and (pt_val (pe_callB call_isi (by rfl) C_b_isinstance (by decide +kernel) (pa_cons (pv 0) (pa_cons ((pe_bltn (v := .ty "int") rfl C_b_int (by decide +kernel) rfl)) pa_nil)))) (pw_and1 (pt_cmpR op_gt (pe_bits (pv 0)) pe_int (nomark _))))) (pss_one (ps_ret pe_str)) (pss_nil))
    (pss_one (ps_ret (pe_callTy call_str_int (by rfl) C_b_str (by decide +kernel) (pa_cons (pv 0) pa_nil)))), ?_⟩
    try dsimp only [cxOf]
    walk_at "rd"
    refine i_isiT (tyInt n) (b := true) (kit_ty (by decide +kernel)) ?_
    walk_at "rd"
    refine i_dec (fun h => absurd h (bits_small hz)) fun _ => ?_
    walk_at "rd"
    exact ⟨n, rfl, PySem.Flt.log2_lt_of (by decide) (hz.mono (by decide)), k _ (Nat.le_trans (text_small (hz.mono (by decide))) (by decide))⟩
  · obtain ⟨dx, e0⟩ := id ha
    refine ⟨_, pss_cons (ps_if (PW.pt (pw_and (pt_val (pe_callB call_isi (by rfl) C_b_isinstance (by decide +kernel) (pa_cons (pv 0) (pa_cons ((pe_bltn (v := .ty "int") rfl C_b_int (by decide +kernel) rfl)) pa_nil)))) (pw_and1 (pt_cmpR op_gt (pe_bits (pv 0)) pe_int (nomark _))))) (pss_one (ps_ret pe_str)) (pss_nil))
    (pss_one (ps_ret (pe_callTy (z_strO C_o_Ratio_str hr) (by rfl) C_b_str (by decide +kernel) (pa_cons (pv 0) pa_nil)))), ?_⟩
    try dsimp only [cxOf]
    walk_at "rd"
    refine i_isiT (C_c_Ratio.ty e0) (b := false) C_ki_Ratio_int ?_
    walk_at "rd"
    exact ⟨a, dx, _, rfl, e0, rfl, a, p, rfl, ha, hn, hd, fun H' s => ⟨_, rfl, k _ H' s (Nat.le_trans (strR_len hn hd) (by decide))⟩⟩
abbrev s_BadNumber___init__ : Stmt := inClass (top 5) 0
theorem sc_BadNumber___init__ : FnScope ["self", "n"] ["self", "n"] (defScope s_BadNumber___init__) := ⟨rfl, rfl, rfl, by decide +kernel, rfl, by decide +kernel, by decide +kernel⟩
theorem ok_BadNumber___init__ {P : Program} {w : World} {K : PySem.W.Frag} {mg : Str → Option Value} {base : Heap} {CB CR : Addr} {f : Addr} {fd : FuncData} (F : L2.Fun K "__init__" "BadNumber.__init__" s_BadNumber___init__ f fd)
    (C_f_shown : Cal P w K mg base "_shown" 5 (spShownA CR))
    (C_ox_BadNumber : OexC K CB)
    (C_t_ThrowError : CalT K mg "ThrowError")
    (C_xn_BadNumber_n : PySem.W.findIn K (.ref CB) "n" = some none) :
    FnOk P w K mg base (L2.CX P w) 6 f fd ["self", "n"] (spX1 K CB "n" (GNum CR)) := by
  refine fnOk_mk F sc_BadNumber___init__ (fun vs H Q E h => h.1) (fun cdv A outer s H vs Q E hr h => ?_)
  obtain ⟨_, a, v, rfl, ha, g, k⟩ := h
  refine ⟨_, pss_cons (ps_expr (z_tinit (by rfl) C_t_ThrowError (pa_cons (pv 0) (pa_cons (pe_joined (PJ.cons pe_str (PJ.cons (pe_fmt (z_callC C_f_shown hr passN (pa_cons (pv 1) pa_nil))) PJ.nil))) pa_nil))))
    (pss_one (ps_ost (pv 0) (pv 1))), ?_⟩
  try dsimp only [cxOf]
  walk_at "rd"
  refine i_js1 (by decide +kernel) ?_
  walk_at "rd"
  refine i_shownA g fun y H1 s1 hy => ?_
  refine i_fmtS (Nat.le_trans hy (by decide)) ?_
  refine i_js1 ?_ ?_
  · rw [Str.length_append, Str.length_append]
    have e : (Str.ofString "bad number: ").length = 12 := by decide +kernel
    have e0 : Str.empty.length = 0 := by decide +kernel
    rw [e, e0, sizeLine_eq]
    omega
  walk_at "rd"
  refine i_tve1 C_ox_BadNumber (s1 _ _ ha) (by show 1 ≤ 1000; decide) ?_
  walk_at "rd"
  refine i_ost1 C_ox_BadNumber C_xn_BadNumber_n (s1 _ _ ha) fun dx hd' hn' => ?_
  refine k dx H1 ?_ hn' s1 hd'
  cases z : H dx with
  | none => rfl
  | some o => rw [s1 _ _ z] at hd'; cases hd'
abbrev s_DuplicateName___init__ : Stmt := inClass (top 8) 0
theorem sc_DuplicateName___init__ : FnScope ["self", "name"] ["self", "name"] (defScope s_DuplicateName___init__) := ⟨rfl, rfl, rfl, by decide +kernel, rfl, by decide +kernel, by decide +kernel⟩
theorem ok_DuplicateName___init__ {P : Program} {w : World} {K : PySem.W.Frag} {mg : Str → Option Value} {base : Heap} {CD : Addr} {f : Addr} {fd : FuncData} (F : L2.Fun K "__init__" "DuplicateName.__init__" s_DuplicateName___init__ f fd)
    (C_ox_DuplicateName : OexC K CD)
    (C_t_ThrowError : CalT K mg "ThrowError")
    (C_xn_DuplicateName_name : PySem.W.findIn K (.ref CD) "name" = some none) :
    FnOk P w K mg base (L2.CX P w) 1 f fd ["self", "name"] (spX1 K CD "name" GStW) := by
  refine fnOk_mk F sc_DuplicateName___init__ (fun vs H Q E h => h.1) (fun cdv A outer s H vs Q E hr h => ?_)
  obtain ⟨_, a, v, rfl, ha, g, k⟩ := h
  obtain ⟨z, rfl, hz⟩ := g
  refine ⟨_, pss_cons (ps_expr (z_tinit (by rfl) C_t_ThrowError (pa_cons (pv 0) (pa_cons (pe_joined (PJ.cons pe_str (PJ.cons (pe_fmtR (pv 1)) PJ.nil))) pa_nil))))
    (pss_one (ps_ost (pv 0) (pv 1))), ?_⟩
  try dsimp only [cxOf]
  walk_at "rd"
  refine i_js1 (by decide +kernel) ?_
  walk_at "rd"
  refine i_fmtRSW hz ?_
  refine i_js1 ?_ ?_
  · rw [Str.length_append, Str.length_append]
    have e : (Str.ofString "name comes again: ").length = 18 := by decide +kernel
    have e0 : Str.empty.length = 0 := by decide +kernel
    have hz' : (reprText z).length ≤ 400000 := hz
    rw [e, e0, sizeLine_eq]
    omega
  walk_at "rd"
  refine i_tve1 C_ox_DuplicateName ha (by show 1 ≤ 1000; decide) ?_
  walk_at "rd"
  refine i_ost1 C_ox_DuplicateName C_xn_DuplicateName_name ha fun dx hd hn => ?_
  exact k dx H hd hn (Same.refl _) hd
abbrev s_BadShares___init__ : Stmt := inClass (top 11) 0
theorem sc_BadShares___init__ : FnScope ["self", "total"] ["self", "total"] (defScope s_BadShares___init__) := ⟨rfl, rfl, rfl, by decide +kernel, rfl, by decide +kernel, by decide +kernel⟩
theorem ok_BadShares___init__ {P : Program} {w : World} {K : PySem.W.Frag} {mg : Str → Option Value} {base : Heap} {CR CX : Addr} {f : Addr} {fd : FuncData} (F : L2.Fun K "__init__" "BadShares.__init__" s_BadShares___init__ f fd)
    (C_f_shown : Cal P w K mg base "_shown" 5 (spShownA CR))
    (C_ox_BadShares : OexC K CX)
    (C_t_ThrowError : CalT K mg "ThrowError")
    (C_xn_BadShares_total : PySem.W.findIn K (.ref CX) "total" = some none) :
    FnOk P w K mg base (L2.CX P w) 6 f fd ["self", "total"] (spX1 K CX "total" (GNum CR)) := by
  refine fnOk_mk F sc_BadShares___init__ (fun vs H Q E h => h.1) (fun cdv A outer s H vs Q E hr h => ?_)
  obtain ⟨_, a, v, rfl, ha, g, k⟩ := h
  refine ⟨_, pss_cons (ps_expr (z_tinit (by rfl) C_t_ThrowError (pa_cons (pv 0) (pa_cons (pe_joined (PJ.cons pe_str (PJ.cons (pe_fmt (z_callC C_f_shown hr passN (pa_cons (pv 1) pa_nil))) PJ.nil))) pa_nil))))
    (pss_one (ps_ost (pv 0) (pv 1))), ?_⟩
  try dsimp only [cxOf]
  walk_at "rd"
  refine i_js1 (by decide +kernel) ?_
  walk_at "rd"
  refine i_shownA g fun y H1 s1 hy => ?_
  refine i_fmtS (Nat.le_trans hy (by decide)) ?_
  refine i_js1 ?_ ?_
  · rw [Str.length_append, Str.length_append]
    have e : (Str.ofString "bad sum of shares: ").length = 19 := by decide +kernel
    have e0 : Str.empty.length = 0 := by decide +kernel
    rw [e, e0, sizeLine_eq]
    omega
  walk_at "rd"
  refine i_tve1 C_ox_BadShares (s1 _ _ ha) (by show 1 ≤ 1000; decide) ?_
  walk_at "rd"
  refine i_ost1 C_ox_BadShares C_xn_BadShares_total (s1 _ _ ha) fun dx hd' hn' => ?_
  refine k dx H1 ?_ hn' s1 hd'
  cases z : H dx with
  | none => rfl
  | some o => rw [s1 _ _ z] at hd'; cases hd'
abbrev s_BadName___init__ : Stmt := inClass (top 7) 0
theorem sc_BadName___init__ : FnScope ["self", "name"] ["self", "name"] (defScope s_BadName___init__) := ⟨rfl, rfl, rfl, by decide +kernel, rfl, by decide +kernel, by decide +kernel⟩
theorem ok_BadName___init__ {P : Program} {w : World} {K : PySem.W.Frag} {mg : Str → Option Value} {base : Heap} {CN : Addr} {f : Addr} {fd : FuncData} (F : L2.Fun K "__init__" "BadName.__init__" s_BadName___init__ f fd)
    (C_ox_BadName : OexC K CN)
    (C_t_ThrowError : CalT K mg "ThrowError")
    (C_xn_BadName_name : PySem.W.findIn K (.ref CN) "name" = some none) :
    FnOk P w K mg base (L2.CX P w) 1 f fd ["self", "name"] (spX1 K CN "name" GStW) := by
  refine fnOk_mk F sc_BadName___init__ (fun vs H Q E h => h.1) (fun cdv A outer s H vs Q E hr h => ?_)
  obtain ⟨_, a, v, rfl, ha, g, k⟩ := h
  obtain ⟨z, rfl, hz⟩ := g
  refine ⟨_, pss_cons (ps_expr (z_tinit (by rfl) C_t_ThrowError (pa_cons (pv 0) (pa_cons (pe_joined (PJ.cons pe_str (PJ.cons (pe_fmtR (pv 1)) PJ.nil))) pa_nil))))
    (pss_one (ps_ost (pv 0) (pv 1))), ?_⟩
  try dsimp only [cxOf]
  walk_at "rd"
  refine i_js1 (by decide +kernel) ?_
  walk_at "rd"
  refine i_fmtRSW hz ?_
  refine i_js1 ?_ ?_
  · rw [Str.length_append, Str.length_append]
    have e : (Str.ofString "bad name: ").length = 10 := by decide +kernel
    have e0 : Str.empty.length = 0 := by decide +kernel
    have hz' : (reprText z).length ≤ 400000 := hz
    rw [e, e0, sizeLine_eq]
    omega
  walk_at "rd"
  refine i_tve1 C_ox_BadName ha (by show 1 ≤ 1000; decide) ?_
  walk_at "rd"
  refine i_ost1 C_ox_BadName C_xn_BadName_name ha fun dx hd hn => ?_
  exact k dx H hd hn (Same.refl _) hd
abbrev s_Ratio___init__ : Stmt := inClass (top 25) 0
theorem sc_Ratio___init__ : FnScope ["self", "top", "bottom", "divisor"] ["self", "top", "bottom"] (defScope s_Ratio___init__) := ⟨rfl, rfl, rfl, by decide +kernel, rfl, by decide +kernel, by decide +kernel⟩
theorem ok_Ratio___init__ {P : Program} {w : World} {K : PySem.W.Frag} {mg : Str → Option Value} {base : Heap} {CB CR : Addr} {f : Addr} {fd : FuncData} (F : L2.Fun K "__init__" "Ratio.__init__" s_Ratio___init__ f fd)
    (C_c_Ratio : ClO K CR)
    (C_m_gcd : mg "gcd" = some (.builtin "math.gcd"))
    (C_na_Ratio_bottom : NoAttr K CR "bottom")
    (C_na_Ratio_top : NoAttr K CR "top")
    (C_x_BadNumber : CalX P w K mg base "BadNumber" CB 6 ["self", "n"] (spX1 K CB "n" (GNum CR))) :
    FnOk P w K mg base (L2.CX P w) 8 f fd ["self", "top", "bottom"] (spRInit CR CB) := by
  refine fnOk_mk F sc_Ratio___init__ (fun vs H Q E h => h.1) (fun cdv A outer s H vs Q E hr h => ?_)
  obtain ⟨_, a, t, b, rfl, ⟨dx, ha⟩, hz, h0, h1⟩ := h
  have tail : ∀ p : Int, p ≠ 0 → p.natAbs.log2 < 9000 → p = ZR.sg t b → b ≠ 0 → tSeq (sFld K (tVar 0) (tOp (rI CDivZ fun i j => V.int (i.fdiv j)) (tVar 1) (tVar 3)) "top") (sFld K (tVar 0) (tOp (rI CDivZ fun i j => V.int (i.fdiv j)) (tVar 2) (tVar 3)) "bottom")
      { nx := fun x H' => Q V.non H', rt := Q } [some (V.ref a), some (V.int t), some (V.int b), some (V.int p)] H := by
    intro p p0 pz e hb
    have cd : CDivZ t p := ⟨p0, pz⟩
    have cd2 : CDivZ b p := ⟨p0, pz⟩
    walk_at "rd"
    refine i_put1 ha C_c_Ratio.toCls C_na_Ratio_top (by show 0 < 100; decide) (rf_put1 _) fun H2 e2 s2 => ?_
    walk_at "rd"
    refine i_put1 e2 C_c_Ratio.toCls C_na_Ratio_bottom (by show 1 < 100; decide) (rf_put2 _ _) fun H3 e3 s3 => ?_
    subst e
    rw [ZR.norm_num t b hb, ZR.norm_den t b hb] at e3
    exact h1 hb H3 ⟨dx, e3⟩ fun x hx => (s3 x hx).trans (s2 x hx)
  refine ⟨_, pss_cons (ps_if (pt_cmpR op_eq (pv 2) pe_int (nomark _)) (pss_one (ps_raise rfl (takes_of rfl rfl rfl rfl) (z_mkX C_x_BadNumber hr (pa_cons pe_int pa_nil)))) (pss_nil))
    (pss_cons (ps_set (i := 3) sc_Ratio___init__.nd rfl (Or.inl rfl) (pe_callBfun cr_gcd (by rfl) C_m_gcd (pa_cons (pv 1) (pa_cons (pv 2) pa_nil))))
    (pss_cons (ps_if (pt_cmpR op_lt (pv 2) pe_int (nomark _)) (pss_one (ps_set (i := 3) sc_Ratio___init__.nd rfl (Or.inl rfl) (pe_un un_neg (pv 3)))) (pss_nil))
    (pss_cons (ps_fld (pv 0) (pe_op op_fdivZ (pv 1) (pv 3)) rfl)
    (pss_one (ps_fld (pv 0) (pe_op op_fdivZ (pv 2) (pv 3)) rfl))))), ?_⟩
  try dsimp only [cxOf]
  walk_at "rd"
  refine i_dec (fun e => ?_) (fun e => ?_)
  · walk_at "rd"
    exact i_mkX1 (fun H' s => .inl ⟨0, rfl, ZR.sz0⟩) fun d H' hd s e' => h0 e d H' s e'
  · walk_at "rd"
    have hb := (or_iff_right e).mp hz
    have gz : ((Nat.gcd t.natAbs b.natAbs : Nat) : Int).natAbs.log2 < 9000 := PySem.Flt.log2_lt_of (by decide) (show Nat.gcd t.natAbs b.natAbs < 2 ^ 9000 from Nat.lt_of_le_of_lt (Nat.gcd_le_right t.natAbs (show 0 < b.natAbs by omega)) (ZR.Sz.mono hb (by decide)))
    have g0 := ZR.gcd_ne t e
    refine i_dec (fun e1 => ?_) (fun e1 => ?_)
    · iterate 5 walk_at "r1"
      refine tail _ (by omega) (by rw [Int.natAbs_neg]; exact gz) (by unfold ZR.sg; rw [if_pos e1]) e
    · refine tail _ g0 gz (by unfold ZR.sg; rw [if_neg e1]) e
abbrev s_Ratio_whole : Stmt := inClass (top 25) 1
theorem sc_Ratio_whole : FnScope ["cls", "n"] ["cls", "n"] (defScope s_Ratio_whole) := ⟨rfl, rfl, rfl, by decide +kernel, rfl, by decide +kernel, by decide +kernel⟩
theorem ok_Ratio_whole {P : Program} {w : World} {K : PySem.W.Frag} {mg : Str → Option Value} {base : Heap} {CB CR : Addr} {f : Addr} {fd : FuncData} (F : L2.Fun K "whole" "Ratio.whole" s_Ratio_whole f fd)
    (C_i_Ratio : CalI P w K mg base "Ratio" CR 8 (spRInit CR CB)) :
    FnOk P w K mg base (L2.CX P w) 10 f fd ["cls", "n"] (spRWhole CR) := by
  refine fnOk_mk F sc_Ratio_whole (fun vs H Q E h => h.1) (fun cdv A outer s H vs Q E hr h => ?_)
  obtain ⟨_, n, rfl, k⟩ := h
  refine ⟨_, pss_one (ps_ret (z_makeL (i := 0) C_i_Ratio hr passN (pa_cons (pv 1) (pa_cons pe_int pa_nil)))), ?_⟩
  try dsimp only [cxOf]
  walk_at "rd"
  refine ⟨rfl, ?_⟩
  walk_at "rd"
  refine i_newR (by decide) (ZR.sz1 (by decide)) fun p H' hp s hr => k p H' hp s ?_
  have e : (n : Rat) / ((1 : Int) : Rat) = (n : Rat) := by
    have : ((1 : Int) : Rat) = 1 := rfl
    rw [this]
    grind
  rw [e] at hr
  exact hr
abbrev s_Ratio___add__ : Stmt := inClass (top 25) 5
theorem sc_Ratio___add__ : FnScope ["self", "other"] ["self", "other"] (defScope s_Ratio___add__) := ⟨rfl, rfl, rfl, by decide +kernel, rfl, by decide +kernel, by decide +kernel⟩
theorem ok_Ratio___add__ {P : Program} {w : World} {K : PySem.W.Frag} {mg : Str → Option Value} {base : Heap} {CB CR : Addr} {f : Addr} {fd : FuncData} (F : L2.Fun K "__add__" "Ratio.__add__" s_Ratio___add__ f fd)
    (C_c_Ratio : ClO K CR)
    (C_i_Ratio : CalI P w K mg base "Ratio" CR 8 (spRInit CR CB))
    (C_na_Ratio_bottom : NoAttr K CR "bottom")
    (C_na_Ratio_top : NoAttr K CR "top") :
    FnOk P w K mg base (L2.CX P w) 10 f fd ["self", "other"] (spR2 CR (· + ·)) := by
  refine fnOk_mk F sc_Ratio___add__ (fun vs H Q E h => h.1) (fun cdv A outer s H vs Q E hr h => ?_)
  obtain ⟨_, a, b, p, q, rfl, ha, hb, bp, bq, k⟩ := h
  refine ⟨_, pss_one (ps_ret (z_makeC C_i_Ratio hr passN (pa_cons (pe_op op_add (pe_op op_mulW (pe_fld (pv 0) rfl) (pe_fld (pv 1) rfl)) (pe_op op_mulW (pe_fld (pv 1) rfl) (pe_fld (pv 0) rfl))) (pa_cons (pe_op op_mulW (pe_fld (pv 0) rfl) (pe_fld (pv 1) rfl)) pa_nil)))), ?_⟩
  try dsimp only [cxOf]
  walk_at "rd"
  refine i_newR (Int.mul_ne_zero (ZR.den_ne p) (ZR.den_ne q)) ((bp.d.mul bq.d).mono (by decide)) fun c H' hc s hr => k c H' hc s ?_
  show IsR CR H' c (p + q)
  rw [← ZR.r_add]
  exact hr
abbrev s_Ratio___eq__ : Stmt := inClass (top 25) 9
theorem sc_Ratio___eq__ : FnScope ["self", "other"] ["self", "other"] (defScope s_Ratio___eq__) := ⟨rfl, rfl, rfl, by decide +kernel, rfl, by decide +kernel, by decide +kernel⟩
theorem ok_Ratio___eq__ {P : Program} {w : World} {K : PySem.W.Frag} {mg : Str → Option Value} {base : Heap} {CR : Addr} {f : Addr} {fd : FuncData} (F : L2.Fun K "__eq__" "Ratio.__eq__" s_Ratio___eq__ f fd)
    (C_b_isinstance : mg "isinstance" = none)
    (C_c_Ratio : ClO K CR)
    (C_gRatio : mg "Ratio" = some (.ref CR))
    (C_ki_Ratio_Ratio : PySem.W.kitOne K (.ref CR) (.ref CR) = some true)
    (C_na_Ratio_bottom : NoAttr K CR "bottom")
    (C_na_Ratio_top : NoAttr K CR "top") :
    FnOk P w K mg base (L2.CX P w) 1 f fd ["self", "other"] (spREq K CR) := by
  refine fnOk_mk F sc_Ratio___eq__ (fun vs H Q E h => h.1) (fun cdv A outer s H vs Q E hr h => ?_)
  obtain ⟨_, a, p, y, rfl, ha, h⟩ := h
  refine ⟨_, pss_one (ps_ret (pe_and (pe_callB call_isi (by rfl) C_b_isinstance (by decide +kernel) (pa_cons (pv 1) (pa_cons ((pe_glob (v := .ref CR) rfl C_gRatio rfl)) pa_nil))) (pe_and (pe_cmpR op_eq (pe_fld (pv 0) rfl) (pe_fld (pv 1) rfl) (nomark _)) (pe_one (pe_cmpR op_eq (pe_fld (pv 0) rfl) (pe_fld (pv 1) rfl) (nomark _)))))), ?_⟩
  try dsimp only [cxOf]
  walk_at "rd"
  rcases h with ⟨b, q, rfl, hb, k⟩ | ⟨t, ty, hk, k⟩
  · obtain ⟨dy, e2⟩ := id hb
    refine i_isiO (C_c_Ratio.ty e2) (b := true) C_ki_Ratio_Ratio ?_
    walk_at "rd"
    have e : decide (p.num = q.num ∧ (p.den : Int) = (q.den : Int)) = decide (p = q) := decide_eq_decide.mpr (ZR.eq_nd p q)
    have k1 := k H (Same.refl _)
    rw [← e] at k1
    refine i_dec (fun n1 => ?_) (fun n1 => ?_)
    · walk_at "rd"
      simpa [n1] using k1
    · simpa [n1] using k1
  · refine i_isiO ty hk ?_
    walk_at "rd"
    exact k H (Same.refl _)
abbrev s_UnknownName___init__ : Stmt := inClass (top 9) 0
theorem sc_UnknownName___init__ : FnScope ["self", "name"] ["self", "name"] (defScope s_UnknownName___init__) := ⟨rfl, rfl, rfl, by decide +kernel, rfl, by decide +kernel, by decide +kernel⟩
theorem ok_UnknownName___init__ {P : Program} {w : World} {K : PySem.W.Frag} {mg : Str → Option Value} {base : Heap} {CU : Addr} {f : Addr} {fd : FuncData} (F : L2.Fun K "__init__" "UnknownName.__init__" s_UnknownName___init__ f fd)
    (C_ox_UnknownName : OexC K CU)
    (C_t_ThrowError : CalT K mg "ThrowError")
    (C_xn_UnknownName_name : PySem.W.findIn K (.ref CU) "name" = some none) :
    FnOk P w K mg base (L2.CX P w) 1 f fd ["self", "name"] (spX1 K CU "name" GStW) := by
  refine fnOk_mk F sc_UnknownName___init__ (fun vs H Q E h => h.1) (fun cdv A outer s H vs Q E hr h => ?_)
  obtain ⟨_, a, v, rfl, ha, g, k⟩ := h
  obtain ⟨z, rfl, hz⟩ := g
  refine ⟨_, pss_cons (ps_expr (z_tinit (by rfl) C_t_ThrowError (pa_cons (pv 0) (pa_cons (pe_joined (PJ.cons pe_str (PJ.cons (pe_fmtR (pv 1)) PJ.nil))) pa_nil))))
    (pss_one (ps_ost (pv 0) (pv 1))), ?_⟩
  try dsimp only [cxOf]
  walk_at "rd"
  refine i_js1 (by decide +kernel) ?_
  walk_at "rd"
  refine i_fmtRSW hz ?_
  refine i_js1 ?_ ?_
  · rw [Str.length_append, Str.length_append]
    have e : (Str.ofString "unknown name: ").length = 14 := by decide +kernel
    have e0 : Str.empty.length = 0 := by decide +kernel
    have hz' : (reprText z).length ≤ 400000 := hz
    rw [e, e0, sizeLine_eq]
    omega
  walk_at "rd"
  refine i_tve1 C_ox_UnknownName ha (by show 1 ≤ 1000; decide) ?_
  walk_at "rd"
  refine i_ost1 C_ox_UnknownName C_xn_UnknownName_name ha fun dx hd hn => ?_
  exact k dx H hd hn (Same.refl _) hd
def spXR (K : PySem.W.Frag) (C : Addr) : Sp := fun vs H Q _ => vs.length = 2 ∧ ∃ (a b : Addr) (zs : List Str), vs = [.ref a, .ref b] ∧ H a = some (exo a C none) ∧ zs ≠ [] ∧ SqL K H b (zs.map V.str) ∧ (∀ z ∈ zs, nameB z = true) ∧ zs.length ≤ 64 ∧
  ∀ q dx H1, H q = none → H dx = none → dx ≠ a → q ≠ a → Same H H1 → H1 q = some (.lst (zs.map V.str)) → H1 dx = none → Q .non (upd (upd H1 dx (exd dx [("names", .ref q)])) a (exo a C (some dx)))
theorem i_mkXR {K : PySem.W.Frag} {C b : Addr} {zs : List Str} {H : Hp} {Q : XK} (n0 : zs ≠ []) (s : SqL K H b (zs.map V.str)) (hn : ∀ z ∈ zs, nameB z = true) (hl : zs.length ≤ 64)
    (h : ∀ d q H', H d = none → Same H H' → H' d = some (.xd [("names", .ref q)]) → H' q = some (.lst (zs.map V.str)) → Q (.ref C) (some d) H') : rMkO C (spXR K C) [.ref b] H Q := by
  refine ⟨by show 1 ≤ 1000; decide, fun a ha => ?_⟩
  have s0 : Same H (upd H a (exo a C none)) := fun b o e => by rw [upd_ne (ne_of_none e ha)]; exact e
  refine ⟨rfl, a, b, zs, rfl, upd_same, n0, s0.seq s, hn, hl, fun q dx H1 hq hd hne hqa sm eq hd1 => ?_⟩
  have hdH : H dx = none := by rw [upd_ne hne] at hd; exact hd
  have dq : q ≠ dx := fun z => by rw [z, hd1] at eq; cases eq
  refine ⟨rfl, dx, [("names", .ref q)], upd_same, by rw [upd_ne hne, upd_same], hdH, h dx q _ hdH (fun b o e => ?_) upd_same ?_⟩
  · have nb : b ≠ dx := ne_of_none e hdH
    have na : b ≠ a := ne_of_none e ha
    rw [upd_ne nb, del_ne na, upd_ne na, upd_ne nb]
    exact sm b o (s0 b o e)
  · rw [upd_ne dq, del_ne hqa, upd_ne hqa, upd_ne dq]
    exact eq
theorem cost_names : ∀ zs : List Str, (∀ z ∈ zs, z.length ≤ 8) → fmtCost zs ≤ zs.length * 84
  | [], _ => Nat.zero_le _
  | z :: zs, h => by
    have ih := cost_names zs fun w hw => h w (List.mem_cons_of_mem _ hw)
    have := h z List.mem_cons_self
    rw [fmtCost_cons, List.length_cons, Nat.succ_mul]
    omega
theorem name_chars {z : Str} (h : nameB z = true) : ∀ c ∈ z.cps.toList, c < 16 ^ 8 := by
  unfold nameB nameL at h
  rw [Bool.and_eq_true, Bool.and_eq_true] at h
  intro c hc
  have := List.all_eq_true.mp h.2.2 c hc
  unfold let_ ZS.dig at this
  simp at this
  omega
abbrev s_Ring___init__ : Stmt := inClass (top 10) 0
theorem sc_Ring___init__ : FnScope ["self", "names"] ["self", "names"] (defScope s_Ring___init__) := ⟨rfl, rfl, rfl, by decide +kernel, rfl, by decide +kernel, by decide +kernel⟩
theorem ok_Ring___init__ {P : Program} {w : World} {K : PySem.W.Frag} {mg : Str → Option Value} {base : Heap} {CG : Addr} {f : Addr} {fd : FuncData} (F : L2.Fun K "__init__" "Ring.__init__" s_Ring___init__ f fd)
    (C_b_list : mg "list" = none)
    (C_ox_Ring : OexC K CG)
    (C_t_ThrowError : CalT K mg "ThrowError")
    (C_xf_Ring : XfC K CG)
    (C_xn_Ring_names : PySem.W.findIn K (.ref CG) "names" = some none) :
    FnOk P w K mg base (L2.CX P w) 1 f fd ["self", "names"] (spXR K CG) := by
  refine fnOk_mk F sc_Ring___init__ (fun vs H Q E h => h.1) (fun cdv A outer s H vs Q E hr h => ?_)
  obtain ⟨_, a, b, zs, rfl, ha, n0, hs, hn, hl, k⟩ := h
  have hcost := cost_names zs fun z hz => nameB_len (hn z hz)
  refine ⟨_, pss_cons (ps_ost (pv 0) (pe_callTy (k_listA (K := K) rfl) (by rfl) C_b_list (by decide +kernel) (pa_cons (pv 1) pa_nil)))
    (pss_one (ps_expr (z_tinitD (by rfl) C_t_ThrowError (pa_cons (pv 0) (pa_cons (pe_joined (PJ.cons pe_str (PJ.cons (pe_fmtL hr (pe_xat (pv 0))) PJ.nil))) pa_nil))))), ?_⟩
  try dsimp only [cxOf]
  walk_at "rd"
  refine i_listA (.inl hs) fun q H1 hq s1 e1 o1 => ?_
  have qa : q ≠ a := fun z => by rw [z, ha] at hq; cases hq
  walk_at "rd"
  refine i_ost1 C_ox_Ring C_xn_Ring_names (s1 _ _ ha) fun dx hd hn2 => ?_
  have qd : q ≠ dx := fun z => by rw [z, hd] at e1; cases e1
  walk_at "rd"
  refine i_js1 (by decide +kernel) ?_
  walk_at "rd"
  refine i_xat1 C_xf_Ring C_xn_Ring_names upd_same (by rw [upd_ne hn2, upd_same]) ?_
  obtain ⟨y, l, rfl⟩ : ∃ y l, zs = y :: l := by
    cases zs with
    | nil => exact absurd rfl n0
    | cons y l => exact ⟨y, l, rfl⟩
  refine ⟨q, y, l, rfl, .of (by rw [upd_ne qa, upd_ne qd]; exact e1), fun z hz => name_chars (hn z hz), by rw [sizeLine_eq]; omega, fun m hm => ?_⟩
  refine i_js1 ?_ ?_
  · rw [Str.length_append, Str.length_append]
    have e : (Str.ofString "below each other: ").length = 18 := by decide +kernel
    have e0 : Str.empty.length = 0 := by decide +kernel
    rw [e, e0, sizeLine_eq]
    omega
  walk_at "rd"
  refine i_tvd1 C_ox_Ring upd_same (by show 1 ≤ 1000; decide) ?_
  walk_at "rd"
  refine k q dx H1 hq ?_ hn2 qa s1 e1 hd
  cases z : H dx with
  | none => rfl
  | some o => rw [s1 _ _ z] at hd; cases hd
local macro_rules | `(tactic| walk_at "r2") => `(tactic| with_reducible first | refine i_mkO ?_)
theorem let_mem (c : Nat) : decide (c ∈ (Str.ofString "abcdefghijklmnopqrstuvwxyz").cps.toList) = let_ c := by
  have e : (Str.ofString "abcdefghijklmnopqrstuvwxyz").cps.toList = [97, 98, 99, 100, 101, 102, 103, 104, 105, 106, 107, 108, 109, 110, 111, 112, 113, 114, 115, 116, 117, 118, 119, 120, 121, 122] := by decide +kernel
  rw [e]
  unfold let_
  refine decide_eq_decide.mpr ?_
  simp
  omega
theorem dig_mem (c : Nat) : decide (c ∈ (Str.ofString "0123456789").cps.toList) = ZS.dig c := by
  have e : (Str.ofString "0123456789").cps.toList = [48, 49, 50, 51, 52, 53, 54, 55, 56, 57] := by decide +kernel
  rw [e]
  unfold ZS.dig
  refine decide_eq_decide.mpr ?_
  simp
  omega
theorem i_all {K : PySem.W.Frag} {D : Addr} {H : Hp} {Q : VK} {bs : List Bool} (e : H D = some (.lst (bs.map V.bl))) (h : Q (.bl (bs.all id)) H) : rAll K [.ref D] H Q := ⟨D, bs, rfl, SqL.of e, h⟩
theorem i_any {K : PySem.W.Frag} {D : Addr} {H : Hp} {Q : VK} {bs : List Bool} (e : H D = some (.lst (bs.map V.bl))) (h : Q (.bl (bs.any id)) H) : rAny K [.ref D] H Q := ⟨D, bs, rfl, SqL.of e, h⟩
theorem take_map {α β : Type} {l : List α} {f : α → β} {i : Nat} {c : α} (hc : l[i]? = some c) : (l.take (i + 1)).map f = (l.take i).map f ++ [f c] := by
  rw [List.take_add_one, hc, List.map_append]
  rfl
abbrev s_is_name : Stmt := top 17
theorem sc_is_name : FnScope ["text", "sign"] ["text"] (defScope s_is_name) := ⟨rfl, rfl, rfl, by decide +kernel, rfl, by decide +kernel, by decide +kernel⟩
theorem ok_is_name {P : Program} {w : World} {K : PySem.W.Frag} {mg : Str → Option Value} {base : Heap} {tk_DIGITS : Tok} {tk_LETTERS : Tok} {tk_MOST_SIGNS : Tok} {f : Addr} {fd : FuncData} (F : L2.Fun K "is_name" "is_name" s_is_name f fd)
    (C_b_all : mg "all" = none)
    (C_b_len : mg "len" = none)
    (C_n_DIGITS : mg "DIGITS" = some (.str "0123456789" tk_DIGITS))
    (C_n_LETTERS : mg "LETTERS" = some (.str "abcdefghijklmnopqrstuvwxyz" tk_LETTERS))
    (C_n_MOST_SIGNS : mg "MOST_SIGNS" = some (.int 8 tk_MOST_SIGNS)) :
    FnOk P w K mg base (L2.CX P w) 1 f fd ["text"] spIsName := by
  refine fnOk_mk F sc_is_name (fun vs H Q E h => h.1) (fun cdv A outer s H vs Q E hr h => ?_)
  obtain ⟨_, z, rfl, hz, k⟩ := h
  have hl := TL.len_tl z
  refine ⟨_, pss_cons (ps_if (pt_not (pt_chain op_le op_le pe_int (pe_callB call_len_str (by rfl) C_b_len (by decide +kernel) (pa_cons (pv 0) pa_nil)) ((pe_glob (v := .int 8) rfl C_n_MOST_SIGNS ⟨_, rfl⟩)))) (pss_one (ps_ret pe_bl)) (pss_nil))
    (pss_one (ps_ret (pe_and (pe_cmpR op_in_sign (pe_ix ix_str (pv 0) pe_int (fun _ _ => rfl)) ((pe_glob (v := .str "abcdefghijklmnopqrstuvwxyz") rfl C_n_LETTERS ⟨_, rfl⟩)) rfl) (pe_one (pe_callB (k_all rfl (K := K) rfl) (by rfl) C_b_all (by decide +kernel) (pa_cons (pe_lc (own := [("sign", 1)]) (by rfl) sc_is_name.nd (pi_str (pv 0)) (blkOk_by (N := ["text", "sign"]) (sc := defScope s_is_name) (by decide +kernel)) (fun _ _ _ _ _ => pg_name (i := 1) sc_is_name.nd rfl (Or.inl rfl)) (fun _ _ _ _ _ => pts_nil) (fun _ _ _ _ _ => pe_or (pe_cmpR op_in_sign (pv 1) ((pe_glob (v := .str "abcdefghijklmnopqrstuvwxyz") rfl C_n_LETTERS ⟨_, rfl⟩)) rfl) (pe_one (pe_cmpR op_in_sign (pv 1) ((pe_glob (v := .str "0123456789") rfl C_n_DIGITS ⟨_, rfl⟩)) rfl)))) pa_nil)))))), ?_⟩
  try dsimp only [cxOf]
  walk_at "rd"
  refine ⟨z, rfl, Nat.le_trans hz (by decide), ?_⟩
  walk_at "rb"
  have out : ∀ {b : Bool}, nameB z = b → Q (.bl b) H := fun e => e ▸ k H (Same.refl _)
  refine i_dec (fun e1 => ?_) (fun e1 => ?_)
  · walk_at "rd"
    refine i_ndec (fun e2 => ?_) (fun e2 => ?_)
    · walk_at "rd"
      refine out ?_
      unfold nameB nameL
      rw [decide_eq_false (by omega)]
      rfl
    · walk_at "rd"
      obtain ⟨c, r, ez⟩ : ∃ c r, TL.tl z = c :: r := by
        cases e : TL.tl z with
        | nil =>
          rw [e] at hl
          simp at hl
          omega
        | cons c r => exact ⟨c, r, rfl⟩
      refine i_ixS0 hz ez ?_
      walk_at "rd"
      refine ⟨c, _, rfl, rfl, ?_⟩
      rw [let_mem]
      have hlen : decide (1 ≤ (TL.tl z).length ∧ (TL.tl z).length ≤ 8) = true := decide_eq_true (by omega)
      refine ⟨_, rfl, ?_⟩
      refine i_bool (fun e3 => ?_) (fun e3 => ?_)
      · walk_at "rd"
        refine i_lcS (fun i ys H' => Same H H' ∧ ys = (((TL.tl z).take i).map fun c => let_ c || ZS.dig c).map V.bl) (fun D H' hD s e' ho => ⟨s, rfl⟩) ?_ ?_
        · rintro i c2 D ys H1 hD hc eD ⟨s1, rfl⟩
          walk_at "rd"
          refine ⟨by with_unfolding_all rfl, ?_⟩
          walk_at "rd"
          refine ⟨c2, _, rfl, rfl, ?_⟩
          rw [let_mem]
          have fin : ∀ b, b = (let_ c2 || ZS.dig c2) → rLcE D (fun i ys H' => Same H H' ∧ ys = (((TL.tl z).take i).map fun c => let_ c || ZS.dig c).map V.bl) i (V.bl b) H1 := by
            rintro b rfl
            refine i_lcE eD ?_ fun H2 e2 ho => ⟨?_, ?_⟩
            · have := (List.getElem?_eq_some_iff.mp hc).1
              simp
              omega
            · intro b o e
              exact (ho b (ne_of_none e hD)).trans (s1 _ _ e)
            · rw [take_map hc, List.map_append]
              rfl
          refine ⟨_, rfl, ?_⟩
          refine i_bool (fun e4 => ?_) (fun e4 => ?_)
          · exact fin _ (by rw [e4]; rfl)
          · walk_at "rd"
            refine ⟨c2, _, rfl, rfl, ?_⟩
            rw [dig_mem]
            exact fin _ (by rw [e4]; rfl)
        · rintro D ys H1 hD eD ⟨s1, rfl⟩
          walk_at "rd"
          refine i_all eD ?_
          have ep : (((TL.tl z).take (TL.tl z).length).map fun c => let_ c || ZS.dig c).all id = nameB z := by
            rw [List.take_length]
            unfold nameB nameL
            rw [hlen, ez]
            simp [List.all_map, Function.comp_def, e3]
          rw [ep]
          exact k H1 s1
      · refine out ?_
        unfold nameB nameL
        rw [hlen, ez]
        simp [e3]
  · walk_at "rd"
    refine out ?_
    unfold nameB nameL
    rw [decide_eq_false (by omega)]
    rfl
theorem strs_at {N : List Str} {i : Nat} {x : V} (h : (N.map V.str)[i]? = some x) : ∃ n, N[i]? = some n ∧ x = V.str n := by
  rw [List.getElem?_map] at h
  cases e : N[i]? with
  | none => rw [e] at h; cases h
  | some n => rw [e] at h; exact ⟨n, rfl, (Option.some.inj h).symm⟩
theorem take_snoc {α : Type} {N : List α} {i : Nat} {n : α} (h : N[i]? = some n) : N.take (i + 1) = N.take i ++ [n] := by rw [List.take_add_one, h]; rfl
theorem nodup_take {N : List Str} (hN : N.Nodup) {i : Nat} {n : Str} (h : N[i]? = some n) : ¬ n ∈ N.take i := fun hm => by
  obtain ⟨lt, e2⟩ := List.getElem?_eq_some_iff.mp h
  obtain ⟨j, hj, e⟩ := List.mem_iff_getElem.mp hm
  rw [List.length_take] at hj
  rw [List.getElem_take] at e
  have := (List.getElem_inj hN).mp (e.trans e2.symm)
  omega

/-- the first fault of names: no name (false), or one that came (true) -/
def nmF : List Str → List Str → Option (Bool × Str)
  | _, [] => none
  | seen, z :: zs => if nameB z = false then some (false, z) else if z ∈ seen then some (true, z) else nmF (seen ++ [z]) zs
theorem nmF_cons {seen zs : List Str} {z : Str} : nmF seen (z :: zs) = if nameB z = false then some (false, z) else if z ∈ seen then some (true, z) else nmF (seen ++ [z]) zs := rfl
theorem nmF_none : ∀ (zs seen : List Str), nmF seen zs = none → seen.Nodup → (∀ z ∈ zs, nameB z = true) ∧ (seen ++ zs).Nodup
  | [], seen, _, h => ⟨fun z hz => absurd hz (by simp), by simpa using h⟩
  | z :: zs, seen, h, hs => by
    unfold nmF at h
    split at h
    · cases h
    · rename_i h1
      split at h
      · cases h
      · rename_i h2
        have hs2 : (seen ++ [z]).Nodup := List.nodup_append.mpr ⟨hs, by simp, fun x hx y hy e => h2 (by rw [← List.mem_singleton.mp hy, ← e]; exact hx)⟩
        obtain ⟨a, b⟩ := nmF_none zs (seen ++ [z]) h hs2
        refine ⟨fun w hw => ?_, by simpa using b⟩
        rcases List.mem_cons.mp hw with rfl | hw
        · simpa using h1
        · exact a w hw
def spCheckG (K : PySem.W.Frag) (CN CD : Addr) : Sp := fun vs H Q E => vs.length = 1 ∧ ∃ (a : Addr) (zs : List Str), vs = [.ref a] ∧ SqA K H a (zs.map V.str) ∧ zs.length ≤ 30000 ∧ (∀ z ∈ zs, z.length ≤ 100000) ∧
  (∀ b z, nmF [] zs = some (b, z) → RW z ∧ EName (if b then CD else CN) z H E) ∧ (nmF [] zs = none → ∀ H', Same H H' → Q .non H')
abbrev s_check_names : Stmt := top 18
theorem sc_check_names : FnScope ["names", "at", "name"] ["names"] (defScope s_check_names) := ⟨rfl, rfl, rfl, by decide +kernel, rfl, by decide +kernel, by decide +kernel⟩
theorem ok_check_names {P : Program} {w : World} {K : PySem.W.Frag} {mg : Str → Option Value} {base : Heap} {CD CN : Addr} {f : Addr} {fd : FuncData} (F : L2.Fun K "check_names" "check_names" s_check_names f fd)
    (C_b_enumerate : mg "enumerate" = none)
    (C_f_is_name : Cal P w K mg base "is_name" 1 spIsName)
    (C_x_BadName : CalX P w K mg base "BadName" CN 1 ["self", "name"] (spX1 K CN "name" GStW))
    (C_x_DuplicateName : CalX P w K mg base "DuplicateName" CD 1 ["self", "name"] (spX1 K CD "name" GStW)) :
    FnOk P w K mg base (L2.CX P w) 3 f fd ["names"] (spCheckG K CN CD) := by
  refine fnOk_mk F sc_check_names (fun vs H Q E h => h.1) (fun cdv A outer s H vs Q E hr h => ?_)
  obtain ⟨_, a, zs, rfl, hs, hl, hlen, kx, k⟩ := h
  refine ⟨_, pss_one (ps_for (passes_of rfl) rfl (pi_enA (K := K) rfl (by rfl) C_b_enumerate (pa_cons (pv 0) pa_nil)) (k_tup (K := K) (n := 2) rfl rfl (pgs_cons (pg_name (i := 1) sc_check_names.nd rfl (Or.inl rfl)) (pgs_cons (pg_name (i := 2) sc_check_names.nd rfl (Or.inl rfl)) pgs_nil))) (pss_cons (ps_if (pt_not (pt_val (z_callC C_f_is_name hr passN (pa_cons (pv 2) pa_nil)))) (pss_one (ps_raise rfl (takes_of rfl rfl rfl rfl) (z_mkX C_x_BadName hr (pa_cons (pv 2) pa_nil)))) (pss_nil))
    (pss_one (ps_if (pt_cmpR (k_inS (K := K) rfl) (pv 2) (pe_slice (k_slA (K := K) rfl) (pv 0) po_none (po_some (pv 1))) rfl) (pss_one (ps_raise rfl (takes_of rfl rfl rfl rfl) (z_mkX C_x_DuplicateName hr (pa_cons (pv 2) pa_nil)))) (pss_nil))))), ?_⟩
  try dsimp only [cxOf]
  walk_at "rd"
  refine i_enA (fun i σ H1 => (∃ x y, σ = [some (.ref a), x, y]) ∧ Same H H1 ∧ nmF (zs.take i) (zs.drop i) = nmF [] zs) hs ⟨⟨_, _, rfl⟩, Same.refl _, rfl⟩ (fun i σ H1 p => p.2.1) ?_ ?_
  · rintro i x T σ H1 H2 hx ⟨⟨u, v, rfl⟩, s1, hf⟩ hT s2 eT ho
    obtain ⟨z, hz, rfl⟩ := strs_at hx
    have s02 := s1.trans s2
    have hm : z ∈ zs := List.mem_of_getElem? hz
    have lt := (List.getElem?_eq_some_iff.mp hz).1
    have hd : zs.drop i = z :: zs.drop (i + 1) := by rw [List.drop_eq_getElem_cons lt, (List.getElem?_eq_some_iff.mp hz).2]
    rw [hd, nmF_cons] at hf
    refine i_gtup (SqT.of eT) rfl ?_
    walk_at "rd"
    refine i_isName (hlen z hm) fun H3 s3 => ?_
    walk_at "rd"
    have s03 := s02.trans s3
    cases hb : nameB z
    · rw [if_pos hb] at hf
      walk_at "rd"
      obtain ⟨rb, kx⟩ := kx false z hf.symm
      exact i_mkX1 (fun H' s => ⟨z, rfl, rb⟩) fun d H' hd s e' => kx d H' (s03.trans s) e'
    · rw [if_neg (by rw [hb]; decide)] at hf
      walk_at "rd"
      refine i_slTo (sameA s03 hs) (by rw [List.length_map]; exact lt) fun q H4 hq s4 e4 ho4 => ?_
      rw [← List.map_take] at e4
      refine i_inS e4 ?_
      walk_at "rd"
      have s04 := s03.trans s4
      refine i_dec (fun g => ?_) (fun g => ?_)
      · rw [if_pos g] at hf
        walk_at "rd"
        obtain ⟨rb, kx⟩ := kx true z hf.symm
        exact i_mkX1 (fun H' s => ⟨z, rfl, rb⟩) fun d H' hd s e' => kx d H' (s04.trans s) e'
      · rw [if_neg g] at hf
        walk_at "rd"
        exact ⟨⟨_, _, rfl⟩, s04, by rw [take_snoc hz]; exact hf⟩
  · rintro σ H1 ⟨⟨u, v, rfl⟩, s1, hf⟩
    rw [List.length_map, List.drop_length] at hf
    exact k hf.symm H1 s1
abbrev s_check_among : Stmt := top 19
theorem sc_check_among : FnScope ["known", "names", "name"] ["known", "names"] (defScope s_check_among) := ⟨rfl, rfl, rfl, by decide +kernel, rfl, by decide +kernel, by decide +kernel⟩
theorem ok_check_among {P : Program} {w : World} {K : PySem.W.Frag} {mg : Str → Option Value} {base : Heap} {CU : Addr} {f : Addr} {fd : FuncData} (F : L2.Fun K "check_among" "check_among" s_check_among f fd)
    (C_x_UnknownName : CalX P w K mg base "UnknownName" CU 1 ["self", "name"] (spX1 K CU "name" GStW)) :
    FnOk P w K mg base (L2.CX P w) 3 f fd ["known", "names"] (spAmW K CU) := by
  refine fnOk_mk F sc_check_among (fun vs H Q E h => h.1) (fun cdv A outer s H vs Q E hr h => ?_)
  obtain ⟨_, a, b, ks, zs, rfl, ha, hb, kx, k⟩ := h
  refine ⟨_, pss_one (ps_for (passes_of rfl) rfl (pi_any (K := K) rfl (pv 1)) (pg_name (i := 2) sc_check_among.nd rfl (Or.inl rfl)) (pss_one (ps_if (pt_cmpR (k_notInS (K := K) rfl) (pv 2) (pv 0) rfl) (pss_one (ps_raise rfl (takes_of rfl rfl rfl rfl) (z_mkX C_x_UnknownName hr (pa_cons (pv 2) pa_nil)))) (pss_nil)))), ?_⟩
  try dsimp only [cxOf]
  walk_at "rd"
  refine i_forA (fun i σ H1 => (∃ x, σ = [some (.ref a), some (.ref b), x]) ∧ Same H H1 ∧ ∀ z ∈ zs.take i, z ∈ ks) hb ⟨⟨_, rfl⟩, Same.refl _, fun z h => by simp at h⟩ (fun i σ H1 p => p.2.1) ?_ ?_
  · rintro i x σ H1 hx ⟨⟨u, rfl⟩, s1, hin⟩
    rw [List.getElem?_map] at hx
    obtain ⟨z, hz, rfl⟩ : ∃ z, zs[i]? = some z ∧ V.str z = x := by
      cases h : zs[i]? with
      | none => rw [h] at hx; cases hx
      | some z => rw [h] at hx; exact ⟨z, rfl, Option.some.inj hx⟩
    have tk : zs.take (i + 1) = zs.take i ++ [z] := by rw [List.take_add_one, hz]; rfl
    walk_at "rd"
    refine i_notInS (sameA s1 ha) ?_
    walk_at "rd"
    refine i_ndec (fun e => ?_) (fun e => ?_)
    · walk_at "rd"
      have hm : miss ks zs = some z := by
        unfold miss
        have ez : zs = zs.take i ++ z :: zs.drop (i + 1) := by
          have := (List.take_append_drop i zs).symm
          rw [List.drop_eq_getElem_cons (List.getElem?_eq_some_iff.mp hz).1, (List.getElem?_eq_some_iff.mp hz).2] at this
          exact this
        rw [ez, List.find?_append, List.find?_eq_none.mpr (fun x hx => by simp [hin x hx])]
        simp [e]
      obtain ⟨rb, kx⟩ := kx z hm
      exact i_mkX1 (fun H' s => ⟨z, rfl, rb⟩) fun d H' hd s e' => kx d H' (s1.trans s) e'
    · walk_at "rd"
      refine ⟨⟨_, rfl⟩, s1, fun w hw => ?_⟩
      rw [tk] at hw
      rcases List.mem_append.mp hw with hw | hw
      · exact hin w hw
      · rw [List.mem_singleton.mp hw]
        exact e
  · rintro σ H1 ⟨⟨u, rfl⟩, s1, hin⟩
    rw [List.length_map, List.take_length] at hin
    exact k (miss_none hin) H1 s1
abbrev s__closure : Stmt := top 41
theorem sc__closure : FnScope ["names", "pairs", "above", "name", "low", "high", "middle"] ["names", "pairs"] (defScope s__closure) := ⟨rfl, rfl, rfl, by decide +kernel, rfl, by decide +kernel, by decide +kernel⟩
theorem ok__closure {P : Program} {w : World} {K : PySem.W.Frag} {mg : Str → Option Value} {base : Heap} {f : Addr} {fd : FuncData} (F : L2.Fun K "_closure" "_closure" s__closure f fd)
    (C_b_sorted : mg "sorted" = none)
    (C_b_tuple : mg "tuple" = none) :
    FnOk P w K mg base (L2.CX P w) 1 f fd ["names", "pairs"] (spClosure K) := by
  refine fnOk_mk F sc__closure (fun vs H Q E h => h.1) (fun cdv A outer s H vs Q E hr h => ?_)
  obtain ⟨_, a, b, N, E', rfl, ha, ⟨ps, hb, hp⟩, hl, hN, hs, hE, k⟩ := h
  refine ⟨_, pss_cons (ps_set (i := 2) sc__closure.nd rfl (Or.inr rfl) (pe_dc (own := [("name", 3)]) (by rfl) sc__closure.nd (pi_any (K := K) rfl (pv 0)) (blkOk_by (N := ["names", "pairs", "above", "name", "low", "high", "middle"]) (sc := defScope s__closure) (by decide +kernel)) (fun _ _ _ _ _ => pg_name (i := 3) sc__closure.nd rfl (Or.inl rfl)) (fun _ _ _ _ _ => pts_nil) (fun _ _ _ _ _ => pv 3) (fun _ _ _ _ _ => pe_disp (pps_cons (pv 3) pe_bl pps_nil) (by rfl) (by rfl) (fun z => by cases z) (by decide))))
    (pss_cons (ps_for (passes_of rfl) rfl (pi_any (K := K) rfl (pv 1)) (k_tup (K := K) (n := 2) rfl rfl (pgs_cons (pg_name (i := 4) sc__closure.nd rfl (Or.inl rfl)) (pgs_cons (pg_name (i := 5) sc__closure.nd rfl (Or.inl rfl)) pgs_nil))) (pss_one (ps_dput (hu_of hr) (pe_dget (hu_of hr) (pv 2) (pv 4) (fun _ _ => rfl)) (pv 5) pe_bl (by rfl))))
    (pss_cons (ps_for (passes_of rfl) rfl (pi_any (K := K) rfl (pv 0)) (pg_name (i := 6) sc__closure.nd rfl (Or.inl rfl)) (pss_one (ps_for (passes_of rfl) rfl (pi_any (K := K) rfl (pv 0)) (pg_name (i := 3) sc__closure.nd rfl (Or.inl rfl)) (pss_one (ps_if (pt_cmp (pc_din (hu_of hr) (pv 6) (pe_dget (hu_of hr) (pv 2) (pv 3) (fun _ _ => rfl))) rfl) (pss_one (ps_dput (hu_of hr) (pv 2) (pv 3) (pe_merge2 (pe_dget (hu_of hr) (pv 2) (pv 3) (fun _ _ => rfl)) (pe_dget (hu_of hr) (pv 2) (pv 6) (fun _ _ => rfl))) (by rfl))) (pss_nil))))))
    (pss_one (ps_ret (pe_dc (own := [("name", 3)]) (by rfl) sc__closure.nd (pi_any (K := K) rfl (pv 0)) (blkOk_by (N := ["names", "pairs", "above", "name", "low", "high", "middle"]) (sc := defScope s__closure) (by decide +kernel)) (fun _ _ _ _ _ => pg_name (i := 3) sc__closure.nd rfl (Or.inl rfl)) (fun _ _ _ _ _ => pts_nil) (fun _ _ _ _ _ => pv 3) (fun _ _ _ _ _ => pe_callTy (k_tupA (K := K) rfl) (by rfl) C_b_tuple (by decide +kernel) (pa_cons (pe_callB (k_sortD rfl) (by rfl) C_b_sorted (by decide +kernel) (pa_cons (pe_dget (hu_of hr) (pv 2) (pv 3) (fun _ _ => rfl)) pa_nil)) pa_nil))))))), ?_⟩
  try dsimp only [cxOf]
  walk_at "rd"
  refine i_dcA (fun D i kvs H1 => ∃ A, CSt H D (N.take i) A (fun n => [n]) H1) ha (Same.refl _) ?_ (fun D i ys H1 ⟨A, c⟩ => c.same) ?_ ?_
  · intro D H' hD sm e ho
    exact ⟨fun _ => D, sm, hD, e, fun n hn => by simp at hn, fun n hn => by simp at hn, fun n hn => by simp at hn, fun n hn => by simp at hn, fun n hn => by simp at hn⟩
  · rintro i x D kvs H1 hD hx eD ⟨A, c⟩
    obtain ⟨n, hn, rfl⟩ := strs_at hx
    have lt := (List.getElem?_eq_some_iff.mp hn).1
    walk_at "rd"
    refine ⟨by with_unfolding_all rfl, ?_⟩
    walk_at "rd"
    refine i_disp1 (fun p H2 hp s2 e2 ho2 => ?_) (fun P P' f σ H ⟨v, e, q⟩ => ⟨v, e, f _ _ q⟩) (fun P P' f σ H q => f _ _ q)
    walk_at "rd"
    refine ⟨e2, n, rfl, fun H4 e4 ho4 => ?_⟩
    have ekv : kvs = rowsOf (N.take i) A := by
      have := c.tab.symm.trans eD
      injection this with this
      injection this with this
      exact this.symm
    subst ekv
    have pD : p ≠ D := fun z => by rw [z, eD] at hp; cases hp
    have eD4 : H4 D = some (.dK (rowsOf (N.take i) A)) := by rw [ho4 D (Ne.symm pD), ho2 D (Ne.symm pD)]; exact eD
    refine i_dcE eD4 ?_ fun H5 e5 ho5 => ?_
    · unfold rowsOf
      rw [List.length_map, List.length_take]
      omega
    · rw [take_snoc hn]
      refine ⟨setF A n p, c.snoc (p := p) (nodup_take hN hn) hp (by simp) (fun b hb => by rw [ho4 b hb, ho2 b hb]) e4 e5 ho5⟩
  · rintro D kvs H1 hD eD ⟨A, c⟩
    rw [List.length_map, List.take_length] at c
    walk_at "rd"
    -- the told pairs
    refine i_forA (fun i σ H2 => (∃ u v, σ = [some (.ref a), some (.ref b), some (.ref D), none, u, v, none]) ∧ ∃ A ks, CSt H D N A ks H2 ∧ ∀ n ∈ N, ∀ q, q ∈ ks n ↔ (n = q ∨ (n, q) ∈ E'.take i)) hb ⟨⟨_, _, rfl⟩, A, _, c, fun n hn q => by simp [eq_comm]⟩ (fun i σ H2 p => by obtain ⟨_, A, ks, c, _⟩ := p; exact c.same) ?_ ?_
    · rintro i x σ H2 hx ⟨⟨u, v, rfl⟩, A, ks, c, hk⟩
      have lt := (List.getElem?_eq_some_iff.mp hx).1
      rw [hp.1] at lt
      obtain ⟨q, rfl, eq⟩ := hp.2 i x E'[i] hx (by simp [lt])
      have hmem : E'[i] ∈ E' := List.getElem_mem lt
      obtain ⟨h1, h2⟩ := hE _ hmem
      have het : E'.take (i + 1) = E'.take i ++ [E'[i]] := take_snoc (by simp [lt])
      refine i_gtup (Same_seqT c.same eq) rfl ?_
      walk_at "rd"
      refine i_dget c.tab (rows_val h1) ?_
      walk_at "rd"
      refine i_dput (c.row _ h1) ?_ fun H3 e3 ho3 => ?_
      · rw [trues_len]
        have := nodup_len (N := N) (c.nd _ h1) fun r hr => by
          rcases (hk _ h1 r).mp hr with e | e
          · exact e ▸ h1
          · exact (hE _ (List.mem_of_mem_take e)).2
        omega
      refine ⟨⟨_, _, rfl⟩, A, _, c.put h1 e3 ho3, fun n hn r => ?_⟩
      rw [het, List.mem_append, List.mem_singleton]
      by_cases en : n = E'[i].1
      · subst en
        rw [setF_same, mem_put, hk _ h1 r]
        constructor
        · rintro ((q | q) | q)
          · exact .inl q
          · exact .inr (.inl q)
          · exact .inr (.inr (by rw [q]))
        · rintro (q | q | q)
          · exact .inl (.inl q)
          · exact .inl (.inr q)
          · exact .inr (congrArg Prod.snd q)
      · rw [setF_ne en, hk n hn r]
        constructor
        · rintro (q | q)
          · exact .inl q
          · exact .inr (.inl q)
        · rintro (q | q | q)
          · exact .inl q
          · exact .inr q
          · exact absurd (congrArg Prod.fst q) en
    · rintro σ H2 ⟨⟨u, v, rfl⟩, A, ks, c, hk⟩
      walk_at "rd"
      rw [hp.1, List.take_length] at hk
      -- Warshall's turns
      refine i_forA (fun i σ H3 => (∃ x u v y, σ = [some (.ref a), some (.ref b), some (.ref D), x, u, v, y]) ∧ ∃ A ks, CSt H D N A ks H3 ∧ ∀ n ∈ N, ∀ q, q ∈ ks n ↔ OM.wm E' (N.take i).reverse n q = true) ha
        ⟨⟨_, _, _, _, rfl⟩, A, ks, c, fun n hn q => by rw [hk n hn q, List.take_zero]; simp [OM.wm]⟩ (fun i σ H3 p => by obtain ⟨_, A, ks, c, _⟩ := p; exact c.same) ?_ ?_
      · rintro i x σ H3 hx ⟨⟨x0, u0, v0, y0, rfl⟩, A, ks, c, hk⟩
        obtain ⟨m, hm, rfl⟩ := strs_at hx
        have hmN : m ∈ N := List.mem_of_getElem? hm
        walk_at "rd"
        refine i_forA (fun j σ H4 => (∃ x u v, σ = [some (.ref a), some (.ref b), some (.ref D), x, u, v, some (.str m)]) ∧ ∃ A ks, CSt H D N A ks H4 ∧ ∀ n ∈ N, ∀ q, q ∈ ks n ↔ OM.wm E' (if n ∈ N.take j then m :: (N.take i).reverse else (N.take i).reverse) n q = true) ha
          ⟨⟨_, _, _, rfl⟩, A, ks, c, fun n hn q => by rw [hk n hn q, List.take_zero]; simp⟩ (fun i σ H4 p => by obtain ⟨_, A, ks, c, _⟩ := p; exact c.same) ?_ ?_
        · rintro j x σ H4 hx ⟨⟨x1, u1, v1, rfl⟩, A, ks, c, hk⟩
          obtain ⟨n, hn, rfl⟩ := strs_at hx
          have hnN : n ∈ N := List.mem_of_getElem? hn
          have hnt := nodup_take hN hn
          have hkn : ∀ q, q ∈ ks n ↔ OM.wm E' (N.take i).reverse n q = true := fun q => by
            have := hk n hnN q
            rw [if_neg hnt] at this
            exact this
          have hkm : ∀ q, q ∈ ks m ↔ OM.wm E' (N.take i).reverse m q = true := fun q => by
            have := hk m hmN q
            split at this
            · rw [wm_self] at this
              exact this
            · exact this
          have sub : ∀ w ∈ N, ∀ q ∈ ks w, q ∈ N := fun w hw q hq => by
            have := OM.wm_rch ((hk w hw q).mp hq)
            rcases this.mem hE with e | ⟨_, e⟩
            · exact e ▸ hw
            · exact e
          have len : ∀ w ∈ N, (trues (ks w)).length ≤ 1000 := fun w hw => by
            rw [trues_len]
            have := nodup_len (c.nd w hw) (sub w hw)
            omega
          walk_at "rd"
          refine i_dget c.tab (rows_val hnN) ?_
          walk_at "rd"
          refine i_din (c.row n hnN) trues_get ?_
          walk_at "rd"
          refine i_dec (fun e => ?_) (fun e => ?_)
          · walk_at "rd"
            refine i_mg0 fun p H5 hp5 s5 e5 ho5 => ?_
            have c5 : CSt H D N A ks H5 := c.keep fun b hb => ho5 b fun z => hb (z ▸ hp5)
            have pA : ∀ w ∈ N, p ≠ A w := fun w hw z => by rw [z, c.row w hw] at hp5; cases hp5
            have pD : p ≠ D := fun z => by rw [z, c.tab] at hp5; cases hp5
            walk_at "rd"
            refine i_dget c5.tab (rows_val hnN) ?_
            refine i_mg1 (pA n hnN) (c5.row n hnN) e5 (len n hnN) fun H6 e6 ho6 => ?_
            have e6' : H6 p = some (.dK (trues (mk [] (ks n)))) := by
              rw [e6, ← trues_merge]
              rfl
            have r6 : ∀ w ∈ N, H6 (A w) = some (.dK (trues (ks w))) := fun w hw => by
              rw [ho6 _ (Ne.symm (pA w hw))]
              exact c5.row w hw
            have t6 : H6 D = some (.dK (rowsOf N A)) := by
              rw [ho6 _ (Ne.symm pD)]
              exact c5.tab
            walk_at "rd"
            refine i_dget t6 (rows_val hmN) ?_
            refine i_mg2 (pA m hmN) (r6 m hmN) e6 (len m hmN) fun H7 e7 ho7 => ?_
            have e7' : H7 p = some (.dK (trues (mk (mk [] (ks n)) (ks m)))) := by
              rw [e7, ← trues_merge, ← trues_merge]
              rfl
            have t7 : H7 D = some (.dK (rowsOf N A)) := by
              rw [ho7 _ (Ne.symm pD)]
              exact t6
            walk_at "rd"
            refine i_dput t7 (by rw [rows_len]; omega) fun H8 e8 ho8 => ?_
            refine ⟨⟨_, _, _, rfl⟩, _, _, c.set hnN hp5 (mk_nodup _ (mk_nodup _ List.nodup_nil)) (fun b hb => by rw [ho7 b hb, ho6 b hb, ho5 b hb]) e7' e8 ho8, fun w hw q => ?_⟩
            rw [take_snoc hn]
            by_cases ew : w = n
            · subst ew
              rw [setF_same, mem_mk, mem_mk, hkn q, hkm q, if_pos (by simp)]
              have h1 := (hkn m).mp e
              simp [OM.wm, h1]
            · rw [setF_ne ew, hk w hw q]
              simp [ew]
          · walk_at "rd"
            refine ⟨⟨_, _, _, rfl⟩, A, ks, c, fun w hw q => ?_⟩
            rw [take_snoc hn]
            by_cases ew : w = n
            · subst ew
              rw [hkn q, if_pos (by simp)]
              have h1 : OM.wm E' (N.take i).reverse w m = false := by
                cases z : OM.wm E' (N.take i).reverse w m with
                | false => rfl
                | true => exact absurd ((hkn m).mpr z) e
              simp [OM.wm, h1]
            · rw [hk w hw q]
              simp [ew]
        · rintro σ H4 ⟨⟨x1, u1, v1, rfl⟩, A, ks, c, hk⟩
          rw [List.length_map, List.take_length] at hk
          walk_at "rd"
          refine ⟨⟨_, _, _, _, rfl⟩, A, ks, c, fun n hn q => ?_⟩
          have := hk n hn q
          rw [if_pos hn] at this
          rw [this, take_snoc hm, List.reverse_append]
          rfl
      · rintro σ H3 ⟨⟨x0, u0, v0, y0, rfl⟩, A, ks, c, hk⟩
        rw [List.length_map, List.take_length, OM.wm_cl (fun p hp => List.mem_reverse.mpr (hE p hp).2)] at hk
        have mem : ∀ n ∈ N, ∀ q, q ∈ ks n ↔ q ∈ N ∧ OM.cl E' n q = true := fun n hn q => by
          rw [hk n hn q]
          refine ⟨fun z => ⟨?_, z⟩, fun z => z.2⟩
          rcases (OM.cl_iff.mp z).mem hE with e | ⟨_, e⟩
          · exact e ▸ hn
          · exact e
        walk_at "rd"
        refine i_dcA (fun D2 i kvs H4 => Same H3 H4 ∧ ∃ A2, kvs = rowsOf (N.take i) A2 ∧ ∀ n ∈ N.take i, H4 (A2 n) = some (.tup ((OM.ab N (OM.cl E') n).map V.str))) ha c.same ?_ (fun D i ys H4 p => c.same.trans p.1) ?_ ?_
        · intro D2 H4 hD2 s4 e4 ho4
          exact ⟨s4, fun _ => D2, rfl, fun n hn => by simp at hn⟩
        · rintro i x D2 kvs H4 hD2 hx eD2 ⟨s4, A2, rfl, h2⟩
          obtain ⟨n, hn, rfl⟩ := strs_at hx
          have hnN : n ∈ N := List.mem_of_getElem? hn
          have lt := (List.getElem?_eq_some_iff.mp hn).1
          walk_at "rd"
          refine ⟨by with_unfolding_all rfl, ?_⟩
          walk_at "rd"
          refine i_dget (s4 _ _ c.tab) (rows_val hnN) ?_
          walk_at "rd"
          refine i_sortD (s4 _ _ (c.row n hnN)) trues_keys ?_ fun q H5 hq s5 ho5 e5 => ?_
          · have := nodup_len (c.nd n hnN) fun r hr => ((mem n hnN r).mp hr).1
            omega
          walk_at "rd"
          refine i_tupL (SqL.of e5) fun t H6 ht s6 e6 ho6 => ?_
          have eD6 : H6 D2 = some (.dK (rowsOf (N.take i) A2)) := s6 _ _ (s5 _ _ eD2)
          refine i_dcE eD6 (by rw [rows_len, List.length_take]; omega) fun H7 e7 ho7 => ⟨?_, setF A2 n t, ?_, fun w hw => ?_⟩
          · intro b o eb
            rw [ho7 b (ne_of_none eb hD2)]
            exact s6 _ _ (s5 _ _ (s4 _ _ eb))
          · rw [rows_snoc (nodup_take hN hn), take_snoc hn]
          · have tup : ∀ (c : Addr) (ys : List V), H6 c = some (.tup ys) → H7 c = some (.tup ys) := fun c ys hc => by
              rw [ho7 c (ne_of hc eD6 (fun z => nomatch z))]
              exact hc
            by_cases ew : w = n
            · subst ew
              rw [setF_same, tup _ _ e6]
              rw [srt_filter (p := OM.cl E' w) hN hs (c.nd w hnN) (mem w hnN)]
              rfl
            · rw [setF_ne ew]
              refine tup _ _ (s6 _ _ (s5 _ _ (h2 w ?_)))
              rw [take_snoc hn] at hw
              rcases List.mem_append.mp hw with h | h
              · exact h
              · exact absurd (List.mem_singleton.mp h) ew
        · rintro D2 kvs H4 hD2 eD2 ⟨s4, A2, rfl, h2⟩
          rw [List.length_map, List.take_length] at eD2 h2
          walk_at "rd"
          refine k D2 H4 ?_ (c.same.trans s4) ⟨A2, eD2, h2⟩
          cases z : H D2 with
          | none => rfl
          | some o => rw [c.same _ _ z] at hD2; cases hD2
section
variable {K : PySem.W.Frag} {CO a t d : Addr} {H : Hp} {N : List Str} {R : Str → Str → Bool}
theorem rf_names {t d : Addr} : List.lookup ("names" : Str) ([("names", V.ref t), ("_above", V.ref d)] : List (Str × V)) = some (V.ref t) := by simp [List.lookup]
theorem rf_above {t d : Addr} : List.lookup ("_above" : Str) ([("names", V.ref t), ("_above", V.ref d)] : List (Str × V)) = some (V.ref d) := by
  have : (("_above" : Str) == ("names" : Str)) = false := by decide +kernel
  simp [List.lookup, this]
theorem ro_no {m : Str} {t d : Addr} (h1 : (m == ("names" : Str)) = false) (h2 : (m == ("_above" : Str)) = false) : List.lookup m ([("names", V.ref t), ("_above", V.ref d)] : List (Str × V)) = none := by simp [List.lookup, h1, h2]
end
theorem ab_len {N : List Str} {R : Str → Str → Bool} {n : Str} : (OM.ab N R n).length ≤ N.length := List.length_filter_le _ _
def PF (N : List Str) (R : Str → Str → Bool) (L : List Str) : List (Str × Str) := L.flatMap fun a => ((OM.ab N R a).filter fun b => !decide (a = b)).map fun b => (a, b)
theorem PF_len {N : List Str} {R : Str → Str → Bool} : ∀ L : List Str, (PF N R L).length ≤ L.length * N.length
  | [] => Nat.zero_le _
  | a :: L => by
    have ih := PF_len (N := N) (R := R) L
    unfold PF at ih ⊢
    rw [List.flatMap_cons, List.length_append, List.length_map, List.length_cons, Nat.succ_mul]
    have h1 : ((OM.ab N R a).filter fun b => !decide (a = b)).length ≤ N.length := Nat.le_trans (List.length_filter_le _ _) (List.length_filter_le _ _)
    omega
abbrev s_Order_pairs : Stmt := inClass (top 43) 5
theorem sc_Order_pairs : FnScope ["self", "low", "high"] ["self"] (defScope s_Order_pairs) := ⟨rfl, rfl, rfl, by decide +kernel, rfl, by decide +kernel, by decide +kernel⟩
theorem ok_Order_pairs {P : Program} {w : World} {K : PySem.W.Frag} {mg : Str → Option Value} {base : Heap} {CO : Addr} {f : Addr} {fd : FuncData} (F : L2.Fun K "pairs" "Order.pairs" s_Order_pairs f fd)
    (C_c_Order : ClO K CO)
    (C_na_Order__above : NoAttr K CO "_above")
    (C_na_Order_names : NoAttr K CO "names") :
    FnOk P w K mg base (L2.CX P w) 1 f fd ["self"] (spPairs CO) := by
  refine fnOk_mk F sc_Order_pairs (fun vs H Q E h => h.1) (fun cdv A outer s H vs Q E hr h => ?_)
  obtain ⟨_, a, N, R, rfl, ho, k⟩ := h
  obtain ⟨dx, t, d, e1, e2, ⟨A', e3, e4⟩, hl, hN, hnl⟩ := ho
  refine ⟨_, pss_one (ps_ret (pe_lc2 (own := [("low", 1), ("high", 2)]) (vs1 := [2]) (by rfl) sc_Order_pairs.nd (pi_any (K := K) rfl (pe_fld (pv 0) rfl)) (blkOk_by (N := ["self", "low", "high"]) (sc := defScope s_Order_pairs) (by decide +kernel)) (by decide) (fun _ _ _ _ _ => pg_name (i := 1) sc_Order_pairs.nd rfl (Or.inl rfl)) (fun _ _ _ _ _ => pts_nil) (fun _ _ _ _ _ => pi_any (K := K) rfl (pe_dget (hu_of hr) (k_fld (K := K) rfl (pv 0) rfl) (pv 1) (fun _ _ => rfl))) (fun _ _ _ _ _ => pg_name (i := 2) sc_Order_pairs.nd rfl (Or.inl rfl)) (fun _ _ _ _ _ => pts_one (pt_cmpR op_ne (pv 1) (pv 2) (nomark _))) (fun _ _ _ _ _ => pe_tup (pa_cons (pv 1) (pa_cons (pv 2) pa_nil))))), ?_⟩
  try dsimp only [cxOf]
  walk_at "rd"
  refine i_fld1 e1 C_c_Order.toCls C_na_Order_names rf_names ?_
  refine i_lc2A (H0 := H) (fun i ys H1 => Same H H1 ∧ ∃ qs, ys = qs.map V.ref ∧ TPr H1 qs (PF N R (N.take i))) (SqA.t e2) (Same.refl _) ?_ ?_ ?_ ?_
  · intro D H' hD sm e ho
    exact ⟨sm, [], rfl, .nil⟩
  · exact fun i ys H1 p => p.1
  · rintro i x D ys H1 hD hx eD ⟨s1, qs, rfl, hq⟩
    obtain ⟨n, hn, rfl⟩ := strs_at hx
    have hnN : n ∈ N := List.mem_of_getElem? hn
    walk_at "rd"
    refine ⟨by with_unfolding_all rfl, ?_⟩
    walk_at "rd"
    refine i_fld1 (s1 _ _ e1) C_c_Order.toCls C_na_Order__above rf_above ?_
    walk_at "rd"
    refine i_dget (s1 _ _ e3) (rows_val hnN) ?_
    refine i_lcIn (H0 := H) (Pw := fun j ys H2 => Same H H2 ∧ ∃ qs, ys = qs.map V.ref ∧ TPr H2 qs (PF N R (N.take i) ++ (((OM.ab N R n).take j).filter fun b => !decide (n = b)).map fun b => (n, b))) (SqA.t (e4 n hnN)) eD ?_ ?_ ?_ ?_
    · exact ⟨s1, qs, rfl, by simpa using hq⟩
    · exact fun j ys H2 p => p.1
    · rintro j x ys H2 hx eD2 ⟨s2, qs2, rfl, hq2⟩
      obtain ⟨m, hm, rfl⟩ := strs_at hx
      walk_at "rd"
      refine ⟨by with_unfolding_all rfl, ?_⟩
      walk_at "rd"
      refine i_ndec (fun e => ?_) (fun e => ?_)
      · walk_at "rd"
        refine i_tup1 (by show 2 ≤ 100000; decide) fun q H3 hq3 s3 e3' ho3 => ?_
        refine i_lcE (s3 _ _ eD2) ?_ fun H4 e4' ho4 => ⟨?_, qs2 ++ [q], by rw [List.map_append]; rfl, ?_⟩
        · have h1 := hq2.1
          rw [List.length_append, List.length_map] at h1
          have h2 := PF_len (N := N) (R := R) (N.take i)
          have h3 : ((List.take j (OM.ab N R n)).filter fun b => !decide (n = b)).length ≤ N.length := Nat.le_trans (List.length_filter_le _ _) (Nat.le_trans (by rw [List.length_take]; omega) (ab_len (N := N) (R := R) (n := n)))
          have h4 : (N.take i).length * N.length ≤ 8 * 8 := Nat.mul_le_mul (by rw [List.length_take]; omega) hl
          rw [List.length_map]
          omega
        · intro b o eb
          rw [ho4 b (ne_of_none eb hD)]
          exact s3 _ _ (s2 _ _ eb)
        · have := ((hq2.mono s3).snoc e3').keep (lst_keep (s3 _ _ eD2) ho4)
          rw [take_snoc hm, List.filter_append, List.map_append, ← List.append_assoc]
          simpa [e] using this
      · walk_at "rd"
        refine ⟨_, eD2, s2, qs2, rfl, ?_⟩
        rw [take_snoc hm, List.filter_append, List.map_append, ← List.append_assoc]
        simpa [e] using hq2
    · rintro ys H2 eD2 ⟨s2, qs2, rfl, hq2⟩
      refine ⟨s2, qs2, rfl, ?_⟩
      rw [List.length_map, List.take_length] at hq2
      rw [take_snoc hn]
      unfold PF at hq2 ⊢
      rw [List.flatMap_append]
      simpa using hq2
  · rintro D ys H1 hD eD ⟨s1, qs, rfl, hq⟩
    rw [List.length_map, List.take_length] at hq
    exact k D H1 hD s1 ⟨qs, eD, hq⟩
theorem prs_len {N : List Str} {R : Str → Str → Bool} : (OM.prs N R).length ≤ N.length * N.length := PF_len (N := N) (R := R) N
abbrev s_Order___len__ : Stmt := inClass (top 43) 13
theorem sc_Order___len__ : FnScope ["self"] ["self"] (defScope s_Order___len__) := ⟨rfl, rfl, rfl, by decide +kernel, rfl, by decide +kernel, by decide +kernel⟩
theorem ok_Order___len__ {P : Program} {w : World} {K : PySem.W.Frag} {mg : Str → Option Value} {base : Heap} {CO : Addr} {f : Addr} {fd : FuncData} (F : L2.Fun K "__len__" "Order.__len__" s_Order___len__ f fd)
    (C_b_len : mg "len" = none)
    (C_c_Order : ClO K CO)
    (C_na_Order__above : NoAttr K CO "_above")
    (C_na_Order_names : NoAttr K CO "names") :
    FnOk P w K mg base (L2.CX P w) 1 f fd ["self"] (spOLen CO) := by
  refine fnOk_mk F sc_Order___len__ (fun vs H Q E h => h.1) (fun cdv A outer s H vs Q E hr h => ?_)
  obtain ⟨_, a, N, R, rfl, ho, k⟩ := h
  obtain ⟨dx, t, d, e1, e2, ⟨A', e3, e4⟩, hl, hN, hnl⟩ := ho
  refine ⟨_, pss_one (ps_ret (pe_callB (k_len (K := K) rfl) (by rfl) C_b_len (by decide +kernel) (pa_cons (pe_fld (pv 0) rfl) pa_nil))), ?_⟩
  try dsimp only [cxOf]
  walk_at "rd"
  refine i_fld1 e1 C_c_Order.toCls C_na_Order_names rf_names ?_
  walk_at "rd"
  refine i_lenA (SqA.t e2) ?_
  rw [List.length_map]
  exact k H (Same.refl _)
theorem eqv_tupS (zs ws : List Str) : PyData.eqv (.tuple (zs.map PyData.str)) (.tuple (ws.map PyData.str)) = decide (zs = ws) := by
  show PyData.eqvAll _ _ = _
  exact eqv_strs zs ws
theorem shaped_tupS {zs : List Str} (h : ∀ z ∈ zs, nameB z = true) : SeqAt.shaped (.tuple (zs.map PyData.str)) = true := by
  unfold SeqAt.shaped
  have d : ∀ zs : List Str, PyData.depthAll (zs.map PyData.str) ≤ 1 := by
    intro zs
    induction zs with
    | nil => decide
    | cons n ns ih => simp [PyData.depthAll, PyData.depth] at *; omega
  have l : ∀ zs : List Str, (∀ z ∈ zs, nameB z = true) → PyData.canLayAll0 (zs.map PyData.str) = true := by
    intro zs
    induction zs with
    | nil => intro _; rfl
    | cons n ns ih =>
      intro hs
      have ih2 := ih fun z hz => hs z (List.mem_cons_of_mem _ hz)
      have h1 : PyData.strOk n = true := nameB_ok (hs n List.mem_cons_self)
      simp [PyData.canLayAll0, PyData.canLay0] at *
      exact ⟨h1, ih2⟩
  have := d zs
  have := l zs h
  simp [PyData.depth, PyData.canLay0] at *
  exact ⟨by assumption, by omega⟩
/-- the other objects stand -/
def But (a : Addr) (H H' : Hp) : Prop := ∀ x o, x ≠ a → H x = some o → H' x = some o
def IsIns (H : Hp) (a : Addr) : Prop := ∃ C dx fs, H a = some (.ins C dx fs)
theorem seqA_ne {K : PySem.W.Frag} {H H' : Hp} {a b : Addr} {xs : List V} (i : IsIns H a) (t : But a H H') (h : SqA K H b xs) : SqA K H' b xs := by
  obtain ⟨C, dx, fs, e⟩ := i
  rcases h with ((h | ⟨o, h⟩) | h) | ((h | ⟨o, h⟩) | h)
  · exact .inl (.inl (.inl (t _ _ (fun z => by rw [z, e] at h; cases h) h)))
  · exact .inl (.inl (.inr ⟨o, t _ _ (fun z => by rw [z, e] at h; cases h) h⟩))
  · exact .inl (.inr h)
  · exact .inr (.inl (.inl (t _ _ (fun z => by rw [z, e] at h; cases h) h)))
  · exact .inr (.inl (.inr ⟨o, t _ _ (fun z => by rw [z, e] at h; cases h) h⟩))
  · exact .inr (.inr h)
theorem seqT_ne {K : PySem.W.Frag} {H H' : Hp} {a b : Addr} {xs : List V} (i : IsIns H a) (t : But a H H') (h : SqT K H b xs) : SqT K H' b xs := by
  obtain ⟨C, dx, fs, e⟩ := i
  rcases h with (h | ⟨o, h⟩) | h
  · exact .inl (.inl (t _ _ (fun z => by rw [z, e] at h; cases h) h))
  · exact .inl (.inr ⟨o, t _ _ (fun z => by rw [z, e] at h; cases h) h⟩)
  · exact .inr h
def dPr (E : List (Str × Str)) : List PyData := E.map fun e => .tuple [.str e.1, .str e.2]
theorem TPr.dp {K : PySem.W.Frag} {H : Hp} : ∀ {qs : List Addr} {E : List (Str × Str)}, TPr H qs E → DpAll K H (qs.map V.ref) (dPr E)
  | [], [], _ => .nil
  | [], _ :: _, h => by have := h.1; simp at this
  | _ :: _, [], h => by have := h.1; simp at this
  | q :: qs, e :: E, h => .cons (.tup (.of (h.2 0 q e rfl rfl)) (.cons (.str _) (.cons (.str _) .nil))) (TPr.dp (E := E) ⟨by have := h.1; simpa using this, fun i q' e' a b => h.2 (i + 1) q' e' (by simpa using a) (by simpa using b)⟩)
theorem shaped_pr {E : List (Str × Str)} (h : ∀ e ∈ E, nameB e.1 = true ∧ nameB e.2 = true) : SeqAt.shaped (.list (dPr E)) = true := by
  unfold SeqAt.shaped
  have d : ∀ E : List (Str × Str), PyData.depthAll (dPr E) ≤ 2 := by
    intro E
    induction E with
    | nil => decide
    | cons n ns ih => unfold dPr at *; simp [PyData.depthAll, PyData.depth] at *; omega
  have l : ∀ E : List (Str × Str), (∀ e ∈ E, nameB e.1 = true ∧ nameB e.2 = true) → PyData.canLayAll0 (dPr E) = true := by
    intro E
    induction E with
    | nil => intro _; rfl
    | cons n ns ih =>
      intro hs
      have ih2 := ih fun z hz => hs z (List.mem_cons_of_mem _ hz)
      have h1 : PyData.strOk n.1 = true := nameB_ok (hs n List.mem_cons_self).1
      have h2 : PyData.strOk n.2 = true := nameB_ok (hs n List.mem_cons_self).2
      unfold dPr at *
      simp [PyData.canLayAll0, PyData.canLay0] at *
      exact ⟨⟨h1, h2⟩, ih2⟩
  have := d E
  have := l E h
  simp [PyData.depth, PyData.canLay0] at *
  exact ⟨by assumption, by omega⟩
theorem eqv_pr (a b c d : Str) : PyData.eqv (.tuple [.str a, .str b]) (.tuple [.str c, .str d]) = decide ((a, b) = (c, d)) := by
  have := eqv_tupS [a, b] [c, d]
  simpa using this
theorem any_pr {E : List (Str × Str)} {x y : Str} : ((dPr E).any fun z => PyData.eqv z (.tuple [.str x, .str y])) = decide ((x, y) ∈ E) := by
  unfold dPr
  rw [List.any_map, Bool.eq_iff_iff, List.any_eq_true, decide_eq_true_eq]
  constructor
  · rintro ⟨e, he, h⟩
    rw [Function.comp_apply, eqv_pr, decide_eq_true_eq] at h
    exact h ▸ he
  · intro h
    exact ⟨(x, y), h, by rw [Function.comp_apply, eqv_pr, decide_eq_true_eq]⟩
theorem i_inPr {K : PySem.W.Frag} {H : Hp} {Q : VK} {p q : Addr} {qs : List Addr} {E : List (Str × Str)} {x y : Str} (hq : H q = some (.tup [.str x, .str y])) (hp : H p = some (.lst (qs.map V.ref))) (ht : TPr H qs E) (hE : ∀ e ∈ E, nameB e.1 = true ∧ nameB e.2 = true) (hx : nameB x = true) (hy : nameB y = true)
    (h : Q (.bl (decide ((x, y) ∈ E))) H) : rInD K (.ref q) (.ref p) H Q := by
  refine ⟨.tuple [.str x, .str y], dPr E, .tup (.of hq) (.cons (.str _) (.cons (.str _) .nil)), .lst (.of hp) ht.dp, ?_, shaped_pr hE, ?_⟩
  · refine shaped_tupS (zs := [x, y]) ?_
    intro z hz
    rcases List.mem_cons.mp hz with rfl | hz
    · exact hx
    · rw [List.mem_singleton.mp hz]
      exact hy
  · rw [any_pr]
    exact h
theorem op1 (t : V) : putF ("names" : Str) t [] = [(("names" : Str), t)] := rfl
theorem op2 (t d : V) : putF ("_above" : Str) d [(("names" : Str), t)] = [(("names" : Str), t), (("_above" : Str), d)] := by
  show (if ("names" : Str) = "_above" then _ else (("names" : Str), t) :: putF "_above" d []) = _
  rw [if_neg (by decide +kernel)]
  rfl
theorem rf_names1 {t : Addr} : List.lookup ("names" : Str) ([("names", V.ref t)] : List (Str × V)) = some (V.ref t) := by simp [List.lookup]
theorem prs_names {N : List Str} {R : Str → Str → Bool} (hN : ∀ n ∈ N, nameB n = true) : ∀ e ∈ OM.prs N R, nameB e.1 = true ∧ nameB e.2 = true := by
  rintro ⟨x, y⟩ he
  obtain ⟨hx, hy, _, _⟩ := OM.mem_prs.mp he
  exact ⟨hN x hx, hN y hy⟩

/-- the first strange name of pairs -/
def missE (ks : List Str) (E : List (Str × Str)) : Option Str := (E.flatMap fun e => [e.1, e.2]).find? fun z => !decide (z ∈ ks)
/-- the names that would be below each other -/
def fR (N : List Str) (R : Str → Str → Bool) (n : Str) : Bool := (OM.ab N R n).any fun m => decide ((m, n) ∈ OM.prs N R)
def rings (N : List Str) (R : Str → Str → Bool) : List Str := N.filter (fR N R)
def spOInitG (K : PySem.W.Frag) (CO CB CN CD CU CG : Addr) : Sp := fun vs H Q E' => vs.length = 3 ∧ ∃ (a b c : Addr) (zs : List Str) (E : List (Str × Str)), vs = [.ref a, .ref b, .ref c] ∧ (∃ dx, H a = some (.ins CO dx [])) ∧ SqA K H b (zs.map V.str) ∧ PrA K H c E ∧
  zs.length ≤ 30000 ∧ (∀ z ∈ zs, z.length ≤ 100000) ∧ E.length ≤ 30000 ∧
  (¬ (1 ≤ zs.length ∧ zs.length ≤ 8) → ∀ d H', But a H H' → H' d = some (.xd [("n", .int (zs.length : Nat))]) → E' (.ref CB) (some d) H') ∧
  ((1 ≤ zs.length ∧ zs.length ≤ 8) → (∀ b z, nmF [] zs = some (b, z) → RW z ∧ ∀ d H', But a H H' → H' d = some (.xd [("name", .str z)]) → E' (.ref (if b then CD else CN)) (some d) H') ∧
    (nmF [] zs = none → (∀ z, missE zs E = some z → RW z ∧ ∀ d H', But a H H' → H' d = some (.xd [("name", .str z)]) → E' (.ref CU) (some d) H') ∧
      (missE zs E = none → (rings (srt zs) (OM.cl E) ≠ [] → ∀ d q H', But a H H' → H' d = some (.xd [("names", .ref q)]) → H' q = some (.lst ((rings (srt zs) (OM.cl E)).map V.str)) → E' (.ref CG) (some d) H') ∧
        (rings (srt zs) (OM.cl E) = [] → ∀ H', IsO CO H' a (srt zs) (OM.cl E) → But a H H' → Q .non H'))))
theorem missE_at {ks : List Str} {E : List (Str × Str)} {i : Nat} {e : Str × Str} (hi : E[i]? = some e) (h : ∀ p ∈ E.take i, p.1 ∈ ks ∧ p.2 ∈ ks) {z : Str} (hz : miss ks [e.1, e.2] = some z) : missE ks E = some z := by
  have lt := (List.getElem?_eq_some_iff.mp hi).1
  have ee : E = E.take i ++ e :: E.drop (i + 1) := by
    have := (List.take_append_drop i E).symm
    rw [List.drop_eq_getElem_cons lt, (List.getElem?_eq_some_iff.mp hi).2] at this
    exact this
  unfold missE
  rw [ee, List.flatMap_append, List.flatMap_cons, List.find?_append, List.find?_append]
  have n1 : ((E.take i).flatMap fun e => [e.1, e.2]).find? (fun z => !decide (z ∈ ks)) = none := by
    rw [List.find?_eq_none]
    intro x hx
    obtain ⟨p, hp, hx⟩ := List.mem_flatMap.mp hx
    obtain ⟨h1, h2⟩ := h p hp
    simp at hx
    rcases hx with rfl | rfl
    · simp [h1]
    · simp [h2]
  rw [n1]
  unfold miss at hz
  rw [hz]
  rfl
abbrev s_Order___init__ : Stmt := inClass (top 43) 0
theorem sc_Order___init__ : FnScope ["self", "names", "pairs", "pair", "joined", "ringed", "low", "high"] ["self", "names", "pairs"] (defScope s_Order___init__) := ⟨rfl, rfl, rfl, by decide +kernel, rfl, by decide +kernel, by decide +kernel⟩
theorem ok_Order___init__ {P : Program} {w : World} {K : PySem.W.Frag} {mg : Str → Option Value} {base : Heap} {CB CD CG CN CO CR CU : Addr} {tk_MOST_NAMES : Tok} {f : Addr} {fd : FuncData} (F : L2.Fun K "__init__" "Order.__init__" s_Order___init__ f fd)
    (C_b_any : mg "any" = none)
    (C_b_len : mg "len" = none)
    (C_b_sorted : mg "sorted" = none)
    (C_b_tuple : mg "tuple" = none)
    (C_c_Order : ClO K CO)
    (C_f_check_among : Cal P w K mg base "check_among" 3 (spAmW K CU))
    (C_f_check_names : Cal P w K mg base "check_names" 3 (spCheckG K CN CD))
    (C_f_closure : Cal P w K mg base "_closure" 1 (spClosure K))
    (C_m_Order_pairs : CalM P w K mg base CO "pairs" 1 (spPairs CO))
    (C_n_MOST_NAMES : mg "MOST_NAMES" = some (.int 8 tk_MOST_NAMES))
    (C_na_Order__above : NoAttr K CO "_above")
    (C_na_Order_names : NoAttr K CO "names")
    (C_x_BadNumber : CalX P w K mg base "BadNumber" CB 6 ["self", "n"] (spX1 K CB "n" (GNum CR)))
    (C_x_Ring : CalX P w K mg base "Ring" CG 1 ["self", "names"] (spXR K CG)) :
    FnOk P w K mg base (L2.CX P w) 8 f fd ["self", "names", "pairs"] (spOInitG K CO CB CN CD CU CG) := by
  refine fnOk_mk F sc_Order___init__ (fun vs H Q E h => h.1) (fun cdv A outer s H vs Q E hr h => ?_)
  obtain ⟨_, a, b, c, zs, E', rfl, ⟨dx, ha⟩, hb, ⟨ps, hc, hp⟩, h60, hlen, hlE, kB, kN⟩ := h
  refine ⟨_, pss_cons (ps_if (pt_not (pt_chain op_le op_le pe_int (pe_callB (k_len (K := K) rfl) (by rfl) C_b_len (by decide +kernel) (pa_cons (pv 1) pa_nil)) ((pe_glob (v := .int 8) rfl C_n_MOST_NAMES ⟨_, rfl⟩)))) (pss_one (ps_raise rfl (takes_of rfl rfl rfl rfl) (z_mkX C_x_BadNumber hr (pa_cons (pe_callB (k_len (K := K) rfl) (by rfl) C_b_len (by decide +kernel) (pa_cons (pv 1) pa_nil)) pa_nil)))) (pss_nil))
    (pss_cons (ps_expr (z_callC C_f_check_names hr (fun σ => passAt (takes_of rfl rfl rfl rfl) σ) (pa_cons (pv 1) pa_nil)))
    (pss_cons (ps_for (passes_of rfl) rfl (pi_any (K := K) rfl (pv 2)) (pg_name (i := 3) sc_Order___init__.nd rfl (Or.inl rfl)) (pss_one (ps_expr (z_callC C_f_check_among hr (fun σ => passAt (takes_of rfl rfl rfl rfl) σ) (pa_cons (pv 1) (pa_cons (pv 3) pa_nil))))))
    (pss_cons (ps_fld (pv 0) (pe_callTy (k_tupA (K := K) rfl) (by rfl) C_b_tuple (by decide +kernel) (pa_cons (pe_callB (k_sort (K := K) rfl) (by rfl) C_b_sorted (by decide +kernel) (pa_cons (pv 1) pa_nil)) pa_nil)) rfl)
    (pss_cons (ps_fld (pv 0) (z_callC C_f_closure hr passN (pa_cons (pe_fld (pv 0) rfl) (pa_cons (pv 2) pa_nil))) rfl)
    (pss_cons (ps_set (i := 4) sc_Order___init__.nd rfl (Or.inr rfl) (z_meth0C (pv 0) C_c_Order.toCls C_m_Order_pairs hr passN))
    (pss_cons (ps_setLc (i := 5) (own := [("low", 6)]) (by rfl) sc_Order___init__.nd rfl rfl (sw_true rfl rfl rfl (by decide +kernel)) (pi_any (K := K) rfl (pe_fld (pv 0) rfl)) (blkOk_by (N := ["self", "names", "pairs", "pair", "joined", "ringed", "low", "high"]) (sc := defScope s_Order___init__) (by decide +kernel)) (fun _ _ _ _ _ => pg_name (i := 6) sc_Order___init__.nd rfl (Or.inr rfl)) (fun _ _ _ _ _ => pts_one (pt_val (pe_callB (k_any rfl (K := K) rfl) (by rfl) C_b_any (by decide +kernel) (pa_cons (pe_lc (own := [("high", 7)]) (by rfl) sc_Order___init__.nd (pi_any (K := K) rfl (pe_dget (hu_of hr) (k_fld (K := K) rfl (pv 0) rfl) (pv 6) (fun _ _ => rfl))) (blkOk_by (N := ["self", "names", "pairs", "pair", "joined", "ringed", "low", "high"]) (by rfl)) (fun _ _ _ _ _ => pg_name (i := 7) sc_Order___init__.nd rfl (Or.inl rfl)) (fun _ _ _ _ _ => pts_nil) (fun _ _ _ _ _ => pe_cmpR (k_inD (K := K) rfl (u65 hr)) (pe_tup (pa_cons (pv 7) (pa_cons (pv 6) pa_nil))) (pv 4) rfl)) pa_nil)))) (fun _ _ _ _ _ => pv 6))
    (pss_one (ps_if (k_truth (K := K) rfl (pv 5) (by intro _; rfl)) (pss_one (ps_raise rfl (takes_of rfl rfl rfl rfl) (z_mkX C_x_Ring hr (pa_cons (pv 5) pa_nil)))) (pss_nil))))))))), ?_⟩
  try dsimp only [cxOf]
  walk_at "rd"
  refine i_lenA hb ?_
  rw [List.length_map]
  walk_at "rd"
  have badN : ¬ (1 ≤ zs.length ∧ zs.length ≤ 8) → rMkO CB (spX1 K CB "n" (GNum CR)) [V.int (zs.length : Nat)] H fun cls d H' => E cls d H' := fun hb =>
    i_mkX1 (fun H' s => .inl ⟨_, rfl, ZR.Sz.mono (n := 15) (Nat.lt_of_le_of_lt (show ((zs.length : Nat) : Int).natAbs ≤ 30000 by omega) (by decide +kernel)) (by decide)⟩) fun d H' hd s e' => kB hb d H' (fun x o _ e => s _ _ e) e'
  refine i_dec (fun g1 => ?_) (fun g1 => ?_)
  rotate_left
  · walk_at "rd"
    refine i_lenA hb ?_
    rw [List.length_map]
    walk_at "rd"
    exact badN (by omega)
  walk_at "rd"
  refine i_ndec (fun g2 => ?_) (fun g2 => ?_)
  · walk_at "rd"
    refine i_lenA hb ?_
    rw [List.length_map]
    walk_at "rd"
    exact badN (by omega)
  walk_at "rd"
  obtain ⟨kF, kN⟩ := kN ⟨by omega, by omega⟩
  refine ⟨rfl, b, zs, rfl, hb, h60, hlen, fun x z hz => ⟨(kF x z hz).1, fun d H' s e => (kF x z hz).2 d H' (fun y o _ e => s _ _ e) e⟩, fun hF H1 s1 => ?_⟩
  obtain ⟨hn, hd⟩ := nmF_none zs [] hF List.nodup_nil
  rw [List.nil_append] at hd
  obtain ⟨kU, kN⟩ := kN hF
  walk_at "rd"
  refine i_forA (H0 := H) (fun i σ H2 => (∃ v, σ = [some (.ref a), some (.ref b), some (.ref c), v, none, none, none, none]) ∧ Same H H2 ∧ ∀ p ∈ E'.take i, p.1 ∈ zs ∧ p.2 ∈ zs) hc ⟨⟨_, rfl⟩, s1, fun p hp => absurd hp (by simp)⟩ (fun i σ H2 p => p.2.1) ?_ ?_
  · rintro i x σ H2 hx ⟨⟨v, rfl⟩, s2, hin⟩
    have lt := (List.getElem?_eq_some_iff.mp hx).1
    rw [hp.1] at lt
    have hei : E'[i]? = some E'[i] := by simp [lt]
    obtain ⟨q, rfl, eq⟩ := hp.2 i x E'[i] hx hei
    walk_at "rd"
    refine ⟨rfl, b, q, zs, [E'[i].1, E'[i].2], rfl, sameA s2 hb, .inr (Same_seqT s2 eq), fun z hz => ?_, fun hz H3 s3 => ?_⟩
    · obtain ⟨rb, kU⟩ := kU z (missE_at hei hin hz)
      exact ⟨rb, fun d' H' s e => kU d' H' (fun y o _ e => s _ _ (s2 _ _ e)) e⟩
    walk_at "rd"
    refine ⟨⟨_, rfl⟩, s2.trans s3, fun p hpm => ?_⟩
    rw [take_snoc hei] at hpm
    rcases List.mem_append.mp hpm with h | h
    · exact hin p h
    · rw [List.mem_singleton.mp h]
      have h0 := List.find?_eq_none.mp hz
      exact ⟨by simpa using h0 E'[i].1 (by simp), by simpa using h0 E'[i].2 (by simp)⟩
  · rintro σ H2 ⟨⟨v, rfl⟩, s2, hin⟩
    rw [hp.1, List.take_length] at hin
    have hE := hin
    have hME : missE zs E' = none := by
      unfold missE
      rw [List.find?_eq_none]
      intro x hx
      obtain ⟨p, hp, hx⟩ := List.mem_flatMap.mp hx
      obtain ⟨h1, h2⟩ := hin p hp
      simp at hx
      rcases hx with rfl | rfl
      · simp [h1]
      · simp [h2]
    obtain ⟨kR, k⟩ := kN hME
    walk_at "rd"
    refine i_sort (sameA s2 hb) (by omega) fun q H3 hq s3 ho3 e3 => ?_
    walk_at "rd"
    refine i_tupL (SqL.of e3) fun t H4 ht s4 e4 ho4 => ?_
    walk_at "rd"
    have ins : IsIns H a := ⟨_, _, _, ha⟩
    have na4 : ∀ o, H a = some o → H4 a = some o := fun o e => s4 _ _ (s3 _ _ (s2 _ _ e))
    have ta : t ≠ a := fun z => by
      have := s3 _ _ (s2 _ _ ha)
      rw [← z, ht] at this
      cases this
    refine i_put1 (na4 _ ha) C_c_Order.toCls C_na_Order_names (by show 0 < 100; decide) (op1 _) fun H5 e5 o5 => ?_
    have b5 : But a H H5 := fun x o hx e => by rw [o5 x hx]; exact s4 _ _ (s3 _ _ (s2 _ _ e))
    walk_at "rd"
    refine i_fld1 e5 C_c_Order.toCls C_na_Order_names rf_names1 ?_
    walk_at "rd"
    have hc5 : PrA K H5 c E' := ⟨ps, seqA_ne ins b5 hc, hp.1, fun i p e hpi hei => by
      obtain ⟨q, e1, e2⟩ := hp.2 i p e hpi hei
      exact ⟨q, e1, seqT_ne ins b5 e2⟩⟩
    have et5 : H5 t = some (.tup ((srt zs).map V.str)) := by rw [o5 t ta]; exact e4
    have hE2 : ∀ p ∈ E', p.1 ∈ srt zs ∧ p.2 ∈ srt zs := fun p hpE => ⟨mem_srt.mpr (hE p hpE).1, mem_srt.mpr (hE p hpE).2⟩
    have l2 : (srt zs).length = zs.length := (srt_perm zs).length_eq
    refine ⟨rfl, t, c, srt zs, E', rfl, .t et5, hc5, by omega, srt_nodup hd, srt_pw zs, hE2, fun d H6 hd6 s6 tab => ?_⟩
    have da : d ≠ a := fun z => by rw [z, e5] at hd6; cases hd6
    walk_at "rb"
    refine i_put1 (s6 _ _ e5) C_c_Order.toCls C_na_Order__above (by show 1 < 100; decide) (op2 _ _) fun H7 e7 o7 => ?_
    have ho7 : IsO CO H7 a (srt zs) (OM.cl E') := by
      obtain ⟨A, e8, e9⟩ := tab
      refine ⟨dx, t, d, e7, by rw [o7 t ta]; exact s6 _ _ et5, ⟨A, by rw [o7 d da]; exact e8, fun n hn => ?_⟩, by omega, srt_nodup hd, fun n hnm => hn n (mem_srt.mp hnm)⟩
      rw [o7 (A n) fun z => ?_]
      · exact e9 n hn
      · have := e9 n hn
        rw [z, s6 _ _ e5] at this
        cases this
    have b7 : But a H H7 := fun x o hx e => by rw [o7 x hx]; exact s6 _ _ (b5 x o hx e)
    walk_at "rd"
    refine i_meth1 e7 (ro_no (by decide +kernel) (by decide +kernel)) ?_
    walk_at "rd"
    refine ⟨rfl, a, srt zs, OM.cl E', rfl, ho7, fun p H8 hp8 s8 hP => ?_⟩
    obtain ⟨qs, ep, tq⟩ := hP
    walk_at "rd"
    refine i_fld1 (s8 _ _ e7) C_c_Order.toCls C_na_Order_names rf_names ?_
    have ho8 := ho7.mono s8
    obtain ⟨dx', t', d', f1, f2, ⟨A, f3, f4⟩, _, _, hnl⟩ := id ho8
    have et8 : H8 t = some (.tup ((srt zs).map V.str)) := by
      have := f1.symm.trans (s8 _ _ e7)
      cases this
      exact f2
    have hab : ∀ n, (OM.ab (srt zs) (OM.cl E') n).length ≤ 8 := fun n => Nat.le_trans ab_len (by omega)
    refine i_lcA (H0 := H8) (fun i ys H => Same H8 H ∧ ys = (((srt zs).take i).filter (fR (srt zs) (OM.cl E'))).map V.str) (SqA.t et8) (Same.refl _) ?_ ?_ ?_ ?_
    · intro D H' hD sm e ho
      exact ⟨sm, rfl⟩
    · exact fun i ys H p => p.1
    · rintro i x D ys H9 hD hx eD ⟨s9, rfl⟩
      obtain ⟨n, hni, rfl⟩ := strs_at hx
      have hnN : n ∈ srt zs := List.mem_of_getElem? hni
      walk_at "rd"
      refine ⟨by with_unfolding_all rfl, ?_⟩
      walk_at "rd"
      refine i_fld1 (s9 _ _ f1) C_c_Order.toCls C_na_Order__above rf_above ?_
      walk_at "rd"
      refine i_dget (s9 _ _ f3) (rows_val hnN) ?_
      refine i_lcA (H0 := H9) (fun i ys H => Same H9 H ∧ ys = (((OM.ab (srt zs) (OM.cl E') n).take i).map fun m => decide ((m, n) ∈ OM.prs (srt zs) (OM.cl E'))).map V.bl) (SqA.t (s9 _ _ (f4 n hnN))) (Same.refl _) ?_ ?_ ?_ ?_
      · intro D H' hD sm e ho
        exact ⟨sm, rfl⟩
      · exact fun i ys H p => p.1
      · rintro j y D2 ys H10 hD2 hy eD2 ⟨s10, rfl⟩
        obtain ⟨m, hmi, rfl⟩ := strs_at hy
        obtain ⟨hmN, hmR⟩ := OM.mem_ab.mp (List.mem_of_getElem? hmi)
        walk_at "rd"
        refine ⟨by with_unfolding_all rfl, ?_⟩
        walk_at "rd"
        refine i_tup1 (by show 2 ≤ 100000; decide) fun q H11 hq s11 e11 ho11 => ?_
        walk_at "rd"
        have s811 := (s9.trans s10).trans s11
        refine i_inPr e11 (s811 _ _ ep) (tq.mono s811) (prs_names hnl) (hnl m hmN) (hnl n hnN) ?_
        have hb60 : j < (OM.ab (srt zs) (OM.cl E') n).length := (List.getElem?_eq_some_iff.mp hmi).1
        have h8 := hab n
        refine i_lcE (s11 _ _ eD2) ?_ fun H12 e12 ho12 => ⟨fun b o eb => ?_, ?_⟩
        · rw [List.length_map, List.length_map, List.length_take]
          omega
        · rw [ho12 b (ne_of_none eb hD2)]
          exact s11 _ _ (s10 _ _ eb)
        · rw [take_snoc hmi, List.map_append, List.map_append]
          rfl
      · rintro D2 ys H10 hD2 eD2 ⟨s10, rfl⟩
        rw [List.length_map, List.take_length] at eD2
        walk_at "rd"
        refine i_any eD2 ?_
        rw [List.any_map]
        refine ⟨_, rfl, ?_⟩
        have eb : (OM.ab (srt zs) (OM.cl E') n).any (id ∘ fun m => decide ((m, n) ∈ OM.prs (srt zs) (OM.cl E'))) = fR (srt zs) (OM.cl E') n := rfl
        rw [eb]
        refine i_bool (fun g => ?_) (fun g => ?_)
        · walk_at "rd"
          refine i_lcE (s10 _ _ eD) ?_ fun H12 e12 ho12 => ⟨fun b o eb => ?_, ?_⟩
          · rw [List.length_map]
            have h1 := List.length_filter_le (fR (srt zs) (OM.cl E')) ((srt zs).take i)
            rw [List.length_take] at h1
            omega
          · rw [ho12 b (ne_of_none eb hD)]
            exact s10 _ _ (s9 _ _ eb)
          · rw [take_snoc hni, List.filter_append, List.filter_cons_of_pos g, List.filter_nil, List.map_append]
            rfl
        · refine ⟨_, s10 _ _ eD, s9.trans s10, ?_⟩
          rw [take_snoc hni, List.filter_append, List.filter_cons_of_neg (by rw [g]; decide), List.filter_nil, List.append_nil]
    · rintro D ys H9 hD eD ⟨s9, rfl⟩
      rw [List.length_map, List.take_length] at eD
      have eR : ((srt zs).filter (fR (srt zs) (OM.cl E'))) = rings (srt zs) (OM.cl E') := rfl
      rw [eR] at eD
      have b9 : But a H H9 := fun x o hx e => s9 _ _ (s8 _ _ (b7 x o hx e))
      walk_at "rd"
      refine ⟨!(((rings (srt zs) (OM.cl E')).map V.str).isEmpty), .inl ⟨_, SqL.of eD, rfl⟩, ?_⟩
      cases hr : rings (srt zs) (OM.cl E') with
      | nil =>
        rw [if_neg (by decide)]
        walk_at "rd"
        exact k hr H9 (ho8.mono s9) b9
      | cons y l =>
        rw [if_pos (show (!(List.map V.str (y :: l)).isEmpty) = true from rfl)]
        walk_at "rd"
        have nn : rings (srt zs) (OM.cl E') ≠ [] := by rw [hr]; simp
        refine i_mkXR nn (.of eD) (fun z hz => hnl z (List.mem_filter.mp hz).1) (Nat.le_trans (List.length_filter_le _ _) (by omega)) fun d2 q2 H' hd2 s' ed2 eq2 => ?_
        exact kR nn d2 q2 H' (fun x o hx e => s' _ _ (b9 x o hx e)) ed2 eq2
def swp (e : Str × Str) : Str × Str := (e.2, e.1)
/-- an order at a of the names N and the pairs E -/
structure IsOE (CO : Addr) (H : Hp) (a : Addr) (N : List Str) (E : List (Str × Str)) : Prop where
  io : IsO CO H a N (OM.cl E)
  pw : N.Pairwise fun a b => ltS b a = false
  anti : OM.Anti E
  sub : ∀ e ∈ E, e.1 ∈ N ∧ e.2 ∈ N
  pos : 1 ≤ N.length
theorem nmF_ok : ∀ (zs seen : List Str), (∀ z ∈ zs, nameB z = true) → (seen ++ zs).Nodup → nmF seen zs = none := by
  intro zs
  induction zs with
  | nil => intro seen _ _; rfl
  | cons z zs ih =>
    intro seen h1 h2
    rw [nmF_cons, if_neg (by rw [h1 z List.mem_cons_self]; decide), if_neg fun h => (List.nodup_append.mp h2).2.2 z h z List.mem_cons_self rfl]
    exact ih _ (fun w hw => h1 w (List.mem_cons_of_mem _ hw)) (by simpa using h2)
theorem missE_ok {ks : List Str} {E : List (Str × Str)} (h : ∀ e ∈ E, e.1 ∈ ks ∧ e.2 ∈ ks) : missE ks E = none := by
  unfold missE
  rw [List.find?_eq_none]
  intro x hx
  obtain ⟨p, hp, hx⟩ := List.mem_flatMap.mp hx
  obtain ⟨h1, h2⟩ := h p hp
  simp at hx
  rcases hx with rfl | rfl
  · simp [h1]
  · simp [h2]
theorem rings_no {N : List Str} {E : List (Str × Str)} (h : OM.Anti E) : rings N (OM.cl E) = [] := by
  unfold rings
  rw [List.filter_eq_nil_iff]
  intro n hn hf
  unfold fR at hf
  obtain ⟨m, hm, h2⟩ := List.any_eq_true.mp hf
  obtain ⟨_, _, r, ne⟩ := OM.mem_prs.mp (of_decide_eq_true h2)
  exact ne (h _ _ (OM.cl_iff.mp r) (OM.cl_iff.mp (OM.mem_ab.mp hm).2))
/-- Order(names, pairs) where nothing is wrong -/
theorem i_newOK {K : PySem.W.Frag} {CO CB CN CD CU CG b c : Addr} {H : Hp} {Q : VK} {X : XK} {zs : List Str} {E : List (Str × Str)} (hb : SqA K H b (zs.map V.str)) (hc : PrA K H c E) (h1 : 1 ≤ zs.length) (h8 : zs.length ≤ 8) (hn : ∀ z ∈ zs, nameB z = true) (hd : zs.Nodup) (hE : ∀ e ∈ E, e.1 ∈ zs ∧ e.2 ∈ zs) (hlE : E.length ≤ 10000) (hA : OM.Anti E)
    (h : ∀ p H', H p = none → Same H H' → IsOE CO H' p (srt zs) E → Q (.ref p) H') : rNew CO (spOInitG K CO CB CN CD CU CG) [.ref b, .ref c] H Q X := by
  intro x dx hx hdx hne
  have sm : Same H (upd (upd H dx (.own x)) x (.ins CO dx [])) := fun c o e => by
    rw [upd_ne (ne_of_none e hx), upd_ne (ne_of_none e hdx)]
    exact e
  have hF := nmF_ok zs [] hn (by simpa using hd)
  have hM := missE_ok hE
  have hR := rings_no (N := srt zs) hA
  refine ⟨rfl, x, b, c, zs, E, rfl, ⟨dx, upd_same⟩, sameA sm hb, hc.mono sm, by omega, fun z hz => Nat.le_trans (nameB_len (hn z hz)) (by decide), Nat.le_trans hlE (by decide), fun g => absurd ⟨h1, h8⟩ g, fun _ => ⟨fun b z hz => (by rw [hF] at hz; cases hz), fun _ => ⟨fun z hz => (by rw [hM] at hz; cases hz), fun _ => ⟨fun g => absurd hR g, fun _ H' io t => ⟨rfl, h x H' hx (fun c o e => t c o (ne_of_none e hx) (sm _ _ e)) ⟨io, srt_pw zs, hA, fun e he => ⟨mem_srt.mpr (hE e he).1, mem_srt.mpr (hE e he).2⟩, ?_⟩⟩⟩⟩⟩⟩
  rw [(srt_perm zs).length_eq]
  exact h1
def spTurned (CO : Addr) : Sp := fun vs H Q _ => vs.length = 1 ∧ ∃ a N E, vs = [.ref a] ∧ IsOE CO H a N E ∧ ∀ p H', H p = none → Same H H' → IsOE CO H' p N ((OM.prs N (OM.cl E)).map swp) → Q (.ref p) H'
/-! ### orders asked -/
abbrev s_Order___contains__ : Stmt := inClass (top 43) 12
theorem sc_Order___contains__ : FnScope ["self", "name"] ["self", "name"] (defScope s_Order___contains__) := ⟨rfl, rfl, rfl, by decide +kernel, rfl, by decide +kernel, by decide +kernel⟩
theorem ok_Order___contains__ {P : Program} {w : World} {K : PySem.W.Frag} {mg : Str → Option Value} {base : Heap} {CO : Addr} {f : Addr} {fd : FuncData} (F : L2.Fun K "__contains__" "Order.__contains__" s_Order___contains__ f fd)
    (C_c_Order : ClO K CO)
    (C_na_Order__above : NoAttr K CO "_above")
    (C_na_Order_names : NoAttr K CO "names") :
    FnOk P w K mg base (L2.CX P w) 1 f fd ["self", "name"] (spOIn CO) := by
  refine fnOk_mk F sc_Order___contains__ (fun vs H Q E h => h.1) (fun cdv A outer s H vs Q E hr h => ?_)
  obtain ⟨_, a, N, R, z, rfl, ho, k⟩ := h
  obtain ⟨dx, t, d, e1, e2, ⟨A', e3, e4⟩, hl, hN, hnl⟩ := ho
  refine ⟨_, pss_one (ps_ret (pe_cmpR (k_inS (K := K) rfl) (pv 1) (pe_fld (pv 0) rfl) rfl)), ?_⟩
  try dsimp only [cxOf]
  walk_at "rd"
  refine i_fld1 e1 C_c_Order.toCls C_na_Order_names rf_names ?_
  refine i_inS (SqA.t e2) ?_
  exact k H (Same.refl _)
def of2 (t d : Addr) : List (Str × V) := [("names", .ref t), ("_above", .ref d)]
def spOIterT (CO : Addr) : Nat → Sp := fun n vs H Q _ => vs.length = 1 ∧ ∃ (a dx t d : Addr) (ys : List V), vs = [.ref a] ∧ H a = some (.ins CO dx (of2 t d)) ∧ H t = some (.tup ys) ∧
  ∀ q, n ≤ q → H q = none → Q (.ref q) (upd H q (TupIt q t 0))
abbrev s_Order___iter__ : Stmt := inClass (top 43) 14
theorem sc_Order___iter__ : FnScope ["self"] ["self"] (defScope s_Order___iter__) := ⟨rfl, rfl, rfl, by decide +kernel, rfl, by decide +kernel, by decide +kernel⟩
theorem okT_Order___iter__ {P : Program} {w : World} {K : PySem.W.Frag} {mg : Str → Option Value} {base : Heap} {CO : Addr} {f : Addr} {fd : FuncData} (F : L2.Fun K "__iter__" "Order.__iter__" s_Order___iter__ f fd)
    (C_b_iter : mg "iter" = none)
    (C_c_Order : ClO K CO)
    (C_na_Order__above : NoAttr K CO "_above")
    (C_na_Order_names : NoAttr K CO "names")
    (b : Binds K fd ["self"] []) :
    FnT P w K mg base 1 f (spOIterT CO) := by
  refine fnT_mk F sc_Order___iter__ b (fun _ vs H Q E h => h.1) (fun cdv A outer s H vs Q E hr h => ?_)
  obtain ⟨_, a, dx, t, d, ys, rfl, e1, e2, k⟩ := h
  refine ⟨_, pss_one (ps_ret (pe_callB (k_iterTS (K := K) rfl) (by rfl) C_b_iter (by decide +kernel) (pa_cons (pe_fld (pv 0) rfl) pa_nil))), ?_⟩
  try dsimp only [cxOf]
  walk_at "rd"
  refine i_fld1 e1 C_c_Order.toCls C_na_Order_names rf_names ?_
  walk_at "rd"
  exact ⟨t, ys, rfl, .of e2, k⟩
def spReady (K : PySem.W.Frag) (CO : Addr) : Sp := fun vs H Q _ => vs.length = 3 ∧ ∃ (a t : Addr) (N ws : List Str) (R : Str → Str → Bool) (n : Str), vs = [.ref a, .str n, .ref t] ∧ IsO CO H a N R ∧ n ∈ N ∧ SqA K H t (ws.map V.str) ∧
  ∀ H', Same H H' → Q (.bl (((OM.ab N R n).filter fun h => !decide (h = n)).all fun h => decide (h ∈ ws))) H'
abbrev s_Order__is_ready : Stmt := inClass (top 43) 9
theorem sc_Order__is_ready : FnScope ["self", "name", "names", "high"] ["self", "name", "names"] (defScope s_Order__is_ready) := ⟨rfl, rfl, rfl, by decide +kernel, rfl, by decide +kernel, by decide +kernel⟩
theorem ok_Order__is_ready {P : Program} {w : World} {K : PySem.W.Frag} {mg : Str → Option Value} {base : Heap} {CO : Addr} {f : Addr} {fd : FuncData} (F : L2.Fun K "_is_ready" "Order._is_ready" s_Order__is_ready f fd)
    (C_b_all : mg "all" = none)
    (C_c_Order : ClO K CO)
    (C_na_Order__above : NoAttr K CO "_above")
    (C_na_Order_names : NoAttr K CO "names") :
    FnOk P w K mg base (L2.CX P w) 1 f fd ["self", "name", "names"] (spReady K CO) := by
  refine fnOk_mk F sc_Order__is_ready (fun vs H Q E h => h.1) (fun cdv A outer s H vs Q E hr h => ?_)
  obtain ⟨_, a, t, N, ws, R, n, rfl, ho, hn, hw, k⟩ := h
  obtain ⟨dx, ti, d, e1, e2, ⟨A, e3, e4⟩, hl, hN, hnl⟩ := id ho
  have hab := ab_len (N := N) (R := R) (n := n)
  refine ⟨_, pss_one (ps_ret (pe_callB (k_all rfl (K := K) rfl) (by rfl) C_b_all (by decide +kernel) (pa_cons (pe_lc (own := [("high", 3)]) (by rfl) sc_Order__is_ready.nd (pi_any (K := K) rfl (pe_dget (hu_of hr) (pe_fld (pv 0) rfl) (pv 1) (fun _ _ => rfl))) (blkOk_by (N := ["self", "name", "names", "high"]) (sc := defScope s_Order__is_ready) (by decide +kernel)) (fun _ _ _ _ _ => pg_name (i := 3) sc_Order__is_ready.nd rfl (Or.inl rfl)) (fun _ _ _ _ _ => pts_one (pt_cmpR op_ne (pv 3) (pv 1) (nomark _))) (fun _ _ _ _ _ => pe_cmpR (k_inS (K := K) rfl) (pv 3) (pv 2) rfl)) pa_nil))), ?_⟩
  try dsimp only [cxOf]
  walk_at "rd"
  refine i_fld1 e1 C_c_Order.toCls C_na_Order__above rf_above ?_
  walk_at "rd"
  refine i_dget e3 (rows_val hn) ?_
  refine i_lcA (H0 := H) (fun i ys H1 => Same H H1 ∧ ys = ((((OM.ab N R n).take i).filter fun h => !decide (h = n)).map fun h => decide (h ∈ ws)).map V.bl) (SqA.t (e4 n hn)) (Same.refl _) ?_ ?_ ?_ ?_
  · intro D H' hD sm e ho
    exact ⟨sm, rfl⟩
  · exact fun i ys H1 p => p.1
  · rintro i v D ys H1 hD hx eD ⟨s1, rfl⟩
    obtain ⟨m, hm, rfl⟩ := strs_at hx
    walk_at "rd"
    refine ⟨by with_unfolding_all rfl, ?_⟩
    walk_at "rd"
    refine i_ndec (fun g => ?_) (fun g => ?_)
    · walk_at "rd"
      refine i_inS (sameA s1 hw) ?_
      refine i_lcE eD ?_ fun H4 e4' ho4 => ⟨fun b o eb => ?_, ?_⟩
      · have h1 := List.length_filter_le (fun h => !decide (h = n)) ((OM.ab N R n).take i)
        rw [List.length_take] at h1
        rw [List.length_map, List.length_map]
        omega
      · rw [ho4 b (ne_of_none eb hD)]
        exact s1 _ _ eb
      · rw [take_snoc hm, List.filter_append, List.filter_cons_of_pos (by simp [g]), List.filter_nil, List.map_append, List.map_append]
        rfl
    · refine ⟨_, eD, s1, ?_⟩
      rw [take_snoc hm, List.filter_append, List.filter_cons_of_neg (by simp [g]), List.filter_nil, List.append_nil]
  · rintro D ys H1 hD eD ⟨s1, rfl⟩
    rw [List.length_map, List.take_length] at eD
    walk_at "rd"
    refine i_all eD ?_
    rw [List.all_map]
    exact k H1 s1
open _root_.ZB
theorem _root_.ZB.pa_starK {X : Cx} {K : PySem.W.Frag} {e : Expr} {es : List Expr} {te : TE} {t : TA} {p : Pos} (hK : X.K = K) (he : PE X e te) (hr : PA X es t) (hs : PySem.starEach (.Starred e p :: es) X.env = (true, eval e X.env) :: PySem.starEach es X.env := by rfl) : PA X (.Starred e p :: es) (StX.tStar K te t) := by
  subst hK; exact StX.pa_star he hr
open _root_.ZB
/-- nothing but a table may have stood there -/
def _root_.ZB.FreeN (H : Hp) (q : Addr) : Prop := ∀ o, H q = some o → ∃ ps, o = .tbl ps
theorem _root_.ZB.FreeN.of {H H' : Hp} {q : Addr} (e : LamX.ExtN H H') (h : H' q = none) : FreeN H q := fun o ho => Classical.byContradiction fun hc => by
  rw [e _ _ ho fun ps z => hc ⟨ps, z⟩] at h
  cases h
theorem _root_.ZB.FreeN.ne {H : Hp} {q b : Addr} {o : HO} (h : FreeN H q) (e : H b = some o) (n : ∀ ps, o ≠ .tbl ps) : b ≠ q := fun z => by
  rw [z] at e
  obtain ⟨ps, g⟩ := h o e
  exact n ps g
def spUps (K : PySem.W.Frag) (CO : Addr) (TT : List (Addr × Str)) : Sp := fun vs H Q _ => vs.length = 1 ∧ ∃ (a : Addr) (N : List Str) (E : List (Str × Str)), vs = [.ref a] ∧ IsOE CO H a N E ∧ LamX.Tabs TT H ∧
  ∀ (q : Addr) (H' : Hp) (bs : List AT), FreeN H q → LamX.ExtN H H' → LamX.Tabs TT H' → H' q = some (.lst (refB bs)) → TsAt H' bs → bs.map (·.2) = upsOf (OM.ab N (OM.cl E)) N → Q (.ref q) H'
def keyH (N : List Str) (R : Str → Str → Bool) : V → Int := fun v => match v with
  | .str z => (((OM.ab N R z).length : Nat) : Int)
  | _ => 0
def byH (N : List Str) (R : Str → Str → Bool) : List Str := N.mergeSort fun x y => decide ((((OM.ab N R x).length : Nat) : Int) ≤ (((OM.ab N R y).length : Nat) : Int))
theorem byH_perm (N : List Str) (R : Str → Str → Bool) : (byH N R).Perm N := List.mergeSort_perm _ _
theorem byH_srt (N : List Str) (R : Str → Str → Bool) : srtK (keyH N R) (N.map V.str) = (byH N R).map V.str := by
  unfold srtK byH
  exact (List.map_mergeSort (f := V.str) (s := fun x y => decide (keyH N R x ≤ keyH N R y)) fun x _ y _ => rfl).symm
theorem byH_pw (N : List Str) (R : Str → Str → Bool) : (byH N R).Pairwise fun a b => (OM.ab N R a).length ≤ (OM.ab N R b).length := by
  have h := srtK_pw (keyH N R) (N.map V.str)
  rw [byH_srt, List.pairwise_map] at h
  exact h.imp fun {a b} (h : (((OM.ab N R a).length : Nat) : Int) ≤ (((OM.ab N R b).length : Nat) : Int)) => by omega
theorem _root_.Z.IsO.ext {CO a : Addr} {H H' : Hp} {N : List Str} {R : Str → Str → Bool} (e : LamX.ExtN H H') (h : IsO CO H a N R) : IsO CO H' a N R := by
  obtain ⟨dx, ti, d, e1, e2, ⟨A, e3, e4⟩, h8, hN, hnl⟩ := h
  have nt : ∀ (o : HO), (∀ ps, o ≠ .tbl ps) → ∀ b, H b = some o → H' b = some o := fun o n b g => e b o g n
  refine ⟨dx, ti, d, nt _ (fun _ z => by cases z) _ e1, ?_, ⟨A, nt _ (fun _ z => by cases z) _ e3, fun n hn => ?_⟩, h8, hN, hnl⟩
  · exact nt _ (fun _ z => by cases z) _ e2
  · exact nt _ (fun _ z => by cases z) _ (e4 n hn)
theorem IsOE.ext {CO a : Addr} {H H' : Hp} {N : List Str} {E : List (Str × Str)} (e : LamX.ExtN H H') (h : IsOE CO H a N E) : IsOE CO H' a N E := ⟨h.io.ext e, h.pw, h.anti, h.sub, h.pos⟩
theorem _root_.ZB.TsAt.mono {H H' : Hp} {bs : List AT} (s : Same H H') (h : TsAt H bs) : TsAt H' bs := fun b hb => s _ _ (h b hb)
theorem _root_.ZB.TsAt.snoc {H H' : Hp} {bs : List AT} {b : AT} (k : ∀ c ys, H c = some (.tup ys) → H' c = some (.tup ys)) (h : TsAt H bs) (e : H' b.1 = some (.tup (b.2.map V.str))) : TsAt H' (bs ++ [b]) := fun c hc => by
  rcases List.mem_append.mp hc with hc | hc
  · exact k _ _ (h c hc)
  · rw [List.mem_singleton.mp hc]; exact e
theorem refB_app (bs cs : List AT) : refB (bs ++ cs) = refB bs ++ refB cs := List.map_append
theorem i_star {K : PySem.W.Frag} {te : TE} {t : TA} {σ : L2.St} {H : Hp} {Q : List V → Hp → Prop} (h : te σ H fun x H1 => ∃ p xs, x = V.ref p ∧ (SqT K H1 p xs ∨ SqL K H1 p xs) ∧ t σ H1 fun ys H2 => Q (xs ++ ys) H2) : StX.tStar K te t σ H Q := h
theorem refB_len (bs : List AT) : (refB bs).length = bs.length := List.length_map ..
theorem _root_.ZB.TsAt.app {H : Hp} {bs cs : List AT} (h : TsAt H bs) (k : TsAt H cs) : TsAt H (bs ++ cs) := fun c hc => (List.mem_append.mp hc).elim (h c) (k c)
theorem refB_at {bs : List AT} {i : Nat} {x : V} (h : (refB bs)[i]? = some x) : ∃ b, bs[i]? = some b ∧ x = V.ref b.1 := by
  unfold refB at h
  rw [List.getElem?_map] at h
  cases e : bs[i]? with
  | none => rw [e] at h; cases h
  | some b => rw [e] at h; exact ⟨b, rfl, (Option.some.inj h).symm⟩
theorem _root_.ZB.mem_upsub {f : Str → List Str} {ks ws : List Str} : ws ∈ up f ks → ws.Sublist ks := by
  revert ws
  refine snoc_ind (P := fun ks => ∀ {ws : List Str}, ws ∈ up f ks → ws.Sublist ks) ?_ (fun ks n ih ws h => ?_) ks
  · intro ws h
    rw [List.mem_singleton.mp (show ws ∈ [[]] from h)]
    exact List.Sublist.refl _
  · rw [up_snoc, List.mem_append, List.mem_map] at h
    rcases h with h | ⟨v, hv, rfl⟩
    · exact (ih h).trans (List.sublist_append_left _ _)
    · exact List.Sublist.append (ih (List.mem_filter.mp hv).1) (List.Sublist.refl _)
abbrev s_Order_ups : Stmt := inClass (top 43) 8
theorem sc_Order_ups : FnScope ["self", "found", "name", "names"] ["self"] (defScope s_Order_ups) := ⟨rfl, rfl, rfl, by decide +kernel, rfl, by decide +kernel, by decide +kernel⟩
theorem ok_Order_ups {P : Program} {w : World} {K : PySem.W.Frag} {mg : Str → Option Value} {base : Heap} {TT : List (Addr × Str)} {c_Order_ups p_Order_ups : Addr} {CO : Addr} {f : Addr} {fd : FuncData} (F : ZB.FunC K "ups" "Order.ups" s_Order_ups f fd c_Order_ups)
    (C_b_len : mg "len" = none)
    (C_b_sorted : mg "sorted" = none)
    (C_b_tuple : mg "tuple" = none)
    (C_c_Order : ClO K CO)
    (C_m_Order__is_ready : CalM P w K mg base CO "_is_ready" 1 (spReady K CO))
    (C_na_Order__above : NoAttr K CO "_above")
    (C_na_Order_names : NoAttr K CO "names")
    (C_tb_Order_ups : LamX.TabB base mg c_Order_ups p_Order_ups)
    (C_tm_Order_ups : ZB.TabM TT p_Order_ups (ZB.LQ "Order.ups")) :
    FnOk P w K mg base (L2.CX P w) 4 f fd ["self"] (spUps K CO TT) := by
  refine ZB.fnOkC_mk F sc_Order_ups (fun vs H Q E h => h.1) (fun A outer s H vs Q E hr h => ?_)
  obtain ⟨_, a, N, E, rfl, io, hT, k⟩ := h
  obtain ⟨dx, ti, d, e1, e2, ⟨A, e3, e4⟩, h8, hN, hnl⟩ := id io.io
  refine ⟨_, pss_cons (ps_set (i := 1) sc_Order_ups.nd rfl (Or.inl rfl) (pe_lst (pa_cons (pe_tup pa_nil) pa_nil)))
    (pss_cons (ps_for (passes_of rfl) rfl (pi_any (K := K) rfl (ZB.pe_sortLam (T := TT) (by rfl) C_b_sorted (pa_cons (pe_fld (pv 0) rfl) pa_nil) C_tb_Order_ups rfl C_tm_Order_ups.1 C_tm_Order_ups.2 hr (ZB.lamP_by (sc := defScope s_Order_ups) (by decide +kernel)) (show ¬ (("word" : Str) ∈ (["self", "found", "name", "names"] : List Str)) from by decide) rfl (fun _ _ _ _ _ _ => rfl) (fun _ _ _ _ _ _ _ hr => pe_callB (k_len (K := K) rfl) (by rfl) C_b_len (by decide +kernel) (pa_cons (pe_dget (hu_of hr) (k_fld (K := K) rfl (pv 0) rfl) (pv 4) (fun _ _ => rfl)) pa_nil)))) (pg_name (i := 2) sc_Order_ups.nd rfl (Or.inr rfl)) (pss_one (ps_set (i := 1) sc_Order_ups.nd rfl (Or.inl rfl) (pe_op op_cat (pv 1) (pe_lc (own := [("names", 3)]) (by rfl) sc_Order_ups.nd (pi_any (K := K) rfl (pv 1)) (blkOk_by (N := ["self", "found", "name", "names"]) (sc := defScope s_Order_ups) (by decide +kernel)) (fun _ _ _ _ _ => pg_name (i := 3) sc_Order_ups.nd rfl (Or.inl rfl)) (fun _ _ _ _ _ => pts_one (pt_val (z_methC (pv 0) C_c_Order.toCls C_m_Order__is_ready hr passN (pa_cons (pv 2) (pa_cons (pv 3) pa_nil))))) (fun _ _ _ _ _ => pe_tup (ZB.pa_starK (K := K) rfl (pv 3) (pa_cons (pv 2) pa_nil))))))))
    (pss_one (ps_ret (ZB.pe_sortLen (by rfl) C_b_sorted (by rfl) C_b_len (ZB.u5 hr) (pa_cons (pe_callB (ZB.cr_sortT0 (ZB.u5 hr)) (by rfl) C_b_sorted (by decide +kernel) (pa_cons (pe_lc (own := [("names", 3)]) (by rfl) sc_Order_ups.nd (pi_any (K := K) rfl (pv 1)) (blkOk_by (N := ["self", "found", "name", "names"]) (sc := defScope s_Order_ups) (by decide +kernel)) (fun _ _ _ _ _ => pg_name (i := 3) sc_Order_ups.nd rfl (Or.inl rfl)) (fun _ _ _ _ _ => pts_nil) (fun _ _ _ _ _ => pe_callTy (k_tupA (K := K) rfl) (by rfl) C_b_tuple (by decide +kernel) (pa_cons (pe_callB (k_sort (K := K) rfl) (by rfl) C_b_sorted (by decide +kernel) (pa_cons (pv 3) pa_nil)) pa_nil))) pa_nil)) pa_nil))))), ?_⟩
  try dsimp only [cxOf]
  walk_at "rd"
  refine i_tup1 (by show 0 ≤ 100000; decide) fun p0 H1 hp0 s1 ep0 _ => ?_
  walk_at "rd"
  refine i_lst1 (by show 1 ≤ 100000; decide) fun q0 H2 hq0 s2 eq0 _ => ?_
  walk_at "rd"
  have s02 := s1.trans s2
  refine ZB.i_sortLam ?_
  walk_at "rd"
  refine i_fld1 (s02 _ _ e1) C_c_Order.toCls C_na_Order_names rf_names ?_
  have hks : (byH N (OM.cl E)).Perm N := byH_perm N _
  refine ⟨ti, N.map V.str, keyH N (OM.cl E), rfl, SqA.t (s02 _ _ e2), by rw [List.length_map]; omega, hT.ext s02, fun H3 eN T3 => ⟨fun z hz H4 s4 => ?_, fun q H4 hq s4 eq => ?_⟩⟩
  · obtain ⟨w, hw, rfl⟩ := List.mem_map.mp hz
    obtain ⟨dx4, ti4, d4, g1, g2, ⟨A4, g3, g4⟩, _⟩ := id (((io.io.mono s02).ext eN).mono s4)
    walk_at "rd"
    refine i_fld1 g1 C_c_Order.toCls C_na_Order__above rf_above ?_
    walk_at "rd"
    refine i_dget g3 (rows_val hw) ?_
    walk_at "rd"
    refine i_lenA (.t (g4 w hw)) ?_
    exact ⟨by rw [List.length_map]; rfl, Same.refl _⟩
  · rw [byH_srt] at eq
    have io4 := (((io.io.mono s02).ext eN).mono s4)
    have x04 : LamX.ExtN H H4 := ((extN_of s02).trans eN).trans (extN_of s4)
    have T4 : LamX.Tabs TT H4 := T3.ext s4
    have ep4 := x04.trans (LamX.ExtN.refl _)
    have eq4 := s4 _ _ (eN _ _ eq0 (fun _ z => by cases z))
    have epp := s4 _ _ (eN _ _ (s2 _ _ ep0) (fun _ z => by cases z))
    have nd : (byH N (OM.cl E)).Nodup := hks.nodup_iff.mpr hN
    have ah : Ahd (OM.ab N (OM.cl E)) (byH N (OM.cl E)) := ahd_of hks hN io.anti (byH_pw N _)
    have lk : (byH N (OM.cl E)).length = N.length := hks.length_eq
    have lu : ∀ i, (up (OM.ab N (OM.cl E)) ((byH N (OM.cl E)).take i)).length ≤ 256 := fun i => Nat.le_trans (up_len _ _) (Nat.le_trans (Nat.pow_le_pow_right (by decide) (Nat.le_trans (List.length_take_le' _ _) (by rw [lk]; exact h8))) (by decide))
    have mk : ∀ n ∈ byH N (OM.cl E), n ∈ N := fun n h => hks.mem_iff.mp h
    generalize byH N (OM.cl E) = ks at *
    refine i_forA (H0 := H4) (fun i σ H5 => (∃ q5 bs x y, σ = [some (.ref a), some (.ref q5), x, y] ∧ H5 q5 = some (.lst (refB bs)) ∧ TsAt H5 bs ∧ bs.map (·.2) = up (OM.ab N (OM.cl E)) (ks.take i)) ∧ Same H4 H5) (.l eq) ⟨⟨q0, [(p0, [])], _, _, rfl, eq4, fun b hb => by rw [List.mem_singleton.mp hb]; exact epp, rfl⟩, Same.refl _⟩ (fun i σ H5 p => p.2) ?_ ?_
    · rintro i x σ H5 hx ⟨⟨q5, bs, u, v, rfl, eq5, tb5, hb5⟩, s5⟩
      obtain ⟨n, hn, rfl⟩ := Z.strs_at hx
      have nN := mk n (List.mem_of_getElem? hn)
      walk_at "rd"
      have t5 : Same H4 H5 := s5
      refine i_lcA (H0 := H5) (fun j ys H6 => Same H5 H6 ∧ ∃ cs : List AT, ys = refB cs ∧ TsAt H6 cs ∧ cs.map (·.2) = (((bs.map (·.2)).take j).filter (rdy (OM.ab N (OM.cl E)) n)).map (· ++ [n])) (.l eq5) (Same.refl _) ?_ ?_ ?_ ?_
      · intro D H6 hD sm e ho
        exact ⟨sm, [], rfl, (fun b hb => by cases hb), rfl⟩
      · exact fun j ys H6 p => p.1
      · rintro j w D ys H6 hD hx eD ⟨s6, cs, rfl, tc, hc⟩
        obtain ⟨b, hb, rfl⟩ := refB_at hx
        have lt := (List.getElem?_eq_some_iff.mp hb).1
        have hbj : (bs.map (·.2))[j]? = some b.2 := by rw [List.getElem?_map, hb]; rfl
        have eb := s6 _ _ (tb5 b (List.mem_of_getElem? hb))
        have lb : cs.length ≤ 256 := by
          have h1 := congrArg List.length hc
          rw [List.length_map, List.length_map] at h1
          have h2 := List.length_filter_le (rdy (OM.ab N (OM.cl E)) n) ((bs.map (·.2)).take j)
          have h3 := List.length_take_le' j (bs.map (·.2))
          have h5 := congrArg List.length hb5
          have h4 := lu i
          omega
        have io6 := (io4.mono s5).mono s6
        refine ⟨rfl, ?_⟩
        walk_at "rd"
        obtain ⟨dx6, ti6, d6, g1, _⟩ := id io6
        refine i_meth1 g1 (ro_no (by decide +kernel) (by decide +kernel)) ?_
        walk_at "rd"
        refine ⟨rfl, a, b.1, N, b.2, _, n, rfl, io6, nN, .t eb, fun H7 s7 => ⟨_, rfl, ?_⟩⟩
        refine i_bool (fun g => ?_) (fun g => ?_)
        · walk_at "rd"
          refine i_star ?_
          walk_at "rd"
          refine ⟨b.1, _, rfl, .inl (.of (s7 _ _ eb)), ?_⟩
          walk_at "rd"
          have lb2 : b.2.length ≤ 8 := by
            have m := List.mem_of_getElem? hbj
            rw [hb5] at m
            exact Nat.le_trans (mem_upsub m).length_le (Nat.le_trans (List.length_take_le' _ _) (by rw [lk]; exact h8))
          refine i_tup1 (by rw [List.length_append, List.length_map]; show _ + 1 ≤ 100000; omega) fun p8 H8 hp8 s8 e8 o8 => ?_
          walk_at "rd"
          refine i_lcE (s8 _ _ (s7 _ _ eD)) (by rw [refB_len]; omega) fun H9 e9 o9 => ⟨fun c o ec => ?_, cs ++ [(p8, b.2 ++ [n])], by rw [refB_app]; rfl, ?_, ?_⟩
          · rw [o9 c (ne_of_none ec hD)]
            exact s8 _ _ (s7 _ _ (s6 _ _ ec))
          · refine TsAt.snoc (lst_keep (s8 _ _ (s7 _ _ eD)) o9) ((tc.mono s7).mono s8) ?_
            show H9 p8 = _
            rw [o9 _ (fun z : p8 = D => by rw [z] at e8; rw [s8 _ _ (s7 _ _ eD)] at e8; cases e8), e8, List.map_append]
            rfl
          · rw [take_snoc hbj, List.filter_append, List.filter_cons_of_pos (by show rdy _ _ _ = true; unfold rdy; rw [g]), List.filter_nil, List.map_append, List.map_append, hc]
            rfl
        · refine ⟨refB cs, s7 _ _ eD, s6.trans s7, cs, rfl, tc.mono s7, ?_⟩
          rw [take_snoc hbj, List.filter_append, List.filter_cons_of_neg (by show ¬ (rdy _ _ _ = true); unfold rdy; rw [g]; simp), List.filter_nil, List.append_nil]
          exact hc
      · rintro D ys H6 hD eD ⟨s6, cs, rfl, tc, hc⟩
        walk_at "rd"
        rw [refB_len, ← List.length_map (as := bs) (f := (·.2)), List.take_length, hb5] at hc
        have lb : cs.length ≤ 256 := by
          have h1 := congrArg List.length hc
          rw [List.length_map, List.length_map] at h1
          have h2 := List.length_filter_le (rdy (OM.ab N (OM.cl E)) n) (up (OM.ab N (OM.cl E)) (ks.take i))
          have h4 := lu i
          omega
        have lbs : bs.length ≤ 256 := by
          have h5 := congrArg List.length hb5
          have h4 := lu i
          rw [List.length_map] at h5
          omega
        refine i_cat (s6 _ _ eq5) eD (by rw [refB_len, refB_len]; omega) fun p7 H7 hp7 s7 e7 o7 => ?_
        walk_at "rd"
        exact ⟨⟨p7, bs ++ cs, _, _, rfl, by rw [e7, refB_app], TsAt.app (tb5.mono (s6.trans s7)) (tc.mono s7), by rw [take_snoc hn, up_snoc, List.map_append, hb5, hc]⟩, s5.trans (s6.trans s7)⟩
    · rintro σ H5 ⟨⟨q5, bs, u, v, rfl, eq5, tb5, hb5⟩, s5⟩
      rw [List.length_map, List.take_length] at hb5
      walk_at "rd"
      refine ZB.i_sortLen ?_
      walk_at "rd"
      have lf : bs.length ≤ 256 := by
        have h5 := congrArg List.length hb5
        have h4 := lu ks.length
        rw [List.take_length] at h4
        rw [List.length_map] at h5
        omega
      refine i_lcA (H0 := H5) (fun j ys H6 => Same H5 H6 ∧ ∃ cs : List AT, ys = refB cs ∧ TsAt H6 cs ∧ cs.map (·.2) = ((bs.map (·.2)).take j).map srt) (.l eq5) (Same.refl _) ?_ ?_ ?_ ?_
      · intro D H6 hD sm e ho
        exact ⟨sm, [], rfl, (fun b hb => by cases hb), rfl⟩
      · exact fun j ys H6 p => p.1
      · rintro j w D ys H6 hD hx eD ⟨s6, cs, rfl, tc, hc⟩
        obtain ⟨b, hb, rfl⟩ := refB_at hx
        have lt := (List.getElem?_eq_some_iff.mp hb).1
        have hbj : (bs.map (·.2))[j]? = some b.2 := by rw [List.getElem?_map, hb]; rfl
        have eb := s6 _ _ (tb5 b (List.mem_of_getElem? hb))
        have lb : cs.length ≤ 256 := by
          have h1 := congrArg List.length hc
          rw [List.length_map, List.length_map] at h1
          have h3 := List.length_take_le' j (bs.map (·.2))
          rw [List.length_map] at h3
          omega
        refine ⟨rfl, ?_⟩
        walk_at "rd"
        have lb2 : b.2.length ≤ 8 := by
          have m := List.mem_of_getElem? hbj
          rw [hb5] at m
          exact Nat.le_trans (mem_upsub m).length_le (by rw [lk]; exact h8)
        refine i_sort (.t eb) (by omega) fun p7 H7 hp7 s7 o7 e7 => ?_
        walk_at "rd"
        refine i_tupL (.of e7) fun p8 H8 hp8 s8 e8 o8 => ?_
        refine i_lcE (s8 _ _ (s7 _ _ eD)) (by rw [refB_len]; omega) fun H9 e9 o9 => ⟨fun c o ec => ?_, cs ++ [(p8, srt b.2)], by rw [refB_app]; rfl, ?_, ?_⟩
        · rw [o9 c (ne_of_none ec hD)]
          exact s8 _ _ (s7 _ _ (s6 _ _ ec))
        · refine TsAt.snoc (lst_keep (s8 _ _ (s7 _ _ eD)) o9) ((tc.mono s7).mono s8) ?_
          show H9 p8 = _
          rw [o9 _ (fun z : p8 = D => by rw [z] at e8; rw [s8 _ _ (s7 _ _ eD)] at e8; cases e8), e8]
        · rw [take_snoc hbj, List.map_append, List.map_append, hc]
          rfl
      · rintro D ys H6 hD eD ⟨s6, cs, rfl, tc, hc⟩
        rw [refB_len, ← List.length_map (as := bs) (f := (·.2)), List.take_length, hb5] at hc
        have lc : cs.length ≤ 256 := by
          have h1 := congrArg List.length hc
          rw [List.length_map, List.length_map, ← hb5, List.length_map] at h1
          omega
        walk_at "rd"
        refine ⟨D, cs, rfl, eD, tc, by omega, fun c hcc => ?_, fun q7 H7 hq7 s7 e7 => ?_⟩
        · have h0 : (cs.map (·.2)).head? = some [] := by
            rw [hc, List.head?_map, up_head]
            show some (srt []) = some []
            unfold srt; rw [List.mergeSort_nil]
          rw [List.head?_map, hcc] at h0
          exact Option.some.inj h0
        have pb := srtB_perm cs
        have pl : (srtL (srtB cs)).Perm (srtB cs) := List.mergeSort_perm _ _
        refine ⟨q7, srtB cs, rfl, .l e7, fun b hb => s7 _ _ (tc b (pb.mem_iff.mp hb)), by rw [pb.length_eq]; omega, fun q8 H8 hq8 s8 e8 => ?_⟩
        have s58 := s6.trans (s7.trans s8)
        obtain ⟨up1, up2⟩ := ups_perm hN io.pw hks ah
        have x08 : LamX.ExtN H H8 := x04.trans (extN_of (s5.trans s58))
        refine k q8 H8 (srtL (srtB cs)) (FreeN.of (x04.trans (extN_of (s5.trans (s6.trans s7)))) hq8) x08 (T4.ext (s5.trans s58)) e8 (fun b hb => s8 _ _ (s7 _ _ (tc b (pb.mem_iff.mp (pl.mem_iff.mp hb))))) ?_
        rw [srtLB (by rw [hc]; exact up2), hc]
        exact srtU_of ((srtU_perm _).trans up1) (srtU_pw _)
abbrev s__law_pool : Stmt := top 45
theorem sc__law_pool : FnScope ["_law_cell_here"] ["_law_cell_here"] (defScope s__law_pool) := ⟨rfl, rfl, rfl, by decide +kernel, rfl, by decide +kernel, by decide +kernel⟩
theorem ok__law_pool {P : Program} {w : World} {K : PySem.W.Frag} {mg : Str → Option Value} {base : Heap} {f : Addr} {fd : FuncData} (F : L2.Fun K "_law_pool" "_law_pool" s__law_pool f fd) :
    FnOk P w K mg base (L2.CX P w) 1 f fd ["_law_cell_here"] spPool := by
  refine fnOk_mk F sc__law_pool (fun vs H Q E h => h.1) (fun cdv A outer s H vs Q E hr h => ?_)
  obtain ⟨_, c, rfl, k⟩ := h
  refine ⟨_, pss_one (ps_ret (pe_lst (pa_cons (pv 0) (pa_cons pe_int (pa_cons (pe_cmpR op_ge (pv 0) (pe_op op_pow pe_int pe_int) (nomark _)) pa_nil))))), ?_⟩
  try dsimp only [cxOf]
  walk_at "rd"
  walk_at "rd"
  refine i_lst1 (Nat.le_of_ble_eq_true rfl) fun p H2 hp s e ho => ?_
  exact k p H2 hp s ho ⟨_, _, _, e⟩
abbrev s__law_cell : Stmt := top 47
theorem sc__law_cell : FnScope ["_law_script", "_law_k"] ["_law_script", "_law_k"] (defScope s__law_cell) := ⟨rfl, rfl, rfl, by decide +kernel, rfl, by decide +kernel, by decide +kernel⟩
theorem ok__law_cell {P : Program} {w : World} {K : PySem.W.Frag} {mg : Str → Option Value} {base : Heap} {f : Addr} {fd : FuncData} (F : L2.Fun K "_law_cell" "_law_cell" s__law_cell f fd)
    (C_b_len : mg "len" = none) :
    FnOk P w K mg base (L2.CX P w) 1 f fd ["_law_script", "_law_k"] (spCell K) := by
  refine fnOk_mk F sc__law_cell (fun vs H Q E h => h.1) (fun cdv A outer s H vs Q E hr h => ?_)
  obtain ⟨_, a, ns, i, rfl, hs, k⟩ := h
  refine ⟨_, pss_cons (ps_if (pt_cmpR op_lt (pv 1) (pe_callB (k_len (K := K) rfl) (by rfl) C_b_len (by decide +kernel) (pa_cons (pv 0) pa_nil)) (nomark _)) (pss_one (ps_ret (pe_ix ix_list (pv 0) (pv 1) (fun _ _ => rfl)))) (pss_nil))
    (pss_one (ps_ret pe_int)), ?_⟩
  try dsimp only [cxOf]
  walk_at "rd"
  refine ⟨a, _, rfl, .inl hs, ?_⟩
  walk_at "rd"
  refine i_dec (fun e => ?_) (fun e => ?_)
  · walk_at "rd"
    have hlt : i < ns.length := by
      rw [List.length_map] at e
      omega
    refine i_ixL hs (v := V.int ns[i]) (by simp [hlt]) ?_
    exact k _
  · walk_at "rd"
    exact k 0
abbrev s__law_take : Stmt := top 46
theorem sc__law_take : FnScope ["_law_pool_here", "_law_limit", "_law_drawn", "_law_mixed"] ["_law_pool_here", "_law_limit"] (defScope s__law_take) := ⟨rfl, rfl, rfl, by decide +kernel, rfl, by decide +kernel, by decide +kernel⟩
theorem ok__law_take {P : Program} {w : World} {K : PySem.W.Frag} {mg : Str → Option Value} {base : Heap} {f : Addr} {fd : FuncData} (F : L2.Fun K "_law_take" "_law_take" s__law_take f fd)
    (C_b_int : mg "int" = none) :
    FnOk P w K mg base (L2.CX P w) 1 f fd ["_law_pool_here", "_law_limit"] spTake := by
  refine fnOk_mk F sc__law_take (fun vs H Q E h => h.1) (fun cdv A outer s H vs Q E hr h => ?_)
  obtain ⟨_, p, l, rfl, ⟨c, k0, fl, hp⟩, h0, hz, k⟩ := h
  refine ⟨_, pss_cons (ps_asg (pe_op op_add (pe_ix ix_list (pv 0) pe_int (fun _ _ => rfl)) pe_int) (pg_sub (pv 0) pe_int set_list))
    (pss_cons (ps_if (pt_val (pe_ix ix_list (pv 0) pe_int (fun _ _ => rfl))) (pss_cons (ps_set (i := 2) sc__law_take.nd rfl (Or.inl rfl) (pe_op op_mod (pe_callTy call_int1 (by rfl) C_b_int (by decide +kernel) (pa_cons (pe_ix ix_list (pv 0) pe_int (fun _ _ => rfl)) pa_nil)) (pv 1)))
    (pss_cons (ps_asg (pe_op op_fdivZ (pe_callTy call_int1 (by rfl) C_b_int (by decide +kernel) (pa_cons (pe_ix ix_list (pv 0) pe_int (fun _ _ => rfl)) pa_nil)) (pv 1)) (pg_sub (pv 0) pe_int set_list))
    (pss_one (ps_ret (pv 2))))) (pss_nil))
    (pss_cons (ps_set (i := 3) sc__law_take.nd rfl (Or.inl rfl) (pe_op op_mod (pe_callTy call_int1 (by rfl) C_b_int (by decide +kernel) (pa_cons (pe_op op_add (pe_op op_add (pe_op op_mul (pe_ix ix_list (pv 0) pe_int (fun _ _ => rfl)) pe_int) (pe_op op_mul (pe_ix ix_list (pv 0) pe_int (fun _ _ => rfl)) pe_int)) pe_int) pa_nil)) pe_int))
    (pss_one (ps_ret (pe_op op_mod (pe_op op_fdivZ (pe_callTy call_int1 (by rfl) C_b_int (by decide +kernel) (pa_cons (pe_op op_mod (pe_op op_pow (pv 3) pe_int) pe_int) pa_nil)) pe_int) (pv 1)))))), ?_⟩
  try dsimp only [cxOf]
  walk_at "rd"
  refine i_ix1 (SqL.of hp) ?_
  walk_at "rd"
  refine i_setL (ys := [V.int c, V.int (k0 + 1), V.bl fl]) hp rfl rfl fun H2 e2 s2 => ?_
  have cl : ∀ i, CDivZ i l := fun i => cdivZ (by omega) hz
  walk_at "rd"
  refine i_ix2 (SqL.of e2) ?_
  walk_at "rd"
  cases fl
  · walk_at "rd"
    refine i_ix0 (SqL.of e2) ?_
    walk_at "rd"
    refine i_ix1 (SqL.of e2) ?_
    walk_at "rd"
    refine .inl ⟨_, rfl, ?_⟩
    walk_at "rd"
    refine i_rI ⟨by decide, by decide, ?_⟩ ?_
    · have h1 := Int.emod_lt_of_pos (c * 7919 + (k0 + 1) * 104729 + 13) (show (0 : Int) < 2147483647 by decide)
      have h2 := Int.emod_nonneg (c * 7919 + (k0 + 1) * 104729 + 13) (show (2147483647 : Int) ≠ 0 by decide)
      omega
    walk_at "rd"
    refine .inl ⟨_, rfl, ?_⟩
    walk_at "rd"
    exact k _ H2 (Int.emod_nonneg _ (by omega)) (Int.emod_lt_of_pos _ h0) s2 ⟨_, _, _, e2⟩
  · walk_at "rd"
    refine i_ix0 (SqL.of e2) ?_
    walk_at "rd"
    refine .inl ⟨_, rfl, ?_⟩
    walk_at "rd"
    refine i_ix0 (SqL.of e2) ?_
    walk_at "rd"
    refine .inl ⟨_, rfl, ?_⟩
    walk_at "rd"
    refine i_rI (cl _) ?_
    walk_at "rd"
    refine i_setL (ys := [V.int (c.fdiv l), V.int (k0 + 1), V.bl true]) e2 rfl rfl fun H3 e3 s3 => ?_
    walk_at "rd"
    exact k _ H3 (Int.emod_nonneg _ (by omega)) (Int.emod_lt_of_pos _ h0) (fun b hb => (s3 b hb).trans (s2 b hb)) ⟨_, _, _, e3⟩
theorem erase_perm {α : Type} : ∀ {l : List α} {k : Nat} {v : α}, l[k]? = some v → (v :: l.eraseIdx k).Perm l
  | [], k, v, h => by simp at h
  | x :: l, 0, v, h => by
    have e : x = v := by simpa using h
    subst e
    exact .refl _
  | x :: l, k + 1, v, h => by
    have h2 : l[k]? = some v := by simpa using h
    exact (List.Perm.swap x v (l.eraseIdx k)).trans ((erase_perm h2).cons x)
theorem map_erase {α β : Type} (f : α → β) : ∀ (l : List α) (k : Nat), (l.map f).eraseIdx k = (l.eraseIdx k).map f
  | [], k => by simp
  | x :: l, 0 => rfl
  | x :: l, k + 1 => by
    show f x :: ((l.map f).eraseIdx k) = _
    rw [map_erase f l k]
    rfl
theorem sz8 {l : Int} (h : l.natAbs ≤ 8) : ZR.Sz 8000 l := ZR.Sz.mono (n := 10) (Nat.lt_of_le_of_lt h (by decide +kernel)) (by decide)
def MENU : List Str := ["a", "b", "c", "x1", "x10", "y", "abcdefgh", "d9"]
theorem MENU_nodup : MENU.Nodup := by
  have h : (decide MENU.Nodup) = true := by decide +kernel
  exact of_decide_eq_true h
theorem MENU_ok : ∀ z ∈ MENU, nameB z = true := by
  have h : (MENU.all nameB) = true := by decide +kernel
  exact fun z hz => List.all_eq_true.mp h z hz
def spNames : Sp := fun vs H Q _ => vs.length = 2 ∧ ∃ (p : Addr) (n : Nat), vs = [.ref p, .int n] ∧ Pool H p ∧ n ≤ 8 ∧
  ∀ (q : Addr) (H' : Hp) (zs : List Str), H q = none → But p H H' → Pool H' p → H' q = some (.lst (zs.map V.str)) → zs.length = n → zs.Nodup → (∀ z ∈ zs, z ∈ MENU) → Q (.ref q) H'
/-- one drawn: from rest to zs -/
theorem draw_perm {zs rest : List Str} {k : Nat} {v : Str} {M : List Str} (h : (zs ++ rest).Perm M) (e : rest[k]? = some v) : ((zs ++ [v]) ++ rest.eraseIdx k).Perm M := by
  rw [List.append_assoc]
  exact ((erase_perm e).append_left zs).trans h
def spLPairs : Sp := fun vs H Q _ => vs.length = 2 ∧ ∃ (p b : Addr) (zs : List Str), vs = [.ref p, .ref b] ∧ Pool H p ∧ b ≠ p ∧ H b = some (.lst (zs.map V.str)) ∧ zs.length ≤ 8 ∧ zs.Nodup ∧
  ∀ (q : Addr) (H' : Hp) (E : List (Str × Str)), H q = none → But p H H' → Pool H' p → LPr H' q E → (∀ e ∈ E, e.1 ∈ zs ∧ e.2 ∈ zs) → E.length ≤ 64 → OM.Anti E → Q (.ref q) H'
def rForR2 (g : TG) (tb : TS) (D : Ends) (σ : L2.St) (vs : List V) (H1 : Hp) : Prop := ∃ i j : Int, vs = [.int i, .int j] ∧ (-(2 ^ 62) ≤ i ∧ i < 2 ^ 62 ∧ -(2 ^ 62) ≤ j ∧ j < 2 ^ 62) ∧ rFor (Itr i (j - i).toNat) g tb D σ H1
section
variable {σ : L2.St} {H : Hp} {D : Ends} {tr : TA} {g : TG}
theorem i_forR20 {tb : TS} (h : tr σ H (fun vs H1 => rForR2 g tb D σ vs H1)) : tFor (iRng2 tr) g tb D σ H := h
theorem i_forR2 {l n : Nat} {i j : Int} {tb : TS} (hi : i = (l : Int)) (hj : j = (n : Int)) (hl : l ≤ n) (hn : n < 1000000) (Pv : Nat → L2.St → Hp → Prop) (h0 : Pv l σ H)
    (hs : ∀ k σ H, l ≤ k → k < n → Pv k σ H → g (.int (k : Nat)) σ H fun σ2 H2 => tb { D with nx := Pv (k + 1), ct := Pv (k + 1), bk := D.nx } σ2 H2) (hd : ∀ σ H, Pv n σ H → D.nx σ H) : rForR2 g tb D σ [.int i, .int j] H := by
  refine ⟨i, j, rfl, by omega, ?_⟩
  have e : (j - i).toNat = n - l := by omega
  rw [e, hi]
  refine for_range (fun k => Pv (l + k)) h0 (fun k σ H hk p => ?_) fun σ H p => hd σ H ?_
  · have := hs (l + k) σ H (by omega) (by omega) p
    rw [show ((l + k : Nat) : Int) = (l : Int) + (k : Int) by omega] at this
    exact this
  · rw [show n = l + (n - l) by omega]
    exact p
end
theorem But.same {a : Addr} {H H' : Hp} (t : But a H H') {H0 : Hp} (n : H0 a = none) (s : Same H0 H) : Same H0 H' := fun b o e => t b o (ne_of_none e n) (s _ _ e)
theorem But.trans {a : Addr} {H H1 H2 : Hp} (s : But a H H1) (t : But a H1 H2) : But a H H2 := fun x o hx e => t x o hx (s x o hx e)
theorem But.of {a : Addr} {H H' : Hp} (s : Same H H') : But a H H' := fun x o _ e => s _ _ e
abbrev s__law_names : Stmt := top 48
theorem sc__law_names : FnScope ["_law_pool_here", "_law_many", "_law_menu", "_law_found", "_law_k"] ["_law_pool_here", "_law_many"] (defScope s__law_names) := ⟨rfl, rfl, rfl, by decide +kernel, rfl, by decide +kernel, by decide +kernel⟩
theorem ok__law_names {P : Program} {w : World} {K : PySem.W.Frag} {mg : Str → Option Value} {base : Heap} {f : Addr} {fd : FuncData} (F : L2.Fun K "_law_names" "_law_names" s__law_names f fd)
    (C_b_len : mg "len" = none)
    (C_b_range : mg "range" = none)
    (C_f_law_take : Cal P w K mg base "_law_take" 1 spTake) :
    FnOk P w K mg base (L2.CX P w) 2 f fd ["_law_pool_here", "_law_many"] spNames := by
  refine fnOk_mk F sc__law_names (fun vs H Q E h => h.1) (fun cdv A outer s H vs Q E hr h => ?_)
  obtain ⟨_, p, n, rfl, hp, hn, k⟩ := h
  refine ⟨_, pss_cons (ps_set (i := 2) sc__law_names.nd rfl (Or.inl rfl) (pe_lst (pa_cons pe_str (pa_cons pe_str (pa_cons pe_str (pa_cons pe_str (pa_cons pe_str (pa_cons pe_str (pa_cons pe_str (pa_cons pe_str pa_nil))))))))))
    (pss_cons (ps_set (i := 3) sc__law_names.nd rfl (Or.inl rfl) (pe_lst pa_nil))
    (pss_cons (ps_for (passes_of rfl) rfl (pi_range1 (by rfl) C_b_range (pa_cons (pv 1) pa_nil)) (pg_name (i := 4) sc__law_names.nd rfl (Or.inl rfl)) (pss_one (ps_expr (pe_bm PySem.F.plainAttrs_list PySem.F.slot_list_append PySem.F.type_list_append mt_append (pv 3) (pa_cons (pe_bm PySem.F.plainAttrs_list PySem.F.slot_list_pop PySem.F.type_list_pop mt_popAt (pv 2) (pa_cons (z_callC C_f_law_take hr passN (pa_cons (pv 0) (pa_cons (pe_callB (k_len (K := K) rfl) (by rfl) C_b_len (by decide +kernel) (pa_cons (pv 2) pa_nil)) pa_nil))) pa_nil)) pa_nil)))))
    (pss_one (ps_ret (pv 3))))), ?_⟩
  try dsimp only [cxOf]
  walk_at "rd"
  refine i_lst1 (Nat.le_of_ble_eq_true rfl) fun pm H1 hpm s1 e1 ho1 => ?_
  walk_at "rd"
  refine i_lst1 (Nat.le_of_ble_eq_true rfl) fun pf H2 hpf s2 e2 ho2 => ?_
  walk_at "rd"
  have pmn : pm ≠ p := fun z => by obtain ⟨c, k, f, e⟩ := hp; rw [z, e] at hpm; cases hpm
  have pfn : pf ≠ p := fun z => by obtain ⟨c, k, f, e⟩ := hp; rw [z, s1 _ _ e] at hpf; cases hpf
  have pfm : pf ≠ pm := fun z => by rw [z, e1] at hpf; cases hpf
  have hpfH : H pf = none := by
    cases z : H pf with
    | none => rfl
    | some o => rw [s1 _ _ z] at hpf; cases hpf
  refine i_forR (n := n) rfl (by omega) (fun i σ H' => ∃ (zs rest : List Str) (v : Option V), σ = [some (.ref p), some (.int (n : Nat)), some (.ref pm), some (.ref pf), v] ∧ H' pm = some (.lst (rest.map V.str)) ∧ H' pf = some (.lst (zs.map V.str)) ∧ zs.length = i ∧ (zs ++ rest).Perm MENU ∧ But p H H' ∧ Pool H' p)
    ⟨[], MENU, _, rfl, s2 _ _ e1, e2, rfl, .refl _, .of (s1.trans s2), ?_⟩ ?_ ?_
  · obtain ⟨c, k, f, e⟩ := hp
    exact ⟨c, k, f, s2 _ _ (s1 _ _ e)⟩
  · rintro i σ H3 hi ⟨zs, rest, v, rfl, em, ef, hz, perm, bt, pl⟩
    have hrl : zs.length + rest.length = 8 := by have := perm.length_eq; rw [List.length_append] at this; exact this
    walk_at "rd"
    refine ⟨tyL ef, ?_⟩
    walk_at "rd"
    refine ⟨tyL em, ?_⟩
    walk_at "rd"
    refine i_lenL (SqL.of em) ?_
    rw [List.length_map]
    walk_at "rd"
    refine i_take pl (by omega) (sz8 (show ((rest.length : Nat) : Int).natAbs ≤ 8 by omega)) fun r H4 r0 r1 o4 pl4 => ?_
    obtain ⟨m, rfl⟩ : ∃ m : Nat, r = (m : Int) := ⟨r.toNat, by omega⟩
    walk_at "rd"
    have hm : m < rest.length := by omega
    have hv : rest[m]? = some rest[m] := by simp [hm]
    refine i_popAt (k := m) (v := .str rest[m]) (by rw [o4 _ pmn]; exact em) (by rw [List.length_map]; omega) (by rw [List.getElem?_map, hv]; rfl) fun H5 e5 o5 => ?_
    walk_at "rd"
    refine i_app (xs := zs.map V.str) (by rw [o5 _ pfm, o4 _ pfn]; exact ef) (by rw [List.length_map]; omega) fun H6 e6 o6 => ?_
    walk_at "rd"
    refine ⟨zs ++ [rest[m]], rest.eraseIdx m, _, rfl, ?_, by rw [e6, List.map_append]; rfl, by rw [List.length_append, hz]; rfl, draw_perm perm hv, ?_, ?_⟩
    · rw [o6 _ (Ne.symm pfm), e5, map_erase]
    · intro x o hx e
      rw [o6 x (ne_of_none e hpfH), o5 x (ne_of_none e hpm), o4 x hx]
      exact bt x o hx e
    · obtain ⟨c, k, f, e⟩ := pl4
      exact ⟨c, k, f, by rw [o6 _ (Ne.symm pfn), o5 _ (Ne.symm pmn)]; exact e⟩
  · rintro σ H3 ⟨zs, rest, v, rfl, em, ef, hz, perm, bt, pl⟩
    walk_at "rd"
    refine k pf H3 zs hpfH bt pl ef hz ?_ fun z hz => perm.mem_iff.mp (List.mem_append_left _ hz)
    exact (List.nodup_append.mp (perm.nodup_iff.mpr MENU_nodup)).1
/-- pairs of a line: the first one stands ahead of the second -/
def Ahead (ls : List Str) (E : List (Str × Str)) : Prop := ∀ e ∈ E, ∃ (i j : Nat), i < j ∧ ls[i]? = some e.1 ∧ ls[j]? = some e.2
theorem idx_nodup {ls : List Str} (h : ls.Nodup) {i : Nat} {z : Str} (e : ls[i]? = some z) : ls.idxOf z = i := by
  obtain ⟨hi, e⟩ := List.getElem?_eq_some_iff.mp e
  subst e
  exact h.idxOf_getElem i hi
theorem ahead_anti {ls : List Str} {E : List (Str × Str)} (h : ls.Nodup) (a : Ahead ls E) : OM.Anti E := by
  refine OM.anti_rank (fun z => ls.idxOf z) fun e he => .inr ?_
  obtain ⟨i, j, lt, e1, e2⟩ := a e he
  rw [idx_nodup h e1, idx_nodup h e2]
  exact lt
abbrev s__law_pairs : Stmt := top 49
theorem sc__law_pairs : FnScope ["_law_pool_here", "_law_names_here", "_law_row", "_law_line", "_law_k", "_law_found", "_law_dense", "_law_i", "_law_j"] ["_law_pool_here", "_law_names_here"] (defScope s__law_pairs) := ⟨rfl, rfl, rfl, by decide +kernel, rfl, by decide +kernel, by decide +kernel⟩
theorem ok__law_pairs {P : Program} {w : World} {K : PySem.W.Frag} {mg : Str → Option Value} {base : Heap} {f : Addr} {fd : FuncData} (F : L2.Fun K "_law_pairs" "_law_pairs" s__law_pairs f fd)
    (C_b_len : mg "len" = none)
    (C_b_list : mg "list" = none)
    (C_b_range : mg "range" = none)
    (C_f_law_take : Cal P w K mg base "_law_take" 1 spTake) :
    FnOk P w K mg base (L2.CX P w) 2 f fd ["_law_pool_here", "_law_names_here"] spLPairs := by
  refine fnOk_mk F sc__law_pairs (fun vs H Q E h => h.1) (fun cdv A outer s H vs Q E hr h => ?_)
  obtain ⟨_, p, b, zs, rfl, hp, hbp, hb, hz, hnd, k⟩ := h
  refine ⟨_, pss_cons (ps_set (i := 2) sc__law_pairs.nd rfl (Or.inl rfl) (pe_callTy (k_listA (K := K) rfl) (by rfl) C_b_list (by decide +kernel) (pa_cons (pv 1) pa_nil)))
    (pss_cons (ps_set (i := 3) sc__law_pairs.nd rfl (Or.inl rfl) (pe_lst pa_nil))
    (pss_cons (ps_for (passes_of rfl) rfl (pi_range1 (by rfl) C_b_range (pa_cons (pe_callB (k_len (K := K) rfl) (by rfl) C_b_len (by decide +kernel) (pa_cons (pv 1) pa_nil)) pa_nil)) (pg_name (i := 4) sc__law_pairs.nd rfl (Or.inl rfl)) (pss_one (ps_expr (pe_bm PySem.F.plainAttrs_list PySem.F.slot_list_append PySem.F.type_list_append mt_append (pv 3) (pa_cons (pe_bm PySem.F.plainAttrs_list PySem.F.slot_list_pop PySem.F.type_list_pop mt_popAt (pv 2) (pa_cons (z_callC C_f_law_take hr passN (pa_cons (pv 0) (pa_cons (pe_callB (k_len (K := K) rfl) (by rfl) C_b_len (by decide +kernel) (pa_cons (pv 2) pa_nil)) pa_nil))) pa_nil)) pa_nil)))))
    (pss_cons (ps_set (i := 5) sc__law_pairs.nd rfl (Or.inl rfl) (pe_lst pa_nil))
    (pss_cons (ps_set (i := 6) sc__law_pairs.nd rfl (Or.inl rfl) (pe_op op_add pe_int (z_callC C_f_law_take hr passN (pa_cons (pv 0) (pa_cons pe_int pa_nil)))))
    (pss_cons (ps_for (passes_of rfl) rfl (pi_range1 (by rfl) C_b_range (pa_cons (pe_callB (k_len (K := K) rfl) (by rfl) C_b_len (by decide +kernel) (pa_cons (pv 3) pa_nil)) pa_nil)) (pg_name (i := 7) sc__law_pairs.nd rfl (Or.inl rfl)) (pss_one (ps_for (passes_of rfl) rfl (pi_range2 (by rfl) C_b_range (pa_cons (pe_op op_add (pv 7) pe_int) (pa_cons (pe_callB (k_len (K := K) rfl) (by rfl) C_b_len (by decide +kernel) (pa_cons (pv 3) pa_nil)) pa_nil))) (pg_name (i := 8) sc__law_pairs.nd rfl (Or.inl rfl)) (pss_one (ps_if (pt_cmpR op_eq (z_callC C_f_law_take hr passN (pa_cons (pv 0) (pa_cons (pv 6) pa_nil))) pe_int (nomark _)) (pss_one (ps_expr (pe_bm PySem.F.plainAttrs_list PySem.F.slot_list_append PySem.F.type_list_append mt_append (pv 5) (pa_cons (pe_tup (pa_cons (pe_ix ix_list (pv 3) (pv 7) (fun _ _ => rfl)) (pa_cons (pe_ix ix_list (pv 3) (pv 8) (fun _ _ => rfl)) pa_nil))) pa_nil)))) (pss_nil))))))
    (pss_one (ps_ret (pv 5)))))))), ?_⟩
  try dsimp only [cxOf]
  walk_at "rd"
  refine i_listA (SqA.l hb) fun pm H1 hpm s1 e1 ho1 => ?_
  walk_at "rd"
  refine i_lst1 (Nat.le_of_ble_eq_true rfl) fun pl H2 hpl s2 e2 ho2 => ?_
  walk_at "rd"
  refine i_lenL (SqL.of (s2 _ _ (s1 _ _ hb))) ?_
  rw [List.length_map]
  walk_at "rd"
  have pmn : pm ≠ p := fun z => by obtain ⟨c, k, f, e⟩ := hp; rw [z, e] at hpm; cases hpm
  have pln : pl ≠ p := fun z => by obtain ⟨c, k, f, e⟩ := hp; rw [z, s1 _ _ e] at hpl; cases hpl
  have plm : pl ≠ pm := fun z => by rw [z, e1] at hpl; cases hpl
  have hplH : H pl = none := by
    cases z : H pl with
    | none => rfl
    | some o => rw [s1 _ _ z] at hpl; cases hpl
  refine i_forR (n := zs.length) rfl (by omega) (fun i σ H' => ∃ (ls rest : List Str) (v : Option V), σ = [some (.ref p), some (.ref b), some (.ref pm), some (.ref pl), v, none, none, none, none] ∧ H' pm = some (.lst (rest.map V.str)) ∧ H' pl = some (.lst (ls.map V.str)) ∧ ls.length = i ∧ (ls ++ rest).Perm zs ∧ But p H H' ∧ Pool H' p)
    ⟨[], zs, _, rfl, s2 _ _ e1, e2, rfl, .refl _, .of (s1.trans s2), ?_⟩ ?_ ?_
  · obtain ⟨c, k, f, e⟩ := hp
    exact ⟨c, k, f, s2 _ _ (s1 _ _ e)⟩
  · rintro i σ H3 hi ⟨ls, rest, v, rfl, em, ef, hls, perm, bt, hpo⟩
    have hrl : ls.length + rest.length = zs.length := by have := perm.length_eq; rw [List.length_append] at this; exact this
    walk_at "rd"
    refine ⟨tyL ef, ?_⟩
    walk_at "rd"
    refine ⟨tyL em, ?_⟩
    walk_at "rd"
    refine i_lenL (SqL.of em) ?_
    rw [List.length_map]
    walk_at "rd"
    refine i_take hpo (by omega) (sz8 (show ((rest.length : Nat) : Int).natAbs ≤ 8 by omega)) fun r H4 r0 r1 o4 pl4 => ?_
    obtain ⟨m, rfl⟩ : ∃ m : Nat, r = (m : Int) := ⟨r.toNat, by omega⟩
    walk_at "rd"
    have hm : m < rest.length := by omega
    have hv : rest[m]? = some rest[m] := by simp [hm]
    refine i_popAt (k := m) (v := .str rest[m]) (by rw [o4 _ pmn]; exact em) (by rw [List.length_map]; omega) (by rw [List.getElem?_map, hv]; rfl) fun H5 e5 o5 => ?_
    walk_at "rd"
    refine i_app (xs := ls.map V.str) (by rw [o5 _ plm, o4 _ pln]; exact ef) (by rw [List.length_map]; omega) fun H6 e6 o6 => ?_
    walk_at "rd"
    refine ⟨ls ++ [rest[m]], rest.eraseIdx m, _, rfl, ?_, by rw [e6, List.map_append]; rfl, by rw [List.length_append, hls]; rfl, draw_perm perm hv, ?_, ?_⟩
    · rw [o6 _ (Ne.symm plm), e5, map_erase]
    · intro x o hx e
      rw [o6 x (ne_of_none e hplH), o5 x (ne_of_none e hpm), o4 x hx]
      exact bt x o hx e
    · obtain ⟨c, k, f, e⟩ := pl4
      exact ⟨c, k, f, by rw [o6 _ (Ne.symm pln), o5 _ (Ne.symm pmn)]; exact e⟩
  · rintro σ H3 ⟨ls, rest, v, rfl, em, ef, hls, perm, bt, hpo⟩
    have hr0 : rest = [] := by
      have := perm.length_eq
      rw [List.length_append] at this
      exact List.eq_nil_of_length_eq_zero (by omega)
    subst hr0
    rw [List.append_nil] at perm
    have hlnd := perm.nodup_iff.mpr hnd
    walk_at "rd"
    refine i_lst1 (Nat.le_of_ble_eq_true rfl) fun q H4 hq s4 e4 ho4 => ?_
    walk_at "rd"
    have hpo4 : Pool H4 p := by
      obtain ⟨c, k, f, e⟩ := hpo
      exact ⟨c, k, f, s4 _ _ e⟩
    refine i_take hpo4 (by decide) (ZR.sz_of (by decide +kernel)) fun r H5 r0 r1 o5 pl5 => ?_
    have qp : q ≠ p := fun z => by obtain ⟨c, k, f, e⟩ := hpo; rw [z, e] at hq; cases hq
    have ql : q ≠ pl := fun z => by rw [z, ef] at hq; cases hq
    have hqH : H q = none := by
      cases z : H q with
      | none => rfl
      | some o =>
        have := bt q o qp z
        rw [hq] at this
        cases this
    walk_at "rd"
    have el5 : H5 pl = some (.lst (ls.map V.str)) := by rw [o5 _ pln]; exact s4 _ _ ef
    refine i_lenL (SqL.of el5) ?_
    rw [List.length_map, hls]
    walk_at "rd"
    refine i_forR (n := zs.length) rfl (by omega) (fun i σ H' => ∃ (E : List (Str × Str)) (v7 v8 : Option V), σ = [some (.ref p), some (.ref b), some (.ref pm), some (.ref pl), v, some (.ref q), some (.int (2 + r)), v7, v8] ∧ H' pl = some (.lst (ls.map V.str)) ∧ LPr H' q E ∧ Ahead ls E ∧ E.length ≤ i * 8 ∧ But p H H' ∧ Pool H' p)
      ⟨[], _, _, rfl, el5, ⟨[], by rw [o5 _ qp]; exact e4, .nil⟩, fun e he => absurd he (by simp), by simp, fun x o hx e => by rw [o5 x hx]; exact s4 _ _ (bt x o hx e), pl5⟩ ?_ ?_
    · rintro i σ H6 hi ⟨E, v7, v8, rfl, el, lp, ah, le, bt6, po6⟩
      walk_at "rd"
      refine i_forR20 ?_
      walk_at "rd"
      refine i_lenL (SqL.of el) ?_
      rw [List.length_map, hls]
      walk_at "rd"
      refine i_forR2 (l := i + 1) (n := zs.length) (by omega) rfl (by omega) (by omega) (fun j σ H' => ∃ (E : List (Str × Str)) (v8 : Option V), σ = [some (.ref p), some (.ref b), some (.ref pm), some (.ref pl), v, some (.ref q), some (.int (2 + r)), some (.int (i : Nat)), v8] ∧ H' pl = some (.lst (ls.map V.str)) ∧ LPr H' q E ∧ Ahead ls E ∧ E.length ≤ i * 8 + j ∧ But p H H' ∧ Pool H' p)
        ⟨E, v8, rfl, el, lp, ah, by omega, bt6, po6⟩ ?_ ?_
      · rintro j σ H7 hj1 hj2 ⟨E, v8, rfl, el, lp, ah, le, bt7, po7⟩
        walk_at "rd"
        refine i_take po7 (by omega) (sz8 (show (2 + r).natAbs ≤ 8 by omega)) fun r2 H8 r20 r21 o8 po8 => ?_
        walk_at "rd"
        have el8 : H8 pl = some (.lst (ls.map V.str)) := by rw [o8 _ pln]; exact el
        refine i_dec (fun e => ?_) (fun e => ?_)
        · walk_at "rd"
          obtain ⟨qs, eq, tq⟩ := id lp
          have eq8 : H8 q = some (.lst (qs.map V.ref)) := by rw [o8 _ qp]; exact eq
          have lp8 : LPr H8 q E := ⟨qs, eq8, tq.keep fun c ys e => by
            rw [o8 c fun z => ?_]
            · exact e
            · obtain ⟨c', k', f', e'⟩ := po7
              rw [z, e'] at e
              cases e⟩
          refine ⟨tyL eq8, ?_⟩
          walk_at "rd"
          have hil : i < ls.length := by omega
          have hjl : j < ls.length := by omega
          have hi? : ls[i]? = some ls[i] := by simp [hil]
          have hj? : ls[j]? = some ls[j] := by simp [hjl]
          refine i_ixL (v := .str ls[i]) (SqL.of el8) (by rw [List.getElem?_map, hi?]; rfl) ?_
          walk_at "rd"
          refine i_ixL (v := .str ls[j]) (SqL.of el8) (by rw [List.getElem?_map, hj?]; rfl) ?_
          walk_at "rd"
          refine i_tup1 (by show 2 ≤ 100000; decide) fun u H9 hu s9 e9 ho9 => ?_
          walk_at "rd"
          have hql : qs.length = E.length := tq.1
          refine i_app (xs := qs.map V.ref) (s9 _ _ eq8) (by rw [List.length_map]; omega) fun H10 e10 o10 => ?_
          walk_at "rd"
          refine ⟨E ++ [(ls[i], ls[j])], _, rfl, by rw [o10 _ (Ne.symm ql)]; exact s9 _ _ el8, (lp8.mono s9).snoc (s9 _ _ eq8) e9 e10 o10, ?_, ?_, ?_, ?_⟩
          · intro e he
            rcases List.mem_append.mp he with h | h
            · exact ah e h
            · rw [List.mem_singleton.mp h]
              exact ⟨i, j, by omega, hi?, hj?⟩
          · rw [List.length_append]
            show _ + 1 ≤ _
            omega
          · intro x o hx e
            rw [o10 x (ne_of_none e hqH)]
            refine s9 _ _ ?_
            rw [o8 x hx]
            exact bt7 x o hx e
          · obtain ⟨c, k, f, e⟩ := po8
            exact ⟨c, k, f, by rw [o10 _ (Ne.symm qp)]; exact s9 _ _ e⟩
        · walk_at "rd"
          refine ⟨E, _, rfl, el8, ?_, ah, by omega, fun x o hx e => by rw [o8 x hx]; exact bt7 x o hx e, po8⟩
          obtain ⟨qs, eq, tq⟩ := lp
          exact ⟨qs, by rw [o8 _ qp]; exact eq, tq.keep fun c ys e => by
            rw [o8 c fun z => ?_]
            · exact e
            · obtain ⟨c', k', f', e'⟩ := po7
              rw [z, e'] at e
              cases e⟩
      · rintro σ H7 ⟨E, v8, rfl, el, lp, ah, le, bt7, po7⟩
        exact ⟨E, _, _, rfl, el, lp, ah, by omega, bt7, po7⟩
    · rintro σ H6 ⟨E, v7, v8, rfl, el, lp, ah, le, bt6, po6⟩
      walk_at "rd"
      refine k q H6 E hqH bt6 po6 lp (fun e he => ?_) (by omega) (ahead_anti hlnd ah)
      obtain ⟨i, j, _, e1, e2⟩ := ah e he
      exact ⟨perm.mem_iff.mp (List.mem_of_getElem? e1), perm.mem_iff.mp (List.mem_of_getElem? e2)⟩
/-- the law's own table: what is above each name, in any order -/
def LTab (H : Hp) (d : Addr) (N : List Str) (W : Str → List Str) : Prop := ∃ A, H d = some (.dK (rowsOf N A)) ∧ ∀ n ∈ N, H (A n) = some (.lst ((W n).map V.str))
theorem LTab.mono {H H' : Hp} {d : Addr} {N : List Str} {W : Str → List Str} (s : Same H H') (h : LTab H d N W) : LTab H' d N W := let ⟨A, h1, h2⟩ := h; ⟨A, s _ _ h1, fun n hn => s _ _ (h2 n hn)⟩
theorem LTab.keep {H H' : Hp} {d p : Addr} {o : HO} {N : List Str} {W : Str → List Str} (e : H p = some o) (n1 : ∀ ks, o ≠ .dK ks) (n2 : ∀ zs : List Str, o ≠ .lst (zs.map V.str)) (t : But p H H') (h : LTab H d N W) : LTab H' d N W := by
  obtain ⟨A, h1, h2⟩ := h
  refine ⟨A, t _ _ (fun z => ?_) h1, fun n hn => t _ _ (fun z => ?_) (h2 n hn)⟩
  · rw [z, e] at h1
    exact n1 _ (Option.some.inj h1)
  · have := h2 n hn
    rw [z, e] at this
    exact n2 _ (Option.some.inj this)
def spAbove (K : PySem.W.Frag) : Sp := fun vs H Q _ => vs.length = 2 ∧ ∃ (b c : Addr) (zs : List Str) (E : List (Str × Str)), vs = [.ref b, .ref c] ∧ SqA K H b (zs.map V.str) ∧ PrA K H c E ∧ zs.length ≤ 8 ∧ zs.Nodup ∧ (∀ p ∈ E, p.1 ∈ zs ∧ p.2 ∈ zs) ∧
  ∀ d H', H d = none → Same H H' → LTab H' d zs (OM.turns E zs.length fun x => [x]) → Q (.ref d) H'
theorem i_dnew {σ : L2.St} {H : Hp} {Q : VK} (h : ∀ p H', H p = none → Same H H' → H' p = some (.dK []) → (∀ b, b ≠ p → H' b = H b) → Q (.ref p) H') : tDNewK σ H Q := fun p hp => h p _ hp (same_new hp) upd_same fun b hb => upd_ne hb
/-- the table while it is made -/
structure LSt (H : Hp) (d : Addr) (L N : List Str) (A : Str → Addr) (W : Str → List Str) (H1 : Hp) : Prop where
  same : Same H H1
  dn : H d = none
  tab : H1 d = some (.dK (rowsOf L A))
  row : ∀ n ∈ L, H1 (A n) = some (.lst ((W n).map V.str))
  nd : ∀ n ∈ N, (W n).Nodup
  sub : ∀ n ∈ N, ∀ x ∈ W n, x ∈ N
theorem LSt.sames {H H1 H2 : Hp} {d : Addr} {L N : List Str} {A : Str → Addr} {W : Str → List Str} (c : LSt H d L N A W H1) (s : Same H1 H2) : LSt H d L N A W H2 := ⟨c.same.trans s, c.dn, s _ _ c.tab, fun n hn => s _ _ (c.row n hn), c.nd, c.sub⟩
theorem LSt.put {H H1 H2 : Hp} {d q : Addr} {N : List Str} {A : Str → Addr} {W : Str → List Str} {p : Str × Str} (c : LSt H d N N A W H1) (h1 : p.1 ∈ N) (h2 : p.2 ∈ N) (eq : H1 q = some (.lst ((W p.1 ++ (W p.2).filter fun x => !decide (x ∈ W p.1)).map V.str)))
    (e : H2 d = some (.dK (putK (rowsOf N A) (.inr p.1) (.ref q)))) (ho : ∀ b, b ≠ d → H2 b = H1 b) : LSt H d N N (setF A p.1 q) (OM.turn1 W p) H2 where
  same := fun b o eb => by
    rw [ho b (ne_of_none eb c.dn)]
    exact c.same _ _ eb
  dn := c.dn
  tab := by rw [e, rows_put h1]
  row := fun n hn => by
    have key : ∀ a xs, H1 a = some (.lst xs) → H2 a = some (.lst xs) := fun a xs ea => by
      rw [ho a fun z => ?_]
      · exact ea
      · rw [z, c.tab] at ea
        cases ea
    unfold OM.turn1 OM.put
    by_cases h : n = p.1
    · rw [if_pos h, h, setF_same]
      exact key _ _ eq
    · rw [if_neg h, setF_ne h]
      exact key _ _ (c.row n hn)
  nd := fun n hn => by
    unfold OM.turn1 OM.put
    split
    · refine List.nodup_append.mpr ⟨c.nd _ h1, (c.nd _ h2).filter _, ?_⟩
      intro x hx y hy e
      subst e
      have := (List.mem_filter.mp hy).2
      simp [hx] at this
    · exact c.nd n hn
  sub := fun n hn x hx => by
    unfold OM.turn1 OM.put at hx
    split at hx
    · rcases List.mem_append.mp hx with h | h
      · exact c.sub _ h1 x h
      · exact c.sub _ h2 x (List.mem_filter.mp h).1
    · exact c.sub n hn x hx
theorem turn_snoc {E : List (Str × Str)} {j : Nat} {e : Str × Str} {W : Str → List Str} (h : E[j]? = some e) : OM.turn (E.take (j + 1)) W = OM.turn1 (OM.turn (E.take j) W) e := by
  unfold OM.turn
  rw [take_snoc h, List.foldl_append]
  rfl
abbrev s__law_above : Stmt := top 50
theorem sc__law_above : FnScope ["_law_names_here", "_law_pairs_here", "_law_above_here", "_law_name", "_law_turn", "_law_low", "_law_high"] ["_law_names_here", "_law_pairs_here"] (defScope s__law_above) := ⟨rfl, rfl, rfl, by decide +kernel, rfl, by decide +kernel, by decide +kernel⟩
theorem ok__law_above {P : Program} {w : World} {K : PySem.W.Frag} {mg : Str → Option Value} {base : Heap} {f : Addr} {fd : FuncData} (F : L2.Fun K "_law_above" "_law_above" s__law_above f fd)
    (C_b_len : mg "len" = none)
    (C_b_range : mg "range" = none) :
    FnOk P w K mg base (L2.CX P w) 1 f fd ["_law_names_here", "_law_pairs_here"] (spAbove K) := by
  refine fnOk_mk F sc__law_above (fun vs H Q E h => h.1) (fun cdv A outer s H vs Q E hr h => ?_)
  obtain ⟨_, b, c, zs, E, rfl, hb, ⟨ps, hc, hp⟩, hz, hnd, hE, k⟩ := h
  refine ⟨_, pss_cons (ps_set (i := 2) sc__law_above.nd rfl (Or.inr rfl) pe_dnewK)
    (pss_cons (ps_for (passes_of rfl) rfl (pi_any (K := K) rfl (pv 0)) (pg_name (i := 3) sc__law_above.nd rfl (Or.inl rfl)) (pss_one (ps_dput (hu_of hr) (pv 2) (pv 3) (pe_lst (pa_cons (pv 3) pa_nil)) (by rfl))))
    (pss_cons (ps_for (passes_of rfl) rfl (pi_range1 (by rfl) C_b_range (pa_cons (pe_callB (k_len (K := K) rfl) (by rfl) C_b_len (by decide +kernel) (pa_cons (pv 0) pa_nil)) pa_nil)) (pg_name (i := 4) sc__law_above.nd rfl (Or.inl rfl)) (pss_one (ps_for (passes_of rfl) rfl (pi_any (K := K) rfl (pv 1)) (k_tup (K := K) (n := 2) rfl rfl (pgs_cons (pg_name (i := 5) sc__law_above.nd rfl (Or.inr rfl)) (pgs_cons (pg_name (i := 6) sc__law_above.nd rfl (Or.inl rfl)) pgs_nil))) (pss_one (ps_dput (hu_of hr) (pv 2) (pv 5) (pe_op op_cat (pe_dget (hu_of hr) (pv 2) (pv 5) (fun _ _ => rfl)) (pe_lc (own := [("_law_name", 3)]) (by rfl) sc__law_above.nd (pi_any (K := K) rfl (pe_dget (hu_of hr) (pv 2) (pv 6) (fun _ _ => rfl))) (blkOk_by (N := ["_law_names_here", "_law_pairs_here", "_law_above_here", "_law_name", "_law_turn", "_law_low", "_law_high"]) (sc := defScope s__law_above) (by decide +kernel)) (fun _ _ _ _ _ => pg_name (i := 3) sc__law_above.nd rfl (Or.inl rfl)) (fun _ _ _ _ _ => pts_one (pt_cmpR (k_notInS (K := K) rfl) (pv 3) (pe_dget (hu_of hr) (pv 2) (pv 5) (fun _ _ => rfl)) rfl)) (fun _ _ _ _ _ => pv 3))) (by rfl))))))
    (pss_one (ps_ret (pv 2))))), ?_⟩
  try dsimp only [cxOf]
  walk_at "rd"
  refine i_dnew fun d H1 hd s1 e1 o1 => ?_
  walk_at "rd"
  refine i_forA (H0 := H) (fun i σ H' => ∃ (A : Str → Addr) (v : Option V), σ = [some (.ref b), some (.ref c), some (.ref d), v, none, none, none] ∧ LSt H d (zs.take i) zs A (fun n => [n]) H') hb
    ⟨fun _ => d, _, rfl, s1, hd, by rw [e1, List.take_zero]; rfl, fun n hn => absurd hn (by simp), fun n hn => by simp, fun n hn x hx => by rw [List.mem_singleton.mp hx]; exact hn⟩ (fun i σ H' p => ?_) ?_ ?_
  · obtain ⟨_, _, _, st⟩ := p
    exact st.same
  · rintro i x σ H2 hx ⟨A, v, rfl, st⟩
    obtain ⟨n, hni, rfl⟩ := strs_at hx
    walk_at "rd"
    refine i_lst1 (Nat.le_of_ble_eq_true rfl) fun q H3 hq s3 e3 o3 => ?_
    have st3 := st.sames s3
    walk_at "rd"
    refine i_dput st3.tab (by rw [rows_len, List.length_take]; omega) fun H4 e4 o4 => ?_
    have hn : ¬ n ∈ zs.take i := by
      intro hm
      have := hnd.sublist (List.take_sublist (i + 1) zs)
      rw [take_snoc hni] at this
      exact (List.nodup_append.mp this).2.2 n hm n (List.mem_singleton.mpr rfl) rfl
    walk_at "rd"
    refine ⟨setF A n q, _, rfl, ?_, st3.dn, by rw [e4, rows_snoc hn, take_snoc hni], fun m hm => ?_, st3.nd, st3.sub⟩
    · intro x o e
      rw [o4 x (ne_of_none e hd)]
      exact st3.same _ _ e
    · have key : ∀ a xs, H3 a = some (.lst xs) → H4 a = some (.lst xs) := fun a xs ea => by
        rw [o4 a fun z => ?_]
        · exact ea
        · rw [z, st3.tab] at ea
          cases ea
      rw [take_snoc hni] at hm
      by_cases em : m = n
      · subst em
        rw [setF_same]
        exact key _ _ e3
      · rw [setF_ne em]
        rcases List.mem_append.mp hm with h | h
        · exact key _ _ (st3.row m h)
        · exact absurd (List.mem_singleton.mp h) em
  · rintro σ H2 ⟨A, v, rfl, st⟩
    rw [List.length_map, List.take_length] at st
    walk_at "rd"
    refine i_lenA (sameA st.same hb) ?_
    rw [List.length_map]
    walk_at "rd"
    refine i_forR (n := zs.length) rfl (by omega) (fun i σ H' => ∃ (A : Str → Addr) (v v4 v5 v6 : Option V), σ = [some (.ref b), some (.ref c), some (.ref d), v, v4, v5, v6] ∧ LSt H d zs zs A (OM.turns E i fun x => [x]) H')
      ⟨A, _, _, _, _, rfl, st⟩ ?_ ?_
    · rintro i σ H3 hi ⟨A, v, v4, v5, v6, rfl, st⟩
      walk_at "rd"
      refine i_forA (H0 := H) (fun j σ H' => ∃ (A : Str → Addr) (v v5 v6 : Option V), σ = [some (.ref b), some (.ref c), some (.ref d), v, some (.int (i : Nat)), v5, v6] ∧ LSt H d zs zs A (OM.turn (E.take j) (OM.turns E i fun x => [x])) H') hc
        ⟨A, _, _, _, rfl, st⟩ (fun i σ H' p => ?_) ?_ ?_
      · obtain ⟨_, _, _, _, _, st⟩ := p
        exact st.same
      · rintro j x σ H4 hx ⟨A, v, v5, v6, rfl, st⟩
        have lt := (List.getElem?_eq_some_iff.mp hx).1
        rw [hp.1] at lt
        have hej : E[j]? = some E[j] := by simp [lt]
        obtain ⟨q, rfl, eq⟩ := hp.2 j x E[j] hx hej
        obtain ⟨m1, m2⟩ := hE _ (List.getElem_mem lt)
        rw [turn_snoc hej]
        generalize OM.turn (E.take j) (OM.turns E i fun x => [x]) = W at *
        generalize E[j] = e at *
        obtain ⟨lo, hi'⟩ := e
        refine i_gtup (Same_seqT st.same eq) rfl ?_
        walk_at "rd"
        refine i_dget st.tab (rows_val m1) ?_
        walk_at "rd"
        refine i_dget st.tab (rows_val m2) ?_
        refine i_lcA (H0 := H4) (fun k ys H' => Same H4 H' ∧ ys = (((W hi').take k).filter fun x => !decide (x ∈ W lo)).map V.str) (SqA.l (st.row _ m2)) (Same.refl _) ?_ ?_ ?_ ?_
        · intro D H' hD sm e ho
          exact ⟨sm, rfl⟩
        · exact fun i ys H' p => p.1
        · rintro k x D ys H5 hD hx eD ⟨s5, rfl⟩
          obtain ⟨z, hzi, rfl⟩ := strs_at hx
          walk_at "rd"
          refine ⟨by with_unfolding_all rfl, ?_⟩
          walk_at "rd"
          refine i_dget (s5 _ _ st.tab) (rows_val m1) ?_
          refine i_notInS (SqA.l (s5 _ _ (st.row _ m1))) ?_
          walk_at "rd"
          refine i_bool (fun hb => ?_) (fun hb => ?_)
          · walk_at "rd"
            refine i_lcE eD ?_ fun H6 e6 o6 => ⟨fun b o eb => ?_, ?_⟩
            · rw [List.length_map]
              have h1 := List.length_filter_le (fun x => !decide (x ∈ W lo)) ((W hi').take k)
              have h2 := nodup_len (st.nd _ m2) (st.sub _ m2)
              rw [List.length_take] at h1
              show (List.filter (fun x => !decide (x ∈ W lo)) ((W hi').take k)).length < _
              have h2' : (W hi').length ≤ zs.length := h2
              omega
            · rw [o6 b (ne_of_none eb hD)]
              exact s5 _ _ eb
            · rw [take_snoc hzi, List.filter_append, List.map_append]
              simp at hb
              simp [hb]
          · refine ⟨_, eD, s5, ?_⟩
            rw [take_snoc hzi, List.filter_append, List.map_append]
            simp at hb
            simp [hb]
        · rintro D ys H5 hD eD ⟨s5, rfl⟩
          rw [List.length_map, List.take_length] at eD
          have st5 := st.sames s5
          have h1 : (W lo).length ≤ zs.length := nodup_len (st.nd _ m1) (st.sub _ m1)
          have h2 : (W hi').length ≤ zs.length := nodup_len (st.nd _ m2) (st.sub _ m2)
          have h3 := List.length_filter_le (fun x => !decide (x ∈ W lo)) (W hi')
          refine i_cat (st5.row _ m1) eD (by rw [List.length_map, List.length_map]; show (W lo).length + (List.filter (fun x => !decide (x ∈ W lo)) (W hi')).length ≤ _; omega) fun q2 H6 hq2 s6 e6 o6 => ?_
          have st6 := st5.sames s6
          walk_at "rd"
          refine i_dput st6.tab (by rw [rows_len]; omega) fun H7 e7 o7 => ?_
          walk_at "rd"
          exact ⟨_, _, _, _, rfl, st6.put (p := (lo, hi')) m1 m2 (by rw [e6, List.map_append]) e7 o7⟩
      · rintro σ H4 ⟨A, v, v5, v6, rfl, st⟩
        rw [hp.1, List.take_length, ← OM.turns_succ] at st
        exact ⟨_, _, _, _, _, rfl, st⟩
    · rintro σ H3 ⟨A, v, v4, v5, v6, rfl, st⟩
      walk_at "rd"
      exact k d H3 hd st.same ⟨A, st.tab, st.row⟩
/-- all but what stands at q -/
def del (q : Addr) (H : Hp) : Hp := fun x => if x = q then none else H x
theorem del_at {q x : Addr} {H : Hp} (h : x ≠ q) : del q H x = H x := if_neg h
theorem same_del {q : Addr} {H H' : Hp} (t : But q H H') : Same (del q H) H' := fun x o e => by
  by_cases h : x = q
  · rw [h] at e
    unfold del at e
    rw [if_pos rfl] at e
    cases e
  · rw [del_at h] at e
    exact t x o h e
theorem But.refl (a : Addr) (H : Hp) : But a H H := fun _ _ _ e => e
/-- lists of texts compared with a new list -/
theorem shaped_lstS {zs : List Str} (h : ∀ z ∈ zs, nameB z = true) : SeqAt.shaped (.list (zs.map PyData.str)) = true := by
  have := shaped_tupS h
  unfold SeqAt.shaped at *
  simpa [PyData.depth, PyData.canLay0] using this
theorem eqv_lstS (zs ws : List Str) : PyData.eqv (.list (zs.map PyData.str)) (.list (ws.map PyData.str)) = decide (zs = ws) := by
  show PyData.eqvAll _ _ = _
  exact eqv_strs zs ws
/-- what the law knows about its names and its table -/
structure Tbl (zs : List Str) (W : Str → List Str) (R : Str → Str → Bool) : Prop where
  len : zs.length ≤ 8
  nd : zs.Nodup
  ok : ∀ n ∈ zs, nameB n = true
  wnd : ∀ n ∈ zs, (W n).Nodup
  mem : ∀ n ∈ zs, ∀ x, x ∈ W n ↔ x ∈ zs ∧ R n x = true
  rf : ∀ a, R a a = true
theorem Tbl.srt {zs : List Str} {W : Str → List Str} {R : Str → Str → Bool} (t : Tbl zs W R) {n : Str} (hn : n ∈ zs) : srt (W n) = OM.ab (srt zs) R n :=
  srt_filter (srt_nodup t.nd) (srt_pw zs) (t.wnd n hn) fun a => by rw [t.mem n hn, mem_srt]
theorem Tbl.wlen {zs : List Str} {W : Str → List Str} {R : Str → Str → Bool} (t : Tbl zs W R) {n : Str} (hn : n ∈ zs) : (W n).length ≤ 8 :=
  Nat.le_trans (nodup_len (t.wnd n hn) fun x hx => ((t.mem n hn x).mp hx).1) t.len
theorem mem_of_rch {E : List (Str × Str)} {N : List Str} (hE : ∀ p ∈ E, p.1 ∈ N ∧ p.2 ∈ N) {a b : Str} (h : OM.Rch E a b) : a ∈ N → b ∈ N := by
  induction h with
  | refl => exact fun h => h
  | step e _ ih => exact fun _ => ih (hE _ e).2
theorem tbl_of {E : List (Str × Str)} {zs : List Str} (hl : zs.length ≤ 8) (hn : zs.Nodup) (ho : ∀ n ∈ zs, nameB n = true) (hE : ∀ p ∈ E, p.1 ∈ zs ∧ p.2 ∈ zs) : Tbl zs (OM.turns E zs.length fun x => [x]) (OM.cl E) where
  len := hl
  nd := hn
  ok := ho
  wnd := fun n _ => OM.turns_nodup n
  mem := fun n hn x => by
    rw [OM.turns_iff hE]
    exact ⟨fun h => ⟨mem_of_rch hE (OM.cl_iff.mp h) hn, h⟩, fun h => h.2⟩
  rf := OM.cl_refl E
theorem lcv_snoc {N : List Str} {i : Nat} {a : Str} {f g : Str → List Str} (h : N[i]? = some a) : OM.lcv (N.take (i + 1)) f g = OM.lcv (N.take i) f g ++ ((g a).filter fun b => !decide (b = a) && decide (((f a).filter fun c => !(decide (c = a) || decide (c = b)) && decide (b ∈ f c)) = [])).map fun b => (a, b) := by
  unfold OM.lcv
  rw [take_snoc h, List.flatMap_append]
  simp
theorem lcv_len {f g : Str → List Str} {m : Nat} : ∀ {N : List Str}, (∀ n ∈ N, (g n).length ≤ m) → (OM.lcv N f g).length ≤ N.length * m
  | [], _ => by simp [OM.lcv]
  | a :: N, h => by
    have ih := lcv_len (f := f) (g := g) (N := N) fun n hn => h n (List.mem_cons_of_mem _ hn)
    have h1 := List.length_filter_le (fun b => !decide (b = a) && decide (((f a).filter fun c => !(decide (c = a) || decide (c = b)) && decide (b ∈ f c)) = [])) (g a)
    have h2 := h a List.mem_cons_self
    unfold OM.lcv at ih ⊢
    rw [List.flatMap_cons, List.length_append, List.length_map, List.length_cons, Nat.succ_mul]
    omega
def spLCov (K : PySem.W.Frag) : Sp := fun vs H Q _ => vs.length = 2 ∧ ∃ (b c : Addr) (zs : List Str) (W : Str → List Str) (R : Str → Str → Bool), vs = [.ref b, .ref c] ∧ SqA K H b (zs.map V.str) ∧ LTab H c zs W ∧ Tbl zs W R ∧
  ∀ q H', H q = none → Same H H' → LPr H' q (OM.cvs (srt zs) R) → Q (.ref q) H'
abbrev s__law_covers : Stmt := top 51
theorem sc__law_covers : FnScope ["_law_names_here", "_law_above_here", "_law_found", "_law_low", "_law_high", "_law_between", "_law_name"] ["_law_names_here", "_law_above_here"] (defScope s__law_covers) := ⟨rfl, rfl, rfl, by decide +kernel, rfl, by decide +kernel, by decide +kernel⟩
theorem ok__law_covers {P : Program} {w : World} {K : PySem.W.Frag} {mg : Str → Option Value} {base : Heap} {f : Addr} {fd : FuncData} (F : L2.Fun K "_law_covers" "_law_covers" s__law_covers f fd)
    (C_b_sorted : mg "sorted" = none) :
    FnOk P w K mg base (L2.CX P w) 1 f fd ["_law_names_here", "_law_above_here"] (spLCov K) := by
  refine fnOk_mk F sc__law_covers (fun vs H Q E h => h.1) (fun cdv A outer s H vs Q E hr h => ?_)
  obtain ⟨_, b, c, zs, W, R, rfl, hb, ⟨A, hc, hA⟩, tb, k⟩ := h
  obtain ⟨hz, hnd, hok, hwn, hwm, hrf⟩ := id tb
  have lz : (srt zs).length = zs.length := (srt_perm zs).length_eq
  refine ⟨_, pss_cons (ps_set (i := 2) sc__law_covers.nd rfl (Or.inl rfl) (pe_lst pa_nil))
    (pss_cons (ps_for (passes_of rfl) rfl (pi_any (K := K) rfl (pe_callB (k_sort (K := K) rfl) (by rfl) C_b_sorted (by decide +kernel) (pa_cons (pv 0) pa_nil))) (pg_name (i := 3) sc__law_covers.nd rfl (Or.inr rfl)) (pss_one (ps_for (passes_of rfl) rfl (pi_any (K := K) rfl (pe_callB (k_sort (K := K) rfl) (by rfl) C_b_sorted (by decide +kernel) (pa_cons (pe_dget (hu_of hr) (pv 1) (pv 3) (fun _ _ => rfl)) pa_nil))) (pg_name (i := 4) sc__law_covers.nd rfl (Or.inr rfl)) (pss_cons (ps_setLc (i := 5) (own := [("_law_name", 6)]) (by rfl) sc__law_covers.nd rfl rfl (sw_true rfl rfl rfl (by decide +kernel)) (pi_any (K := K) rfl (pe_dget (hu_of hr) (pv 1) (pv 3) (fun _ _ => rfl))) (blkOk_by (N := ["_law_names_here", "_law_above_here", "_law_found", "_law_low", "_law_high", "_law_between", "_law_name"]) (sc := defScope s__law_covers) (by decide +kernel)) (fun _ _ _ _ _ => pg_name (i := 6) sc__law_covers.nd rfl (Or.inl rfl)) (fun _ _ _ _ _ => pts_one (PW.pt (pw_and (pt_cmpR (k_notInS (K := K) rfl) (pv 6) (pe_lst (pa_cons (pv 3) (pa_cons (pv 4) pa_nil))) rfl) (pw_and1 (pt_cmpR (k_inS (K := K) rfl) (pv 4) (pe_dget (hu_of hr) (pv 1) (pv 6) (fun _ _ => rfl)) rfl))))) (fun _ _ _ _ _ => pv 6))
    (pss_one (ps_if (PW.pt (pw_and (pt_cmpR op_ne (pv 4) (pv 3) (nomark _)) (pw_and1 (pt_cmpR (k_eqD (K := K) rfl hr.units) (pv 5) (pe_lst pa_nil) (nomark _))))) (pss_one (ps_expr (pe_bm PySem.F.plainAttrs_list PySem.F.slot_list_append PySem.F.type_list_append mt_append (pv 2) (pa_cons (pe_tup (pa_cons (pv 3) (pa_cons (pv 4) pa_nil))) pa_nil)))) (pss_nil)))))))
    (pss_one (ps_ret (pv 2)))), ?_⟩
  try dsimp only [cxOf]
  walk_at "rd"
  refine i_lst1 (Nat.le_of_ble_eq_true rfl) fun q H1 hq s1 e1 o1 => ?_
  walk_at "rd"
  refine i_sort (sameA s1 hb) (by omega) fun u H2 hu s2 o2 e2 => ?_
  walk_at "rd"
  have n2 : Same H H2 := s1.trans s2
  have uq : u ≠ q := fun z => by rw [z, e1] at hu; cases hu
  have e2' : del q H2 u = some (.lst ((srt zs).map V.str)) := by rw [del_at uq]; exact e2
  have hab : ∀ n, (OM.ab (srt zs) R n).length ≤ 8 := fun n => Nat.le_trans ab_len (by omega)
  have inH : ∀ {H' : Hp}, But q H2 H' → Same H H' := fun t => (t.same hq n2 : _)
  refine i_forA (H0 := del q H2) (fun i σ H' => ∃ (v3 v4 v5 v6 : Option V), σ = [some (.ref b), some (.ref c), some (.ref q), v3, v4, v5, v6] ∧ But q H2 H' ∧ LPr H' q (OM.lcv ((srt zs).take i) W (OM.ab (srt zs) R))) (SqA.l e2') ⟨_, _, _, _, rfl, .refl _ _, [], s2 _ _ e1, .nil⟩ (fun i σ H' p => ?_) ?_ ?_
  · obtain ⟨_, _, _, _, _, t, _⟩ := p
    exact same_del t
  · rintro i x σ H3 hx ⟨v3, v4, v5, v6, rfl, t3, lp⟩
    obtain ⟨n, hni, rfl⟩ := strs_at hx
    have hn : n ∈ zs := mem_srt.mp (List.mem_of_getElem? hni)
    rw [lcv_snoc hni]
    have hE0 : (OM.lcv ((srt zs).take i) W (OM.ab (srt zs) R)).length ≤ 64 := by
      have h1 := lcv_len (f := W) (g := OM.ab (srt zs) R) (m := 8) (N := (srt zs).take i) fun n _ => hab n
      rw [List.length_take] at h1
      omega
    generalize OM.lcv ((srt zs).take i) W (OM.ab (srt zs) R) = E0 at *
    have s3 := inH t3
    walk_at "rd"
    refine i_dget (s3 _ _ hc) (rows_val hn) ?_
    walk_at "rd"
    have lw := tb.wlen hn
    refine i_sort (SqA.l (s3 _ _ (hA n hn))) (by omega) fun w H4 hw s4 o4 e4 => ?_
    rw [tb.srt hn] at e4
    walk_at "rd"
    obtain ⟨qs0, eq0, tq0⟩ := id lp
    have wq : w ≠ q := fun z => by rw [z, eq0] at hw; cases hw
    have e4' : del q H4 w = some (.lst ((OM.ab (srt zs) R n).map V.str)) := by rw [del_at wq]; exact e4
    have t4 : But q H2 H4 := t3.trans (.of s4)
    refine i_forA (H0 := del q H4) (fun j σ H' => ∃ (v4 v5 v6 : Option V), σ = [some (.ref b), some (.ref c), some (.ref q), some (.str n), v4, v5, v6] ∧ But q H4 H' ∧ LPr H' q (E0 ++ (((OM.ab (srt zs) R n).take j).filter fun b => !decide (b = n) && decide (((W n).filter fun c => !(decide (c = n) || decide (c = b)) && decide (b ∈ W c)) = [])).map fun b => (n, b))) (SqA.l e4')
      ⟨_, _, _, rfl, .refl _ _, by simpa using lp.mono s4⟩ (fun i σ H' p => ?_) ?_ ?_
    · obtain ⟨_, _, _, _, t, _⟩ := p
      exact same_del t
    · rintro j x σ H5 hx ⟨v4, v5, v6, rfl, t5, lp5⟩
      obtain ⟨m, hmi, rfl⟩ := strs_at hx
      have hm : m ∈ zs := mem_srt.mp (OM.mem_ab.mp (List.mem_of_getElem? hmi)).1
      have t25 := t4.trans t5
      have s5 := inH t25
      rw [take_snoc hmi, List.filter_append, List.map_append, ← List.append_assoc]
      have hE1 : (E0 ++ (((OM.ab (srt zs) R n).take j).filter fun b => !decide (b = n) && decide (((W n).filter fun c => !(decide (c = n) || decide (c = b)) && decide (b ∈ W c)) = [])).map fun b => (n, b)).length ≤ 100 := by
        have h1 := List.length_filter_le (fun b => !decide (b = n) && decide (((W n).filter fun c => !(decide (c = n) || decide (c = b)) && decide (b ∈ W c)) = [])) ((OM.ab (srt zs) R n).take j)
        have h2 := hab n
        rw [List.length_take] at h1
        rw [List.length_append, List.length_map]
        omega
      generalize (E0 ++ (((OM.ab (srt zs) R n).take j).filter fun b => !decide (b = n) && decide (((W n).filter fun c => !(decide (c = n) || decide (c = b)) && decide (b ∈ W c)) = [])).map fun b => (n, b)) = E1 at *
      walk_at "rd"
      refine i_dget (s5 _ _ hc) (rows_val hn) ?_
      refine i_lcA (H0 := H5) (fun k ys H' => Same H5 H' ∧ ys = (((W n).take k).filter fun c => !(decide (c = n) || decide (c = m)) && decide (m ∈ W c)).map V.str) (SqA.l (s5 _ _ (hA n hn))) (Same.refl _) ?_ ?_ ?_ ?_
      · intro D H' hD sm e ho
        exact ⟨sm, rfl⟩
      · exact fun i ys H' p => p.1
      · rintro k x D ys H6 hD hx eD ⟨s6, rfl⟩
        obtain ⟨z, hzi, rfl⟩ := strs_at hx
        have hzz : z ∈ zs := ((hwm n hn z).mp (List.mem_of_getElem? hzi)).1
        walk_at "rd"
        refine ⟨by with_unfolding_all rfl, ?_⟩
        walk_at "rd"
        refine i_lst1 (by show 2 ≤ 100000; decide) fun l2 H7 hl2 s7 e7 o7 => ?_
        refine i_notInS (zs := [n, m]) (SqA.l e7) ?_
        have s57 := s6.trans s7
        have em2 : decide (z ∈ [n, m]) = (decide (z = n) || decide (z = m)) := by simp
        rw [em2]
        have skip : ∀ {H' : Hp}, Same H7 H' → (!(decide (z = n) || decide (z = m)) && decide (m ∈ W z)) = false → LcS D (fun k ys H' => Same H5 H' ∧ ys = (((W n).take k).filter fun c => !(decide (c = n) || decide (c = m)) && decide (m ∈ W c)).map V.str) (k + 1) H' := by
          intro H' s' hf
          refine ⟨_, s' _ _ (s7 _ _ eD), s57.trans s', ?_⟩
          rw [take_snoc hzi, List.filter_append, List.filter_cons_of_neg (by show ¬ (_ && _) = true; rw [hf]; decide), List.filter_nil, List.append_nil]
        refine ⟨_, rfl, ?_⟩
        refine i_bool (fun h1 => ?_) (fun h1 => ?_)
        · walk_at "rd"
          refine i_dget (s57 _ _ (s5 _ _ hc)) (rows_val hzz) ?_
          refine i_inS (SqA.l (s57 _ _ (s5 _ _ (hA z hzz)))) ?_
          walk_at "rd"
          refine i_bool (fun h2 => ?_) (fun h2 => ?_)
          · walk_at "rd"
            refine i_lcE (s7 _ _ eD) ?_ fun H8 e8 o8 => ⟨fun b o eb => ?_, ?_⟩
            · rw [List.length_map]
              have h1 := List.length_filter_le (fun c => !(decide (c = n) || decide (c = m)) && decide (m ∈ W c)) ((W n).take k)
              rw [List.length_take] at h1
              omega
            · rw [o8 b (ne_of_none eb hD)]
              exact s57 _ _ eb
            · rw [take_snoc hzi, List.filter_append, List.filter_cons_of_pos (by show (_ && _) = true; rw [h1, h2]; rfl), List.filter_nil, List.map_append]
              rfl
          · exact skip (Same.refl _) (by rw [h2, Bool.and_false])
        · walk_at "rd"
          exact skip (Same.refl _) (by rw [h1, Bool.false_and])
      · rintro D ys H6 hD eD ⟨s6, rfl⟩
        rw [List.length_map, List.take_length] at eD
        walk_at "rd"
        have t46 : But q H4 H6 := t5.trans (.of s6)
        have lp6 := lp5.mono s6
        have hold : ∀ {H' : Hp}, Same H6 H' → (!decide (m = n) && decide (((W n).filter fun c => !(decide (c = n) || decide (c = m)) && decide (m ∈ W c)) = [])) = false →
            But q H4 H' ∧ LPr H' q (E1 ++ ([m].filter fun b => !decide (b = n) && decide (((W n).filter fun c => !(decide (c = n) || decide (c = b)) && decide (b ∈ W c)) = [])).map fun b => (n, b)) := by
          intro H' s' hf
          rw [List.filter_cons_of_neg (by show ¬ (_ && _) = true; rw [hf]; decide), List.filter_nil]
          exact ⟨t46.trans (.of s'), by simpa using lp6.mono s'⟩
        refine i_ndec (fun g1 => ?_) (fun g1 => ?_)
        · walk_at "rd"
          refine i_lst1 (Nat.le_of_ble_eq_true rfl) fun l2 H7 hl2 s7 e7 o7 => ?_
          refine ⟨.list ((((W n).filter fun c => !(decide (c = n) || decide (c = m)) && decide (m ∈ W c))).map PyData.str), .list (([] : List Str).map PyData.str), .lst (SqL.of (s7 _ _ eD)) (dp_strs _), .lst (SqL.of e7) .nil, shaped_lstS fun z hz => hok z ((hwm n hn z).mp (List.mem_filter.mp hz).1).1, shaped_lstS fun z hz => absurd hz (by simp), ?_⟩
          rw [eqv_lstS]
          refine ⟨_, rfl, ?_⟩
          refine i_dec (fun g2 => ?_) (fun g2 => ?_)
          · obtain ⟨qs, eq, tq⟩ := id (lp6.mono s7)
            walk_at "rd"
            refine ⟨tyL eq, ?_⟩
            walk_at "rd"
            refine i_tup1 (by show 2 ≤ 100000; decide) fun x H8 hx8 s8 e8 o8 => ?_
            walk_at "rd"
            have hql : qs.length = E1.length := tq.1
            refine i_app (xs := qs.map V.ref) (s8 _ _ eq) (by rw [List.length_map]; omega) fun H9 e9 o9 => ?_
            walk_at "rd"
            refine ⟨_, _, _, rfl, fun x o hx e => ?_, ?_⟩
            · rw [o9 x hx]
              exact s8 _ _ (s7 _ _ (t46 x o hx e))
            · rw [List.filter_cons_of_pos (by show (_ && _) = true; rw [g2]; simp [g1]), List.filter_nil]
              exact ((lp6.mono s7).mono s8).snoc (s8 _ _ eq) e8 e9 o9
          · walk_at "rd"
            exact ⟨_, _, _, rfl, hold s7 (by rw [decide_eq_false g2, Bool.and_false])⟩
        · walk_at "rd"
          exact ⟨_, _, _, rfl, hold (Same.refl _) (by rw [decide_eq_true g1]; rfl)⟩
    · rintro σ H5 ⟨v4, v5, v6, rfl, t5, lp5⟩
      rw [List.length_map, List.take_length] at lp5
      exact ⟨_, _, _, _, rfl, t4.trans t5, lp5⟩
  · rintro σ H3 ⟨v3, v4, v5, v6, rfl, t3, lp⟩
    rw [List.length_map, List.take_length, OM.lcv_eq (srt_nodup hnd) hrf fun a ha b => by rw [hwm a (mem_srt.mp ha), mem_srt]] at lp
    walk_at "rd"
    exact k q H3 hq (inH t3) lp
/-! multiples of 1/D -/
def Gs (D B : Nat) (q : Rat) : Prop := ∃ n : Int, q * (D : Rat) = (n : Rat) ∧ n.natAbs ≤ B
section
variable {D D' B B' : Nat} {p q : Rat}
theorem Gs.zero : Gs D B 0 := ⟨0, by grind, Nat.zero_le _⟩
theorem Gs.mono (h : Gs D B q) (l : B ≤ B') : Gs D B' q := let ⟨n, e, b⟩ := h; ⟨n, e, Nat.le_trans b l⟩
theorem Gs.add (h : Gs D B p) (g : Gs D B' q) : Gs D (B + B') (p + q) := by
  obtain ⟨n, hn, bn⟩ := h
  obtain ⟨m, hm, bm⟩ := g
  refine ⟨n + m, ?_, by omega⟩
  rw [Rat.intCast_add, ← hn, ← hm]; grind
theorem Gs.sub (h : Gs D B p) (g : Gs D B' q) : Gs D (B + B') (p - q) := by
  obtain ⟨n, hn, bn⟩ := h
  obtain ⟨m, hm, bm⟩ := g
  refine ⟨n - m, ?_, by omega⟩
  rw [Rat.intCast_sub, ← hn, ← hm]; grind
theorem Gs.mul (h : Gs D B p) (g : Gs D' B' q) : Gs (D * D') (B * B') (p * q) := by
  obtain ⟨n, hn, bn⟩ := h
  obtain ⟨m, hm, bm⟩ := g
  refine ⟨n * m, ?_, by rw [Int.natAbs_mul]; exact Nat.mul_le_mul bn bm⟩
  rw [Rat.intCast_mul, ← hn, ← hm, Rat.natCast_mul]; grind
theorem Gs.bd (h : Gs D B q) {n : Nat} (hD : 0 < D) (l1 : D < 2 ^ n) (l2 : B < 2 ^ n) : ZR.Bd n q := by
  obtain ⟨z, hz, bz⟩ := h
  have hDi : ((D : Nat) : Int) ≠ 0 := by omega
  have hDr : (D : Rat) ≠ 0 := by
    have := ZR.ci hDi
    simpa using this
  have e : q = (z : Rat) / (((D : Nat) : Int) : Rat) := by
    rw [← hz]
    have : (((D : Nat) : Int) : Rat) = (D : Rat) := rfl
    rw [this]
    grind
  rw [e]
  exact ZR.Bd.of (show z.natAbs < 2 ^ n by omega) (show ((D : Nat) : Int).natAbs < 2 ^ n by simpa using l1) hDi
theorem Gs.sm {α : Type} : ∀ {L : List (α × Rat)}, (∀ x ∈ L, Gs D B x.2) → Gs D (L.length * B) (ZD.sm L)
  | [], _ => by rw [ZD.sm_nil]; exact Gs.zero
  | x :: L, h => by
    rw [ZD.sm_cons, List.length_cons]
    refine ((h x List.mem_cons_self).add (Gs.sm fun y hy => h y (List.mem_cons_of_mem _ hy))).mono ?_
    rw [Nat.succ_mul]
    omega
end
def RsAt (CR : Addr) (H : Hp) (ps : List (Addr × Rat)) : Prop := ∀ x ∈ ps, IsR CR H x.1 x.2
def rfs (ps : List (Addr × Rat)) : List V := ps.map fun x => V.ref x.1
/-! gcd and lcm of lists -/
def gcF (ns : List Int) : Nat := ns.foldl (fun g n => Nat.gcd g n.natAbs) 0
theorem gcF_go : ∀ (ns : List Int) (g : Nat), ns.foldl (fun g n => Nat.gcd g n.natAbs) g ∣ g ∧ ∀ n ∈ ns, ns.foldl (fun g n => Nat.gcd g n.natAbs) g ∣ n.natAbs
  | [], g => ⟨Nat.dvd_refl _, fun _ h => by cases h⟩
  | m :: ns, g => by
    obtain ⟨h1, h2⟩ := gcF_go ns (Nat.gcd g m.natAbs)
    refine ⟨Nat.dvd_trans h1 (Nat.gcd_dvd_left _ _), fun n hn => ?_⟩
    rcases List.mem_cons.mp hn with rfl | hn
    · exact Nat.dvd_trans h1 (Nat.gcd_dvd_right _ _)
    · exact h2 n hn
theorem gcF_dvd {ns : List Int} {n : Int} (h : n ∈ ns) : gcF ns ∣ n.natAbs := (gcF_go ns 0).2 n h
theorem gcF_pos {ns : List Int} {n : Int} (h : n ∈ ns) (h0 : n ≠ 0) : 0 < gcF ns := by
  rcases Nat.eq_zero_or_pos (gcF ns) with z | z
  · have := gcF_dvd h
    rw [z, Nat.zero_dvd] at this
    omega
  · exact z
theorem gcF_le {ns : List Int} {n : Int} (h : n ∈ ns) (h0 : n ≠ 0) : gcF ns ≤ n.natAbs := Nat.le_of_dvd (by omega) (gcF_dvd h)
theorem gcF_snoc {ns : List Int} {n : Int} : gcF (ns ++ [n]) = Nat.gcd (gcF ns) n.natAbs := by unfold gcF; rw [List.foldl_append]; rfl
def lcF (ds : List Nat) : Nat := ds.foldl (fun w d => Nat.lcm w d) 1
theorem log2_of {n k : Nat} (hk : 0 < k) (h : n < 2 ^ k) : n.log2 < k := by
  by_cases z : n = 0
  · rw [z]; exact hk
  · exact (Nat.log2_lt z).mpr h
/-- a dict from texts to integers -/
abbrev dI (zs : List Str) (w : Str → Int) : List (Key × V) := dF zs fun z => .int (w z)
/-- the positive ones, in order -/
noncomputable def posN (zs : List Str) (w : Str → Int) : List Str := (srt zs).filter fun z => decide (0 < w z)
def spLeast (K : PySem.W.Frag) : Sp := fun vs H Q _ => vs.length = 1 ∧ ∃ (d : Addr) (o : Obj) (zs : List Str) (w : Str → Int), vs = [.ref d] ∧ H d = some (.frz o (.dK (dI zs w))) ∧ zs.Nodup ∧ zs.length < 60 ∧ (∀ z ∈ zs, (w z).natAbs < 2 ^ 1000) ∧ (∃ z ∈ zs, 0 < w z) ∧
  ∀ q H', H q = none → Same H H' → H' q = some (.dK (dI (posN zs w) fun z => (w z).fdiv (gcF (zs.map w) : Nat))) → Q (.ref q) H'
abbrev s__least : Stmt := top 37
theorem sc__least : FnScope ["weights", "divisor", "name"] ["weights"] (defScope s__least) := ⟨rfl, rfl, rfl, by decide +kernel, rfl, by decide +kernel, by decide +kernel⟩
theorem ok__least {P : Program} {w : World} {K : PySem.W.Frag} {mg : Str → Option Value} {base : Heap} {f : Addr} {fd : FuncData} (F : L2.Fun K "_least" "_least" s__least f fd)
    (C_b_sorted : mg "sorted" = none)
    (C_m_gcd : mg "gcd" = some (.builtin "math.gcd")) :
    FnOk P w K mg base (L2.CX P w) 1 f fd ["weights"] (spLeast K) := by
  refine fnOk_mk F sc__least (fun vs H Q E h => h.1) (fun cdv A outer s H vs Q E hr h => ?_)
  obtain ⟨_, d, o, zs, w, rfl, hd, hnd, hl, hw, hp, k⟩ := h
  refine ⟨_, pss_cons (ps_set (i := 1) sc__least.nd rfl (Or.inr rfl) pe_int)
    (pss_cons (ps_for (passes_of rfl) rfl (pi_keys (pv 0)) (pg_name (i := 2) sc__least.nd rfl (Or.inl rfl)) (pss_one (ps_set (i := 1) sc__least.nd rfl (Or.inr rfl) (pe_callBfun cr_gcd (by rfl) C_m_gcd (pa_cons (pv 1) (pa_cons (pe_dget (hu_of hr) (pv 0) (pv 2) (fun _ _ => rfl)) pa_nil))))))
    (pss_one (ps_ret (pe_dc (own := [("name", 2)]) (by rfl) sc__least.nd (pi_any (K := K) rfl (pe_callB (k_sortD rfl) (by rfl) C_b_sorted (by decide +kernel) (pa_cons (pv 0) pa_nil))) (blkOk_by (N := ["weights", "divisor", "name"]) (sc := defScope s__least) (by decide +kernel)) (fun _ _ _ _ _ => pg_name (i := 2) sc__least.nd rfl (Or.inl rfl)) (fun _ _ _ _ _ => pts_one (pt_cmpR op_gt (pe_dget (hu_of hr) (pv 0) (pv 2) (fun _ _ => rfl)) pe_int (nomark _))) (fun _ _ _ _ _ => pv 2) (fun _ _ _ _ _ => pe_op op_fdivZ (pe_dget (hu_of hr) (pv 0) (pv 2) (fun _ _ => rfl)) (pv 1)))))), ?_⟩
  try dsimp only [cxOf]
  walk_at "rd"
  refine i_forK (H0 := H) (fun i σ H' => ∃ v, σ = [some (.ref d), some (.int ((gcF ((zs.take i).map w) : Nat) : Int)), v] ∧ H' = H) hd ⟨none, rfl, rfl⟩ (fun i σ H' h => by obtain ⟨_, _, rfl⟩ := h; exact AtS.refl) ?_ ?_
  · rintro i z σ H' hz ⟨v, rfl, rfl⟩
    have hm := List.mem_of_getElem? hz
    walk_at "rd"
    refine i_dgetR (.inr ⟨o, hd⟩) (valV_in hm) ?_
    walk_at "rd"
    refine ⟨some (.str z), ?_, rfl⟩
    rw [List.take_add_one, hz, List.map_append]
    show _ = [some (V.ref d), some (.int ((gcF ((zs.take i).map w ++ [w z]) : Nat) : Int)), _]
    rw [gcF_snoc]
    rfl
  · rintro σ H' ⟨v, rfl, rfl⟩
    rw [List.take_length]
    walk_at "rd"
    refine i_sortR (.inr ⟨o, hd⟩) (dF_keys _ _) (by omega) fun l H1 hl1 s1 o1 e1 => ?_
    walk_at "rd"
    obtain ⟨z0, hz0, p0⟩ := hp
    have gm : w z0 ∈ zs.map w := List.mem_map.mpr ⟨z0, hz0, rfl⟩
    have g0 := gcF_pos gm (by omega)
    have gl := gcF_le gm (by omega)
    have gc : ∀ i, CDivZ i ((gcF (zs.map w) : Nat) : Int) := fun i => ⟨by omega, by
      rw [Int.natAbs_natCast]
      exact Nat.lt_of_lt_of_le (log2_of (by decide) (Nat.lt_of_le_of_lt gl (hw _ hz0))) (by decide)⟩
    refine i_dcA (H0 := H1) (fun D i kvs H2 => Same H1 H2 ∧ kvs = dI (((srt zs).take i).filter fun z => decide (0 < w z)) fun z => (w z).fdiv (gcF (zs.map w) : Nat)) (SqA.l e1) (Same.refl _) (fun D H2 hD s e ho => ⟨s, rfl⟩) (fun D i kvs H2 p => p.1) ?_ ?_
    · rintro i x D kvs H2 hD hx eD ⟨s2, rfl⟩
      obtain ⟨z, hz, rfl⟩ := strs_at hx
      have hm : z ∈ zs := mem_srt.mp (List.mem_of_getElem? hz)
      have nz : z ∉ (srt zs).take i := nodup_take (srt_nodup hnd) hz
      have hd2 : H2 d = some (.frz o (.dK (dI zs w))) := s2 _ _ (s1 _ _ hd)
      walk_at "rd"
      refine ⟨by with_unfolding_all rfl, ?_⟩
      walk_at "rd"
      refine i_dgetR (.inr ⟨o, hd2⟩) (valV_in hm) ?_
      walk_at "rd"
      have tk : ((srt zs).take (i + 1)).filter (fun z => decide (0 < w z)) = ((srt zs).take i).filter (fun z => decide (0 < w z)) ++ if 0 < w z then [z] else [] := by
        rw [take_snoc hz, List.filter_append]
        by_cases h : 0 < w z
        · rw [if_pos h]; simp [h]
        · rw [if_neg h]; simp [h]
      refine i_dec (fun hp => ?_) (fun hp => ?_)
      · walk_at "rd"
        refine i_dgetR (.inr ⟨o, hd2⟩) (valV_in hm) ?_
        walk_at "rd"
        refine i_rI (gc _) ?_
        refine i_dcE eD (by rw [dF_len]; refine Nat.lt_of_le_of_lt (List.length_filter_le _ _) ?_; rw [List.length_take, (srt_perm zs).length_eq]; omega) fun H5 e5 o5 => ⟨fun b o e => ?_, ?_⟩
        · rw [o5 _ (ne_of_none e hD)]
          exact s2 _ _ e
        · rw [putK_dF, adK_new (fun g => nz (List.mem_filter.mp g).1), tk, if_pos hp]
          refine dF_congr fun y hy => ?_
          unfold upF
          split
          · rename_i e; rw [e]
          · rfl
      · refine ⟨_, eD, s2, ?_⟩
        rw [tk, if_neg hp, List.append_nil]
    · rintro D kvs H2 hD eD ⟨s2, rfl⟩
      rw [List.length_map, List.take_length] at eD
      refine k D H2 ?_ (s1.trans s2) eD
      cases z : H' D with
      | none => rfl
      | some o => rw [s1 _ _ z] at hD; cases hD
/-! ### chances -/
theorem gcF_great {k : Nat} : ∀ (ns : List Int) (g : Nat), k ∣ g → (∀ n ∈ ns, k ∣ n.natAbs) → k ∣ ns.foldl (fun g n => Nat.gcd g n.natAbs) g
  | [], g, h, _ => h
  | n :: ns, g, h, hs => gcF_great ns _ (Nat.dvd_gcd h (hs n List.mem_cons_self)) fun m hm => hs m (List.mem_cons_of_mem _ hm)
structure ChD (B : Nat) (N : List Str) (w : Str → Int) (S : Int) : Prop where
  pos : ∀ z ∈ N, 0 < w z
  nodup : N.Nodup
  sorted : srt N = N
  sum : S = (N.map w).sum
  len : N.length < 60
  nm : ∀ z ∈ N, nameB z = true
  ne : 0 < S
  sz : S < (2 : Int) ^ B
  cop : gcF (N.map w) = 1
def cf (d : Addr) (S : Int) : List (Str × V) := [(("_weights" : Str), .ref d), (("_sum" : Str), .int S)]
def IsC (CC : Addr) (H : Hp) (a : Addr) (B : Nat) (N : List Str) (p : Str → Rat) : Prop := ∃ dx d o w S, H a = some (.ins CC dx (cf d S)) ∧ H d = some (.frz o (.dK (dI N w))) ∧ ChD B N w S ∧ ∀ z, p z = if z ∈ N then ((w z : Int) : Rat) / ((S : Int) : Rat) else 0
/-- and its dict is new -/
def IsCf (CC : Addr) (H0 H : Hp) (a : Addr) (B : Nat) (N : List Str) (p : Str → Rat) : Prop := ∃ dx d o w S, H a = some (.ins CC dx (cf d S)) ∧ H d = some (.frz o (.dK (dI N w))) ∧ ChD B N w S ∧ (∀ z, p z = if z ∈ N then ((w z : Int) : Rat) / ((S : Int) : Rat) else 0) ∧ H0 d = none
theorem IsCf.is {CC a : Addr} {H0 H : Hp} {B : Nat} {N : List Str} {p : Str → Rat} (h : IsCf CC H0 H a B N p) : IsC CC H a B N p := let ⟨dx, d, o, w, S, h1, h2, h3, h4, _⟩ := h; ⟨dx, d, o, w, S, h1, h2, h3, h4⟩
theorem IsC.mono {CC a : Addr} {H H' : Hp} {B : Nat} {N : List Str} {p : Str → Rat} (s : Same H H') (h : IsC CC H a B N p) : IsC CC H' a B N p := let ⟨dx, d, o, w, S, h1, h2, h3, h4⟩ := h; ⟨dx, d, o, w, S, s _ _ h1, s _ _ h2, h3, h4⟩
theorem cf_w (d : Addr) (S : Int) : List.lookup ("_weights" : Str) (cf d S) = some (V.ref d) := by simp [cf, List.lookup]
theorem cf_w1 {d : Addr} : List.lookup ("_weights" : Str) ([("_weights", V.ref d)] : List (Str × V)) = some (V.ref d) := by simp [List.lookup]
theorem cf_s (d : Addr) (S : Int) : List.lookup ("_sum" : Str) (cf d S) = some (V.int S) := by
  have : (("_sum" : Str) == ("_weights" : Str)) = false := by decide +kernel
  simp [cf, List.lookup, this]
theorem cf_p1 (t : V) : putF ("_weights" : Str) t [] = [(("_weights" : Str), t)] := rfl
theorem cf_p2 (d : Addr) (S : Int) : putF ("_sum" : Str) (.int S) [(("_weights" : Str), V.ref d)] = cf d S := by
  show (if ("_weights" : Str) = "_sum" then _ else (("_weights" : Str), V.ref d) :: putF "_sum" (.int S) []) = _
  rw [if_neg (by decide +kernel)]
  rfl
theorem sum_perm {l m : List Int} (h : l.Perm m) : l.sum = m.sum := by
  induction h with
  | nil => rfl
  | cons x _ ih => rw [List.sum_cons, List.sum_cons, ih]
  | swap x y l => rw [List.sum_cons, List.sum_cons, List.sum_cons, List.sum_cons]; omega
  | trans _ _ h1 h2 => exact h1.trans h2
theorem sum_pos_filter (w : Str → Int) : ∀ l : List Str, (∀ z ∈ l, 0 ≤ w z) → ((l.filter fun z => decide (0 < w z)).map w).sum = (l.map w).sum
  | [], _ => rfl
  | z :: l, h => by
    have ih := sum_pos_filter w l fun y hy => h y (List.mem_cons_of_mem _ hy)
    have h0 := h z List.mem_cons_self
    rw [List.map_cons, List.sum_cons]
    by_cases hp : 0 < w z
    · rw [List.filter_cons_of_pos (by simpa using hp), List.map_cons, List.sum_cons, ih]
    · rw [List.filter_cons_of_neg (by simpa using hp), ih]
      omega
theorem sum_posN {zs : List Str} {w : Str → Int} (h : ∀ z ∈ zs, 0 ≤ w z) : ((posN zs w).map w).sum = (zs.map w).sum := by
  unfold posN
  rw [sum_pos_filter w _ fun z hz => h z (mem_srt.mp hz)]
  exact sum_perm ((srt_perm zs).map w)
theorem sum_scale {g : Int} {w v : Str → Int} : ∀ l : List Str, (∀ z ∈ l, w z = g * v z) → (l.map w).sum = g * (l.map v).sum
  | [], _ => by simp
  | z :: l, h => by
    rw [List.map_cons, List.map_cons, List.sum_cons, List.sum_cons, sum_scale l fun y hy => h y (List.mem_cons_of_mem _ hy), h z List.mem_cons_self, Int.mul_add]
theorem sum_ge {v : Str → Int} : ∀ {l : List Str}, (∀ z ∈ l, 0 ≤ v z) → ∀ z ∈ l, v z ≤ (l.map v).sum
  | y :: l, h, z, hz => by
    have h0 := h y List.mem_cons_self
    have hs : 0 ≤ (l.map v).sum := by
      clear hz
      have : ∀ m : List Str, (∀ z ∈ m, 0 ≤ v z) → 0 ≤ (m.map v).sum := by
        intro m
        induction m with
        | nil => intro _; simp
        | cons x m ih =>
          intro h
          have := ih fun y hy => h y (List.mem_cons_of_mem _ hy)
          have := h x List.mem_cons_self
          rw [List.map_cons, List.sum_cons]
          omega
      exact this l fun y hy => h y (List.mem_cons_of_mem _ hy)
    rw [List.map_cons, List.sum_cons]
    rcases List.mem_cons.mp hz with rfl | hz
    · omega
    · have := sum_ge (fun y hy => h y (List.mem_cons_of_mem _ hy)) z hz
      omega
theorem mem_posN {zs : List Str} {w : Str → Int} {z : Str} : z ∈ posN zs w ↔ z ∈ zs ∧ 0 < w z := by
  unfold posN
  rw [List.mem_filter, mem_srt]
  simp
theorem posN_nodup {zs : List Str} {w : Str → Int} (h : zs.Nodup) : (posN zs w).Nodup := (srt_nodup h).filter _
theorem posN_len {zs : List Str} {w : Str → Int} : (posN zs w).length ≤ zs.length := by
  unfold posN
  exact Nat.le_trans (List.length_filter_le _ _) (by rw [(srt_perm zs).length_eq]; exact Nat.le_refl _)
theorem posN_srt {zs : List Str} {w : Str → Int} : srt (posN zs w) = posN zs w := srt_of_pw ((srt_pw zs).filter _)
/-- what a weighting gives -/
theorem chd_of {B : Nat} {zs : List Str} {w : Str → Int} (hnd : zs.Nodup) (hl : zs.length < 60) (hn : ∀ z ∈ zs, nameB z = true) (h0 : ∀ z ∈ zs, 0 ≤ w z) (hp : ∃ z ∈ zs, 0 < w z) (hB : (zs.map w).sum < (2 : Int) ^ B) :
    ChD B (posN zs w) (fun z => (w z).fdiv (gcF (zs.map w) : Nat)) (((posN zs w).map fun z => (w z).fdiv (gcF (zs.map w) : Nat)).sum) ∧
    ∀ z, (if z ∈ zs then ((w z : Int) : Rat) / (((zs.map w).sum : Int) : Rat) else 0) = if z ∈ posN zs w then (((w z).fdiv (gcF (zs.map w) : Nat) : Int) : Rat) / ((((posN zs w).map fun z => (w z).fdiv (gcF (zs.map w) : Nat)).sum : Int) : Rat) else 0 := by
  obtain ⟨z0, hz0, p0⟩ := hp
  have gp : 0 < gcF (zs.map w) := gcF_pos (List.mem_map.mpr ⟨z0, hz0, rfl⟩) (by omega)
  generalize hg : gcF (zs.map w) = g at *
  have gd : ∀ z ∈ zs, w z = (g : Int) * (w z).fdiv (g : Int) := fun z hz => by
    have : g ∣ (w z).natAbs := by rw [← hg]; exact gcF_dvd (List.mem_map.mpr ⟨z, hz, rfl⟩)
    obtain ⟨m, hm⟩ := Int.ofNat_dvd_left.mpr this
    rw [hm, Int.mul_fdiv_cancel_left _ (by omega)]
  have pv : ∀ z ∈ posN zs w, 0 < (w z).fdiv (g : Int) := fun z hz => by
    obtain ⟨h1, h2⟩ := mem_posN.mp hz
    have := gd z h1
    rcases Int.lt_trichotomy ((w z).fdiv (g : Int)) 0 with h | h | h
    · have := Int.mul_neg_of_pos_of_neg (show (0 : Int) < (g : Int) by omega) h
      omega
    · rw [h, Int.mul_zero] at this; omega
    · exact h
  have es : (zs.map w).sum = (g : Int) * ((posN zs w).map fun z => (w z).fdiv (g : Int)).sum := by
    rw [← sum_posN h0]
    exact sum_scale _ fun z hz => gd z (mem_posN.mp hz).1
  generalize hS : ((posN zs w).map fun z => (w z).fdiv (g : Int)).sum = S at *
  have m0 : z0 ∈ posN zs w := mem_posN.mpr ⟨hz0, p0⟩
  have Sp : 0 < S := by
    have := sum_ge (v := fun z => (w z).fdiv (g : Int)) (l := posN zs w) (fun z hz => by have := pv z hz; omega) z0 m0
    have := pv z0 m0
    rw [hS] at *
    omega
  have cop : gcF ((posN zs w).map fun z => (w z).fdiv (g : Int)) = 1 := by
    have hd : g * gcF ((posN zs w).map fun z => (w z).fdiv (g : Int)) ∣ g := by
      conv => rhs; rw [← hg]
      refine gcF_great _ 0 (Nat.dvd_zero _) fun n hn => ?_
      obtain ⟨z, hz, rfl⟩ := List.mem_map.mp hn
      by_cases h : 0 < w z
      · rw [gd z hz, Int.natAbs_mul, Int.natAbs_natCast]
        exact Nat.mul_dvd_mul_left g (gcF_dvd (List.mem_map.mpr ⟨z, mem_posN.mpr ⟨hz, h⟩, rfl⟩))
      · have : w z = 0 := by have := h0 z hz; omega
        rw [this]
        exact Nat.dvd_zero _
    have h2 : gcF ((posN zs w).map fun z => (w z).fdiv (g : Int)) ∣ 1 := (Nat.mul_dvd_mul_iff_left gp).mp (by rw [Nat.mul_one]; exact hd)
    exact Nat.dvd_one.mp h2
  refine ⟨⟨pv, posN_nodup hnd, posN_srt, hS.symm, Nat.lt_of_le_of_lt posN_len hl, fun z hz => hn z (mem_posN.mp hz).1, Sp, ?_, cop⟩, fun z => ?_⟩
  · refine Int.lt_of_le_of_lt ?_ hB
    rw [es]
    have : (1 : Int) * S ≤ (g : Int) * S := Int.mul_le_mul_of_nonneg_right (by omega) (by omega)
    omega
  · by_cases hz : z ∈ zs
    · rw [if_pos hz]
      by_cases h : 0 < w z
      · rw [if_pos (mem_posN.mpr ⟨hz, h⟩), es]
        conv => lhs; rw [gd z hz]
        have g0 : ((g : Int) : Rat) ≠ 0 := ZR.ci (by omega)
        have s0 : ((S : Int) : Rat) ≠ 0 := ZR.ci (by omega)
        rw [Rat.intCast_mul, Rat.intCast_mul]
        grind
      · rw [if_neg (fun q => h (mem_posN.mp q).2)]
        have : w z = 0 := by have := h0 z hz; omega
        rw [this, show ((0 : Int) : Rat) = 0 from rfl, Rat.div_def, Rat.zero_mul]
    · rw [if_neg hz, if_neg (fun q => hz (mem_posN.mp q).1)]
theorem But.of' {a : Addr} {H H' : Hp} (o : ∀ b, b ≠ a → H' b = H b) : But a H H' := fun x y hx e => by rw [o x hx]; exact e
theorem same_noneV {H H' : Hp} {q : Addr} (s : Same H H') (h : H' q = none) : H q = none := by
  cases z : H q with
  | none => rfl
  | some o => rw [s _ _ z] at h; cases h
theorem dI_vals (zs : List Str) (w : Str → Int) : (dI zs w).map (·.2) = (zs.map w).map V.int := by rw [dF_vals, List.map_map]; rfl
/-- the first fault of a weighting: no name, or below zero -/
noncomputable def badW (zs : List Str) (w : Str → Int) : Option (Bool × Str) := ((srt zs).find? fun z => !nameB z || decide (w z < 0)).map fun z => (nameB z, z)
theorem badW_at {zs : List Str} {w : Str → Int} {i : Nat} {z : Str} {b : Bool} (hz : (srt zs)[i]? = some z) (hk : ∀ y ∈ (srt zs).take i, nameB y = true ∧ 0 ≤ w y) (hb : nameB z = b) (h : b = true → w z < 0) : badW zs w = some (b, z) := by
  unfold badW
  have : (srt zs).find? (fun z => !nameB z || decide (w z < 0)) = some z := by
    rw [List.find?_eq_some_iff_getElem]
    obtain ⟨lt, ez⟩ := List.getElem?_eq_some_iff.mp hz
    refine ⟨?_, i, lt, ez, fun j hj => ?_⟩
    · cases b
      · rw [hb]; rfl
      · rw [hb, decide_eq_true (h rfl)]; rfl
    · obtain ⟨h1, h2⟩ := hk (srt zs)[j] (List.mem_iff_getElem.mpr ⟨j, by rw [List.length_take]; omega, by simp⟩)
      rw [h1, decide_eq_false (by omega)]
      rfl
  rw [this]
  show some (nameB z, z) = _
  rw [hb]
theorem badW_none {zs : List Str} {w : Str → Int} (hk : ∀ y ∈ srt zs, nameB y = true ∧ 0 ≤ w y) : badW zs w = none := by
  unfold badW
  have : (srt zs).find? (fun z => !nameB z || decide (w z < 0)) = none := by
    rw [List.find?_eq_none]
    intro y hy
    obtain ⟨h1, h2⟩ := hk y hy
    rw [h1, decide_eq_false (by omega)]
    simp
  rw [this]
  rfl
theorem sum_pos_ex {w : Str → Int} : ∀ {l : List Str}, (∀ z ∈ l, 0 ≤ w z) → (l.map w).sum ≠ 0 → ∃ z ∈ l, 0 < w z
  | [], _, h => absurd rfl h
  | z :: l, h, hs => by
    have h0 := h z List.mem_cons_self
    by_cases p : 0 < w z
    · exact ⟨z, List.mem_cons_self, p⟩
    · rw [List.map_cons, List.sum_cons] at hs
      obtain ⟨y, hy, py⟩ := sum_pos_ex (l := l) (fun y hy => h y (List.mem_cons_of_mem _ hy)) (by omega)
      exact ⟨y, List.mem_cons_of_mem _ hy, py⟩
def spCInitG (K : PySem.W.Frag) (CR CC CB CN CX : Addr) : Sp := fun vs H Q E => vs.length = 2 ∧ ∃ (a d : Addr) (o : Obj) (zs : List Str) (w : Str → Int) (B : Nat), vs = [.ref a, .ref d] ∧ (∃ dx, H a = some (.ins CC dx [])) ∧ H d = some (.frz o (.dK (dI zs w))) ∧ zs.Nodup ∧ zs.length < 60 ∧ (∀ z ∈ zs, z.length ≤ 1000 ∧ RW z ∧ (w z).natAbs < 2 ^ 900) ∧ (zs.map w).sum < (2 : Int) ^ B ∧
  (∀ z, badW zs w = some (false, z) → EName CN z H E) ∧ (∀ z, badW zs w = some (true, z) → EBad CB (w z) H E) ∧
  (badW zs w = none → (zs.map w).sum = 0 → ∀ r d' H', Same H H' → H' d' = some (.xd [("total", .ref r)]) → IsR CR H' r 0 → E (.ref CX) (some d') H') ∧
  (badW zs w = none → (zs.map w).sum ≠ 0 → ∀ H', IsCf CC H H' a B (posN zs w) (fun z => if z ∈ zs then ((w z : Int) : Rat) / (((zs.map w).sum : Int) : Rat) else 0) → But a H H' → Q .non H')
abbrev s_Chance___init__ : Stmt := inClass (top 38) 0
theorem sc_Chance___init__ : FnScope ["self", "weights", "name"] ["self", "weights"] (defScope s_Chance___init__) := ⟨rfl, rfl, rfl, by decide +kernel, rfl, by decide +kernel, by decide +kernel⟩
theorem ok_Chance___init__ {P : Program} {w : World} {K : PySem.W.Frag} {mg : Str → Option Value} {base : Heap} {CB CC CN CR CX : Addr} {f : Addr} {fd : FuncData} (F : L2.Fun K "__init__" "Chance.__init__" s_Chance___init__ f fd)
    (C_b_sorted : mg "sorted" = none)
    (C_b_sum : mg "sum" = none)
    (C_c_Chance : ClO K CC)
    (C_f_is_name : Cal P w K mg base "is_name" 1 spIsName)
    (C_f_least : Cal P w K mg base "_least" 1 (spLeast K))
    (C_gRatio : mg "Ratio" = some (.ref CR))
    (C_k_Ratio_whole : CalK P w K mg base CR "whole" 10 (spRWhole CR))
    (C_na_Chance__sum : NoAttr K CC "_sum")
    (C_na_Chance__weights : NoAttr K CC "_weights")
    (C_x_BadName : CalX P w K mg base "BadName" CN 1 ["self", "name"] (spX1 K CN "name" GStW))
    (C_x_BadNumber : CalX P w K mg base "BadNumber" CB 6 ["self", "n"] (spX1 K CB "n" (GNum CR)))
    (C_x_BadShares : CalX P w K mg base "BadShares" CX 6 ["self", "total"] (spX1 K CX "total" (GNum CR))) :
    FnOk P w K mg base (L2.CX P w) 11 f fd ["self", "weights"] (spCInitG K CR CC CB CN CX) := by
  refine fnOk_mk F sc_Chance___init__ (fun vs H Q E h => h.1) (fun cdv A outer s H vs Q E hr h => ?_)
  obtain ⟨_, a, d, o, zs, w, B, rfl, ⟨dx, ha⟩, hd, hnd, hl, hw, hB, kN, kB, kS, k⟩ := h
  refine ⟨_, pss_cons (ps_for (passes_of rfl) rfl (pi_any (K := K) rfl (pe_callB (k_sortD rfl) (by rfl) C_b_sorted (by decide +kernel) (pa_cons (pv 1) pa_nil))) (pg_name (i := 2) sc_Chance___init__.nd rfl (Or.inl rfl)) (pss_cons (ps_if (pt_not (pt_val (z_callC C_f_is_name hr passN (pa_cons (pv 2) pa_nil)))) (pss_one (ps_raise rfl (takes_of rfl rfl rfl rfl) (z_mkX C_x_BadName hr (pa_cons (pv 2) pa_nil)))) (pss_nil))
    (pss_one (ps_if (pt_cmpR op_lt (pe_dget (hu_of hr) (pv 1) (pv 2) (fun _ _ => rfl)) pe_int (nomark _)) (pss_one (ps_raise rfl (takes_of rfl rfl rfl rfl) (z_mkX C_x_BadNumber hr (pa_cons (pe_dget (hu_of hr) (pv 1) (pv 2) (fun _ _ => rfl)) pa_nil)))) (pss_nil)))))
    (pss_cons (ps_if (pt_cmpR op_eq (pe_callB (cr_sumV rfl) (by rfl) C_b_sum (by decide +kernel) (pa_cons (pe_vals (pv 1)) pa_nil)) pe_int (nomark _)) (pss_one (ps_raise rfl (takes_of rfl rfl rfl rfl) (z_mkX C_x_BadShares hr (pa_cons (z_cmethC (pe_glob (v := .ref CR) rfl C_gRatio rfl) C_k_Ratio_whole hr passN (pa_cons pe_int pa_nil)) pa_nil)))) (pss_nil))
    (pss_cons (ps_fld (pv 0) (z_callC C_f_least hr passN (pa_cons (pv 1) pa_nil)) rfl)
    (pss_one (ps_frz (ps_fld (pv 0) (pe_callB (cr_sumV rfl) (by rfl) C_b_sum (by decide +kernel) (pa_cons (pe_vals (pe_fld (pv 0) rfl)) pa_nil)) rfl))))), ?_⟩
  try dsimp only [cxOf]
  walk_at "rd"
  refine i_sortR (.inr ⟨o, hd⟩) (dF_keys _ _) (by omega) fun l H1 hl1 s1 o1 e1 => ?_
  walk_at "rd"
  have hd1 := s1 _ _ hd
  refine i_forA (H0 := H1) (fun i σ H' => ∃ v, σ = [some (.ref a), some (.ref d), v] ∧ Same H1 H' ∧ ∀ y ∈ (srt zs).take i, nameB y = true ∧ 0 ≤ w y) (SqA.l e1) ⟨none, rfl, Same.refl _, fun y hy => by simp at hy⟩ (fun i σ H' h => by obtain ⟨_, _, s, _⟩ := h; exact s) ?_ ?_
  · rintro i x σ H2 hx ⟨v, rfl, s2, hk⟩
    obtain ⟨z, hz, rfl⟩ := strs_at hx
    have hm : z ∈ zs := mem_srt.mp (List.mem_of_getElem? hz)
    obtain ⟨w1, w2, w3⟩ := hw z hm
    walk_at "rd"
    refine ⟨rfl, z, rfl, Nat.le_trans w1 (by decide), fun H3 s3 => ?_⟩
    have s03 := (s1.trans s2).trans s3
    cases hn : nameB z with
    | false =>
      walk_at "rd"
      exact i_mkX1 (fun H' s => ⟨z, rfl, w2⟩) fun d' H' _ s e => kN z (badW_at hz hk hn (fun h => by cases h)) d' H' (s03.trans s) e
    | true =>
      walk_at "rd"
      refine i_dgetR (.inr ⟨o, s3 _ _ (s2 _ _ hd1)⟩) (valV_in hm) ?_
      walk_at "rd"
      refine i_dec (fun e => ?_) fun e => ?_
      · walk_at "rd"
        refine i_dgetR (.inr ⟨o, s3 _ _ (s2 _ _ hd1)⟩) (valV_in hm) ?_
        walk_at "rd"
        exact i_mkX1 (fun H' s => .inl ⟨w z, rfl, ZR.Sz.mono (n := 900) w3 (by decide)⟩) fun d' H' _ s e2 => kB z (badW_at hz hk hn fun _ => e) d' H' (s03.trans s) e2
      · walk_at "rd"
        refine ⟨_, rfl, s2.trans s3, fun y hy => ?_⟩
        rw [take_snoc hz] at hy
        rcases List.mem_append.mp hy with h | h
        · exact hk y h
        · rw [List.mem_singleton.mp h]; exact ⟨hn, by omega⟩
  · rintro σ H2 ⟨v, rfl, s2, hk⟩
    rw [List.length_map, List.take_length] at hk
    have bn := badW_none hk
    have hk' : ∀ z ∈ zs, nameB z = true ∧ 0 ≤ w z := fun z hz => hk z (mem_srt.mpr hz)
    have hd2 := s2 _ _ hd1
    walk_at "rd"
    refine ⟨d, o, _, rfl, hd2, fun q3 hq3 => ?_⟩
    have s3 : Same H2 (upd H2 q3 (ValO q3 d)) := same_new hq3
    have e3 : upd H2 q3 (ValO q3 d) q3 = some (ValO q3 d) := upd_same
    generalize upd H2 q3 (ValO q3 d) = H3 at *
    walk_at "rd"
    refine ⟨q3, d, o, _, zs.map w, rfl, e3, s3 _ _ hd2, dI_vals _ _, ?_⟩
    walk_at "rd"
    have t03 := (s1.trans s2).trans s3
    refine i_dec (fun e => ?_) fun e => ?_
    · walk_at "rd"
      refine ⟨rfl, ?_⟩
      walk_at "rd"
      refine i_whole fun r H4 hr4 s4 hR => ?_
      rw [show ((0 : Int) : Rat) = 0 from rfl] at hR
      walk_at "rd"
      exact i_mkX1 (fun H' s => .inr ⟨r, 0, rfl, hR.mono s, by decide +kernel, by decide +kernel⟩) fun d' H' _ s e2 => kS bn e r d' H' ((t03.trans s4).trans s) e2 (hR.mono s)
    · walk_at "rd"
      have ha3 := t03 _ _ ha
      have hp := sum_pos_ex (fun z hz => (hk' z hz).2) e
      refine ⟨rfl, d, o, zs, w, rfl, s3 _ _ hd2, hnd, hl, fun z hz => Nat.lt_of_lt_of_le (hw z hz).2.2 (Nat.pow_le_pow_right (by decide) (by decide)), hp, fun q H4 hq4 s4 e4 => ?_⟩
      walk_at "rd"
      refine i_put1 (s4 _ _ ha3) C_c_Chance.toCls C_na_Chance__weights (by show 0 < 100; decide) (cf_p1 _) fun H5 e5 o5 => ?_
      have qa : q ≠ a := fun z => by rw [z, ha3] at hq4; cases hq4
      have eq5 : H5 q = some (.dK (dI (posN zs w) fun z => (w z).fdiv (gcF (zs.map w) : Nat))) := by rw [o5 q qa]; exact e4
      have b05 : But a H H5 := (But.of (t03.trans s4)).trans (But.of' o5)
      obtain ⟨cd, cp⟩ := chd_of hnd hl (fun z hz => (hk' z hz).1) (fun z hz => (hk' z hz).2) hp hB
      generalize hS : ((posN zs w).map fun z => (w z).fdiv (gcF (zs.map w) : Nat)).sum = S at *
      refine i_frz eq5 trivial fun od H6 e6 o6 => ?_
      have e56 : H6 a = some (.ins CC dx [(("_weights" : Str), V.ref q)]) := by rw [o6 a (Ne.symm qa)]; exact e5
      walk_at "rd"
      refine i_fld1 e56 C_c_Chance.toCls C_na_Chance__weights cf_w1 ?_
      refine ⟨q, od, _, rfl, e6, fun q7 hq7 => ?_⟩
      have s7 : Same H6 (upd H6 q7 (ValO q7 q)) := same_new hq7
      have e7 : upd H6 q7 (ValO q7 q) q7 = some (ValO q7 q) := upd_same
      generalize upd H6 q7 (ValO q7 q) = H7 at *
      walk_at "rd"
      refine ⟨q7, q, od, _, (posN zs w).map fun z => (w z).fdiv (gcF (zs.map w) : Nat), rfl, e7, s7 _ _ e6, dI_vals _ _, ?_⟩
      rw [hS]
      walk_at "rd"
      refine i_put1 (s7 _ _ e56) C_c_Chance.toCls C_na_Chance__sum (by show 1 < 100; decide) (cf_p2 _ _) fun H8 e8 o8 => ?_
      refine k bn e H8 ⟨dx, q, od, _, S, e8, by rw [o8 q qa]; exact s7 _ _ e6, cd, cp, same_noneV t03 hq4⟩ ?_
      intro b u nb e
      have n6 : b ≠ q := fun z => by rw [z, same_noneV t03 hq4] at e; cases e
      rw [o8 b nb]
      refine s7 _ _ ?_
      rw [o6 b n6]
      exact b05 b u nb e
theorem cf_no {m : Str} {d : Addr} {S : Int} (h1 : (m == ("_weights" : Str)) = false) (h2 : (m == ("_sum" : Str)) = false) : List.lookup m (cf d S) = none := by simp [cf, List.lookup, h1, h2]
theorem i_newCGf {K : PySem.W.Frag} {CR CC CB CN CX d : Addr} {o : Obj} {zs : List Str} {w : Str → Int} {B : Nat} {H : Hp} {Q : VK} {E : XK} (hd : H d = some (.frz o (.dK (dI zs w)))) (hnd : zs.Nodup) (hl : zs.length < 60) (hw : ∀ z ∈ zs, z.length ≤ 1000 ∧ RW z ∧ (w z).natAbs < 2 ^ 900) (hB : (zs.map w).sum < (2 : Int) ^ B)
    (kN : ∀ z, badW zs w = some (false, z) → EName CN z H E) (kB : ∀ z, badW zs w = some (true, z) → EBad CB (w z) H E)
    (kS : badW zs w = none → (zs.map w).sum = 0 → ∀ r d' H', Same H H' → H' d' = some (.xd [("total", .ref r)]) → IsR CR H' r 0 → E (.ref CX) (some d') H')
    (k : badW zs w = none → (zs.map w).sum ≠ 0 → ∀ p H', H p = none → Same H H' → IsCf CC H H' p B (posN zs w) (fun z => if z ∈ zs then ((w z : Int) : Rat) / (((zs.map w).sum : Int) : Rat) else 0) → Q (.ref p) H') : rNew CC (spCInitG K CR CC CB CN CX) [.ref d] H Q E := by
  intro x dx hx hdx hne
  have up : ∀ {H' : Hp}, Same (upd (upd H dx (.own x)) x (.ins CC dx [])) H' → Same H H' := fun s b u e => s b u (by rw [upd_ne (ne_of_none e hx), upd_ne (ne_of_none e hdx)]; exact e)
  refine ⟨rfl, x, d, o, zs, w, B, rfl, ⟨dx, upd_same⟩, ?_, hnd, hl, hw, hB, fun z hz d' H' s e => kN z hz d' H' (up s) e, fun z hz d' H' s e => kB z hz d' H' (up s) e, fun h1 h2 r d' H' s e hr => kS h1 h2 r d' H' (up s) e hr, fun h1 h2 H' hc bt => ⟨rfl, k h1 h2 x H' hx (fun b u e => bt b u (ne_of_none e hx) ?_) ?_⟩⟩
  · rw [upd_ne (ne_of_none hd hx), upd_ne (ne_of_none hd hdx)]
    exact hd
  · rw [upd_ne (ne_of_none e hx), upd_ne (ne_of_none e hdx)]
    exact e
  · obtain ⟨dx', d', o', w', S', g1, g2, g3, g4, g5⟩ := hc
    refine ⟨dx', d', o', w', S', g1, g2, g3, g4, ?_⟩
    cases z : H d' with
    | none => rfl
    | some u => rw [upd_ne (ne_of_none z hx), upd_ne (ne_of_none z hdx), z] at g5; cases g5
theorem pow_le9 {B : Nat} {S : Int} (h : S < (2 : Int) ^ B) (h0 : 0 < S) (hB : B ≤ 900) : ZR.Sz 900 S := by
  have e : (2 : Int) ^ B = ((2 ^ B : Nat) : Int) := by push_cast; rfl
  have : 2 ^ B ≤ 2 ^ 900 := Nat.pow_le_pow_right (by decide) hB
  unfold ZR.Sz
  omega
def spCIter (CC : Addr) : Nat → Sp := fun n vs H Q _ => vs.length = 1 ∧ ∃ (a dx d : Addr) (S : Int) (o : Obj) (kvs : List (Key × V)), vs = [.ref a] ∧ H a = some (.ins CC dx (cf d S)) ∧ H d = some (.frz o (.dK kvs)) ∧ ∀ q, n ≤ q → H q = none → Q (.ref q) (upd H q (KeyIt q d 0 o kvs.length))
theorem ownC {CC a dx d : Addr} {S : Int} {o : Obj} {kvs : List (Key × V)} {H : Hp} (h1 : H a = some (.ins CC dx (cf d S))) (h2 : H d = some (.frz o (.dK kvs))) : OwnD CC (spCIter CC) a d o kvs H :=
  ⟨⟨dx, _, h1⟩, h2, fun n => ⟨rfl, a, dx, d, S, o, kvs, rfl, h1, h2, fun q hle hn => ⟨q, rfl, hle, hn, rfl⟩⟩⟩
abbrev s_Chance___iter__ : Stmt := inClass (top 38) 13
theorem sc_Chance___iter__ : FnScope ["self"] ["self"] (defScope s_Chance___iter__) := ⟨rfl, rfl, rfl, by decide +kernel, rfl, by decide +kernel, by decide +kernel⟩
theorem okT_Chance___iter__ {P : Program} {w : World} {K : PySem.W.Frag} {mg : Str → Option Value} {base : Heap} {CC : Addr} {f : Addr} {fd : FuncData} (F : L2.Fun K "__iter__" "Chance.__iter__" s_Chance___iter__ f fd)
    (C_b_iter : mg "iter" = none)
    (C_c_Chance : ClO K CC)
    (C_na_Chance__sum : NoAttr K CC "_sum")
    (C_na_Chance__weights : NoAttr K CC "_weights")
    (b : Binds K fd ["self"] []) :
    FnT P w K mg base 1 f (spCIter CC) := by
  refine fnT_mk F sc_Chance___iter__ b (fun _ vs H Q E h => h.1) (fun cdv A outer s H vs Q E hr h => ?_)
  obtain ⟨_, a, dx, d, S, o, kvs, rfl, h1, h2, k⟩ := h
  refine ⟨_, pss_one (ps_ret (pe_callB cr_iterDS (by rfl) C_b_iter (by decide +kernel) (pa_cons (pe_fld (pv 0) rfl) pa_nil))), ?_⟩
  try dsimp only [cxOf]
  walk_at "rd"
  refine i_fld1 h1 C_c_Chance.toCls C_na_Chance__weights (cf_w d S) ?_
  walk_at "rd"
  exact ⟨d, o, kvs, rfl, h2, fun q hle hn => k q hle hn⟩
theorem rb_name {z : Str} (h : nameB z = true) : RB z := by
  have h1 := StrLaws.reprText_len z (name_chars h)
  have h2 := nameB_len h
  unfold RB
  omega
theorem nW {z : Str} (h : nameB z = true) : RW z := Nat.le_trans (rb_name h) (by decide)
/-- sums over the names -/
def sF (l : List Rat) : Rat := l.foldl (fun s q => s + q) 0
theorem sF_snoc {l : List Rat} {q : Rat} : sF (l ++ [q]) = sF l + q := by unfold sF; rw [List.foldl_append]; rfl
theorem isum_cast {f : Str → Int} : ∀ l : List Str, (((l.map f).sum : Int) : Rat) = sF (l.map fun z => ((f z : Int) : Rat)) := by
  refine ZB.snoc_ind (by simp [sF]) fun l u ih => ?_
  rw [List.map_append, List.map_append, List.sum_append, List.map_cons, List.map_nil, List.map_cons, List.map_nil, sF_snoc, ← ih, Rat.intCast_add]
  simp
theorem sF_mul {f : Str → Rat} {c : Rat} : ∀ l : List Str, sF (l.map fun z => f z * c) = sF (l.map f) * c := by
  refine ZB.snoc_ind (by simp [sF]) fun l u ih => ?_
  rw [List.map_append, List.map_append, List.map_cons, List.map_nil, List.map_cons, List.map_nil, sF_snoc, sF_snoc, ih]
  grind
def spMass (K : PySem.W.Frag) (CR CC : Addr) : Sp := fun vs H Q _ => vs.length = 2 ∧ ∃ (a l : Addr) (B : Nat) (N : List Str) (p : Str → Rat) (zs : List Str), vs = [.ref a, .ref l] ∧ IsC CC H a B N p ∧ B ≤ 900 ∧ SqA K H l (zs.map V.str) ∧ zs.length < 60 ∧ ∀ c H', H c = none → Same H H' → IsR CR H' c (sF ((srt (ddp zs)).map p)) → Q (.ref c) H'
abbrev s_Chance_mass : Stmt := inClass (top 38) 5
theorem sc_Chance_mass : FnScope ["self", "names", "name"] ["self", "names"] (defScope s_Chance_mass) := ⟨rfl, rfl, rfl, by decide +kernel, rfl, by decide +kernel, by decide +kernel⟩
theorem ok_Chance_mass {P : Program} {w : World} {K : PySem.W.Frag} {mg : Str → Option Value} {base : Heap} {CB CC CR : Addr} {f : Addr} {fd : FuncData} (F : L2.Fun K "mass" "Chance.mass" s_Chance_mass f fd)
    (C_b_set : mg "set" = none)
    (C_b_sorted : mg "sorted" = none)
    (C_b_sum : mg "sum" = none)
    (C_c_Chance : ClO K CC)
    (C_i_Ratio : CalI P w K mg base "Ratio" CR 8 (spRInit CR CB))
    (C_na_Chance__sum : NoAttr K CC "_sum")
    (C_na_Chance__weights : NoAttr K CC "_weights") :
    FnOk P w K mg base (L2.CX P w) 10 f fd ["self", "names"] (spMass K CR CC) := by
  refine fnOk_mk F sc_Chance_mass (fun vs H Q E h => h.1) (fun cdv A outer s H vs Q E hr h => ?_)
  obtain ⟨_, a, l, B, N, p, zs, rfl, hC, hB, hl, hz, k⟩ := h
  refine ⟨_, pss_one (ps_ret (z_makeC C_i_Ratio hr passN (pa_cons (pe_callB (cr_sum rfl) (by rfl) C_b_sum (by decide +kernel) (pa_cons (pe_lc (own := [("name", 2)]) (by rfl) sc_Chance_mass.nd (pi_any (K := K) rfl (pe_callB (cr_sortX rfl) (by rfl) C_b_sorted (by decide +kernel) (pa_cons (pe_callTy (cr_setX rfl) (by rfl) C_b_set (by decide +kernel) (pa_cons (pv 1) pa_nil)) pa_nil))) (blkOk_by (N := ["self", "names", "name"]) (sc := defScope s_Chance_mass) (by decide +kernel)) (fun _ _ _ _ _ => pg_name (i := 2) sc_Chance_mass.nd rfl (Or.inl rfl)) (fun _ _ _ _ _ => pts_nil) (fun _ _ _ _ _ => pe_dget2 (hu_of hr) (k_fld (K := K) rfl (pv 0) rfl) (pv 2) pe_int ⟨by rfl, by rfl, by rfl, by rfl⟩)) pa_nil)) (pa_cons (pe_fld (pv 0) rfl) pa_nil)))), ?_⟩
  try dsimp only [cxOf]
  walk_at "rd"
  refine ⟨l, zs, rfl, hl, by omega, fun t ht => ?_⟩
  have s1 : Same H (upd H t (TxO P w t (ddp zs))) := same_new ht
  have e1 : upd H t (TxO P w t (ddp zs)) t = some (TxO P w t (ddp zs)) := upd_same
  generalize upd H t (TxO P w t (ddp zs)) = H1 at *
  walk_at "rd"
  have lz := ddp_len zs
  refine ⟨t, ddp zs, rfl, e1, by omega, fun q H2 hq s2 o2 e2 => ?_⟩
  have s02 := s1.trans s2
  obtain ⟨dx, d, o, w', S, h1, h2, cd, hp⟩ := id hC
  walk_at "rd"
  have hv : ∀ z, (valV (dI N w') (.inr z)).getD (.int 0) = .int (if z ∈ N then w' z else 0) := fun z => by
    rw [valV_dF]
    by_cases h : z ∈ N
    · rw [if_pos h, if_pos h]; rfl
    · rw [if_neg h, if_neg h]; rfl
  refine i_lcA (H0 := H2) (fun i ys H' => Same H2 H' ∧ ys = (((srt (ddp zs)).take i).map fun z => if z ∈ N then w' z else 0).map V.int) (SqA.l e2) (Same.refl _) (fun D H' hD s e ho => ⟨s, rfl⟩) (fun i ys H' h => h.1) ?_ ?_
  · rintro i x D ys H3 hD hx eD ⟨s3, rfl⟩
    obtain ⟨z, hz, rfl⟩ := strs_at hx
    have hi := (List.getElem?_eq_some_iff.mp hz).1
    rw [(srt_perm _).length_eq] at hi
    have t03 := s02.trans s3
    walk_at "rd"
    refine ⟨by with_unfolding_all rfl, ?_⟩
    walk_at "rd"
    refine i_fld1 (t03 _ _ h1) C_c_Chance.toCls C_na_Chance__weights (cf_w d S) ?_
    refine i_dget2 (.inr ⟨o, t03 _ _ h2⟩) ?_
    walk_at "rd"
    refine i_dget2b (.inr ⟨o, t03 _ _ h2⟩) ?_
    rw [hv]
    refine i_lcE eD (by rw [List.length_map, List.length_map, List.length_take]; omega) fun H4 e4 o4 => ⟨fun b u e => ?_, ?_⟩
    · rw [o4 _ (ne_of_none e hD)]
      exact s3 _ _ e
    · rw [take_snoc hz, List.map_append, List.map_append]
      rfl
  rintro D ys H3 hD eD ⟨s3, rfl⟩
  rw [List.length_map, List.take_length] at eD
  walk_at "rd"
  refine ⟨D, _, rfl, .of eD, ?_⟩
  walk_at "rd"
  refine i_fld1 (s3 _ _ (s02 _ _ h1)) C_c_Chance.toCls C_na_Chance__sum (cf_s d S) ?_
  walk_at "rd"
  have S0 := cd.ne
  refine i_newR (by omega) ((pow_le9 cd.sz S0 hB).mono (by decide)) fun c H' hc s hr => k c H' (same_noneV (s02.trans s3) hc) ((s02.trans s3).trans s) ?_
  have e : ((((srt (ddp zs)).map fun z => if z ∈ N then w' z else 0).sum : Int) : Rat) / ((S : Int) : Rat) = sF ((srt (ddp zs)).map p) := by
    rw [isum_cast, Rat.div_def, ← sF_mul]
    congr 1
    refine List.map_congr_left fun z _ => ?_
    rw [hp z]
    by_cases h : z ∈ N
    · rw [if_pos h, if_pos h, Rat.div_def]
    · rw [if_neg h, if_neg h, show ((0 : Int) : Rat) = 0 from rfl, Rat.zero_mul]
  rw [e] at hr
  exact hr
def spShare (K : PySem.W.Frag) (CR CC : Addr) : Sp := fun vs H Q _ => vs.length = 2 ∧ ∃ (a : Addr) (z : Str) (B : Nat) (N : List Str) (p : Str → Rat), vs = [.ref a, .str z] ∧ IsC CC H a B N p ∧ B ≤ 900 ∧ ∀ c H', H c = none → Same H H' → IsR CR H' c (p z) → Q (.ref c) H'
abbrev s_Chance_share : Stmt := inClass (top 38) 4
theorem sc_Chance_share : FnScope ["self", "name"] ["self", "name"] (defScope s_Chance_share) := ⟨rfl, rfl, rfl, by decide +kernel, rfl, by decide +kernel, by decide +kernel⟩
theorem ok_Chance_share {P : Program} {w : World} {K : PySem.W.Frag} {mg : Str → Option Value} {base : Heap} {CB CC CR : Addr} {f : Addr} {fd : FuncData} (F : L2.Fun K "share" "Chance.share" s_Chance_share f fd)
    (C_c_Chance : ClO K CC)
    (C_i_Ratio : CalI P w K mg base "Ratio" CR 8 (spRInit CR CB))
    (C_na_Chance__sum : NoAttr K CC "_sum")
    (C_na_Chance__weights : NoAttr K CC "_weights") :
    FnOk P w K mg base (L2.CX P w) 10 f fd ["self", "name"] (spShare K CR CC) := by
  refine fnOk_mk F sc_Chance_share (fun vs H Q E h => h.1) (fun cdv A outer s H vs Q E hr h => ?_)
  obtain ⟨_, a, z, B, N, p, rfl, ⟨dx, d, o, w, S, h1, h2, cd, hp⟩, hB, k⟩ := h
  refine ⟨_, pss_one (ps_ret (z_makeC C_i_Ratio hr passN (pa_cons (pe_dget2 (hu_of hr) (pe_fld (pv 0) rfl) (pv 1) pe_int ⟨by rfl, by rfl, by rfl, by rfl⟩) (pa_cons (pe_fld (pv 0) rfl) pa_nil)))), ?_⟩
  try dsimp only [cxOf]
  walk_at "rd"
  refine i_fld1 h1 C_c_Chance.toCls C_na_Chance__weights (cf_w d S) ?_
  refine i_dget2 (.inr ⟨o, h2⟩) ?_
  walk_at "rd"
  refine i_dget2b (.inr ⟨o, h2⟩) ?_
  have ev : (valV (dI N w) (.inr z)).getD (.int 0) = .int (if z ∈ N then w z else 0) := by
    rw [valV_dF]
    by_cases e : z ∈ N
    · rw [if_pos e, if_pos e]; rfl
    · rw [if_neg e, if_neg e]; rfl
  rw [ev]
  walk_at "rd"
  refine i_fld1 h1 C_c_Chance.toCls C_na_Chance__sum (cf_s d S) ?_
  have S0 := cd.ne
  refine i_newR (by omega) ((pow_le9 cd.sz S0 hB).mono (by decide)) fun c H' hc s hr => k c H' hc s ?_
  rw [hp z]
  by_cases e : z ∈ N
  · rw [if_pos e] at hr ⊢
    exact hr
  · rw [if_neg e] at hr ⊢
    rw [show ((0 : Int) : Rat) = 0 from rfl, Rat.div_def, Rat.zero_mul] at hr
    exact hr
def spWeights (CC : Addr) : Sp := fun vs H Q _ => vs.length = 1 ∧ ∃ (a : Addr) (dx d : Addr) (S : Int) (o : Obj) (kvs : List (Key × V)), vs = [.ref a] ∧ H a = some (.ins CC dx (cf d S)) ∧ H d = some (.frz o (.dK kvs)) ∧ ∀ q H', H q = none → Same H H' → H' q = some (.dK kvs) → Q (.ref q) H'
abbrev s_Chance_weights : Stmt := inClass (top 38) 6
theorem sc_Chance_weights : FnScope ["self"] ["self"] (defScope s_Chance_weights) := ⟨rfl, rfl, rfl, by decide +kernel, rfl, by decide +kernel, by decide +kernel⟩
theorem ok_Chance_weights {P : Program} {w : World} {K : PySem.W.Frag} {mg : Str → Option Value} {base : Heap} {CC : Addr} {f : Addr} {fd : FuncData} (F : L2.Fun K "weights" "Chance.weights" s_Chance_weights f fd)
    (C_b_dict : mg "dict" = none)
    (C_c_Chance : ClO K CC)
    (C_na_Chance__sum : NoAttr K CC "_sum")
    (C_na_Chance__weights : NoAttr K CC "_weights") :
    FnOk P w K mg base (L2.CX P w) 1 f fd ["self"] (spWeights CC) := by
  refine fnOk_mk F sc_Chance_weights (fun vs H Q E h => h.1) (fun cdv A outer s H vs Q E hr h => ?_)
  obtain ⟨_, a, dx, d, S, o, kvs, rfl, h1, h2, k⟩ := h
  refine ⟨_, pss_one (ps_ret (pe_callTy k_dictD (by rfl) C_b_dict (by decide +kernel) (pa_cons (pe_fld (pv 0) rfl) pa_nil))), ?_⟩
  try dsimp only [cxOf]
  walk_at "rd"
  refine i_fld1 h1 C_c_Chance.toCls C_na_Chance__weights (cf_w d S) ?_
  exact i_dictR (.inr ⟨o, h2⟩) fun q H1 hq s1 o1 e1 => k q H1 hq s1 e1
def spTotG (K : PySem.W.Frag) (CR : Addr) : Sp := fun vs H Q _ => vs.length = 1 ∧ ∃ (l : Addr) (ps : List (Addr × Rat)), vs = [.ref l] ∧ SqL K H l (rfs ps) ∧ RsAt CR H ps ∧ (∀ x ∈ ps, ZR.Bd 2000 x.2) ∧ (∀ i, ZR.Bd 2000 (ZD.sm (ps.take i))) ∧
  ∀ c H', H c = none → Same H H' → IsR CR H' c (ZD.sm ps) → Q (.ref c) H'
abbrev s_total : Stmt := top 26
theorem sc_total : FnScope ["ratios", "found", "ratio"] ["ratios"] (defScope s_total) := ⟨rfl, rfl, rfl, by decide +kernel, rfl, by decide +kernel, by decide +kernel⟩
theorem ok_total {P : Program} {w : World} {K : PySem.W.Frag} {mg : Str → Option Value} {base : Heap} {CR : Addr} {f : Addr} {fd : FuncData} (F : L2.Fun K "total" "total" s_total f fd)
    (C_gRatio : mg "Ratio" = some (.ref CR))
    (C_k_Ratio_whole : CalK P w K mg base CR "whole" 10 (spRWhole CR))
    (C_o_Ratio_add : CalO P w K mg base CR "__add__" 10 (spR2 CR (· + ·))) :
    FnOk P w K mg base (L2.CX P w) 11 f fd ["ratios"] (spTotG K CR) := by
  refine fnOk_mk F sc_total (fun vs H Q E h => h.1) (fun cdv A outer s H vs Q E hr h => ?_)
  obtain ⟨_, l, ps, rfl, hl, hr0, hg, hs, k⟩ := h
  refine ⟨_, pss_cons (ps_set (i := 1) sc_total.nd rfl (Or.inl rfl) (z_cmethC (pe_glob (v := .ref CR) rfl C_gRatio rfl) C_k_Ratio_whole hr passN (pa_cons pe_int pa_nil)))
    (pss_cons (ps_for (passes_of rfl) rfl (pi_any (K := K) rfl (pv 0)) (pg_name (i := 2) sc_total.nd rfl (Or.inl rfl)) (pss_one (ps_set (i := 1) sc_total.nd rfl (Or.inl rfl) (pe_op (z_op C_o_Ratio_add hr) (pv 1) (pv 2)))))
    (pss_one (ps_ret (pv 1)))), ?_⟩
  try dsimp only [cxOf]
  walk_at "rd"
  refine ⟨rfl, ?_⟩
  walk_at "rd"
  refine i_whole fun c H1 hc s1 hr1 => ?_
  walk_at "rd"
  refine i_forA (H0 := H) (fun i σ H' => ∃ c v, σ = [some (.ref l), some (.ref c), v] ∧ Same H H' ∧ H c = none ∧ IsR CR H' c (ZD.sm (ps.take i))) (.inl hl)
    ⟨c, none, rfl, s1, hc, hr1⟩ (fun i σ H' => fun ⟨_, _, _, s, _⟩ => s) ?_ ?_
  · rintro i x σ H2 hi ⟨c2, v, rfl, s2, hc2, hr2⟩
    have hlt : i < ps.length := by
      have := (List.getElem?_eq_some_iff.mp hi).1
      unfold rfs at this
      simpa using this
    obtain rfl : x = V.ref ps[i].1 := by
      unfold rfs at hi
      simpa [hlt] using hi.symm
    have hm : ps[i] ∈ ps := List.getElem_mem hlt
    have b1 : ZR.Bd 2000 (ZD.sm (ps.take i)) := hs i
    have b2 : ZR.Bd 2000 ps[i].2 := hg _ hm
    walk_at "rd"
    refine i_R2 hr2 ((hr0 _ hm).mono s2) b1 b2 fun d H3 hd s3 hr3 => ?_
    walk_at "rd"
    have e : ZD.sm (ps.take (i + 1)) = ZD.sm (ps.take i) + ps[i].2 := by
      rw [List.take_succ_eq_append_getElem hlt, ZD.sm_snoc]
    refine ⟨d, _, rfl, s2.trans s3, s2.free hd, ?_⟩
    rw [e]
    exact hr3
  · rintro σ H2 ⟨c2, v, rfl, s2, hc2, hr2⟩
    walk_at "rd"
    have e : ps.take (rfs ps).length = ps := by
      unfold rfs
      simp
    rw [e] at hr2
    exact k c2 H2 hc2 s2 hr2
/-! the law's helpers -/
open _root_.ZB
abbrev s_Ratio_under : Stmt := inClass (top 25) 4
theorem sc_Ratio_under : FnScope ["self", "other"] ["self", "other"] (defScope s_Ratio_under) := ⟨rfl, rfl, rfl, by decide +kernel, rfl, by decide +kernel, by decide +kernel⟩
theorem ok_Ratio_under {P : Program} {w : World} {K : PySem.W.Frag} {mg : Str → Option Value} {base : Heap} {CR : Addr} {f : Addr} {fd : FuncData} (F : L2.Fun K "under" "Ratio.under" s_Ratio_under f fd)
    (C_c_Ratio : ClO K CR)
    (C_na_Ratio_bottom : NoAttr K CR "bottom")
    (C_na_Ratio_top : NoAttr K CR "top") :
    FnOk P w K mg base (L2.CX P w) 1 f fd ["self", "other"] (spRUnder CR) := by
  refine fnOk_mk F sc_Ratio_under (fun vs H Q E h => h.1) (fun cdv A outer s H vs Q E hr h => ?_)
  obtain ⟨_, a, b, p, q, rfl, ha, hb, bp, bq, k⟩ := h
  refine ⟨_, pss_one (ps_ret (pe_cmpR op_lt (pe_op op_mulW (pe_fld (pv 0) rfl) (pe_fld (pv 1) rfl)) (pe_op op_mulW (pe_fld (pv 1) rfl) (pe_fld (pv 0) rfl)) (nomark _))), ?_⟩
  try dsimp only [cxOf]
  walk_at "rd"
  have e : decide (p.num * (q.den : Int) < q.num * (p.den : Int)) = decide (p < q) := decide_eq_decide.mpr (ZR.lt_nd p q)
  rw [e]
  exact k H (Same.refl _)
theorem i_notInO {CO a : Addr} {H : Hp} {Q : VK} {N : List Str} {R : Str → Str → Bool} {z : Str} (ho : IsO CO H a N R) (h : ∀ H', Same H H' → Q (.bl (!decide (z ∈ N))) H') : rInOwn CO (spOIn CO) true (.str z) (.ref a) H Q := by
  obtain ⟨dx, t, d, e1, _⟩ := id ho
  refine ⟨a, dx, _, rfl, e1, ⟨rfl, a, N, R, z, rfl, ho, fun H' s => ⟨_, rfl, ?_⟩⟩⟩
  have := h H' s
  cases hd : decide (z ∈ N) <;> rw [hd] at this <;> exact this
theorem miss_at {ks zs : List Str} {i : Nat} {z : Str} (hz : zs[i]? = some z) (hin : ∀ y ∈ zs.take i, y ∈ ks) (e : z ∉ ks) : miss ks zs = some z := by
  unfold miss
  have ez : zs = zs.take i ++ z :: zs.drop (i + 1) := by
    have := (List.take_append_drop i zs).symm
    rw [List.drop_eq_getElem_cons (List.getElem?_eq_some_iff.mp hz).1, (List.getElem?_eq_some_iff.mp hz).2] at this
    exact this
  rw [ez, List.find?_append, List.find?_eq_none.mpr (fun x hx => by simp [hin x hx])]
  simp [e]
theorem miss_ok {ks zs : List Str} (h : ∀ z ∈ zs, z ∈ ks) : miss ks zs = none := by
  unfold miss
  rw [List.find?_eq_none]
  intro x hx
  simp [h x hx]
def spAmC (CO CC CU : Addr) : Sp := fun vs H Q E => vs.length = 2 ∧ ∃ (a c : Addr) (N M : List Str) (R : Str → Str → Bool) (B : Nat) (p : Str → Rat), vs = [.ref a, .ref c] ∧ IsO CO H a N R ∧ IsC CC H c B M p ∧
  (∀ z, miss N M = some z → EName CU z H E) ∧ (miss N M = none → ∀ H', Same H H' → Q .non H')
theorem ok_check_among__C {P : Program} {w : World} {K : PySem.W.Frag} {mg : Str → Option Value} {base : Heap} {CC CO CU : Addr} {f : Addr} {fd : FuncData} (F : L2.Fun K "check_among" "check_among" s_check_among f fd)
    (C_it_Chance : ItO P w K mg base CC 1 (spCIter CC))
    (C_o_Order_contains : CalO P w K mg base CO "__contains__" 1 (spOIn CO))
    (C_x_UnknownName : CalX P w K mg base "UnknownName" CU 1 ["self", "name"] (spX1 K CU "name" GStW)) :
    FnOk P w K mg base (L2.CX P w) 3 f fd ["known", "names"] (spAmC CO CC CU) := by
  refine fnOk_mk F sc_check_among (fun vs H Q E h => h.1) (fun cdv A outer s H vs Q E hr h => ?_)
  obtain ⟨_, a, c, N, M, R, B, p, rfl, ho, hc, kx, k⟩ := h
  obtain ⟨dx, d, ob, w', S, h1, h2, cd, hp⟩ := id hc
  refine ⟨_, pss_one (ps_for (passes_of rfl) rfl (pi_ownD C_it_Chance hr (pv 1)) (pg_name (i := 2) sc_check_among.nd rfl (Or.inl rfl)) (pss_one (ps_if (pt_cmpR (z_notInOwn C_o_Order_contains hr) (pv 2) (pv 0) rfl) (pss_one (ps_raise rfl (takes_of rfl rfl rfl rfl) (z_mkX C_x_UnknownName hr (pa_cons (pv 2) pa_nil)))) (pss_nil)))), ?_⟩
  try dsimp only [cxOf]
  walk_at "rd"
  refine i_forO (ownC h1 h2) ?_
  refine forKeys (H0 := H) (fun i σ H1 => (∃ x, σ = [some (.ref a), some (.ref c), x]) ∧ Same H H1 ∧ ∀ z ∈ M.take i, z ∈ N) h2 ⟨⟨_, rfl⟩, Same.refl _, fun z h => by simp at h⟩ (fun i σ H1 p => AtS.of p.2.1) ?_ ?_
  · rintro i z σ H1 hz ⟨⟨u, rfl⟩, s1, hin⟩
    walk_at "rd"
    refine i_notInO (ho.mono s1) fun H2 s2 => ?_
    have s02 := s1.trans s2
    walk_at "rd"
    refine i_ndec (fun e => ?_) (fun e => ?_)
    · walk_at "rd"
      exact i_mkX1 (fun H' s => ⟨z, rfl, nW (cd.nm z (List.mem_of_getElem? hz))⟩) fun d H' hd s e' => kx z (miss_at hz hin e) d H' (s02.trans s) e'
    · walk_at "rd"
      refine ⟨⟨_, rfl⟩, s02, fun w hw => ?_⟩
      rw [take_snoc hz] at hw
      rcases List.mem_append.mp hw with hw | hw
      · exact hin w hw
      · rw [List.mem_singleton.mp hw]
        exact e
  · rintro σ H1 ⟨⟨u, rfl⟩, s1, hin⟩
    rw [List.take_length] at hin
    exact k (miss_ok hin) H1 s1
theorem IsC.ext {CC a : Addr} {H H' : Hp} {B : Nat} {N : List Str} {p : Str → Rat} (x : LamX.ExtN H H') (h : IsC CC H a B N p) : IsC CC H' a B N p := by
  obtain ⟨dx, d, o, w, S, h1, h2, h3, h4⟩ := h
  exact ⟨dx, d, o, w, S, x _ _ h1 (fun _ z => by cases z), x _ _ h2 (fun _ z => by cases z), h3, h4⟩
/-- what a chance gives some names -/
noncomputable def massOf (p : Str → Rat) (ws : List Str) : Rat := sF ((srt (ddp ws)).map p)
theorem isum_abs {f : Str → Int} {S : Int} : ∀ l : List Str, (∀ z ∈ l, 0 ≤ f z ∧ f z ≤ S) → 0 ≤ (l.map f).sum ∧ (l.map f).sum ≤ l.length * S
  | [], _ => by simp
  | z :: l, h => by
    obtain ⟨h1, h2⟩ := isum_abs l fun y hy => h y (List.mem_cons_of_mem _ hy)
    obtain ⟨g1, g2⟩ := h z List.mem_cons_self
    rw [List.map_cons, List.sum_cons, List.length_cons]
    push_cast
    rw [Int.add_mul, Int.one_mul]
    omega
theorem mass_bd {CC a : Addr} {H : Hp} {B : Nat} {N : List Str} {p : Str → Rat} (h : IsC CC H a B N p) (hB : B ≤ 900) {ws : List Str} (hl : ws.length ≤ 60) : ZR.Bd 2000 (massOf p ws) := by
  obtain ⟨dx, d, o, w, S, _, _, cd, hp⟩ := h
  have S0 := cd.ne
  obtain ⟨D, hD⟩ : ∃ D : Nat, S = (D : Int) := ⟨S.toNat, by omega⟩
  have D0 : 0 < D := by omega
  have DR : ((D : Nat) : Rat) ≠ 0 := by
    have := ZR.ci (b := ((D : Nat) : Int)) (by omega)
    simpa using this
  have lD := ddp_len ws
  have e : massOf p ws * (D : Rat) = ((((srt (ddp ws)).map fun z => if z ∈ N then w z else 0).sum : Int) : Rat) := by
    unfold massOf
    rw [isum_cast, ← sF_mul]
    congr 1
    refine List.map_congr_left fun z _ => ?_
    rw [hp z]
    by_cases g : z ∈ N
    · rw [if_pos g, if_pos g, hD]
      have : (((D : Nat) : Int) : Rat) = (D : Rat) := rfl
      rw [this]
      grind
    · rw [if_neg g, if_neg g]
      grind
  have sl : (srt (ddp ws)).length ≤ 60 := by rw [(srt_perm _).length_eq]; omega
  obtain ⟨b1, b2⟩ := isum_abs (f := fun z => if z ∈ N then w z else 0) (S := S) (srt (ddp ws)) fun z _ => by
    by_cases g : z ∈ N
    · rw [if_pos g]
      have := cd.pos z g
      refine ⟨by omega, ?_⟩
      rw [cd.sum]
      exact sum_ge (fun y hy => Int.le_of_lt (cd.pos y hy)) z g
    · rw [if_neg g]
      omega
  have hS := cd.sz
  have e9 : (2 : Int) ^ B = ((2 ^ B : Nat) : Int) := by push_cast; rfl
  rw [e9] at hS
  have p9 : 2 ^ B ≤ 2 ^ 900 := Nat.pow_le_pow_right (by decide) hB
  have lm : ((srt (ddp ws)).length : Int) * S ≤ 60 * S := Int.mul_le_mul_of_nonneg_right (by omega) (by omega)
  have g : Gs D (60 * 2 ^ 900) (massOf p ws) := ⟨_, e, by omega⟩
  refine g.bd D0 ?_ ?_
  · have : (2 : Nat) ^ 900 < 2 ^ 2000 := by decide +kernel
    omega
  · decide +kernel
noncomputable def barOf (U : List (List Str)) (p q : Str → Rat) : Option (List Str) := U.find? fun ws => decide (massOf q ws < massOf p ws)
def OptV (H : Hp) (o : Option (List Str)) (x : V) : Prop := (o = none ∧ x = .non) ∨ ∃ ws t, o = some ws ∧ x = .ref t ∧ H t = some (.tup (ws.map V.str))
def spBar (K : PySem.W.Frag) (CO CR CC CU : Addr) (TT : List (Addr × Str)) : Sp := fun vs H Q E => vs.length = 3 ∧ ∃ (o l h : Addr) (N M M' : List Str) (E0 : List (Str × Str)) (B B' : Nat) (p q : Str → Rat), vs = [.ref o, .ref l, .ref h] ∧ IsOE CO H o N E0 ∧ IsC CC H l B M p ∧ IsC CC H h B' M' q ∧ B ≤ 900 ∧ B' ≤ 900 ∧ LamX.Tabs TT H ∧
  (∀ z, miss N M = some z → EName CU z H E) ∧ (miss N M = none → (∀ z, miss N M' = some z → EName CU z H E) ∧ (miss N M' = none → ∀ H' x, LamX.ExtN H H' → LamX.Tabs TT H' → OptV H' (barOf (upsOf (OM.ab N (OM.cl E0)) N) p q) x → Q x H'))
abbrev s_barring : Stmt := top 28
theorem sc_barring : FnScope ["order", "low", "high", "names"] ["order", "low", "high"] (defScope s_barring) := ⟨rfl, rfl, rfl, by decide +kernel, rfl, by decide +kernel, by decide +kernel⟩
theorem ok_barring {P : Program} {w : World} {K : PySem.W.Frag} {mg : Str → Option Value} {base : Heap} {TT : List (Addr × Str)} {CC CO CR CU : Addr} {f : Addr} {fd : FuncData} (F : L2.Fun K "barring" "barring" s_barring f fd)
    (C_c_Chance : ClO K CC)
    (C_c_Order : ClO K CO)
    (C_c_Ratio : ClO K CR)
    (C_f_check_among__C : Cal P w K mg base "check_among" 3 (spAmC CO CC CU))
    (C_m_Chance_mass : CalM P w K mg base CC "mass" 10 (spMass K CR CC))
    (C_m_Order_ups : CalM P w K mg base CO "ups" 4 (spUps K CO TT))
    (C_m_Ratio_under : CalM P w K mg base CR "under" 1 (spRUnder CR))
    (C_na_Order_names : NoAttr K CO "names") :
    FnOk P w K mg base (L2.CX P w) 12 f fd ["order", "low", "high"] (spBar K CO CR CC CU TT) := by
  refine fnOk_mk F sc_barring (fun vs H Q E h => h.1) (fun cdv A outer s H vs Q E hr h => ?_)
  obtain ⟨_, o, l, hh, N, M, M', E0, B, B', p, q, rfl, io, hl, hq, hB, hB', hT, k1, k2⟩ := h
  refine ⟨_, pss_cons (ps_expr (z_callC C_f_check_among__C hr (fun σ => passAt (takes_of rfl rfl rfl rfl) σ) (pa_cons (pv 0) (pa_cons (pv 1) pa_nil))))
    (pss_cons (ps_expr (z_callC C_f_check_among__C hr (fun σ => passAt (takes_of rfl rfl rfl rfl) σ) (pa_cons (pv 0) (pa_cons (pv 2) pa_nil))))
    (pss_cons (ps_for (passes_of rfl) rfl (pi_any (K := K) rfl (z_meth0C (pv 0) C_c_Order.toCls C_m_Order_ups hr passN)) (pg_name (i := 3) sc_barring.nd rfl (Or.inl rfl)) (pss_one (ps_if (pt_val (z_methC (z_methC (pv 2) C_c_Chance.toCls C_m_Chance_mass hr passN (pa_cons (pv 3) pa_nil)) C_c_Ratio.toCls C_m_Ratio_under hr passN (pa_cons (z_methC (pv 1) C_c_Chance.toCls C_m_Chance_mass hr passN (pa_cons (pv 3) pa_nil)) pa_nil))) (pss_one (ps_ret (pv 3))) (pss_nil))))
    (pss_one (ps_ret pe_non)))), ?_⟩
  try dsimp only [cxOf]
  walk_at "rd"
  refine ⟨rfl, o, l, N, M, _, B, p, rfl, io.io, hl, k1, fun m1 H1 s1 => ?_⟩
  obtain ⟨k3, k4⟩ := k2 m1
  walk_at "rd"
  refine ⟨rfl, o, hh, N, M', _, B', q, rfl, io.io.mono s1, hq.mono s1, fun z hz d H' s e => k3 z hz d H' (s1.trans s) e, fun m2 H2 s2 => ?_⟩
  have s02 := s1.trans s2
  walk_at "rd"
  obtain ⟨dx, ti, d, e1, _⟩ := id (io.io.mono s02)
  refine i_meth1 e1 (ro_no (by decide +kernel) (by decide +kernel)) ?_
  walk_at "rd"
  have io2 : IsOE CO H2 o N E0 := ⟨io.io.mono s02, io.pw, io.anti, io.sub, io.pos⟩
  refine ⟨rfl, o, N, E0, rfl, io2, hT.ext s02, fun t H3 bs fn x3 T3 et tb hbs => ?_⟩
  have x03 : LamX.ExtN H H3 := (extN_of s02).trans x3
  have hl3 := hl.ext x03
  have hq3 := hq.ext x03
  obtain ⟨_, _, _, _, _, _, h8, _⟩ := id io.io
  have hb8 : ∀ b ∈ bs, b.2.length ≤ 8 := fun b hb => by
    have m : b.2 ∈ bs.map (·.2) := List.mem_map.mpr ⟨b, hb, rfl⟩
    rw [hbs] at m
    have m2 := (List.mem_filter.mp ((srtU_perm _).mem_iff.mp m)).1
    exact Nat.le_trans ((mem_pw N).mp m2).length_le h8
  walk_at "rd"
  refine i_forA (H0 := H3) (fun i σ H4 => (∃ x, σ = [some (.ref o), some (.ref l), some (.ref hh), x]) ∧ Same H3 H4 ∧ ∀ ws ∈ (bs.map (·.2)).take i, ¬ massOf q ws < massOf p ws) (.l et) ⟨⟨_, rfl⟩, Same.refl _, fun ws h => by simp at h⟩ (fun i σ H4 p => p.2.1) ?_ ?_
  · rintro i x σ H4 hx ⟨⟨u, rfl⟩, s4, hk⟩
    obtain ⟨b, hb, rfl⟩ := refB_at hx
    have hm := List.mem_of_getElem? hb
    have hbj : (bs.map (·.2))[i]? = some b.2 := by rw [List.getElem?_map, hb]; rfl
    have eb := s4 _ _ (tb b hm)
    have l8 := hb8 b hm
    walk_at "rd"
    obtain ⟨dxh, dh, oh, wh, Sh, gh, _⟩ := id (hq3.mono s4)
    refine i_meth1 gh (cf_no (by decide +kernel) (by decide +kernel)) ?_
    walk_at "rd"
    refine ⟨rfl, hh, b.1, B', M', q, b.2, rfl, hq3.mono s4, hB', .t eb, by omega, fun c1 H5 hc1 s5 r1 => ?_⟩
    refine i_under0 r1 ?_
    walk_at "rd"
    obtain ⟨dxl, dl, ol, wl, Sl, gl, _⟩ := id ((hl3.mono s4).mono s5)
    refine i_meth1 gl (cf_no (by decide +kernel) (by decide +kernel)) ?_
    walk_at "rd"
    refine ⟨rfl, l, b.1, B, M, p, b.2, rfl, (hl3.mono s4).mono s5, hB, .t (s5 _ _ eb), by omega, fun c2 H6 hc2 s6 r2 => ?_⟩
    walk_at "rd"
    refine i_under (r1.mono s6) r2 (mass_bd hq3 hB' (by omega)) (mass_bd hl3 hB (by omega)) fun H7 s7 => ?_
    refine ⟨_, rfl, ?_⟩
    have s47 := ((s4.trans s5).trans s6).trans s7
    refine i_dec (fun g => ?_) (fun g => ?_)
    · walk_at "rd"
      refine k4 m2 H7 (.ref b.1) (x03.trans (extN_of s47)) (T3.ext s47) (.inr ⟨b.2, b.1, ?_, rfl, ((s5.trans s6).trans s7) _ _ eb⟩)
      rw [← hbs]
      have ez : bs.map (·.2) = (bs.map (·.2)).take i ++ b.2 :: (bs.map (·.2)).drop (i + 1) := by
        have := (List.take_append_drop i (bs.map (·.2))).symm
        rw [List.drop_eq_getElem_cons (List.getElem?_eq_some_iff.mp hbj).1, (List.getElem?_eq_some_iff.mp hbj).2] at this
        exact this
      unfold barOf
      rw [ez, List.find?_append, List.find?_eq_none.mpr (fun x hx => by simpa using hk x hx), Option.none_or, List.find?_cons_of_pos (by exact decide_eq_true g)]
    · walk_at "rd"
      refine ⟨⟨_, rfl⟩, s47, fun ws hw => ?_⟩
      rw [take_snoc hbj] at hw
      rcases List.mem_append.mp hw with hw | hw
      · exact hk ws hw
      · rw [List.mem_singleton.mp hw]; exact g
  · rintro σ H4 ⟨⟨u, rfl⟩, s4, hk⟩
    rw [refB_len, ← List.length_map (as := bs) (f := (·.2)), List.take_length, hbs] at hk
    walk_at "rd"
    refine k4 m2 H4 .non (x03.trans (extN_of s4)) (T3.ext s4) (.inl ⟨?_, rfl⟩)
    unfold barOf
    rw [List.find?_eq_none]
    intro ws hw
    simpa using hk ws hw
theorem OptV.is {H : Hp} {o : Option (List Str)} {x : V} (h : OptV H o x) : decide (x = V.non) = o.isNone := by
  rcases h with ⟨rfl, rfl⟩ | ⟨ws, t, rfl, rfl, h3⟩
  · simp
  · simp
def spLower (K : PySem.W.Frag) (CO CR CC CU : Addr) (TT : List (Addr × Str)) : Sp := fun vs H Q E => vs.length = 3 ∧ ∃ (o l h : Addr) (N M M' : List Str) (E0 : List (Str × Str)) (B B' : Nat) (p q : Str → Rat), vs = [.ref o, .ref l, .ref h] ∧ IsOE CO H o N E0 ∧ IsC CC H l B M p ∧ IsC CC H h B' M' q ∧ B ≤ 900 ∧ B' ≤ 900 ∧ LamX.Tabs TT H ∧
  (∀ z, miss N M = some z → EName CU z H E) ∧ (miss N M = none → (∀ z, miss N M' = some z → EName CU z H E) ∧ (miss N M' = none → ∀ H', LamX.ExtN H H' → LamX.Tabs TT H' →
    Q (.bl (barOf (upsOf (OM.ab N (OM.cl E0)) N) p q).isNone) H'))
abbrev s_lower : Stmt := top 29
theorem sc_lower : FnScope ["order", "low", "high"] ["order", "low", "high"] (defScope s_lower) := ⟨rfl, rfl, rfl, by decide +kernel, rfl, by decide +kernel, by decide +kernel⟩
theorem ok_lower {P : Program} {w : World} {K : PySem.W.Frag} {mg : Str → Option Value} {base : Heap} {TT : List (Addr × Str)} {CC CO CR CU : Addr} {f : Addr} {fd : FuncData} (F : L2.Fun K "lower" "lower" s_lower f fd)
    (C_f_barring : Cal P w K mg base "barring" 12 (spBar K CO CR CC CU TT)) :
    FnOk P w K mg base (L2.CX P w) 13 f fd ["order", "low", "high"] (spLower K CO CR CC CU TT) := by
  refine fnOk_mk F sc_lower (fun vs H Q E h => h.1) (fun cdv A outer s H vs Q E hr h => ?_)
  obtain ⟨_, o, l, hh, N, M, M', E0, B, B', p, q, rfl, io, hl, hq, hB, hB', hT, k1, k2⟩ := h
  refine ⟨_, pss_one (ps_ret (pe_cmpR op_isN (z_callC C_f_barring hr (fun σ => passAt (takes_of rfl rfl rfl rfl) σ) (pa_cons (pv 0) (pa_cons (pv 1) (pa_cons (pv 2) pa_nil)))) pe_non (nomark _))), ?_⟩
  try dsimp only [cxOf]
  walk_at "rd"
  refine ⟨rfl, o, l, hh, N, M, M', E0, B, B', p, q, rfl, io, hl, hq, hB, hB', hT, k1, fun m1 => ⟨(k2 m1).1, fun m2 H1 x x1 T1 v1 => ?_⟩⟩
  walk_at "rd"
  have := (k2 m1).2 m2 H1 x1 T1
  rw [← v1.is] at this
  exact ⟨rfl, this⟩
open _root_.ZB
theorem _root_.LamX.Tabs.but {T : List (Addr × Str)} {H H' : Hp} (t : LamX.Tabs T H) (e : ∀ b o, H b = some o → (∀ xs, o ≠ .lst xs) → H' b = some o) : LamX.Tabs T H' := fun p hp => by
  obtain ⟨ps, h1, h2, h3⟩ := t p hp
  refine ⟨ps, e _ _ h1 (fun _ z => by cases z), h2, fun pos cv hc => ?_⟩
  obtain ⟨c, e1, e2⟩ := h3 pos cv hc
  exact ⟨c, e1, e _ _ e2 (fun _ z => by cases z)⟩
theorem IsOE.but {CO a : Addr} {H H' : Hp} {N : List Str} {E : List (Str × Str)} (e : ∀ b o, H b = some o → (∀ xs, o ≠ .lst xs) → H' b = some o) (h : IsOE CO H a N E) : IsOE CO H' a N E := by
  refine ⟨?_, h.pw, h.anti, h.sub, h.pos⟩
  obtain ⟨dx, ti, d, e1, e2, ⟨A, e3, e4⟩, h8, hN, hnl⟩ := h.io
  exact ⟨dx, ti, d, e _ _ e1 (fun _ z => by cases z), e _ _ e2 (fun _ z => by cases z), ⟨A, e _ _ e3 (fun _ z => by cases z), fun n hn => e _ _ (e4 n hn) (fun _ z => by cases z)⟩, h8, hN, hnl⟩
theorem LTab.ext {H H' : Hp} {d : Addr} {N : List Str} {W : Str → List Str} (x : LamX.ExtN H H') (h : LTab H d N W) : LTab H' d N W := by
  obtain ⟨A, h1, h2⟩ := h
  exact ⟨A, x _ _ h1 (fun _ z => by cases z), fun n hn => x _ _ (h2 n hn) (fun _ z => by cases z)⟩
/-- what the law's turns need -/
structure St (CO : Addr) (TT : List (Addr × Str)) (q d o : Addr) (zs : List Str) (W : Str → List Str) (N : List Str) (E : List (Str × Str)) (H : Hp) : Prop where
  tabs : LamX.Tabs TT H
  nm : H q = some (.lst (zs.map V.str))
  tab : LTab H d zs W
  ord : IsOE CO H o N E
section
variable {CO : Addr} {TT : List (Addr × Str)} {q d o p : Addr} {zs : List Str} {W : Str → List Str} {N : List Str} {E : List (Str × Str)} {H H' : Hp}
theorem IsOE.mono (s : Same H H') (h : IsOE CO H o N E) : IsOE CO H' o N E := ⟨h.io.mono s, h.pw, h.anti, h.sub, h.pos⟩
theorem St.same (h : St CO TT q d o zs W N E H) (s : Same H H') : St CO TT q d o zs W N E H' := ⟨h.tabs.ext s, s _ _ h.nm, h.tab.mono s, h.ord.ext (extN_of s)⟩
theorem St.ext (h : St CO TT q d o zs W N E H) (x : LamX.ExtN H H') (t : LamX.Tabs TT H') : St CO TT q d o zs W N E H' := ⟨t, x _ _ h.nm (fun _ z => by cases z), h.tab.ext x, h.ord.ext x⟩
theorem St.but {xs : List V} (h : St CO TT q d o zs W N E H) (hp : H p = some (.lst xs)) (hx : ∀ ws : List Str, xs ≠ ws.map V.str) (t : But p H H') : St CO TT q d o zs W N E H' := by
  have e : ∀ b o, H b = some o → (∀ xs, o ≠ .lst xs) → H' b = some o := fun b o hb n => t b o (fun z => by rw [z, hp] at hb; exact n _ (Option.some.inj hb).symm) hb
  have f : ∀ b (ws : List Str), H b = some (.lst (ws.map V.str)) → H' b = some (.lst (ws.map V.str)) := fun b ws hb => t b _ (fun z => by rw [z, hp] at hb; exact hx ws (HO.lst.inj (Option.some.inj hb))) hb
  obtain ⟨A, h1, h2⟩ := h.tab
  exact ⟨h.tabs.but e, f _ _ h.nm, ⟨A, e _ _ h1 (fun _ z => by cases z), fun n hn => f _ _ (h2 n hn)⟩, h.ord.but e⟩
theorem St.pool (h : St CO TT q d o zs W N E H) (hp : Pool H p) (t : But p H H') : St CO TT q d o zs W N E H' := by
  obtain ⟨c, k, f, e⟩ := hp
  exact h.but e (fun ws g => by
    cases ws with
    | nil => cases g
    | cons w ws => cases g) t
theorem St.del (h : St CO TT q d o zs W N E H) (hp : Pool H p) : St CO TT q d o zs W N E (del p H) := h.pool hp fun x o hx e => by rw [del_at hx]; exact e
end
theorem ups_ne {f : Str → List Str} {N : List Str} : upsOf f N ≠ [] := by
  intro h
  have m : ([] : List Str) ∈ upsOf f N := (srtU_perm _).mem_iff.mpr (List.mem_filter.mpr ⟨(mem_pw N).mpr (List.nil_sublist _), rfl⟩)
  rw [h] at m
  cases m
theorem Pool.same {p : Addr} {H H' : Hp} (s : Same H H') (h : Pool H p) : Pool H' p := let ⟨x, y, z, e⟩ := h; ⟨x, y, z, s _ _ e⟩
theorem Pool.ne {p b : Addr} {H : Hp} (h : Pool H p) (hb : H b = none) : b ≠ p := fun z => by
  obtain ⟨_, _, _, e⟩ := h
  rw [← z, hb] at e
  cases e
theorem Pool.off {p b : Addr} {H H' : Hp} (h : Pool H p) (ne : p ≠ b) (t : ∀ c, c ≠ b → H' c = H c) : Pool H' p := let ⟨x, y, z, e⟩ := h; ⟨x, y, z, by rw [t p ne]; exact e⟩
def oneH (q : Addr) (xs : List V) : Hp := fun b => if b = q then some (.lst xs) else none
theorem one_seq {K : PySem.W.Frag} {q : Addr} {xs : List V} : SqA K (oneH q xs) q xs := SqA.l (if_pos rfl)
theorem one_same {q : Addr} {xs : List V} {H : Hp} (e : H q = some (.lst xs)) : Same (oneH q xs) H := fun b o h => by
  unfold oneH at h
  by_cases hb : b = q
  · rw [if_pos hb] at h; rw [hb, ← h]; exact e
  · rw [if_neg hb] at h; cases h
theorem upF_int {w : Str → Int} {z : Str} {c : Int} : upF (fun z => V.int (w z)) z (.int c) = fun y => V.int (upF w z c y) := by funext y; unfold upF; split <;> rfl
def spWts : Sp := fun vs H Q _ => vs.length = 2 ∧ ∃ (p l : Addr) (zs : List Str), vs = [.ref p, .ref l] ∧ Pool H p ∧ H l = some (.lst (zs.map V.str)) ∧ zs.Nodup ∧ 1 ≤ zs.length ∧ zs.length ≤ 8 ∧
  ∀ (d : Addr) (H' : Hp) (w : Str → Int), H d = none → But p H H' → Pool H' p → H' d = some (.dK (dI zs w)) → (∀ z ∈ zs, 0 ≤ w z ∧ w z ≤ 4) → (∃ z ∈ zs, 0 < w z) → Q (.ref d) H'
abbrev s__law_weights : Stmt := top 52
theorem sc__law_weights : FnScope ["_law_pool_here", "_law_names_here", "_law_found", "_law_name"] ["_law_pool_here", "_law_names_here"] (defScope s__law_weights) := ⟨rfl, rfl, rfl, by decide +kernel, rfl, by decide +kernel, by decide +kernel⟩
theorem ok__law_weights {P : Program} {w : World} {K : PySem.W.Frag} {mg : Str → Option Value} {base : Heap} {f : Addr} {fd : FuncData} (F : L2.Fun K "_law_weights" "_law_weights" s__law_weights f fd)
    (C_b_len : mg "len" = none)
    (C_f_law_take : Cal P w K mg base "_law_take" 1 spTake) :
    FnOk P w K mg base (L2.CX P w) 2 f fd ["_law_pool_here", "_law_names_here"] spWts := by
  refine fnOk_mk F sc__law_weights (fun vs H Q E h => h.1) (fun cdv A outer s H vs Q E hr h => ?_)
  obtain ⟨_, p, l, zs, rfl, po, hl, hnd, h1, h8, k⟩ := h
  refine ⟨_, pss_cons (ps_set (i := 2) sc__law_weights.nd rfl (Or.inl rfl) pe_dnewK)
    (pss_cons (ps_for (passes_of rfl) rfl (pi_any (K := K) rfl (pv 1)) (pg_name (i := 3) sc__law_weights.nd rfl (Or.inl rfl)) (pss_one (ps_dput (hu_of hr) (pv 2) (pv 3) (pe_ix ix_list (pe_lst (pa_cons pe_int (pa_cons pe_int (pa_cons pe_int (pa_cons pe_int (pa_cons pe_int (pa_cons pe_int pa_nil))))))) (z_callC C_f_law_take hr passN (pa_cons (pv 0) (pa_cons pe_int pa_nil))) (fun _ _ => rfl)) (by rfl))))
    (pss_cons (ps_dput (hu_of hr) (pv 2) (pe_ix ix_list (pv 1) (z_callC C_f_law_take hr passN (pa_cons (pv 0) (pa_cons (pe_callB (k_len (K := K) rfl) (by rfl) C_b_len (by decide +kernel) (pa_cons (pv 1) pa_nil)) pa_nil))) (fun _ _ => rfl)) (pe_op op_add pe_int (z_callC C_f_law_take hr passN (pa_cons (pv 0) (pa_cons pe_int pa_nil)))) (by rfl))
    (pss_one (ps_ret (pv 2))))), ?_⟩
  try dsimp only [cxOf]
  walk_at "rd"
  have hlp : l ≠ p := fun z => by
    obtain ⟨_, _, _, e⟩ := po
    rw [z, e] at hl
    cases zs with
    | nil => simp at h1
    | cons a as => cases hl
  refine i_dnew fun d H1 hd s1 e1 o1 => ?_
  walk_at "rd"
  have dp : d ≠ p := po.ne hd
  have ld : l ≠ d := fun z => by rw [z, hd] at hl; cases hl
  refine i_forA (H0 := oneH l (zs.map V.str)) (fun i σ H' => ∃ v w, σ = [some (.ref p), some (.ref l), some (.ref d), v] ∧ (∀ b o, b ≠ p → b ≠ d → H1 b = some o → H' b = some o) ∧ Pool H' p ∧ H' d = some (.dK (dI (zs.take i) w)) ∧ ∀ z ∈ zs.take i, 0 ≤ w z ∧ w z ≤ 4) one_seq
    ⟨none, fun _ => 0, rfl, fun b o _ _ e => e, po.same s1, e1, fun z hz => by simp at hz⟩ (fun i σ H' h => by obtain ⟨_, _, _, s, _⟩ := h; exact one_same (s _ _ hlp ld (s1 _ _ hl))) ?_ ?_
  · rintro i x σ H3 hx ⟨v, w, rfl, s3, po3, e3, hw⟩
    obtain ⟨z, hz, rfl⟩ := strs_at hx
    have hi := (List.getElem?_eq_some_iff.mp hz).1
    have nz := nodup_take hnd hz
    walk_at "rd"
    refine i_lst1 (Nat.le_of_ble_eq_true rfl) fun la H4 hla s4 e4 o4 => ?_
    walk_at "rd"
    have lap : la ≠ p := po3.ne hla
    refine i_take (po3.same s4) (by decide) (sz8 (by decide)) fun r H6 r0 r1 o6 po6 => ?_
    obtain ⟨j, rfl⟩ : ∃ m : Nat, r = (m : Int) := ⟨r.toNat, by omega⟩
    obtain ⟨c, ec, hc⟩ : ∃ c : Int, ([V.int 0, V.int 0, V.int 1, V.int 2, V.int 3, V.int 1] : List V)[j]? = some (.int c) ∧ 0 ≤ c ∧ c ≤ 4 := by
      have : j = 0 ∨ j = 1 ∨ j = 2 ∨ j = 3 ∨ j = 4 ∨ j = 5 := by omega
      rcases this with rfl | rfl | rfl | rfl | rfl | rfl <;> exact ⟨_, rfl, by decide, by decide⟩
    walk_at "rd"
    refine i_ixL (k := j) (.of (by rw [o6 la lap]; exact e4)) ec ?_
    walk_at "rd"
    have e7 : H6 d = some (.dK (dI (zs.take i) w)) := by rw [o6 d dp]; exact s4 _ _ e3
    refine i_dputF e7 (by rw [List.length_take]; omega) fun H8 e8 o8 => ?_
    walk_at "rd"
    refine ⟨_, upF w z c, rfl, fun b u hbp hbd e => ?_, po6.off (Ne.symm dp) o8, ?_, fun y hy => ?_⟩
    · rw [o8 b hbd, o6 b hbp]
      exact s4 _ _ (s3 b u hbp hbd e)
    · rw [e8, adK_new nz, ← take_snoc hz, upF_int]
    · unfold upF
      split
      · exact hc
      · rename_i ne
        rw [take_snoc hz] at hy
        rcases List.mem_append.mp hy with h | h
        · exact hw y h
        · exact absurd (List.mem_singleton.mp h) ne
  · rintro σ H3 ⟨v, w, rfl, s3, po3, e3, hw⟩
    rw [List.length_map, List.take_length] at e3 hw
    walk_at "rd"
    refine i_take po3 (by decide) (sz8 (by decide)) fun r H4 r0 r1 o4 po4 => ?_
    walk_at "rd"
    have l4 : H4 l = some (.lst (zs.map V.str)) := by rw [o4 l hlp]; exact s3 l _ hlp ld (s1 _ _ hl)
    refine i_lenL (.of l4) ?_
    rw [List.length_map]
    walk_at "rd"
    refine i_take po4 (by omega) (sz8 (by omega)) fun r2 H5 r20 r21 o5 po5 => ?_
    obtain ⟨j, rfl⟩ : ∃ m : Nat, r2 = (m : Int) := ⟨r2.toNat, by omega⟩
    have hj : j < zs.length := by omega
    walk_at "rd"
    refine i_ixL (k := j) (v := .str zs[j]) (.of (by rw [o5 l hlp]; exact l4)) (by simp [hj]) ?_
    have e5 : H5 d = some (.dK (dI zs w)) := by rw [o5 d dp, o4 d dp]; exact e3
    have my : zs[j] ∈ zs := List.getElem_mem hj
    refine i_dputF e5 (by omega) fun H6 e6 o6 => ?_
    rw [adK_old my, upF_int] at e6
    walk_at "rd"
    have k7 : ∀ b, b ≠ d → b ≠ p → H6 b = H3 b := fun b hb hbp => by rw [o6 b hb, o5 b hbp, o4 b hbp]
    refine k d H6 (upF w zs[j] (1 + r)) hd (fun b u hb e => ?_) (po5.off (Ne.symm dp) o6) e6 (fun y hy => ?_) ⟨zs[j], my, ?_⟩
    · have nd : b ≠ d := ne_of_none e hd
      rw [k7 b nd hb]
      exact s3 b u hb nd (s1 _ _ e)
    · unfold upF
      split
      · exact ⟨by omega, by omega⟩
      · exact hw y hy
    · unfold upF
      rw [if_pos rfl]
      omega
open _root_.ZB
def spRaised (K : PySem.W.Frag) : Sp := fun vs H Q _ => vs.length = 3 ∧ ∃ (p d ab : Addr) (zs : List Str) (w : Str → Int) (W : Str → List Str) (R : Str → Str → Bool), vs = [.ref p, .ref d, .ref ab] ∧ Pool H p ∧ Rd H d (.dK (dI zs w)) ∧ LTab H ab zs W ∧ Tbl zs W R ∧
  (∀ z ∈ zs, 0 ≤ w z ∧ w z ≤ 4) ∧ (∃ z ∈ zs, 0 < w z) ∧
  ∀ (e : Addr) (H' : Hp) (v : Str → Int), H e = none → But p H H' → Pool H' p → H' e = some (.dK (dI zs v)) → (∀ z ∈ zs, 0 ≤ v z ∧ v z ≤ 100) → (∃ z ∈ zs, 0 < v z) → Q (.ref e) H'
abbrev s__law_raised : Stmt := top 53
theorem sc__law_raised : FnScope ["_law_pool_here", "_law_weights_here", "_law_above_here", "_law_found", "_law_count", "_law_rich", "_law_name", "_law_low", "_law_high"] ["_law_pool_here", "_law_weights_here", "_law_above_here"] (defScope s__law_raised) := ⟨rfl, rfl, rfl, by decide +kernel, rfl, by decide +kernel, by decide +kernel⟩
theorem ok__law_raised {P : Program} {w : World} {K : PySem.W.Frag} {mg : Str → Option Value} {base : Heap} {f : Addr} {fd : FuncData} (F : L2.Fun K "_law_raised" "_law_raised" s__law_raised f fd)
    (C_b_dict : mg "dict" = none)
    (C_b_len : mg "len" = none)
    (C_b_list : mg "list" = none)
    (C_b_range : mg "range" = none)
    (C_b_sorted : mg "sorted" = none)
    (C_f_law_take : Cal P w K mg base "_law_take" 1 spTake) :
    FnOk P w K mg base (L2.CX P w) 2 f fd ["_law_pool_here", "_law_weights_here", "_law_above_here"] (spRaised K) := by
  refine fnOk_mk F sc__law_raised (fun vs H Q E h => h.1) (fun cdv A outer s H vs Q E hr h => ?_)
  obtain ⟨_, p, d, ab, zs, w, W, R, rfl, po, hd, ⟨A, hc, hA⟩, tb, hw, hpos, k⟩ := h
  obtain ⟨hz, hnd, hok, hwn, hwm, hrf⟩ := id tb
  refine ⟨_, pss_cons (ps_set (i := 3) sc__law_raised.nd rfl (Or.inr rfl) (pe_callTy k_dictD (by rfl) C_b_dict (by decide +kernel) (pa_cons (pv 1) pa_nil)))
    (pss_cons (ps_for (passes_of rfl) rfl (pi_range1 (by rfl) C_b_range (pa_cons (pe_op op_add pe_int (z_callC C_f_law_take hr passN (pa_cons (pv 0) (pa_cons pe_int pa_nil)))) pa_nil)) (pg_name (i := 4) sc__law_raised.nd rfl (Or.inl rfl)) (pss_cons (ps_setLc (i := 5) (own := [("_law_name", 6)]) (by rfl) sc__law_raised.nd rfl rfl (sw_true rfl rfl rfl (by decide +kernel)) (pi_any (K := K) rfl (pe_callB (k_sort (K := K) rfl) (by rfl) C_b_sorted (by decide +kernel) (pa_cons (pe_callTy (k_listD rfl) (by rfl) C_b_list (by decide +kernel) (pa_cons (pv 3) pa_nil)) pa_nil))) (blkOk_by (N := ["_law_pool_here", "_law_weights_here", "_law_above_here", "_law_found", "_law_count", "_law_rich", "_law_name", "_law_low", "_law_high"]) (sc := defScope s__law_raised) (by decide +kernel)) (fun _ _ _ _ _ => pg_name (i := 6) sc__law_raised.nd rfl (Or.inl rfl)) (fun _ _ _ _ _ => pts_one (pt_cmpR op_gt (pe_dget (hu_of hr) (pv 3) (pv 6) (fun _ _ => rfl)) pe_int (nomark _))) (fun _ _ _ _ _ => pv 6))
    (pss_cons (ps_set (i := 7) sc__law_raised.nd rfl (Or.inl rfl) (pe_ix ix_list (pv 5) (z_callC C_f_law_take hr passN (pa_cons (pv 0) (pa_cons (pe_callB (k_len (K := K) rfl) (by rfl) C_b_len (by decide +kernel) (pa_cons (pv 5) pa_nil)) pa_nil))) (fun _ _ => rfl)))
    (pss_cons (ps_set (i := 8) sc__law_raised.nd rfl (Or.inl rfl) (pe_ix ix_list (pe_dget (hu_of hr) (pv 2) (pv 7) (fun _ _ => rfl)) (z_callC C_f_law_take hr passN (pa_cons (pv 0) (pa_cons (pe_callB (k_len (K := K) rfl) (by rfl) C_b_len (by decide +kernel) (pa_cons (pe_dget (hu_of hr) (pv 2) (pv 7) (fun _ _ => rfl)) pa_nil)) pa_nil))) (fun _ _ => rfl)))
    (pss_cons (ps_dput (hu_of hr) (pv 3) (pv 7) (pe_op op_sub (pe_dget (hu_of hr) (pv 3) (pv 7) (fun _ _ => rfl)) pe_int) (by rfl))
    (pss_one (ps_dput (hu_of hr) (pv 3) (pv 8) (pe_op op_add (pe_dget (hu_of hr) (pv 3) (pv 8) (fun _ _ => rfl)) pe_int) (by rfl))))))))
    (pss_one (ps_ret (pv 3)))), ?_⟩
  try dsimp only [cxOf]
  walk_at "rd"
  refine i_dictR hd fun e H1 he s1 o1 e1 => ?_
  walk_at "rd"
  have ep : e ≠ p := po.ne he
  refine i_take (po.same s1) (by decide) (sz8 (by decide)) fun r H2 r0 r1 o2 po2 => ?_
  walk_at "rd"
  obtain ⟨n, hn⟩ : ∃ n : Nat, 1 + r = (n : Int) := ⟨(1 + r).toNat, by omega⟩
  have e2 : H2 e = some (.dK (dI zs w)) := by rw [o2 e ep]; exact e1
  refine i_forR (n := n) hn (by omega) (fun i σ H3 => (∃ x4 x5 x6 x7 x8, σ = [some (.ref p), some (.ref d), some (.ref ab), some (.ref e), x4, x5, x6, x7, x8]) ∧ (∀ b o, b ≠ p → b ≠ e → H1 b = some o → H3 b = some o) ∧ Pool H3 p ∧ ∃ v : Str → Int, H3 e = some (.dK (dI zs v)) ∧ (∀ z ∈ zs, 0 ≤ v z ∧ v z ≤ 4 + i) ∧ ∃ z ∈ zs, 0 < v z)
    ⟨⟨_, _, _, _, _, rfl⟩, fun b o hb _ eb => by rw [o2 b hb]; exact eb, po2, w, e2, fun z hz => by have := hw z hz; omega, hpos⟩ ?_ ?_
  · rintro i σ H3 lt ⟨⟨x4, x5, x6, x7, x8, rfl⟩, s3, po3, v, e3, hv, z0, hz0, hp0⟩
    walk_at "rd"
    refine ⟨e, _, rfl, e3, fun q4 hq4 => ?_⟩
    have ek : ((dI zs v).map fun kv => kV kv.1) = zs.map V.str := by unfold dI dF; rw [List.map_map]; rfl
    rw [ek]
    have s4 : Same H3 (upd H3 q4 (.lst (zs.map V.str))) := same_new hq4
    have g4 : upd H3 q4 (.lst (zs.map V.str)) q4 = some (.lst (zs.map V.str)) := upd_same
    generalize upd H3 q4 (.lst (zs.map V.str)) = H4 at *
    walk_at "rd"
    refine i_sort (.l g4) (by omega) fun q5 H5 hq5 s5 o5 g5 => ?_
    have s35 := s4.trans s5
    have lz : (srt zs).length = zs.length := (srt_perm zs).length_eq
    refine i_lcA (H0 := H5) (fun j ys H' => Same H5 H' ∧ ys = (((srt zs).take j).filter fun z => decide (0 < v z)).map V.str) (.l g5) (Same.refl _) ?_ ?_ ?_ ?_
    · intro D H' hD sm e ho
      exact ⟨sm, rfl⟩
    · exact fun i ys H' p => p.1
    · rintro j x D ys H6 hD hx eD ⟨s6, rfl⟩
      obtain ⟨z, hzj, rfl⟩ := strs_at hx
      have zz : z ∈ zs := mem_srt.mp (List.mem_of_getElem? hzj)
      refine ⟨rfl, ?_⟩
      walk_at "rd"
      refine i_dget (s6 _ _ (s35 _ _ e3)) (v := .int (v z)) (by rw [valV_dF, if_pos zz]) ?_
      walk_at "rd"
      refine i_dec (fun g => ?_) (fun g => ?_)
      · walk_at "rd"
        refine i_lcE eD ?_ fun H7 e7 o7 => ⟨fun b o eb => ?_, ?_⟩
        · have h1 := List.length_filter_le (fun z => decide (0 < v z)) ((srt zs).take j)
          rw [List.length_take] at h1
          rw [List.length_map]
          omega
        · rw [o7 b (ne_of_none eb hD)]
          exact s6 _ _ eb
        · rw [take_snoc hzj, List.filter_append, List.filter_cons_of_pos (p := fun z => decide (0 < v z)) (by simpa using g), List.filter_nil, List.map_append]
          rfl
      · refine ⟨_, eD, s6, ?_⟩
        rw [take_snoc hzj, List.filter_append, List.filter_cons_of_neg (p := fun z => decide (0 < v z)) (by simpa using g), List.filter_nil, List.append_nil]
    rintro D ys H6 hD eD ⟨s6, rfl⟩
    rw [List.length_map, List.take_length] at eD
    have rne : 0 < ((srt zs).filter fun z => decide (0 < v z)).length := List.length_pos_iff.mpr (List.ne_nil_of_mem (List.mem_filter.mpr ⟨mem_srt.mpr hz0, decide_eq_true hp0⟩))
    have rle : ((srt zs).filter fun z => decide (0 < v z)).length ≤ 8 := Nat.le_trans (List.length_filter_le _ _) (by omega)
    have rin : ∀ z ∈ (srt zs).filter (fun z => decide (0 < v z)), z ∈ zs ∧ 0 < v z := fun z h => ⟨mem_srt.mp (List.mem_filter.mp h).1, of_decide_eq_true (List.mem_filter.mp h).2⟩
    generalize (srt zs).filter (fun z => decide (0 < v z)) = rich at *
    have s36 := s35.trans s6
    have po6 := po3.same s36
    walk_at "rd"
    refine i_lenL (.of eD) ?_
    rw [List.length_map]
    walk_at "rd"
    refine i_take po6 (by omega) (sz8 (by omega)) fun r7 H7 r70 r71 o7 po7 => ?_
    obtain ⟨j, rfl⟩ : ∃ m : Nat, r7 = (m : Int) := ⟨r7.toNat, by omega⟩
    have hj : j < rich.length := by omega
    have Dp' : D ≠ p := (po3.same s35).ne hD
    refine i_ixL (k := j) (v := .str rich[j]) (.of (by rw [o7 D Dp']; exact eD)) (by simp [hj]) ?_
    obtain ⟨z1z, z1p⟩ := rin rich[j] (List.getElem_mem hj)
    generalize rich[j] = z1 at *
    have k37 : ∀ b o, b ≠ p → H3 b = some o → H7 b = some o := fun b o hb eb => by rw [o7 b hb]; exact s36 _ _ eb
    have abp : ab ≠ p := fun z => by obtain ⟨_, _, _, e⟩ := po; rw [z, e] at hc; cases hc
    have abe : ab ≠ e := ne_of_none hc he
    have hcp : ∀ {b : Addr} {o : HO}, H b = some o → b ≠ p → H7 b = some o := fun {b o} hb nb => k37 b o nb (s3 b o nb (ne_of_none hb he) (s1 _ _ hb))
    have Ap : A z1 ≠ p := fun z => by
      obtain ⟨_, _, _, e⟩ := po
      have h := hA z1 z1z
      rw [z, e] at h
      have h := HO.lst.inj (Option.some.inj h)
      cases hW : W z1 with
      | nil => rw [hW] at h; cases h
      | cons a as => rw [hW] at h; cases h
    walk_at "rd"
    refine i_dget (hcp hc abp) (rows_val z1z) ?_
    walk_at "rd"
    refine i_dget (hcp hc abp) (rows_val z1z) ?_
    walk_at "rd"
    refine i_lenL (.of (hcp (hA z1 z1z) Ap)) ?_
    rw [List.length_map]
    walk_at "rd"
    have W1 : 0 < (W z1).length := List.length_pos_iff.mpr (List.ne_nil_of_mem ((hwm z1 z1z z1).mpr ⟨z1z, hrf z1⟩))
    have W8 := tb.wlen z1z
    refine i_take po7 (by omega) (sz8 (by omega)) fun r8 H8 r80 r81 o8 po8 => ?_
    obtain ⟨l, rfl⟩ : ∃ m : Nat, r8 = (m : Int) := ⟨r8.toNat, by omega⟩
    have hl : l < (W z1).length := by omega
    refine i_ixL (k := l) (v := .str (W z1)[l]) (.of (by rw [o8 _ Ap]; exact hcp (hA z1 z1z) Ap)) (by simp [hl]) ?_
    have z2z : (W z1)[l] ∈ zs := ((hwm z1 z1z _).mp (List.getElem_mem hl)).1
    generalize (W z1)[l] = z2 at *
    have e8 : H8 e = some (.dK (dI zs v)) := by rw [o8 e ep]; exact k37 e _ ep e3
    walk_at "rd"
    refine i_dget e8 (v := .int (v z1)) (by rw [valV_dF, if_pos z1z]) ?_
    walk_at "rd"
    refine i_dputF e8 (by omega) fun H9 e9 o9 => ?_
    rw [adK_old z1z, upF_int] at e9
    walk_at "rd"
    refine i_dget e9 (v := .int (upF v z1 (v z1 - 1) z2)) (by rw [valV_dF, if_pos z2z]) ?_
    walk_at "rd"
    refine i_dputF e9 (by omega) fun H10 e10 o10 => ?_
    rw [adK_old z2z, upF_int] at e10
    walk_at "rd"
    refine ⟨⟨_, _, _, _, _, rfl⟩, fun b o hb hbe eb => ?_, (po8.off (Ne.symm ep) o9).off (Ne.symm ep) o10, _, e10, fun z hz => ?_, z2, z2z, ?_⟩
    · rw [o10 b hbe, o9 b hbe, o8 b hb]
      exact k37 b o hb (s3 b o hb hbe eb)
    · have h1 := hv z hz
      have h2 := hv z1 z1z
      have h3 := hv z2 z2z
      unfold upF
      split
      · split
        · omega
        · omega
      · split
        · omega
        · omega
    · have h2 := hv z1 z1z
      have h3 := hv z2 z2z
      unfold upF
      rw [if_pos rfl]
      split
      · omega
      · omega
  · rintro σ H3 ⟨⟨x4, x5, x6, x7, x8, rfl⟩, s3, po3, v, e3, hv, hp0⟩
    walk_at "rd"
    exact k e H3 v he (fun b o hb eb => s3 b o hb (ne_of_none eb he) (s1 _ _ eb)) po3 e3 (fun z hz => by have := hv z hz; omega) hp0
open _root_.ZB
def spBelowW (CO CU : Addr) : Sp := fun vs H Q E => vs.length = 3 ∧ ∃ (a : Addr) (N : List Str) (R : Str → Str → Bool) (x y : Str), vs = [.ref a, .str x, .str y] ∧ IsO CO H a N R ∧
  (∀ z, miss N [x, y] = some z → RW z ∧ EName CU z H E) ∧ (miss N [x, y] = none → ∀ H', Same H H' → Q (.bl (R x y)) H')
abbrev s_Order_below : Stmt := inClass (top 43) 4
theorem sc_Order_below : FnScope ["self", "low", "high"] ["self", "low", "high"] (defScope s_Order_below) := ⟨rfl, rfl, rfl, by decide +kernel, rfl, by decide +kernel, by decide +kernel⟩
theorem ok_Order_below {P : Program} {w : World} {K : PySem.W.Frag} {mg : Str → Option Value} {base : Heap} {CO CU : Addr} {f : Addr} {fd : FuncData} (F : L2.Fun K "below" "Order.below" s_Order_below f fd)
    (C_c_Order : ClO K CO)
    (C_f_check_among : Cal P w K mg base "check_among" 3 (spAmW K CU))
    (C_na_Order__above : NoAttr K CO "_above")
    (C_na_Order_names : NoAttr K CO "names") :
    FnOk P w K mg base (L2.CX P w) 4 f fd ["self", "low", "high"] (spBelowW CO CU) := by
  refine fnOk_mk F sc_Order_below (fun vs H Q E h => h.1) (fun cdv A outer s H vs Q E hr h => ?_)
  obtain ⟨_, a, N, R, x, y, rfl, ho, kx, k⟩ := h
  obtain ⟨dx, t, d, e1, e2, ⟨A', e3, e4⟩, hl, hN, hnl⟩ := ho
  refine ⟨_, pss_cons (ps_expr (z_callC C_f_check_among hr (fun σ => passAt (takes_of rfl rfl rfl rfl) σ) (pa_cons (pe_fld (pv 0) rfl) (pa_cons (pe_tup (pa_cons (pv 1) (pa_cons (pv 2) pa_nil))) pa_nil))))
    (pss_one (ps_ret (pe_cmpR (k_inS (K := K) rfl) (pv 2) (pe_dget (hu_of hr) (pe_fld (pv 0) rfl) (pv 1) (fun _ _ => rfl)) rfl))), ?_⟩
  try dsimp only [cxOf]
  walk_at "rd"
  refine i_fld1 e1 C_c_Order.toCls C_na_Order_names rf_names ?_
  walk_at "rd"
  refine i_tup1 (by show 2 ≤ 100000; decide) fun q H1 hq s1 eq1 ho1 => ?_
  walk_at "rd"
  refine ⟨rfl, t, q, N, [x, y], rfl, SqA.t (s1 _ _ e2), SqA.t eq1, fun z hz => ?_, fun hm H2 s2 => ?_⟩
  · obtain ⟨rb, kx⟩ := kx z hz
    exact ⟨rb, fun d' H' s e => kx d' H' (s1.trans s) e⟩
  · have s02 := s1.trans s2
    have hx0 : x ∈ N := by
      have := List.find?_eq_none.mp hm x (by simp)
      simpa using this
    have hy0 : y ∈ N := by
      have := List.find?_eq_none.mp hm y (by simp)
      simpa using this
    walk_at "rd"
    refine i_fld1 (s02 _ _ e1) C_c_Order.toCls C_na_Order__above rf_above ?_
    walk_at "rd"
    refine i_dget (s02 _ _ e3) (rows_val hx0) ?_
    refine i_inS (SqA.t (s02 _ _ (e4 x hx0))) ?_
    have em : decide (y ∈ OM.ab N R x) = R x y := by
      rw [Bool.eq_iff_iff, decide_eq_true_eq, OM.mem_ab]
      exact ⟨fun z => z.2, fun z => ⟨hy0, z⟩⟩
    rw [em]
    exact k hm H2 s02
theorem pi_ownTK {X : Cx} {K : PySem.W.Frag} {C : Addr} {k j : Nat} {sp : Nat → Sp} {tg e : Expr} {te : TE} (hK : X.K = K) (c : ItO X.prog X.w X.K X.mg X.base C k sp) (hr : Room j X.A) (he : PE X e te) (hj : k ≤ j := by decide) : PI X tg e (iOwnT K C sp te) := by
  subst hK
  exact pi_ownT c hr he hj
theorem own_io {K : PySem.W.Frag} {CO a : Addr} {H : Hp} {N : List Str} {R : Str → Str → Bool} (h : IsO CO H a N R) : ∃ t, ∀ H', Same H H' → OwnT K CO (spOIterT CO) a t (N.map V.str) H' := by
  obtain ⟨dx, t, d, e1, e2, _⟩ := h
  refine ⟨t, fun H' s => ⟨⟨dx, _, s _ _ e1⟩, .of (s _ _ e2), fun n => ⟨rfl, a, dx, t, d, _, rfl, s _ _ e1, s _ _ e2, fun q hle hn => ⟨q, rfl, hle, hn, rfl⟩⟩⟩⟩
/-- the pairs that stand upward -/
def upw (N : List Str) (R : Str → Str → Bool) (M : List Str) : List (Str × Str) := M.flatMap fun x => (N.filter (R x)).map fun y => (x, y)
theorem upw_len {N : List Str} {R : Str → Str → Bool} : ∀ M : List Str, (upw N R M).length ≤ M.length * N.length
  | [] => Nat.zero_le _
  | a :: M => by
    have ih := upw_len (N := N) (R := R) M
    have h1 := List.length_filter_le (R a) N
    unfold upw at ih ⊢
    rw [List.flatMap_cons, List.length_append, List.length_map, List.length_cons, Nat.succ_mul]
    omega
def spUpw (CO : Addr) : Sp := fun vs H Q _ => vs.length = 1 ∧ ∃ (a : Addr) (N : List Str) (R : Str → Str → Bool), vs = [.ref a] ∧ IsO CO H a N R ∧ ∀ p H', H p = none → Same H H' → LPr H' p (upw N R N) → Q (.ref p) H'
abbrev s__upward : Stmt := top 30
theorem sc__upward : FnScope ["order", "first", "second"] ["order"] (defScope s__upward) := ⟨rfl, rfl, rfl, by decide +kernel, rfl, by decide +kernel, by decide +kernel⟩
theorem ok__upward {P : Program} {w : World} {K : PySem.W.Frag} {mg : Str → Option Value} {base : Heap} {CO CU : Addr} {f : Addr} {fd : FuncData} (F : L2.Fun K "_upward" "_upward" s__upward f fd)
    (C_c_Order : ClO K CO)
    (C_it_Order : ItO P w K mg base CO 1 (spOIterT CO))
    (C_m_Order_below : CalM P w K mg base CO "below" 4 (spBelowW CO CU)) :
    FnOk P w K mg base (L2.CX P w) 5 f fd ["order"] (spUpw CO) := by
  refine fnOk_mk F sc__upward (fun vs H Q E h => h.1) (fun cdv A outer s H vs Q E hr h => ?_)
  obtain ⟨_, a, N, R, rfl, ho, k⟩ := h
  obtain ⟨dx, ti, d, e1, e2, _, h8, hN, hnl⟩ := id ho
  obtain ⟨t, ow⟩ := own_io (K := K) ho
  refine ⟨_, pss_one (ps_ret (pe_lc2 (own := [("first", 1), ("second", 2)]) (vs1 := [2]) (by rfl) sc__upward.nd (pi_ownT C_it_Order hr (pv 0)) (blkOk_by (N := ["order", "first", "second"]) (sc := defScope s__upward) (by decide +kernel)) (by decide) (fun _ _ _ _ _ => pg_name (i := 1) sc__upward.nd rfl (Or.inl rfl)) (fun _ _ _ _ _ => pts_nil) (fun _ _ _ _ _ => pi_ownTK (K := K) rfl C_it_Order hr (pv 0)) (fun _ _ _ _ _ => pg_name (i := 2) sc__upward.nd rfl (Or.inl rfl)) (fun _ _ _ _ _ => pts_one (pt_val (z_methC (pv 0) C_c_Order.toCls C_m_Order_below hr passN (pa_cons (pv 1) (pa_cons (pv 2) pa_nil))))) (fun _ _ _ _ _ => pe_tup (pa_cons (pv 1) (pa_cons (pv 2) pa_nil))))), ?_⟩
  try dsimp only [cxOf]
  walk_at "rd"
  have sqt : ∀ {H' : Hp}, Same H H' → SqT K H' t (N.map V.str) := fun s => (ow _ s).2.1
  refine ZA.i_lc2O (fun i ys H' => Same H H' ∧ ∃ qs : List Addr, ys = qs.map V.ref ∧ TPr H' qs (upw N R (N.take i))) (ow _ (.refl _)) (fun D H' hD s e ho => ⟨s, [], rfl, .nil⟩) (fun i ys H' p => sqt p.1) ?_ ?_
  · rintro i v D1 ys H3 hD1 hv eD1 ⟨s3, qs, rfl, tq⟩
    obtain ⟨x, hx, rfl⟩ := strs_at hv
    have xN := List.mem_of_getElem? hx
    walk_at "rd"
    refine ⟨by with_unfolding_all rfl, ?_⟩
    walk_at "rd"
    have lF : (upw N R (N.take i)).length ≤ 64 := by
      refine Nat.le_trans (upw_len _) ?_
      exact Nat.le_trans (Nat.mul_le_mul (Nat.le_trans (List.length_take_le' _ _) h8) h8) (by decide)
    refine ZA.i_lcInO (Pw := fun j ys H' => Same H H' ∧ ∃ qs : List Addr, ys = qs.map V.ref ∧ TPr H' qs (upw N R (N.take i) ++ ((N.take j).filter (R x)).map fun y => (x, y))) (ow _ s3) eD1 ⟨s3, qs, rfl, by simpa using tq⟩ (fun j ys H1 p => sqt p.1) ?_ ?_
    · rintro j v ys H4 hv4 eD4 ⟨s4, qs4, rfl, tq4⟩
      obtain ⟨y, hy, rfl⟩ := strs_at hv4
      have yN := List.mem_of_getElem? hy
      have hj := (List.getElem?_eq_some_iff.mp hy).1
      walk_at "rd"
      refine ⟨by with_unfolding_all rfl, ?_⟩
      walk_at "rd"
      refine i_meth1 (s4 _ _ e1) (ro_no (by decide +kernel) (by decide +kernel)) ?_
      walk_at "rd"
      refine ⟨rfl, a, N, R, x, y, rfl, ho.mono s4, fun z hz => ?_, fun _ H5 s5 => ⟨_, rfl, ?_⟩⟩
      · have := miss_ok (ks := N) (zs := [x, y]) fun z hz => by
          rcases List.mem_cons.mp hz with rfl | hz
          · exact xN
          · rw [List.mem_singleton.mp hz]; exact yN
        rw [this] at hz
        cases hz
      refine i_bool (fun g => ?_) (fun g => ?_)
      · walk_at "rd"
        refine i_tup1 (Nat.le_of_ble_eq_true rfl) fun q H6 hq s6 e6 o6 => ?_
        have eD6 := s6 _ _ (s5 _ _ eD4)
        have l4 := tq4.1
        have lf := List.length_filter_le (R x) (N.take j)
        refine i_lcE eD6 (by rw [List.length_map, l4, List.length_append, List.length_map]; rw [List.length_take] at lf; omega) fun H7 e7 o7 => ⟨fun b u e => by rw [o7 b (ne_of_none e hD1)]; exact s6 _ _ (s5 _ _ (s4 _ _ e)), qs4 ++ [q], by rw [List.map_append]; rfl, ?_⟩
        have tq5 := ((tq4.mono s5).mono s6).keep (lst_keep eD6 o7)
        have e67 : H7 q = some (.tup [.str x, .str y]) := lst_keep eD6 o7 _ _ e6
        rw [take_snoc hy, List.filter_append, List.filter_cons_of_pos g, List.filter_nil, List.map_append, ← List.append_assoc]
        exact tq5.snoc e67
      · refine ⟨_, s5 _ _ eD4, s4.trans s5, qs4, rfl, ?_⟩
        rw [take_snoc hy, List.filter_append, List.filter_cons_of_neg (by rw [g]; decide), List.filter_nil, List.append_nil]
        exact tq4.mono s5
    · rintro ys H4 eD4 ⟨s4, qs4, rfl, tq4⟩
      rw [List.length_map, List.take_length] at tq4
      refine ⟨s4, qs4, rfl, ?_⟩
      unfold upw at tq4 ⊢
      rw [take_snoc hx, List.flatMap_append]
      simpa using tq4
  · rintro D1 ys H3 hD1 eD1 ⟨s3, qs, rfl, tq⟩
    rw [List.length_map, List.take_length] at tq
    exact k D1 H3 hD1 s3 ⟨qs, eD1, tq⟩
/-- how much may go from x to y -/
def mostF (gv tv : Str → Int) (x y : Str) (m : Int) (ws : List Str) : Int := if y ∈ ws ∧ ¬ x ∈ ws then (if (ws.map fun z => tv z - gv z).sum < m then (ws.map fun z => tv z - gv z).sum else m) else m
def mostOf (U : List (List Str)) (gv tv : Str → Int) (x y : Str) : Int := U.foldl (mostF gv tv x y) (if tv y < gv x then tv y else gv x)
def spMost (K : PySem.W.Frag) : Sp := fun vs H Q _ => vs.length = 5 ∧ ∃ (u g t : Addr) (bs : List AT) (N : List Str) (gv tv : Str → Int) (x y : Str), vs = [.ref u, .ref g, .ref t, .str x, .str y] ∧ H u = some (.lst (refB bs)) ∧ TsAt H bs ∧ (∀ b ∈ bs, b.2.length ≤ 60 ∧ ∀ z ∈ b.2, z ∈ N) ∧
  Rd H g (.dK (dI N gv)) ∧ Rd H t (.dK (dI N tv)) ∧ x ∈ N ∧ y ∈ N ∧ ∀ H', Same H H' → Q (.int (mostOf (bs.map (·.2)) gv tv x y)) H'
abbrev s__most : Stmt := top 31
theorem sc__most : FnScope ["ups", "give", "take", "first", "second", "most", "names", "name"] ["ups", "give", "take", "first", "second"] (defScope s__most) := ⟨rfl, rfl, rfl, by decide +kernel, rfl, by decide +kernel, by decide +kernel⟩
theorem ok__most {P : Program} {w : World} {K : PySem.W.Frag} {mg : Str → Option Value} {base : Heap} {f : Addr} {fd : FuncData} (F : L2.Fun K "_most" "_most" s__most f fd)
    (C_b_min : mg "min" = none)
    (C_b_sum : mg "sum" = none) :
    FnOk P w K mg base (L2.CX P w) 1 f fd ["ups", "give", "take", "first", "second"] (spMost K) := by
  refine fnOk_mk F sc__most (fun vs H Q E h => h.1) (fun cdv A outer s H vs Q E hr h => ?_)
  obtain ⟨_, u, g, t, bs, N, gv, tv, x, y, rfl, hu, tb, hb, hg, ht, hx, hy, k⟩ := h
  refine ⟨_, pss_cons (ps_set (i := 5) sc__most.nd rfl (Or.inl rfl) (pe_callB (call_min2 rfl) (by rfl) C_b_min (by decide +kernel) (pa_cons (pe_dget (hu_of hr) (pv 1) (pv 3) (fun _ _ => rfl)) (pa_cons (pe_dget (hu_of hr) (pv 2) (pv 4) (fun _ _ => rfl)) pa_nil))))
    (pss_cons (ps_for (passes_of rfl) rfl (pi_any (K := K) rfl (pv 0)) (pg_name (i := 6) sc__most.nd rfl (Or.inl rfl)) (pss_one (ps_if (PW.pt (pw_and (pt_cmpR (k_inS (K := K) rfl) (pv 4) (pv 6) rfl) (pw_and1 (pt_cmpR (k_notInS (K := K) rfl) (pv 3) (pv 6) rfl)))) (pss_one (ps_set (i := 5) sc__most.nd rfl (Or.inl rfl) (pe_callB (call_min2 rfl) (by rfl) C_b_min (by decide +kernel) (pa_cons (pv 5) (pa_cons (pe_callB (cr_sum rfl) (by rfl) C_b_sum (by decide +kernel) (pa_cons (pe_lc (own := [("name", 7)]) (by rfl) sc__most.nd (pi_any (K := K) rfl (pv 6)) (blkOk_by (N := ["ups", "give", "take", "first", "second", "most", "names", "name"]) (sc := defScope s__most) (by decide +kernel)) (fun _ _ _ _ _ => pg_name (i := 7) sc__most.nd rfl (Or.inl rfl)) (fun _ _ _ _ _ => pts_nil) (fun _ _ _ _ _ => pe_op op_sub (pe_dget (hu_of hr) (pv 2) (pv 7) (fun _ _ => rfl)) (pe_dget (hu_of hr) (pv 1) (pv 7) (fun _ _ => rfl)))) pa_nil)) pa_nil))))) (pss_nil))))
    (pss_one (ps_ret (pv 5)))), ?_⟩
  try dsimp only [cxOf]
  walk_at "rd"
  have dg : ∀ {z : Str}, z ∈ N → valV (dI N gv) (.inr z) = some (.int (gv z)) := fun hz => by rw [valV_dF, if_pos hz]
  have dt : ∀ {z : Str}, z ∈ N → valV (dI N tv) (.inr z) = some (.int (tv z)) := fun hz => by rw [valV_dF, if_pos hz]
  refine i_dgetR hg (dg hx) ?_
  walk_at "rd"
  refine i_dgetR ht (dt hy) ?_
  walk_at "rd"
  refine ⟨_, _, rfl, ?_⟩
  walk_at "rd"
  refine i_forA (H0 := H) (fun i σ H1 => (∃ v6 v7, σ = [some (.ref u), some (.ref g), some (.ref t), some (.str x), some (.str y), some (.int (((bs.map (·.2)).take i).foldl (mostF gv tv x y) (if tv y < gv x then tv y else gv x))), v6, v7]) ∧ Same H H1) (.l hu) ⟨⟨_, _, rfl⟩, Same.refl _⟩ (fun i σ H1 p => p.2) ?_ ?_
  · rintro i w σ H1 hw ⟨⟨v6, v7, rfl⟩, s1⟩
    obtain ⟨b, hbi, rfl⟩ := refB_at hw
    have hbj : (bs.map (·.2))[i]? = some b.2 := by rw [List.getElem?_map, hbi]; rfl
    obtain ⟨l60, hin⟩ := hb b (List.mem_of_getElem? hbi)
    have eb := s1 _ _ (tb b (List.mem_of_getElem? hbi))
    rw [take_snoc hbj, List.foldl_append]
    generalize ((bs.map (·.2)).take i).foldl (mostF gv tv x y) (if tv y < gv x then tv y else gv x) = m at *
    show _
    have em : [b.2].foldl (mostF gv tv x y) m = mostF gv tv x y m b.2 := rfl
    rw [em]
    walk_at "rd"
    have keep : mostF gv tv x y m b.2 = m → ∀ H2, Same H1 H2 → (∃ v6' v7', [some (V.ref u), some (V.ref g), some (V.ref t), some (V.str x), some (V.str y), some (V.int m), some (V.ref b.1), v7] = [some (V.ref u), some (V.ref g), some (V.ref t), some (V.str x), some (V.str y), some (V.int (mostF gv tv x y m b.2)), v6', v7']) ∧ Same H H2 := fun e H2 s2 => ⟨⟨_, _, by rw [e]⟩, s1.trans s2⟩
    refine i_inS (.t eb) ?_
    refine ⟨_, rfl, ?_⟩
    refine i_dec (fun g1 => ?_) (fun g1 => ?_)
    · walk_at "rd"
      refine i_notInS (.t eb) ?_
      walk_at "rd"
      refine i_ndec (fun g2 => ?_) (fun g2 => ?_)
      · walk_at "rd"
        have hg1 : Rd H1 g (.dK (dI N gv)) := rdN (extN_of s1) (fun _ z => by cases z) hg
        have ht1 : Rd H1 t (.dK (dI N tv)) := rdN (extN_of s1) (fun _ z => by cases z) ht
        refine i_lcA (H0 := H1) (fun j ys H2 => Same H1 H2 ∧ ys = ((b.2.take j).map fun z => tv z - gv z).map V.int) (.t eb) (Same.refl _) ?_ ?_ ?_ ?_
        · intro D H' hD sm e ho
          exact ⟨sm, rfl⟩
        · exact fun j ys H' p => p.1
        · rintro j w D ys H2 hD hw eD ⟨s2, rfl⟩
          obtain ⟨z, hz, rfl⟩ := strs_at hw
          have hj := (List.getElem?_eq_some_iff.mp hz).1
          have zN := hin z (List.mem_of_getElem? hz)
          refine ⟨rfl, ?_⟩
          walk_at "rd"
          refine i_dgetR (rdN (extN_of s2) (fun _ z => by cases z) ht1) (dt zN) ?_
          walk_at "rd"
          refine i_dgetR (rdN (extN_of s2) (fun _ z => by cases z) hg1) (dg zN) ?_
          walk_at "rd"
          refine i_lcE eD (by rw [List.length_map, List.length_map, List.length_take]; omega) fun H3 e3 o3 => ⟨fun c o ec => ?_, ?_⟩
          · rw [o3 c (ne_of_none ec hD)]
            exact s2 _ _ ec
          · rw [take_snoc hz, List.map_append, List.map_append]
            rfl
        rintro D ys H2 hD eD ⟨s2, rfl⟩
        rw [List.length_map, List.take_length] at eD
        walk_at "rd"
        refine ⟨D, _, rfl, .of eD, ?_⟩
        walk_at "rd"
        refine ⟨_, _, rfl, ?_⟩
        walk_at "rd"
        refine ⟨⟨some (.ref b.1), v7, ?_⟩, s1.trans s2⟩
        have em2 : mostF gv tv x y m b.2 = if (b.2.map fun z => tv z - gv z).sum < m then (b.2.map fun z => tv z - gv z).sum else m := if_pos (show y ∈ b.2 ∧ ¬ x ∈ b.2 from ⟨g1, g2⟩)
        rw [em2]
        rfl
      · walk_at "rd"
        exact keep (by unfold mostF; rw [if_neg fun h => h.2 g2]) H1 (Same.refl _)
    · walk_at "rd"
      exact keep (by unfold mostF; rw [if_neg fun h => g1 h.1]) H1 (Same.refl _)
  · rintro σ H1 ⟨⟨v6, v7, rfl⟩, s1⟩
    rw [refB_len, ← List.length_map (as := bs) (f := (·.2)), List.take_length]
    walk_at "rd"
    exact k H1 s1
open _root_.ZB
section
variable {K : PySem.W.Frag} {C a t : Addr} {sp : Nat → Sp} {xs : List V} {H : Hp} {σ : L2.St} {g : TG} {tt : TT} {tk tv tl : TE} {Q : VK}
def rDcOwn (K : PySem.W.Frag) (C : Addr) (sp : Nat → Sp) (g : TG) (tt : TT) (tk tv : TE) (vs : List Nat) (σ : L2.St) (Q : VK) (x : V) (H1 : Hp) : Prop := ∃ a t ys, x = .ref a ∧ OwnT K C sp a t ys H1 ∧ ∀ D, H1 D = none → ∃ W : Nat → Nat → Hp → Prop, (∃ m, W 0 m (upd H1 D (.dK []))) ∧ ∀ i m H, W i m H →
  ((Itt K t).stop i H ∧ Q (.ref D) H) ∨ ((Itt K t).go i H ∧ ∃ Nx : Hp → Prop, (∀ H', Nx H' → ∃ m', m' < m ∧ W (i + 1) m' H') ∧ ∀ x H', (Itt K t).yld i H x H' → g x (wipe σ vs) H' fun σ2 H2 => wipe σ2 vs = wipe σ vs ∧ tt σ2 H2 fun b H3 =>
    if b = true then tk σ2 H3 fun y H4 => tv σ2 H4 fun z H5 => ∃ kvs k, y = kV k ∧ H5 D = some (.dK kvs) ∧ kvs.length < sizeLine ∧ Nx (upd H5 D (.dK (putK kvs k z))) else Nx H3)
theorem i_dcO0 {vs : List Nat} (h : tl σ H (fun x H1 => rDcOwn K C sp g tt tk tv vs σ Q x H1)) : tDc (iOwnT K C sp tl) g tt tk tv vs σ H Q := h
theorem i_dcO {vs : List Nat} (Pv : Addr → Nat → List (Key × V) → Hp → Prop) (s : OwnT K C sp a t xs H) (h0 : ∀ D H', H D = none → Same H H' → H' D = some (.dK []) → (∀ b, b ≠ D → H' b = H b) → Pv D 0 [] H')
    (hl : ∀ D i ys H1, Pv D i ys H1 → SqT K H1 t xs)
    (hs : ∀ i x D kvs H1, H D = none → xs[i]? = some x → H1 D = some (.dK kvs) → Pv D i kvs H1 → g x (wipe σ vs) H1 fun σ2 H2 => wipe σ2 vs = wipe σ vs ∧ tt σ2 H2 fun b H3 => if b = true then tk σ2 H3 fun y H4 => tv σ2 H4 fun z H5 => rDcE D (Pv D) i y z H5 else DcS D (Pv D) (i + 1) H3)
    (hd : ∀ D kvs H1, H D = none → H1 D = some (.dK kvs) → Pv D xs.length kvs H1 → Q (.ref D) H1) : rDcOwn K C sp g tt tk tv vs σ Q (.ref a) H := by
  have w := walk_tup (K := K) (a := t) (xs := xs)
  refine ⟨a, t, xs, rfl, s, fun D hD => ⟨fun i m H => m = xs.length - i ∧ i ≤ xs.length ∧ DcS D (Pv D) i H, ⟨xs.length, by simp, Nat.zero_le _, [], upd_same, h0 D _ hD (fun b o e => by rw [upd_ne (ne_of_none e hD)]; exact e) upd_same (fun b hb => upd_ne hb)⟩, ?_⟩⟩
  rintro i m H' ⟨rfl, hi, kvs, hD', p⟩
  have q := hl D i kvs H' p
  by_cases hlt : i < xs.length
  · refine .inr ⟨w.goes i H' hlt q, DcS D (Pv D) (i + 1), fun H'' p' => ⟨xs.length - (i + 1), by omega, rfl, hlt, p'⟩, fun x H'' y => ?_⟩
    obtain ⟨rfl, e⟩ := w.yields i H' x H'' hlt q y
    exact hs i x D kvs _ hD e hD' p
  · have e : i = xs.length := by omega
    subst e
    exact .inl ⟨w.stops H' q, hd D kvs H' hD hD' p⟩
end
theorem _root_.LamX.Tabs.butD {T : List (Addr × Str)} {H H' : Hp} (t : LamX.Tabs T H) (e : ∀ b o, H b = some o → (∀ xs, o ≠ .lst xs) → (∀ ks, o ≠ .dK ks) → H' b = some o) : LamX.Tabs T H' := fun p hp => by
  obtain ⟨ps, h1, h2, h3⟩ := t p hp
  refine ⟨ps, e _ _ h1 (fun _ z => by cases z) (fun _ z => by cases z), h2, fun pos cv hc => ?_⟩
  obtain ⟨c, e1, e2⟩ := h3 pos cv hc
  exact ⟨c, e1, e _ _ e2 (fun _ z => by cases z) (fun _ z => by cases z)⟩
def spPair (K : PySem.W.Frag) (CO CC CU : Addr) (TT : List (Addr × Str)) : Sp := fun vs H Q E => vs.length = 3 ∧ ∃ (o l h : Addr) (N M M' : List Str) (E0 : List (Str × Str)) (B B' : Nat) (p q : Str → Rat), vs = [.ref o, .ref l, .ref h] ∧ IsOE CO H o N E0 ∧ IsC CC H l B M p ∧ IsC CC H h B' M' q ∧ B ≤ 400 ∧ B' ≤ 400 ∧ LamX.Tabs TT H ∧
  (∀ z, miss N M = some z → EName CU z H E) ∧ (miss N M = none → (∀ z, miss N M' = some z → EName CU z H E) ∧ (miss N M' = none → ∀ H' x, LamX.ExtN H H' → LamX.Tabs TT H' → Q x H'))
abbrev s_pair_table : Stmt := top 32
theorem sc_pair_table : FnScope ["order", "low", "high", "lows", "highs", "ups", "low_sum", "high_sum", "give", "name", "take", "rows", "first", "second", "part"] ["order", "low", "high"] (defScope s_pair_table) := ⟨rfl, rfl, rfl, by decide +kernel, rfl, by decide +kernel, by decide +kernel⟩
theorem ok_pair_table {P : Program} {w : World} {K : PySem.W.Frag} {mg : Str → Option Value} {base : Heap} {TT : List (Addr × Str)} {CB CC CO CR CU : Addr} {f : Addr} {fd : FuncData} (F : L2.Fun K "pair_table" "pair_table" s_pair_table f fd)
    (C_b_sum : mg "sum" = none)
    (C_c_Chance : ClO K CC)
    (C_c_Order : ClO K CO)
    (C_f_lower : Cal P w K mg base "lower" 13 (spLower K CO CR CC CU TT))
    (C_f_most : Cal P w K mg base "_most" 1 (spMost K))
    (C_f_upward : Cal P w K mg base "_upward" 5 (spUpw CO))
    (C_i_Ratio : CalI P w K mg base "Ratio" CR 8 (spRInit CR CB))
    (C_it_Order : ItO P w K mg base CO 1 (spOIterT CO))
    (C_m_Chance_weights : CalM P w K mg base CC "weights" 1 (spWeights CC))
    (C_m_Order_ups : CalM P w K mg base CO "ups" 4 (spUps K CO TT))
    (C_na_Order__above : NoAttr K CO "_above")
    (C_na_Order_names : NoAttr K CO "names") :
    FnOk P w K mg base (L2.CX P w) 14 f fd ["order", "low", "high"] (spPair K CO CC CU TT) := by
  refine fnOk_mk F sc_pair_table (fun vs H Q E h => h.1) (fun cdv A outer s H vs Q E hr h => ?_)
  obtain ⟨_, o, l, hh, N, M, M', E0, B, B', p, q, rfl, io, hl, hq, hB, hB', hT, k1, k2⟩ := h
  refine ⟨_, pss_cons (ps_if (pt_not (pt_val (z_callC C_f_lower hr (fun σ => passAt (takes_of rfl rfl rfl rfl) σ) (pa_cons (pv 0) (pa_cons (pv 1) (pa_cons (pv 2) pa_nil)))))) (pss_one (ps_ret pe_non)) (pss_nil))
    (pss_cons (ps_asg (pe_tup (pa_cons (z_meth0C (pv 1) C_c_Chance.toCls C_m_Chance_weights hr passN) (pa_cons (z_meth0C (pv 2) C_c_Chance.toCls C_m_Chance_weights hr passN) (pa_cons (z_meth0C (pv 0) C_c_Order.toCls C_m_Order_ups hr passN) pa_nil)))) (k_tup (K := K) (n := 3) rfl rfl (pgs_cons (pg_name (i := 3) sc_pair_table.nd rfl (Or.inr rfl)) (pgs_cons (pg_name (i := 4) sc_pair_table.nd rfl (Or.inr rfl)) (pgs_cons (pg_name (i := 5) sc_pair_table.nd rfl (Or.inl rfl)) (pgs_nil))))))
    (pss_cons (ps_frz (ps_frz (ps_asg (pe_tup (pa_cons (pe_callB (cr_sumV rfl) (by rfl) C_b_sum (by decide +kernel) (pa_cons (pe_vals (pv 3)) pa_nil)) (pa_cons (pe_callB (cr_sumV rfl) (by rfl) C_b_sum (by decide +kernel) (pa_cons (pe_vals (pv 4)) pa_nil)) pa_nil))) (k_tup (K := K) (n := 2) rfl rfl (pgs_cons (pg_name (i := 6) sc_pair_table.nd rfl (Or.inr rfl)) (pgs_cons (pg_name (i := 7) sc_pair_table.nd rfl (Or.inr rfl)) (pgs_nil)))))))
    (pss_cons (ps_setDc (i := 8) (own := [("name", 9)]) (by rfl) sc_pair_table.nd rfl rfl (sw_trueD rfl rfl rfl (by decide +kernel)) (pi_ownT C_it_Order hr (pv 0)) (blkOk_by (N := ["order", "low", "high", "lows", "highs", "ups", "low_sum", "high_sum", "give", "name", "take", "rows", "first", "second", "part"]) (sc := defScope s_pair_table) (by decide +kernel)) (fun _ _ _ _ _ => pg_name (i := 9) sc_pair_table.nd rfl (Or.inl rfl)) (fun _ _ _ _ _ => pts_nil) (fun _ _ _ _ _ => pv 9) (fun _ _ _ _ _ => pe_op op_mulW (pe_dget2 (hu_of hr) (pv 3) (pv 9) pe_int ⟨by rfl, by rfl, by rfl, by rfl⟩) (pv 7)))
    (pss_cons (ps_setDc (i := 10) (own := [("name", 9)]) (by rfl) sc_pair_table.nd rfl rfl (sw_trueD rfl rfl rfl (by decide +kernel)) (pi_ownT C_it_Order hr (pv 0)) (blkOk_by (N := ["order", "low", "high", "lows", "highs", "ups", "low_sum", "high_sum", "give", "name", "take", "rows", "first", "second", "part"]) (sc := defScope s_pair_table) (by decide +kernel)) (fun _ _ _ _ _ => pg_name (i := 9) sc_pair_table.nd rfl (Or.inl rfl)) (fun _ _ _ _ _ => pts_nil) (fun _ _ _ _ _ => pv 9) (fun _ _ _ _ _ => pe_op op_mulW (pe_dget2 (hu_of hr) (pv 4) (pv 9) pe_int ⟨by rfl, by rfl, by rfl, by rfl⟩) (pv 6)))
    (pss_cons (ps_set (i := 11) sc_pair_table.nd rfl (Or.inl rfl) (pe_lst pa_nil))
    (pss_cons (ps_for (passes_of rfl) rfl (pi_any (K := K) rfl (z_callC C_f_upward hr passN (pa_cons (pv 0) pa_nil))) (k_tup (K := K) (n := 2) rfl rfl (pgs_cons (pg_name (i := 12) sc_pair_table.nd rfl (Or.inl rfl)) (pgs_cons (pg_name (i := 13) sc_pair_table.nd rfl (Or.inl rfl)) pgs_nil))) (pss_cons (ps_set (i := 14) sc_pair_table.nd rfl (Or.inl rfl) (z_callC C_f_most hr passN (pa_cons (pv 5) (pa_cons (pv 8) (pa_cons (pv 10) (pa_cons (pv 12) (pa_cons (pv 13) pa_nil)))))))
    (pss_one (ps_if (pt_cmpR op_gt (pv 14) pe_int (nomark _)) (pss_cons (ps_dput (hu_of hr) (pv 8) (pv 12) (pe_op op_sub (pe_dget (hu_of hr) (pv 8) (pv 12) (fun _ _ => rfl)) (pv 14)) (by rfl))
    (pss_cons (ps_dput (hu_of hr) (pv 10) (pv 13) (pe_op op_sub (pe_dget (hu_of hr) (pv 10) (pv 13) (fun _ _ => rfl)) (pv 14)) (by rfl))
    (pss_one (ps_expr (pe_bm PySem.F.plainAttrs_list PySem.F.slot_list_append PySem.F.type_list_append mt_append (pv 11) (pa_cons (pe_tup (pa_cons (pv 12) (pa_cons (pv 13) (pa_cons (z_makeC C_i_Ratio hr passN (pa_cons (pv 14) (pa_cons (pe_op op_mulW (pv 6) (pv 7)) pa_nil))) pa_nil)))) pa_nil)))))) (pss_nil)))))
    (pss_one (ps_ret (pv 11))))))))), ?_⟩
  try dsimp only [cxOf]
  walk_at "rd"
  refine ⟨rfl, o, l, hh, N, M, M', E0, B, B', p, q, rfl, io, hl, hq, by omega, by omega, hT, k1, fun m1 => ⟨(k2 m1).1, fun m2 H1 x1 T1 => ?_⟩⟩
  have k3 := (k2 m1).2 m2
  refine ⟨_, rfl, ?_⟩
  generalize (barOf (upsOf (OM.ab N (OM.cl E0)) N) p q).isNone = bb
  cases bb
  · walk_at "rd"
    exact k3 H1 _ x1 T1
  walk_at "rd"
  have io1 := io.ext x1
  have hl1 := hl.ext x1
  have hq1 := hq.ext x1
  obtain ⟨dxl, dl, ol, wl, Sl, l1, l2, cdl, hpl⟩ := id hl1
  refine i_meth1 l1 (cf_no (by decide +kernel) (by decide +kernel)) ?_
  walk_at "rd"
  refine ⟨rfl, l, dxl, dl, Sl, ol, _, rfl, l1, l2, fun ld H2 hld s2 e2 => ?_⟩
  walk_at "rd"
  have hq2 := hq1.mono s2
  obtain ⟨dxh, dh, oh, wh, Sh, h1, h2, cdh, hph⟩ := id hq2
  refine i_meth1 h1 (cf_no (by decide +kernel) (by decide +kernel)) ?_
  walk_at "rd"
  refine ⟨rfl, hh, dxh, dh, Sh, oh, _, rfl, h1, h2, fun hd H3 hhd s3 e3 => ?_⟩
  walk_at "rd"
  have s13 := s2.trans s3
  have io3 : IsOE CO H3 o N E0 := io1.ext (extN_of s13)
  have T3 := T1.ext s13
  obtain ⟨dxo, tio, dio, go, _⟩ := id io3.io
  refine i_meth1 go (ro_no (by decide +kernel) (by decide +kernel)) ?_
  walk_at "rd"
  refine ⟨rfl, o, N, E0, rfl, io3, T3, fun u H4 bs fn x4 T4 eu tb hbs => ?_⟩
  walk_at "rd"
  have e24 := x4 _ _ (s3 _ _ e2) (fun _ z => by cases z)
  have e34 := x4 _ _ e3 (fun _ z => by cases z)
  refine i_tup1 (by show 3 ≤ 100000; decide) fun tu H5 htu s5 etu otu => ?_
  refine i_gtup (.of etu) rfl ?_
  walk_at "rd"
  refine i_frz (s5 _ _ e24) trivial fun ol6 H6 e6 o6 => ?_
  have nld : hd ≠ ld := fun z => by have h := e2; rw [← z] at h; rw [h] at hhd; cases hhd
  refine i_frz (u := .dK (dI M' wh)) (by rw [o6 hd nld]; exact s5 _ _ e34) trivial fun oh7 H7 e7 o7 => ?_
  walk_at "rd"
  have e67 : H7 ld = some (.frz ol6 (.dK (dI M wl))) := by rw [o7 ld (Ne.symm nld)]; exact e6
  refine ⟨ld, ol6, _, rfl, e67, fun q8 hq8 => ?_⟩
  have s8 : Same H7 (upd H7 q8 (ValO q8 ld)) := same_new hq8
  have g8 : upd H7 q8 (ValO q8 ld) q8 = some (ValO q8 ld) := upd_same
  generalize upd H7 q8 (ValO q8 ld) = H8 at *
  walk_at "rd"
  refine ⟨q8, ld, ol6, _, _, rfl, g8, s8 _ _ e67, dI_vals _ _, ?_⟩
  walk_at "rd"
  have e78 := s8 _ _ e7
  refine ⟨hd, oh7, _, rfl, e78, fun q9 hq9 => ?_⟩
  have s9 : Same H8 (upd H8 q9 (ValO q9 hd)) := same_new hq9
  have g9 : upd H8 q9 (ValO q9 hd) q9 = some (ValO q9 hd) := upd_same
  generalize upd H8 q9 (ValO q9 hd) = H9 at *
  walk_at "rd"
  refine ⟨q9, hd, oh7, _, _, rfl, g9, s9 _ _ e78, dI_vals _ _, ?_⟩
  walk_at "rd"
  rw [← cdl.sum, ← cdh.sum]
  have x14 : LamX.ExtN H1 H4 := (extN_of s13).trans x4
  have b47 : ∀ b o, b ≠ ld → b ≠ hd → H4 b = some o → H7 b = some o := fun b o h1 h2 e => by rw [o7 b h2, o6 b h1]; exact s5 _ _ e
  have hlN : H1 ld = none := hld
  have hhN : H2 hd = none := hhd
  have x17 : LamX.ExtN H1 H7 := fun b o e n => b47 b o (fun z => by rw [z] at e; rw [hlN] at e; cases e) (fun z => by rw [z] at e; have h := s2 _ _ e; rw [hhN] at h; cases h) (x14 b o e n)
  have T7 : LamX.Tabs TT H7 := T4.butD fun b o e n n2 => by
    have e5 := s5 _ _ e
    have n1 : b ≠ ld := fun z => by rw [z, e24] at e; exact n2 _ (Option.some.inj e).symm
    have n3 : b ≠ hd := fun z => by rw [z, e34] at e; exact n2 _ (Option.some.inj e).symm
    rw [o7 b n3, o6 b n1]
    exact e5
  have s79 := s8.trans s9
  refine i_tup1 (by show 2 ≤ 100000; decide) fun t10 H10 ht10 s10 e10 o10 => ?_
  refine i_gtup (.of e10) rfl ?_
  walk_at "rd"
  have s7_10 := s79.trans s10
  have x1_10 : LamX.ExtN H1 H10 := x17.trans (extN_of s7_10)
  have T10 := T7.ext s7_10
  have io10 : IsOE CO H10 o N E0 := io1.ext x1_10
  obtain ⟨dx10, ti10, d10, _, _, _, h8, hN, hnl⟩ := id io10.io
  obtain ⟨t, ow⟩ := own_io (K := K) io10.io
  have bl : ∀ z, 0 ≤ (if z ∈ M then wl z else 0) ∧ (if z ∈ M then wl z else 0) ≤ Sl := fun z => by
    by_cases g : z ∈ M
    · rw [if_pos g, cdl.sum]
      exact ⟨Int.le_of_lt (cdl.pos z g), sum_ge (fun y hy => Int.le_of_lt (cdl.pos y hy)) z g⟩
    · rw [if_neg g]
      exact ⟨Int.le_refl _, Int.le_of_lt cdl.ne⟩
  have bh : ∀ z, 0 ≤ (if z ∈ M' then wh z else 0) ∧ (if z ∈ M' then wh z else 0) ≤ Sh := fun z => by
    by_cases g : z ∈ M'
    · rw [if_pos g, cdh.sum]
      exact ⟨Int.le_of_lt (cdh.pos z g), sum_ge (fun y hy => Int.le_of_lt (cdh.pos y hy)) z g⟩
    · rw [if_neg g]
      exact ⟨Int.le_refl _, Int.le_of_lt cdh.ne⟩
  have SlN : Sl < ((2 ^ 400 : Nat) : Int) := by
    have h := cdl.sz
    have e9 : (2 : Int) ^ B = ((2 ^ B : Nat) : Int) := by push_cast; rfl
    have p9 : 2 ^ B ≤ 2 ^ 400 := Nat.pow_le_pow_right (by decide) hB
    omega
  have ShN : Sh < ((2 ^ 400 : Nat) : Int) := by
    have h := cdh.sz
    have e9 : (2 : Int) ^ B' = ((2 ^ B' : Nat) : Int) := by push_cast; rfl
    have p9 : 2 ^ B' ≤ 2 ^ 400 := Nat.pow_le_pow_right (by decide) hB'
    omega
  have Sl0 := cdl.ne
  have Sh0 := cdh.ne
  have lt9 : (2 : Nat) ^ 400 < 2 ^ 500 := by decide +kernel
  have zSl : ZR.Sz 500 Sl := by unfold ZR.Sz; omega
  have zSh : ZR.Sz 500 Sh := by unfold ZR.Sz; omega
  have hvl : ∀ z, (valV (dI M wl) (.inr z)).getD (.int 0) = .int (if z ∈ M then wl z else 0) := fun z => by
    rw [valV_dF]
    by_cases h : z ∈ M
    · rw [if_pos h, if_pos h]; rfl
    · rw [if_neg h, if_neg h]; rfl
  have hvh : ∀ z, (valV (dI M' wh) (.inr z)).getD (.int 0) = .int (if z ∈ M' then wh z else 0) := fun z => by
    rw [valV_dF]
    by_cases h : z ∈ M'
    · rw [if_pos h, if_pos h]; rfl
    · rw [if_neg h, if_neg h]; rfl
  have el10 := s7_10 _ _ e67
  have eh10 := s7_10 _ _ e7
  refine i_dcO0 ?_
  walk_at "rd"
  refine i_dcO (fun D i kvs H' => Same H10 H' ∧ kvs = dI (N.take i) fun z => (if z ∈ M then wl z else 0) * Sh) (ow _ (.refl _)) (fun D H' hD s e ho => ⟨s, rfl⟩) (fun D i kvs H' p => (ow _ p.1).2.1) ?_ ?_
  · rintro i x D kvs H11 hD hx eD ⟨s11, rfl⟩
    obtain ⟨z, hz, rfl⟩ := strs_at hx
    have nz := nodup_take hN hz
    have hi := (List.getElem?_eq_some_iff.mp hz).1
    walk_at "rd"
    refine ⟨rfl, ?_⟩
    walk_at "rd"
    refine i_dget2 (.inr ⟨ol6, s11 _ _ el10⟩) ?_
    walk_at "rd"
    refine i_dget2b (.inr ⟨ol6, s11 _ _ el10⟩) ?_
    rw [hvl]
    have zz : ZR.Sz 500 (if z ∈ M then wl z else 0) := by have := bl z; unfold ZR.Sz; omega
    walk_at "rd"
    refine i_dcE eD (by rw [dF_len, List.length_take]; omega) fun H12 e12 o12 => ⟨fun c u ec => ?_, ?_⟩
    · rw [o12 c (ne_of_none ec hD)]
      exact s11 _ _ ec
    · rw [putK_dF, adK_new nz, upF_int, take_snoc hz]
      exact dF_congr fun y hy => by
        unfold upF
        split
        · rename_i e; rw [e]
        · rfl
  rintro gD kvs H11 hgD egD ⟨s11, rfl⟩
  rw [List.length_map, List.take_length] at egD
  walk_at "rd"
  refine i_dcO0 ?_
  walk_at "rd"
  refine i_dcO (fun D i kvs H' => Same H11 H' ∧ kvs = dI (N.take i) fun z => (if z ∈ M' then wh z else 0) * Sl) (ow _ s11) (fun D H' hD s e ho => ⟨s, rfl⟩) (fun D i kvs H' p => (ow _ (s11.trans p.1)).2.1) ?_ ?_
  · rintro i x D kvs H12 hD hx eD ⟨s12, rfl⟩
    obtain ⟨z, hz, rfl⟩ := strs_at hx
    have nz := nodup_take hN hz
    have hi := (List.getElem?_eq_some_iff.mp hz).1
    walk_at "rd"
    refine ⟨rfl, ?_⟩
    walk_at "rd"
    refine i_dget2 (.inr ⟨oh7, s12 _ _ (s11 _ _ eh10)⟩) ?_
    walk_at "rd"
    refine i_dget2b (.inr ⟨oh7, s12 _ _ (s11 _ _ eh10)⟩) ?_
    rw [hvh]
    have zz : ZR.Sz 500 (if z ∈ M' then wh z else 0) := by have := bh z; unfold ZR.Sz; omega
    walk_at "rd"
    refine i_dcE eD (by rw [dF_len, List.length_take]; omega) fun H13 e13 o13 => ⟨fun c u ec => ?_, ?_⟩
    · rw [o13 c (ne_of_none ec hD)]
      exact s12 _ _ ec
    · rw [putK_dF, adK_new nz, upF_int, take_snoc hz]
      exact dF_congr fun y hy => by
        unfold upF
        split
        · rename_i e; rw [e]
        · rfl
  rintro tD kvs H12 htD etD ⟨s12, rfl⟩
  rw [List.length_map, List.take_length] at etD
  walk_at "rd"
  refine i_lst1 (Nat.le_of_ble_eq_true rfl) fun rw13 H13 hrw s13' e13 o13 => ?_
  walk_at "rd"
  have s10_13 := (s11.trans s12).trans s13'
  have egD13 := s13' _ _ (s12 _ _ egD)
  have etD13 := s13' _ _ etD
  refine ⟨rfl, o, N, _, rfl, io10.io.mono s10_13, fun up14 H14 hup s14 lp14 => ?_⟩
  obtain ⟨qs, eqs, tqs⟩ := lp14
  have egD14 := s14 _ _ egD13
  have etD14 := s14 _ _ etD13
  have erw14 := s14 _ _ e13
  have ngt : gD ≠ tD := fun z => by have h := s11; rw [z] at egD; rw [egD] at htD; cases htD
  have ngr : gD ≠ rw13 := fun z => by have h := s12 _ _ egD; rw [z, hrw] at h; cases h
  have ntr : tD ≠ rw13 := fun z => by rw [z, hrw] at etD; cases etD
  have upg : up14 ≠ gD := fun z => by rw [← z, hup] at egD13; cases egD13
  have upt : up14 ≠ tD := fun z => by rw [← z, hup] at etD13; cases etD13
  have upr : up14 ≠ rw13 := fun z => by rw [← z, hup] at e13; cases e13
  have b4_14 : ∀ b o, b ≠ ld → b ≠ hd → H4 b = some o → H14 b = some o := fun b o h1 h2 e => s14 _ _ (s10_13 _ _ (s7_10 _ _ (b47 b o h1 h2 e)))
  have nu1 : u ≠ ld := fun z => by rw [z, e24] at eu; cases eu
  have nu2 : u ≠ hd := fun z => by rw [z, e34] at eu; cases eu
  have eu14 := b4_14 u _ nu1 nu2 eu
  have tb14 : TsAt H14 bs := fun b hb => b4_14 b.1 _ (fun z => by have h := tb b hb; rw [z, e24] at h; cases h) (fun z => by have h := tb b hb; rw [z, e34] at h; cases h) (tb b hb)
  have hbN : ∀ b ∈ bs, b.2.length ≤ 60 ∧ ∀ z ∈ b.2, z ∈ N := fun b hb => by
    have m : b.2 ∈ bs.map (·.2) := List.mem_map.mpr ⟨b, hb, rfl⟩
    rw [hbs] at m
    have m2 := (mem_pw N).mp (List.mem_filter.mp ((srtU_perm _).mem_iff.mp m)).1
    exact ⟨Nat.le_trans m2.length_le (by omega), fun z hz => m2.subset hz⟩
  have SS0 : 0 < Sl * Sh := Int.mul_pos Sl0 Sh0
  have SSN : Sl * Sh ≤ ((2 ^ 800 : Nat) : Int) := by
    have h1 := Int.mul_le_mul (Int.le_of_lt SlN) (Int.le_of_lt ShN) (Int.le_of_lt Sh0) (by omega)
    have e8 : ((2 ^ 400 : Nat) : Int) * ((2 ^ 400 : Nat) : Int) = ((2 ^ 800 : Nat) : Int) := by decide +kernel
    omega
  have zSS : ZR.Sz 8000 (Sl * Sh) := Nat.lt_of_le_of_lt (show (Sl * Sh).natAbs ≤ 2 ^ 800 by omega) (by decide +kernel)
  have lU : (upw N (OM.cl E0) N).length ≤ 64 := Nat.le_trans (upw_len _) (Nat.le_trans (Nat.mul_le_mul h8 h8) (by decide))
  refine i_forA (H0 := oneH up14 (qs.map V.ref)) (fun j σ H15 => (∃ v12 v13 v14, σ = [some (.ref o), some (.ref l), some (.ref hh), some (.ref ld), some (.ref hd), some (.ref u), some (.int Sl), some (.int Sh), some (.ref gD), none, some (.ref tD), some (.ref rw13), v12, v13, v14]) ∧ (∀ b o, b ≠ gD → b ≠ tD → b ≠ rw13 → H14 b = some o → H15 b = some o) ∧
    ∃ (gv tv : Str → Int) (vs : List V), H15 gD = some (.dK (dI N gv)) ∧ H15 tD = some (.dK (dI N tv)) ∧ H15 rw13 = some (.lst vs) ∧ vs.length ≤ j) one_seq ⟨⟨_, _, _, rfl⟩, fun b o _ _ _ e => e, _, _, [], egD14, etD14, erw14, Nat.le_refl _⟩ (fun j σ H15 p => one_same (p.2.1 up14 _ upg upt upr eqs)) ?_ ?_
  · rintro j xq σ H15 hx ⟨⟨v12, v13, v14, rfl⟩, b15, gv, tv, vs, eg, et, er, lv⟩
    rw [List.getElem?_map] at hx
    obtain ⟨q15, hq15, rfl⟩ := Option.map_eq_some_iff.mp hx
    have hj := (List.getElem?_eq_some_iff.mp hq15).1
    rw [tqs.1] at hj
    have hei : (upw N (OM.cl E0) N)[j]? = some (upw N (OM.cl E0) N)[j] := by simp [hj]
    have eqt := tqs.2 j q15 _ hq15 hei
    have memU := List.mem_of_getElem? hei
    generalize (upw N (OM.cl E0) N)[j] = xy at *
    obtain ⟨x, y⟩ := xy
    have xyN : x ∈ N ∧ y ∈ N := by
      unfold upw at memU
      obtain ⟨a, ha, hb⟩ := List.mem_flatMap.mp memU
      obtain ⟨c, hc, e⟩ := List.mem_map.mp hb
      cases e
      exact ⟨ha, (List.mem_filter.mp hc).1⟩
    have eq15 : H15 q15 = some (.tup [.str x, .str y]) := b15 q15 _ (fun z => by rw [z, egD14] at eqt; cases eqt) (fun z => by rw [z, etD14] at eqt; cases eqt) (fun z => by rw [z, erw14] at eqt; cases eqt) eqt
    refine i_gtup (.of eq15) rfl ?_
    walk_at "rd"
    have eu15 := b15 u _ (fun z => by rw [z, egD14] at eu14; cases eu14) (fun z => by rw [z, etD14] at eu14; cases eu14) (fun z => by
      rw [z, erw14] at eu14
      have h := HO.lst.inj (Option.some.inj eu14)
      cases hb0 : bs with
      | nil => rw [hb0] at hbs; exact ups_ne hbs.symm
      | cons b bs' => rw [hb0] at h; cases h) eu14
    have tb15 : TsAt H15 bs := fun b hb => b15 b.1 _ (fun z => by have h := tb14 b hb; rw [z, egD14] at h; cases h) (fun z => by have h := tb14 b hb; rw [z, etD14] at h; cases h) (fun z => by have h := tb14 b hb; rw [z, erw14] at h; cases h) (tb14 b hb)
    refine ⟨rfl, u, gD, tD, bs, N, gv, tv, x, y, rfl, eu15, tb15, hbN, .inl eg, .inl et, xyN.1, xyN.2, fun H16 s16 => ?_⟩
    walk_at "rd"
    generalize mostOf (bs.map (·.2)) gv tv x y = part
    have b16 : ∀ b o, b ≠ gD → b ≠ tD → b ≠ rw13 → H14 b = some o → H16 b = some o := fun b o h1 h2 h3 e => s16 _ _ (b15 b o h1 h2 h3 e)
    refine i_dec (fun g => ?_) (fun g => ?_)
    · walk_at "rd"
      refine i_dget (s16 _ _ eg) (v := .int (gv x)) (by rw [valV_dF, if_pos xyN.1]) ?_
      walk_at "rd"
      refine i_dputF (s16 _ _ eg) (by omega) fun H17 e17 o17 => ?_
      rw [adK_old xyN.1, upF_int] at e17
      walk_at "rd"
      have et17 : H17 tD = some (.dK (dI N tv)) := by rw [o17 tD (Ne.symm ngt)]; exact s16 _ _ et
      refine i_dget et17 (v := .int (tv y)) (by rw [valV_dF, if_pos xyN.2]) ?_
      walk_at "rd"
      refine i_dputF et17 (by omega) fun H18 e18 o18 => ?_
      rw [adK_old xyN.2, upF_int] at e18
      walk_at "rd"
      have er18 : H18 rw13 = some (.lst vs) := by rw [o18 rw13 (Ne.symm ntr), o17 rw13 (Ne.symm ngr)]; exact s16 _ _ er
      refine ⟨tyL er18, ?_⟩
      walk_at "rd"
      refine i_newR (by omega) zSS fun c19 H19 hc19 s19 r19 => ?_
      walk_at "rd"
      refine i_tup1 (by show 3 ≤ 100000; decide) fun t20 H20 ht20 s20 e20 o20 => ?_
      walk_at "rd"
      have t1820 := s19.trans s20
      refine i_app (t1820 _ _ er18) (by omega) fun H21 e21 o21 => ?_
      walk_at "rd"
      refine ⟨⟨_, _, _, rfl⟩, fun b o h1 h2 h3 e => ?_, upF gv x (gv x - part), upF tv y (tv y - part), _, ?_, ?_, e21, by rw [List.length_append]; show _ + 1 ≤ _; omega⟩
      · rw [o21 b h3]
        refine t1820 _ _ ?_
        rw [o18 b h2, o17 b h1]
        exact b16 b o h1 h2 h3 e
      · rw [o21 gD ngr]
        refine t1820 _ _ ?_
        rw [o18 gD ngt]
        exact e17
      · rw [o21 tD ntr]
        exact t1820 _ _ e18
    · walk_at "rd"
      exact ⟨⟨_, _, _, rfl⟩, b16, gv, tv, vs, s16 _ _ eg, s16 _ _ et, s16 _ _ er, by omega⟩
  rintro σ H15 ⟨⟨v12, v13, v14, rfl⟩, b15, gv, tv, vs, eg, et, er, lv⟩
  walk_at "rd"
  have T14 : LamX.Tabs TT H14 := (T10.ext s10_13).ext s14
  refine k3 H15 _ (fun b o e n => ?_) (T14.butD fun b o e n n2 => b15 b o (fun z => by rw [z, egD14] at e; exact n2 _ (Option.some.inj e).symm) (fun z => by rw [z, etD14] at e; exact n2 _ (Option.some.inj e).symm) (fun z => by rw [z, erw14] at e; exact n _ (Option.some.inj e).symm) e)
  have e10 := x1_10 b o (x1 b o e n) n
  refine b15 b o (ne_of_none e10 hgD) (ne_of_none (s11 _ _ e10) htD) (ne_of_none (s12 _ _ (s11 _ _ e10)) hrw) (s14 _ _ (s10_13 _ _ e10))
open _root_.ZB
section
variable {K : PySem.W.Frag} {C a t : Addr} {sp : Nat → Sp} {xs : List V} {H : Hp} {σ : L2.St} {g : TG} {tt : TT} {te tl : TE} {Q : VK}
def rLcOwnT (K : PySem.W.Frag) (C : Addr) (sp : Nat → Sp) (g : TG) (tt : TT) (te : TE) (vs : List Nat) (σ : L2.St) (Q : VK) (x : V) (H1 : Hp) : Prop := ∃ a t ys, x = .ref a ∧ OwnT K C sp a t ys H1 ∧ rLcJ (Itt K t) g tt te vs σ Q H1
theorem i_lcOT0 {vs : List Nat} (h : tl σ H (fun x H1 => rLcOwnT K C sp g tt te vs σ Q x H1)) : tLc (iOwnT K C sp tl) g tt te vs σ H Q := h
theorem i_lcOT {vs : List Nat} (Pv : Nat → List V → Hp → Prop) (s : OwnT K C sp a t xs H) (h0 : ∀ D H', H D = none → Same H H' → H' D = some (.lst []) → (∀ b, b ≠ D → H' b = H b) → Pv 0 [] H')
    (hl : ∀ i ys H1, Pv i ys H1 → SqT K H1 t xs)
    (hs : ∀ i x D ys H1, H D = none → xs[i]? = some x → H1 D = some (.lst ys) → Pv i ys H1 → g x (wipe σ vs) H1 fun σ2 H2 => wipe σ2 vs = wipe σ vs ∧ tt σ2 H2 fun b H3 => if b = true then te σ2 H3 fun y H4 => rLcE D Pv i y H4 else LcS D Pv (i + 1) H3)
    (hd : ∀ D ys H1, H D = none → H1 D = some (.lst ys) → Pv xs.length ys H1 → Q (.ref D) H1) : rLcOwnT K C sp g tt te vs σ Q (.ref a) H := by
  have w := walk_tup (K := K) (a := t) (xs := xs)
  refine ⟨a, t, xs, rfl, s, fun D hD => ⟨fun i m H => m = xs.length - i ∧ i ≤ xs.length ∧ LcS D Pv i H, ⟨xs.length, by simp, Nat.zero_le _, [], upd_same, h0 D _ hD (fun b o e => by rw [upd_ne (ne_of_none e hD)]; exact e) upd_same (fun b hb => upd_ne hb)⟩, ?_⟩⟩
  rintro i m H' ⟨rfl, hi, ys, hD', p⟩
  have q := hl i ys H' p
  by_cases hlt : i < xs.length
  · refine .inr ⟨w.goes i H' hlt q, LcS D Pv (i + 1), fun H'' p' => ⟨xs.length - (i + 1), by omega, rfl, hlt, p'⟩, fun x H'' y => ?_⟩
    obtain ⟨rfl, e⟩ := w.yields i H' x H'' hlt q y
    exact hs i x D ys _ hD e hD' p
  · have e : i = xs.length := by omega
    subst e
    exact .inl ⟨w.stops H' q, hd D ys H' hD hD' p⟩
end
def spNoC : Sp := fun vs _ _ _ => vs.length = 4 ∧ False
abbrev s__can_stand : Stmt := top 33
theorem sc__can_stand : FnScope ["order", "first", "second", "share"] ["order", "first", "second", "share"] (defScope s__can_stand) := ⟨rfl, rfl, rfl, by decide +kernel, rfl, by decide +kernel, by decide +kernel⟩
theorem ok__can_stand {P : Program} {w : World} {K : PySem.W.Frag} {mg : Str → Option Value} {base : Heap} {f : Addr} {fd : FuncData} (F : L2.Fun K "_can_stand" "_can_stand" s__can_stand f fd) :
    FnOk P w K mg base (L2.CX P w) 5 f fd ["order", "first", "second", "share"] spNoC := by
  refine fnOk_mk F sc__can_stand (fun vs H Q E h => h.1) (fun cdv A outer s H vs Q E hr h => ?_)
  exact h.2.elim
def spAdds (CO CC : Addr) : Sp := fun vs H Q _ => vs.length = 3 ∧ ∃ (o c r : Addr) (N M : List Str) (R : Str → Str → Bool) (B : Nat) (p : Str → Rat), vs = [.ref o, .ref c, .ref r] ∧ IsO CO H o N R ∧ IsC CC H c B M p ∧ B ≤ 900 ∧ H r = some (.lst []) ∧ ∀ b H', Same H H' → Q (.bl b) H'
abbrev s__adds_up : Stmt := top 34
theorem sc__adds_up : FnScope ["order", "chance", "parts", "other", "part", "name"] ["order", "chance", "parts"] (defScope s__adds_up) := ⟨rfl, rfl, rfl, by decide +kernel, rfl, by decide +kernel, by decide +kernel⟩
theorem ok__adds_up {P : Program} {w : World} {K : PySem.W.Frag} {mg : Str → Option Value} {base : Heap} {CC CO CR : Addr} {f : Addr} {fd : FuncData} (F : L2.Fun K "_adds_up" "_adds_up" s__adds_up f fd)
    (C_b_all : mg "all" = none)
    (C_c_Chance : ClO K CC)
    (C_c_Order : ClO K CO)
    (C_c_Ratio : ClO K CR)
    (C_f_total : Cal P w K mg base "total" 11 (spTotG K CR))
    (C_it_Order : ItO P w K mg base CO 1 (spOIterT CO))
    (C_m_Chance_share : CalM P w K mg base CC "share" 10 (spShare K CR CC))
    (C_na_Order__above : NoAttr K CO "_above")
    (C_na_Order_names : NoAttr K CO "names")
    (C_na_Ratio_bottom : NoAttr K CR "bottom")
    (C_na_Ratio_top : NoAttr K CR "top")
    (C_o_Ratio_eq : CalO P w K mg base CR "__eq__" 1 (spREq K CR)) :
    FnOk P w K mg base (L2.CX P w) 14 f fd ["order", "chance", "parts"] (spAdds CO CC) := by
  refine fnOk_mk F sc__adds_up (fun vs H Q E h => h.1) (fun cdv A outer s H vs Q E hr h => ?_)
  obtain ⟨_, o, c, r, N, M, R, B, p, rfl, ho, hc, hB, hr0, k⟩ := h
  obtain ⟨_, _, _, _, _, _, h8, _⟩ := id ho
  obtain ⟨t, ow⟩ := own_io (K := K) ho
  refine ⟨_, pss_one (ps_ret (pe_callB (k_all rfl (K := K) rfl) (by rfl) C_b_all (by decide +kernel) (pa_cons (pe_lc (own := [("name", 5)]) (by rfl) sc__adds_up.nd (pi_ownT C_it_Order hr (pv 0)) (blkOk_by (N := ["order", "chance", "parts", "other", "part", "name"]) (sc := defScope s__adds_up) (by decide +kernel)) (fun _ _ _ _ _ => pg_name (i := 5) sc__adds_up.nd rfl (Or.inr rfl)) (fun _ _ _ _ _ => pts_nil) (fun _ _ _ _ _ => pe_cmpR (k_eqO (K := K) rfl C_o_Ratio_eq hr) (z_callC C_f_total hr passN (pa_cons (pe_lc (own := [("other", 3), ("part", 4)]) (by rfl) sc__adds_up.nd (pi_any (K := K) rfl (pv 2)) (blkOk_by (N := ["order", "chance", "parts", "other", "part", "name"]) (by rfl)) (fun _ _ _ _ _ => k_tup (K := K) (n := 2) rfl rfl (pgs_cons (pg_name (i := 3) sc__adds_up.nd rfl (Or.inl rfl)) (pgs_cons (pg_name (i := 4) sc__adds_up.nd rfl (Or.inl rfl)) pgs_nil))) (fun _ _ _ _ _ => pts_one (pt_cmpR op_eq (pv 3) (pv 5) (nomark _))) (fun _ _ _ _ _ => pv 4)) pa_nil)) (z_methC (pv 1) C_c_Chance.toCls C_m_Chance_share hr passN (pa_cons (pv 5) pa_nil)) (nomark _))) pa_nil))), ?_⟩
  try dsimp only [cxOf]
  walk_at "rd"
  refine i_lcOT0 ?_
  walk_at "rd"
  refine i_lcOT (fun i ys H1 => Same H H1 ∧ ∃ bs : List Bool, ys = bs.map V.bl ∧ bs.length = i) (ow _ (.refl _)) (fun D H' hD s e ho => ⟨s, [], rfl, rfl⟩) (fun i ys H' p => (ow _ p.1).2.1) ?_ ?_
  · rintro i x D ys H1 hD hx eD ⟨s1, bs, rfl, hbs⟩
    obtain ⟨z, hz, rfl⟩ := strs_at hx
    have hi := (List.getElem?_eq_some_iff.mp hz).1
    walk_at "rd"
    refine ⟨rfl, ?_⟩
    walk_at "rd"
    refine i_lcA (H0 := H1) (fun j ys H2 => Same H1 H2 ∧ ys = []) (.l (s1 _ _ hr0)) (Same.refl _) (fun D' H' hD' s e ho => ⟨s, rfl⟩) (fun j ys H2 p => p.1) (fun j x D' ys H2 _ hx _ _ => by cases hx) ?_
    rintro D2 ys2 H2 hD2 eD2 ⟨s2, rfl⟩
    walk_at "rd"
    refine ⟨rfl, D2, [], rfl, .of eD2, fun x hx => (by cases hx), fun x hx => (by cases hx), fun i => ?_, fun c3 H3 hc3 s3 r3 => ?_⟩
    · rw [List.take_nil]
      exact (Gs.zero (D := 1) (B := 1)).bd (by decide) (by decide +kernel) (by decide +kernel)
    walk_at "rd"
    have hc4 := (hc.mono s1).mono (s2.trans s3)
    obtain ⟨dxc, dc, oc, wc, Sc, gc, _⟩ := id hc4
    refine i_meth1 gc (cf_no (by decide +kernel) (by decide +kernel)) ?_
    walk_at "rd"
    refine ⟨rfl, c, z, B, M, p, rfl, hc4, hB, fun c4 H4 hc4' s4 r4 => ?_⟩
    walk_at "rd"
    refine i_Req (r3.mono s4) r4 fun H5 s5 => ?_
    have t15 := ((s2.trans s3).trans s4).trans s5
    refine i_lcE (t15 _ _ eD) (by rw [List.length_map, hbs]; omega) fun H6 e6 o6 => ⟨fun b u e => by rw [o6 b (ne_of_none e hD)]; exact t15 _ _ (s1 _ _ e), bs ++ [_], by rw [List.map_append]; rfl, by rw [List.length_append, hbs]; rfl⟩
  · rintro D ys H1 hD eD ⟨s1, bs, rfl, hbs⟩
    walk_at "rd"
    refine i_all eD ?_
    exact k _ H1 s1
def spIsPT (K : PySem.W.Frag) (CO CC CU : Addr) : Sp := fun vs H Q E => vs.length = 4 ∧ ∃ (o l h r : Addr) (N M M' : List Str) (R : Str → Str → Bool) (B B' : Nat) (p q : Str → Rat), vs = [.ref o, .ref l, .ref h, .ref r] ∧ IsO CO H o N R ∧ IsC CC H l B M p ∧ IsC CC H h B' M' q ∧ B ≤ 900 ∧ B' ≤ 900 ∧ H r = some (.lst []) ∧
  (∀ z, miss N M = some z → EName CU z H E) ∧ (miss N M = none → (∀ z, miss N M' = some z → EName CU z H E) ∧ (miss N M' = none → ∀ b H', Same H H' → Q (.bl b) H'))
abbrev s_is_pair_table : Stmt := top 35
theorem sc_is_pair_table : FnScope ["order", "low", "high", "rows", "first", "second", "share", "firsts", "_", "seconds"] ["order", "low", "high", "rows"] (defScope s_is_pair_table) := ⟨rfl, rfl, rfl, by decide +kernel, rfl, by decide +kernel, by decide +kernel⟩
theorem ok_is_pair_table {P : Program} {w : World} {K : PySem.W.Frag} {mg : Str → Option Value} {base : Heap} {CC CO CU : Addr} {f : Addr} {fd : FuncData} (F : L2.Fun K "is_pair_table" "is_pair_table" s_is_pair_table f fd)
    (C_b_all : mg "all" = none)
    (C_f_adds_up : Cal P w K mg base "_adds_up" 14 (spAdds CO CC))
    (C_f_can_stand : Cal P w K mg base "_can_stand" 5 spNoC)
    (C_f_check_among__C : Cal P w K mg base "check_among" 3 (spAmC CO CC CU)) :
    FnOk P w K mg base (L2.CX P w) 15 f fd ["order", "low", "high", "rows"] (spIsPT K CO CC CU) := by
  refine fnOk_mk F sc_is_pair_table (fun vs H Q E h => h.1) (fun cdv A outer s H vs Q E hr h => ?_)
  obtain ⟨_, o, l, hh, r, N, M, M', R, B, B', p, q, rfl, ho, hl, hq, hB, hB', hr0, k1, k2⟩ := h
  refine ⟨_, pss_cons (ps_expr (z_callC C_f_check_among__C hr (fun σ => passAt (takes_of rfl rfl rfl rfl) σ) (pa_cons (pv 0) (pa_cons (pv 1) pa_nil))))
    (pss_cons (ps_expr (z_callC C_f_check_among__C hr (fun σ => passAt (takes_of rfl rfl rfl rfl) σ) (pa_cons (pv 0) (pa_cons (pv 2) pa_nil))))
    (pss_cons (ps_if (pt_not (pt_val (pe_callB (k_all rfl (K := K) rfl) (by rfl) C_b_all (by decide +kernel) (pa_cons (pe_lc (own := [("first", 4), ("second", 5), ("share", 6)]) (by rfl) sc_is_pair_table.nd (pi_any (K := K) rfl (pv 3)) (blkOk_by (N := ["order", "low", "high", "rows", "first", "second", "share", "firsts", "_", "seconds"]) (sc := defScope s_is_pair_table) (by decide +kernel)) (fun _ _ _ _ _ => k_tup (K := K) (n := 3) rfl rfl (pgs_cons (pg_name (i := 4) sc_is_pair_table.nd rfl (Or.inl rfl)) (pgs_cons (pg_name (i := 5) sc_is_pair_table.nd rfl (Or.inl rfl)) (pgs_cons (pg_name (i := 6) sc_is_pair_table.nd rfl (Or.inl rfl)) pgs_nil)))) (fun _ _ _ _ _ => pts_nil) (fun _ _ _ _ _ => z_callC C_f_can_stand hr passN (pa_cons (pv 0) (pa_cons (pv 4) (pa_cons (pv 5) (pa_cons (pv 6) pa_nil)))))) pa_nil)))) (pss_one (ps_ret pe_bl)) (pss_nil))
    (pss_cons (ps_setLc (i := 7) (own := [("first", 4), ("_", 8), ("share", 6)]) (by rfl) sc_is_pair_table.nd rfl rfl (sw_true rfl rfl rfl (by decide +kernel)) (pi_any (K := K) rfl (pv 3)) (blkOk_by (N := ["order", "low", "high", "rows", "first", "second", "share", "firsts", "_", "seconds"]) (sc := defScope s_is_pair_table) (by decide +kernel)) (fun _ _ _ _ _ => k_tup (K := K) (n := 3) rfl rfl (pgs_cons (pg_name (i := 4) sc_is_pair_table.nd rfl (Or.inl rfl)) (pgs_cons (pg_name (i := 8) sc_is_pair_table.nd rfl (Or.inl rfl)) (pgs_cons (pg_name (i := 6) sc_is_pair_table.nd rfl (Or.inl rfl)) pgs_nil)))) (fun _ _ _ _ _ => pts_nil) (fun _ _ _ _ _ => pe_tup (pa_cons (pv 4) (pa_cons (pv 6) pa_nil))))
    (pss_cons (ps_setLc (i := 9) (own := [("_", 8), ("second", 5), ("share", 6)]) (by rfl) sc_is_pair_table.nd rfl rfl (sw_true rfl rfl rfl (by decide +kernel)) (pi_any (K := K) rfl (pv 3)) (blkOk_by (N := ["order", "low", "high", "rows", "first", "second", "share", "firsts", "_", "seconds"]) (sc := defScope s_is_pair_table) (by decide +kernel)) (fun _ _ _ _ _ => k_tup (K := K) (n := 3) rfl rfl (pgs_cons (pg_name (i := 8) sc_is_pair_table.nd rfl (Or.inl rfl)) (pgs_cons (pg_name (i := 5) sc_is_pair_table.nd rfl (Or.inl rfl)) (pgs_cons (pg_name (i := 6) sc_is_pair_table.nd rfl (Or.inl rfl)) pgs_nil)))) (fun _ _ _ _ _ => pts_nil) (fun _ _ _ _ _ => pe_tup (pa_cons (pv 5) (pa_cons (pv 6) pa_nil))))
    (pss_one (ps_ret (pe_and (z_callC C_f_adds_up hr passN (pa_cons (pv 0) (pa_cons (pv 1) (pa_cons (pv 7) pa_nil)))) (pe_one (z_callC C_f_adds_up hr passN (pa_cons (pv 0) (pa_cons (pv 2) (pa_cons (pv 9) pa_nil)))))))))))), ?_⟩
  try dsimp only [cxOf]
  walk_at "rd"
  refine ⟨rfl, o, l, N, M, R, B, p, rfl, ho, hl, k1, fun m1 H1 s1 => ?_⟩
  obtain ⟨k3, k4⟩ := k2 m1
  walk_at "rd"
  refine ⟨rfl, o, hh, N, M', R, B', q, rfl, ho.mono s1, hq.mono s1, fun z hz d H' s e => k3 z hz d H' (s1.trans s) e, fun m2 H2 s2 => ?_⟩
  have k5 := k4 m2
  have s02 := s1.trans s2
  walk_at "rd"
  refine i_lcA (H0 := H2) (fun j ys H3 => Same H2 H3 ∧ ys = []) (.l (s02 _ _ hr0)) (Same.refl _) (fun D' H' hD' s e ho => ⟨s, rfl⟩) (fun j ys H2 p => p.1) (fun j x D' ys H2 _ hx _ _ => by cases hx) ?_
  rintro D3 ys3 H3 hD3 eD3 ⟨s3, rfl⟩
  walk_at "rd"
  refine i_all (bs := []) eD3 ?_
  refine ⟨true, rfl, ?_⟩
  walk_at "rd"
  refine i_lcA (H0 := H3) (fun j ys H4 => Same H3 H4 ∧ ys = []) (.l (s3 _ _ (s02 _ _ hr0))) (Same.refl _) (fun D' H' hD' s e ho => ⟨s, rfl⟩) (fun j ys H2 p => p.1) (fun j x D' ys H2 _ hx _ _ => by cases hx) ?_
  rintro D4 ys4 H4 hD4 eD4 ⟨s4, rfl⟩
  walk_at "rd"
  refine i_lcA (H0 := H4) (fun j ys H5 => Same H4 H5 ∧ ys = []) (.l (s4 _ _ (s3 _ _ (s02 _ _ hr0)))) (Same.refl _) (fun D' H' hD' s e ho => ⟨s, rfl⟩) (fun j ys H2 p => p.1) (fun j x D' ys H2 _ hx _ _ => by cases hx) ?_
  rintro D5 ys5 H5 hD5 eD5 ⟨s5, rfl⟩
  walk_at "rd"
  have s05 := ((s02.trans s3).trans s4).trans s5
  refine ⟨rfl, o, l, D4, N, M, R, B, p, rfl, ho.mono s05, hl.mono s05, hB, s5 _ _ eD4, fun b H6 s6 => ⟨b, rfl, ?_⟩⟩
  cases b
  · walk_at "rd"
    exact k5 _ H6 (s05.trans s6)
  · walk_at "rd"
    refine ⟨rfl, o, hh, D5, N, M', R, B', q, rfl, ho.mono (s05.trans s6), hq.mono (s05.trans s6), hB', s6 _ _ eD5, fun b H7 s7 => ?_⟩
    exact k5 _ H7 ((s05.trans s6).trans s7)
open _root_.ZB
def dueU (N M M' : List Str) : Option Str := match miss N M with
  | some z => some z
  | none => miss N M'
def sV : Option Str → V
  | none => .non
  | some z => .str z
def spTold (CO CC : Addr) (TT : List (Addr × Str)) : Sp := fun vs H Q _ => vs.length = 4 ∧ ∃ (o l h : Addr) (m : Nat) (N M M' : List Str) (E0 : List (Str × Str)) (B B' : Nat) (p q : Str → Rat), vs = [.int m, .ref o, .ref l, .ref h] ∧ IsOE CO H o N E0 ∧ IsC CC H l B M p ∧ IsC CC H h B' M' q ∧ B ≤ 400 ∧ B' ≤ 400 ∧ LamX.Tabs TT H ∧
  ∀ H', LamX.ExtN H H' → LamX.Tabs TT H' → Q (sV (dueU N M M')) H'
abbrev s__law_told : Stmt := top 57
theorem sc__law_told : FnScope ["_law_which", "_law_order", "_law_low", "_law_high", "e"] ["_law_which", "_law_order", "_law_low", "_law_high"] (defScope s__law_told) := ⟨rfl, rfl, rfl, by decide +kernel, rfl, by decide +kernel, by decide +kernel⟩
theorem ok__law_told {P : Program} {w : World} {K : PySem.W.Frag} {mg : Str → Option Value} {base : Heap} {TT : List (Addr × Str)} {CC CO CR CU : Addr} {f : Addr} {fd : FuncData} (F : L2.Fun K "_law_told" "_law_told" s__law_told f fd)
    (C_f_barring : Cal P w K mg base "barring" 12 (spBar K CO CR CC CU TT))
    (C_f_is_pair_table : Cal P w K mg base "is_pair_table" 15 (spIsPT K CO CC CU))
    (C_f_lower : Cal P w K mg base "lower" 13 (spLower K CO CR CC CU TT))
    (C_f_pair_table : Cal P w K mg base "pair_table" 14 (spPair K CO CC CU TT))
    (C_gUnknownName : mg "UnknownName" = some (.ref CU))
    (C_xf_UnknownName : XfC K CU)
    (C_xm_UnknownName : PySem.W.exmOne K (.ref CU) (.ref CU) = some true)
    (C_xn_UnknownName_name : PySem.W.findIn K (.ref CU) "name" = some none) :
    FnOk P w K mg base (L2.CX P w) 16 f fd ["_law_which", "_law_order", "_law_low", "_law_high"] (spTold CO CC TT) := by
  refine fnOk_mk F sc__law_told (fun vs H Q E h => h.1) (fun cdv A outer s H vs Q E hr h => ?_)
  obtain ⟨_, o, l, hh, m, N, M, M', E0, B, B', p, q, rfl, io, hl, hq, hB, hB', hT, k⟩ := h
  refine ⟨_, pss_cons (ps_try_as (i := 4) rfl rfl sc__law_told.nd rfl rfl ⟨rfl, by decide, .inl C_gUnknownName⟩ takes0 (fun W pn xe tk po => pss_one (ps_if (pt_cmpR op_eq (pv 0) pe_int (nomark _)) (pss_one (ps_expr (z_callC C_f_lower hr (fun σ => passAt tk σ) (pa_cons (pv 1) (pa_cons (pv 2) (pa_cons (pv 3) pa_nil)))))) (pss_one (ps_if (pt_cmpR op_eq (pv 0) pe_int (nomark _)) (pss_one (ps_expr (z_callC C_f_barring hr (fun σ => passAt tk σ) (pa_cons (pv 1) (pa_cons (pv 2) (pa_cons (pv 3) pa_nil)))))) (pss_one (ps_if (pt_cmpR op_eq (pv 0) pe_int (nomark _)) (pss_one (ps_expr (z_callC C_f_pair_table hr (fun σ => passAt tk σ) (pa_cons (pv 1) (pa_cons (pv 2) (pa_cons (pv 3) pa_nil)))))) (pss_one (ps_expr (z_callC C_f_is_pair_table hr (fun σ => passAt tk σ) (pa_cons (pv 1) (pa_cons (pv 2) (pa_cons (pv 3) (pa_cons (pe_lst pa_nil) pa_nil))))))))))))) (fun a oe cls d pn hz hf => pss_one (ps_ret (pe_xf C_xf_UnknownName C_xn_UnknownName_name hz hf (pv 4)))))
    (pss_one (ps_ret pe_non)), ?_⟩
  try dsimp only [cxOf]
  walk_at "rd"
  have k1 : ∀ z, miss N M = some z → ∀ H', LamX.ExtN H H' → LamX.Tabs TT H' → Q (.str z) H' := fun z hz H' x T => by
    have := k H' x T
    unfold dueU at this
    rw [hz] at this
    exact this
  have k2 : miss N M = none → ∀ z, miss N M' = some z → ∀ H', LamX.ExtN H H' → LamX.Tabs TT H' → Q (.str z) H' := fun h0 z hz H' x T => by
    have := k H' x T
    unfold dueU at this
    rw [h0] at this
    have := this
    show Q (sV (some z)) H'
    rw [← hz]
    exact this
  have k3 : miss N M = none → miss N M' = none → ∀ H', LamX.ExtN H H' → LamX.Tabs TT H' → Q .non H' := fun h0 h1 H' x T => by
    have := k H' x T
    unfold dueU at this
    rw [h0] at this
    have := this
    show Q (sV none) H'
    rw [← h1]
    exact this
  refine i_dec (fun g => ?_) (fun g => ?_)
  · walk_at "rd"
    refine ⟨rfl, o, l, hh, N, M, M', E0, B, B', p, q, rfl, io, hl, hq, by omega, by omega, hT, fun z hz d H' s e => ?_, fun m1 => ⟨fun z hz d H' s e => ?_, fun m2 H' x T => ?_⟩⟩
    · refine i_was C_xm_UnknownName fun a ha => ?_
      walk_at "rd"
      refine i_xf1 e ?_
      exact k1 z hz H' (extN_of s) (hT.ext s)
    · refine i_was C_xm_UnknownName fun a ha => ?_
      walk_at "rd"
      refine i_xf1 e ?_
      exact k2 m1 z hz H' (extN_of s) (hT.ext s)
    · walk_at "rd"
      exact k3 m1 m2 H' x T
  · walk_at "rd"
    refine i_dec (fun g => ?_) (fun g => ?_)
    · walk_at "rd"
      refine ⟨rfl, o, l, hh, N, M, M', E0, B, B', p, q, rfl, io, hl, hq, by omega, by omega, hT, fun z hz d H' s e => ?_, fun m1 => ⟨fun z hz d H' s e => ?_, fun m2 H' x1 x T v => ?_⟩⟩
      · refine i_was C_xm_UnknownName fun a ha => ?_
        walk_at "rd"
        refine i_xf1 e ?_
        exact k1 z hz H' (extN_of s) (hT.ext s)
      · refine i_was C_xm_UnknownName fun a ha => ?_
        walk_at "rd"
        refine i_xf1 e ?_
        exact k2 m1 z hz H' (extN_of s) (hT.ext s)
      · walk_at "rd"
        exact k3 m1 m2 H' x T
    · walk_at "rd"
      refine i_dec (fun g => ?_) (fun g => ?_)
      · walk_at "rd"
        refine ⟨rfl, o, l, hh, N, M, M', E0, B, B', p, q, rfl, io, hl, hq, hB, hB', hT, fun z hz d H' s e => ?_, fun m1 => ⟨fun z hz d H' s e => ?_, fun m2 H' x1 x T => ?_⟩⟩
        · refine i_was C_xm_UnknownName fun a ha => ?_
          walk_at "rd"
          refine i_xf1 e ?_
          exact k1 z hz H' (extN_of s) (hT.ext s)
        · refine i_was C_xm_UnknownName fun a ha => ?_
          walk_at "rd"
          refine i_xf1 e ?_
          exact k2 m1 z hz H' (extN_of s) (hT.ext s)
        · walk_at "rd"
          exact k3 m1 m2 H' x T
      · walk_at "rd"
        refine i_lst1 (Nat.le_of_ble_eq_true rfl) fun r1 H1 hr1 s1 e1 o1 => ?_
        walk_at "rd"
        refine ⟨rfl, o, l, hh, r1, N, M, M', _, B, B', p, q, rfl, io.io.mono s1, hl.mono s1, hq.mono s1, by omega, by omega, e1, fun z hz d H' s e => ?_, fun m1 => ⟨fun z hz d H' s e => ?_, fun m2 b H' s => ?_⟩⟩
        · refine i_was C_xm_UnknownName fun a ha => ?_
          walk_at "rd"
          refine i_xf1 e ?_
          exact k1 z hz H' (extN_of (s1.trans s)) (hT.ext (s1.trans s))
        · refine i_was C_xm_UnknownName fun a ha => ?_
          walk_at "rd"
          refine i_xf1 e ?_
          exact k2 m1 z hz H' (extN_of (s1.trans s)) (hT.ext (s1.trans s))
        · walk_at "rd"
          exact k3 m1 m2 H' (extN_of (s1.trans s)) (hT.ext (s1.trans s))
open _root_.ZB
theorem miss_posN {names ks : List Str} {u : Str → Int} : miss names (posN ks u) = (((srt ks).filter fun z => decide (0 < u z) && !decide (z ∈ names))).head? := by
  unfold miss posN
  rw [List.find?_filter, List.head?_filter]
  congr 1
  funext z
  rw [Bool.eq_iff_iff]
  simp
def spDue (K : PySem.W.Frag) : Sp := fun vs H Q _ => vs.length = 3 ∧ ∃ (q d1 d2 : Addr) (names zs ys : List Str) (w v : Str → Int), vs = [.ref q, .ref d1, .ref d2] ∧ H q = some (.lst (names.map V.str)) ∧ H d1 = some (.dK (dI zs w)) ∧ H d2 = some (.dK (dI ys v)) ∧ zs.length ≤ 20 ∧ ys.length ≤ 20 ∧ (∀ z ∈ zs, nameB z = true) ∧ (∀ z ∈ ys, nameB z = true) ∧
  ∀ H', Same H H' → Q (sV (dueU names (posN zs w) (posN ys v))) H'
abbrev s__law_due : Stmt := top 58
theorem sc__law_due : FnScope ["_law_names_here", "_law_low", "_law_high", "_law_weights_here", "_law_wrong", "_law_name"] ["_law_names_here", "_law_low", "_law_high"] (defScope s__law_due) := ⟨rfl, rfl, rfl, by decide +kernel, rfl, by decide +kernel, by decide +kernel⟩
theorem ok__law_due {P : Program} {w : World} {K : PySem.W.Frag} {mg : Str → Option Value} {base : Heap} {f : Addr} {fd : FuncData} (F : L2.Fun K "_law_due" "_law_due" s__law_due f fd)
    (C_b_list : mg "list" = none)
    (C_b_sorted : mg "sorted" = none) :
    FnOk P w K mg base (L2.CX P w) 2 f fd ["_law_names_here", "_law_low", "_law_high"] (spDue K) := by
  refine fnOk_mk F sc__law_due (fun vs H Q E h => h.1) (fun cdv A outer s H vs Q E hr h => ?_)
  obtain ⟨_, q, d1, d2, names, zs, ys, w, v, rfl, hq, h1, h2, lz, ly, hnz, hny, k⟩ := h
  refine ⟨_, pss_cons (ps_for (passes_of rfl) rfl (pi_any (K := K) rfl (pe_lst (pa_cons (pv 1) (pa_cons (pv 2) pa_nil)))) (pg_name (i := 3) sc__law_due.nd rfl (Or.inr rfl)) (pss_cons (ps_setLc (i := 4) (own := [("_law_name", 5)]) (by rfl) sc__law_due.nd rfl rfl (sw_true rfl rfl rfl (by decide +kernel)) (pi_any (K := K) rfl (pe_callB (k_sort (K := K) rfl) (by rfl) C_b_sorted (by decide +kernel) (pa_cons (pe_callTy (k_listD rfl) (by rfl) C_b_list (by decide +kernel) (pa_cons (pv 3) pa_nil)) pa_nil))) (blkOk_by (N := ["_law_names_here", "_law_low", "_law_high", "_law_weights_here", "_law_wrong", "_law_name"]) (sc := defScope s__law_due) (by decide +kernel)) (fun _ _ _ _ _ => pg_name (i := 5) sc__law_due.nd rfl (Or.inl rfl)) (fun _ _ _ _ _ => pts_one (PW.pt (pw_and (pt_cmpR op_gt (pe_dget (hu_of hr) (pv 3) (pv 5) (fun _ _ => rfl)) pe_int (nomark _)) (pw_and1 (pt_cmpR (k_notInS (K := K) rfl) (pv 5) (pv 0) rfl))))) (fun _ _ _ _ _ => pv 5))
    (pss_one (ps_if (pt_cmpR (k_neD (K := K) rfl hr.units) (pv 4) (pe_lst pa_nil) (nomark _)) (pss_one (ps_ret (pe_ix ix_list (pv 4) pe_int (fun _ _ => rfl)))) (pss_nil)))))
    (pss_one (ps_ret pe_non)), ?_⟩
  try dsimp only [cxOf]
  walk_at "rd"
  refine i_lst1 (by show 2 ≤ 100000; decide) fun l0 H1 hl0 s1 e1 o1 => ?_
  walk_at "rd"
  refine i_forA (H0 := H1) (fun i σ H2 => (∃ x3 x4 x5, σ = [some (.ref q), some (.ref d1), some (.ref d2), x3, x4, x5]) ∧ Same H1 H2 ∧ (0 < i → miss names (posN zs w) = none) ∧ (1 < i → miss names (posN ys v) = none)) (.l e1) ⟨⟨_, _, _, rfl⟩, Same.refl _, fun h => absurd h (by decide), fun h => absurd h (by decide)⟩ (fun i σ H2 p => p.2.1) ?_ ?_
  · rintro i x σ H2 hx ⟨⟨x3, x4, x5, rfl⟩, s2, m1, m2⟩
    obtain ⟨dd, ks, u, rfl, edd, lk, hnk, hret, hnext⟩ : ∃ (dd : Addr) (ks : List Str) (u : Str → Int), x = .ref dd ∧ H dd = some (.dK (dI ks u)) ∧ ks.length ≤ 20 ∧ (∀ z ∈ ks, nameB z = true) ∧ (∀ z, miss names (posN ks u) = some z → sV (dueU names (posN zs w) (posN ys v)) = .str z) ∧ (miss names (posN ks u) = none → (0 < i + 1 → miss names (posN zs w) = none) ∧ (1 < i + 1 → miss names (posN ys v) = none)) := by
      match i, hx with
      | 0, hx => exact ⟨d1, zs, w, (Option.some.inj hx).symm, h1, lz, hnz, fun z hz => by unfold dueU; rw [hz]; rfl, fun h => ⟨fun _ => h, fun h => absurd h (by decide)⟩⟩
      | 1, hx => exact ⟨d2, ys, v, (Option.some.inj hx).symm, h2, ly, hny, fun z hz => by
          have e := m1 (by decide)
          have : dueU names (posN zs w) (posN ys v) = some z := by
            unfold dueU
            rw [e]
            exact hz
          rw [this]
          rfl, fun h => ⟨fun _ => m1 (by decide), fun _ => h⟩⟩
    walk_at "rd"
    have t2 := s1.trans s2
    refine ⟨dd, _, rfl, t2 _ _ edd, fun q4 hq4 => ?_⟩
    have ek : ((dI ks u).map fun kv => kV kv.1) = ks.map V.str := by unfold dI dF; rw [List.map_map]; rfl
    rw [ek]
    have s4 : Same H2 (upd H2 q4 (.lst (ks.map V.str))) := same_new hq4
    have g4 : upd H2 q4 (.lst (ks.map V.str)) q4 = some (.lst (ks.map V.str)) := upd_same
    generalize upd H2 q4 (.lst (ks.map V.str)) = H4 at *
    walk_at "rd"
    refine i_sort (.l g4) (by omega) fun q5 H5 hq5 s5 o5 g5 => ?_
    have t5 := (t2.trans s4).trans s5
    have lks : (srt ks).length = ks.length := (srt_perm ks).length_eq
    refine i_lcA (H0 := H5) (fun j ys H' => Same H5 H' ∧ ys = (((srt ks).take j).filter fun z => decide (0 < u z) && !decide (z ∈ names)).map V.str) (.l g5) (Same.refl _) (fun D H' hD sm e ho => ⟨sm, rfl⟩) (fun i ys H' p => p.1) ?_ ?_
    · rintro j x D ys6 H6 hD hx6 eD ⟨s6, rfl⟩
      obtain ⟨z, hzj, rfl⟩ := strs_at hx6
      have zz : z ∈ ks := mem_srt.mp (List.mem_of_getElem? hzj)
      refine ⟨rfl, ?_⟩
      walk_at "rd"
      have t6 := t5.trans s6
      have skip : (decide (0 < u z) && !decide (z ∈ names)) = false → LcS D (fun j ys H' => Same H5 H' ∧ ys = (((srt ks).take j).filter fun z => decide (0 < u z) && !decide (z ∈ names)).map V.str) (j + 1) H6 := fun hf => by
        refine ⟨_, eD, s6, ?_⟩
        rw [take_snoc hzj, List.filter_append, List.filter_cons_of_neg (p := fun z => decide (0 < u z) && !decide (z ∈ names)) (by rw [hf]; decide), List.filter_nil, List.append_nil]
      refine i_dget (t6 _ _ edd) (v := .int (u z)) (by rw [valV_dF, if_pos zz]) ?_
      walk_at "rd"
      refine i_dec (fun g => ?_) (fun g => ?_)
      · walk_at "rd"
        refine i_notInS (.l (t6 _ _ hq)) ?_
        walk_at "rd"
        refine i_ndec (fun g2 => ?_) (fun g2 => ?_)
        · walk_at "rd"
          refine i_lcE eD ?_ fun H7 e7 o7 => ⟨fun b o eb => ?_, ?_⟩
          · have hh := List.length_filter_le (fun z => decide (0 < u z) && !decide (z ∈ names)) ((srt ks).take j)
            rw [List.length_take] at hh
            rw [List.length_map]
            omega
          · rw [o7 b (ne_of_none eb hD)]
            exact s6 _ _ eb
          · rw [take_snoc hzj, List.filter_append, List.filter_cons_of_pos (p := fun z => decide (0 < u z) && !decide (z ∈ names)) (by simp [g, g2]), List.filter_nil, List.map_append]
            rfl
        · exact skip (by simp [g2])
      · exact skip (by simp [g])
    rintro D ys6 H6 hD eD ⟨s6, rfl⟩
    rw [List.length_map, List.take_length] at eD
    have mp := miss_posN (names := names) (ks := ks) (u := u)
    have okF : ∀ z ∈ (srt ks).filter (fun z => decide (0 < u z) && !decide (z ∈ names)), nameB z = true := fun z hz => hnk z (mem_srt.mp (List.mem_filter.mp hz).1)
    generalize (srt ks).filter (fun z => decide (0 < u z) && !decide (z ∈ names)) = wr at *
    walk_at "rd"
    refine i_lst1 (Nat.le_of_ble_eq_true rfl) fun l7 H7 hl7 s7 e7 o7 => ?_
    refine ⟨.list (wr.map PyData.str), .list (([] : List Str).map PyData.str), .lst (SqL.of (s7 _ _ eD)) (dp_strs _), .lst (SqL.of e7) .nil, shaped_lstS okF, shaped_lstS fun z hz => absurd hz (by simp), ?_⟩
    rw [eqv_lstS]
    refine ⟨_, rfl, ?_⟩
    refine i_ndec (fun g => ?_) (fun g => ?_)
    · walk_at "rd"
      cases wr with
      | nil => exact absurd rfl g
      | cons z wr =>
        refine i_ixL (k := 0) (v := .str z) (.of (s7 _ _ eD)) rfl ?_
        have := k H7 (((t5.trans s6).trans s7))
        rw [hret z mp] at this
        exact this
    · walk_at "rd"
      rw [g] at mp
      obtain ⟨n1, n2⟩ := hnext mp
      exact ⟨⟨_, _, _, rfl⟩, (((s2.trans s4).trans s5).trans s6).trans s7, n1, n2⟩
  · rintro σ H2 ⟨⟨x3, x4, x5, rfl⟩, s2, m1, m2⟩
    walk_at "rd"
    have := k H2 (s1.trans s2)
    have e : dueU names (posN zs w) (posN ys v) = none := by
      unfold dueU
      rw [m1 (by show 0 < 2; decide)]
      exact m2 (by show 1 < 2; decide)
    rw [e] at this
    exact this
open _root_.ZB
theorem bad_no {zs : List Str} {w : Str → Int} (hn : ∀ z ∈ zs, nameB z = true) (h0 : ∀ z ∈ zs, 0 ≤ w z) : badW zs w = none := badW_none fun y hy => ⟨hn y (mem_srt.mp hy), h0 y (mem_srt.mp hy)⟩
theorem sum_pos {zs : List Str} {w : Str → Int} (h0 : ∀ z ∈ zs, 0 ≤ w z) (hp : ∃ z ∈ zs, 0 < w z) : 0 < (zs.map w).sum := by
  obtain ⟨z, hz, h⟩ := hp
  exact Int.lt_of_lt_of_le h (sum_ge h0 z hz)
theorem sum_le20 {zs : List Str} {w : Str → Int} {B : Int} (h : ∀ z ∈ zs, 0 ≤ w z ∧ w z ≤ B) (hl : zs.length ≤ 20) (hB : 0 ≤ B) : (zs.map w).sum ≤ 20 * B := by
  have := (isum_abs zs h).2
  have h2 : (zs.length : Int) * B ≤ 20 * B := Int.mul_le_mul_of_nonneg_right (by omega) hB
  omega
/-- the shares of weights -/
noncomputable def shr (zs : List Str) (w : Str → Int) : Str → Rat := fun z => if z ∈ zs then ((w z : Int) : Rat) / (((zs.map w).sum : Int) : Rat) else 0
/-- Chance(weights), where nothing is wrong -/
theorem i_newC {K : PySem.W.Frag} {CR CC CB CN CX d : Addr} {o : Obj} {zs : List Str} {w : Str → Int} {H : Hp} {Q : VK} {E : XK} {B : Int} (hd : H d = some (.frz o (.dK (dI zs w)))) (hnd : zs.Nodup) (hl : zs.length ≤ 20) (hn : ∀ z ∈ zs, nameB z = true) (hw : ∀ z ∈ zs, 0 ≤ w z ∧ w z ≤ B) (hB : 20 * B < 2 ^ 90) (h0 : 0 ≤ B) (hp : ∃ z ∈ zs, 0 < w z)
    (k : ∀ p H', H p = none → Same H H' → IsCf CC H H' p 90 (posN zs w) (shr zs w) → Q (.ref p) H') : rNew CC (spCInitG K CR CC CB CN CX) [.ref d] H Q E := by
  have hb := bad_no hn fun z hz => (hw z hz).1
  have sp := sum_pos (fun z hz => (hw z hz).1) hp
  have sl := sum_le20 hw hl h0
  refine i_newCGf (B := 90) hd hnd (by omega) (fun z hz => ⟨Nat.le_trans (nameB_len (hn z hz)) (by decide), nW (hn z hz), ?_⟩) (by omega) (fun z h => by rw [hb] at h; cases h) (fun z h => by rw [hb] at h; cases h) (fun _ h => by omega) fun _ _ p H' hp' s hc => k p H' hp' s hc
  have := hw z hz
  have e : (2 : Int) ^ 90 = ((2 ^ 90 : Nat) : Int) := by decide +kernel
  exact Nat.lt_of_lt_of_le (show (w z).natAbs < 2 ^ 90 by omega) (Nat.pow_le_pow_right (by decide) (by decide))
structure Wo (ks : List Str) (u : Str → Int) (n : Nat) : Prop where
  len : ks.length ≤ n
  nd : ks.Nodup
  nm : ∀ z ∈ ks, nameB z = true
  bd : ∀ z ∈ ks, 0 ≤ u z ∧ u z ≤ 100
  pos : ∃ z ∈ ks, z ∈ MENU ∧ 0 < u z
theorem Wo.put {ks : List Str} {u : Str → Int} {n : Nat} {z : Str} {c : Int} (h : Wo ks u n) (hz : nameB z = true) (hm : z ∉ MENU) (hc : 0 ≤ c ∧ c ≤ 100) : Wo (adK ks z) (upF u z c) (n + 1) where
  len := Nat.le_trans adK_len (Nat.succ_le_succ h.len)
  nd := adK_nodup h.nd
  nm := fun y hy => by
    rcases mem_adK.mp hy with hy | rfl
    · exact h.nm y hy
    · exact hz
  bd := fun y hy => by
    unfold upF
    by_cases e : y = z
    · rw [if_pos e]; exact hc
    · rw [if_neg e]
      exact h.bd y ((mem_adK.mp hy).resolve_right e)
  pos := by
    obtain ⟨y, hy, hM, hp⟩ := h.pos
    refine ⟨y, mem_adK.mpr (.inl hy), hM, ?_⟩
    unfold upF
    rw [if_neg fun e => hm (by rw [← e]; exact hM)]
    exact hp
theorem Wo.mono {ks : List Str} {u : Str → Int} {n m : Nat} (h : Wo ks u n) (l : n ≤ m) : Wo ks u m := ⟨Nat.le_trans h.len l, h.nd, h.nm, h.bd, h.pos⟩
theorem miss_congr {N M ks : List Str} (h : ∀ z, z ∈ N ↔ z ∈ M) : miss N ks = miss M ks := by
  unfold miss
  congr 1
  funext z
  rw [decide_eq_decide.mpr (h z)]
theorem dueU_congr {N M ks ls : List Str} (h : ∀ z, z ∈ N ↔ z ∈ M) : dueU N ks ls = dueU M ks ls := by
  unfold dueU
  rw [miss_congr h, miss_congr h]
theorem i_neSV {K : PySem.W.Frag} {x : Option Str} {H : Hp} {Q : VK} (hx : ∀ z, x = some z → PyData.strOk z = true) (h : Q (.bl false) H) : rNeD K (sV x) (sV x) H Q := by
  cases x with
  | none => exact ⟨.none, .none, .non, .non, (show Lay 0 PyData.none from ⟨rfl, Nat.le_refl _⟩).shaped (by decide), (show Lay 0 PyData.none from ⟨rfl, Nat.le_refl _⟩).shaped (by decide), h⟩
  | some z =>
    refine ⟨.str z, .str z, .str z, .str z, (lay_str (hx z rfl)).shaped (by decide), (lay_str (hx z rfl)).shaped (by decide), ?_⟩
    rw [eqv_refl (.str z) (lay_str (hx z rfl)).1]
    exact h
theorem odd_ok : ∀ z ∈ (["zz", "q", "aa", "zz9"] : List Str), nameB z = true ∧ z ∉ MENU := by
  have h : (["zz", "q", "aa", "zz9"] : List Str).all (fun z => nameB z && !decide (z ∈ MENU)) = true := by decide +kernel
  intro z hz
  have := List.all_eq_true.mp h z hz
  simpa using this
def spLaw (K : PySem.W.Frag) (TT : List (Addr × Str)) : Sp := fun vs H Q _ => vs.length = 1 ∧ ∃ (a : Addr) (ns : List Int), vs = [.ref a] ∧ SqL K H a (ns.map V.int) ∧ LamX.Tabs TT H ∧ ∀ H', Q (.bl true) H'
abbrev s_law : Stmt := top 59
theorem sc_law : FnScope ["_law_script", "_law_pool_here", "_law_names_here", "_law_above_here", "_law_order", "_law_low", "_law_high", "_law_cell_here", "_law_rows", "_law_count", "_law_more", "_law_chances", "_law_which"] ["_law_script"] (defScope s_law) := ⟨rfl, rfl, rfl, by decide +kernel, rfl, by decide +kernel, by decide +kernel⟩
theorem ok_law {P : Program} {w : World} {K : PySem.W.Frag} {mg : Str → Option Value} {base : Heap} {TT : List (Addr × Str)} {CB CC CD CG CN CO CR CU CX : Addr} {f : Addr} {fd : FuncData} (F : L2.Fun K "law" "law" s_law f fd)
    (C_b_dict : mg "dict" = none)
    (C_b_list : mg "list" = none)
    (C_b_range : mg "range" = none)
    (C_f_law_above : Cal P w K mg base "_law_above" 1 (spAbove K))
    (C_f_law_cell : Cal P w K mg base "_law_cell" 1 (spCell K))
    (C_f_law_covers : Cal P w K mg base "_law_covers" 1 (spLCov K))
    (C_f_law_due : Cal P w K mg base "_law_due" 2 (spDue K))
    (C_f_law_names : Cal P w K mg base "_law_names" 2 spNames)
    (C_f_law_pairs : Cal P w K mg base "_law_pairs" 2 spLPairs)
    (C_f_law_pool : Cal P w K mg base "_law_pool" 1 spPool)
    (C_f_law_raised : Cal P w K mg base "_law_raised" 2 (spRaised K))
    (C_f_law_take : Cal P w K mg base "_law_take" 1 spTake)
    (C_f_law_told : Cal P w K mg base "_law_told" 16 (spTold CO CC TT))
    (C_f_law_weights : Cal P w K mg base "_law_weights" 2 spWts)
    (C_i_Chance : CalI P w K mg base "Chance" CC 11 (spCInitG K CR CC CB CN CX))
    (C_i_Order : CalI P w K mg base "Order" CO 8 (spOInitG K CO CB CN CD CU CG)) :
    FnOk P w K mg base (L2.CX P w) 17 f fd ["_law_script"] (spLaw K TT) := by
  refine fnOk_mk F sc_law (fun vs H Q E h => h.1) (fun cdv A outer s H vs Q E hr h => ?_)
  obtain ⟨_, a, ns, rfl, ha, hT, k⟩ := h
  refine ⟨_, pss_cons (ps_set (i := 1) sc_law.nd rfl (Or.inl rfl) (z_callC C_f_law_pool hr passN (pa_cons (z_callC C_f_law_cell hr passN (pa_cons (pv 0) (pa_cons pe_int pa_nil))) pa_nil)))
    (pss_cons (ps_set (i := 2) sc_law.nd rfl (Or.inl rfl) (z_callC C_f_law_names hr passN (pa_cons (pv 1) (pa_cons (pe_op op_add pe_int (z_callC C_f_law_take hr passN (pa_cons (pv 1) (pa_cons pe_int pa_nil)))) pa_nil))))
    (pss_cons (ps_set (i := 3) sc_law.nd rfl (Or.inl rfl) (z_callC C_f_law_above hr passN (pa_cons (pv 2) (pa_cons (z_callC C_f_law_pairs hr passN (pa_cons (z_callC C_f_law_pool hr passN (pa_cons (z_callC C_f_law_cell hr passN (pa_cons (pv 0) (pa_cons pe_int pa_nil))) pa_nil)) (pa_cons (pv 2) pa_nil))) pa_nil))))
    (pss_cons (ps_set (i := 4) sc_law.nd rfl (Or.inl rfl) (z_makeC C_i_Order hr passN (pa_cons (pv 2) (pa_cons (z_callC C_f_law_covers hr passN (pa_cons (pv 2) (pa_cons (pv 3) pa_nil))) pa_nil))))
    (pss_cons (ps_set (i := 1) sc_law.nd rfl (Or.inl rfl) (z_callC C_f_law_pool hr passN (pa_cons (z_callC C_f_law_cell hr passN (pa_cons (pv 0) (pa_cons pe_int pa_nil))) pa_nil)))
    (pss_cons (ps_set (i := 5) sc_law.nd rfl (Or.inl rfl) (z_callC C_f_law_weights hr passN (pa_cons (pv 1) (pa_cons (pv 2) pa_nil))))
    (pss_cons (ps_frz (ps_set (i := 6) sc_law.nd rfl (Or.inl rfl) (z_callC C_f_law_weights hr passN (pa_cons (pv 1) (pa_cons (pv 2) pa_nil)))))
    (pss_cons (ps_if (pt_cmpR op_gt (z_callC C_f_law_take hr passN (pa_cons (pv 1) (pa_cons pe_int pa_nil))) pe_int (nomark _)) (pss_one (ps_set (i := 6) sc_law.nd rfl (Or.inl rfl) (z_callC C_f_law_raised hr passN (pa_cons (pv 1) (pa_cons (pv 5) (pa_cons (pv 3) pa_nil)))))) (pss_nil))
    (pss_cons (ps_frz (ps_for (passes_of rfl) rfl (pi_any (K := K) rfl (pe_op op_cat (pe_lst (pa_cons (z_callC C_f_law_cell hr passN (pa_cons (pv 0) (pa_cons pe_int pa_nil))) pa_nil)) (pe_callTy (k_listA (K := K) rfl) (by rfl) C_b_list (by decide +kernel) (pa_cons (pe_slice sl_list (pv 0) (po_some pe_int) (po_some pe_int)) pa_nil)))) (pg_name (i := 7) sc_law.nd rfl (Or.inl rfl)) (pss_cons (ps_set (i := 1) sc_law.nd rfl (Or.inl rfl) (z_callC C_f_law_pool hr passN (pa_cons (pv 7) pa_nil)))
    (pss_cons (ps_set (i := 8) sc_law.nd rfl (Or.inl rfl) (pe_lst (pa_cons (pe_callTy k_dictD (by rfl) C_b_dict (by decide +kernel) (pa_cons (pv 5) pa_nil)) (pa_cons (pe_callTy k_dictD (by rfl) C_b_dict (by decide +kernel) (pa_cons (pv 6) pa_nil)) pa_nil))))
    (pss_cons (ps_for (passes_of rfl) rfl (pi_range1 (by rfl) C_b_range (pa_cons (z_callC C_f_law_take hr passN (pa_cons (pv 1) (pa_cons pe_int pa_nil))) pa_nil)) (pg_name (i := 9) sc_law.nd rfl (Or.inl rfl)) (pss_cons (ps_set (i := 10) sc_law.nd rfl (Or.inl rfl) (pe_ix ix_list (pe_lst (pa_cons pe_str (pa_cons pe_str (pa_cons pe_str (pa_cons pe_str pa_nil))))) (z_callC C_f_law_take hr passN (pa_cons (pv 1) (pa_cons pe_int pa_nil))) (fun _ _ => rfl)))
    (pss_one (ps_dput (hu_of hr) (pe_ix ix_list (pv 8) (z_callC C_f_law_take hr passN (pa_cons (pv 1) (pa_cons pe_int pa_nil))) (fun _ _ => rfl)) (pv 10) (z_callC C_f_law_take hr passN (pa_cons (pv 1) (pa_cons pe_int pa_nil))) (by rfl)))))
    (pss_cons (ps_frz (ps_frz (ps_set (i := 11) sc_law.nd rfl (Or.inl rfl) (pe_lst (pa_cons (z_makeC C_i_Chance hr passN (pa_cons (pe_ix ix_list (pv 8) pe_int (fun _ _ => rfl)) pa_nil)) (pa_cons (z_makeC C_i_Chance hr passN (pa_cons (pe_ix ix_list (pv 8) pe_int (fun _ _ => rfl)) pa_nil)) pa_nil))))))
    (pss_one (ps_unf (ps_unf (ps_for (passes_of rfl) rfl (pi_any (K := K) rfl (pe_lst (pa_cons pe_int (pa_cons pe_int (pa_cons pe_int (pa_cons pe_int (pa_cons pe_int pa_nil))))))) (pg_name (i := 12) sc_law.nd rfl (Or.inl rfl)) (pss_cons (ps_if (pt_cmpR (k_neD (K := K) rfl hr.units) (z_callC C_f_law_told hr passN (pa_cons (pv 12) (pa_cons (pv 4) (pa_cons (pe_ix ix_list (pv 11) pe_int (fun _ _ => rfl)) (pa_cons (pe_ix ix_list (pv 11) pe_int (fun _ _ => rfl)) pa_nil))))) (z_callC C_f_law_due hr passN (pa_cons (pv 2) (pa_cons (pe_ix ix_list (pv 8) pe_int (fun _ _ => rfl)) (pa_cons (pe_ix ix_list (pv 8) pe_int (fun _ _ => rfl)) pa_nil)))) (nomark _)) (pss_one (ps_ret pe_bl)) (pss_nil))
    (pss_one (ps_if (pt_cmpR op_notN (z_callC C_f_law_told hr passN (pa_cons (pv 12) (pa_cons (pv 4) (pa_cons (z_makeC C_i_Chance hr passN (pa_cons (pv 5) pa_nil)) (pa_cons (z_makeC C_i_Chance hr passN (pa_cons (pv 6) pa_nil)) pa_nil))))) pe_non (nomark _)) (pss_one (ps_ret pe_bl)) (pss_nil))))))))))))))
    (pss_one (ps_ret pe_bl)))))))))), ?_⟩
  try dsimp only [cxOf]
  walk_at "rd"
  refine i_cell ha fun c0 => ?_
  walk_at "rd"
  refine i_pool fun p H1 hp s1 o1 po1 => ?_
  walk_at "rd"
  refine i_take po1 (by decide) (sz8 (by decide)) fun r H2 r0 r1 o2 po2 => ?_
  walk_at "rd"
  obtain ⟨n, hn⟩ : ∃ n : Nat, 1 + r = (n : Int) := ⟨(1 + r).toNat, by omega⟩
  rw [hn]
  have bt2 : But p H1 H2 := fun x o hx e => by rw [o2 x hx]; exact e
  refine ⟨rfl, p, n, rfl, po2, by omega, fun q H3 zs hq bt3 po3 eq hzn hnd hM => ?_⟩
  have hok : ∀ z ∈ zs, nameB z = true := fun z hz => MENU_ok z (hM z hz)
  have t3 : Same H H3 := (bt2.trans bt3).same hp s1
  walk_at "rd"
  refine i_cell (t3.seq ha) fun c1 => ?_
  walk_at "rd"
  refine i_pool fun p2 H4 hp2 s4 o4 po4 => ?_
  walk_at "rd"
  have hq2 : q ≠ p2 := fun z => by rw [z, hp2] at eq; cases eq
  have hpp2 : p ≠ p2 := fun z => by obtain ⟨_, _, _, e⟩ := po3; rw [z, hp2] at e; cases e
  refine ⟨rfl, p2, q, zs, rfl, po4, hq2, s4 _ _ eq, by omega, hnd, fun r H5 E hr bt5 po5 lp hE hEl hA => ?_⟩
  walk_at "rd"
  have eq5 : H5 q = some (.lst (zs.map V.str)) := bt5 _ _ hq2 (s4 _ _ eq)
  have po35 : Pool H5 p := by
    obtain ⟨x, y, z, e⟩ := po3
    exact ⟨x, y, z, bt5 _ _ hpp2 (s4 _ _ e)⟩
  have t5 : Same H H5 := t3.trans (bt5.same hp2 s4)
  refine ⟨rfl, q, r, zs, E, rfl, .l eq5, lp.a, by omega, hnd, hE, fun d H6 hd s6 ht => ?_⟩
  have tb := tbl_of (by omega) hnd hok hE
  generalize OM.turns E zs.length (fun x => [x]) = W at *
  have eq6 := s6 _ _ eq5
  walk_at "rd"
  refine ⟨rfl, q, d, zs, W, OM.cl E, rfl, .l eq6, ht, tb, fun cv H7 hcv s7 lc => ?_⟩
  have hE' : ∀ e ∈ E, e.1 ∈ srt zs ∧ e.2 ∈ srt zs := fun e he => ⟨mem_srt.mpr (hE e he).1, mem_srt.mpr (hE e he).2⟩
  have hcl : OM.cl (OM.cvs (srt zs) (OM.cl E)) = OM.cl E := OM.cvs_cl (srt_nodup hnd) hE' hA
  have lzs : (srt zs).length = zs.length := (srt_perm zs).length_eq
  have cM : ∀ e ∈ OM.cvs (srt zs) (OM.cl E), e.1 ∈ zs ∧ e.2 ∈ zs := fun e he => by
    have m := (OM.mem_cvs (a := e.1) (b := e.2)).mp he
    exact ⟨mem_srt.mp m.1.1, mem_srt.mp m.1.2.1⟩
  have cL : (OM.cvs (srt zs) (OM.cl E)).length ≤ 64 := by
    have h1 := prs_len (N := srt zs) (R := OM.cl E)
    have h2 : (OM.cvs (srt zs) (OM.cl E)).length ≤ (OM.prs (srt zs) (OM.cl E)).length := List.length_filter_le _ _
    have h3 : (srt zs).length * (srt zs).length ≤ 8 * 8 := Nat.mul_le_mul (by omega) (by omega)
    omega
  have cA : OM.Anti (OM.cvs (srt zs) (OM.cl E)) := OM.anti_sub (fun e he => OM.cl_iff.mp ((OM.mem_cvs (a := e.1) (b := e.2)).mp he).1.2.2.1) hA
  rw [← hcl] at tb
  have heE := hcl
  generalize OM.cvs (srt zs) (OM.cl E) = F at *
  walk_at "rd"
  refine i_newOK (.l (s7 _ _ eq6)) lc.a (by omega) (by omega) hok hnd cM (by omega) cA fun o H8 ho s8 io => ?_
  walk_at "rd"
  have t8 : Same H H8 := ((t5.trans s6).trans s7).trans s8
  have s58 := (s6.trans s7).trans s8
  have st8 : St CO TT q d o zs W (srt zs) F H8 := ⟨hT.ext t8, s58 _ _ eq5, (ht.mono s7).mono s8, io⟩
  have po8 : Pool H8 p := by
    obtain ⟨x, y, z, e⟩ := po35
    exact ⟨x, y, z, s58 _ _ e⟩
  have h8 : zs.length ≤ 8 := by omega
  have h1 : 1 ≤ zs.length := by omega
  clear lc hcv s7 s8 s58 s6 ht eq6 eq5 po35 t5 t3 bt3 bt5 lp hr hE' hcl cL
  generalize hNN : srt zs = N at *
  refine i_cell (t8.seq ha) fun c2 => ?_
  walk_at "rd"
  refine i_pool fun p3 H9 hp3 s9 o9 po9 => ?_
  walk_at "rd"
  have st9 := st8.same s9
  refine ⟨rfl, p3, q, zs, rfl, po9, st9.nm, hnd, h1, h8, fun dl H10 w hdl b10 po10 el hw hwp => ?_⟩
  walk_at "rd"
  refine i_frz el trivial fun ol H11 el11 o11 => ?_
  have b911 : But p3 H9 H11 := fun x u hx e => by rw [o11 x (ne_of_none e hdl)]; exact b10 x u hx e
  have st11 := st9.pool po9 b911
  have po11 : Pool H11 p3 := po10.off (Ne.symm (po9.ne hdl)) o11
  walk_at "rd"
  refine ⟨rfl, p3, q, zs, rfl, po11, st11.nm, hnd, h1, h8, fun dh1 H12 v1 hdh1 b12 po12 eh1 hv1 hvp1 => ?_⟩
  have st12 := st11.pool po11 b12
  have dlp : dl ≠ p3 := po9.ne hdl
  have el12 := b12 dl _ dlp el11
  walk_at "rd"
  refine i_take po12 (by decide) (sz8 (by decide)) fun r13 H13 r130 r131 o13 po13 => ?_
  walk_at "rd"
  have b1113 : But p3 H11 H13 := fun x u hx e => by rw [o13 x hx]; exact b12 x u hx e
  have dh1p : dh1 ≠ p3 := po11.ne hdh1
  have eh13 : H13 dh1 = some (.dK (dI zs v1)) := by rw [o13 dh1 dh1p]; exact eh1
  refine i_cap (fun σ' H' => ∃ (dh : Addr) (v : Str → Int), σ' = [some (.ref a), some (.ref p3), some (.ref q), some (.ref d), some (.ref o), some (.ref dl), some (.ref dh), none, none, none, none, none, none] ∧ But p3 H11 H' ∧ Pool H' p3 ∧ H' dh = some (.dK (dI zs v)) ∧ H11 dh = none ∧ (∀ z ∈ zs, 0 ≤ v z ∧ v z ≤ 100) ∧ ∃ z ∈ zs, 0 < v z) ?_ fun tail => ?_
  rotate_left
  · refine i_dec (fun g => ?_) (fun g => ?_)
    · walk_at "rd"
      have st13 := st11.pool po11 b1113
      refine ⟨rfl, p3, dl, d, zs, w, W, _, rfl, po13, .inr ⟨ol, b1113 dl _ dlp el11⟩, st13.tab, tb, hw, hwp, fun dh2 H14 v2 hdh2 b14 po14 eh14 hv2 hvp2 => ?_⟩
      refine i_gname (by with_unfolding_all rfl) ?_
      refine tail _ _ ⟨dh2, v2, rfl, fun x u hx e => b14 x u hx (b1113 x u hx e), po14, eh14, ?_, hv2, hvp2⟩
      cases e : H11 dh2 with
      | none => rfl
      | some u => rw [b1113 dh2 u (po13.ne hdh2) e] at hdh2; cases hdh2
    · refine i_next (tail _ _ ⟨dh1, v1, rfl, b1113, po13, eh13, hdh1, fun z hz => by have := hv1 z hz; omega, hvp1⟩)
  rintro σ' H14 ⟨dh, v, rfl, b14, po14, eh14, hdh, hv, hvp⟩
  clear eh13 dh1p b1113 po13 o13 el12 hv1 hvp1 eh1 po12 b12 st12 hdh1
  walk_at "rd"
  refine i_frz eh14 trivial fun oh H15 eh15 o15 => ?_
  have b15 : But p3 H11 H15 := fun x u hx e => by rw [o15 x (ne_of_none e hdh)]; exact b14 x u hx e
  have st15 := st11.pool po11 b15
  have el15 := b15 dl _ dlp el11
  have dhp : dh ≠ p3 := po11.ne hdh
  have po15 : Pool H15 p3 := po14.off (Ne.symm dhp) o15
  have t8_15 : Same H8 H15 := (b911.trans b15).same hp3 s9
  clear b14 po14 eh14 o15 b911
  walk_at "rd"
  refine i_cell ((t8.trans t8_15).seq ha) fun c3 => ?_
  walk_at "rd"
  refine i_lst1 (Nat.le_of_ble_eq_true rfl) fun l16 H16 hl16 s16 e16 o16 => ?_
  walk_at "rd"
  refine i_slL ((t8.trans (t8_15.trans s16)).seq ha) rfl fun l17 H17 hl17 s17 e17 o17 => ?_
  have hcut : ∀ x ∈ cutV (ns.map V.int) (some 4) (some 8), ∃ n : Int, x = V.int n := fun x hx => by
    unfold cutV at hx
    obtain ⟨n, _, e⟩ := List.mem_map.mp (List.mem_of_mem_drop (List.mem_of_mem_take hx))
    exact ⟨n, e.symm⟩
  have lcut : (cutV (ns.map V.int) (some 4) (some 8)).length ≤ 8 := by
    unfold cutV
    rw [List.length_take]
    unfold HT.sIx
    simp
    omega
  generalize cutV (ns.map V.int) (some 4) (some 8) = cut at *
  walk_at "rd"
  refine i_listA (.l e17) fun l18 H18 hl18 s18 e18 o18 => ?_
  walk_at "rd"
  have s1518 := (s16.trans s17).trans s18
  refine i_cat (s18 _ _ (s17 _ _ e16)) e18 (by show 1 + _ ≤ _; omega) fun lc H19 hlc s19 e19 o19 => ?_
  have s15 := s1518.trans s19
  have st19 := st15.same s15
  have xH19 : LamX.ExtN H H19 := extN_of (t8.trans (t8_15.trans s15))
  have el19 := s15 _ _ el15
  have eh19 := s15 _ _ eh15
  have hall : ∀ x ∈ V.int c3 :: cut, ∃ n : Int, x = V.int n := fun x hx => by
    rcases List.mem_cons.mp hx with rfl | hx
    · exact ⟨_, rfl⟩
    · exact hcut x hx
  have e19 : H19 lc = some (.lst (V.int c3 :: cut)) := e19
  generalize V.int c3 :: cut = cells at *
  clear s15 s1518 e16 e17 e18 o16 o17 o18 o19 s16 s17 s18 s19 hl16 hl17 hl18 hlc hcut lcut el15 eh15 st15 t8_15
  refine i_forA (H0 := oneH lc cells) (fun i σ H20 => (∃ x1 x7 x8 x9 x10 x11 x12, σ = [some (.ref a), x1, some (.ref q), some (.ref d), some (.ref o), some (.ref dl), some (.ref dh), x7, x8, x9, x10, x11, x12]) ∧ St CO TT q d o zs W N F H20 ∧ H20 dl = some (.frz ol (.dK (dI zs w))) ∧ H20 dh = some (.frz oh (.dK (dI zs v))) ∧ H20 lc = some (.lst cells) ∧ LamX.ExtN H H20) one_seq
    ⟨⟨_, _, _, _, _, _, _, rfl⟩, st19, el19, eh19, e19, xH19⟩ (fun i σ H20 p => one_same p.2.2.2.2.1) ?_ ?_
  · rintro i x σ H20 hx ⟨⟨x1, x7, x8, x9, x10, x11, x12, rfl⟩, st, el, eh, elc, xH⟩
    obtain ⟨nn, rfl⟩ := hall x (List.mem_of_getElem? hx)
    walk_at "rd"
    refine i_pool fun p5 H21 hp5 s21 o21 po21 => ?_
    walk_at "rd"
    refine i_dictR (.inr ⟨ol, s21 _ _ el⟩) fun r1 H22 hr1 s22 o22 er1 => ?_
    walk_at "rd"
    have t22 := s21.trans s22
    refine i_dictR (.inr ⟨oh, t22 _ _ eh⟩) fun r2 H23 hr2 s23 o23 er2 => ?_
    walk_at "rd"
    refine i_lst1 (by show 2 ≤ 100000; decide) fun lr H24 hlr s24 elr o24 => ?_
    walk_at "rd"
    have t24 := (t22.trans s23).trans s24
    have po24 := ((po21.same s22).same s23).same s24
    refine i_take po24 (by decide) (sz8 (by decide)) fun r25 H25 r250 r251 o25 po25 => ?_
    walk_at "rd"
    have po21' := po21
    have r1p : r1 ≠ p5 := po21.ne hr1
    have r2p : r2 ≠ p5 := (po21.same s22).ne hr2
    have lrp : lr ≠ p5 := ((po21.same s22).same s23).ne hlr
    have n12 : r1 ≠ r2 := fun z => by rw [← z, er1] at hr2; cases hr2
    have nlr1 : lr ≠ r1 := fun z => by have h := s23 _ _ er1; rw [← z, hlr] at h; cases h
    have nlr2 : lr ≠ r2 := fun z => by rw [← z, hlr] at er2; cases er2
    have er1' := s24 _ _ (s23 _ _ er1)
    have er2' := s24 _ _ er2
    obtain ⟨k25, hk25⟩ : ∃ k25 : Nat, r25 = (k25 : Int) := ⟨r25.toNat, by omega⟩
    have w0 : Wo zs w 8 := ⟨h8, hnd, hok, fun z hz => by have := hw z hz; omega, by obtain ⟨z, hz, h⟩ := hwp; exact ⟨z, hz, hM z hz, h⟩⟩
    have v0 : Wo zs v 8 := ⟨h8, hnd, hok, hv, by obtain ⟨z, hz, h⟩ := hvp; exact ⟨z, hz, hM z hz, h⟩⟩
    refine i_forR (n := k25) hk25 (by omega) (fun i2 σ H26 => (∃ x9 x10, σ = [some (.ref a), some (.ref p5), some (.ref q), some (.ref d), some (.ref o), some (.ref dl), some (.ref dh), some (.int nn), some (.ref lr), x9, x10, x11, x12]) ∧ (∀ b o, b ≠ p5 → b ≠ r1 → b ≠ r2 → H24 b = some o → H26 b = some o) ∧ Pool H26 p5 ∧ ∃ (ks1 ks2 : List Str) (u1 u2 : Str → Int), H26 r1 = some (.dK (dI ks1 u1)) ∧ H26 r2 = some (.dK (dI ks2 u2)) ∧ Wo ks1 u1 (8 + i2) ∧ Wo ks2 u2 (8 + i2))
      ⟨⟨_, _, rfl⟩, fun b o hb _ _ e => by rw [o25 b hb]; exact e, po25, zs, zs, w, v, by rw [o25 r1 r1p]; exact er1', by rw [o25 r2 r2p]; exact er2', w0, v0⟩ ?_ ?_
    · rintro i2 σ H26 lt2 ⟨⟨x9, x10, rfl⟩, b26, po26, ks1, ks2, u1, u2, f1, f2, wo1, wo2⟩
      walk_at "rd"
      refine i_lst1 (by show 4 ≤ 100000; decide) fun l27 H27 hl27 s27 e27 o27 => ?_
      walk_at "rd"
      have po27 := po26.same s27
      have l27p : l27 ≠ p5 := po26.ne hl27
      refine i_take po27 (by decide) (sz8 (by decide)) fun r28 H28 r280 r281 o28 po28 => ?_
      obtain ⟨j, rfl⟩ : ∃ m : Nat, r28 = (m : Int) := ⟨r28.toNat, by omega⟩
      obtain ⟨z, ez, hzo⟩ : ∃ z : Str, ([V.str "zz", V.str "q", V.str "aa", V.str "zz9"] : List V)[j]? = some (.str z) ∧ (nameB z = true ∧ z ∉ MENU) := by
        have : j = 0 ∨ j = 1 ∨ j = 2 ∨ j = 3 := by omega
        rcases this with rfl | rfl | rfl | rfl <;> exact ⟨_, rfl, odd_ok _ (by simp)⟩
      walk_at "rd"
      refine i_ixL (k := j) (.of (by rw [o28 l27 l27p]; exact e27)) ez ?_
      walk_at "rd"
      refine i_take po28 (by decide) (sz8 (by decide)) fun r29 H29 r290 r291 o29 po29 => ?_
      walk_at "rd"
      refine i_take po29 (by decide) (sz8 (by decide)) fun r30 H30 r300 r301 o30 po30 => ?_
      have k30 : ∀ b o, b ≠ p5 → H26 b = some o → H30 b = some o := fun b o hb e => by rw [o30 b hb, o29 b hb, o28 b hb]; exact s27 _ _ e
      have elr30 : H30 lr = some (.lst [.ref r1, .ref r2]) := k30 lr _ lrp (b26 lr _ lrp nlr1 nlr2 elr)
      obtain ⟨j2, rfl⟩ : ∃ m : Nat, r30 = (m : Int) := ⟨r30.toNat, by omega⟩
      have hj2 : j2 = 0 ∨ j2 = 1 := by omega
      walk_at "rd"
      rcases hj2 with rfl | rfl
      · refine i_ixL (k := 0) (v := .ref r1) (.of elr30) rfl ?_
        walk_at "rd"
        refine i_dputF (k30 r1 _ r1p f1) (by have := wo1.len; omega) fun H31 e31 o31 => ?_
        rw [upF_int] at e31
        walk_at "rd"
        exact ⟨⟨_, _, rfl⟩, fun b o hb hb1 hb2 e => by rw [o31 b hb1]; exact k30 b o hb (b26 b o hb hb1 hb2 e), po30.off (Ne.symm r1p) o31, _, ks2, _, u2, e31, by rw [o31 r2 (Ne.symm n12)]; exact k30 r2 _ r2p f2, wo1.put hzo.1 hzo.2 ⟨by omega, by omega⟩, wo2.mono (by omega)⟩
      · refine i_ixL (k := 1) (v := .ref r2) (.of elr30) rfl ?_
        walk_at "rd"
        refine i_dputF (k30 r2 _ r2p f2) (by have := wo2.len; omega) fun H31 e31 o31 => ?_
        rw [upF_int] at e31
        walk_at "rd"
        exact ⟨⟨_, _, rfl⟩, fun b o hb hb1 hb2 e => by rw [o31 b hb2]; exact k30 b o hb (b26 b o hb hb1 hb2 e), po30.off (Ne.symm r2p) o31, ks1, _, u1, _, by rw [o31 r1 n12]; exact k30 r1 _ r1p f1, e31, wo1.mono (by omega), wo2.put hzo.1 hzo.2 ⟨by omega, by omega⟩⟩
    rintro σ H26 ⟨⟨x9, x10, rfl⟩, b26, po26, ks1, ks2, u1, u2, f1, f2, wo1, wo2⟩
    refine i_frz f1 trivial fun of1 H27 f1' o27 => ?_
    refine i_frz (u := .dK (dI ks2 u2)) (by rw [o27 r2 (Ne.symm n12)]; exact f2) trivial fun of2 H28 f2' o28 => ?_
    walk_at "rd"
    have f1'' : H28 r1 = some (.frz of1 (.dK (dI ks1 u1))) := by rw [o28 r1 n12]; exact f1'
    have b2428 : ∀ b o, b ≠ p5 → b ≠ r1 → b ≠ r2 → H24 b = some o → H28 b = some o := fun b o hb h1 h2 e => by rw [o28 b h2, o27 b h1]; exact b26 b o hb h1 h2 e
    have elr28 := b2428 lr _ lrp nlr1 nlr2 elr
    have b2028 : Same H20 H28 := fun b o e => b2428 b o (ne_of_none e hp5) (ne_of_none (s21 _ _ e) hr1) (ne_of_none (t22 _ _ e) hr2) (t24 _ _ e)
    have hr1' : H20 r1 = none := s21.free hr1
    have hr2' : H20 r2 = none := t22.free hr2
    clear b26 po26 f1 f2 o27 o28 po25 o25 po24 po21 b2428 s21 o21 s22 s23 s24 o22 o23 o24 t22 t24 er1 er2 er1' er2' elr hlr po21'
    refine i_ix0 (SqL.of elr28) ?_
    walk_at "rd"
    have lk := wo1.len
    have lk2 := wo2.len
    refine i_newC f1'' wo1.nd (by omega) wo1.nm wo1.bd (by decide +kernel) (by decide) (by obtain ⟨z, hz, _, h⟩ := wo1.pos; exact ⟨z, hz, h⟩) fun c1 H29 hc1 s29 ic1 => ?_
    walk_at "rd"
    refine i_ix1 (SqL.of (s29 _ _ elr28)) ?_
    walk_at "rd"
    refine i_newC (s29 _ _ f2') wo2.nd (by omega) wo2.nm wo2.bd (by decide +kernel) (by decide) (by obtain ⟨z, hz, _, h⟩ := wo2.pos; exact ⟨z, hz, h⟩) fun c2 H30 hc2 s30 ic2 => ?_
    walk_at "rd"
    refine i_lst1 (by show 2 ≤ 100000; decide) fun cs H31 hcs s31 ecs o31 => ?_
    walk_at "rd"
    have t2831 := (s29.trans s30).trans s31
    have nfz : ∀ {b : Addr}, H20 b = none → ∀ o' u', H b ≠ some (.frz o' u') := fun hb o' u' e => by have := xH _ _ e (fun _ z => by cases z); rw [hb] at this; cases this
    have f1u : H31 r1 = some (.frz of1 (.dK (dI ks1 u1))) := t2831 _ _ f1''
    have f2u : H31 r2 = some (.frz of2 (.dK (dI ks2 u2))) := t2831 _ _ f2'
    show tUnf _ _ _ _ _
    refine ⟨r1, of1, .dK (dI ks1 u1), f1u, nfz hr1', ?_⟩
    have g1 : upd H31 r1 (.dK (dI ks1 u1)) r1 = some (.dK (dI ks1 u1)) := upd_same
    have o32 : ∀ b, b ≠ r1 → upd H31 r1 (.dK (dI ks1 u1)) b = H31 b := fun b hb => upd_ne hb
    generalize upd H31 r1 (.dK (dI ks1 u1)) = H32 at *
    show tUnf _ _ _ _ _
    refine ⟨r2, of2, .dK (dI ks2 u2), by rw [o32 r2 (Ne.symm n12)]; exact f2u, nfz hr2', ?_⟩
    have g2 : upd H32 r2 (.dK (dI ks2 u2)) r2 = some (.dK (dI ks2 u2)) := upd_same
    have o33 : ∀ b, b ≠ r2 → upd H32 r2 (.dK (dI ks2 u2)) b = H32 b := fun b hb => upd_ne hb
    generalize upd H32 r2 (.dK (dI ks2 u2)) = H33 at *
    have b3133 : ∀ b o, b ≠ r1 → b ≠ r2 → H31 b = some o → H33 b = some o := fun b o h1 h2 e => by rw [o33 b h2, o32 b h1]; exact e
    have s2033 : Same H20 H33 := fun b o e => b3133 b o (ne_of_none e hr1') (ne_of_none e hr2') (t2831 _ _ (b2028 _ _ e))
    have jc1 : IsC CC H33 c1 90 (posN ks1 u1) (shr ks1 u1) := by
      obtain ⟨dx, dd, oo, ww, SS, i1, i2, i3, i4, i5⟩ := ic1
      have j1 := (s30.trans s31) _ _ i1
      have j2 := (s30.trans s31) _ _ i2
      exact ⟨dx, dd, oo, ww, SS, b3133 _ _ (fun z => by rw [z, f1u] at j1; cases j1) (fun z => by rw [z, f2u] at j1; cases j1) j1, b3133 _ _ (fun z => by rw [z, f1''] at i5; cases i5) (fun z => by rw [z, f2'] at i5; cases i5) j2, i3, i4⟩
    have jc2 : IsC CC H33 c2 90 (posN ks2 u2) (shr ks2 u2) := by
      obtain ⟨dx, dd, oo, ww, SS, i1, i2, i3, i4, i5⟩ := ic2
      have j1 := s31 _ _ i1
      have j2 := s31 _ _ i2
      exact ⟨dx, dd, oo, ww, SS, b3133 _ _ (fun z => by rw [z, f1u] at j1; cases j1) (fun z => by rw [z, f2u] at j1; cases j1) j1, b3133 _ _ (fun z => by rw [z, s29 _ _ f1''] at i5; cases i5) (fun z => by rw [z, s29 _ _ f2'] at i5; cases i5) j2, i3, i4⟩
    have ecs33 : H33 cs = some (.lst [.ref c1, .ref c2]) := b3133 _ _ (fun z => by rw [z, f1u] at ecs; cases ecs) (fun z => by rw [z, f2u] at ecs; cases ecs) ecs
    have elr33 : H33 lr = some (.lst [.ref r1, .ref r2]) := b3133 _ _ nlr1 nlr2 (t2831 _ _ elr28)
    have er1 : H33 r1 = some (.dK (dI ks1 u1)) := by rw [o33 r1 n12]; exact g1
    have st33 := st.same s2033
    have el33 := s2033 _ _ el
    have eh33 := s2033 _ _ eh
    have elc33 := s2033 _ _ elc
    have x33 : LamX.ExtN H H33 := xH.trans (extN_of s2033)
    have eqd : dueU N (posN ks1 u1) (posN ks2 u2) = dueU zs (posN ks1 u1) (posN ks2 u2) := dueU_congr fun z => by rw [← hNN, mem_srt]
    have okd : ∀ z, dueU zs (posN ks1 u1) (posN ks2 u2) = some z → PyData.strOk z = true := fun z hz => by
      unfold dueU at hz
      cases e : miss zs (posN ks1 u1) with
      | some y =>
        rw [e] at hz
        cases hz
        exact nameB_ok (wo1.nm _ (mem_posN.mp (List.mem_of_find?_eq_some e)).1)
      | none =>
        rw [e] at hz
        exact nameB_ok (wo2.nm _ (mem_posN.mp (List.mem_of_find?_eq_some hz)).1)
    have mno : dueU N (posN zs w) (posN zs v) = none := by
      unfold dueU
      have pin : ∀ (g : Str → Int), ∀ z ∈ posN zs g, z ∈ N := fun g z hz => by rw [← hNN]; exact mem_srt.mpr (mem_posN.mp hz).1
      rw [miss_ok (pin w)]
      exact miss_ok (pin v)
    clear f1u f2u f1'' f2' ic1 ic2 s29 s30 s31 t2831 b2028 b3133 s2033 o32 o33 g1 ecs elr28 nfz o31 hcs hc1 hc2
    walk_at "rd"
    refine i_lst1 (by show 5 ≤ 100000; decide) fun l34 H34 hl34 s34 e34 o34 => ?_
    walk_at "rd"
    refine i_forA (H0 := oneH l34 [V.int 3, V.int 0, V.int 1, V.int 2, V.int 0]) (fun i3 σ H35 => (∃ y12, σ = [some (.ref a), some (.ref p5), some (.ref q), some (.ref d), some (.ref o), some (.ref dl), some (.ref dh), some (.int nn), some (.ref lr), x9, x10, some (.ref cs), y12]) ∧ LamX.ExtN H34 H35 ∧ LamX.Tabs TT H35) one_seq ⟨⟨_, rfl⟩, LamX.ExtN.refl _, (st33.same s34).tabs⟩ (fun i3 σ H35 p => one_same (p.2.1 _ _ e34 (fun _ z => by cases z))) ?_ ?_
    · rintro i3 xw σ H35 hxw ⟨⟨y12, rfl⟩, x35, T35⟩
      obtain ⟨mw, rfl⟩ : ∃ mw : Nat, xw = V.int (mw : Nat) := by
        match i3, hxw with
        | 0, hxw => exact ⟨3, (Option.some.inj hxw).symm⟩
        | 1, hxw => exact ⟨0, (Option.some.inj hxw).symm⟩
        | 2, hxw => exact ⟨1, (Option.some.inj hxw).symm⟩
        | 3, hxw => exact ⟨2, (Option.some.inj hxw).symm⟩
        | 4, hxw => exact ⟨0, (Option.some.inj hxw).symm⟩
      have xx : LamX.ExtN H33 H35 := (extN_of s34).trans x35
      have st35 := st33.ext xx T35
      have ecs35 := xx _ _ ecs33 (fun _ z => by cases z)
      walk_at "rd"
      refine i_ix0 (SqL.of ecs35) ?_
      walk_at "rd"
      refine i_ix1 (SqL.of ecs35) ?_
      walk_at "rd"
      refine ⟨rfl, o, c1, c2, mw, N, _, _, F, 90, 90, _, _, rfl, st35.ord, jc1.ext xx, jc2.ext xx, by decide, by decide, T35, fun H36 x36 T36 => ?_⟩
      have xx36 := xx.trans x36
      have st36 := st35.ext x36 T36
      have elr36 := xx36 _ _ elr33 (fun _ z => by cases z)
      walk_at "rd"
      refine i_ix0 (SqL.of elr36) ?_
      walk_at "rd"
      refine i_ix1 (SqL.of elr36) ?_
      walk_at "rd"
      refine ⟨rfl, q, r1, r2, zs, ks1, ks2, u1, u2, rfl, st36.nm, xx36 _ _ er1 (fun _ z => by cases z), xx36 _ _ g2 (fun _ z => by cases z), by omega, by omega, wo1.nm, wo2.nm, fun H37 s37 => ?_⟩
      rw [eqd]
      refine i_neSV okd ?_
      walk_at "rd"
      have xx37 := xx36.trans (extN_of s37)
      have st37 := st36.same s37
      refine i_newC (xx37 _ _ el33 (fun _ z => by cases z)) hnd (by omega) hok hw (by decide +kernel) (by decide) hwp fun c38 H38 hc38 s38 ic38 => ?_
      walk_at "rd"
      refine i_newC ((xx37.trans (extN_of s38)) _ _ eh33 (fun _ z => by cases z)) hnd (by omega) hok hv (by decide +kernel) (by decide) hvp fun c39 H39 hc39 s39 ic39 => ?_
      walk_at "rd"
      have st39 := (st37.same s38).same s39
      refine ⟨rfl, o, c38, c39, mw, N, _, _, F, 90, 90, _, _, rfl, st39.ord, ic38.is.mono s39, ic39.is, by decide, by decide, st39.tabs, fun H40 x40 T40 => ?_⟩
      rw [mno]
      walk_at "rd"
      refine ⟨rfl, ?_⟩
      rw [show (!decide (sV none = V.non)) = false from by simp [sV]]
      walk_at "rd"
      exact ⟨⟨_, rfl⟩, ((x35.trans x36).trans (extN_of ((s37.trans s38).trans s39))).trans x40, T40⟩
    · rintro σ H35 ⟨⟨y12, rfl⟩, x35, T35⟩
      have xx : LamX.ExtN H33 H35 := (extN_of s34).trans x35
      exact ⟨⟨_, _, _, _, _, _, _, rfl⟩, st33.ext xx T35, xx _ _ el33 (fun _ z => by cases z), xx _ _ eh33 (fun _ z => by cases z), xx _ _ elc33 (fun _ z => by cases z), x33.trans xx⟩
  · rintro σ H20 ⟨⟨x1, x7, x8, x9, x10, x11, x12, rfl⟩, st, el, eh, elc, xH⟩
    walk_at "rd"
    exact k _
theorem mk_law {K : PySem.W.Frag} {H : Hp} {a p : Addr} {q : Str} {ns : List Int} (hS : SqL K H a (ns.map V.int)) (hl : ns.length ≤ 63) (hT : H p = some (.tbl #[])) : spLaw K [(p, q)] [.ref a] H (fun v _ => v = .bl true) fun _ _ _ => False := ⟨rfl, a, ns, rfl, hS, _root_.ZB.tabs_one hT, fun _ => rfl⟩
theorem all_mk {P : Program} {w : World} {K : PySem.W.Frag} {h : Heap} {mg : Str → Option Value} {fa : Addr} (X : K.In h) (G : h.Ns mainGlobals mg) (hfa : mg "law" = some (.ref fa))
    {CO : Addr}
    {CB : Addr}
    {CN : Addr}
    {CD : Addr}
    {CU : Addr}
    {CG : Addr}
    {CT : Addr}
    {CR : Addr}
    {CX : Addr}
    {CC : Addr}
    {nm_BadNumber : Str}
    {q_BadNumber : Str}
    {N_BadNumber : Addr}
    {bs_BadNumber : List Value}
    {sn_BadNumber : List Str}
    {sub_BadNumber : List Value}
    {ab_BadNumber : Bool}
    {col_BadNumber : Option Bool}
    {dd_BadNumber : Option Addr}
    {m0_BadNumber : Option Value}
    {m1_BadNumber : Option Value}
    {m2_BadNumber : Option Value}
    {m3_BadNumber : Option Value}
    {m5_BadNumber : Option Value}
    {nm_BadName : Str}
    {q_BadName : Str}
    {N_BadName : Addr}
    {bs_BadName : List Value}
    {sn_BadName : List Str}
    {sub_BadName : List Value}
    {ab_BadName : Bool}
    {col_BadName : Option Bool}
    {dd_BadName : Option Addr}
    {m0_BadName : Option Value}
    {m1_BadName : Option Value}
    {m2_BadName : Option Value}
    {m3_BadName : Option Value}
    {m5_BadName : Option Value}
    {nm_DuplicateName : Str}
    {q_DuplicateName : Str}
    {N_DuplicateName : Addr}
    {bs_DuplicateName : List Value}
    {sn_DuplicateName : List Str}
    {sub_DuplicateName : List Value}
    {ab_DuplicateName : Bool}
    {col_DuplicateName : Option Bool}
    {dd_DuplicateName : Option Addr}
    {m0_DuplicateName : Option Value}
    {m1_DuplicateName : Option Value}
    {m2_DuplicateName : Option Value}
    {m3_DuplicateName : Option Value}
    {m5_DuplicateName : Option Value}
    {nm_UnknownName : Str}
    {q_UnknownName : Str}
    {N_UnknownName : Addr}
    {bs_UnknownName : List Value}
    {sn_UnknownName : List Str}
    {sub_UnknownName : List Value}
    {ab_UnknownName : Bool}
    {col_UnknownName : Option Bool}
    {dd_UnknownName : Option Addr}
    {m0_UnknownName : Option Value}
    {m1_UnknownName : Option Value}
    {m2_UnknownName : Option Value}
    {m3_UnknownName : Option Value}
    {m5_UnknownName : Option Value}
    {nm_Ring : Str}
    {q_Ring : Str}
    {N_Ring : Addr}
    {bs_Ring : List Value}
    {sn_Ring : List Str}
    {sub_Ring : List Value}
    {ab_Ring : Bool}
    {col_Ring : Option Bool}
    {dd_Ring : Option Addr}
    {m0_Ring : Option Value}
    {m1_Ring : Option Value}
    {m2_Ring : Option Value}
    {m3_Ring : Option Value}
    {m5_Ring : Option Value}
    {nm_BadShares : Str}
    {q_BadShares : Str}
    {N_BadShares : Addr}
    {bs_BadShares : List Value}
    {sn_BadShares : List Str}
    {sub_BadShares : List Value}
    {ab_BadShares : Bool}
    {col_BadShares : Option Bool}
    {dd_BadShares : Option Addr}
    {m0_BadShares : Option Value}
    {m1_BadShares : Option Value}
    {m2_BadShares : Option Value}
    {m3_BadShares : Option Value}
    {m5_BadShares : Option Value}
    {f0 : Addr} {od0 an0 : Option Addr} {sl0 : Array (Option Value)} {oc0 kV0 dc0 pm0 cd0 ct0 : Value}
    {f1 : Addr} {od1 an1 : Option Addr} {sl1 : Array (Option Value)} {oc1 kV1 dc1 pm1 cd1 ct1 : Value}
    {f2 : Addr} {od2 an2 : Option Addr} {sl2 : Array (Option Value)} {oc2 kV2 dc2 pm2 cd2 ct2 : Value}
    {f3 : Addr} {od3 an3 : Option Addr} {sl3 : Array (Option Value)} {oc3 kV3 dc3 pm3 cd3 ct3 : Value}
    {f4 : Addr} {od4 an4 : Option Addr} {sl4 : Array (Option Value)} {oc4 kV4 dc4 pm4 cd4 ct4 : Value}
    {f5 : Addr} {od5 an5 : Option Addr} {sl5 : Array (Option Value)} {oc5 kV5 dc5 pm5 cd5 ct5 : Value}
    {f6 : Addr} {od6 an6 : Option Addr} {sl6 : Array (Option Value)} {oc6 kV6 dc6 pm6 cd6 ct6 : Value}
    {f7 : Addr} {od7 an7 : Option Addr} {sl7 : Array (Option Value)} {oc7 kV7 dc7 pm7 cd7 ct7 : Value}
    {f8 : Addr} {od8 an8 : Option Addr} {sl8 : Array (Option Value)} {oc8 kV8 dc8 pm8 cd8 ct8 : Value}
    {f9 : Addr} {od9 an9 : Option Addr} {sl9 : Array (Option Value)} {oc9 kV9 dc9 pm9 cd9 ct9 : Value}
    {f10 : Addr} {od10 an10 : Option Addr} {sl10 : Array (Option Value)} {oc10 kV10 dc10 pm10 cd10 ct10 : Value}
    {f11 : Addr} {od11 an11 : Option Addr} {sl11 : Array (Option Value)} {oc11 kV11 dc11 pm11 cd11 ct11 : Value}
    {f12 : Addr} {od12 an12 : Option Addr} {sl12 : Array (Option Value)} {oc12 kV12 dc12 pm12 cd12 ct12 : Value}
    {f13 : Addr} {od13 an13 : Option Addr} {sl13 : Array (Option Value)} {oc13 kV13 dc13 pm13 cd13 ct13 : Value}
    {f14 : Addr} {od14 an14 : Option Addr} {sl14 : Array (Option Value)} {oc14 kV14 dc14 pm14 cd14 ct14 : Value}
    {f15 : Addr} {od15 an15 : Option Addr} {sl15 : Array (Option Value)} {oc15 kV15 dc15 pm15 cd15 ct15 : Value}
    {f16 : Addr} {od16 an16 : Option Addr} {sl16 : Array (Option Value)} {oc16 kV16 dc16 pm16 cd16 ct16 : Value}
    {f17 : Addr} {od17 an17 : Option Addr} {sl17 : Array (Option Value)} {oc17 kV17 dc17 pm17 cd17 ct17 : Value}
    {f18 : Addr} {od18 an18 : Option Addr} {sl18 : Array (Option Value)} {oc18 kV18 dc18 pm18 cd18 ct18 : Value}
    {p18 : Addr} {rs18 : List Value}
    {f19 : Addr} {od19 an19 : Option Addr} {sl19 : Array (Option Value)} {oc19 kV19 dc19 pm19 cd19 ct19 : Value}
    {f20 : Addr} {od20 an20 : Option Addr} {sl20 : Array (Option Value)} {oc20 kV20 dc20 pm20 ct20 : Value}
    {c_Order_ups p_Order_ups : Addr}
    {f21 : Addr} {od21 an21 : Option Addr} {sl21 : Array (Option Value)} {oc21 kV21 dc21 pm21 cd21 ct21 : Value}
    {f22 : Addr} {od22 an22 : Option Addr} {sl22 : Array (Option Value)} {oc22 kV22 dc22 pm22 cd22 ct22 : Value}
    {f23 : Addr} {od23 an23 : Option Addr} {sl23 : Array (Option Value)} {oc23 kV23 dc23 pm23 cd23 ct23 : Value}
    {f24 : Addr} {od24 an24 : Option Addr} {sl24 : Array (Option Value)} {oc24 kV24 dc24 pm24 cd24 ct24 : Value}
    {f25 : Addr} {od25 an25 : Option Addr} {sl25 : Array (Option Value)} {oc25 kV25 dc25 pm25 cd25 ct25 : Value}
    {f26 : Addr} {od26 an26 : Option Addr} {sl26 : Array (Option Value)} {oc26 kV26 dc26 pm26 cd26 ct26 : Value}
    {f27 : Addr} {od27 an27 : Option Addr} {sl27 : Array (Option Value)} {oc27 kV27 dc27 pm27 cd27 ct27 : Value}
    {f28 : Addr} {od28 an28 : Option Addr} {sl28 : Array (Option Value)} {oc28 kV28 dc28 pm28 cd28 ct28 : Value}
    {f29 : Addr} {od29 an29 : Option Addr} {sl29 : Array (Option Value)} {oc29 kV29 dc29 pm29 cd29 ct29 : Value}
    {f30 : Addr} {od30 an30 : Option Addr} {sl30 : Array (Option Value)} {oc30 kV30 dc30 pm30 cd30 ct30 : Value}
    {f31 : Addr} {od31 an31 : Option Addr} {sl31 : Array (Option Value)} {oc31 kV31 dc31 pm31 cd31 ct31 : Value}
    {f32 : Addr} {od32 an32 : Option Addr} {sl32 : Array (Option Value)} {oc32 kV32 dc32 pm32 cd32 ct32 : Value}
    {f33 : Addr} {od33 an33 : Option Addr} {sl33 : Array (Option Value)} {oc33 kV33 dc33 pm33 cd33 ct33 : Value}
    {f34 : Addr} {od34 an34 : Option Addr} {sl34 : Array (Option Value)} {oc34 kV34 dc34 pm34 cd34 ct34 : Value}
    {f35 : Addr} {od35 an35 : Option Addr} {sl35 : Array (Option Value)} {oc35 kV35 dc35 pm35 cd35 ct35 : Value}
    {f36 : Addr} {od36 an36 : Option Addr} {sl36 : Array (Option Value)} {oc36 kV36 dc36 pm36 cd36 ct36 : Value}
    {f37 : Addr} {od37 an37 : Option Addr} {sl37 : Array (Option Value)} {oc37 kV37 dc37 pm37 cd37 ct37 : Value}
    {f38 : Addr} {od38 an38 : Option Addr} {sl38 : Array (Option Value)} {oc38 kV38 dc38 pm38 cd38 ct38 : Value}
    {f39 : Addr} {od39 an39 : Option Addr} {sl39 : Array (Option Value)} {oc39 kV39 dc39 pm39 cd39 ct39 : Value}
    {f40 : Addr} {od40 an40 : Option Addr} {sl40 : Array (Option Value)} {oc40 kV40 dc40 pm40 cd40 ct40 : Value}
    {f41 : Addr} {od41 an41 : Option Addr} {sl41 : Array (Option Value)} {oc41 kV41 dc41 pm41 cd41 ct41 : Value}
    {f42 : Addr} {od42 an42 : Option Addr} {sl42 : Array (Option Value)} {oc42 kV42 dc42 pm42 cd42 ct42 : Value}
    {f43 : Addr} {od43 an43 : Option Addr} {sl43 : Array (Option Value)} {oc43 kV43 dc43 pm43 cd43 ct43 : Value}
    {f44 : Addr} {od44 an44 : Option Addr} {sl44 : Array (Option Value)} {oc44 kV44 dc44 pm44 cd44 ct44 : Value}
    {f45 : Addr} {od45 an45 : Option Addr} {sl45 : Array (Option Value)} {oc45 kV45 dc45 pm45 cd45 ct45 : Value}
    {f46 : Addr} {od46 an46 : Option Addr} {sl46 : Array (Option Value)} {oc46 kV46 dc46 pm46 cd46 ct46 : Value}
    {f47 : Addr} {od47 an47 : Option Addr} {sl47 : Array (Option Value)} {oc47 kV47 dc47 pm47 cd47 ct47 : Value}
    {f48 : Addr} {od48 an48 : Option Addr} {sl48 : Array (Option Value)} {oc48 kV48 dc48 pm48 cd48 ct48 : Value}
    {f49 : Addr} {od49 an49 : Option Addr} {sl49 : Array (Option Value)} {oc49 kV49 dc49 pm49 cd49 ct49 : Value}
    {f50 : Addr} {od50 an50 : Option Addr} {sl50 : Array (Option Value)} {oc50 kV50 dc50 pm50 cd50 ct50 : Value}
    {f51 : Addr} {od51 an51 : Option Addr} {sl51 : Array (Option Value)} {oc51 kV51 dc51 pm51 cd51 ct51 : Value}
    {f52 : Addr} {od52 an52 : Option Addr} {sl52 : Array (Option Value)} {oc52 kV52 dc52 pm52 cd52 ct52 : Value}
    {tk_DIGITS : Tok}
    {tk_LETTERS : Tok}
    {tk_MOST_NAMES : Tok}
    {tk_MOST_SIGNS : Tok}
    (aC_Order : PySem.W.nsIn K mainGlobals "Order" = some (some (.ref CO)))
    (aC_BadNumber : PySem.W.nsIn K mainGlobals "BadNumber" = some (some (.ref CB)))
    (aC_BadName : PySem.W.nsIn K mainGlobals "BadName" = some (some (.ref CN)))
    (aC_DuplicateName : PySem.W.nsIn K mainGlobals "DuplicateName" = some (some (.ref CD)))
    (aC_UnknownName : PySem.W.nsIn K mainGlobals "UnknownName" = some (some (.ref CU)))
    (aC_Ring : PySem.W.nsIn K mainGlobals "Ring" = some (some (.ref CG)))
    (aC_ThrowError : PySem.W.nsIn K mainGlobals "ThrowError" = some (some (.ref CT)))
    (aC_Ratio : PySem.W.nsIn K mainGlobals "Ratio" = some (some (.ref CR)))
    (aC_BadShares : PySem.W.nsIn K mainGlobals "BadShares" = some (some (.ref CX)))
    (aC_Chance : PySem.W.nsIn K mainGlobals "Chance" = some (some (.ref CC)))
    (pg_Ratio : PySem.W.plainGet K CR Str.empty = true)
    (hd_Ratio : PySem.W.hasDictIn K CR = true)
    (po_Ratio : PySem.W.plainOver K CR = true)
    (sa_Ratio : PySem.W.findIn K (.ref CR) "__setattr__" = some (some (.builtin "object.__setattr__")))
    (ha_Ratio : PySem.W.findIn K (.ref CR) "__class__" = some (some (.builtin "object.__class__")))
    (hm_Ratio : PySem.W.mroIn K CR (.type "object") = some true)
    (mk_Ratio : PySem.W.makesIn K CR = true)
    (kc_Ratio : PySem.W.keepIn K (.ref CR) = true)
    (sf_Ratio : PySem.W.selfFirst K CR = true)
    (iC_Ratio : PySem.W.isClsIn K CR = true)
    (tC_Ratio : PySem.W.typeIn K (.ref CR) = some (.type "type"))
    (pg_Chance : PySem.W.plainGet K CC Str.empty = true)
    (hd_Chance : PySem.W.hasDictIn K CC = true)
    (po_Chance : PySem.W.plainOver K CC = true)
    (sa_Chance : PySem.W.findIn K (.ref CC) "__setattr__" = some (some (.builtin "object.__setattr__")))
    (ha_Chance : PySem.W.findIn K (.ref CC) "__class__" = some (some (.builtin "object.__class__")))
    (hm_Chance : PySem.W.mroIn K CC (.type "object") = some true)
    (mk_Chance : PySem.W.makesIn K CC = true)
    (kc_Chance : PySem.W.keepIn K (.ref CC) = true)
    (sf_Chance : PySem.W.selfFirst K CC = true)
    (iC_Chance : PySem.W.isClsIn K CC = true)
    (tC_Chance : PySem.W.typeIn K (.ref CC) = some (.type "type"))
    (pg_Order : PySem.W.plainGet K CO Str.empty = true)
    (hd_Order : PySem.W.hasDictIn K CO = true)
    (po_Order : PySem.W.plainOver K CO = true)
    (sa_Order : PySem.W.findIn K (.ref CO) "__setattr__" = some (some (.builtin "object.__setattr__")))
    (ha_Order : PySem.W.findIn K (.ref CO) "__class__" = some (some (.builtin "object.__class__")))
    (hm_Order : PySem.W.mroIn K CO (.type "object") = some true)
    (mk_Order : PySem.W.makesIn K CO = true)
    (kc_Order : PySem.W.keepIn K (.ref CO) = true)
    (sf_Order : PySem.W.selfFirst K CO = true)
    (iC_Order : PySem.W.isClsIn K CO = true)
    (tC_Order : PySem.W.typeIn K (.ref CO) = some (.type "type"))
    (hn : PySem.W.specialIn K (.builtin "object.__class__") "__get__" = some (some (.builtin "getset_descriptor.__get__")))
    (htk : PySem.W.takesIn K (.builtin "object.__class__") = some true)
    (xL_BadNumber : K.lookup CB = some (excClassObj nm_BadNumber q_BadNumber CB N_BadNumber bs_BadNumber [.ref CT, .type "ValueError", .type "Exception", .type "BaseException", .type "object"] true sn_BadNumber sub_BadNumber ab_BadNumber col_BadNumber dd_BadNumber m0_BadNumber m1_BadNumber m2_BadNumber m3_BadNumber m5_BadNumber "ValueError.__new__"))
    (sa_BadNumber : PySem.W.findIn K (.ref CB) "__setattr__" = some (some (.builtin "object.__setattr__")))
    (ga_BadNumber : PySem.W.findIn K (.ref CB) "__getattribute__" = some (some (.builtin "BaseException.__getattribute__")))
    (gg_BadNumber : PySem.W.findIn K (.ref CB) "__getattr__" = some none)
    (kC_BadNumber : PySem.W.keepIn K (.ref CB) = true)
    (eC_BadNumber : PySem.W.subIn K (.ref CB) (.type "BaseException") = some true)
    (tC_BadNumber : PySem.W.typeIn K (.ref CB) = some (.type "type"))
    (hC_BadNumber : PySem.W.hasDictIn K CB = true)
    (iC_BadNumber : PySem.W.isClsIn K CB = true)
    (sC_BadNumber : PySem.W.subIn K (.ref CB) (.ref CB) = some true)
    (xL_BadName : K.lookup CN = some (excClassObj nm_BadName q_BadName CN N_BadName bs_BadName [.ref CT, .type "ValueError", .type "Exception", .type "BaseException", .type "object"] true sn_BadName sub_BadName ab_BadName col_BadName dd_BadName m0_BadName m1_BadName m2_BadName m3_BadName m5_BadName "ValueError.__new__"))
    (sa_BadName : PySem.W.findIn K (.ref CN) "__setattr__" = some (some (.builtin "object.__setattr__")))
    (ga_BadName : PySem.W.findIn K (.ref CN) "__getattribute__" = some (some (.builtin "BaseException.__getattribute__")))
    (gg_BadName : PySem.W.findIn K (.ref CN) "__getattr__" = some none)
    (kC_BadName : PySem.W.keepIn K (.ref CN) = true)
    (eC_BadName : PySem.W.subIn K (.ref CN) (.type "BaseException") = some true)
    (tC_BadName : PySem.W.typeIn K (.ref CN) = some (.type "type"))
    (hC_BadName : PySem.W.hasDictIn K CN = true)
    (iC_BadName : PySem.W.isClsIn K CN = true)
    (sC_BadName : PySem.W.subIn K (.ref CN) (.ref CN) = some true)
    (xL_DuplicateName : K.lookup CD = some (excClassObj nm_DuplicateName q_DuplicateName CD N_DuplicateName bs_DuplicateName [.ref CT, .type "ValueError", .type "Exception", .type "BaseException", .type "object"] true sn_DuplicateName sub_DuplicateName ab_DuplicateName col_DuplicateName dd_DuplicateName m0_DuplicateName m1_DuplicateName m2_DuplicateName m3_DuplicateName m5_DuplicateName "ValueError.__new__"))
    (sa_DuplicateName : PySem.W.findIn K (.ref CD) "__setattr__" = some (some (.builtin "object.__setattr__")))
    (ga_DuplicateName : PySem.W.findIn K (.ref CD) "__getattribute__" = some (some (.builtin "BaseException.__getattribute__")))
    (gg_DuplicateName : PySem.W.findIn K (.ref CD) "__getattr__" = some none)
    (kC_DuplicateName : PySem.W.keepIn K (.ref CD) = true)
    (eC_DuplicateName : PySem.W.subIn K (.ref CD) (.type "BaseException") = some true)
    (tC_DuplicateName : PySem.W.typeIn K (.ref CD) = some (.type "type"))
    (hC_DuplicateName : PySem.W.hasDictIn K CD = true)
    (iC_DuplicateName : PySem.W.isClsIn K CD = true)
    (sC_DuplicateName : PySem.W.subIn K (.ref CD) (.ref CD) = some true)
    (xL_UnknownName : K.lookup CU = some (excClassObj nm_UnknownName q_UnknownName CU N_UnknownName bs_UnknownName [.ref CT, .type "ValueError", .type "Exception", .type "BaseException", .type "object"] true sn_UnknownName sub_UnknownName ab_UnknownName col_UnknownName dd_UnknownName m0_UnknownName m1_UnknownName m2_UnknownName m3_UnknownName m5_UnknownName "ValueError.__new__"))
    (sa_UnknownName : PySem.W.findIn K (.ref CU) "__setattr__" = some (some (.builtin "object.__setattr__")))
    (ga_UnknownName : PySem.W.findIn K (.ref CU) "__getattribute__" = some (some (.builtin "BaseException.__getattribute__")))
    (gg_UnknownName : PySem.W.findIn K (.ref CU) "__getattr__" = some none)
    (kC_UnknownName : PySem.W.keepIn K (.ref CU) = true)
    (eC_UnknownName : PySem.W.subIn K (.ref CU) (.type "BaseException") = some true)
    (tC_UnknownName : PySem.W.typeIn K (.ref CU) = some (.type "type"))
    (hC_UnknownName : PySem.W.hasDictIn K CU = true)
    (iC_UnknownName : PySem.W.isClsIn K CU = true)
    (sC_UnknownName : PySem.W.subIn K (.ref CU) (.ref CU) = some true)
    (xL_Ring : K.lookup CG = some (excClassObj nm_Ring q_Ring CG N_Ring bs_Ring [.ref CT, .type "ValueError", .type "Exception", .type "BaseException", .type "object"] true sn_Ring sub_Ring ab_Ring col_Ring dd_Ring m0_Ring m1_Ring m2_Ring m3_Ring m5_Ring "ValueError.__new__"))
    (sa_Ring : PySem.W.findIn K (.ref CG) "__setattr__" = some (some (.builtin "object.__setattr__")))
    (ga_Ring : PySem.W.findIn K (.ref CG) "__getattribute__" = some (some (.builtin "BaseException.__getattribute__")))
    (gg_Ring : PySem.W.findIn K (.ref CG) "__getattr__" = some none)
    (kC_Ring : PySem.W.keepIn K (.ref CG) = true)
    (eC_Ring : PySem.W.subIn K (.ref CG) (.type "BaseException") = some true)
    (tC_Ring : PySem.W.typeIn K (.ref CG) = some (.type "type"))
    (hC_Ring : PySem.W.hasDictIn K CG = true)
    (iC_Ring : PySem.W.isClsIn K CG = true)
    (sC_Ring : PySem.W.subIn K (.ref CG) (.ref CG) = some true)
    (xL_BadShares : K.lookup CX = some (excClassObj nm_BadShares q_BadShares CX N_BadShares bs_BadShares [.ref CT, .type "ValueError", .type "Exception", .type "BaseException", .type "object"] true sn_BadShares sub_BadShares ab_BadShares col_BadShares dd_BadShares m0_BadShares m1_BadShares m2_BadShares m3_BadShares m5_BadShares "ValueError.__new__"))
    (sa_BadShares : PySem.W.findIn K (.ref CX) "__setattr__" = some (some (.builtin "object.__setattr__")))
    (ga_BadShares : PySem.W.findIn K (.ref CX) "__getattribute__" = some (some (.builtin "BaseException.__getattribute__")))
    (gg_BadShares : PySem.W.findIn K (.ref CX) "__getattr__" = some none)
    (kC_BadShares : PySem.W.keepIn K (.ref CX) = true)
    (eC_BadShares : PySem.W.subIn K (.ref CX) (.type "BaseException") = some true)
    (tC_BadShares : PySem.W.typeIn K (.ref CX) = some (.type "type"))
    (hC_BadShares : PySem.W.hasDictIn K CX = true)
    (iC_BadShares : PySem.W.isClsIn K CX = true)
    (sC_BadShares : PySem.W.subIn K (.ref CX) (.ref CX) = some true)
    (rd_Ratio : PySem.W.readsIn K CR (.type "type") = true)
    (rg_Ratio : PySem.W.specialIn K (.ref CR) "__getattribute__" = some (some (.builtin "type.__getattribute__")))
    (rd_ThrowError : PySem.W.readsIn K CT (.type "type") = true)
    (rg_ThrowError : PySem.W.specialIn K (.ref CT) "__getattribute__" = some (some (.builtin "type.__getattribute__")))
    (rv_ThrowError : PySem.W.findCls K (.ref CT) (.type "type") "__init__" = some (.val (.builtin "ValueError.__init__")))
    (a0 : PySem.W.nsIn K mainGlobals "_shown" = some (some (.ref f0)))
    (l0 : K.lookup f0 = some ⟨oc0, od0, .func (PySem.W.fnOf "_shown" "_shown" (defArgs s__shown) (defBody s__shown) (defScope s__shown) .none kV0 dc0 pm0 an0 cd0 ct0), sl0⟩)
    (c0 : PySem.W.codeIn K cd0 "_shown" = true)
    (k0 : PySem.W.keepIn K (.ref f0) = true)
    (a1 : PySem.W.findIn K (.ref CB) "__init__" = some (some (.ref f1)))
    (t1 : PySem.W.typeIn K (.ref f1) = some (.type "function"))
    (l1 : K.lookup f1 = some ⟨oc1, od1, .func (PySem.W.fnOf "__init__" "BadNumber.__init__" (defArgs s_BadNumber___init__) (defBody s_BadNumber___init__) (defScope s_BadNumber___init__) .none kV1 dc1 pm1 an1 cd1 ct1), sl1⟩)
    (c1 : PySem.W.codeIn K cd1 "BadNumber.__init__" = true)
    (k1 : PySem.W.keepIn K (.ref f1) = true)
    (a2 : PySem.W.findIn K (.ref CN) "__init__" = some (some (.ref f2)))
    (t2 : PySem.W.typeIn K (.ref f2) = some (.type "function"))
    (l2 : K.lookup f2 = some ⟨oc2, od2, .func (PySem.W.fnOf "__init__" "BadName.__init__" (defArgs s_BadName___init__) (defBody s_BadName___init__) (defScope s_BadName___init__) .none kV2 dc2 pm2 an2 cd2 ct2), sl2⟩)
    (c2 : PySem.W.codeIn K cd2 "BadName.__init__" = true)
    (k2 : PySem.W.keepIn K (.ref f2) = true)
    (a3 : PySem.W.findIn K (.ref CD) "__init__" = some (some (.ref f3)))
    (t3 : PySem.W.typeIn K (.ref f3) = some (.type "function"))
    (l3 : K.lookup f3 = some ⟨oc3, od3, .func (PySem.W.fnOf "__init__" "DuplicateName.__init__" (defArgs s_DuplicateName___init__) (defBody s_DuplicateName___init__) (defScope s_DuplicateName___init__) .none kV3 dc3 pm3 an3 cd3 ct3), sl3⟩)
    (c3 : PySem.W.codeIn K cd3 "DuplicateName.__init__" = true)
    (k3 : PySem.W.keepIn K (.ref f3) = true)
    (a4 : PySem.W.findIn K (.ref CU) "__init__" = some (some (.ref f4)))
    (t4 : PySem.W.typeIn K (.ref f4) = some (.type "function"))
    (l4 : K.lookup f4 = some ⟨oc4, od4, .func (PySem.W.fnOf "__init__" "UnknownName.__init__" (defArgs s_UnknownName___init__) (defBody s_UnknownName___init__) (defScope s_UnknownName___init__) .none kV4 dc4 pm4 an4 cd4 ct4), sl4⟩)
    (c4 : PySem.W.codeIn K cd4 "UnknownName.__init__" = true)
    (k4 : PySem.W.keepIn K (.ref f4) = true)
    (a5 : PySem.W.findIn K (.ref CG) "__init__" = some (some (.ref f5)))
    (t5 : PySem.W.typeIn K (.ref f5) = some (.type "function"))
    (l5 : K.lookup f5 = some ⟨oc5, od5, .func (PySem.W.fnOf "__init__" "Ring.__init__" (defArgs s_Ring___init__) (defBody s_Ring___init__) (defScope s_Ring___init__) .none kV5 dc5 pm5 an5 cd5 ct5), sl5⟩)
    (c5 : PySem.W.codeIn K cd5 "Ring.__init__" = true)
    (k5 : PySem.W.keepIn K (.ref f5) = true)
    (a6 : PySem.W.nsIn K mainGlobals "is_name" = some (some (.ref f6)))
    (l6 : K.lookup f6 = some ⟨oc6, od6, .func (PySem.W.fnOf "is_name" "is_name" (defArgs s_is_name) (defBody s_is_name) (defScope s_is_name) .none kV6 dc6 pm6 an6 cd6 ct6), sl6⟩)
    (c6 : PySem.W.codeIn K cd6 "is_name" = true)
    (k6 : PySem.W.keepIn K (.ref f6) = true)
    (a7 : PySem.W.nsIn K mainGlobals "check_names" = some (some (.ref f7)))
    (l7 : K.lookup f7 = some ⟨oc7, od7, .func (PySem.W.fnOf "check_names" "check_names" (defArgs s_check_names) (defBody s_check_names) (defScope s_check_names) .none kV7 dc7 pm7 an7 cd7 ct7), sl7⟩)
    (c7 : PySem.W.codeIn K cd7 "check_names" = true)
    (k7 : PySem.W.keepIn K (.ref f7) = true)
    (a8 : PySem.W.nsIn K mainGlobals "check_among" = some (some (.ref f8)))
    (l8 : K.lookup f8 = some ⟨oc8, od8, .func (PySem.W.fnOf "check_among" "check_among" (defArgs s_check_among) (defBody s_check_among) (defScope s_check_among) .none kV8 dc8 pm8 an8 cd8 ct8), sl8⟩)
    (c8 : PySem.W.codeIn K cd8 "check_among" = true)
    (k8 : PySem.W.keepIn K (.ref f8) = true)
    (a9 : PySem.W.nsIn K mainGlobals "_closure" = some (some (.ref f9)))
    (l9 : K.lookup f9 = some ⟨oc9, od9, .func (PySem.W.fnOf "_closure" "_closure" (defArgs s__closure) (defBody s__closure) (defScope s__closure) .none kV9 dc9 pm9 an9 cd9 ct9), sl9⟩)
    (c9 : PySem.W.codeIn K cd9 "_closure" = true)
    (k9 : PySem.W.keepIn K (.ref f9) = true)
    (a10 : PySem.W.findIn K (.ref CO) "pairs" = some (some (.ref f10)))
    (i10 : PySem.W.isFn K (.ref f10) = true)
    (l10 : K.lookup f10 = some ⟨oc10, od10, .func (PySem.W.fnOf "pairs" "Order.pairs" (defArgs s_Order_pairs) (defBody s_Order_pairs) (defScope s_Order_pairs) .none kV10 dc10 pm10 an10 cd10 ct10), sl10⟩)
    (c10 : PySem.W.codeIn K cd10 "Order.pairs" = true)
    (k10 : PySem.W.keepIn K (.ref f10) = true)
    (a11 : PySem.W.findIn K (.ref CO) "__init__" = some (some (.ref f11)))
    (i11 : PySem.W.isFn K (.ref f11) = true)
    (l11 : K.lookup f11 = some ⟨oc11, od11, .func (PySem.W.fnOf "__init__" "Order.__init__" (defArgs s_Order___init__) (defBody s_Order___init__) (defScope s_Order___init__) .none kV11 dc11 pm11 an11 cd11 ct11), sl11⟩)
    (c11 : PySem.W.codeIn K cd11 "Order.__init__" = true)
    (k11 : PySem.W.keepIn K (.ref f11) = true)
    (a12 : PySem.W.findIn K (.ref CO) "__contains__" = some (some (.ref f12)))
    (i12 : PySem.W.isFn K (.ref f12) = true)
    (l12 : K.lookup f12 = some ⟨oc12, od12, .func (PySem.W.fnOf "__contains__" "Order.__contains__" (defArgs s_Order___contains__) (defBody s_Order___contains__) (defScope s_Order___contains__) .none kV12 dc12 pm12 an12 cd12 ct12), sl12⟩)
    (c12 : PySem.W.codeIn K cd12 "Order.__contains__" = true)
    (k12 : PySem.W.keepIn K (.ref f12) = true)
    (a13 : PySem.W.findIn K (.ref CO) "__len__" = some (some (.ref f13)))
    (i13 : PySem.W.isFn K (.ref f13) = true)
    (l13 : K.lookup f13 = some ⟨oc13, od13, .func (PySem.W.fnOf "__len__" "Order.__len__" (defArgs s_Order___len__) (defBody s_Order___len__) (defScope s_Order___len__) .none kV13 dc13 pm13 an13 cd13 ct13), sl13⟩)
    (c13 : PySem.W.codeIn K cd13 "Order.__len__" = true)
    (k13 : PySem.W.keepIn K (.ref f13) = true)
    (a14 : PySem.W.nsIn K mainGlobals "decimal" = some (some (.ref f14)))
    (l14 : K.lookup f14 = some ⟨oc14, od14, .func (PySem.W.fnOf "decimal" "decimal" (defArgs s_decimal) (defBody s_decimal) (defScope s_decimal) .none kV14 dc14 pm14 an14 cd14 ct14), sl14⟩)
    (c14 : PySem.W.codeIn K cd14 "decimal" = true)
    (k14 : PySem.W.keepIn K (.ref f14) = true)
    (a15 : PySem.W.findIn K (.ref CR) "__str__" = some (some (.ref f15)))
    (i15 : PySem.W.isFn K (.ref f15) = true)
    (l15 : K.lookup f15 = some ⟨oc15, od15, .func (PySem.W.fnOf "__str__" "Ratio.__str__" (defArgs s_Ratio___str__) (defBody s_Ratio___str__) (defScope s_Ratio___str__) .none kV15 dc15 pm15 an15 cd15 ct15), sl15⟩)
    (c15 : PySem.W.codeIn K cd15 "Ratio.__str__" = true)
    (k15 : PySem.W.keepIn K (.ref f15) = true)
    (a16 : PySem.W.findIn K (.ref CX) "__init__" = some (some (.ref f16)))
    (t16 : PySem.W.typeIn K (.ref f16) = some (.type "function"))
    (l16 : K.lookup f16 = some ⟨oc16, od16, .func (PySem.W.fnOf "__init__" "BadShares.__init__" (defArgs s_BadShares___init__) (defBody s_BadShares___init__) (defScope s_BadShares___init__) .none kV16 dc16 pm16 an16 cd16 ct16), sl16⟩)
    (c16 : PySem.W.codeIn K cd16 "BadShares.__init__" = true)
    (k16 : PySem.W.keepIn K (.ref f16) = true)
    (a17 : PySem.W.findIn K (.ref CR) "__init__" = some (some (.ref f17)))
    (i17 : PySem.W.isFn K (.ref f17) = true)
    (l17 : K.lookup f17 = some ⟨oc17, od17, .func (PySem.W.fnOf "__init__" "Ratio.__init__" (defArgs s_Ratio___init__) (defBody s_Ratio___init__) (defScope s_Ratio___init__) .none kV17 dc17 pm17 an17 cd17 ct17), sl17⟩)
    (c17 : PySem.W.codeIn K cd17 "Ratio.__init__" = true)
    (k17 : PySem.W.keepIn K (.ref f17) = true)
    (a18 : PySem.W.findCls K (.ref CR) (.type "type") "whole" = some (.get (.builtin "classmethod.__get__") (.ref p18) .none (.ref CR)))
    (r18 : PySem.W.recIn K p18 "classmethod" = some (.ref f18 :: rs18))
    (i18 : PySem.W.fnIn K f18 = true)
    (l18 : K.lookup f18 = some ⟨oc18, od18, .func (PySem.W.fnOf "whole" "Ratio.whole" (defArgs s_Ratio_whole) (defBody s_Ratio_whole) (defScope s_Ratio_whole) .none kV18 dc18 pm18 an18 cd18 ct18), sl18⟩)
    (c18 : PySem.W.codeIn K cd18 "Ratio.whole" = true)
    (k18 : PySem.W.keepIn K (.ref f18) = true)
    (a19 : PySem.W.findIn K (.ref CO) "_is_ready" = some (some (.ref f19)))
    (i19 : PySem.W.isFn K (.ref f19) = true)
    (l19 : K.lookup f19 = some ⟨oc19, od19, .func (PySem.W.fnOf "_is_ready" "Order._is_ready" (defArgs s_Order__is_ready) (defBody s_Order__is_ready) (defScope s_Order__is_ready) .none kV19 dc19 pm19 an19 cd19 ct19), sl19⟩)
    (c19 : PySem.W.codeIn K cd19 "Order._is_ready" = true)
    (k19 : PySem.W.keepIn K (.ref f19) = true)
    (a20 : PySem.W.findIn K (.ref CO) "ups" = some (some (.ref f20)))
    (i20 : PySem.W.isFn K (.ref f20) = true)
    (l20 : K.lookup f20 = some ⟨oc20, od20, .func (PySem.W.fnOf "ups" "Order.ups" (defArgs s_Order_ups) (defBody s_Order_ups) (defScope s_Order_ups) .none kV20 dc20 pm20 an20 (.ref c_Order_ups) ct20), sl20⟩)
    (c20 : PySem.W.codeIn K (.ref c_Order_ups) "Order.ups" = true)
    (k20 : PySem.W.keepIn K (.ref f20) = true)
    (a21 : PySem.W.nsIn K mainGlobals "_law_pool" = some (some (.ref f21)))
    (l21 : K.lookup f21 = some ⟨oc21, od21, .func (PySem.W.fnOf "_law_pool" "_law_pool" (defArgs s__law_pool) (defBody s__law_pool) (defScope s__law_pool) .none kV21 dc21 pm21 an21 cd21 ct21), sl21⟩)
    (c21 : PySem.W.codeIn K cd21 "_law_pool" = true)
    (k21 : PySem.W.keepIn K (.ref f21) = true)
    (a22 : PySem.W.nsIn K mainGlobals "_law_take" = some (some (.ref f22)))
    (l22 : K.lookup f22 = some ⟨oc22, od22, .func (PySem.W.fnOf "_law_take" "_law_take" (defArgs s__law_take) (defBody s__law_take) (defScope s__law_take) .none kV22 dc22 pm22 an22 cd22 ct22), sl22⟩)
    (c22 : PySem.W.codeIn K cd22 "_law_take" = true)
    (k22 : PySem.W.keepIn K (.ref f22) = true)
    (a23 : PySem.W.nsIn K mainGlobals "_law_cell" = some (some (.ref f23)))
    (l23 : K.lookup f23 = some ⟨oc23, od23, .func (PySem.W.fnOf "_law_cell" "_law_cell" (defArgs s__law_cell) (defBody s__law_cell) (defScope s__law_cell) .none kV23 dc23 pm23 an23 cd23 ct23), sl23⟩)
    (c23 : PySem.W.codeIn K cd23 "_law_cell" = true)
    (k23 : PySem.W.keepIn K (.ref f23) = true)
    (a24 : PySem.W.nsIn K mainGlobals "_law_names" = some (some (.ref f24)))
    (l24 : K.lookup f24 = some ⟨oc24, od24, .func (PySem.W.fnOf "_law_names" "_law_names" (defArgs s__law_names) (defBody s__law_names) (defScope s__law_names) .none kV24 dc24 pm24 an24 cd24 ct24), sl24⟩)
    (c24 : PySem.W.codeIn K cd24 "_law_names" = true)
    (k24 : PySem.W.keepIn K (.ref f24) = true)
    (a25 : PySem.W.nsIn K mainGlobals "_law_pairs" = some (some (.ref f25)))
    (l25 : K.lookup f25 = some ⟨oc25, od25, .func (PySem.W.fnOf "_law_pairs" "_law_pairs" (defArgs s__law_pairs) (defBody s__law_pairs) (defScope s__law_pairs) .none kV25 dc25 pm25 an25 cd25 ct25), sl25⟩)
    (c25 : PySem.W.codeIn K cd25 "_law_pairs" = true)
    (k25 : PySem.W.keepIn K (.ref f25) = true)
    (a26 : PySem.W.nsIn K mainGlobals "_law_above" = some (some (.ref f26)))
    (l26 : K.lookup f26 = some ⟨oc26, od26, .func (PySem.W.fnOf "_law_above" "_law_above" (defArgs s__law_above) (defBody s__law_above) (defScope s__law_above) .none kV26 dc26 pm26 an26 cd26 ct26), sl26⟩)
    (c26 : PySem.W.codeIn K cd26 "_law_above" = true)
    (k26 : PySem.W.keepIn K (.ref f26) = true)
    (a27 : PySem.W.nsIn K mainGlobals "_law_covers" = some (some (.ref f27)))
    (l27 : K.lookup f27 = some ⟨oc27, od27, .func (PySem.W.fnOf "_law_covers" "_law_covers" (defArgs s__law_covers) (defBody s__law_covers) (defScope s__law_covers) .none kV27 dc27 pm27 an27 cd27 ct27), sl27⟩)
    (c27 : PySem.W.codeIn K cd27 "_law_covers" = true)
    (k27 : PySem.W.keepIn K (.ref f27) = true)
    (a28 : PySem.W.nsIn K mainGlobals "_least" = some (some (.ref f28)))
    (l28 : K.lookup f28 = some ⟨oc28, od28, .func (PySem.W.fnOf "_least" "_least" (defArgs s__least) (defBody s__least) (defScope s__least) .none kV28 dc28 pm28 an28 cd28 ct28), sl28⟩)
    (c28 : PySem.W.codeIn K cd28 "_least" = true)
    (k28 : PySem.W.keepIn K (.ref f28) = true)
    (a29 : PySem.W.findIn K (.ref CC) "__init__" = some (some (.ref f29)))
    (i29 : PySem.W.isFn K (.ref f29) = true)
    (l29 : K.lookup f29 = some ⟨oc29, od29, .func (PySem.W.fnOf "__init__" "Chance.__init__" (defArgs s_Chance___init__) (defBody s_Chance___init__) (defScope s_Chance___init__) .none kV29 dc29 pm29 an29 cd29 ct29), sl29⟩)
    (c29 : PySem.W.codeIn K cd29 "Chance.__init__" = true)
    (k29 : PySem.W.keepIn K (.ref f29) = true)
    (a30 : PySem.W.findIn K (.ref CC) "__iter__" = some (some (.ref f30)))
    (i30 : PySem.W.isFn K (.ref f30) = true)
    (l30 : K.lookup f30 = some ⟨oc30, od30, .func (PySem.W.fnOf "__iter__" "Chance.__iter__" (defArgs s_Chance___iter__) (defBody s_Chance___iter__) (defScope s_Chance___iter__) .none kV30 dc30 pm30 an30 cd30 ct30), sl30⟩)
    (c30 : PySem.W.codeIn K cd30 "Chance.__iter__" = true)
    (k30 : PySem.W.keepIn K (.ref f30) = true)
    (a31 : PySem.W.findIn K (.ref CC) "mass" = some (some (.ref f31)))
    (i31 : PySem.W.isFn K (.ref f31) = true)
    (l31 : K.lookup f31 = some ⟨oc31, od31, .func (PySem.W.fnOf "mass" "Chance.mass" (defArgs s_Chance_mass) (defBody s_Chance_mass) (defScope s_Chance_mass) .none kV31 dc31 pm31 an31 cd31 ct31), sl31⟩)
    (c31 : PySem.W.codeIn K cd31 "Chance.mass" = true)
    (k31 : PySem.W.keepIn K (.ref f31) = true)
    (a32 : PySem.W.findIn K (.ref CR) "under" = some (some (.ref f32)))
    (i32 : PySem.W.isFn K (.ref f32) = true)
    (l32 : K.lookup f32 = some ⟨oc32, od32, .func (PySem.W.fnOf "under" "Ratio.under" (defArgs s_Ratio_under) (defBody s_Ratio_under) (defScope s_Ratio_under) .none kV32 dc32 pm32 an32 cd32 ct32), sl32⟩)
    (c32 : PySem.W.codeIn K cd32 "Ratio.under" = true)
    (k32 : PySem.W.keepIn K (.ref f32) = true)
    (a33 : PySem.W.nsIn K mainGlobals "barring" = some (some (.ref f33)))
    (l33 : K.lookup f33 = some ⟨oc33, od33, .func (PySem.W.fnOf "barring" "barring" (defArgs s_barring) (defBody s_barring) (defScope s_barring) .none kV33 dc33 pm33 an33 cd33 ct33), sl33⟩)
    (c33 : PySem.W.codeIn K cd33 "barring" = true)
    (k33 : PySem.W.keepIn K (.ref f33) = true)
    (a34 : PySem.W.nsIn K mainGlobals "lower" = some (some (.ref f34)))
    (l34 : K.lookup f34 = some ⟨oc34, od34, .func (PySem.W.fnOf "lower" "lower" (defArgs s_lower) (defBody s_lower) (defScope s_lower) .none kV34 dc34 pm34 an34 cd34 ct34), sl34⟩)
    (c34 : PySem.W.codeIn K cd34 "lower" = true)
    (k34 : PySem.W.keepIn K (.ref f34) = true)
    (a35 : PySem.W.nsIn K mainGlobals "_law_weights" = some (some (.ref f35)))
    (l35 : K.lookup f35 = some ⟨oc35, od35, .func (PySem.W.fnOf "_law_weights" "_law_weights" (defArgs s__law_weights) (defBody s__law_weights) (defScope s__law_weights) .none kV35 dc35 pm35 an35 cd35 ct35), sl35⟩)
    (c35 : PySem.W.codeIn K cd35 "_law_weights" = true)
    (k35 : PySem.W.keepIn K (.ref f35) = true)
    (a36 : PySem.W.nsIn K mainGlobals "_law_raised" = some (some (.ref f36)))
    (l36 : K.lookup f36 = some ⟨oc36, od36, .func (PySem.W.fnOf "_law_raised" "_law_raised" (defArgs s__law_raised) (defBody s__law_raised) (defScope s__law_raised) .none kV36 dc36 pm36 an36 cd36 ct36), sl36⟩)
    (c36 : PySem.W.codeIn K cd36 "_law_raised" = true)
    (k36 : PySem.W.keepIn K (.ref f36) = true)
    (a37 : PySem.W.findIn K (.ref CR) "__add__" = some (some (.ref f37)))
    (i37 : PySem.W.isFn K (.ref f37) = true)
    (l37 : K.lookup f37 = some ⟨oc37, od37, .func (PySem.W.fnOf "__add__" "Ratio.__add__" (defArgs s_Ratio___add__) (defBody s_Ratio___add__) (defScope s_Ratio___add__) .none kV37 dc37 pm37 an37 cd37 ct37), sl37⟩)
    (c37 : PySem.W.codeIn K cd37 "Ratio.__add__" = true)
    (k37 : PySem.W.keepIn K (.ref f37) = true)
    (a38 : PySem.W.findIn K (.ref CR) "__eq__" = some (some (.ref f38)))
    (i38 : PySem.W.isFn K (.ref f38) = true)
    (l38 : K.lookup f38 = some ⟨oc38, od38, .func (PySem.W.fnOf "__eq__" "Ratio.__eq__" (defArgs s_Ratio___eq__) (defBody s_Ratio___eq__) (defScope s_Ratio___eq__) .none kV38 dc38 pm38 an38 cd38 ct38), sl38⟩)
    (c38 : PySem.W.codeIn K cd38 "Ratio.__eq__" = true)
    (k38 : PySem.W.keepIn K (.ref f38) = true)
    (a39 : PySem.W.nsIn K mainGlobals "total" = some (some (.ref f39)))
    (l39 : K.lookup f39 = some ⟨oc39, od39, .func (PySem.W.fnOf "total" "total" (defArgs s_total) (defBody s_total) (defScope s_total) .none kV39 dc39 pm39 an39 cd39 ct39), sl39⟩)
    (c39 : PySem.W.codeIn K cd39 "total" = true)
    (k39 : PySem.W.keepIn K (.ref f39) = true)
    (a40 : PySem.W.findIn K (.ref CC) "share" = some (some (.ref f40)))
    (i40 : PySem.W.isFn K (.ref f40) = true)
    (l40 : K.lookup f40 = some ⟨oc40, od40, .func (PySem.W.fnOf "share" "Chance.share" (defArgs s_Chance_share) (defBody s_Chance_share) (defScope s_Chance_share) .none kV40 dc40 pm40 an40 cd40 ct40), sl40⟩)
    (c40 : PySem.W.codeIn K cd40 "Chance.share" = true)
    (k40 : PySem.W.keepIn K (.ref f40) = true)
    (a41 : PySem.W.findIn K (.ref CC) "weights" = some (some (.ref f41)))
    (i41 : PySem.W.isFn K (.ref f41) = true)
    (l41 : K.lookup f41 = some ⟨oc41, od41, .func (PySem.W.fnOf "weights" "Chance.weights" (defArgs s_Chance_weights) (defBody s_Chance_weights) (defScope s_Chance_weights) .none kV41 dc41 pm41 an41 cd41 ct41), sl41⟩)
    (c41 : PySem.W.codeIn K cd41 "Chance.weights" = true)
    (k41 : PySem.W.keepIn K (.ref f41) = true)
    (a42 : PySem.W.findIn K (.ref CO) "__iter__" = some (some (.ref f42)))
    (i42 : PySem.W.isFn K (.ref f42) = true)
    (l42 : K.lookup f42 = some ⟨oc42, od42, .func (PySem.W.fnOf "__iter__" "Order.__iter__" (defArgs s_Order___iter__) (defBody s_Order___iter__) (defScope s_Order___iter__) .none kV42 dc42 pm42 an42 cd42 ct42), sl42⟩)
    (c42 : PySem.W.codeIn K cd42 "Order.__iter__" = true)
    (k42 : PySem.W.keepIn K (.ref f42) = true)
    (a43 : PySem.W.findIn K (.ref CO) "below" = some (some (.ref f43)))
    (i43 : PySem.W.isFn K (.ref f43) = true)
    (l43 : K.lookup f43 = some ⟨oc43, od43, .func (PySem.W.fnOf "below" "Order.below" (defArgs s_Order_below) (defBody s_Order_below) (defScope s_Order_below) .none kV43 dc43 pm43 an43 cd43 ct43), sl43⟩)
    (c43 : PySem.W.codeIn K cd43 "Order.below" = true)
    (k43 : PySem.W.keepIn K (.ref f43) = true)
    (a44 : PySem.W.nsIn K mainGlobals "_upward" = some (some (.ref f44)))
    (l44 : K.lookup f44 = some ⟨oc44, od44, .func (PySem.W.fnOf "_upward" "_upward" (defArgs s__upward) (defBody s__upward) (defScope s__upward) .none kV44 dc44 pm44 an44 cd44 ct44), sl44⟩)
    (c44 : PySem.W.codeIn K cd44 "_upward" = true)
    (k44 : PySem.W.keepIn K (.ref f44) = true)
    (a45 : PySem.W.nsIn K mainGlobals "_most" = some (some (.ref f45)))
    (l45 : K.lookup f45 = some ⟨oc45, od45, .func (PySem.W.fnOf "_most" "_most" (defArgs s__most) (defBody s__most) (defScope s__most) .none kV45 dc45 pm45 an45 cd45 ct45), sl45⟩)
    (c45 : PySem.W.codeIn K cd45 "_most" = true)
    (k45 : PySem.W.keepIn K (.ref f45) = true)
    (a46 : PySem.W.nsIn K mainGlobals "pair_table" = some (some (.ref f46)))
    (l46 : K.lookup f46 = some ⟨oc46, od46, .func (PySem.W.fnOf "pair_table" "pair_table" (defArgs s_pair_table) (defBody s_pair_table) (defScope s_pair_table) .none kV46 dc46 pm46 an46 cd46 ct46), sl46⟩)
    (c46 : PySem.W.codeIn K cd46 "pair_table" = true)
    (k46 : PySem.W.keepIn K (.ref f46) = true)
    (a47 : PySem.W.nsIn K mainGlobals "_can_stand" = some (some (.ref f47)))
    (l47 : K.lookup f47 = some ⟨oc47, od47, .func (PySem.W.fnOf "_can_stand" "_can_stand" (defArgs s__can_stand) (defBody s__can_stand) (defScope s__can_stand) .none kV47 dc47 pm47 an47 cd47 ct47), sl47⟩)
    (c47 : PySem.W.codeIn K cd47 "_can_stand" = true)
    (k47 : PySem.W.keepIn K (.ref f47) = true)
    (a48 : PySem.W.nsIn K mainGlobals "_adds_up" = some (some (.ref f48)))
    (l48 : K.lookup f48 = some ⟨oc48, od48, .func (PySem.W.fnOf "_adds_up" "_adds_up" (defArgs s__adds_up) (defBody s__adds_up) (defScope s__adds_up) .none kV48 dc48 pm48 an48 cd48 ct48), sl48⟩)
    (c48 : PySem.W.codeIn K cd48 "_adds_up" = true)
    (k48 : PySem.W.keepIn K (.ref f48) = true)
    (a49 : PySem.W.nsIn K mainGlobals "is_pair_table" = some (some (.ref f49)))
    (l49 : K.lookup f49 = some ⟨oc49, od49, .func (PySem.W.fnOf "is_pair_table" "is_pair_table" (defArgs s_is_pair_table) (defBody s_is_pair_table) (defScope s_is_pair_table) .none kV49 dc49 pm49 an49 cd49 ct49), sl49⟩)
    (c49 : PySem.W.codeIn K cd49 "is_pair_table" = true)
    (k49 : PySem.W.keepIn K (.ref f49) = true)
    (a50 : PySem.W.nsIn K mainGlobals "_law_told" = some (some (.ref f50)))
    (l50 : K.lookup f50 = some ⟨oc50, od50, .func (PySem.W.fnOf "_law_told" "_law_told" (defArgs s__law_told) (defBody s__law_told) (defScope s__law_told) .none kV50 dc50 pm50 an50 cd50 ct50), sl50⟩)
    (c50 : PySem.W.codeIn K cd50 "_law_told" = true)
    (k50 : PySem.W.keepIn K (.ref f50) = true)
    (a51 : PySem.W.nsIn K mainGlobals "_law_due" = some (some (.ref f51)))
    (l51 : K.lookup f51 = some ⟨oc51, od51, .func (PySem.W.fnOf "_law_due" "_law_due" (defArgs s__law_due) (defBody s__law_due) (defScope s__law_due) .none kV51 dc51 pm51 an51 cd51 ct51), sl51⟩)
    (c51 : PySem.W.codeIn K cd51 "_law_due" = true)
    (k51 : PySem.W.keepIn K (.ref f51) = true)
    (a52 : PySem.W.nsIn K mainGlobals "law" = some (some (.ref f52)))
    (l52 : K.lookup f52 = some ⟨oc52, od52, .func (PySem.W.fnOf "law" "law" (defArgs s_law) (defBody s_law) (defScope s_law) .none kV52 dc52 pm52 an52 cd52 ct52), sl52⟩)
    (c52 : PySem.W.codeIn K cd52 "law" = true)
    (k52 : PySem.W.keepIn K (.ref f52) = true)
    (z_abs : PySem.W.nsIn K mainGlobals "abs" = some none)
    (z_all : PySem.W.nsIn K mainGlobals "all" = some none)
    (z_any : PySem.W.nsIn K mainGlobals "any" = some none)
    (z_dict : PySem.W.nsIn K mainGlobals "dict" = some none)
    (z_divmod : PySem.W.nsIn K mainGlobals "divmod" = some none)
    (z_enumerate : PySem.W.nsIn K mainGlobals "enumerate" = some none)
    (z_int : PySem.W.nsIn K mainGlobals "int" = some none)
    (z_isinstance : PySem.W.nsIn K mainGlobals "isinstance" = some none)
    (z_iter : PySem.W.nsIn K mainGlobals "iter" = some none)
    (z_len : PySem.W.nsIn K mainGlobals "len" = some none)
    (z_list : PySem.W.nsIn K mainGlobals "list" = some none)
    (z_min : PySem.W.nsIn K mainGlobals "min" = some none)
    (z_range : PySem.W.nsIn K mainGlobals "range" = some none)
    (z_set : PySem.W.nsIn K mainGlobals "set" = some none)
    (z_sorted : PySem.W.nsIn K mainGlobals "sorted" = some none)
    (z_str : PySem.W.nsIn K mainGlobals "str" = some none)
    (z_sum : PySem.W.nsIn K mainGlobals "sum" = some none)
    (z_tuple : PySem.W.nsIn K mainGlobals "tuple" = some none)
    (w_ki_Ratio_int : PySem.W.subIn K (.ref CR) (.type "int") = some false)
    (z_gcd : PySem.W.nsIn K mainGlobals "gcd" = some (some (.builtin "math.gcd")))
    (g_DIGITS : PySem.W.nsIn K mainGlobals "DIGITS" = some (some (.str "0123456789" tk_DIGITS)))
    (g_LETTERS : PySem.W.nsIn K mainGlobals "LETTERS" = some (some (.str "abcdefghijklmnopqrstuvwxyz" tk_LETTERS)))
    (g_MOST_NAMES : PySem.W.nsIn K mainGlobals "MOST_NAMES" = some (some (.int 8 tk_MOST_NAMES)))
    (g_MOST_SIGNS : PySem.W.nsIn K mainGlobals "MOST_SIGNS" = some (some (.int 8 tk_MOST_SIGNS)))
    (w_na_Chance__sum : PySem.W.findIn K (.ref CC) "_sum" = some none)
    (w_na_Chance__weights : PySem.W.findIn K (.ref CC) "_weights" = some none)
    (w_na_Order__above : PySem.W.findIn K (.ref CO) "_above" = some none)
    (w_na_Order_names : PySem.W.findIn K (.ref CO) "names" = some none)
    (w_na_Ratio_bottom : PySem.W.findIn K (.ref CR) "bottom" = some none)
    (w_na_Ratio_top : PySem.W.findIn K (.ref CR) "top" = some none)
    (w_xn_BadName_name : PySem.W.findIn K (.ref CN) "name" = some none)
    (w_xn_BadNumber_n : PySem.W.findIn K (.ref CB) "n" = some none)
    (w_xn_BadShares_total : PySem.W.findIn K (.ref CX) "total" = some none)
    (w_xn_DuplicateName_name : PySem.W.findIn K (.ref CD) "name" = some none)
    (w_xn_Ring_names : PySem.W.findIn K (.ref CG) "names" = some none)
    (w_xn_UnknownName_name : PySem.W.findIn K (.ref CU) "name" = some none)
    : ∃ fd : FuncData, (∀ (s : Shared) (v : Value), BindsTo s fd ⟨[v], []⟩ [("_law_script", v)]) ∧ ∀ base : Heap, K.In base → base.Ns mainGlobals mg → (∀ p ∈ [(c_Order_ups, p_Order_ups)], LamX.TabB base mg p.1 p.2) → FnOk P w K mg base (L2.CX P w) 17 fa fd ["_law_script"] (spLaw K [(p_Order_ups, ZB.LQ "Order.ups")]) := by
  have e := hfa.symm.trans (PySem.W.mg_of X G a52)
  cases e
  have F0 := fun_mk (st := s__shown) l0 c0 k0
  have b0 := F0.binds (ps := ["n"]) fun _ _ _ _ _ _ us hl => match us, hl with | [_], _ => rfl
  have F1 := fun_mk (st := s_BadNumber___init__) l1 c1 k1
  have b1 := F1.binds (ps := ["self", "n"]) fun _ _ _ _ _ _ us hl => match us, hl with | [_, _], _ => rfl
  have F2 := fun_mk (st := s_BadName___init__) l2 c2 k2
  have b2 := F2.binds (ps := ["self", "name"]) fun _ _ _ _ _ _ us hl => match us, hl with | [_, _], _ => rfl
  have F3 := fun_mk (st := s_DuplicateName___init__) l3 c3 k3
  have b3 := F3.binds (ps := ["self", "name"]) fun _ _ _ _ _ _ us hl => match us, hl with | [_, _], _ => rfl
  have F4 := fun_mk (st := s_UnknownName___init__) l4 c4 k4
  have b4 := F4.binds (ps := ["self", "name"]) fun _ _ _ _ _ _ us hl => match us, hl with | [_, _], _ => rfl
  have F5 := fun_mk (st := s_Ring___init__) l5 c5 k5
  have b5 := F5.binds (ps := ["self", "names"]) fun _ _ _ _ _ _ us hl => match us, hl with | [_, _], _ => rfl
  have F6 := fun_mk (st := s_is_name) l6 c6 k6
  have b6 := F6.binds (ps := ["text"]) fun _ _ _ _ _ _ us hl => match us, hl with | [_], _ => rfl
  have F7 := fun_mk (st := s_check_names) l7 c7 k7
  have b7 := F7.binds (ps := ["names"]) fun _ _ _ _ _ _ us hl => match us, hl with | [_], _ => rfl
  have F8 := fun_mk (st := s_check_among) l8 c8 k8
  have b8 := F8.binds (ps := ["known", "names"]) fun _ _ _ _ _ _ us hl => match us, hl with | [_, _], _ => rfl
  have F9 := fun_mk (st := s__closure) l9 c9 k9
  have b9 := F9.binds (ps := ["names", "pairs"]) fun _ _ _ _ _ _ us hl => match us, hl with | [_, _], _ => rfl
  have F10 := fun_mk (st := s_Order_pairs) l10 c10 k10
  have b10 := F10.binds (ps := ["self"]) fun _ _ _ _ _ _ us hl => match us, hl with | [_], _ => rfl
  have F11 := fun_mk (st := s_Order___init__) l11 c11 k11
  have b11 := F11.binds (ps := ["self", "names", "pairs"]) fun _ _ _ _ _ _ us hl => match us, hl with | [_, _, _], _ => rfl
  have F12 := fun_mk (st := s_Order___contains__) l12 c12 k12
  have b12 := F12.binds (ps := ["self", "name"]) fun _ _ _ _ _ _ us hl => match us, hl with | [_, _], _ => rfl
  have F13 := fun_mk (st := s_Order___len__) l13 c13 k13
  have b13 := F13.binds (ps := ["self"]) fun _ _ _ _ _ _ us hl => match us, hl with | [_], _ => rfl
  have F14 := fun_mk (st := s_decimal) l14 c14 k14
  have b14 := F14.binds (ps := ["n"]) fun _ _ _ _ _ _ us hl => match us, hl with | [_], _ => rfl
  have F15 := fun_mk (st := s_Ratio___str__) l15 c15 k15
  have b15 := F15.binds (ps := ["self"]) fun _ _ _ _ _ _ us hl => match us, hl with | [_], _ => rfl
  have F16 := fun_mk (st := s_BadShares___init__) l16 c16 k16
  have b16 := F16.binds (ps := ["self", "total"]) fun _ _ _ _ _ _ us hl => match us, hl with | [_, _], _ => rfl
  have F17 := fun_mk (st := s_Ratio___init__) l17 c17 k17
  have b17 := F17.binds (ps := ["self", "top", "bottom"]) fun _ _ _ _ _ _ us hl => match us, hl with | [_, _, _], _ => rfl
  have F18 := fun_mk (st := s_Ratio_whole) l18 c18 k18
  have b18 := F18.binds (ps := ["cls", "n"]) fun _ _ _ _ _ _ us hl => match us, hl with | [_, _], _ => rfl
  have F19 := fun_mk (st := s_Order__is_ready) l19 c19 k19
  have b19 := F19.binds (ps := ["self", "name", "names"]) fun _ _ _ _ _ _ us hl => match us, hl with | [_, _, _], _ => rfl
  have F20 := ZB.funC_mk (st := s_Order_ups) l20 c20 k20
  have b20 := F20.fn.binds (ps := ["self"]) fun _ _ _ _ _ _ us hl => match us, hl with | [_], _ => rfl
  have F21 := fun_mk (st := s__law_pool) l21 c21 k21
  have b21 := F21.binds (ps := ["_law_cell_here"]) fun _ _ _ _ _ _ us hl => match us, hl with | [_], _ => rfl
  have F22 := fun_mk (st := s__law_take) l22 c22 k22
  have b22 := F22.binds (ps := ["_law_pool_here", "_law_limit"]) fun _ _ _ _ _ _ us hl => match us, hl with | [_, _], _ => rfl
  have F23 := fun_mk (st := s__law_cell) l23 c23 k23
  have b23 := F23.binds (ps := ["_law_script", "_law_k"]) fun _ _ _ _ _ _ us hl => match us, hl with | [_, _], _ => rfl
  have F24 := fun_mk (st := s__law_names) l24 c24 k24
  have b24 := F24.binds (ps := ["_law_pool_here", "_law_many"]) fun _ _ _ _ _ _ us hl => match us, hl with | [_, _], _ => rfl
  have F25 := fun_mk (st := s__law_pairs) l25 c25 k25
  have b25 := F25.binds (ps := ["_law_pool_here", "_law_names_here"]) fun _ _ _ _ _ _ us hl => match us, hl with | [_, _], _ => rfl
  have F26 := fun_mk (st := s__law_above) l26 c26 k26
  have b26 := F26.binds (ps := ["_law_names_here", "_law_pairs_here"]) fun _ _ _ _ _ _ us hl => match us, hl with | [_, _], _ => rfl
  have F27 := fun_mk (st := s__law_covers) l27 c27 k27
  have b27 := F27.binds (ps := ["_law_names_here", "_law_above_here"]) fun _ _ _ _ _ _ us hl => match us, hl with | [_, _], _ => rfl
  have F28 := fun_mk (st := s__least) l28 c28 k28
  have b28 := F28.binds (ps := ["weights"]) fun _ _ _ _ _ _ us hl => match us, hl with | [_], _ => rfl
  have F29 := fun_mk (st := s_Chance___init__) l29 c29 k29
  have b29 := F29.binds (ps := ["self", "weights"]) fun _ _ _ _ _ _ us hl => match us, hl with | [_, _], _ => rfl
  have F30 := fun_mk (st := s_Chance___iter__) l30 c30 k30
  have b30 := F30.binds (ps := ["self"]) fun _ _ _ _ _ _ us hl => match us, hl with | [_], _ => rfl
  have F31 := fun_mk (st := s_Chance_mass) l31 c31 k31
  have b31 := F31.binds (ps := ["self", "names"]) fun _ _ _ _ _ _ us hl => match us, hl with | [_, _], _ => rfl
  have F32 := fun_mk (st := s_Ratio_under) l32 c32 k32
  have b32 := F32.binds (ps := ["self", "other"]) fun _ _ _ _ _ _ us hl => match us, hl with | [_, _], _ => rfl
  have F33 := fun_mk (st := s_barring) l33 c33 k33
  have b33 := F33.binds (ps := ["order", "low", "high"]) fun _ _ _ _ _ _ us hl => match us, hl with | [_, _, _], _ => rfl
  have F34 := fun_mk (st := s_lower) l34 c34 k34
  have b34 := F34.binds (ps := ["order", "low", "high"]) fun _ _ _ _ _ _ us hl => match us, hl with | [_, _, _], _ => rfl
  have F35 := fun_mk (st := s__law_weights) l35 c35 k35
  have b35 := F35.binds (ps := ["_law_pool_here", "_law_names_here"]) fun _ _ _ _ _ _ us hl => match us, hl with | [_, _], _ => rfl
  have F36 := fun_mk (st := s__law_raised) l36 c36 k36
  have b36 := F36.binds (ps := ["_law_pool_here", "_law_weights_here", "_law_above_here"]) fun _ _ _ _ _ _ us hl => match us, hl with | [_, _, _], _ => rfl
  have F37 := fun_mk (st := s_Ratio___add__) l37 c37 k37
  have b37 := F37.binds (ps := ["self", "other"]) fun _ _ _ _ _ _ us hl => match us, hl with | [_, _], _ => rfl
  have F38 := fun_mk (st := s_Ratio___eq__) l38 c38 k38
  have b38 := F38.binds (ps := ["self", "other"]) fun _ _ _ _ _ _ us hl => match us, hl with | [_, _], _ => rfl
  have F39 := fun_mk (st := s_total) l39 c39 k39
  have b39 := F39.binds (ps := ["ratios"]) fun _ _ _ _ _ _ us hl => match us, hl with | [_], _ => rfl
  have F40 := fun_mk (st := s_Chance_share) l40 c40 k40
  have b40 := F40.binds (ps := ["self", "name"]) fun _ _ _ _ _ _ us hl => match us, hl with | [_, _], _ => rfl
  have F41 := fun_mk (st := s_Chance_weights) l41 c41 k41
  have b41 := F41.binds (ps := ["self"]) fun _ _ _ _ _ _ us hl => match us, hl with | [_], _ => rfl
  have F42 := fun_mk (st := s_Order___iter__) l42 c42 k42
  have b42 := F42.binds (ps := ["self"]) fun _ _ _ _ _ _ us hl => match us, hl with | [_], _ => rfl
  have F43 := fun_mk (st := s_Order_below) l43 c43 k43
  have b43 := F43.binds (ps := ["self", "low", "high"]) fun _ _ _ _ _ _ us hl => match us, hl with | [_, _, _], _ => rfl
  have F44 := fun_mk (st := s__upward) l44 c44 k44
  have b44 := F44.binds (ps := ["order"]) fun _ _ _ _ _ _ us hl => match us, hl with | [_], _ => rfl
  have F45 := fun_mk (st := s__most) l45 c45 k45
  have b45 := F45.binds (ps := ["ups", "give", "take", "first", "second"]) fun _ _ _ _ _ _ us hl => match us, hl with | [_, _, _, _, _], _ => rfl
  have F46 := fun_mk (st := s_pair_table) l46 c46 k46
  have b46 := F46.binds (ps := ["order", "low", "high"]) fun _ _ _ _ _ _ us hl => match us, hl with | [_, _, _], _ => rfl
  have F47 := fun_mk (st := s__can_stand) l47 c47 k47
  have b47 := F47.binds (ps := ["order", "first", "second", "share"]) fun _ _ _ _ _ _ us hl => match us, hl with | [_, _, _, _], _ => rfl
  have F48 := fun_mk (st := s__adds_up) l48 c48 k48
  have b48 := F48.binds (ps := ["order", "chance", "parts"]) fun _ _ _ _ _ _ us hl => match us, hl with | [_, _, _], _ => rfl
  have F49 := fun_mk (st := s_is_pair_table) l49 c49 k49
  have b49 := F49.binds (ps := ["order", "low", "high", "rows"]) fun _ _ _ _ _ _ us hl => match us, hl with | [_, _, _, _], _ => rfl
  have F50 := fun_mk (st := s__law_told) l50 c50 k50
  have b50 := F50.binds (ps := ["_law_which", "_law_order", "_law_low", "_law_high"]) fun _ _ _ _ _ _ us hl => match us, hl with | [_, _, _, _], _ => rfl
  have F51 := fun_mk (st := s__law_due) l51 c51 k51
  have b51 := F51.binds (ps := ["_law_names_here", "_law_low", "_law_high"]) fun _ _ _ _ _ _ us hl => match us, hl with | [_, _, _], _ => rfl
  have F52 := fun_mk (st := s_law) l52 c52 k52
  refine ⟨PySem.W.fnOf "law" "law" (defArgs s_law) (defBody s_law) (defScope s_law) .none kV52 dc52 pm52 an52 cd52 ct52, fun s v => .of_eq rfl, fun base _ _ hTB => ?_⟩
  have C_b_abs := PySem.W.mg_none_of X G z_abs
  have C_b_all := PySem.W.mg_none_of X G z_all
  have C_b_any := PySem.W.mg_none_of X G z_any
  have C_b_dict := PySem.W.mg_none_of X G z_dict
  have C_b_divmod := PySem.W.mg_none_of X G z_divmod
  have C_b_enumerate := PySem.W.mg_none_of X G z_enumerate
  have C_b_int := PySem.W.mg_none_of X G z_int
  have C_b_isinstance := PySem.W.mg_none_of X G z_isinstance
  have C_b_iter := PySem.W.mg_none_of X G z_iter
  have C_b_len := PySem.W.mg_none_of X G z_len
  have C_b_list := PySem.W.mg_none_of X G z_list
  have C_b_min := PySem.W.mg_none_of X G z_min
  have C_b_range := PySem.W.mg_none_of X G z_range
  have C_b_set := PySem.W.mg_none_of X G z_set
  have C_b_sorted := PySem.W.mg_none_of X G z_sorted
  have C_b_str := PySem.W.mg_none_of X G z_str
  have C_b_sum := PySem.W.mg_none_of X G z_sum
  have C_b_tuple := PySem.W.mg_none_of X G z_tuple
  have C_c_Chance : ClO K CC := ⟨⟨pg_Chance, hd_Chance, po_Chance, sa_Chance⟩, ha_Chance, hn, htk, hm_Chance⟩
  have C_c_Order : ClO K CO := ⟨⟨pg_Order, hd_Order, po_Order, sa_Order⟩, ha_Order, hn, htk, hm_Order⟩
  have C_c_Ratio : ClO K CR := ⟨⟨pg_Ratio, hd_Ratio, po_Ratio, sa_Ratio⟩, ha_Ratio, hn, htk, hm_Ratio⟩
  have C_gRatio := PySem.W.mg_of X G aC_Ratio
  have C_gUnknownName := PySem.W.mg_of X G aC_UnknownName
  have C_ki_Ratio_Ratio : PySem.W.kitOne K (.ref CR) (.ref CR) = some true := kit_self
  have C_ki_Ratio_int : PySem.W.kitOne K (.ref CR) (.type "int") = some false := kit_b (by decide +kernel) w_ki_Ratio_int
  have C_m_gcd := PySem.W.mg_of X G z_gcd
  have C_n_DIGITS := PySem.W.mg_of X G g_DIGITS
  have C_n_LETTERS := PySem.W.mg_of X G g_LETTERS
  have C_n_MOST_NAMES := PySem.W.mg_of X G g_MOST_NAMES
  have C_n_MOST_SIGNS := PySem.W.mg_of X G g_MOST_SIGNS
  have C_na_Chance__sum : NoAttr K CC "_sum" := w_na_Chance__sum
  have C_na_Chance__weights : NoAttr K CC "_weights" := w_na_Chance__weights
  have C_na_Order__above : NoAttr K CO "_above" := w_na_Order__above
  have C_na_Order_names : NoAttr K CO "names" := w_na_Order_names
  have C_na_Ratio_bottom : NoAttr K CR "bottom" := w_na_Ratio_bottom
  have C_na_Ratio_top : NoAttr K CR "top" := w_na_Ratio_top
  have C_ox_BadName : OexC K CN := ⟨⟨_, _, _, _, _, _, _, _, _, _, _, _, _, _, _, xL_BadName, refs_ve _⟩, sa_BadName, eC_BadName, tC_BadName, kC_BadName⟩
  have C_ox_BadNumber : OexC K CB := ⟨⟨_, _, _, _, _, _, _, _, _, _, _, _, _, _, _, xL_BadNumber, refs_ve _⟩, sa_BadNumber, eC_BadNumber, tC_BadNumber, kC_BadNumber⟩
  have C_ox_BadShares : OexC K CX := ⟨⟨_, _, _, _, _, _, _, _, _, _, _, _, _, _, _, xL_BadShares, refs_ve _⟩, sa_BadShares, eC_BadShares, tC_BadShares, kC_BadShares⟩
  have C_ox_DuplicateName : OexC K CD := ⟨⟨_, _, _, _, _, _, _, _, _, _, _, _, _, _, _, xL_DuplicateName, refs_ve _⟩, sa_DuplicateName, eC_DuplicateName, tC_DuplicateName, kC_DuplicateName⟩
  have C_ox_Ring : OexC K CG := ⟨⟨_, _, _, _, _, _, _, _, _, _, _, _, _, _, _, xL_Ring, refs_ve _⟩, sa_Ring, eC_Ring, tC_Ring, kC_Ring⟩
  have C_ox_UnknownName : OexC K CU := ⟨⟨_, _, _, _, _, _, _, _, _, _, _, _, _, _, _, xL_UnknownName, refs_ve _⟩, sa_UnknownName, eC_UnknownName, tC_UnknownName, kC_UnknownName⟩
  have C_t_ThrowError : CalT K mg "ThrowError" := mk_calT X G aC_ThrowError ⟨rd_ThrowError, rg_ThrowError⟩ rv_ThrowError
  have C_tb_Order_ups : LamX.TabB base mg c_Order_ups p_Order_ups := hTB (c_Order_ups, p_Order_ups) (by simp)
  have C_tm_Order_ups : ZB.TabM [(p_Order_ups, ZB.LQ "Order.ups")] p_Order_ups (ZB.LQ "Order.ups") := ZB.tabM_one
  have C_xf_Ring : XfC K CG := ⟨ga_Ring, gg_Ring, eC_Ring, hC_Ring⟩
  have C_xf_UnknownName : XfC K CU := ⟨ga_UnknownName, gg_UnknownName, eC_UnknownName, hC_UnknownName⟩
  have C_xm_UnknownName : PySem.W.exmOne K (.ref CU) (.ref CU) = some true := exm_in eC_UnknownName iC_UnknownName tC_UnknownName sC_UnknownName
  have C_xn_BadName_name : PySem.W.findIn K (.ref CN) "name" = some none := w_xn_BadName_name
  have C_xn_BadNumber_n : PySem.W.findIn K (.ref CB) "n" = some none := w_xn_BadNumber_n
  have C_xn_BadShares_total : PySem.W.findIn K (.ref CX) "total" = some none := w_xn_BadShares_total
  have C_xn_DuplicateName_name : PySem.W.findIn K (.ref CD) "name" = some none := w_xn_DuplicateName_name
  have C_xn_Ring_names : PySem.W.findIn K (.ref CG) "names" = some none := w_xn_Ring_names
  have C_xn_UnknownName_name : PySem.W.findIn K (.ref CU) "name" = some none := w_xn_UnknownName_name
  have G_BadName___init__ : FnOk P w K mg base (L2.CX P w) 1 f2 _ _ (spX1 K CN "name" GStW) := ok_BadName___init__ F2 C_ox_BadName C_t_ThrowError C_xn_BadName_name
  have C_x_BadName : CalX P w K mg base "BadName" CN 1 ["self", "name"] (spX1 K CN "name" GStW) := mk_calX X G aC_BadName C_ox_BadName a2 t2 G_BadName___init__ b2
  have G_DuplicateName___init__ : FnOk P w K mg base (L2.CX P w) 1 f3 _ _ (spX1 K CD "name" GStW) := ok_DuplicateName___init__ F3 C_ox_DuplicateName C_t_ThrowError C_xn_DuplicateName_name
  have C_x_DuplicateName : CalX P w K mg base "DuplicateName" CD 1 ["self", "name"] (spX1 K CD "name" GStW) := mk_calX X G aC_DuplicateName C_ox_DuplicateName a3 t3 G_DuplicateName___init__ b3
  have G_UnknownName___init__ : FnOk P w K mg base (L2.CX P w) 1 f4 _ _ (spX1 K CU "name" GStW) := ok_UnknownName___init__ F4 C_ox_UnknownName C_t_ThrowError C_xn_UnknownName_name
  have C_x_UnknownName : CalX P w K mg base "UnknownName" CU 1 ["self", "name"] (spX1 K CU "name" GStW) := mk_calX X G aC_UnknownName C_ox_UnknownName a4 t4 G_UnknownName___init__ b4
  have G_Ring___init__ : FnOk P w K mg base (L2.CX P w) 1 f5 _ _ (spXR K CG) := ok_Ring___init__ F5 C_b_list C_ox_Ring C_t_ThrowError C_xf_Ring C_xn_Ring_names
  have C_x_Ring : CalX P w K mg base "Ring" CG 1 ["self", "names"] (spXR K CG) := mk_calX X G aC_Ring C_ox_Ring a5 t5 G_Ring___init__ b5
  have G_is_name : FnOk P w K mg base (L2.CX P w) 1 f6 _ _ spIsName := ok_is_name F6 C_b_all C_b_len C_n_DIGITS C_n_LETTERS C_n_MOST_SIGNS
  have C_f_is_name : Cal P w K mg base "is_name" 1 spIsName := mk_cal X G a6 k6 G_is_name b6
  have G__closure : FnOk P w K mg base (L2.CX P w) 1 f9 _ _ (spClosure K) := ok__closure F9 C_b_sorted C_b_tuple
  have C_f_closure : Cal P w K mg base "_closure" 1 (spClosure K) := mk_cal X G a9 k9 G__closure b9
  have G_Order_pairs : FnOk P w K mg base (L2.CX P w) 1 f10 _ _ (spPairs CO) := ok_Order_pairs F10 C_c_Order C_na_Order__above C_na_Order_names
  have C_m_Order_pairs : CalM P w K mg base CO "pairs" 1 (spPairs CO) := mk_calM ⟨a10, i10, k10⟩ G_Order_pairs b10
  have G_Order___contains__ : FnOk P w K mg base (L2.CX P w) 1 f12 _ _ (spOIn CO) := ok_Order___contains__ F12 C_c_Order C_na_Order__above C_na_Order_names
  have C_o_Order_contains : CalO P w K mg base CO "__contains__" 1 (spOIn CO) := mk_calO a12 i12 sf_Order G_Order___contains__ b12
  have G_Order___len__ : FnOk P w K mg base (L2.CX P w) 1 f13 _ _ (spOLen CO) := ok_Order___len__ F13 C_b_len C_c_Order C_na_Order__above C_na_Order_names
  have G_decimal : FnOk P w K mg base (L2.CX P w) 1 f14 _ _ spDec := ok_decimal F14 C_b_abs C_b_divmod C_b_str
  have C_f_decimal : Cal P w K mg base "decimal" 1 spDec := mk_cal X G a14 k14 G_decimal b14
  have G_Order__is_ready : FnOk P w K mg base (L2.CX P w) 1 f19 _ _ (spReady K CO) := ok_Order__is_ready F19 C_b_all C_c_Order C_na_Order__above C_na_Order_names
  have C_m_Order__is_ready : CalM P w K mg base CO "_is_ready" 1 (spReady K CO) := mk_calM ⟨a19, i19, k19⟩ G_Order__is_ready b19
  have G__law_pool : FnOk P w K mg base (L2.CX P w) 1 f21 _ _ spPool := ok__law_pool F21
  have C_f_law_pool : Cal P w K mg base "_law_pool" 1 spPool := mk_cal X G a21 k21 G__law_pool b21
  have G__law_take : FnOk P w K mg base (L2.CX P w) 1 f22 _ _ spTake := ok__law_take F22 C_b_int
  have C_f_law_take : Cal P w K mg base "_law_take" 1 spTake := mk_cal X G a22 k22 G__law_take b22
  have G__law_cell : FnOk P w K mg base (L2.CX P w) 1 f23 _ _ (spCell K) := ok__law_cell F23 C_b_len
  have C_f_law_cell : Cal P w K mg base "_law_cell" 1 (spCell K) := mk_cal X G a23 k23 G__law_cell b23
  have G__law_above : FnOk P w K mg base (L2.CX P w) 1 f26 _ _ (spAbove K) := ok__law_above F26 C_b_len C_b_range
  have C_f_law_above : Cal P w K mg base "_law_above" 1 (spAbove K) := mk_cal X G a26 k26 G__law_above b26
  have G__law_covers : FnOk P w K mg base (L2.CX P w) 1 f27 _ _ (spLCov K) := ok__law_covers F27 C_b_sorted
  have C_f_law_covers : Cal P w K mg base "_law_covers" 1 (spLCov K) := mk_cal X G a27 k27 G__law_covers b27
  have G__least : FnOk P w K mg base (L2.CX P w) 1 f28 _ _ (spLeast K) := ok__least F28 C_b_sorted C_m_gcd
  have C_f_least : Cal P w K mg base "_least" 1 (spLeast K) := mk_cal X G a28 k28 G__least b28
  have C_it_Chance : ItO P w K mg base CC 1 (spCIter CC) := ⟨_, ⟨a30, i30⟩, okT_Chance___iter__ F30 C_b_iter C_c_Chance C_na_Chance__sum C_na_Chance__weights b30⟩
  have G_Ratio_under : FnOk P w K mg base (L2.CX P w) 1 f32 _ _ (spRUnder CR) := ok_Ratio_under F32 C_c_Ratio C_na_Ratio_bottom C_na_Ratio_top
  have C_m_Ratio_under : CalM P w K mg base CR "under" 1 (spRUnder CR) := mk_calM ⟨a32, i32, k32⟩ G_Ratio_under b32
  have G_Ratio___eq__ : FnOk P w K mg base (L2.CX P w) 1 f38 _ _ (spREq K CR) := ok_Ratio___eq__ F38 C_b_isinstance C_c_Ratio C_gRatio C_ki_Ratio_Ratio C_na_Ratio_bottom C_na_Ratio_top
  have C_o_Ratio_eq : CalO P w K mg base CR "__eq__" 1 (spREq K CR) := mk_calO a38 i38 sf_Ratio G_Ratio___eq__ b38
  have G_Chance_weights : FnOk P w K mg base (L2.CX P w) 1 f41 _ _ (spWeights CC) := ok_Chance_weights F41 C_b_dict C_c_Chance C_na_Chance__sum C_na_Chance__weights
  have C_m_Chance_weights : CalM P w K mg base CC "weights" 1 (spWeights CC) := mk_calM ⟨a41, i41, k41⟩ G_Chance_weights b41
  have C_it_Order : ItO P w K mg base CO 1 (spOIterT CO) := ⟨_, ⟨a42, i42⟩, okT_Order___iter__ F42 C_b_iter C_c_Order C_na_Order__above C_na_Order_names b42⟩
  have G__most : FnOk P w K mg base (L2.CX P w) 1 f45 _ _ (spMost K) := ok__most F45 C_b_min C_b_sum
  have C_f_most : Cal P w K mg base "_most" 1 (spMost K) := mk_cal X G a45 k45 G__most b45
  have G_Ratio___str__ : FnOk P w K mg base (L2.CX P w) 2 f15 _ _ (spRStr CR) := ok_Ratio___str__ F15 C_c_Ratio C_f_decimal C_na_Ratio_bottom C_na_Ratio_top
  have C_o_Ratio_str : CalO P w K mg base CR "__str__" 2 (spRStr CR) := mk_calO a15 i15 sf_Ratio G_Ratio___str__ b15
  have G__law_names : FnOk P w K mg base (L2.CX P w) 2 f24 _ _ spNames := ok__law_names F24 C_b_len C_b_range C_f_law_take
  have C_f_law_names : Cal P w K mg base "_law_names" 2 spNames := mk_cal X G a24 k24 G__law_names b24
  have G__law_pairs : FnOk P w K mg base (L2.CX P w) 2 f25 _ _ spLPairs := ok__law_pairs F25 C_b_len C_b_list C_b_range C_f_law_take
  have C_f_law_pairs : Cal P w K mg base "_law_pairs" 2 spLPairs := mk_cal X G a25 k25 G__law_pairs b25
  have G__law_weights : FnOk P w K mg base (L2.CX P w) 2 f35 _ _ spWts := ok__law_weights F35 C_b_len C_f_law_take
  have C_f_law_weights : Cal P w K mg base "_law_weights" 2 spWts := mk_cal X G a35 k35 G__law_weights b35
  have G__law_raised : FnOk P w K mg base (L2.CX P w) 2 f36 _ _ (spRaised K) := ok__law_raised F36 C_b_dict C_b_len C_b_list C_b_range C_b_sorted C_f_law_take
  have C_f_law_raised : Cal P w K mg base "_law_raised" 2 (spRaised K) := mk_cal X G a36 k36 G__law_raised b36
  have G__law_due : FnOk P w K mg base (L2.CX P w) 2 f51 _ _ (spDue K) := ok__law_due F51 C_b_list C_b_sorted
  have C_f_law_due : Cal P w K mg base "_law_due" 2 (spDue K) := mk_cal X G a51 k51 G__law_due b51
  have G_check_names : FnOk P w K mg base (L2.CX P w) 3 f7 _ _ (spCheckG K CN CD) := ok_check_names F7 C_b_enumerate C_f_is_name C_x_BadName C_x_DuplicateName
  have C_f_check_names : Cal P w K mg base "check_names" 3 (spCheckG K CN CD) := mk_cal X G a7 k7 G_check_names b7
  have G_check_among : FnOk P w K mg base (L2.CX P w) 3 f8 _ _ (spAmW K CU) := ok_check_among F8 C_x_UnknownName
  have C_f_check_among : Cal P w K mg base "check_among" 3 (spAmW K CU) := mk_cal X G a8 k8 G_check_among b8
  have G_check_among__C : FnOk P w K mg base (L2.CX P w) 3 f8 _ _ (spAmC CO CC CU) := ok_check_among__C F8 C_it_Chance C_o_Order_contains C_x_UnknownName
  have C_f_check_among__C : Cal P w K mg base "check_among" 3 (spAmC CO CC CU) := mk_cal X G a8 k8 G_check_among__C b8
  have G_Order_ups : FnOk P w K mg base (L2.CX P w) 4 f20 _ _ (spUps K CO [(p_Order_ups, ZB.LQ "Order.ups")]) := ok_Order_ups F20 C_b_len C_b_sorted C_b_tuple C_c_Order C_m_Order__is_ready C_na_Order__above C_na_Order_names C_tb_Order_ups C_tm_Order_ups
  have C_m_Order_ups : CalM P w K mg base CO "ups" 4 (spUps K CO [(p_Order_ups, ZB.LQ "Order.ups")]) := mk_calM ⟨a20, i20, k20⟩ G_Order_ups b20
  have G_Order_below : FnOk P w K mg base (L2.CX P w) 4 f43 _ _ (spBelowW CO CU) := ok_Order_below F43 C_c_Order C_f_check_among C_na_Order__above C_na_Order_names
  have C_m_Order_below : CalM P w K mg base CO "below" 4 (spBelowW CO CU) := mk_calM ⟨a43, i43, k43⟩ G_Order_below b43
  have G__shown : FnOk P w K mg base (L2.CX P w) 5 f0 _ _ (spShownA CR) := ok__shown F0 C_b_int C_b_isinstance C_b_str C_c_Ratio C_ki_Ratio_int C_na_Ratio_bottom C_na_Ratio_top C_o_Ratio_str
  have C_f_shown : Cal P w K mg base "_shown" 5 (spShownA CR) := mk_cal X G a0 k0 G__shown b0
  have G__upward : FnOk P w K mg base (L2.CX P w) 5 f44 _ _ (spUpw CO) := ok__upward F44 C_c_Order C_it_Order C_m_Order_below
  have C_f_upward : Cal P w K mg base "_upward" 5 (spUpw CO) := mk_cal X G a44 k44 G__upward b44
  have G__can_stand : FnOk P w K mg base (L2.CX P w) 5 f47 _ _ spNoC := ok__can_stand F47
  have C_f_can_stand : Cal P w K mg base "_can_stand" 5 spNoC := mk_cal X G a47 k47 G__can_stand b47
  have G_BadNumber___init__ : FnOk P w K mg base (L2.CX P w) 6 f1 _ _ (spX1 K CB "n" (GNum CR)) := ok_BadNumber___init__ F1 C_f_shown C_ox_BadNumber C_t_ThrowError C_xn_BadNumber_n
  have C_x_BadNumber : CalX P w K mg base "BadNumber" CB 6 ["self", "n"] (spX1 K CB "n" (GNum CR)) := mk_calX X G aC_BadNumber C_ox_BadNumber a1 t1 G_BadNumber___init__ b1
  have G_BadShares___init__ : FnOk P w K mg base (L2.CX P w) 6 f16 _ _ (spX1 K CX "total" (GNum CR)) := ok_BadShares___init__ F16 C_f_shown C_ox_BadShares C_t_ThrowError C_xn_BadShares_total
  have C_x_BadShares : CalX P w K mg base "BadShares" CX 6 ["self", "total"] (spX1 K CX "total" (GNum CR)) := mk_calX X G aC_BadShares C_ox_BadShares a16 t16 G_BadShares___init__ b16
  have G_Order___init__ : FnOk P w K mg base (L2.CX P w) 8 f11 _ _ (spOInitG K CO CB CN CD CU CG) := ok_Order___init__ F11 C_b_any C_b_len C_b_sorted C_b_tuple C_c_Order C_f_check_among C_f_check_names C_f_closure C_m_Order_pairs C_n_MOST_NAMES C_na_Order__above C_na_Order_names C_x_BadNumber C_x_Ring
  have C_i_Order : CalI P w K mg base "Order" CO 8 (spOInitG K CO CB CN CD CU CG) := mk_calI X G aC_Order ⟨mk_Order, a11, i11, kc_Order⟩ G_Order___init__ b11
  have G_Ratio___init__ : FnOk P w K mg base (L2.CX P w) 8 f17 _ _ (spRInit CR CB) := ok_Ratio___init__ F17 C_c_Ratio C_m_gcd C_na_Ratio_bottom C_na_Ratio_top C_x_BadNumber
  have C_i_Ratio : CalI P w K mg base "Ratio" CR 8 (spRInit CR CB) := mk_calI X G aC_Ratio ⟨mk_Ratio, a17, i17, kc_Ratio⟩ G_Ratio___init__ b17
  have G_Ratio_whole : FnOk P w K mg base (L2.CX P w) 10 f18 _ _ (spRWhole CR) := ok_Ratio_whole F18 C_i_Ratio
  have C_k_Ratio_whole : CalK P w K mg base CR "whole" 10 (spRWhole CR) := mk_calK ⟨rd_Ratio, rg_Ratio⟩ ⟨a18, ⟨_, r18⟩, i18⟩ G_Ratio_whole b18
  have G_Chance_mass : FnOk P w K mg base (L2.CX P w) 10 f31 _ _ (spMass K CR CC) := ok_Chance_mass F31 C_b_set C_b_sorted C_b_sum C_c_Chance C_i_Ratio C_na_Chance__sum C_na_Chance__weights
  have C_m_Chance_mass : CalM P w K mg base CC "mass" 10 (spMass K CR CC) := mk_calM ⟨a31, i31, k31⟩ G_Chance_mass b31
  have G_Ratio___add__ : FnOk P w K mg base (L2.CX P w) 10 f37 _ _ (spR2 CR (· + ·)) := ok_Ratio___add__ F37 C_c_Ratio C_i_Ratio C_na_Ratio_bottom C_na_Ratio_top
  have C_o_Ratio_add : CalO P w K mg base CR "__add__" 10 (spR2 CR (· + ·)) := mk_calO a37 i37 sf_Ratio G_Ratio___add__ b37
  have G_Chance_share : FnOk P w K mg base (L2.CX P w) 10 f40 _ _ (spShare K CR CC) := ok_Chance_share F40 C_c_Chance C_i_Ratio C_na_Chance__sum C_na_Chance__weights
  have C_m_Chance_share : CalM P w K mg base CC "share" 10 (spShare K CR CC) := mk_calM ⟨a40, i40, k40⟩ G_Chance_share b40
  have G_Chance___init__ : FnOk P w K mg base (L2.CX P w) 11 f29 _ _ (spCInitG K CR CC CB CN CX) := ok_Chance___init__ F29 C_b_sorted C_b_sum C_c_Chance C_f_is_name C_f_least C_gRatio C_k_Ratio_whole C_na_Chance__sum C_na_Chance__weights C_x_BadName C_x_BadNumber C_x_BadShares
  have C_i_Chance : CalI P w K mg base "Chance" CC 11 (spCInitG K CR CC CB CN CX) := mk_calI X G aC_Chance ⟨mk_Chance, a29, i29, kc_Chance⟩ G_Chance___init__ b29
  have G_total : FnOk P w K mg base (L2.CX P w) 11 f39 _ _ (spTotG K CR) := ok_total F39 C_gRatio C_k_Ratio_whole C_o_Ratio_add
  have C_f_total : Cal P w K mg base "total" 11 (spTotG K CR) := mk_cal X G a39 k39 G_total b39
  have G_barring : FnOk P w K mg base (L2.CX P w) 12 f33 _ _ (spBar K CO CR CC CU [(p_Order_ups, ZB.LQ "Order.ups")]) := ok_barring F33 C_c_Chance C_c_Order C_c_Ratio C_f_check_among__C C_m_Chance_mass C_m_Order_ups C_m_Ratio_under C_na_Order_names
  have C_f_barring : Cal P w K mg base "barring" 12 (spBar K CO CR CC CU [(p_Order_ups, ZB.LQ "Order.ups")]) := mk_cal X G a33 k33 G_barring b33
  have G_lower : FnOk P w K mg base (L2.CX P w) 13 f34 _ _ (spLower K CO CR CC CU [(p_Order_ups, ZB.LQ "Order.ups")]) := ok_lower F34 C_f_barring
  have C_f_lower : Cal P w K mg base "lower" 13 (spLower K CO CR CC CU [(p_Order_ups, ZB.LQ "Order.ups")]) := mk_cal X G a34 k34 G_lower b34
  have G_pair_table : FnOk P w K mg base (L2.CX P w) 14 f46 _ _ (spPair K CO CC CU [(p_Order_ups, ZB.LQ "Order.ups")]) := ok_pair_table F46 C_b_sum C_c_Chance C_c_Order C_f_lower C_f_most C_f_upward C_i_Ratio C_it_Order C_m_Chance_weights C_m_Order_ups C_na_Order__above C_na_Order_names
  have C_f_pair_table : Cal P w K mg base "pair_table" 14 (spPair K CO CC CU [(p_Order_ups, ZB.LQ "Order.ups")]) := mk_cal X G a46 k46 G_pair_table b46
  have G__adds_up : FnOk P w K mg base (L2.CX P w) 14 f48 _ _ (spAdds CO CC) := ok__adds_up F48 C_b_all C_c_Chance C_c_Order C_c_Ratio C_f_total C_it_Order C_m_Chance_share C_na_Order__above C_na_Order_names C_na_Ratio_bottom C_na_Ratio_top C_o_Ratio_eq
  have C_f_adds_up : Cal P w K mg base "_adds_up" 14 (spAdds CO CC) := mk_cal X G a48 k48 G__adds_up b48
  have G_is_pair_table : FnOk P w K mg base (L2.CX P w) 15 f49 _ _ (spIsPT K CO CC CU) := ok_is_pair_table F49 C_b_all C_f_adds_up C_f_can_stand C_f_check_among__C
  have C_f_is_pair_table : Cal P w K mg base "is_pair_table" 15 (spIsPT K CO CC CU) := mk_cal X G a49 k49 G_is_pair_table b49
  have G__law_told : FnOk P w K mg base (L2.CX P w) 16 f50 _ _ (spTold CO CC [(p_Order_ups, ZB.LQ "Order.ups")]) := ok__law_told F50 C_f_barring C_f_is_pair_table C_f_lower C_f_pair_table C_gUnknownName C_xf_UnknownName C_xm_UnknownName C_xn_UnknownName_name
  have C_f_law_told : Cal P w K mg base "_law_told" 16 (spTold CO CC [(p_Order_ups, ZB.LQ "Order.ups")]) := mk_cal X G a50 k50 G__law_told b50
  exact ok_law F52 C_b_dict C_b_list C_b_range C_f_law_above C_f_law_cell C_f_law_covers C_f_law_due C_f_law_names C_f_law_pairs C_f_law_pool C_f_law_raised C_f_law_take C_f_law_told C_f_law_weights C_i_Chance C_i_Order
theorem walk {c_Order_ups p_Order_ups : Addr} {l : PySem.W.OpenLaw} {q : Program} {loose : List Str} {XP : (Str → Option Value) → Heap → Prop} {YP : World → Heap → Prop} {d : DefRec} {K : Params → PySem.W.Frag} (hn : l.most = some 63) (hdf : d.params.defaults = [])
    (hY : ∀ (w : World) (h : Heap), YP w h → (K w.params).In h) (hT : ∀ (w : World) (h : Heap), YP w h → h.get? p_Order_ups = some (PySem.W.tabObj #[])) (hL : ∀ p : Params, (K p).lookup p_Order_ups = none) (hC : ∀ p : Params, PySem.W.codeHdIn (K p) c_Order_ups p_Order_ups = true)
    (F : ∀ (w : World) (mg : Str → Option Value) (fa : Addr) (h : Heap), (K w.params).In h → h.Ns mainGlobals mg → mg d.name = some (.ref fa) →
      ∃ fd : FuncData, (∀ (s : Shared) (u : Value), BindsTo s fd ⟨[u], []⟩ [("_law_script", u)]) ∧ ∀ base : Heap, (K w.params).In base → base.Ns mainGlobals mg → (∀ p ∈ [(c_Order_ups, p_Order_ups)], LamX.TabB base mg p.1 p.2) → FnOk l.prog w (K w.params) mg base (L2.CX l.prog w) 17 fa fd ["_law_script"] (spLaw (K w.params) [(p_Order_ups, ZB.LQ "Order.ups")])) :
    PySem.W.WalkO q loose XP YP l.row.toRowW d [] (fun f vs => PySem.call f vs) :=
  LamX.walk_ofTs (n := 63) (k := 17) (x := "_law_script") (CX := fun w => L2.CX l.prog w) hn (by decide) hdf ⟨rfl, by decide, by decide⟩ hY (fun w mg fa h Y KX G hmg => by
    obtain ⟨fd, hb, hF⟩ := F w mg fa h KX G hmg
    refine ⟨fd, [(c_Order_ups, p_Order_ups)], spLaw (K w.params) [(p_Order_ups, ZB.LQ "Order.ups")], fun p hp => ?_, fun p hp => ?_, fun p hp => ?_, hb, fun H a ns hl _ hT hS => mk_law hS hl (hT _ (List.mem_singleton.mpr rfl)), hF⟩
    · rw [List.mem_singleton.mp hp]; exact hT w h Y
    · rw [List.mem_singleton.mp hp]; exact hL _
    · rw [List.mem_singleton.mp hp]; exact PySem.W.codeHd_of_K KX (hC _)) fun _ _ _ _ _ z => cxN z
end Z

def PySem.W.Fast.tw10094878086142435346 := 0
def PySem.W.Fast.tw1010253894897436307 := 0
def PySem.W.Fast.tw10106722142656013155 := 0
def PySem.W.Fast.tw10126624152130335129 := 0
def PySem.W.Fast.tw101604661278612085 := 0
def PySem.W.Fast.tw10162398692459401823 := 0
def PySem.W.Fast.tw10229294256150251909 := 0
def PySem.W.Fast.tw10251951855659076397 := 0
def PySem.W.Fast.tw10291396652473015779 := 0
def PySem.W.Fast.tw10337409307800798190 := 0
def PySem.W.Fast.tw10343091222661257861 := 0
def PySem.W.Fast.tw10347373132282828616 := 0
def PySem.W.Fast.tw10352499941934389157 := 0
def PySem.W.Fast.tw10387836499368384095 := 0
def PySem.W.Fast.tw10390559770044480544 := 0
def PySem.W.Fast.tw10433543816951656547 := 0
def PySem.W.Fast.tw10439819845981604198 := 0
def PySem.W.Fast.tw10469432797053369515 := 0
def PySem.W.Fast.tw10473958076787451354 := 0
def PySem.W.Fast.tw10491850178562080705 := 0
def PySem.W.Fast.tw10497995752385483417 := 0
def PySem.W.Fast.tw10500652686672443755 := 0
def PySem.W.Fast.tw10509773493504860159 := 0
def PySem.W.Fast.tw10518053300596970492 := 0
def PySem.W.Fast.tw1052753077341932300 := 0
def PySem.W.Fast.tw10533935810703750478 := 0
def PySem.W.Fast.tw10566524483117241131 := 0
def PySem.W.Fast.tw1061702316877512258 := 0
def PySem.W.Fast.tw10619868865107082275 := 0
def PySem.W.Fast.tw10630361375512716497 := 0
def PySem.W.Fast.tw10676613445108826998 := 0
def PySem.W.Fast.tw10680818449092037921 := 0
def PySem.W.Fast.tw10709534858725483943 := 0
def PySem.W.Fast.tw10712095777109405562 := 0
def PySem.W.Fast.tw10722393076672573001 := 0
def PySem.W.Fast.tw10725521214891504961 := 0
def PySem.W.Fast.tw10730808562272079465 := 0
def PySem.W.Fast.tw10744922665776602763 := 0
def PySem.W.Fast.tw10748338351199752161 := 0
def PySem.W.Fast.tw10769604310211219004 := 0
def PySem.W.Fast.tw10792788098842910366 := 0
def PySem.W.Fast.tw10816589780697563554 := 0
def PySem.W.Fast.tw10857672315572230813 := 0
def PySem.W.Fast.tw10861246346657677181 := 0
def PySem.W.Fast.tw10901124930102270031 := 0
def PySem.W.Fast.tw10902975164297910694 := 0
def PySem.W.Fast.tw10950237992157269206 := 0
def PySem.W.Fast.tw10963933241510523534 := 0
def PySem.W.Fast.tw10967271721579177470 := 0
def PySem.W.Fast.tw10968577574765616302 := 0
def PySem.W.Fast.tw10983436128600031699 := 0
def PySem.W.Fast.tw11003275993743437668 := 0
def PySem.W.Fast.tw1100337478175942921 := 0
def PySem.W.Fast.tw1104096537923178697 := 0
def PySem.W.Fast.tw11067122847183560230 := 0
def PySem.W.Fast.tw11071406152774542276 := 0
def PySem.W.Fast.tw11072164903786024627 := 0
def PySem.W.Fast.tw1109426475971763194 := 0
def PySem.W.Fast.tw11100732227198931898 := 0
def PySem.W.Fast.tw11116589673796710716 := 0
def PySem.W.Fast.tw11117852858947686288 := 0
def PySem.W.Fast.tw11126540853614567318 := 0
def PySem.W.Fast.tw11187464826499202210 := 0
def PySem.W.Fast.tw11202164947871831506 := 0
def PySem.W.Fast.tw11221669471686395834 := 0
def PySem.W.Fast.tw1122790539399587289 := 0
def PySem.W.Fast.tw11274985963772742641 := 0
def PySem.W.Fast.tw11277479913269090068 := 0
def PySem.W.Fast.tw11289317542719174217 := 0
def PySem.W.Fast.tw11308245503871826773 := 0
def PySem.W.Fast.tw11309147234372204933 := 0
def PySem.W.Fast.tw11309265723340239773 := 0
def PySem.W.Fast.tw11314033120362837873 := 0
def PySem.W.Fast.tw11330090237658804253 := 0
def PySem.W.Fast.tw11362777280916750277 := 0
def PySem.W.Fast.tw11369476079801872356 := 0
def PySem.W.Fast.tw11398838088456486003 := 0
def PySem.W.Fast.tw11398929833231179456 := 0
def PySem.W.Fast.tw11405350646214636045 := 0
def PySem.W.Fast.tw11436986849109007824 := 0
def PySem.W.Fast.tw11486063871200353107 := 0
def PySem.W.Fast.tw11491913895572903682 := 0
def PySem.W.Fast.tw11494361397886612332 := 0
def PySem.W.Fast.tw11513151691342994718 := 0
def PySem.W.Fast.tw11519571523887760849 := 0
def PySem.W.Fast.tw11527880552410694927 := 0
def PySem.W.Fast.tw11529675729859491161 := 0
def PySem.W.Fast.tw11569276469496325064 := 0
def PySem.W.Fast.tw11581140829087163931 := 0
def PySem.W.Fast.tw11635971699360033072 := 0
def PySem.W.Fast.tw11649202282485848671 := 0
def PySem.W.Fast.tw11655415211561357771 := 0
def PySem.W.Fast.tw11671930331319679897 := 0
def PySem.W.Fast.tw11690140672552064396 := 0
def PySem.W.Fast.tw11699150217208346344 := 0
def PySem.W.Fast.tw11713139346776933574 := 0
def PySem.W.Fast.tw11717724878508460179 := 0
def PySem.W.Fast.tw11733325234253804493 := 0
def PySem.W.Fast.tw11764942320434164145 := 0
def PySem.W.Fast.tw11781204106169082788 := 0
def PySem.W.Fast.tw11801970320366896902 := 0
def PySem.W.Fast.tw11812328588845362259 := 0
def PySem.W.Fast.tw11824714537260653901 := 0
def PySem.W.Fast.tw11895265692749859920 := 0
def PySem.W.Fast.tw11904189252690284564 := 0
def PySem.W.Fast.tw11926677290206177979 := 0
def PySem.W.Fast.tw11946136968205223569 := 0
def PySem.W.Fast.tw11977979198799628236 := 0
def PySem.W.Fast.tw12008664530881986169 := 0
def PySem.W.Fast.tw1201294341711868903 := 0
def PySem.W.Fast.tw12021709422173108522 := 0
def PySem.W.Fast.tw1204613615838195291 := 0
def PySem.W.Fast.tw12089146084687511685 := 0
def PySem.W.Fast.tw1209800282731909175 := 0
def PySem.W.Fast.tw1220108818580394760 := 0
def PySem.W.Fast.tw12233549439960027245 := 0
def PySem.W.Fast.tw12294801913275534326 := 0
def PySem.W.Fast.tw12299406541700553392 := 0
def PySem.W.Fast.tw12310367387928104755 := 0
def PySem.W.Fast.tw12318871705053827665 := 0
def PySem.W.Fast.tw12329814330242392770 := 0
def PySem.W.Fast.tw12330558432535854347 := 0
def PySem.W.Fast.tw12334857448003224411 := 0
def PySem.W.Fast.tw12380219820740965369 := 0
def PySem.W.Fast.tw12400041331683024797 := 0
def PySem.W.Fast.tw12411142415848492889 := 0
def PySem.W.Fast.tw12449132028680384391 := 0
def PySem.W.Fast.tw12456924162960497337 := 0
def PySem.W.Fast.tw12465960246045011370 := 0
def PySem.W.Fast.tw12491089623708114121 := 0
def PySem.W.Fast.tw12500503492117302669 := 0
def PySem.W.Fast.tw12505937363318804593 := 0
def PySem.W.Fast.tw12512638386064933863 := 0
def PySem.W.Fast.tw12538227184444161599 := 0
def PySem.W.Fast.tw12539195341663381327 := 0
def PySem.W.Fast.tw12551781861991709394 := 0
def PySem.W.Fast.tw12553075910370966055 := 0
def PySem.W.Fast.tw12559885564593832826 := 0
def PySem.W.Fast.tw12560063340064212557 := 0
def PySem.W.Fast.tw12562220129003423100 := 0
def PySem.W.Fast.tw12594009988175461125 := 0
def PySem.W.Fast.tw12725297569648414907 := 0
def PySem.W.Fast.tw1273108313214018689 := 0
def PySem.W.Fast.tw12734549391791384054 := 0
def PySem.W.Fast.tw12736550231449504011 := 0
def PySem.W.Fast.tw12761831308563285238 := 0
def PySem.W.Fast.tw12777934290361440319 := 0
def PySem.W.Fast.tw12825419503910572648 := 0
def PySem.W.Fast.tw12846898863733151853 := 0
def PySem.W.Fast.tw12859292381587472875 := 0
def PySem.W.Fast.tw12875221821049311809 := 0
def PySem.W.Fast.tw12879828402611238579 := 0
def PySem.W.Fast.tw12917126083238398971 := 0
def PySem.W.Fast.tw12926420401981444067 := 0
def PySem.W.Fast.tw12951970352654677240 := 0
def PySem.W.Fast.tw1296563473706902178 := 0
def PySem.W.Fast.tw13011513699024641756 := 0
def PySem.W.Fast.tw13019941971337406689 := 0
def PySem.W.Fast.tw13049976433879899233 := 0
def PySem.W.Fast.tw13050996278631679183 := 0
def PySem.W.Fast.tw13069093849285718260 := 0
def PySem.W.Fast.tw13104145834722230559 := 0
def PySem.W.Fast.tw1311993370960711550 := 0
def PySem.W.Fast.tw13154379927267036511 := 0
def PySem.W.Fast.tw13188157849290902382 := 0
def PySem.W.Fast.tw13230749505415801809 := 0
def PySem.W.Fast.tw13233571366089156393 := 0
def PySem.W.Fast.tw13304198774768855232 := 0
def PySem.W.Fast.tw13306447917166543763 := 0
def PySem.W.Fast.tw13324509618094166860 := 0
def PySem.W.Fast.tw13333010960721889924 := 0
def PySem.W.Fast.tw1333589023262288853 := 0
def PySem.W.Fast.tw1341688653151600466 := 0
def PySem.W.Fast.tw13427635153579126153 := 0
def PySem.W.Fast.tw13470701422636064077 := 0
def PySem.W.Fast.tw13491785276559860954 := 0
def PySem.W.Fast.tw1349661447673992697 := 0
def PySem.W.Fast.tw13506744042004030527 := 0
def PySem.W.Fast.tw13508291440068034089 := 0
def PySem.W.Fast.tw13523352877294021379 := 0
def PySem.W.Fast.tw13540555319321912276 := 0
def PySem.W.Fast.tw13567389629182789050 := 0
def PySem.W.Fast.tw13573984232056631688 := 0
def PySem.W.Fast.tw13582673720522873975 := 0
def PySem.W.Fast.tw13595468047279416174 := 0
def PySem.W.Fast.tw13624679123684027169 := 0
def PySem.W.Fast.tw13671578297803215774 := 0
def PySem.W.Fast.tw13691287885929884589 := 0
def PySem.W.Fast.tw13724509528673896230 := 0
def PySem.W.Fast.tw13728263481589955976 := 0
def PySem.W.Fast.tw13741459924080894180 := 0
def PySem.W.Fast.tw13825298041043935147 := 0
def PySem.W.Fast.tw1384137841982963150 := 0
def PySem.W.Fast.tw13842494440582757730 := 0
def PySem.W.Fast.tw13851606002509084308 := 0
def PySem.W.Fast.tw13884965591896078169 := 0
def PySem.W.Fast.tw13899244567741732445 := 0
def PySem.W.Fast.tw13902882512839453704 := 0
def PySem.W.Fast.tw13909791973169418566 := 0
def PySem.W.Fast.tw13921899229076289427 := 0
def PySem.W.Fast.tw13966701284737542181 := 0
def PySem.W.Fast.tw13970618836871739701 := 0
def PySem.W.Fast.tw13994086537248906213 := 0
def PySem.W.Fast.tw14010235767382882360 := 0
def PySem.W.Fast.tw14039527545954058297 := 0
def PySem.W.Fast.tw14063941146618744172 := 0
def PySem.W.Fast.tw14075305059130846058 := 0
def PySem.W.Fast.tw1408089507637157394 := 0
def PySem.W.Fast.tw14084663734248375967 := 0
def PySem.W.Fast.tw14107451698612254468 := 0
def PySem.W.Fast.tw14108173019874271797 := 0
def PySem.W.Fast.tw14112805092944324960 := 0
def PySem.W.Fast.tw14129334443575625385 := 0
def PySem.W.Fast.tw14149348242244471408 := 0
def PySem.W.Fast.tw14162863479434336684 := 0
def PySem.W.Fast.tw14167603763844648679 := 0
def PySem.W.Fast.tw14215150272902544383 := 0
def PySem.W.Fast.tw14218623502895558739 := 0
def PySem.W.Fast.tw14219475603114808366 := 0
def PySem.W.Fast.tw1423178406064253239 := 0
def PySem.W.Fast.tw14238176018284082788 := 0
def PySem.W.Fast.tw14246739442107385914 := 0
def PySem.W.Fast.tw14265419099359859337 := 0
def PySem.W.Fast.tw14276109768778633216 := 0
def PySem.W.Fast.tw1430125775975827438 := 0
def PySem.W.Fast.tw14343394580929727048 := 0
def PySem.W.Fast.tw14348102139670656084 := 0
def PySem.W.Fast.tw14353296948914298006 := 0
def PySem.W.Fast.tw14376821522111921686 := 0
def PySem.W.Fast.tw14410348290686401497 := 0
def PySem.W.Fast.tw14419539870557317972 := 0
def PySem.W.Fast.tw14445648410117519730 := 0
def PySem.W.Fast.tw14451156129856074229 := 0
def PySem.W.Fast.tw1445143610282740683 := 0
def PySem.W.Fast.tw14460498645410121053 := 0
def PySem.W.Fast.tw14468250483818267807 := 0
def PySem.W.Fast.tw14476422559353367573 := 0
def PySem.W.Fast.tw1450941378993709924 := 0
def PySem.W.Fast.tw14588920342032285892 := 0
def PySem.W.Fast.tw14590911549907066883 := 0
def PySem.W.Fast.tw14593740176296665976 := 0
def PySem.W.Fast.tw14609966069672134064 := 0
def PySem.W.Fast.tw14624103591861740432 := 0
def PySem.W.Fast.tw14626584950396567447 := 0
def PySem.W.Fast.tw14646958801165792582 := 0
def PySem.W.Fast.tw14670572987014253466 := 0
def PySem.W.Fast.tw14671455919079181034 := 0
def PySem.W.Fast.tw14677179902411000422 := 0
def PySem.W.Fast.tw14719271671000007683 := 0
def PySem.W.Fast.tw1472195834541867358 := 0
def PySem.W.Fast.tw14765091027771122005 := 0
def PySem.W.Fast.tw14792942038823533866 := 0
def PySem.W.Fast.tw14812841556016185218 := 0
def PySem.W.Fast.tw14813083082970400750 := 0
def PySem.W.Fast.tw14843629327136858291 := 0
def PySem.W.Fast.tw14851864028962019386 := 0
def PySem.W.Fast.tw14852322095559651115 := 0
def PySem.W.Fast.tw14869188242591610090 := 0
def PySem.W.Fast.tw14902983109980929302 := 0
def PySem.W.Fast.tw14905202694125708917 := 0
def PySem.W.Fast.tw14916080424878986875 := 0
def PySem.W.Fast.tw14919361987290112551 := 0
def PySem.W.Fast.tw14960563962911561617 := 0
def PySem.W.Fast.tw1497870646677441165 := 0
def PySem.W.Fast.tw14980939216651455782 := 0
def PySem.W.Fast.tw15044055461656293180 := 0
def PySem.W.Fast.tw15055995433882668745 := 0
def PySem.W.Fast.tw15072522541196762140 := 0
def PySem.W.Fast.tw15089162691234096425 := 0
def PySem.W.Fast.tw15115132466868730034 := 0
def PySem.W.Fast.tw15125628676700528261 := 0
def PySem.W.Fast.tw15152650758118755126 := 0
def PySem.W.Fast.tw15169710541874983831 := 0
def PySem.W.Fast.tw15187711648253506677 := 0
def PySem.W.Fast.tw15189545615890658329 := 0
def PySem.W.Fast.tw15199066830635340763 := 0
def PySem.W.Fast.tw15215132283482315103 := 0
def PySem.W.Fast.tw15215880502443367858 := 0
def PySem.W.Fast.tw1521818231828074044 := 0
def PySem.W.Fast.tw15246986676176091362 := 0
def PySem.W.Fast.tw15275890326959523954 := 0
def PySem.W.Fast.tw15279058011506370481 := 0
def PySem.W.Fast.tw15298486558015726176 := 0
def PySem.W.Fast.tw1530272829986304078 := 0
def PySem.W.Fast.tw15324013304842140928 := 0
def PySem.W.Fast.tw15326081858340300991 := 0
def PySem.W.Fast.tw1533642622031604277 := 0
def PySem.W.Fast.tw1534302344388000577 := 0
def PySem.W.Fast.tw1534327156184158557 := 0
def PySem.W.Fast.tw15357754855435097840 := 0
def PySem.W.Fast.tw15387666219872259100 := 0
def PySem.W.Fast.tw15411856657674962890 := 0
def PySem.W.Fast.tw15421192722098406286 := 0
def PySem.W.Fast.tw15421829356104969756 := 0
def PySem.W.Fast.tw15432234566464874734 := 0
def PySem.W.Fast.tw15466491444638549208 := 0
def PySem.W.Fast.tw15485742037015441862 := 0
def PySem.W.Fast.tw1548799124649176004 := 0
def PySem.W.Fast.tw15492089701701588215 := 0
def PySem.W.Fast.tw15493587985037697464 := 0
def PySem.W.Fast.tw15526336265833953900 := 0
def PySem.W.Fast.tw15529150499212116720 := 0
def PySem.W.Fast.tw1554902796221488833 := 0
def PySem.W.Fast.tw15557351558033020746 := 0
def PySem.W.Fast.tw15558042905967486495 := 0
def PySem.W.Fast.tw15563749377464924351 := 0
def PySem.W.Fast.tw15582811309747219339 := 0
def PySem.W.Fast.tw15588968770036013477 := 0
def PySem.W.Fast.tw15641198942768430401 := 0
def PySem.W.Fast.tw15680929369398981551 := 0
def PySem.W.Fast.tw15683920941038284267 := 0
def PySem.W.Fast.tw15687868975924222312 := 0
def PySem.W.Fast.tw15731895798548940838 := 0
def PySem.W.Fast.tw15745244916625774367 := 0
def PySem.W.Fast.tw15748983660197725162 := 0
def PySem.W.Fast.tw15749624597762679691 := 0
def PySem.W.Fast.tw15837274458622614959 := 0
def PySem.W.Fast.tw15837528717869499192 := 0
def PySem.W.Fast.tw15876872718539994425 := 0
def PySem.W.Fast.tw15898027639373312297 := 0
def PySem.W.Fast.tw1593033063075673348 := 0
def PySem.W.Fast.tw15954126110223191099 := 0
def PySem.W.Fast.tw15961333850728804430 := 0
def PySem.W.Fast.tw15998301179493349661 := 0
def PySem.W.Fast.tw16006090087658705920 := 0
def PySem.W.Fast.tw16021407763439788569 := 0
def PySem.W.Fast.tw16034154942262238925 := 0
def PySem.W.Fast.tw16038496211257613009 := 0
def PySem.W.Fast.tw16040828767510187897 := 0
def PySem.W.Fast.tw16070795497591427609 := 0
def PySem.W.Fast.tw16079198695872294500 := 0
def PySem.W.Fast.tw16102728503315273526 := 0
def PySem.W.Fast.tw16118128514291563605 := 0
def PySem.W.Fast.tw16118310415259906001 := 0
def PySem.W.Fast.tw16158861370045884359 := 0
def PySem.W.Fast.tw16201772716618262841 := 0
def PySem.W.Fast.tw16260223602233301511 := 0
def PySem.W.Fast.tw16286767117114650156 := 0
def PySem.W.Fast.tw16304743058547805626 := 0
def PySem.W.Fast.tw16305732245241682532 := 0
def PySem.W.Fast.tw16309841727403354313 := 0
def PySem.W.Fast.tw16318644774000179511 := 0
def PySem.W.Fast.tw16338093672845929674 := 0
def PySem.W.Fast.tw16339369671406036329 := 0
def PySem.W.Fast.tw16351645291749822303 := 0
def PySem.W.Fast.tw1635625784956241945 := 0
def PySem.W.Fast.tw16367409731783506307 := 0
def PySem.W.Fast.tw16371918193989778160 := 0
def PySem.W.Fast.tw16382672119457886783 := 0
def PySem.W.Fast.tw16405128714068376812 := 0
def PySem.W.Fast.tw16446860157370810114 := 0
def PySem.W.Fast.tw16457931723794163311 := 0
def PySem.W.Fast.tw16469375585752265448 := 0
def PySem.W.Fast.tw16475927676004053503 := 0
def PySem.W.Fast.tw16478146134148286770 := 0
def PySem.W.Fast.tw16491659129946003803 := 0
def PySem.W.Fast.tw16496616197468082180 := 0
def PySem.W.Fast.tw16510088826174359376 := 0
def PySem.W.Fast.tw165200853949364288 := 0
def PySem.W.Fast.tw16549452948878586147 := 0
def PySem.W.Fast.tw16551130018527122660 := 0
def PySem.W.Fast.tw16557616113482208191 := 0
def PySem.W.Fast.tw16558740829335325763 := 0
def PySem.W.Fast.tw16560913686746381616 := 0
def PySem.W.Fast.tw16589257972270832253 := 0
def PySem.W.Fast.tw1661146973720617871 := 0
def PySem.W.Fast.tw16613054925402560807 := 0
def PySem.W.Fast.tw16616551400186302578 := 0
def PySem.W.Fast.tw16667422914568598156 := 0
def PySem.W.Fast.tw16667878227799300797 := 0
def PySem.W.Fast.tw16670054160287192545 := 0
def PySem.W.Fast.tw16682972499577125990 := 0
def PySem.W.Fast.tw16692420837155579627 := 0
def PySem.W.Fast.tw16714982877344392676 := 0
def PySem.W.Fast.tw16724211946790707300 := 0
def PySem.W.Fast.tw16732249555088948143 := 0
def PySem.W.Fast.tw16744448133144486249 := 0
def PySem.W.Fast.tw16753995904408438318 := 0
def PySem.W.Fast.tw16758963739308640790 := 0
def PySem.W.Fast.tw16773897584774814894 := 0
def PySem.W.Fast.tw16777604078519039401 := 0
def PySem.W.Fast.tw16790845531357098515 := 0
def PySem.W.Fast.tw16792310642438532195 := 0
def PySem.W.Fast.tw16833656348600497935 := 0
def PySem.W.Fast.tw16914134027685887778 := 0
def PySem.W.Fast.tw16942517469656938961 := 0
def PySem.W.Fast.tw16952960650112418900 := 0
def PySem.W.Fast.tw16954006005627545292 := 0
def PySem.W.Fast.tw16963669239284339941 := 0
def PySem.W.Fast.tw16965868834126411436 := 0
def PySem.W.Fast.tw16991577250206384976 := 0
def PySem.W.Fast.tw16993322457622244267 := 0
def PySem.W.Fast.tw17001503807979960672 := 0
def PySem.W.Fast.tw17003067756333386299 := 0
def PySem.W.Fast.tw17011584101785813581 := 0
def PySem.W.Fast.tw17020470987880718122 := 0
def PySem.W.Fast.tw17039035901640834399 := 0
def PySem.W.Fast.tw17056531491362022643 := 0
def PySem.W.Fast.tw1706821267118433835 := 0
def PySem.W.Fast.tw171148934447753351 := 0
def PySem.W.Fast.tw17117898503566447876 := 0
def PySem.W.Fast.tw17135963712547515127 := 0
def PySem.W.Fast.tw17136377237303589000 := 0
def PySem.W.Fast.tw17169796511102811960 := 0
def PySem.W.Fast.tw17177294640084075708 := 0
def PySem.W.Fast.tw17224730215328587530 := 0
def PySem.W.Fast.tw17311926631427068061 := 0
def PySem.W.Fast.tw1731927405991579175 := 0
def PySem.W.Fast.tw17319956567964635588 := 0
def PySem.W.Fast.tw17320617492195840052 := 0
def PySem.W.Fast.tw17338184837876957324 := 0
def PySem.W.Fast.tw17340369087717968092 := 0
def PySem.W.Fast.tw17341479901920135617 := 0
def PySem.W.Fast.tw17352965137104988492 := 0
def PySem.W.Fast.tw1737522547278792060 := 0
def PySem.W.Fast.tw17403008354912693491 := 0
def PySem.W.Fast.tw17404081536229017543 := 0
def PySem.W.Fast.tw17410602181716738232 := 0
def PySem.W.Fast.tw17410788249730677787 := 0
def PySem.W.Fast.tw17413043786046943164 := 0
def PySem.W.Fast.tw17419371426255658683 := 0
def PySem.W.Fast.tw1743296959303973866 := 0
def PySem.W.Fast.tw17458616197426195384 := 0
def PySem.W.Fast.tw17493171371792525912 := 0
def PySem.W.Fast.tw17514547671183920198 := 0
def PySem.W.Fast.tw1752045802413257050 := 0
def PySem.W.Fast.tw17525460299762790269 := 0
def PySem.W.Fast.tw17539402768479858095 := 0
def PySem.W.Fast.tw17554697059351969198 := 0
def PySem.W.Fast.tw17560354750938939924 := 0
def PySem.W.Fast.tw17578121965823533642 := 0
def PySem.W.Fast.tw17594488942696659884 := 0
def PySem.W.Fast.tw17600044881026406242 := 0
def PySem.W.Fast.tw17624532409024720614 := 0
def PySem.W.Fast.tw17648470326403585904 := 0
def PySem.W.Fast.tw17658013912503530118 := 0
def PySem.W.Fast.tw17661924435893472197 := 0
def PySem.W.Fast.tw17680717502520967172 := 0
def PySem.W.Fast.tw17715693035566274000 := 0
def PySem.W.Fast.tw17757573856220745744 := 0
def PySem.W.Fast.tw17763169300657991975 := 0
def PySem.W.Fast.tw17765534366566192077 := 0
def PySem.W.Fast.tw17770006884859107886 := 0
def PySem.W.Fast.tw17782207792457929971 := 0
def PySem.W.Fast.tw17785795073839403075 := 0
def PySem.W.Fast.tw1779648135238173429 := 0
def PySem.W.Fast.tw17834522394511604541 := 0
def PySem.W.Fast.tw17843079062180186012 := 0
def PySem.W.Fast.tw17848600183800735426 := 0
def PySem.W.Fast.tw17862116391697220837 := 0
def PySem.W.Fast.tw17874205426706339735 := 0
def PySem.W.Fast.tw17875452765919566677 := 0
def PySem.W.Fast.tw17885905562615798184 := 0
def PySem.W.Fast.tw17889988252942540071 := 0
def PySem.W.Fast.tw17948477788848107403 := 0
def PySem.W.Fast.tw17962445415071222269 := 0
def PySem.W.Fast.tw18011568404120017355 := 0
def PySem.W.Fast.tw18020207437467231193 := 0
def PySem.W.Fast.tw18050381581326859841 := 0
def PySem.W.Fast.tw18050667324341170296 := 0
def PySem.W.Fast.tw18063629348516491147 := 0
def PySem.W.Fast.tw18073748874747490538 := 0
def PySem.W.Fast.tw18088435798820798742 := 0
def PySem.W.Fast.tw1809675029376630040 := 0
def PySem.W.Fast.tw18116707077386154994 := 0
def PySem.W.Fast.tw18171436520215177234 := 0
def PySem.W.Fast.tw18181904533077884902 := 0
def PySem.W.Fast.tw18195082830572344526 := 0
def PySem.W.Fast.tw18221918840304757555 := 0
def PySem.W.Fast.tw18243250547065603428 := 0
def PySem.W.Fast.tw18263727095395921018 := 0
def PySem.W.Fast.tw18266143195322281303 := 0
def PySem.W.Fast.tw18271678884890630074 := 0
def PySem.W.Fast.tw18288413880056611647 := 0
def PySem.W.Fast.tw1831577902242414991 := 0
def PySem.W.Fast.tw18316902962383096978 := 0
def PySem.W.Fast.tw18327695540818926287 := 0
def PySem.W.Fast.tw18339969103877405921 := 0
def PySem.W.Fast.tw18344297100885969028 := 0
def PySem.W.Fast.tw1863750890844133543 := 0
def PySem.W.Fast.tw1890766019793313307 := 0
def PySem.W.Fast.tw1904863469867593593 := 0
def PySem.W.Fast.tw1950555820751114567 := 0
def PySem.W.Fast.tw1953379065647404470 := 0
def PySem.W.Fast.tw1955080819359793864 := 0
def PySem.W.Fast.tw1964536865501598998 := 0
def PySem.W.Fast.tw201601939311898777 := 0
def PySem.W.Fast.tw202123397243973996 := 0
def PySem.W.Fast.tw2022411723690717868 := 0
def PySem.W.Fast.tw2028633875284399074 := 0
def PySem.W.Fast.tw2029838266939969274 := 0
def PySem.W.Fast.tw2041742675518058781 := 0
def PySem.W.Fast.tw2097280546200746541 := 0
def PySem.W.Fast.tw2107953712577617328 := 0
def PySem.W.Fast.tw2111946998472138075 := 0
def PySem.W.Fast.tw2119770670608139763 := 0
def PySem.W.Fast.tw2126665961021541899 := 0
def PySem.W.Fast.tw2188727950982984249 := 0
def PySem.W.Fast.tw2192493405308286153 := 0
def PySem.W.Fast.tw220923448345375055 := 0
def PySem.W.Fast.tw2242927386250584019 := 0
def PySem.W.Fast.tw2243205487629883594 := 0
def PySem.W.Fast.tw226962836193999993 := 0
def PySem.W.Fast.tw2280989923277239199 := 0
def PySem.W.Fast.tw2284690284932796308 := 0
def PySem.W.Fast.tw2303178382486080597 := 0
def PySem.W.Fast.tw2307351965645117214 := 0
def PySem.W.Fast.tw231578243125302760 := 0
def PySem.W.Fast.tw2318108416931686832 := 0
def PySem.W.Fast.tw2329890284342488635 := 0
def PySem.W.Fast.tw2338139601358119894 := 0
def PySem.W.Fast.tw2345553100463886984 := 0
def PySem.W.Fast.tw2373759086713845744 := 0
def PySem.W.Fast.tw2386559243973399589 := 0
def PySem.W.Fast.tw2390676464282926082 := 0
def PySem.W.Fast.tw2421977031005738242 := 0
def PySem.W.Fast.tw2439177247994941294 := 0
def PySem.W.Fast.tw247005532063460389 := 0
def PySem.W.Fast.tw249305853260727162 := 0
def PySem.W.Fast.tw249476990803306421 := 0
def PySem.W.Fast.tw2503768997018678973 := 0
def PySem.W.Fast.tw2510430307827376615 := 0
def PySem.W.Fast.tw2524884079186597993 := 0
def PySem.W.Fast.tw2530550674805466861 := 0
def PySem.W.Fast.tw2591102141906670518 := 0
def PySem.W.Fast.tw2630399100651324361 := 0
def PySem.W.Fast.tw2645053583687046727 := 0
def PySem.W.Fast.tw2656537708379526042 := 0
def PySem.W.Fast.tw2657752914809253530 := 0
def PySem.W.Fast.tw2726171440119757025 := 0
def PySem.W.Fast.tw275207654490855699 := 0
def PySem.W.Fast.tw2807045320889468593 := 0
def PySem.W.Fast.tw2819180956845350825 := 0
def PySem.W.Fast.tw2823307673763869226 := 0
def PySem.W.Fast.tw2839325081697275138 := 0
def PySem.W.Fast.tw2855784451592799147 := 0
def PySem.W.Fast.tw2858129927041085784 := 0
def PySem.W.Fast.tw2862441591657176356 := 0
def PySem.W.Fast.tw2865468347454673219 := 0
def PySem.W.Fast.tw2888003569408289229 := 0
def PySem.W.Fast.tw2904652712493200202 := 0
def PySem.W.Fast.tw2907406050865685596 := 0
def PySem.W.Fast.tw2925224597702865554 := 0
def PySem.W.Fast.tw2959506789979628612 := 0
def PySem.W.Fast.tw296284069514094152 := 0
def PySem.W.Fast.tw2964004938872337803 := 0
def PySem.W.Fast.tw296743060825489048 := 0
def PySem.W.Fast.tw3036412302536188333 := 0
def PySem.W.Fast.tw3057462268543738074 := 0
def PySem.W.Fast.tw3076844504613795731 := 0
def PySem.W.Fast.tw3094411795421680192 := 0
def PySem.W.Fast.tw3168703582292432020 := 0
def PySem.W.Fast.tw3169488076205200503 := 0
def PySem.W.Fast.tw3170867795674260169 := 0
def PySem.W.Fast.tw3178119828666166326 := 0
def PySem.W.Fast.tw3179205030727981295 := 0
def PySem.W.Fast.tw3243401067612587885 := 0
def PySem.W.Fast.tw3245067621774695543 := 0
def PySem.W.Fast.tw3248969659578733457 := 0
def PySem.W.Fast.tw325937206492829196 := 0
def PySem.W.Fast.tw3264584300401562639 := 0
def PySem.W.Fast.tw3278477221558873748 := 0
def PySem.W.Fast.tw3295186800887783344 := 0
def PySem.W.Fast.tw3296882348624973015 := 0
def PySem.W.Fast.tw3311752082885897218 := 0
def PySem.W.Fast.tw3313665148735711781 := 0
def PySem.W.Fast.tw3317088269327301510 := 0
def PySem.W.Fast.tw3365908082664352962 := 0
def PySem.W.Fast.tw340832689890835721 := 0
def PySem.W.Fast.tw3449583583812500127 := 0
def PySem.W.Fast.tw3461020525858422348 := 0
def PySem.W.Fast.tw3501444425499689476 := 0
def PySem.W.Fast.tw352545720820018086 := 0
def PySem.W.Fast.tw352726063014047023 := 0
def PySem.W.Fast.tw3532447581211539434 := 0
def PySem.W.Fast.tw3538380004538041055 := 0
def PySem.W.Fast.tw3538848453731614043 := 0
def PySem.W.Fast.tw3551289059406396837 := 0
def PySem.W.Fast.tw3560573477214349123 := 0
def PySem.W.Fast.tw3564348154786808122 := 0
def PySem.W.Fast.tw3590787529591879751 := 0
def PySem.W.Fast.tw3591577938294744321 := 0
def PySem.W.Fast.tw3606357500904857465 := 0
def PySem.W.Fast.tw3617159870477539398 := 0
def PySem.W.Fast.tw3622957357696795471 := 0
def PySem.W.Fast.tw3652811760882440077 := 0
def PySem.W.Fast.tw3662956219181226464 := 0
def PySem.W.Fast.tw3678896158962551077 := 0
def PySem.W.Fast.tw3720083412824246314 := 0
def PySem.W.Fast.tw372254816357947533 := 0
def PySem.W.Fast.tw3770436729261115175 := 0
def PySem.W.Fast.tw3772461646904845654 := 0
def PySem.W.Fast.tw379476262766361518 := 0
def PySem.W.Fast.tw3804597445760266948 := 0
def PySem.W.Fast.tw3808903533622968779 := 0
def PySem.W.Fast.tw3810201652972747458 := 0
def PySem.W.Fast.tw383248339998148741 := 0
def PySem.W.Fast.tw3868190479454302424 := 0
def PySem.W.Fast.tw3885855672914478576 := 0
def PySem.W.Fast.tw3887402202148660655 := 0
def PySem.W.Fast.tw3892130372306458569 := 0
def PySem.W.Fast.tw3898950339088613296 := 0
def PySem.W.Fast.tw3902004714692478686 := 0
def PySem.W.Fast.tw3902685532711832000 := 0
def PySem.W.Fast.tw3913494636302620469 := 0
def PySem.W.Fast.tw3917350622606450451 := 0
def PySem.W.Fast.tw3926754286218939866 := 0
def PySem.W.Fast.tw3973614783597987467 := 0
def PySem.W.Fast.tw399344736581832960 := 0
def PySem.W.Fast.tw4001982013810437060 := 0
def PySem.W.Fast.tw400350796397650435 := 0
def PySem.W.Fast.tw4060420366348122604 := 0
def PySem.W.Fast.tw4075539870504338114 := 0
def PySem.W.Fast.tw4100825212229277421 := 0
def PySem.W.Fast.tw4102575032888308855 := 0
def PySem.W.Fast.tw4105949765722462839 := 0
def PySem.W.Fast.tw4106208138895496627 := 0
def PySem.W.Fast.tw4118021214425395939 := 0
def PySem.W.Fast.tw4120448239508010992 := 0
def PySem.W.Fast.tw4185958183534990061 := 0
def PySem.W.Fast.tw4198435970629411662 := 0
def PySem.W.Fast.tw4211097134933762878 := 0
def PySem.W.Fast.tw4241913314381297332 := 0
def PySem.W.Fast.tw4250555804424170557 := 0
def PySem.W.Fast.tw4265562792631948985 := 0
def PySem.W.Fast.tw4286701262710650712 := 0
def PySem.W.Fast.tw4289059476897622281 := 0
def PySem.W.Fast.tw4297691467473840804 := 0
def PySem.W.Fast.tw4317877979148928976 := 0
def PySem.W.Fast.tw4357161177207344763 := 0
def PySem.W.Fast.tw4369721127740526987 := 0
def PySem.W.Fast.tw4375796621076786728 := 0
def PySem.W.Fast.tw4380914167473983765 := 0
def PySem.W.Fast.tw4405442702857275039 := 0
def PySem.W.Fast.tw4430532879719601905 := 0
def PySem.W.Fast.tw4435802939179031309 := 0
def PySem.W.Fast.tw4489293299459297332 := 0
def PySem.W.Fast.tw4492176986477686675 := 0
def PySem.W.Fast.tw4503174240098373690 := 0
def PySem.W.Fast.tw4526184203845018622 := 0
def PySem.W.Fast.tw4528057481396219596 := 0
def PySem.W.Fast.tw4566208693886386342 := 0
def PySem.W.Fast.tw4591144972756527694 := 0
def PySem.W.Fast.tw4604528539845147180 := 0
def PySem.W.Fast.tw460710517391438306 := 0
def PySem.W.Fast.tw4609207773270082993 := 0
def PySem.W.Fast.tw4609648092173249740 := 0
def PySem.W.Fast.tw4647588132960125947 := 0
def PySem.W.Fast.tw4667077672651881941 := 0
def PySem.W.Fast.tw4669692915006178445 := 0
def PySem.W.Fast.tw4669743289400174085 := 0
def PySem.W.Fast.tw4718742045197653555 := 0
def PySem.W.Fast.tw4753633233461515123 := 0
def PySem.W.Fast.tw4753762767704929579 := 0
def PySem.W.Fast.tw4757963803708519792 := 0
def PySem.W.Fast.tw4765667853412524987 := 0
def PySem.W.Fast.tw4815682544940509522 := 0
def PySem.W.Fast.tw481893701047335178 := 0
def PySem.W.Fast.tw481951087692201100 := 0
def PySem.W.Fast.tw4843214765223004187 := 0
def PySem.W.Fast.tw4849928578317010070 := 0
def PySem.W.Fast.tw4917050171529187011 := 0
def PySem.W.Fast.tw492459131116517519 := 0
def PySem.W.Fast.tw4945082294265646724 := 0
def PySem.W.Fast.tw495377070168897876 := 0
def PySem.W.Fast.tw4960074993399068484 := 0
def PySem.W.Fast.tw5031911778720475607 := 0
def PySem.W.Fast.tw5097788433164974270 := 0
def PySem.W.Fast.tw5148119751737072390 := 0
def PySem.W.Fast.tw5148154035466269427 := 0
def PySem.W.Fast.tw5162741949283077979 := 0
def PySem.W.Fast.tw5167956629718820411 := 0
def PySem.W.Fast.tw5194452863042795718 := 0
def PySem.W.Fast.tw5198199673650650910 := 0
def PySem.W.Fast.tw5204882924464873498 := 0
def PySem.W.Fast.tw5223646090917975616 := 0
def PySem.W.Fast.tw5226866167946230828 := 0
def PySem.W.Fast.tw5228760635102927728 := 0
def PySem.W.Fast.tw5268149821164082162 := 0
def PySem.W.Fast.tw5270720605243796885 := 0
def PySem.W.Fast.tw5296489890810708962 := 0
def PySem.W.Fast.tw5320362363782244802 := 0
def PySem.W.Fast.tw5372066523516827438 := 0
def PySem.W.Fast.tw5392472624165738852 := 0
def PySem.W.Fast.tw5406441298772208043 := 0
def PySem.W.Fast.tw5437386618602112461 := 0
def PySem.W.Fast.tw5462772883336180318 := 0
def PySem.W.Fast.tw5467232503190950054 := 0
def PySem.W.Fast.tw5517919650410815373 := 0
def PySem.W.Fast.tw558260122981904606 := 0
def PySem.W.Fast.tw559142271043553393 := 0
def PySem.W.Fast.tw5643818959704321695 := 0
def PySem.W.Fast.tw5663551041063272799 := 0
def PySem.W.Fast.tw568043639493240730 := 0
def PySem.W.Fast.tw5690583122644179897 := 0
def PySem.W.Fast.tw5754691122926517660 := 0
def PySem.W.Fast.tw5773191882649549995 := 0
def PySem.W.Fast.tw577882724887593724 := 0
def PySem.W.Fast.tw5788939912824622868 := 0
def PySem.W.Fast.tw5794462456440654559 := 0
def PySem.W.Fast.tw580785587554705332 := 0
def PySem.W.Fast.tw5816522162889209 := 0
def PySem.W.Fast.tw586195644143344234 := 0
def PySem.W.Fast.tw5867720293569018373 := 0
def PySem.W.Fast.tw5904156367802495097 := 0
def PySem.W.Fast.tw5904676653864122104 := 0
def PySem.W.Fast.tw5907882176867725175 := 0
def PySem.W.Fast.tw5913370539768343189 := 0
def PySem.W.Fast.tw5961899707243567500 := 0
def PySem.W.Fast.tw5979371995491198928 := 0
def PySem.W.Fast.tw5979730734666491728 := 0
def PySem.W.Fast.tw5997595425607223869 := 0
def PySem.W.Fast.tw6051444538271122124 := 0
def PySem.W.Fast.tw6054057487602767633 := 0
def PySem.W.Fast.tw6055596094490059790 := 0
def PySem.W.Fast.tw6087297341314091865 := 0
def PySem.W.Fast.tw6100087089132324013 := 0
def PySem.W.Fast.tw6104878327436775144 := 0
def PySem.W.Fast.tw6115025949394493690 := 0
def PySem.W.Fast.tw6119624065172132949 := 0
def PySem.W.Fast.tw6165842546190017401 := 0
def PySem.W.Fast.tw6173165238234781046 := 0
def PySem.W.Fast.tw6174454106672881285 := 0
def PySem.W.Fast.tw6177760697967417514 := 0
def PySem.W.Fast.tw6194007269984498386 := 0
def PySem.W.Fast.tw6206307449921686928 := 0
def PySem.W.Fast.tw6233418025430427920 := 0
def PySem.W.Fast.tw6253872851563727826 := 0
def PySem.W.Fast.tw6273066438225959803 := 0
def PySem.W.Fast.tw629468261939593514 := 0
def PySem.W.Fast.tw6295468268492785110 := 0
def PySem.W.Fast.tw6301292099467300178 := 0
def PySem.W.Fast.tw6337920037116887182 := 0
def PySem.W.Fast.tw6346448279792253780 := 0
def PySem.W.Fast.tw635458547033269767 := 0
def PySem.W.Fast.tw6394732263741383877 := 0
def PySem.W.Fast.tw6433704910905970644 := 0
def PySem.W.Fast.tw6458261712448960622 := 0
def PySem.W.Fast.tw647791778961997223 := 0
def PySem.W.Fast.tw6482601273500004057 := 0
def PySem.W.Fast.tw6506469586607818332 := 0
def PySem.W.Fast.tw6512383620141020627 := 0
def PySem.W.Fast.tw6512945970954176869 := 0
def PySem.W.Fast.tw6522638668582925380 := 0
def PySem.W.Fast.tw6524919111425241487 := 0
def PySem.W.Fast.tw6593859081159322202 := 0
def PySem.W.Fast.tw659553286072183269 := 0
def PySem.W.Fast.tw662035238481909732 := 0
def PySem.W.Fast.tw6621895837334296667 := 0
def PySem.W.Fast.tw6622068521865282031 := 0
def PySem.W.Fast.tw6642592468354599293 := 0
def PySem.W.Fast.tw6670003119353079005 := 0
def PySem.W.Fast.tw6686316121888249406 := 0
def PySem.W.Fast.tw671779664859919544 := 0
def PySem.W.Fast.tw6777722743966015571 := 0
def PySem.W.Fast.tw6805577154754747878 := 0
def PySem.W.Fast.tw6836419824566448283 := 0
def PySem.W.Fast.tw684545165839600787 := 0
def PySem.W.Fast.tw6857436396285779309 := 0
def PySem.W.Fast.tw6878376746075745481 := 0
def PySem.W.Fast.tw6887709205909823398 := 0
def PySem.W.Fast.tw6903041248231479753 := 0
def PySem.W.Fast.tw6910604658220890875 := 0
def PySem.W.Fast.tw6951963474245932594 := 0
def PySem.W.Fast.tw6956068273103235812 := 0
def PySem.W.Fast.tw6971831227048657703 := 0
def PySem.W.Fast.tw6972662396230957804 := 0
def PySem.W.Fast.tw6981937195052397144 := 0
def PySem.W.Fast.tw699068884963855759 := 0
def PySem.W.Fast.tw703076914912218933 := 0
def PySem.W.Fast.tw7035468474410656749 := 0
def PySem.W.Fast.tw7054770899565343036 := 0
def PySem.W.Fast.tw7056375839289454177 := 0
def PySem.W.Fast.tw7058274044640507195 := 0
def PySem.W.Fast.tw7061203354663386909 := 0
def PySem.W.Fast.tw7083257112238046919 := 0
def PySem.W.Fast.tw7097167624470104606 := 0
def PySem.W.Fast.tw7134103954342415402 := 0
def PySem.W.Fast.tw7146490171131408012 := 0
def PySem.W.Fast.tw7155222937663518902 := 0
def PySem.W.Fast.tw7198435218171248362 := 0
def PySem.W.Fast.tw7236162534076094139 := 0
def PySem.W.Fast.tw7244678488029792925 := 0
def PySem.W.Fast.tw7338190804147465611 := 0
def PySem.W.Fast.tw7338233342973880118 := 0
def PySem.W.Fast.tw7365618345726574258 := 0
def PySem.W.Fast.tw736926553140865315 := 0
def PySem.W.Fast.tw7398893717077602203 := 0
def PySem.W.Fast.tw7438976706047930906 := 0
def PySem.W.Fast.tw7460850674710953693 := 0
def PySem.W.Fast.tw7474033178688113842 := 0
def PySem.W.Fast.tw7477619487584647145 := 0
def PySem.W.Fast.tw7504489752355688932 := 0
def PySem.W.Fast.tw7512590727315065274 := 0
def PySem.W.Fast.tw7521488514392565884 := 0
def PySem.W.Fast.tw7534074398743379829 := 0
def PySem.W.Fast.tw7600343101324968441 := 0
def PySem.W.Fast.tw7605203522951375346 := 0
def PySem.W.Fast.tw7642836108271792773 := 0
def PySem.W.Fast.tw765914668307801968 := 0
def PySem.W.Fast.tw7678038130127235027 := 0
def PySem.W.Fast.tw7678216187318015531 := 0
def PySem.W.Fast.tw7685533252631166873 := 0
def PySem.W.Fast.tw7688662770767502181 := 0
def PySem.W.Fast.tw769708471603098942 := 0
def PySem.W.Fast.tw7698781321236705000 := 0
def PySem.W.Fast.tw7775065887600794041 := 0
def PySem.W.Fast.tw7779169630559088898 := 0
def PySem.W.Fast.tw7780511648991408790 := 0
def PySem.W.Fast.tw7786364040494035326 := 0
def PySem.W.Fast.tw7788987564510128934 := 0
def PySem.W.Fast.tw7799217200487501330 := 0
def PySem.W.Fast.tw7801337120630812194 := 0
def PySem.W.Fast.tw7860572306542757353 := 0
def PySem.W.Fast.tw7861572772804888349 := 0
def PySem.W.Fast.tw7869930054407827132 := 0
def PySem.W.Fast.tw7880406731526143428 := 0
def PySem.W.Fast.tw7894022772619742741 := 0
def PySem.W.Fast.tw7941281959849625844 := 0
def PySem.W.Fast.tw796998264798917077 := 0
def PySem.W.Fast.tw7988800209884722951 := 0
def PySem.W.Fast.tw8013433290047671159 := 0
def PySem.W.Fast.tw8025313916307010073 := 0
def PySem.W.Fast.tw8046897374524354314 := 0
def PySem.W.Fast.tw8056018298413628378 := 0
def PySem.W.Fast.tw8085246760143385060 := 0
def PySem.W.Fast.tw8112941890177567796 := 0
def PySem.W.Fast.tw8114227230548373343 := 0
def PySem.W.Fast.tw8161064620639202130 := 0
def PySem.W.Fast.tw8176106973843858501 := 0
def PySem.W.Fast.tw8196771362009551191 := 0
def PySem.W.Fast.tw8216041297619664060 := 0
def PySem.W.Fast.tw82244511546928320 := 0
def PySem.W.Fast.tw823250408157877029 := 0
def PySem.W.Fast.tw8252348579131477746 := 0
def PySem.W.Fast.tw8263476992300804456 := 0
def PySem.W.Fast.tw8271890983476585956 := 0
def PySem.W.Fast.tw8304030288494706868 := 0
def PySem.W.Fast.tw8316871590819661972 := 0
def PySem.W.Fast.tw8326233604640950388 := 0
def PySem.W.Fast.tw8329427156709616932 := 0
def PySem.W.Fast.tw8345064420851195441 := 0
def PySem.W.Fast.tw8349772951680021511 := 0
def PySem.W.Fast.tw8360255131955602337 := 0
def PySem.W.Fast.tw836521615695437242 := 0
def PySem.W.Fast.tw8372954399543873210 := 0
def PySem.W.Fast.tw8379108812397565704 := 0
def PySem.W.Fast.tw8384601352346775803 := 0
def PySem.W.Fast.tw8385633051576947795 := 0
def PySem.W.Fast.tw8405314981912663430 := 0
def PySem.W.Fast.tw8445001404061020025 := 0
def PySem.W.Fast.tw8453314787424677347 := 0
def PySem.W.Fast.tw8458287400019419839 := 0
def PySem.W.Fast.tw8476173503279165004 := 0
def PySem.W.Fast.tw8483384010987764882 := 0
def PySem.W.Fast.tw8485491296227029703 := 0
def PySem.W.Fast.tw8486609276906406012 := 0
def PySem.W.Fast.tw8503257322232059940 := 0
def PySem.W.Fast.tw8516596573117224776 := 0
def PySem.W.Fast.tw8544951874056854837 := 0
def PySem.W.Fast.tw8560780455662683486 := 0
def PySem.W.Fast.tw8566553806345321176 := 0
def PySem.W.Fast.tw8594420229660623400 := 0
def PySem.W.Fast.tw8617595575823908159 := 0
def PySem.W.Fast.tw8633817683238270482 := 0
def PySem.W.Fast.tw8672854499266618665 := 0
def PySem.W.Fast.tw8685781924640808953 := 0
def PySem.W.Fast.tw8713243383015097072 := 0
def PySem.W.Fast.tw8717870673035589167 := 0
def PySem.W.Fast.tw8739784589675738388 := 0
def PySem.W.Fast.tw8754942113370611571 := 0
def PySem.W.Fast.tw8766111225741615814 := 0
def PySem.W.Fast.tw8784515444677030759 := 0
def PySem.W.Fast.tw8796971279917336282 := 0
def PySem.W.Fast.tw8799910554679953199 := 0
def PySem.W.Fast.tw8819785444177244084 := 0
def PySem.W.Fast.tw8934105411519133 := 0
def PySem.W.Fast.tw8942796535053859813 := 0
def PySem.W.Fast.tw8954833641338777006 := 0
def PySem.W.Fast.tw8971071943748966877 := 0
def PySem.W.Fast.tw8981270226374911450 := 0
def PySem.W.Fast.tw8997314441276288183 := 0
def PySem.W.Fast.tw9020869139960288113 := 0
def PySem.W.Fast.tw9030441407847082537 := 0
def PySem.W.Fast.tw9043711938522128766 := 0
def PySem.W.Fast.tw9066321440816207813 := 0
def PySem.W.Fast.tw9071313668448344861 := 0
def PySem.W.Fast.tw910216559825470644 := 0
def PySem.W.Fast.tw9115173113632994284 := 0
def PySem.W.Fast.tw9123521578774779721 := 0
def PySem.W.Fast.tw9135230327959804612 := 0
def PySem.W.Fast.tw9147823912944159120 := 0
def PySem.W.Fast.tw9148650033631331118 := 0
def PySem.W.Fast.tw9177054046770939908 := 0
def PySem.W.Fast.tw9214565224947721356 := 0
def PySem.W.Fast.tw9216855571116225903 := 0
def PySem.W.Fast.tw9246023940415946611 := 0
def PySem.W.Fast.tw9259052594851292634 := 0
def PySem.W.Fast.tw9280891092652119198 := 0
def PySem.W.Fast.tw93033272889512386 := 0
def PySem.W.Fast.tw9336233598780352710 := 0
def PySem.W.Fast.tw9355146955944361798 := 0
def PySem.W.Fast.tw9363140494540310618 := 0
def PySem.W.Fast.tw9382715942863207022 := 0
def PySem.W.Fast.tw9401540463984033937 := 0
def PySem.W.Fast.tw9405090602281213690 := 0
def PySem.W.Fast.tw9467060298295380647 := 0
def PySem.W.Fast.tw9519206506949653423 := 0
def PySem.W.Fast.tw9528828750474760320 := 0
def PySem.W.Fast.tw9546222678396077233 := 0
def PySem.W.Fast.tw9568486728043488943 := 0
def PySem.W.Fast.tw957746280214060867 := 0
def PySem.W.Fast.tw9578579989942412463 := 0
def PySem.W.Fast.tw9586535077883793530 := 0
def PySem.W.Fast.tw9591622693522060033 := 0
def PySem.W.Fast.tw9592423283823192102 := 0
def PySem.W.Fast.tw9596707915950281648 := 0
def PySem.W.Fast.tw9606911404568450722 := 0
def PySem.W.Fast.tw9632785036119051941 := 0
def PySem.W.Fast.tw9640360921194949688 := 0
def PySem.W.Fast.tw9645438793245222440 := 0
def PySem.W.Fast.tw9655130334459492292 := 0
def PySem.W.Fast.tw966624349977480138 := 0
def PySem.W.Fast.tw9680907361130570636 := 0
def PySem.W.Fast.tw9739908360010209292 := 0
def PySem.W.Fast.tw9741692612653539725 := 0
def PySem.W.Fast.tw9756724053885733075 := 0
def PySem.W.Fast.tw977214722788448160 := 0
def PySem.W.Fast.tw9775535579769305719 := 0
def PySem.W.Fast.tw9848375474507594041 := 0
def PySem.W.Fast.tw9867782291534090052 := 0
def PySem.W.Fast.tw9870489168593539223 := 0
def PySem.W.Fast.tw9879154970688382743 := 0
def PySem.W.Fast.tw9897727487168376056 := 0
def PySem.W.Fast.tw9902968219918417541 := 0
def PySem.W.Fast.tw9907210082196703696 := 0
def PySem.W.Fast.tw9915355706662678315 := 0
def PySem.W.Fast.tw9931737642260614842 := 0
def PySem.W.Fast.tw9959384983636681509 := 0
def PySem.W.Fast.tw9962007062930185317 := 0
open PySem PySem.W PyProof.Rows in
set_option maxRecDepth 100000 in
set_option maxHeartbeats 0 in
theorem PySem.Challenge.cw_onethrow_k28_strange_names_holds : PySem.Challenge.rw_onethrow_k28_strange_names.Holds := by
  w_on; o_law; k_head; (case hw => w_witness2)
  k_fill
  refine Z.walk (c_Order_ups := ?c) (l := PySem.Challenge.rw_onethrow_k28_strange_names) rfl rfl (fun w h Y => PySem.W.km_in_of Y) (fun w h Y => PySem.W.km_tabs_of Y _ List.mem_cons_self) ?hL ?hC ?F
  case F =>
    intro w mg fa h KX G hmg
    refine' Z.all_mk KX G hmg ?aC_Order ?aC_BadNumber ?aC_BadName ?aC_DuplicateName ?aC_UnknownName ?aC_Ring ?aC_ThrowError ?aC_Ratio ?aC_BadShares ?aC_Chance ?pg_Ratio ?hd_Ratio ?po_Ratio ?sa_Ratio ?ha_Ratio ?hm_Ratio ?mk_Ratio ?kc_Ratio ?sf_Ratio ?iC_Ratio ?tC_Ratio ?pg_Chance ?hd_Chance ?po_Chance ?sa_Chance ?ha_Chance ?hm_Chance ?mk_Chance ?kc_Chance ?sf_Chance ?iC_Chance ?tC_Chance ?pg_Order ?hd_Order ?po_Order ?sa_Order ?ha_Order ?hm_Order ?mk_Order ?kc_Order ?sf_Order ?iC_Order ?tC_Order ?hn ?htk ?xL_BadNumber ?sa_BadNumber ?ga_BadNumber ?gg_BadNumber ?kC_BadNumber ?eC_BadNumber ?tC_BadNumber ?hC_BadNumber ?iC_BadNumber ?sC_BadNumber ?xL_BadName ?sa_BadName ?ga_BadName ?gg_BadName ?kC_BadName ?eC_BadName ?tC_BadName ?hC_BadName ?iC_BadName ?sC_BadName ?xL_DuplicateName ?sa_DuplicateName ?ga_DuplicateName ?gg_DuplicateName ?kC_DuplicateName ?eC_DuplicateName ?tC_DuplicateName ?hC_DuplicateName ?iC_DuplicateName ?sC_DuplicateName ?xL_UnknownName ?sa_UnknownName ?ga_UnknownName ?gg_UnknownName ?kC_UnknownName ?eC_UnknownName ?tC_UnknownName ?hC_UnknownName ?iC_UnknownName ?sC_UnknownName ?xL_Ring ?sa_Ring ?ga_Ring ?gg_Ring ?kC_Ring ?eC_Ring ?tC_Ring ?hC_Ring ?iC_Ring ?sC_Ring ?xL_BadShares ?sa_BadShares ?ga_BadShares ?gg_BadShares ?kC_BadShares ?eC_BadShares ?tC_BadShares ?hC_BadShares ?iC_BadShares ?sC_BadShares ?rd_Ratio ?rg_Ratio ?rd_ThrowError ?rg_ThrowError ?rv_ThrowError ?a0 ?l0 ?c0 ?k0 ?a1 ?t1 ?l1 ?c1 ?k1 ?a2 ?t2 ?l2 ?c2 ?k2 ?a3 ?t3 ?l3 ?c3 ?k3 ?a4 ?t4 ?l4 ?c4 ?k4 ?a5 ?t5 ?l5 ?c5 ?k5 ?a6 ?l6 ?c6 ?k6 ?a7 ?l7 ?c7 ?k7 ?a8 ?l8 ?c8 ?k8 ?a9 ?l9 ?c9 ?k9 ?a10 ?i10 ?l10 ?c10 ?k10 ?a11 ?i11 ?l11 ?c11 ?k11 ?a12 ?i12 ?l12 ?c12 ?k12 ?a13 ?i13 ?l13 ?c13 ?k13 ?a14 ?l14 ?c14 ?k14 ?a15 ?i15 ?l15 ?c15 ?k15 ?a16 ?t16 ?l16 ?c16 ?k16 ?a17 ?i17 ?l17 ?c17 ?k17 ?a18 ?r18 ?i18 ?l18 ?c18 ?k18 ?a19 ?i19 ?l19 ?c19 ?k19 ?a20 ?i20 ?l20 ?c20 ?k20 ?a21 ?l21 ?c21 ?k21 ?a22 ?l22 ?c22 ?k22 ?a23 ?l23 ?c23 ?k23 ?a24 ?l24 ?c24 ?k24 ?a25 ?l25 ?c25 ?k25 ?a26 ?l26 ?c26 ?k26 ?a27 ?l27 ?c27 ?k27 ?a28 ?l28 ?c28 ?k28 ?a29 ?i29 ?l29 ?c29 ?k29 ?a30 ?i30 ?l30 ?c30 ?k30 ?a31 ?i31 ?l31 ?c31 ?k31 ?a32 ?i32 ?l32 ?c32 ?k32 ?a33 ?l33 ?c33 ?k33 ?a34 ?l34 ?c34 ?k34 ?a35 ?l35 ?c35 ?k35 ?a36 ?l36 ?c36 ?k36 ?a37 ?i37 ?l37 ?c37 ?k37 ?a38 ?i38 ?l38 ?c38 ?k38 ?a39 ?l39 ?c39 ?k39 ?a40 ?i40 ?l40 ?c40 ?k40 ?a41 ?i41 ?l41 ?c41 ?k41 ?a42 ?i42 ?l42 ?c42 ?k42 ?a43 ?i43 ?l43 ?c43 ?k43 ?a44 ?l44 ?c44 ?k44 ?a45 ?l45 ?c45 ?k45 ?a46 ?l46 ?c46 ?k46 ?a47 ?l47 ?c47 ?k47 ?a48 ?l48 ?c48 ?k48 ?a49 ?l49 ?c49 ?k49 ?a50 ?l50 ?c50 ?k50 ?a51 ?l51 ?c51 ?k51 ?a52 ?l52 ?c52 ?k52 ?z_abs ?z_all ?z_any ?z_dict ?z_divmod ?z_enumerate ?z_int ?z_isinstance ?z_iter ?z_len ?z_list ?z_min ?z_range ?z_set ?z_sorted ?z_str ?z_sum ?z_tuple ?w_ki_Ratio_int ?z_gcd ?g_DIGITS ?g_LETTERS ?g_MOST_NAMES ?g_MOST_SIGNS ?w_na_Chance__sum ?w_na_Chance__weights ?w_na_Order__above ?w_na_Order_names ?w_na_Ratio_bottom ?w_na_Ratio_top ?w_xn_BadName_name ?w_xn_BadNumber_n ?w_xn_BadShares_total ?w_xn_DuplicateName_name ?w_xn_Ring_names ?w_xn_UnknownName_name
    (case aC_Order => k_is)
    (case aC_BadNumber => k_is)
    (case aC_BadName => k_is)
    (case aC_DuplicateName => k_is)
    (case aC_UnknownName => k_is)
    (case aC_Ring => k_is)
    (case aC_ThrowError => k_is)
    (case aC_Ratio => k_is)
    (case aC_BadShares => k_is)
    (case aC_Chance => k_is)
    (case pg_Ratio => k_is)
    (case hd_Ratio => k_is)
    (case po_Ratio => k_is)
    (case sa_Ratio => k_is)
    (case ha_Ratio => k_is)
    (case hm_Ratio => k_is)
    (case mk_Ratio => k_is)
    (case kc_Ratio => k_is)
    (case sf_Ratio => k_is)
    (case iC_Ratio => k_is)
    (case tC_Ratio => k_is)
    (case pg_Chance => k_is)
    (case hd_Chance => k_is)
    (case po_Chance => k_is)
    (case sa_Chance => k_is)
    (case ha_Chance => k_is)
    (case hm_Chance => k_is)
    (case mk_Chance => k_is)
    (case kc_Chance => k_is)
    (case sf_Chance => k_is)
    (case iC_Chance => k_is)
    (case tC_Chance => k_is)
    (case pg_Order => k_is)
    (case hd_Order => k_is)
    (case po_Order => k_is)
    (case sa_Order => k_is)
    (case ha_Order => k_is)
    (case hm_Order => k_is)
    (case mk_Order => k_is)
    (case kc_Order => k_is)
    (case sf_Order => k_is)
    (case iC_Order => k_is)
    (case tC_Order => k_is)
    (case hn => k_is)
    (case htk => k_is)
    (case xL_BadNumber => k_is)
    (case sa_BadNumber => k_is)
    (case ga_BadNumber => k_is)
    (case gg_BadNumber => k_is)
    (case kC_BadNumber => k_is)
    (case eC_BadNumber => k_is)
    (case tC_BadNumber => k_is)
    (case hC_BadNumber => k_is)
    (case iC_BadNumber => k_is)
    (case sC_BadNumber => k_is)
    (case xL_BadName => k_is)
    (case sa_BadName => k_is)
    (case ga_BadName => k_is)
    (case gg_BadName => k_is)
    (case kC_BadName => k_is)
    (case eC_BadName => k_is)
    (case tC_BadName => k_is)
    (case hC_BadName => k_is)
    (case iC_BadName => k_is)
    (case sC_BadName => k_is)
    (case xL_DuplicateName => k_is)
    (case sa_DuplicateName => k_is)
    (case ga_DuplicateName => k_is)
    (case gg_DuplicateName => k_is)
    (case kC_DuplicateName => k_is)
    (case eC_DuplicateName => k_is)
    (case tC_DuplicateName => k_is)
    (case hC_DuplicateName => k_is)
    (case iC_DuplicateName => k_is)
    (case sC_DuplicateName => k_is)
    (case xL_UnknownName => k_is)
    (case sa_UnknownName => k_is)
    (case ga_UnknownName => k_is)
    (case gg_UnknownName => k_is)
    (case kC_UnknownName => k_is)
    (case eC_UnknownName => k_is)
    (case tC_UnknownName => k_is)
    (case hC_UnknownName => k_is)
    (case iC_UnknownName => k_is)
    (case sC_UnknownName => k_is)
    (case xL_Ring => k_is)
    (case sa_Ring => k_is)
    (case ga_Ring => k_is)
    (case gg_Ring => k_is)
    (case kC_Ring => k_is)
    (case eC_Ring => k_is)
    (case tC_Ring => k_is)
    (case hC_Ring => k_is)
    (case iC_Ring => k_is)
    (case sC_Ring => k_is)
    (case xL_BadShares => k_is)
    (case sa_BadShares => k_is)
    (case ga_BadShares => k_is)
    (case gg_BadShares => k_is)
    (case kC_BadShares => k_is)
    (case eC_BadShares => k_is)
    (case tC_BadShares => k_is)
    (case hC_BadShares => k_is)
    (case iC_BadShares => k_is)
    (case sC_BadShares => k_is)
    (case rd_Ratio => k_is)
    (case rg_Ratio => k_is)
    (case rd_ThrowError => k_is)
    (case rg_ThrowError => k_is)
    (case rv_ThrowError => k_is)
    (case a0 => k_is)
    (case l0 => k_is)
    (case c0 => k_is)
    (case k0 => k_is)
    (case a1 => k_is)
    (case t1 => k_is)
    (case l1 => k_is)
    (case c1 => k_is)
    (case k1 => k_is)
    (case a2 => k_is)
    (case t2 => k_is)
    (case l2 => k_is)
    (case c2 => k_is)
    (case k2 => k_is)
    (case a3 => k_is)
    (case t3 => k_is)
    (case l3 => k_is)
    (case c3 => k_is)
    (case k3 => k_is)
    (case a4 => k_is)
    (case t4 => k_is)
    (case l4 => k_is)
    (case c4 => k_is)
    (case k4 => k_is)
    (case a5 => k_is)
    (case t5 => k_is)
    (case l5 => k_is)
    (case c5 => k_is)
    (case k5 => k_is)
    (case a6 => k_is)
    (case l6 => k_is)
    (case c6 => k_is)
    (case k6 => k_is)
    (case a7 => k_is)
    (case l7 => k_is)
    (case c7 => k_is)
    (case k7 => k_is)
    (case a8 => k_is)
    (case l8 => k_is)
    (case c8 => k_is)
    (case k8 => k_is)
    (case a9 => k_is)
    (case l9 => k_is)
    (case c9 => k_is)
    (case k9 => k_is)
    (case a10 => k_is)
    (case i10 => k_is)
    (case l10 => k_is)
    (case c10 => k_is)
    (case k10 => k_is)
    (case a11 => k_is)
    (case i11 => k_is)
    (case l11 => k_is)
    (case c11 => k_is)
    (case k11 => k_is)
    (case a12 => k_is)
    (case i12 => k_is)
    (case l12 => k_is)
    (case c12 => k_is)
    (case k12 => k_is)
    (case a13 => k_is)
    (case i13 => k_is)
    (case l13 => k_is)
    (case c13 => k_is)
    (case k13 => k_is)
    (case a14 => k_is)
    (case l14 => k_is)
    (case c14 => k_is)
    (case k14 => k_is)
    (case a15 => k_is)
    (case i15 => k_is)
    (case l15 => k_is)
    (case c15 => k_is)
    (case k15 => k_is)
    (case a16 => k_is)
    (case t16 => k_is)
    (case l16 => k_is)
    (case c16 => k_is)
    (case k16 => k_is)
    (case a17 => k_is)
    (case i17 => k_is)
    (case l17 => k_is)
    (case c17 => k_is)
    (case k17 => k_is)
    (case a18 => k_is)
    (case r18 => k_is)
    (case i18 => k_is)
    (case l18 => k_is)
    (case c18 => k_is)
    (case k18 => k_is)
    (case a19 => k_is)
    (case i19 => k_is)
    (case l19 => k_is)
    (case c19 => k_is)
    (case k19 => k_is)
    (case a20 => k_is)
    (case i20 => k_is)
    (case l20 => k_is)
    (case c20 => k_is)
    (case k20 => k_is)
    (case a21 => k_is)
    (case l21 => k_is)
    (case c21 => k_is)
    (case k21 => k_is)
    (case a22 => k_is)
    (case l22 => k_is)
    (case c22 => k_is)
    (case k22 => k_is)
    (case a23 => k_is)
    (case l23 => k_is)
    (case c23 => k_is)
    (case k23 => k_is)
    (case a24 => k_is)
    (case l24 => k_is)
    (case c24 => k_is)
    (case k24 => k_is)
    (case a25 => k_is)
    (case l25 => k_is)
    (case c25 => k_is)
    (case k25 => k_is)
    (case a26 => k_is)
    (case l26 => k_is)
    (case c26 => k_is)
    (case k26 => k_is)
    (case a27 => k_is)
    (case l27 => k_is)
    (case c27 => k_is)
    (case k27 => k_is)
    (case a28 => k_is)
    (case l28 => k_is)
    (case c28 => k_is)
    (case k28 => k_is)
    (case a29 => k_is)
    (case i29 => k_is)
    (case l29 => k_is)
    (case c29 => k_is)
    (case k29 => k_is)
    (case a30 => k_is)
    (case i30 => k_is)
    (case l30 => k_is)
    (case c30 => k_is)
    (case k30 => k_is)
    (case a31 => k_is)
    (case i31 => k_is)
    (case l31 => k_is)
    (case c31 => k_is)
    (case k31 => k_is)
    (case a32 => k_is)
    (case i32 => k_is)
    (case l32 => k_is)
    (case c32 => k_is)
    (case k32 => k_is)
    (case a33 => k_is)
    (case l33 => k_is)
    (case c33 => k_is)
    (case k33 => k_is)
    (case a34 => k_is)
    (case l34 => k_is)
    (case c34 => k_is)
    (case k34 => k_is)
    (case a35 => k_is)
    (case l35 => k_is)
    (case c35 => k_is)
    (case k35 => k_is)
    (case a36 => k_is)
    (case l36 => k_is)
    (case c36 => k_is)
    (case k36 => k_is)
    (case a37 => k_is)
    (case i37 => k_is)
    (case l37 => k_is)
    (case c37 => k_is)
    (case k37 => k_is)
    (case a38 => k_is)
    (case i38 => k_is)
    (case l38 => k_is)
    (case c38 => k_is)
    (case k38 => k_is)
    (case a39 => k_is)
    (case l39 => k_is)
    (case c39 => k_is)
    (case k39 => k_is)
    (case a40 => k_is)
    (case i40 => k_is)
    (case l40 => k_is)
    (case c40 => k_is)
    (case k40 => k_is)
    (case a41 => k_is)
    (case i41 => k_is)
    (case l41 => k_is)
    (case c41 => k_is)
    (case k41 => k_is)
    (case a42 => k_is)
    (case i42 => k_is)
    (case l42 => k_is)
    (case c42 => k_is)
    (case k42 => k_is)
    (case a43 => k_is)
    (case i43 => k_is)
    (case l43 => k_is)
    (case c43 => k_is)
    (case k43 => k_is)
    (case a44 => k_is)
    (case l44 => k_is)
    (case c44 => k_is)
    (case k44 => k_is)
    (case a45 => k_is)
    (case l45 => k_is)
    (case c45 => k_is)
    (case k45 => k_is)
    (case a46 => k_is)
    (case l46 => k_is)
    (case c46 => k_is)
    (case k46 => k_is)
    (case a47 => k_is)
    (case l47 => k_is)
    (case c47 => k_is)
    (case k47 => k_is)
    (case a48 => k_is)
    (case l48 => k_is)
    (case c48 => k_is)
    (case k48 => k_is)
    (case a49 => k_is)
    (case l49 => k_is)
    (case c49 => k_is)
    (case k49 => k_is)
    (case a50 => k_is)
    (case l50 => k_is)
    (case c50 => k_is)
    (case k50 => k_is)
    (case a51 => k_is)
    (case l51 => k_is)
    (case c51 => k_is)
    (case k51 => k_is)
    (case a52 => k_is)
    (case l52 => k_is)
    (case c52 => k_is)
    (case k52 => k_is)
    (case z_abs => k_is)
    (case z_all => k_is)
    (case z_any => k_is)
    (case z_dict => k_is)
    (case z_divmod => k_is)
    (case z_enumerate => k_is)
    (case z_int => k_is)
    (case z_isinstance => k_is)
    (case z_iter => k_is)
    (case z_len => k_is)
    (case z_list => k_is)
    (case z_min => k_is)
    (case z_range => k_is)
    (case z_set => k_is)
    (case z_sorted => k_is)
    (case z_str => k_is)
    (case z_sum => k_is)
    (case z_tuple => k_is)
    (case w_ki_Ratio_int => k_is)
    (case z_gcd => k_is)
    (case g_DIGITS => k_is)
    (case g_LETTERS => k_is)
    (case g_MOST_NAMES => k_is)
    (case g_MOST_SIGNS => k_is)
    (case w_na_Chance__sum => k_is)
    (case w_na_Chance__weights => k_is)
    (case w_na_Order__above => k_is)
    (case w_na_Order_names => k_is)
    (case w_na_Ratio_bottom => k_is)
    (case w_na_Ratio_top => k_is)
    (case w_xn_BadName_name => k_is)
    (case w_xn_BadNumber_n => k_is)
    (case w_xn_BadShares_total => k_is)
    (case w_xn_DuplicateName_name => k_is)
    (case w_xn_Ring_names => k_is)
    (case w_xn_UnknownName_name => k_is)
  case hL => intro p; kernel_rfl
  case hC => intro p; kernel_rfl

