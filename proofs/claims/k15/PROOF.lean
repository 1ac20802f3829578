import PyProof.Rows.All
import Wide.All
import OpenK.AllK
import Wide.FinOn
import HandS.ForMost
import HandS.ForExc
import HandS.More
import HandS.Star
import HandS.ClsMeth
import HandS.Wide
import HandS.Gcd
import HandS.ExcInit
import HandS.ExcField
import HandS.IsInst
import HandS.OwnEq
import HandS.FStr
import HandS.WideBits
import KE.IntBitsLaws
import KE.KFmtOwn
import HandS.StrMore
import HandS.Style
import HandS.StrSplit
import HandS.OwnIter
import HandS.IterNext
import HandS.DictComp
import HandS.Deep
import HandS.DeepEq
import HandS.Conv
import HandS.SortOrd
import HandS.Walk
import HandS.TryMany
import HandS.FStrTup
import PyProof.ReprHeadsEmpty
import HandS.TupAny
import HandS.Records
import HandS.HotCalls
import KE.KExcIs
import HandS.ExcIs
import PyProof.FString5
import KE.KItemsList
import HandS.Zip0
import PyProof.CollectIter
import KE.KUnpack
import KE.GoesEnumKw
import HandS.SortKw
import PySem.Challenge.RW_onethrow_k15_texts_of_orders
set_option linter.all false
namespace ZR
theorem fdiv_exact {a d : Int} (hd : d ≠ 0) (h : d ∣ a) : a.fdiv d = a / d := by
  obtain ⟨k, rfl⟩ := h
  rw [Int.mul_comm, Int.mul_fdiv_cancel _ hd, Int.mul_ediv_cancel _ hd]
/-- the divisor: the greatest common one, with the sign of b -/
def sg (t b : Int) : Int := if b < 0 then -((Nat.gcd t.natAbs b.natAbs : Nat) : Int) else ((Nat.gcd t.natAbs b.natAbs : Nat) : Int)
theorem gcd_ne (t : Int) {b : Int} (hb : b ≠ 0) : ((Nat.gcd t.natAbs b.natAbs : Nat) : Int) ≠ 0 := by
  have : 0 < Nat.gcd t.natAbs b.natAbs := Nat.gcd_pos_of_pos_right _ (by omega)
  omega
theorem sg_ne (t : Int) {b : Int} (hb : b ≠ 0) : sg t b ≠ 0 := by
  have := gcd_ne t hb
  unfold sg
  split <;> omega
theorem sg_le (t b : Int) (hb : b ≠ 0) : (sg t b).natAbs ≤ b.natAbs := by
  have : Nat.gcd t.natAbs b.natAbs ≤ b.natAbs := Nat.gcd_le_right _ (by omega)
  unfold sg
  split <;> omega
theorem dvd_t (t b : Int) : ((Nat.gcd t.natAbs b.natAbs : Nat) : Int) ∣ t := Int.ofNat_dvd_left.mpr (Nat.gcd_dvd_left _ _)
theorem dvd_b (t b : Int) : ((Nat.gcd t.natAbs b.natAbs : Nat) : Int) ∣ b := Int.ofNat_dvd_left.mpr (Nat.gcd_dvd_right _ _)
theorem norm_num (t b : Int) (hb : b ≠ 0) : t.fdiv (sg t b) = ((t : Rat) / (b : Rat)).num := by
  rw [← Rat.divInt_eq_div, Rat.num_divInt]
  have hg := gcd_ne t hb
  have e : b.gcd t = Nat.gcd t.natAbs b.natAbs := by rw [Int.gcd_comm]; rfl
  have d1 := dvd_t t b
  rw [e]
  unfold sg
  split
  · rename_i h
    rw [fdiv_exact (by omega) (Int.neg_dvd.mpr d1), Int.sign_eq_neg_one_of_neg h, Int.ediv_neg]
    obtain ⟨k, hk⟩ := d1
    generalize ((Nat.gcd t.natAbs b.natAbs : Nat) : Int) = g at *
    subst hk
    rw [Int.mul_ediv_cancel_left _ hg, show -1 * (g * k) = g * (-k) by grind, Int.mul_ediv_cancel_left _ hg]
  · rename_i h
    rw [fdiv_exact hg d1, Int.sign_eq_one_of_pos (by omega), Int.one_mul]
theorem norm_den (t b : Int) (hb : b ≠ 0) : b.fdiv (sg t b) = ((((t : Rat) / (b : Rat)).den : Nat) : Int) := by
  rw [← Rat.divInt_eq_div, Rat.den_divInt, if_neg hb]
  have hg := gcd_ne t hb
  have e : b.gcd t = Nat.gcd t.natAbs b.natAbs := by rw [Int.gcd_comm]; rfl
  have d1 := dvd_b t b
  rw [e, Int.natCast_ediv]
  unfold sg
  split
  · rename_i h
    rw [fdiv_exact (by omega) (Int.neg_dvd.mpr d1), Int.ediv_neg]
    have e2 : ((b.natAbs : Nat) : Int) = -b := by omega
    rw [e2]
    obtain ⟨k, hk⟩ := d1
    generalize ((Nat.gcd t.natAbs b.natAbs : Nat) : Int) = g at *
    subst hk
    rw [Int.mul_ediv_cancel_left _ hg, show -(g * k) = g * (-k) by grind, Int.mul_ediv_cancel_left _ hg]
  · rename_i h
    have e2 : ((b.natAbs : Nat) : Int) = b := by omega
    rw [e2, fdiv_exact hg d1]
theorem num_le (t b : Int) : ((t : Rat) / (b : Rat)).num.natAbs ≤ t.natAbs := by
  rw [← Rat.divInt_eq_div, Rat.num_divInt, Int.natAbs_ediv_of_dvd, Int.natAbs_mul]
  · rcases Int.lt_trichotomy b 0 with h | h | h
    · rw [Int.sign_eq_neg_one_of_neg h]; simp; exact Nat.div_le_self _ _
    · subst h; simp
    · rw [Int.sign_eq_one_of_pos h]; simp; exact Nat.div_le_self _ _
  · exact Int.dvd_mul_of_dvd_right (Int.gcd_dvd_right ..)
theorem den_le (t b : Int) (hb : b ≠ 0) : ((t : Rat) / (b : Rat)).den ≤ b.natAbs := by
  rw [← Rat.divInt_eq_div, Rat.den_divInt, if_neg hb]
  exact Nat.div_le_self _ _
theorem r_self (p : Rat) : ((p.num : Int) : Rat) / (((p.den : Nat) : Int) : Rat) = p := by
  rw [← Rat.divInt_eq_div, Rat.num_divInt_den]
theorem r_add (p q : Rat) : ((p.num * q.den + q.num * p.den : Int) : Rat) / ((p.den * q.den : Int) : Rat) = p + q := by
  rw [← Rat.divInt_eq_div, Rat.add_def', ← Rat.divInt_ofNat]; simp
theorem r_sub (p q : Rat) : ((p.num * q.den - q.num * p.den : Int) : Rat) / ((p.den * q.den : Int) : Rat) = p - q := by
  rw [← Rat.divInt_eq_div, Rat.sub_def', ← Rat.divInt_ofNat]; simp
theorem r_mul (p q : Rat) : ((p.num * q.num : Int) : Rat) / ((p.den * q.den : Int) : Rat) = p * q := by
  rw [← Rat.divInt_eq_div, Rat.mul_def', ← Rat.divInt_ofNat]; simp
theorem r_neg (p : Rat) : ((-p.num : Int) : Rat) / (((p.den : Nat) : Int) : Rat) = -p := by
  rw [← Rat.divInt_eq_div, ← Rat.neg_divInt, Rat.num_divInt_den]
theorem ci {b : Int} (hb : b ≠ 0) : (b : Rat) ≠ 0 := by simpa using hb
theorem num_ne {q : Rat} (h : q ≠ 0) : q.num ≠ 0 := by simpa using h
theorem r_div (p q : Rat) (h : q.num ≠ 0) : ((p.num * q.den : Int) : Rat) / ((p.den * q.num : Int) : Rat) = p / q := by
  have hq : (q.num : Rat) ≠ 0 := ci h
  have d1 : ((p.den : Int) : Rat) ≠ 0 := ci (by have := p.den_nz; omega)
  have d2 : ((q.den : Int) : Rat) ≠ 0 := ci (by have := q.den_nz; omega)
  have e1 := r_self p
  have e2 := r_self q
  have : p / q = (((p.num : Int) : Rat) / (((p.den : Nat) : Int) : Rat)) / (((q.num : Int) : Rat) / (((q.den : Nat) : Int) : Rat)) := by rw [e1, e2]
  rw [this, Rat.intCast_mul, Rat.intCast_mul]
  grind
/-! fractions of ints -/
theorem f_add (a b c d : Int) (hb : b ≠ 0) (hd : d ≠ 0) : ((a * d + c * b : Int) : Rat) / ((b * d : Int) : Rat) = (a : Rat) / b + (c : Rat) / d := by
  have := ci hb
  have := ci hd
  rw [Rat.intCast_add, Rat.intCast_mul, Rat.intCast_mul, Rat.intCast_mul]
  grind
theorem f_sub (a b c d : Int) (hb : b ≠ 0) (hd : d ≠ 0) : ((a * d - c * b : Int) : Rat) / ((b * d : Int) : Rat) = (a : Rat) / b - (c : Rat) / d := by
  have := ci hb
  have := ci hd
  rw [Rat.intCast_sub, Rat.intCast_mul, Rat.intCast_mul, Rat.intCast_mul]
  grind
theorem f_mul (a b c d : Int) (hb : b ≠ 0) (hd : d ≠ 0) : ((a * c : Int) : Rat) / ((b * d : Int) : Rat) = (a : Rat) / b * ((c : Rat) / d) := by
  have := ci hb
  have := ci hd
  rw [Rat.intCast_mul, Rat.intCast_mul]
  grind
theorem f_neg (a b : Int) (hb : b ≠ 0) : ((-a : Int) : Rat) / (b : Rat) = -((a : Rat) / b) := by
  have := ci hb
  rw [Rat.intCast_neg]
  grind
theorem f_div (a b c d : Int) (hb : b ≠ 0) (hc : c ≠ 0) (hd : d ≠ 0) : ((a * d : Int) : Rat) / ((b * c : Int) : Rat) = (a : Rat) / b / ((c : Rat) / d) := by
  have := ci hb
  have := ci hc
  have := ci hd
  rw [Rat.intCast_mul, Rat.intCast_mul]
  grind
theorem f_neg3 (a b : Int) (hb : b ≠ 0) : ((-3 * a : Int) : Rat) / ((-3 * b : Int) : Rat) = (a : Rat) / b := by
  have := ci hb
  rw [Rat.intCast_mul, Rat.intCast_mul]
  grind
theorem f_zero (a b : Int) (hb : b ≠ 0) : ((a : Rat) / b = 0) ↔ a = 0 := by
  have := ci hb
  constructor
  · intro h
    have : (a : Rat) = 0 := by grind
    simpa using this
  · rintro rfl
    rw [Rat.div_def]
    simp
theorem num_zero (q : Rat) : q.num = 0 ↔ q = 0 := by simp
theorem f_eq (a b c d : Int) (hb : b ≠ 0) (hd : d ≠ 0) : ((a : Rat) / b = (c : Rat) / d) ↔ a * d = c * b := by
  have := ci hb
  have := ci hd
  constructor
  · intro h
    have : (a : Rat) * d = (c : Rat) * b := by grind
    rw [← Rat.intCast_mul, ← Rat.intCast_mul] at this
    exact Rat.intCast_inj.mp this
  · intro h
    have : (a : Rat) * d = (c : Rat) * b := by rw [← Rat.intCast_mul, ← Rat.intCast_mul, h]
    grind
theorem f_lt (a b c d : Int) (hb : b ≠ 0) (hd : d ≠ 0) : ((a * d - c * b) * b * d < 0) ↔ ((a : Rat) / b < (c : Rat) / d) := by
  have hb' := ci hb
  have hd' := ci hd
  have e : (((a * d - c * b) * b * d : Int) : Rat) = ((a : Rat) / b - (c : Rat) / d) * ((b : Rat) * d) * ((b : Rat) * d) := by
    rw [Rat.intCast_mul, Rat.intCast_mul, Rat.intCast_sub, Rat.intCast_mul, Rat.intCast_mul]
    grind
  have sq : 0 < ((b : Rat) * d) * ((b : Rat) * d) := by
    have h0 : (b : Rat) * d ≠ 0 := by grind
    have tri : (b : Rat) * d < 0 ∨ 0 < (b : Rat) * d := by grind
    rcases tri with h | h
    · have := Rat.mul_pos (Rat.neg_lt_neg h) (Rat.neg_lt_neg h)
      grind
    · exact Rat.mul_pos h h
  rw [← Rat.intCast_neg_iff, e, Rat.mul_assoc, Rat.mul_neg_iff_of_pos_right sq]
  constructor <;> intro h <;> grind
theorem lt_nd (p q : Rat) : (p.num * q.den < q.num * p.den) ↔ p < q := (Rat.lt_iff p q).symm
theorem eq_nd (p q : Rat) : (p.num = q.num ∧ (p.den : Int) = (q.den : Int)) ↔ p = q := by
  constructor
  · rintro ⟨h1, h2⟩
    exact Rat.ext h1 (by omega)
  · rintro rfl
    exact ⟨rfl, rfl⟩
/-! sizes -/
/-- both terms below 2 ^ n -/
structure Bd (n : Nat) (q : Rat) : Prop where
  num : q.num.natAbs < 2 ^ n
  den : q.den < 2 ^ n
def Sz (n : Nat) (i : Int) : Prop := i.natAbs < 2 ^ n
theorem sz0 {n : Nat} : Sz n 0 := Nat.two_pow_pos n
theorem sz1 {n : Nat} (h : n ≠ 0) : Sz n 1 := Nat.one_lt_two_pow h
theorem sz_of {n : Nat} {i : Int} (h : decide (i.natAbs < 2 ^ n) = true) : Sz n i := by
  unfold Sz
  exact of_decide_eq_true h
theorem Sz.mono {n m : Nat} {i : Int} (h : Sz n i) (hm : n ≤ m) : Sz m i := Nat.lt_of_lt_of_le h (Nat.pow_le_pow_right (by decide) hm)
theorem Bd.mono {n m : Nat} {q : Rat} (h : Bd n q) (hm : n ≤ m) : Bd m q :=
  ⟨Nat.lt_of_lt_of_le h.num (Nat.pow_le_pow_right (by decide) hm), Nat.lt_of_lt_of_le h.den (Nat.pow_le_pow_right (by decide) hm)⟩
theorem Sz.mul {n m : Nat} {i j : Int} (h : Sz n i) (h' : Sz m j) : Sz (n + m) (i * j) := by
  unfold Sz at *
  rw [Int.natAbs_mul, Nat.pow_add]
  exact Nat.mul_lt_mul_of_lt_of_lt h h'
theorem Sz.add {n : Nat} {i j : Int} (h : Sz n i) (h' : Sz n j) : Sz (n + 1) (i + j) := by
  unfold Sz at *
  rw [Nat.pow_succ]
  have := Int.natAbs_add_le i j
  omega
theorem Sz.sub {n : Nat} {i j : Int} (h : Sz n i) (h' : Sz n j) : Sz (n + 1) (i - j) := by
  unfold Sz at *
  rw [Nat.pow_succ]
  have := Int.natAbs_sub_le i j
  omega
theorem Sz.neg {n : Nat} {i : Int} (h : Sz n i) : Sz n (-i) := by
  unfold Sz at *
  rw [Int.natAbs_neg]
  exact h
theorem Bd.n {n : Nat} {q : Rat} (h : Bd n q) : Sz n q.num := h.num
theorem Bd.d {n : Nat} {q : Rat} (h : Bd n q) : Sz n (q.den : Int) := by
  have := h.den
  show ((q.den : Int)).natAbs < 2 ^ n
  simpa using this
theorem Bd.of {n : Nat} {t b : Int} (h : Sz n t) (h' : Sz n b) (hb : b ≠ 0) : Bd n ((t : Rat) / (b : Rat)) :=
  ⟨Nat.lt_of_le_of_lt (num_le t b) h, Nat.lt_of_le_of_lt (den_le t b hb) h'⟩
theorem den_ne (p : Rat) : (p.den : Int) ≠ 0 := by have := p.den_nz; omega
theorem Bd.add {n : Nat} {p q : Rat} (h : Bd n p) (h' : Bd n q) : Bd (n + n + 1) (p + q) := by
  rw [← r_add]
  refine .of ((h.n.mul h'.d).add (h'.n.mul h.d)) ((h.d.mul h'.d).mono (by omega)) ?_
  exact Int.mul_ne_zero (den_ne p) (den_ne q)
theorem Bd.sub {n : Nat} {p q : Rat} (h : Bd n p) (h' : Bd n q) : Bd (n + n + 1) (p - q) := by
  rw [← r_sub]
  refine .of ((h.n.mul h'.d).sub (h'.n.mul h.d)) ((h.d.mul h'.d).mono (by omega)) ?_
  exact Int.mul_ne_zero (den_ne p) (den_ne q)
theorem Bd.mul {n : Nat} {p q : Rat} (h : Bd n p) (h' : Bd n q) : Bd (n + n + 1) (p * q) := by
  rw [← r_mul]
  refine .of ((h.n.mul h'.n).mono (by omega)) ((h.d.mul h'.d).mono (by omega)) ?_
  exact Int.mul_ne_zero (den_ne p) (den_ne q)
theorem Bd.neg {n : Nat} {p : Rat} (h : Bd n p) : Bd n (-p) := ⟨by rw [Rat.neg_num, Int.natAbs_neg]; exact h.num, by rw [Rat.neg_den]; exact h.den⟩
/-! Euclid, as the law does it -/
theorem euclid_step {f s : Int} (hf : 0 ≤ f) (hs : 0 < s) : Nat.gcd s.natAbs (f % s).natAbs = Nat.gcd f.natAbs s.natAbs := by
  have e : (f % s).natAbs = f.natAbs % s.natAbs := by
    obtain ⟨a, rfl⟩ := Int.eq_ofNat_of_zero_le hf
    obtain ⟨b, rfl⟩ := Int.eq_ofNat_of_zero_le (Int.le_of_lt hs)
    rfl
  rw [e, Nat.gcd_comm s.natAbs, ← Nat.gcd_rec, Nat.gcd_comm]
end ZR

set_option Elab.async false
set_option linter.all false
set_option maxRecDepth 100000
set_option maxHeartbeats 4000000
/-! general rules of our own -/
namespace Z
open PySem PySem.Spec PyProof.Rows L2

/-- nothing is let out -/
abbrev EN : L2.St → XK := fun _ _ _ _ => False
theorem cxN {P : Program} {w : World} {outer : List Env} {H : Hp} {s s' : Shared} {e : Value} (h : L2.CX P w outer H s (fun _ _ _ => False) e s') : False := by
  obtain ⟨_, _, _, _, _, _, _, _, _, _, _, _, z⟩ := h
  exact z
theorem passN {X : Cx} : ∀ σ, PassesAt (L2.CX X.prog X.w) X σ (EN σ) := fun σ pins H s e s' _ h => by
  obtain ⟨_, _, _, _, _, _, _, _, _, _, _, _, z⟩ := h
  exact z.elim

section
variable {X : Cx} {CX : CXT} {k : Nat} {f C g : Addr} {sp : Sp} {E : L2.St → XK} {x m : Str} {p pos apos : Pos} {e o : Expr} {es : List Expr} {ta te : TE} {t : TA}

theorem runR {pins : List (Addr × Obj)} {σ : L2.St} {H : Hp} {s : Shared} {Q : VK} {us : List Value} {vs : List V}
    (F : FnR X.prog X.w X.K X.mg X.base CX k f sp) (hr : Room k X.A) (hx : ∀ σ, PassesAt CX X σ (E σ)) (I : Inv X pins σ H s)
    (r : Vals vs us) (h : sp vs H Q (E σ)) : wpAny (model X.prog X.w) X.A (call (.ref f) us) (EP X pins σ Q) X.xe s := by
  refine wpAny_call (codeAny_mono (F X.A X.stack s H us vs Q (E σ) hr I.env0 r h) fun q s' hq => ?_)
  rcases q with e | fl
  · exact hx σ pins H s e s' I hq
  · rcases fl with _ | _ | _ | u
    · exact False.elim hq
    · exact False.elim hq
    · exact False.elim hq
    · exact I.after hq

/-- f(e, ..) -/
theorem z_call (F : FnR X.prog X.w X.K X.mg X.base CX k f sp) (hr : Room k X.A) (hm : X.mg x = some (.ref f)) (hk : PySem.W.keepIn X.K (.ref f) = true)
    (hx : ∀ σ, PassesAt CX X σ (E σ)) (ha : PA X (e :: es) t) (hg : Gl X x := by rfl) (hdb : (x == ("__debug__" : Str)) = false := by decide)
    (he : starEach (e :: es) X.env = (false, eval e X.env) :: starEach es X.env := by rfl)
    (hpl : (backTo pos (starEach es X.env)).any (·.1) = false := by rfl) : PE X (.Call (.Name x p) (e :: es) [] pos) (tCallS sp E t) := by
  constructor
  intro pins s σ H Q I h
  apply wpAny_Call_Name_kw
  apply ld_glob I hg hm _ hdb
  apply PySem.W.callWith_K (h₀ := X.base) I.ok.mod.kin hk _ he hpl
  refine thn (ha.run pos pins s σ H _ I h) fun us s1 hh => ?_
  obtain ⟨vs, H1, I1, r, q⟩ := hh
  exact ⟨I1.kIn, runR F hr hx I1 r q⟩
theorem z_call0 (F : FnR X.prog X.w X.K X.mg X.base CX k f sp) (hr : Room k X.A) (hm : X.mg x = some (.ref f)) (hk : PySem.W.keepIn X.K (.ref f) = true)
    (hx : ∀ σ, PassesAt CX X σ (E σ)) (hg : Gl X x := by rfl) (hdb : (x == ("__debug__" : Str)) = false := by decide) :
    PE X (.Call (.Name x p) [] [] pos) (tCallS sp E tNil) := by
  constructor
  intro pins s σ H Q I h
  apply wpAny_Call_Name_kw
  apply ld_glob I hg hm _ hdb
  exact PySem.W.callWith_K0 I.kIn hk (runR (us := []) F hr hx I .nil h)

/-- o.m(e, ..) -/
def tMethS (C : Addr) (m : Str) (sp : Sp) (E : L2.St → XK) (ta : TE) (t : TA) : TE := fun σ H Q => ta σ H fun x H1 =>
  ∃ a dx fs, x = .ref a ∧ H1 a = some (.ins C dx fs) ∧ fs.lookup m = none ∧ t σ H1 fun vs H2 => sp (x :: vs) H2 Q (E σ)
theorem z_meth {pl : Sem Bool} (he : PE X o ta) (c : Cls X.K C) (hm : Meth X.K C m f) (F : FnR X.prog X.w X.K X.mg X.base CX k f sp) (hr : Room k X.A)
    (hx : ∀ σ, PassesAt CX X σ (E σ)) (ha : PA X (e :: es) t)
    (hst : starEach (e :: es) X.env = (false, eval e X.env) :: starEach es X.env := by rfl)
    (hpl : (backTo pos (starEach es X.env)).any (·.1) = false := by rfl)
    (ht : eval (.Call (.Attribute o m apos) (e :: es) [] pos) X.env = (do
      let ov ← eval o X.env
      standAt apos.atName
      let (f, first) ← holding [ov] (getMethod ov m pl)
      callWith pos f first (backTo pos (starEach (e :: es) X.env)) (backToKw pos (keywordEach [] X.env))) := by rfl) :
    PE X (.Call (.Attribute o m apos) (e :: es) [] pos) (tMethS C m sp E ta t) := by
  constructor
  intro pins s σ H Q I h
  refine PySem.W.methodCall_KW (pl := pl) (thn (he.run pins s σ H _ I h) fun u s1 hh => ?_) ht
  obtain ⟨x, H1, I1, rx, a, dx, fs, ex, ea, l, q⟩ := hh
  subst ex
  obtain rfl : u = Value.ref a := rx
  apply getmeth_ok I1 ea c hm l
  apply PySem.W.callWith_K (first := [.ref a]) (h₀ := X.base) I.ok.mod.kin hm.kp _ hst hpl
  refine thn (ha.run pos pins s1 σ H1 _ I1 q) fun us s2 hh => ?_
  obtain ⟨vs, H2, I2, r, q2⟩ := hh
  exact ⟨I2.kIn, runR (us := .ref a :: us) (vs := .ref a :: vs) F hr hx I2 (.cons rfl r) q2⟩
theorem z_meth0 {pl : Sem Bool} (he : PE X o ta) (c : Cls X.K C) (hm : Meth X.K C m f) (F : FnR X.prog X.w X.K X.mg X.base CX k f sp) (hr : Room k X.A)
    (hx : ∀ σ, PassesAt CX X σ (E σ))
    (ht : eval (.Call (.Attribute o m apos) [] [] pos) X.env = (do
      let ov ← eval o X.env
      standAt apos.atName
      let (f, first) ← holding [ov] (getMethod ov m pl)
      callWith pos f first (backTo pos (starEach [] X.env)) (backToKw pos (keywordEach [] X.env))) := by rfl) :
    PE X (.Call (.Attribute o m apos) [] [] pos) (tMethS C m sp E ta tNil) := by
  constructor
  intro pins s σ H Q I h
  refine PySem.W.methodCall_KW (pl := pl) (thn (he.run pins s σ H _ I h) fun u s1 hh => ?_) ht
  obtain ⟨x, H1, I1, rx, a, dx, fs, ex, ea, l, q⟩ := hh
  subst ex
  obtain rfl : u = Value.ref a := rx
  apply getmeth_ok I1 ea c hm l
  exact PySem.W.callWith_K0 (first := [.ref a]) I1.kIn hm.kp (runR (us := [.ref a]) (vs := [.ref a]) F hr hx I1 (.cons rfl .nil) q)

/-- C(e, ..) -/
def tMakeS (C : Addr) (sp : Sp) (E : L2.St → XK) (t : TA) : TE := fun σ H Q => t σ H fun vs H1 => ∀ x dx, H1 x = Option.none → H1 dx = Option.none → dx ≠ x →
  sp (V.ref x :: vs) (upd (upd H1 dx (.own x)) x (.ins C dx [])) (fun v H2 => v = .non ∧ Q (.ref x) H2)
    (fun cls d H2 => E σ cls d H2)
theorem runMake {pins : List (Addr × Obj)} {σ : L2.St} {H : Hp} {s : Shared} {Q : VK} {us : List Value} {vs : List V} (M : Mk X.K C f)
    (F : FnR X.prog X.w X.K X.mg X.base CX k f sp) (hr : Room (k + 1) X.A) (hx : ∀ σ, PassesAt CX X σ (E σ)) (I : Inv X pins σ H s) (r : Vals vs us)
    (h : ∀ x dx, H x = Option.none → H dx = Option.none → dx ≠ x →
      sp (V.ref x :: vs) (upd (upd H dx (.own x)) x (.ins C dx [])) (fun v H2 => v = .non ∧ Q (.ref x) H2) (E σ)) :
    wpAny (model X.prog X.w) X.A (call (.ref C) us) (EP X pins σ Q) X.xe s := by
  have hq := h (s.heap.objs.size + 1) s.heap.objs.size (I.hok.fresh (Nat.le_succ _)) (I.hok.fresh (Nat.le_refl _)) (Nat.ne_of_lt (Nat.lt_succ_self _))
  have I2 := Inv.made (C := C) I
  have r2 : Vals (V.ref (s.heap.objs.size + 1) :: vs) (Value.ref (s.heap.objs.size + 1) :: us) := .cons rfl r
  refine wpAny_call (make_map (f := f) I.kIn M.makes M.init (beq_iff_eq.mp M.fn) (codeAny_mono (F _ X.stack _ _ _ _ _ (E σ)
    (hr.make C us []) (I2.env0.make C us []) r2 hq) fun q s' hq' => ?_))
  rcases q with e | fl
  · exact hx σ pins _ _ e s' I2 hq'
  · rcases fl with _ | _ | _ | u
    · exact False.elim hq'
    · exact False.elim hq'
    · exact False.elim hq'
    · obtain ⟨v, H', I3, rv, ev, q3⟩ := I2.after hq'
      subst ev
      exact ⟨rv, ⟨V.ref (s.heap.objs.size + 1), H', I3, rfl, q3⟩⟩
theorem z_make (M : Mk X.K C f) (F : FnR X.prog X.w X.K X.mg X.base CX k f sp) (hr : Room (k + 1) X.A) (hm : X.mg x = some (.ref C))
    (hx : ∀ σ, PassesAt CX X σ (E σ)) (ha : PA X (e :: es) t) (hg : Gl X x := by rfl) (hdb : (x == ("__debug__" : Str)) = false := by decide)
    (he : starEach (e :: es) X.env = (false, eval e X.env) :: starEach es X.env := by rfl)
    (hpl : (backTo pos (starEach es X.env)).any (·.1) = false := by rfl) : PE X (.Call (.Name x p) (e :: es) [] pos) (tMakeS C sp E t) := by
  constructor
  intro pins s σ H Q I h
  apply wpAny_Call_Name_kw
  apply ld_glob I hg hm _ hdb
  apply PySem.W.callWith_K (h₀ := X.base) I.ok.mod.kin M.kp _ he hpl
  refine thn (ha.run pos pins s σ H _ I h) fun us s1 hh => ?_
  obtain ⟨vs, H1, I1, r, q⟩ := hh
  exact ⟨I1.kIn, runMake M F hr hx I1 r q⟩
end
end Z

set_option Elab.async false
set_option linter.all false
set_option maxRecDepth 100000
set_option maxHeartbeats 4000000
namespace Z
open PySem PySem.Spec PyProof.Rows L2

/-- a special method of an own class -/
structure Spc (K : PySem.W.Frag) (C : Addr) (n : Str) (f : Addr) : Prop where
  at_ : PySem.W.findIn K (.ref C) n = some (some (.ref f))
  fn : PySem.W.isFn K (.ref f) = true

section
variable {X : Cx} {k : Nat} {f C g : Addr} {sp : Sp}

theorem instAt {pins : List (Addr × Obj)} {σ : L2.St} {H : Hp} {s : Shared} {a dx : Addr} {fs : List (Str × V)} (I : Inv X pins σ H s)
    (e : H a = some (.ins C dx fs)) : ∃ ox od, PySem.W.InstAt s.heap a ox C od := by
  obtain ⟨mA, O, _⟩ := ins_get I.hok e
  obtain ⟨od, J, _⟩ := O.look
  exact ⟨_, _, J⟩
theorem cmpBack {A : Around} {E : Value → Shared → Prop} {pins : List (Addr × Obj)} {σ : L2.St} {Q : VK} {f : Addr} {us : List Value} {s : Shared}
    (h : wpAny (model X.prog X.w) A (call (.ref f) us) (EP X pins σ Q) E s) :
    wpAny (model X.prog X.w) A (call (.ref f) us) (PySem.W.CmpBack (EP X pins σ Q)) E s := by
  refine wpAny_mono h (fun v s' hv => ?_) fun _ _ z => z
  have hne : v ≠ .notImplemented := by
    rintro rfl
    obtain ⟨x, H', _, r, _⟩ := hv
    cases x
    case int => obtain ⟨t, q⟩ := r; cases q
    case str => obtain ⟨t, q⟩ := r; cases q
    case byt => obtain ⟨t, q⟩ := r; cases q
    case flt => obtain ⟨t, q⟩ := r; cases q
    all_goals cases r
  cases v
  case notImplemented => exact absurd rfl hne
  all_goals exact hv

/-- a op b, both instances of the class at C that has the operator's def -/
def rOwn (C : Addr) (sp : Sp) : R2 := fun x y H Q => ∃ a b dx dy fs gs, x = .ref a ∧ y = .ref b ∧ H a = some (.ins C dx fs) ∧ H b = some (.ins C dy gs) ∧
  sp [x, y] H Q (fun _ _ _ => False)
theorem op_own {op : Operator} (F : FnR X.prog X.w X.K X.mg X.base (L2.CX X.prog X.w) k f sp) (hr : Room k X.A)
    (hf : PySem.W.selfFirst X.K C = true) (S : Spc X.K C (PySem.dunder op.info.2) f) : OpR X (binaryOp op) (rOwn C sp) := by
  intro pins s σ H x y v u Q I rx ry h
  obtain ⟨a, b, dx, dy, fs, gs, rfl, rfl, ea, eb, h⟩ := h
  obtain rfl : v = Value.ref a := rx
  obtain rfl : u = Value.ref b := ry
  obtain ⟨ox, od, Ja⟩ := instAt I ea
  obtain ⟨oy, oe, Jb⟩ := instAt I eb
  obtain ⟨m, fr⟩ := I.fr
  apply PySem.W.binop_K fr I.ok.mod.kin Ja Jb.type hf S.at_ S.fn
  exact cmpBack (runR (us := [.ref a, .ref b]) (vs := [.ref a, .ref b]) (E := EN) F hr passN I (.cons rfl (.cons rfl .nil)) h)
/-- -a -/
def rOwn1 (C : Addr) (sp : Sp) : V → Hp → VK → Prop := fun x H Q => ∃ a dx fs, x = .ref a ∧ H a = some (.ins C dx fs) ∧ sp [x] H Q (fun _ _ _ => False)
theorem un_own (F : FnR X.prog X.w X.K X.mg X.base (L2.CX X.prog X.w) k f sp) (hr : Room k X.A) (S : Spc X.K C "__neg__" f) :
    UnR X (unaryOp .USub) (rOwn1 C sp) := by
  intro pins s σ H x v Q I rx h
  obtain ⟨a, dx, fs, rfl, ea, h⟩ := h
  obtain rfl : v = Value.ref a := rx
  obtain ⟨ox, od, Ja⟩ := instAt I ea
  obtain ⟨m, fr⟩ := I.fr
  apply PySem.W.ksp_neg fr I.ok.mod.kin Ja S.at_ S.fn
  exact runR (us := [.ref a]) (vs := [.ref a]) (E := EN) F hr passN I (.cons rfl .nil) h

/-! ### == and != by an own __eq__ -/
/-- the class of a value, as the other side of == -/
inductive Side (K : PySem.W.Frag) (C : Addr) (H : Hp) : V → Value → Prop where
  | ins {b dy : Addr} {gs : List (Str × V)} (e : H b = some (.ins C dy gs)) : Side K C H (.ref b) (.ref C)
  | lst {b : Addr} {xs : List V} (e : H b = some (.lst xs)) : Side K C H (.ref b) (.type "list")
  | int (i : Int) : Side K C H (.int i) (.type "int")
  | str (z : Str) : Side K C H (.str z) (.type "str")
theorem Side.look {K : PySem.W.Frag} {pins : List (Addr × Obj)} {σ : L2.St} {H : Hp} {s : Shared} {y : V} {u t : Value} (S : Side X.K C H y t) (I : Inv X pins σ H s) (r : RelV y u) :
    PySem.W.Looks (model X.prog X.w) s.heap (typeOf u) t := by
  cases S with
  | @ins b dy gs e =>
    obtain rfl : u = Value.ref b := r
    obtain ⟨ox, od, J⟩ := instAt I e
    exact J.type
  | @lst b xs e =>
    obtain rfl : u = Value.ref b := r
    obtain ⟨_, its, n, _, h1⟩ := (show ObjOk X.prog X.w H s.heap b (.lst xs) from I.hok b _ e)
    intro A Q E s' k q
    exact wpAny_typeOf_ref (k _ _ h1) q
  | int i =>
    obtain ⟨t, rfl⟩ := r
    exact PySem.W.Looks.of_pure rfl
  | str z =>
    obtain ⟨t, rfl⟩ := r
    exact PySem.W.Looks.of_pure rfl

def rOwnC (K : PySem.W.Frag) (C : Addr) (sp : Sp) : R2 := fun x y H Q => ∃ a dx fs t, x = .ref a ∧ H a = some (.ins C dx fs) ∧ Side K C H y t ∧ PySem.W.notFirst K C t = true ∧
  sp [x, y] H Q (fun _ _ _ => False)
theorem op_eqOwn (F : FnR X.prog X.w X.K X.mg X.base (L2.CX X.prog X.w) k f sp) (hr : Room k X.A) (S : Spc X.K C "__eq__" f) :
    OpR X (compareOp .Eq) (rOwnC X.K C sp) := by
  intro pins s σ H x y v u Q I rx ry h
  obtain ⟨a, dx, fs, t, rfl, ea, sd, hn, h⟩ := h
  obtain rfl : v = Value.ref a := rx
  obtain ⟨ox, od, Ja⟩ := instAt I ea
  obtain ⟨m, fr⟩ := I.fr
  have hu := hr.units0
  apply PySem.W.cmp_K (op := .Eq) hu fr I.ok.mod.kin Ja (sd.look (K := X.K) I ry) hn S.at_ S.fn
  exact cmpBack (runR (us := [.ref a, u]) (vs := [.ref a, y]) (E := EN) F hr passN I (.cons rfl (.cons ry .nil)) h)

/-- what the class says of != : it is left to object -/
structure NeC (K : PySem.W.Frag) (C : Addr) : Prop where
  at_ : PySem.W.findIn K (.ref C) "__ne__" = some (some (.builtin "object.__ne__"))
  ob : PySem.W.subIn K (.ref C) (.type "object") = some true
theorem objNe {A : Around} {E : Value → Shared → Prop} {s : Shared} {K : PySem.W.Frag} {a : Addr} {ox : Obj} {od : Option Obj} {b : Value} {Q : Fin → Shared → Prop} {prog : Program} {w : World}
    (hk : K.In s.heap) (J : PySem.W.InstAt s.heap a ox C od) (S : Spc K C "__eq__" f) (hu : A.units < cLine)
    (h : wpAny (model prog w) A (call (.ref f) [.ref a, b]) (fun v s' => ∃ r, v = .bool r ∧ Q (.done (.ret (.bool (!r)))) s') E s) :
    wpAny (model prog w) A (Builtin.«object.__ne__» ⟨[.ref a, b], []⟩) Q E s := by
  have one : wpAny (model prog w) A (callSpecialIfBound? (.ref a) (Str.ofString "__eq__") [b]) (fun o s' => ∃ r, o = some (.bool r) ∧ Q (.done (.ret (.bool (!r)))) s') E s := by
    refine PySem.W.ifBound_K hk J S.at_ S.fn (wpAny_mono h (fun v s' hv => ?_) fun _ _ z => z)
    obtain ⟨r, rfl, q⟩ := hv
    exact ⟨r, rfl, q⟩
  unfold Builtin.«object.__ne__»
  repeat (first
    | with_reducible refine wpAny_cRoomFor hu ?_
    | (refine wpAny_bind (m := callSpecialIfBound? (.ref a) (Str.ofString "__eq__") [b]) (wpAny_mono one (fun o s' hv => by
          obtain ⟨r, rfl, q⟩ := hv
          repeat (first | exact q | exact wpAny_pure q | exact wpAny_truthy_bool q | (refine wpAny_bind (m := truthy (.bool _)) (wpAny_truthy_bool ?_)) | wp_step)) fun _ _ z => z))
    | wp_step)
theorem neTry {A : Around} {E : Value → Shared → Prop} {s : Shared} {K : PySem.W.Frag} {a : Addr} {ox : Obj} {od : Option Obj} {b : Value} {Q : Value → Shared → Prop} {prog : Program} {w : World}
    (hk : K.In s.heap) (J : PySem.W.InstAt s.heap a ox C od) (S : Spc K C "__eq__" f) (N : NeC K C) (hu : A.in1.units < cLine)
    (h : wpAny (model prog w) A.in1 (call (.ref f) [.ref a, b]) (fun v s' => ∃ r, v = .bool r ∧ Q (.bool (!r)) s') E s) :
    wpAny (model prog w) A (tryCompare (.ref a) "__ne__" b) (fun o s' => ∃ v, o = some v ∧ Q v s') E s := by
  have sub : PySem.W.Looks (model prog w) s.heap (isInstance (.ref a) (.type "object")) true := J.type.andThen (PySem.W.looks_subIn hk N.ob)
  have body : wpAny (model prog w) A (call (.builtin "object.__ne__") [.ref a, b]) (fun v s' => ∃ r, v = .bool r ∧ Q (.bool r) s') E s := by
    refine wpAny_call (codeAny_call_builtin PySem.F.cmp_object.ne.plain PySem.F.cmpEntry_ne (PySem.W.check_slot PySem.F.cmpKind_ne PySem.F.cmpSplit_ne sub (PySem.F.cmpArgs_ne _ _) ?_))
    refine objNe (A := A.in1) hk J S hu (wpAny_mono h (fun v s' hv => ?_) fun _ _ z => z)
    obtain ⟨r, rfl, q⟩ := hv
    exact ⟨r, rfl, ⟨!r, rfl, q⟩⟩
  unfold tryCompare callSpecialIfBound? bindSpecialIfBound?
  have fin : wpAny (model prog w) A (call (.builtin "object.__ne__") ([.ref a] ++ [b]) >>= fun v => pure (some v)) (fun o s' => ∃ v, o = some v ∧ v ≠ .notImplemented ∧ Q v s') E s := by
    refine wpAny_bind (wpAny_mono body (fun v s' hv => ?_) fun _ _ z => z)
    obtain ⟨r, rfl, q⟩ := hv
    exact wpAny_pure ⟨_, rfl, (fun z => nomatch z), q⟩
  have fin2 : wpAny (model prog w) A (callSpecialIfBound? (.ref a) "__ne__" [b]) (fun o s' => ∃ v, o = some v ∧ v ≠ .notImplemented ∧ Q v s') E s := by
    simp only [callSpecialIfBound?, bindSpecialIfBound?]
    refine wpAny_holding (wpAny_bind (wpAny_bind (wpAny_bind (J.type.here ((PySem.W.looks_findIn hk N.at_).here ?_)))))
    simp only [PySem.F.cmp_object.ne.bind]
    refine wpAny_bind (wpAny_askSetting (wpAny_ite ?_))
    split
    · exact wpAny_bind (wpAny_pure (wpAny_pure fin))
    · exact wpAny_tryCatch (wpAny_bind (wpAny_pure (wpAny_pure fin)))
  show wpAny _ _ (tryCompare _ _ _) _ _ _
  unfold tryCompare
  refine wpAny_bind (wpAny_mono fin2 (fun o s' hv => ?_) fun _ _ z => z)
  obtain ⟨v, rfl, hne, q⟩ := hv
  cases v
  case notImplemented => exact absurd rfl hne
  all_goals exact wpAny_pure ⟨_, rfl, q⟩
theorem richNe {A : Around} {E : Value → Shared → Prop} {s : Shared} {K : PySem.W.Frag} {a : Addr} {ox : Obj} {od : Option Obj} {b t : Value} {Q : Value → Shared → Prop} {prog : Program} {w : World}
    (hk : K.In s.heap) (J : PySem.W.InstAt s.heap a ox C od) (S : Spc K C "__eq__" f) (N : NeC K C) (hu : A.units < cLine) (hu1 : A.in1.units < cLine)
    (lt : PySem.W.Looks (model prog w) s.heap (typeOf b) t) (hn : PySem.W.notFirst K C t = true)
    (h : wpAny (model prog w) A.in1 (call (.ref f) [.ref a, b]) (fun v s' => ∃ r, v = .bool r ∧ Q (.bool (!r)) s') E s) :
    wpAny (model prog w) A (richCompare .NotEq (.ref a) b) Q E s := by
  have one := neTry hk J S N hu1 h
  unfold richCompare
  simp only [oneThing_ref]
  refine wpAny_holding (wpAny_bind (wpAny_cRoomFor hu ?_))
  rw [cmpInfo_NotEq]
  dsimp only
  refine wpAny_bind (J.type.here (wpAny_bind (lt.here ?_)))
  split
  · rename_i q
    have e : PySem.W.subIn K t (.ref C) = some false := by
      rcases Bool.or_eq_true_iff.mp hn with e | e
      · rw [beq_iff_eq.mp e] at q
        simp at q
      · exact beq_iff_eq.mp e
    refine wpAny_bind ((PySem.W.looks_subIn hk e).here ?_)
    simp only [Bool.false_eq_true, if_false]
    refine wpAny_bind (wpAny_mono one (fun o s' z => ?_) fun _ _ z => z)
    obtain ⟨v, rfl, q⟩ := z
    exact wpAny_pure q
  · refine wpAny_bind (wpAny_pure ?_)
    simp only [Bool.false_eq_true, if_false]
    refine wpAny_bind (wpAny_mono one (fun o s' z => ?_) fun _ _ z => z)
    obtain ⟨v, rfl, q⟩ := z
    exact wpAny_pure q
/-- what the own == hands back is a bool: Q of the other one -/
theorem op_neOwn (F : FnR X.prog X.w X.K X.mg X.base (L2.CX X.prog X.w) k f sp) (hr : Room (k + 1) X.A) (S : Spc X.K C "__eq__" f) (N : NeC X.K C) :
    OpR X (compareOp .NotEq) (fun x y H Q => ∃ a dx fs t, x = .ref a ∧ H a = some (.ins C dx fs) ∧ Side X.K C H y t ∧ PySem.W.notFirst X.K C t = true ∧
      sp [x, y] H (fun v H' => ∃ r, v = .bl r ∧ Q (.bl (!r)) H') (fun _ _ _ => False)) := by
  intro pins s σ H x y v u Q I rx ry h
  obtain ⟨a, dx, fs, t, rfl, ea, sd, hn, h⟩ := h
  obtain rfl : v = Value.ref a := rx
  obtain ⟨ox, od, Ja⟩ := instAt I ea
  have hr1 : Room k X.A.in1 := hr.in1
  apply richNe (t := t) I.kIn Ja S N hr.units0 hr1.units0 (sd.look (K := X.K) I ry) hn
  refine wpAny_call (codeAny_mono (F X.A.in1 X.stack s H [.ref a, u] [.ref a, y] _ (fun _ _ _ => False) hr1 I.env0.in1 (.cons rfl (.cons ry .nil)) h) fun q s' hq => ?_)
  rcases q with e | fl
  · exact (cxN hq).elim
  · rcases fl with _ | _ | _ | u'
    · exact False.elim hq
    · exact False.elim hq
    · exact False.elim hq
    · obtain ⟨v', H', J', rv, r, ev, q⟩ := I.after hq
      subst ev
      obtain rfl : u' = Value.bool r := rv
      exact ⟨r, rfl, ⟨.bl (!r), H', J', rfl, q⟩⟩
end
end Z

set_option Elab.async false
set_option linter.all false
set_option maxRecDepth 100000
set_option maxHeartbeats 4000000
namespace Z
open PySem PySem.Spec PyProof.Rows L2
section
variable {prog : Program} {w : World} {A : Around} {E : Value → Shared → Prop} {s : Shared}
/-- bool(x), by the truth of x -/
theorem newBool {x : Value} {R : Result → Shared → Prop} (h : wpAny (model prog w) A.in1 (truthy x) (fun b s' => R (.ok (.ret (.bool b))) s') (fun e s' => R (.error e) s') s) :
    wpAny (model prog w) A.in1 (Builtin.«bool.__new__» ⟨[.type "bool", x], []⟩)
      (fun fin s' => match fin with | .done f => R (.ok f) s' | .again c' => c'.quiet = true ∧ codeAny (model prog w) A c' R s') (fun e s' => R (.error e) s') s := by
  have f1 := F.conv_sub_bool
  obtain ⟨hp, g, d, tk, os⟩ := s
  unfold Builtin.«bool.__new__»
  repeat (any_goals (first | assumption | (refine wpAny_bind (m := truthy x) (wpAny_mono h (fun b s' q => ?_) fun _ _ z => z)) | wp_step))
  all_goals first | exact q | exact ⟨_, rfl, q⟩ | skip
theorem callBool {x : Value} {Q : Value → Shared → Prop} (h : wpAny (model prog w) A.in1.in1 (truthy x) (fun b s' => Q (.bool b) s') E s) :
    wpAny (model prog w) A (call (.type "bool") [x]) Q E s := by
  have ft := F.called_bool
  obtain ⟨c, tl, hmro⟩ := ft.mro
  have hmade := ft.made
  have hsub := ft.sub
  have h1 := ft.notType
  have h2 := ft.canCreate
  have hct := F.typeCall_bool_1 x
  apply wpAny_call
  apply codeAny_of_tree
  show wpAny _ _ (callAny (.type "bool") _) _ _ _
  have quiet := Code.quiet_builtin (id := "type.__call__") ⟨[.type "bool", x], []⟩ (by decide +kernel)
  refine wpAny_pure ⟨quiet, ?_⟩
  apply codeAny_builtin F.entry_type_call
  rw [Around.under_plain (weight_type_call_type "bool" [x] []) (units_type_call_type "bool" [x] [])]
  repeat (any_goals (first | assumption | wp_step))
  have body := newBool (A := A.in1) (R := wants (fun o s₁ => s₁.TypeIs o "bool" ∧ Q o s₁) E) (wpAny_mono h (fun b s' q => ⟨rfl, q⟩) fun _ _ z => z)
  refine codeAny_mono (codeAny_call_builtin ft.plain F.entry_bool_new (wpAny_of_eq (F.newCall_bool_1 x) body)) fun r s₁ hr => ?_
  rcases r with e | fl
  · exact hr
  rcases fl with _ | _ | _ | obj
  · exact False.elim hr
  · exact False.elim hr
  · exact False.elim hr
  obtain ⟨hT, hq⟩ := hr
  have hli := ft.init.lookup
  have hbi := ft.init.bind obj
  repeat (any_goals (first | assumption | wp_step))
  have last := object_init_meets (self := obj) (rest := [x]) hli hmade F.newNe_bool prog w A.in1 (wants (fun r s₂ => r = .none ∧ Q obj s₂) E) s₁ ⟨hT, rfl, hq⟩
  refine codeAny_mono (codeAny_call_builtin ft.init.plain F.entry_object_init (ft.init.check _ _ _ _ _ _ _ _ hT (F.args_object_init_2 obj x) last)) fun r₂ s₂ hr₂ => ?_
  rcases r₂ with e | fl
  · exact hr₂
  rcases fl with _ | _ | _ | r
  · exact False.elim hr₂
  · exact False.elim hr₂
  · exact False.elim hr₂
  obtain ⟨rfl, hq⟩ := hr₂
  repeat (any_goals (first | assumption | wp_step))
end
section
variable {X : Cx} {k : Nat} {f C : Addr} {sp : Sp}
/-- bool(x), x an instance with its own __bool__ -/
def rBoolOwn (C : Addr) (sp : Sp) : List V → Hp → VK → Prop := fun xs H Q => ∃ a dx fs, xs = [.ref a] ∧ H a = some (.ins C dx fs) ∧
  sp [.ref a] H (fun v H' => ∃ r, v = .bl r ∧ Q (.bl r) H') (fun _ _ _ => False)
theorem call_boolOwn (F : FnR X.prog X.w X.K X.mg X.base (L2.CX X.prog X.w) k f sp) (hr : Room (k + 2) X.A) (S : Spc X.K C "__bool__" f) :
    CallR X (.type "bool") (rBoolOwn C sp) := by
  intro pins s σ H xs us Q I r h
  obtain ⟨a, dx, fs, rfl, ea, h⟩ := h
  obtain rfl := Vals.ref1 r
  obtain ⟨ox, od, Ja⟩ := instAt I ea
  obtain ⟨m, fr⟩ := I.fr
  have hr1 : Room k X.A.in1.in1 := (hr.in1).in1
  apply callBool
  apply PySem.W.truthy_K fr I.ok.mod.kin Ja S.at_ S.fn
  refine wpAny_call (codeAny_mono (F X.A.in1.in1 X.stack s H [.ref a] [.ref a] _ (fun _ _ _ => False) hr1 I.env0.in1.in1 (.cons rfl .nil) h) fun q s' hq => ?_)
  rcases q with e | fl
  · exact (cxN hq).elim
  rcases fl with _ | _ | _ | u'
  · exact False.elim hq
  · exact False.elim hq
  · exact False.elim hq
  obtain ⟨v', H', J', rv, r, ev, q⟩ := I.after hq
  subst ev
  obtain rfl : u' = Value.bool r := rv
  exact ⟨.bl r, H', J', rfl, q⟩
end
end Z

set_option Elab.async false
set_option linter.all false
set_option maxRecDepth 100000
set_option maxHeartbeats 4000000
/-! readings, one step at a time -/
namespace Z
open PySem PySem.Spec PyProof.Rows L2
section
variable {X : Cx} {K : PySem.W.Frag} {σ σ' : L2.St} {H H1 : Hp} {D : Ends} {t u : TS} {te ta tb tc : TE} {tt tu : TT} {tr : TA} {g : TG} {Q : VK} {QB : Bool → Hp → Prop} {QA : List V → Hp → Prop} {QS : L2.St → Hp → Prop} {v x y : V} {i j : Nat} {A B : Prop}

theorem i_seq (h : t { D with nx := u D } σ H) : tSeq t u D σ H := h
theorem i_next (h : D.nx σ H) : tNext D σ H := h
theorem i_asg (h : te σ H (fun x H1 => g x σ H1 D.nx)) : tAsg te g D σ H := h
theorem i_gname (e : σ.set i (some v) = σ') (h : QS σ' H) : gName i v σ H QS := by
  subst e
  exact h
theorem i_ret (h : te σ H D.rt) : tRet te D σ H := h
theorem i_retN (h : D.rt .non H) : tRetN D σ H := h
theorem i_drop (h : te σ H (fun _ H1 => D.nx σ H1)) : tDrop te D σ H := h
theorem i_ifs (h : tt σ H (fun b H1 => if b = true then t D σ H1 else u D σ H1)) : tIfS tt t u D σ H := h
theorem i_test (h : te σ H (fun x H1 => ∃ k, x = .bl k ∧ QB k H1)) : tTest te σ H QB := h
theorem i_B (h : te σ H (fun x H1 => ∃ k, x = .bl k ∧ QB k H1)) : tB te σ H QB := h
theorem i_bl {b : Bool} (h : QB b H) : ∃ k, V.bl b = .bl k ∧ QB k H := ⟨b, rfl, h⟩
theorem i_bl' {b : Bool} {P : Bool → Prop} (h : P b) : ∃ k, V.bl b = .bl k ∧ P k := ⟨b, rfl, h⟩
theorem i_and (h : tt σ H (fun c H1 => if c = true then tu σ H1 QB else QB false H1)) : tAnd tt tu σ H QB := h
theorem i_or (h : tt σ H (fun c H1 => if c = true then QB true H1 else tu σ H1 QB)) : tOr tt tu σ H QB := h
theorem i_not (h : tt σ H (fun c H1 => QB (!c) H1)) : tNot tt σ H QB := h
theorem i_andV (h : ta σ H (fun x H1 => ∃ c, x = .bl c ∧ if c = true then tb σ H1 Q else Q (.bl false) H1)) : tAndV ta tb σ H Q := h
theorem i_orV (h : ta σ H (fun x H1 => ∃ c, x = .bl c ∧ if c = true then Q (.bl true) H1 else tb σ H1 Q)) : tOrV ta tb σ H Q := h
theorem i_notV (h : ta σ H (fun x H1 => ∃ c, x = .bl c ∧ Q (.bl (!c)) H1)) : tNotV ta σ H Q := h
theorem i_ifx (h : tt σ H (fun c H1 => if c = true then ta σ H1 Q else tb σ H1 Q)) : tIf tt ta tb σ H Q := h
theorem i_dec {p : Prop} [Decidable p] (h1 : p → A) (h2 : ¬p → B) : if decide p = true then A else B := by
  by_cases hp : p
  · rw [if_pos (decide_eq_true hp)]
    exact h1 hp
  · rw [if_neg (by simpa using hp)]
    exact h2 hp
theorem i_ndec {p : Prop} [Decidable p] (h1 : ¬p → A) (h2 : p → B) : if (!decide p) = true then A else B := by
  by_cases hp : p
  · rw [if_neg (by simpa using hp)]
    exact h2 hp
  · rw [if_pos (by simpa using hp)]
    exact h1 hp
theorem i_bool {b : Bool} (h1 : b = true → A) (h2 : b = false → B) : if b = true then A else B := by
  cases b
  · exact h2 rfl
  · exact h1 rfl
theorem i_tt (h : A) : if true = true then A else B := h
theorem i_ff (h : B) : if false = true then A else B := h
theorem i_nt (h : B) : if (!true) = true then A else B := h
theorem i_nf (h : A) : if (!false) = true then A else B := h
/-! values -/
theorem i_var (e : σ[i]? = some (some v)) (h : Q v H) : tVar i σ H Q := ⟨v, e, h⟩
theorem i_c (h : Q v H) : tC v σ H Q := h
theorem i_op {r : R2} (h : ta σ H (fun x H1 => tb σ H1 (fun y H2 => r x y H2 Q))) : tOp r ta tb σ H Q := h
theorem i_un {r : V → Hp → VK → Prop} (h : ta σ H (fun x H1 => r x H1 Q)) : tUn r ta σ H Q := h
theorem i_cons (h : te σ H (fun x H1 => tr σ H1 (fun xs H2 => QA (x :: xs) H2))) : tCons te tr σ H QA := h
theorem i_nil (h : QA [] H) : tNil σ H QA := h
theorem i_cb {r : List V → Hp → VK → Prop} (h : tr σ H (fun vs H1 => r vs H1 Q)) : tCB r tr σ H Q := h
theorem i_call {sp : Sp} {E : L2.St → XK} (h : tr σ H (fun vs H1 => sp vs H1 Q (E σ))) : tCallS sp E tr σ H Q := h
theorem sz_small {n : Nat} (h : n ≤ 100000) : n ≤ sizeLine := Nat.le_trans h (by decide)
/-- a new list, a new tuple: from here on the heap is another letter -/
theorem i_lst (h : tr σ H (fun xs H1 => xs.length ≤ 100000 ∧ ∀ p H2, H1 p = none → Same H1 H2 → H2 p = some (.lst xs) → (∀ b, b ≠ p → H2 b = H1 b) → Q (.ref p) H2))
    (mono : ∀ Q Q' : List V → Hp → Prop, (∀ xs H, Q xs H → Q' xs H) → tr σ H Q → tr σ H Q') : tLst tr σ H Q := by
  refine mono _ _ (fun xs H1 q => ?_) h
  exact ⟨sz_small q.1, fun p hp => q.2 p _ hp (fun b o e => by rw [upd_ne (ne_of_none e hp)]; exact e) upd_same (fun b hb => upd_ne hb)⟩
/-- what comes behind the items of a display -/
def rLst (xs : List V) (H1 : Hp) (Q : VK) : Prop := xs.length ≤ sizeLine ∧ ∀ p, H1 p = none → Q (.ref p) (upd H1 p (.lst xs))
def rTup (xs : List V) (H1 : Hp) (Q : VK) : Prop := xs.length ≤ sizeLine ∧ ∀ p, H1 p = none → Q (.ref p) (upd H1 p (.tup xs))
theorem i_lst0 (h : tr σ H (fun xs H1 => rLst xs H1 Q)) : tLst tr σ H Q := h
theorem i_tup0 (h : tr σ H (fun xs H1 => rTup xs H1 Q)) : tTup tr σ H Q := h
theorem i_lst1 {xs : List V} (hl : xs.length ≤ 100000) (h : ∀ p H2, H p = none → Same H H2 → H2 p = some (.lst xs) → (∀ b, b ≠ p → H2 b = H b) → Q (.ref p) H2) : rLst xs H Q :=
  ⟨sz_small hl, fun p hp => h p _ hp (fun b o e => by rw [upd_ne (ne_of_none e hp)]; exact e) upd_same (fun b hb => upd_ne hb)⟩
theorem i_tup1 {xs : List V} (hl : xs.length ≤ 100000) (h : ∀ p H2, H p = none → Same H H2 → H2 p = some (.tup xs) → (∀ b, b ≠ p → H2 b = H b) → Q (.ref p) H2) : rTup xs H Q :=
  ⟨sz_small hl, fun p hp => h p _ hp (fun b o e => by rw [upd_ne (ne_of_none e hp)]; exact e) upd_same (fun b hb => upd_ne hb)⟩
/-! attributes -/
def rFld (K : PySem.W.Frag) (f : Str) (x : V) (H1 : Hp) (Q : VK) : Prop := ∃ a C dx fs v, x = .ref a ∧ H1 a = some (.ins C dx fs) ∧ Cls K C ∧ NoAttr K C f ∧ fs.lookup f = some v ∧ Q v H1
theorem i_fld0 {f : Str} (h : ta σ H (fun x H1 => rFld K f x H1 Q)) : tFld K ta f σ H Q := h
theorem i_fld1 {f : Str} {a C dx : Addr} {fs : List (Str × V)} (e : H a = some (.ins C dx fs)) (c : Cls K C) (n : NoAttr K C f) (l : fs.lookup f = some v) (h : Q v H) : rFld K f (.ref a) H Q := ⟨a, C, dx, fs, v, rfl, e, c, n, l, h⟩
def rPut (K : PySem.W.Frag) (f : Str) (y x : V) (H2 : Hp) (Q : Hp → Prop) : Prop := ∃ a C dx fs, x = .ref a ∧ H2 a = some (.ins C dx fs) ∧ Cls K C ∧ NoAttr K C f ∧ fs.length < 1000 ∧ Q (upd H2 a (.ins C dx (putF f y fs)))
theorem i_put0 {f : Str} {tv : TE} (h : tv σ H (fun y H1 => ta σ H1 (fun x H2 => rPut K f y x H2 (fun H3 => D.nx σ H3)))) : sFld K ta tv f D σ H := h
theorem i_put1 {f : Str} {a C dx : Addr} {fs gs : List (Str × V)} {P : Hp → Prop} (e : H a = some (.ins C dx fs)) (c : Cls K C) (n : NoAttr K C f) (l : fs.length < 100) (w : putF f y fs = gs)
    (h : ∀ H2, H2 a = some (.ins C dx gs) → (∀ b, b ≠ a → H2 b = H b) → P H2) : rPut K f y (.ref a) H P :=
  ⟨a, C, dx, fs, rfl, e, c, n, by omega, by rw [w]; exact h _ upd_same (fun b hb => upd_ne hb)⟩
/-! methods, new instances -/
def rMeth (C : Addr) (m : Str) (x : V) (H1 : Hp) (P : Prop) : Prop := ∃ a dx fs, x = .ref a ∧ H1 a = some (.ins C dx fs) ∧ fs.lookup m = none ∧ P
theorem i_meth {C : Addr} {m : Str} {sp : Sp} {E : L2.St → XK} (h : ta σ H (fun x H1 => rMeth C m x H1 (tr σ H1 (fun vs H2 => sp (x :: vs) H2 Q (E σ))))) : tMethS C m sp E ta tr σ H Q := h
theorem i_meth1 {C a dx : Addr} {m : Str} {fs : List (Str × V)} {P : Prop} (e : H a = some (.ins C dx fs)) (l : fs.lookup m = none) (h : P) : rMeth C m (.ref a) H P := ⟨a, dx, fs, rfl, e, l, h⟩
def rNew (C : Addr) (sp : Sp) (vs : List V) (H1 : Hp) (Q : VK) (E : XK) : Prop := ∀ x dx, H1 x = Option.none → H1 dx = Option.none → dx ≠ x →
  sp (V.ref x :: vs) (upd (upd H1 dx (.own x)) x (.ins C dx [])) (fun v H2 => v = .non ∧ Q (.ref x) H2) (fun cls d H2 => E cls d H2)
theorem i_make {C : Addr} {sp : Sp} {E : L2.St → XK} (h : tr σ H (fun vs H1 => rNew C sp vs H1 Q (E σ))) : tMakeS C sp E tr σ H Q := h
/-! ints -/
theorem i_rI0 {f : Int → Int → V} {a b : Int} (h : Q (f a b) H) : rI0 f (.int a) (.int b) H Q := ⟨a, b, rfl, rfl, h⟩
theorem i_rI {C : Int → Int → Prop} {f : Int → Int → V} {a b : Int} (c : C a b) (h : Q (f a b) H) : rI C f (.int a) (.int b) H Q := ⟨a, b, rfl, rfl, c, h⟩
theorem i_rU {f : Int → V} {a : Int} (h : Q (f a) H) : rU f (.int a) H Q := ⟨a, rfl, h⟩
theorem i_eqI {a b : Int} (h : Q (.bl (decide (a = b))) H) : rEq (.int a) (.int b) H Q := ⟨rfl, by
  have e : decide (V.int a = V.int b) = decide (a = b) := by by_cases h : a = b <;> simp [h]
  rw [e]
  exact h⟩
theorem i_neI {a b : Int} (h : Q (.bl (!decide (a = b))) H) : rNe (.int a) (.int b) H Q := ⟨rfl, by
  have e : decide (V.int a = V.int b) = decide (a = b) := by by_cases h : a = b <;> simp [h]
  rw [e]
  exact h⟩
theorem i_eqB {a b : Bool} (h : Q (.bl (a == b)) H) : rEq (.bl a) (.bl b) H Q := ⟨rfl, by
  have e : decide (V.bl a = V.bl b) = (a == b) := by cases a <;> cases b <;> rfl
  rw [e]
  exact h⟩
theorem i_neB {a b : Bool} (h : Q (.bl (a != b)) H) : rNe (.bl a) (.bl b) H Q := ⟨rfl, by
  have e : (!decide (V.bl a = V.bl b)) = (a != b) := by cases a <;> cases b <;> rfl
  rw [e]
  exact h⟩
theorem i_eqS {a b : Str} (h : Q (.bl (decide (a = b))) H) : rEq (.str a) (.str b) H Q := ⟨rfl, by
  have e : decide (V.str a = V.str b) = decide (a = b) := by by_cases h : a = b <;> simp [h]
  rw [e]
  exact h⟩
theorem i_neS {a b : Str} (h : Q (.bl (!decide (a = b))) H) : rNe (.str a) (.str b) H Q := ⟨rfl, by
  have e : decide (V.str a = V.str b) = decide (a = b) := by by_cases h : a = b <;> simp [h]
  rw [e]
  exact h⟩
/-- // by a divisor of either sign -/
def CDivZ (_ j : Int) : Prop := j ≠ 0 ∧ j.natAbs.log2 < 9000
theorem op_fdivZ : OpR X (binaryOp .FloorDiv) (rI CDivZ fun i j => .int (i.fdiv j)) := opI fun i j _ _ _ _ _ hc q => floordiv_int hc.1 q (.inl (PyProof.noPylong_of_log2 hc.2))
theorem cdivZ {i j : Int} {n : Nat} (h : j ≠ 0) (s : ZR.Sz n j) (h0 : 0 < n := by decide) (h9 : n ≤ 9000 := by decide) : CDivZ i j := ⟨h, Nat.lt_of_lt_of_le (PySem.Flt.log2_lt_of h0 s) h9⟩
theorem cmulW {i j : Int} {n m : Nat} (s : ZR.Sz n i) (s' : ZR.Sz m j) (h0 : 0 < n := by decide) (h1 : 0 < m := by decide) (h : n + m ≤ 1000000 := by decide) : CMulW i j := wide_mul s s' h0 h1 h
/-! lists and tuples by place -/
theorem i_ixL {p : Addr} {xs : List V} {k : Nat} (s : SqL K H p xs) (e : xs[k]? = some v) (h : Q v H) : rIxL K (.ref p) (.int (k : Nat)) H Q := ⟨p, xs, _, v, rfl, rfl, s, atI_nat e, h⟩
theorem i_gcd {a b : Int} (h : Q (.int ((Nat.gcd a.natAbs b.natAbs : Nat) : Int)) H) : rGcd [.int a, .int b] H Q := ⟨a, b, rfl, h⟩
end
end Z

set_option Elab.async false
set_option linter.all false
set_option maxRecDepth 100000
set_option maxHeartbeats 4000000
/-! what is known of the text's defs, in short -/
namespace Z
open PySem PySem.Spec PyProof.Rows L2
section
variable (P : Program) (w : World) (K : PySem.W.Frag) (mg : Str → Option Value) (base : Heap)
/-- a def of the module -/
def Cal (x : Str) (k : Nat) (sp : Sp) : Prop := ∃ f, mg x = some (.ref f) ∧ PySem.W.keepIn K (.ref f) = true ∧ FnR P w K mg base (L2.CX P w) k f sp
/-- a method of the class at C -/
def CalM (C : Addr) (m : Str) (k : Nat) (sp : Sp) : Prop := ∃ f, Meth K C m f ∧ FnR P w K mg base (L2.CX P w) k f sp
/-- a class and its __init__ -/
def CalI (x : Str) (C : Addr) (k : Nat) (sp : Sp) : Prop := mg x = some (.ref C) ∧ ∃ f, Mk K C f ∧ FnR P w K mg base (L2.CX P w) k f sp
/-- an operator's def -/
def CalO (C : Addr) (n : Str) (k : Nat) (sp : Sp) : Prop := ∃ f, Spc K C n f ∧ PySem.W.selfFirst K C = true ∧ FnR P w K mg base (L2.CX P w) k f sp
/-- a classmethod -/
def CalK (C : Addr) (m : Str) (k : Nat) (sp : Sp) : Prop := ∃ mc p g, ClX.CRead K C mc ∧ ClX.CMet K C mc m p g ∧ FnR P w K mg base (L2.CX P w) k g sp
/-- an error class with its own __init__ -/
def CalX (x : Str) (C : Addr) (k : Nat) (ps : List Str) (sp : Sp) : Prop := mg x = some (.ref C) ∧ OexC K C ∧ ∃ fI fd, PySem.W.findIn K (.ref C) "__init__" = some (some (.ref fI)) ∧
  PySem.W.typeIn K (.ref fI) = some (.type "function") ∧ FnOk P w K mg base (L2.CX P w) k fI fd ps sp ∧ Binds K fd ps []
/-- the errors' common class, of which __init__ is called by name -/
def CalT (x : Str) : Prop := ∃ T mc, mg x = some (.ref T) ∧ ClX.CRead K T mc ∧ PySem.W.findCls K (.ref T) mc "__init__" = some (.val (.builtin "ValueError.__init__"))
end
section
variable {X : Cx} {k j : Nat} {C : Addr} {sp : Sp} {E : L2.St → XK} {x m : Str} {p pos apos : Pos} {e o : Expr} {es : List Expr} {ta te : TE} {t : TA}
theorem z_callC (c : Cal X.prog X.w X.K X.mg X.base x k sp) (hr : Room j X.A) (hx : ∀ σ, PassesAt (L2.CX X.prog X.w) X σ (E σ)) (ha : PA X (e :: es) t) (hj : k ≤ j := by decide) (hg : Gl X x := by rfl)
    (hdb : (x == ("__debug__" : Str)) = false := by decide) (he : starEach (e :: es) X.env = (false, eval e X.env) :: starEach es X.env := by rfl)
    (hpl : (backTo pos (starEach es X.env)).any (·.1) = false := by rfl) : PE X (.Call (.Name x p) (e :: es) [] pos) (tCallS sp E t) := by
  obtain ⟨f, hm, hk, F⟩ := c
  exact z_call F (hr.mono hj) hm hk hx ha hg hdb he hpl
theorem z_call0C (c : Cal X.prog X.w X.K X.mg X.base x k sp) (hr : Room j X.A) (hx : ∀ σ, PassesAt (L2.CX X.prog X.w) X σ (E σ)) (hj : k ≤ j := by decide) (hg : Gl X x := by rfl)
    (hdb : (x == ("__debug__" : Str)) = false := by decide) : PE X (.Call (.Name x p) [] [] pos) (tCallS sp E tNil) := by
  obtain ⟨f, hm, hk, F⟩ := c
  exact z_call0 F (hr.mono hj) hm hk hx hg hdb
theorem z_makeC (c : CalI X.prog X.w X.K X.mg X.base x C k sp) (hr : Room j X.A) (hx : ∀ σ, PassesAt (L2.CX X.prog X.w) X σ (E σ)) (ha : PA X (e :: es) t) (hj : k + 1 ≤ j := by decide) (hg : Gl X x := by rfl)
    (hdb : (x == ("__debug__" : Str)) = false := by decide) (he : starEach (e :: es) X.env = (false, eval e X.env) :: starEach es X.env := by rfl)
    (hpl : (backTo pos (starEach es X.env)).any (·.1) = false := by rfl) : PE X (.Call (.Name x p) (e :: es) [] pos) (tMakeS C sp E t) := by
  obtain ⟨hm, f, M, F⟩ := c
  exact z_make M F (hr.mono hj) hm hx ha hg hdb he hpl
/-- cls(e, ..), cls a local name that holds the class -/
def tMakeL (i : Nat) (C : Addr) (sp : Sp) (E : L2.St → XK) (t : TA) : TE := fun σ H Q => σ[i]? = some (some (.ref C)) ∧ tMakeS C sp E t σ H Q
theorem z_makeL {i : Nat} {y : Str} (c : CalI X.prog X.w X.K X.mg X.base y C k sp) (hr : Room j X.A) (hx : ∀ σ, PassesAt (L2.CX X.prog X.w) X σ (E σ)) (ha : PA X (e :: es) t) (hj : k + 1 ≤ j := by decide)
    (hN : X.N[i]? = some x := by rfl) (hv : Vis X.env.scope x := by first | exact Or.inl rfl | exact Or.inr (Or.inl rfl) | exact Or.inr (Or.inr rfl))
    (hdb : (x == ("__debug__" : Str)) = false := by decide) (hcd : (x == ("__classdict__" : Str)) = false := by decide)
    (he : starEach (e :: es) X.env = (false, eval e X.env) :: starEach es X.env := by rfl)
    (hpl : (backTo pos (starEach es X.env)).any (·.1) = false := by rfl) : PE X (.Call (.Name x p) (e :: es) [] pos) (tMakeL i C sp E t) := by
  obtain ⟨hm, f, M, F⟩ := c
  constructor
  intro pins s σ H Q I h
  obtain ⟨hs, h⟩ := h
  apply wpAny_Call_Name_kw
  refine thn ((pe_var (pos := p) (i := i) hN hv hdb hcd).run pins s σ H (fun v H1 => v = .ref C ∧ H1 = H) I ⟨.ref C, hs, rfl, rfl⟩) fun u s1 hh => ?_
  obtain ⟨v, H1, I1, r1, ev, eH⟩ := hh
  subst ev
  rw [eH] at I1
  obtain rfl : u = Value.ref C := r1
  apply PySem.W.callWith_K (h₀ := X.base) I.ok.mod.kin M.kp _ he hpl
  refine thn (ha.run pos pins s1 σ H _ I1 h) fun us s2 hh => ?_
  obtain ⟨vs, H2, I2, r, q⟩ := hh
  exact ⟨I2.kIn, runMake M F (hr.mono hj) hx I2 r q⟩
theorem z_methC {pl : Sem Bool} (he : PE X o ta) (c : Cls X.K C) (d : CalM X.prog X.w X.K X.mg X.base C m k sp) (hr : Room j X.A) (hx : ∀ σ, PassesAt (L2.CX X.prog X.w) X σ (E σ)) (ha : PA X (e :: es) t) (hj : k ≤ j := by decide)
    (hst : starEach (e :: es) X.env = (false, eval e X.env) :: starEach es X.env := by rfl)
    (hpl : (backTo pos (starEach es X.env)).any (·.1) = false := by rfl)
    (ht : eval (.Call (.Attribute o m apos) (e :: es) [] pos) X.env = (do
      let ov ← eval o X.env
      standAt apos.atName
      let (f, first) ← holding [ov] (getMethod ov m pl)
      callWith pos f first (backTo pos (starEach (e :: es) X.env)) (backToKw pos (keywordEach [] X.env))) := by rfl) :
    PE X (.Call (.Attribute o m apos) (e :: es) [] pos) (tMethS C m sp E ta t) := by
  obtain ⟨f, hm, F⟩ := d
  exact z_meth he c hm F (hr.mono hj) hx ha hst hpl ht
theorem z_meth0C {pl : Sem Bool} (he : PE X o ta) (c : Cls X.K C) (d : CalM X.prog X.w X.K X.mg X.base C m k sp) (hr : Room j X.A) (hx : ∀ σ, PassesAt (L2.CX X.prog X.w) X σ (E σ)) (hj : k ≤ j := by decide)
    (ht : eval (.Call (.Attribute o m apos) [] [] pos) X.env = (do
      let ov ← eval o X.env
      standAt apos.atName
      let (f, first) ← holding [ov] (getMethod ov m pl)
      callWith pos f first (backTo pos (starEach [] X.env)) (backToKw pos (keywordEach [] X.env))) := by rfl) :
    PE X (.Call (.Attribute o m apos) [] [] pos) (tMethS C m sp E ta tNil) := by
  obtain ⟨f, hm, F⟩ := d
  exact z_meth0 he c hm F (hr.mono hj) hx ht
/-- C.m(e, ..), m a classmethod -/
def tCMethS (C : Addr) (sp : Sp) (E : L2.St → XK) (ta : TE) (t : TA) : TE := fun σ H Q => ta σ H fun x H1 => x = .ref C ∧ t σ H1 fun vs H2 => sp (.ref C :: vs) H2 Q (E σ)
theorem z_cmethC {pl : Sem Bool} (ho : PE X o ta) (d : CalK X.prog X.w X.K X.mg X.base C m k sp) (hr : Room j X.A) (hx : ∀ σ, PassesAt (L2.CX X.prog X.w) X σ (E σ)) (ha : PA X (e :: es) t) (hj : k ≤ j := by decide)
    (hst : starEach (e :: es) X.env = (false, eval e X.env) :: starEach es X.env := by rfl)
    (hpl : (backTo pos (starEach es X.env)).any (·.1) = false := by rfl)
    (ht : eval (.Call (.Attribute o m apos) (e :: es) [] pos) X.env = (do
      let ov ← eval o X.env
      standAt apos.atName
      let (f, first) ← holding [ov] (getMethod ov m pl)
      callWith pos f first (backTo pos (starEach (e :: es) X.env)) (backToKw pos (keywordEach [] X.env))) := by rfl) :
    PE X (.Call (.Attribute o m apos) (e :: es) [] pos) (tCMethS C sp E ta t) := by
  obtain ⟨mc, pp, g, r, c, F⟩ := d
  constructor
  intro pins s σ H Q I h
  refine PySem.W.methodCall_KW (pl := pl) (thn (ho.run pins s σ H _ I h) fun u s1 hh => ?_) ht
  obtain ⟨x, H1, I1, rx, ex, q⟩ := hh
  subst ex
  obtain rfl : u = Value.ref C := rx
  apply ClX.getmethcm_ok I1 r c
  intro s2 I2
  apply ClX.callwith_cm I2 (ClX.base_none I1 (Nat.le_refl _)) c.fi _ hst hpl
  refine thn (ha.run pos _ s2 σ H1 _ I2 q) fun us s3 hh => ?_
  obtain ⟨vs, H2, I3, rv, q2⟩ := hh
  refine ⟨⟨ClX.pin_at I3, I3.kIn⟩, ?_⟩
  have z : wpAny (model X.prog X.w) X.A (call (.ref s1.heap.objs.size) us) (EP X ((s1.heap.objs.size, PySem.W.methodObj (.ref g) (.ref C)) :: pins) σ Q) X.xe s3 := by
    refine wpAny_call (PySem.W.method_call (ClX.pin_at I3) ?_)
    refine codeAny_mono (F X.A X.stack s3 H2 (.ref C :: us) (.ref C :: vs) Q (E σ) (hr.mono hj) I3.env0 (.cons rfl rv) q2) fun a s' hq => ?_
    rcases a with er | fl
    · exact hx σ _ H2 s3 er s' I3 hq
    · rcases fl with _ | _ | _ | v
      · exact False.elim hq
      · exact False.elim hq
      · exact False.elim hq
      · exact I3.after hq
  exact thn z fun _ _ y => ClX.unpinE y
/-! operators -/
theorem z_op {op : Operator} {nm : Str} (c : CalO X.prog X.w X.K X.mg X.base C nm k sp) (hr : Room j X.A) (hj : k ≤ j := by decide) (hn : nm = PySem.dunder op.info.2 := by rfl) : OpR X (binaryOp op) (rOwn C sp) := by
  obtain ⟨f, S, sf, F⟩ := c
  exact op_own F (hr.mono hj) sf (by rw [← hn]; exact S)
theorem z_neg (c : CalO X.prog X.w X.K X.mg X.base C "__neg__" k sp) (hr : Room j X.A) (hj : k ≤ j := by decide) : UnR X (unaryOp .USub) (rOwn1 C sp) := by
  obtain ⟨f, S, sf, F⟩ := c
  exact un_own F (hr.mono hj) S
theorem z_eqO (c : CalO X.prog X.w X.K X.mg X.base C "__eq__" k sp) (hr : Room j X.A) (hj : k ≤ j := by decide) : OpR X (compareOp .Eq) (rOwnC X.K C sp) := by
  obtain ⟨f, S, sf, F⟩ := c
  exact op_eqOwn F (hr.mono hj) S
def rOwnN (K : PySem.W.Frag) (C : Addr) (sp : Sp) : R2 := fun x y H Q => ∃ a dx fs t, x = .ref a ∧ H a = some (.ins C dx fs) ∧ Side K C H y t ∧ PySem.W.notFirst K C t = true ∧
      sp [x, y] H (fun v H' => ∃ r, v = .bl r ∧ Q (.bl (!r)) H') (fun _ _ _ => False)
theorem z_neO (c : CalO X.prog X.w X.K X.mg X.base C "__eq__" k sp) (n : NeC X.K C) (hr : Room j X.A) (hj : k + 1 ≤ j := by decide) : OpR X (compareOp .NotEq) (rOwnN X.K C sp) := by
  obtain ⟨f, S, sf, F⟩ := c
  exact op_neOwn F (hr.mono hj) S n
theorem z_bool (c : CalO X.prog X.w X.K X.mg X.base C "__bool__" k sp) (hr : Room j X.A) (hj : k + 2 ≤ j := by decide) : CallR X (.type "bool") (rBoolOwn C sp) := by
  obtain ⟨f, S, sf, F⟩ := c
  exact call_boolOwn F (hr.mono hj) S
/-! errors -/
theorem z_mkX {ps : List Str} (c : CalX X.prog X.w X.K X.mg X.base x C k ps sp) (hr : Room j X.A) (ha : PA X (e :: es) t) (hj : k + 1 ≤ j := by decide) (hg : Gl X x := by rfl)
    (hdb : (x == ("__debug__" : Str)) = false := by decide) (he : starEach (e :: es) X.env = (false, eval e X.env) :: starEach es X.env := by rfl)
    (hpl : (backTo pos (starEach es X.env)).any (·.1) = false := by rfl) : PMk X (.Call (.Name x p) (e :: es) [] pos) (tMkO C sp [] t) := by
  obtain ⟨hm, T, fI, fd, iC, tI, F, b⟩ := c
  exact pmk_oex T iC tI F (hr.mono hj) b .nil passL hg hm ha hdb he hpl
/-- ThrowError.__init__(self, ..) -/
theorem z_tinit {p1 p2 : Pos} {pl : Sem Bool} (hg : Gl X x) (c : CalT X.K X.mg x) (ha : PA X (e :: es) t)
    (hc : eval (.Call (.Attribute (.Name x p1) "__init__" p2) (e :: es) [] pos) X.env = (do
      let ov ← eval (.Name x p1) X.env
      standAt p2.atName
      let (f, first) ← holding [ov] (getMethod ov "__init__" pl)
      callWith pos f first (backTo pos (starEach (e :: es) X.env)) (backToKw pos (keywordEach [] X.env))) := by rfl)
    (hdb : (x == ("__debug__" : Str)) = false := by decide) (he : starEach (e :: es) X.env = (false, eval e X.env) :: starEach es X.env := by rfl)
    (hpl : (backTo pos (starEach es X.env)).any (·.1) = false := by rfl) :
    PE X (.Call (.Attribute (.Name x p1) "__init__" p2) (e :: es) [] pos) (tVeI X.K t) := by
  obtain ⟨T, mc, hm, r, vV⟩ := c
  constructor
  intro pins s σ H Q I h
  refine PySem.W.methodCall_KW (ld_glob I hg hm ?_ hdb) hc
  apply PySem.W.method_cls I.kIn r.ga
  apply PySem.W.cls_value I.kIn r.rd vV (by decide +kernel)
  show wpAny _ _ (callWith pos (Value.builtin "ValueError.__init__") [] (backTo pos (starEach (e :: es) X.env)) []) _ _ _
  refine PyProof.Rows.callWith_method1 (thn (ha.run pos pins _ σ H _ (I.tok _) h) fun us s1 hh => ?_) he hpl
  obtain ⟨vs, H1, I1, r1, a, C, ws, ev, hl, T', ea, q⟩ := hh
  subst ev
  cases r1 with
  | @cons _ u0 _ ur ra rw' =>
    obtain rfl : u0 = Value.ref a := ra
    have hlen : ur.length ≤ sizeLine := by
      rw [← Paired.length rw', sizeLine_eq]
      omega
    exact oinit_ok T' I1 ea hlen fun s' J => ⟨.non, H1, J, rfl, q⟩
end
/-! a def by its body -/
section
variable {P : Program} {w : World} {K : PySem.W.Frag} {mg : Str → Option Value} {base : Heap}
theorem fnOk_mk {x qual : Str} {st : Stmt} {f : Addr} {fd : FuncData} {N ps : List Str} {k : Nat} {sp : Sp} (F : L2.Fun K x qual st f fd) (S : FnScope N ps (defScope st)) (len : ∀ vs H Q E, sp vs H Q E → vs.length = ps.length)
    (hbody : ∀ (cdv : Value) (A : Around) (outer : List Env) (s : Shared) (H : Hp) (vs : List V) (Q : VK) (E : XK), Room k (A.deeper (envOfC qual (defScope st) s.heap.objs.size f cdv)) → sp vs H Q E →
      ∃ t, PSs (cxOf (L2.CX P w) P w K mg base N qual (defScope st) f cdv A outer s H E) (defBody st) t ∧ t { nx := fun _ H' => Q .non H', rt := Q } (start N vs) H) : FnOk P w K mg base (L2.CX P w) (k + 1) f fd ps sp :=
  F.okX S len hbody
theorem fnR_of {f : Addr} {fd : FuncData} {ps : List Str} {k : Nat} {sp : Sp} (F : FnOk P w K mg base (L2.CX P w) k f fd ps sp) (b : Binds K fd ps []) : FnR P w K mg base (L2.CX P w) k f sp := by
  have h := F.raw b .nil
  refine h.imp fun vs H Q E q => ?_
  rw [List.append_nil]
  exact q
end
end Z

set_option Elab.async false
set_option linter.all false
set_option maxRecDepth 100000
set_option maxHeartbeats 4000000
/-! in, not in over a list, by an own == -/
namespace Z
open PySem PySem.Spec PyProof.Rows L2
section
open PySem.SeqAt AutoSeq1 MeetsSeq MeetsSeq2 MeetsSeq3 SeqRoads2
variable {prog : Program} {w : World} {A : Around} {R : Result → Shared → Prop}
/-- turn i: the list stands, and == of its i-th item and x says r -/
def LookI (prog : Program) (w : World) (A : Around) (R : Result → Shared → Prop) (l : Addr) (x : Value) (N : Nat) (I : Nat → Shared → Prop) : Prop :=
  ∀ i s, I i s → ∃ (its : Array Value) (n : Nat), s.heap.get? l = some { cls := .type "list", data := .seq its n } ∧ its.size = N ∧
    ∀ h1 : i < its.size, wpAny (model prog w) A.in1 (eqBool its[i] x) (fun r s' => if r = true then R (.ok (.ret (.bool true))) s' else I (i + 1) s') (fun e s' => R (.error e) s') s
theorem lookLoop (l : Addr) (x : Value) (N : Nat) (I : Nat → Shared → Prop) (hl : LookI prog w A R l x N I)
    (fin : ∀ s, I N s → R (.ok (.ret (.bool false))) s) (k : Nat) : ∀ i : Nat, N - i = k → i ≤ N → ∀ s, I i s →
      wpAny (model prog w) A.in1 (Builtin.«list.__contains__.loop» ⟨[.ref l, x, rawInt i], []⟩) (GQ.FinOf prog w A R) (fun e s' => R (.error e) s') s := by
  induction k with
  | zero =>
    intro i hk hi s h
    obtain ⟨its, n, e1, e2, _⟩ := hl _ _ h
    have hN : i = N := by omega
    have last : R (.ok (.ret (.bool false))) s := fin s (hN ▸ h)
    obtain ⟨hp, g, d, tk, os⟩ := s
    wp_walk using wpAny_loadPart' e1
    have out : its[((i : Nat) : Int).toNat]? = none := by simp; omega
    rw [out]
    wp_walk
    exact last
  | succ k ih =>
    intro i hk hi s h
    obtain ⟨its, n, e1, e2, turn⟩ := hl _ _ h
    have lt : i < its.size := by omega
    have one := turn lt
    obtain ⟨hp, g, d, tk, os⟩ := s
    wp_walk using wpAny_loadPart' e1
    have at_ : its[((i : Nat) : Int).toNat]? = some its[i] := by simp [lt]
    have nx : ((i : Int) + 1) = ((i + 1 : Nat) : Int) := by omega
    rw [at_]
    refine wpAny_bind (wpAny_mono one (fun r s2 q => ?_) fun _ _ z => z)
    cases r with
    | true =>
      rw [if_pos rfl] at q
      wp_walk
      exact q
    | false =>
      rw [if_neg Bool.false_ne_true] at q
      have rec_ := ih (i + 1) (by omega) (by omega) s2 q
      obtain ⟨hp2, g2, d2, tk2, os2⟩ := s2
      wp_walk
      rw [nx]
      refine ⟨plainId_quiet plain_contains_loop _, codeAny_builtin entry_contains_loop ?_⟩
      rw [Around.under_plainId plain_contains_loop _]
      exact rec_
theorem lookList {E : Value → Shared → Prop} {s : Shared} {Q : Value → Shared → Prop} (l : Addr) (x : Value) (N : Nat) (I : Nat → Shared → Prop) (hl : LookI prog w A (wants Q E) l x N I)
    (fin : ∀ s, I N s → Q (.bool false) s) (h : I 0 s) : wpAny (model prog w) A (call (.builtin "list.__contains__") [.ref l, x]) Q E s := by
  obtain ⟨its, n, e1, e2, _⟩ := hl _ _ h
  refine GQ.call_here F.slot_list_contains ⟨_, e1, rfl⟩ F.entry_list_contains (F.args_list_contains_2 _ _) ?_
  have go := lookLoop (A := A) (R := wants Q E) l x N I hl (fun s q => fin s q) _ 0 rfl (Nat.zero_le _) s h
  obtain ⟨hp, g, d, tk, os⟩ := s
  wp_walk using wpAny_loadPart' e1
  refine ⟨plainId_quiet plain_contains_loop _, codeAny_builtin entry_contains_loop ?_⟩
  rw [Around.under_plainId plain_contains_loop _]
  exact go
end
section
variable {X : Cx} {k : Nat} {C : Addr} {sp : Sp}
/-- what == of two instances says here: some bool, and the objects stand -/
def EqSome (C : Addr) (sp : Sp) (H : Hp) (y x : V) : Prop := ∀ H', Same H H' → ∃ a dx fs b dy gs, y = .ref a ∧ x = .ref b ∧ H' a = some (.ins C dx fs) ∧ H' b = some (.ins C dy gs) ∧
  sp [y, x] H' (fun v H2 => (∃ r, v = .bl r) ∧ Same H' H2) (fun _ _ _ => False)
/-- x in xs, where x itself stands in xs -/
def rInO (C : Addr) (sp : Sp) (b : Bool) : R2 := fun x y H Q => ∃ p xs, y = .ref p ∧ H p = some (.lst xs) ∧ x ∈ xs ∧ (∀ z ∈ xs, EqSome C sp H z x) ∧ ∀ H', Same H H' → Q (.bl b) H'
theorem inO_run (c : CalO X.prog X.w X.K X.mg X.base C "__eq__" k sp) (hr : Room (k + 2) X.A) {pins : List (Addr × Obj)} {s : Shared} {σ : L2.St} {H : Hp} {x : V} {u : Value} {p : Addr} {xs : List V} (I : Inv X pins σ H s)
    (rx : RelV x u) (hp : H p = some (.lst xs)) (hx : x ∈ xs) (hz : ∀ z ∈ xs, EqSome C sp H z x) :
    wpAny (model X.prog X.w) X.A (call (.builtin "list.__contains__") [.ref p, u]) (fun v s' => v = .bool true ∧ ∃ H', Inv X pins σ H' s' ∧ Same H H') X.xe s := by
  obtain ⟨f, S, sf, F⟩ := c
  have hr1 : Room k X.A.in1 := hr.in1.mono (Nat.le_succ k)
  obtain ⟨j, hj⟩ := List.mem_iff_getElem?.mp hx
  refine lookList p u xs.length (fun i s' => (∃ H', Inv X pins σ H' s' ∧ Same H H') ∧ i ≤ j) (fun i s' hi => ?_) (fun s' hi => ?_) ⟨⟨H, I, Same.refl H⟩, Nat.zero_le _⟩
  · obtain ⟨⟨H', I', sm⟩, ij⟩ := hi
    obtain ⟨_, its, n, rv, e⟩ := (show ObjOk X.prog X.w H' s'.heap p (.lst xs) from I'.hok p _ (sm _ _ hp))
    refine ⟨its.toArray, n, e, by rw [List.size_toArray, ← rv.length], fun h1 => ?_⟩
    have h1' : i < xs.length := by rw [rv.length]; simpa using h1
    obtain ⟨v, hv, rz⟩ := rv.get (List.getElem?_eq_getElem h1')
    have ev : its.toArray[i] = v := by
      have h2 : i < its.length := by simpa using h1
      rw [List.getElem?_eq_getElem h2] at hv
      simpa using Option.some.inj hv
    rw [ev]
    obtain ⟨a, dx, fs, b, dy, gs, ey, ex, ha, hb, hsp⟩ := hz _ (List.getElem_mem h1') H' sm
    rw [ey] at rz
    subst ex
    obtain rfl : v = Value.ref a := rz
    obtain rfl : u = Value.ref b := rx
    by_cases hab : a = b
    · subst hab
      exact SeqAt.EqAt.same (A := X.A.in1) (s := s') (.ref a) X.prog X.w _ _ (by
        rw [if_pos rfl]
        exact ⟨rfl, H', I', sm⟩)
    · have ij' : i ≠ j := by
        rintro rfl
        rw [List.getElem?_eq_getElem h1', ey] at hj
        cases hj
        exact hab rfl
      refine GQ.eqBool_refG hab ?_
      obtain ⟨ox, od, Ja⟩ := instAt I' ha
      obtain ⟨oy, oe, Jb⟩ := instAt I' hb
      obtain ⟨m, fr⟩ := I'.fr
      apply PySem.W.cmp_K (op := .Eq) (tb := .ref C) hr1.units0 fr I'.ok.mod.kin Ja Jb.type (by simp [PySem.W.notFirst]) S.at_ S.fn
      refine wpAny_call (codeAny_mono (F X.A.in1 X.stack s' H' [.ref a, .ref b] [.ref a, .ref b] _ (fun _ _ _ => False) hr1 I'.env0.in1 (.cons rfl (.cons rfl .nil)) (by rw [ey] at hsp; exact hsp)) fun q s2 hq => ?_)
      rcases q with e | fl
      · exact (cxN hq).elim
      rcases fl with _ | _ | _ | u'
      · exact False.elim hq
      · exact False.elim hq
      · exact False.elim hq
      obtain ⟨v', H2, I2, rv', ⟨r, er⟩, sm2⟩ := I'.after hq
      subst er
      obtain rfl : u' = Value.bool r := rv'
      refine ⟨r, rfl, ?_⟩
      cases r with
      | true => exact ⟨rfl, H2, I2, sm.trans sm2⟩
      | false => exact ⟨⟨H2, I2, sm.trans sm2⟩, by omega⟩
  · have := (List.getElem?_eq_some_iff.mp hj).1
    omega
theorem z_inO (c : CalO X.prog X.w X.K X.mg X.base C "__eq__" k sp) {j : Nat} (hr : Room j X.A) (hj : k + 2 ≤ j := by decide) : OpR X (compareOp .In) (rInO C sp true) := by
  intro pins s σ H x y v u Q I rx ry h
  obtain ⟨p, xs, rfl, hp, hx, hz, q⟩ := h
  obtain rfl : u = Value.ref p := ry
  obtain ⟨_, its, n, _, e⟩ := (show ObjOk X.prog X.w H s.heap p (.lst xs) from I.hok p _ hp)
  show wpAny _ X.A (do return Value.bool (← contains (.ref p) v)) _ _ s
  refine wpAny_bind (wpAny_contains_slot ⟨_, e, rfl⟩ F.slot_list_contains (wpAny_mono (inO_run c (hr.mono hj) I rx hp hx hz) (fun r s' hv => ?_) fun _ _ z => z))
  obtain ⟨rfl, H', I', sm⟩ := hv
  exact wpAny_truthy_bool (wpAny_pure ⟨.bl true, H', I', rfl, q H' sm⟩)
theorem z_notInO (c : CalO X.prog X.w X.K X.mg X.base C "__eq__" k sp) {j : Nat} (hr : Room j X.A) (hj : k + 2 ≤ j := by decide) : OpR X (compareOp .NotIn) (rInO C sp false) := by
  intro pins s σ H x y v u Q I rx ry h
  obtain ⟨p, xs, rfl, hp, hx, hz, q⟩ := h
  obtain rfl : u = Value.ref p := ry
  obtain ⟨_, its, n, _, e⟩ := (show ObjOk X.prog X.w H s.heap p (.lst xs) from I.hok p _ hp)
  show wpAny _ X.A (do return Value.bool (!(← contains (.ref p) v))) _ _ s
  refine wpAny_bind (wpAny_contains_slot ⟨_, e, rfl⟩ F.slot_list_contains (wpAny_mono (inO_run c (hr.mono hj) I rx hp hx hz) (fun r s' hv => ?_) fun _ _ z => z))
  obtain ⟨rfl, H', I', sm⟩ := hv
  exact wpAny_truthy_bool (wpAny_pure ⟨.bl false, H', I', rfl, q H' sm⟩)
/-- xs != ys, two lists of the very same objects -/
def rNeL : R2 := fun x y H Q => ∃ a b xs, x = .ref a ∧ y = .ref b ∧ H a = some (.lst xs) ∧ H b = some (.lst xs) ∧ (∀ z ∈ xs, ∃ p, z = .ref p) ∧ Q (.bl false) H
theorem z_neL (hu : X.A.units < cLine) : OpR X (compareOp .NotEq) rNeL := by
  intro pins s σ H x y v u Q I rx ry h
  obtain ⟨a, b, xs, rfl, rfl, ha, hb, hz, q⟩ := h
  obtain rfl : v = Value.ref a := rx
  obtain rfl : u = Value.ref b := ry
  obtain ⟨_, its, n, rv, e⟩ := (show ObjOk X.prog X.w H s.heap a (.lst xs) from I.hok a _ ha)
  obtain ⟨_, its2, n2, rv2, e2⟩ := (show ObjOk X.prog X.w H s.heap b (.lst xs) from I.hok b _ hb)
  have same : ∀ {zs : List V} {us vs : List Value}, (∀ z ∈ zs, ∃ p, z = .ref p) → Vals zs us → Vals zs vs → us = vs := by
    intro zs
    induction zs with
    | nil =>
      intro us vs _ r1 r2
      cases r1; cases r2; rfl
    | cons z zs ih =>
      intro us vs hz r1 r2
      cases r1 with
      | cons a1 t1 =>
        cases r2 with
        | cons a2 t2 =>
          obtain ⟨p, ep⟩ := hz z (by simp)
          subst ep
          cases a1; cases a2
          rw [ih (fun z h => hz z (by simp [h])) t1 t2]
  obtain rfl := same hz rv rv2
  show wpAny _ X.A (richCompare .NotEq _ _) _ _ s
  refine SeqAt.RcNeAt.lists (e := fun _ => true) ⟨_, e, rfl, n, rfl⟩ ⟨_, e2, rfl, n2, rfl⟩ rfl hu (fun j h1 h2 => SeqAt.EqAt.same _) X.prog X.w _ _ ?_
  refine ⟨.bl false, H, I, ?_, q⟩
  have : (List.range its.toArray.size).all (fun _ => true) = true := by simp
  rw [this]
  rfl
end
end Z

set_option Elab.async false
set_option linter.all false
set_option maxRecDepth 100000
set_option maxHeartbeats 4000000
/-! ratios: what stands for them, and what their defs promise -/
namespace Z
open PySem PySem.Spec PyProof.Rows L2
/-- an own class whose instances are asked by isinstance -/
structure ClO (K : PySem.W.Frag) (C : Addr) : Prop extends Cls K C where
  ha : PySem.W.findIn K (.ref C) "__class__" = some (some (.builtin "object.__class__"))
  hn : PySem.W.specialIn K (.builtin "object.__class__") "__get__" = some (some (.builtin "getset_descriptor.__get__"))
  htk : PySem.W.takesIn K (.builtin "object.__class__") = some true
  hm : PySem.W.mroIn K C (.type "object") = some true
theorem ClO.ty {K : PySem.W.Frag} {C a dx : Addr} {H : Hp} {fs : List (Str × V)} (c : ClO K C) (e : H a = some (.ins C dx fs)) : TyX K H (.ref a) (.ref C) := .base (.ins e c.toCls c.ha c.hn c.htk c.hm)
theorem Same.at {H H' : Hp} {a : Addr} {o : HO} (s : Same H H') (e : H a = some o) : H' a = some o := s a o e
theorem Same.of_ne {H H' : Hp} {p : Addr} (hp : H p = none) (h : ∀ b, b ≠ p → H' b = H b) : Same H H' := fun b o e => (h b (ne_of_none e hp)).trans e

/-! ### an error with one attribute, made and raised -/
def rMkO (C : Addr) (sp : Sp) (vs : List V) (H1 : Hp) (Q : XK) : Prop := vs.length ≤ 1000 ∧ ∀ a, H1 a = none → sp (.ref a :: (vs ++ [])) (upd H1 a (exo a C none))
  (fun v H2 => v = .non ∧ ∃ (d : Addr) (fs : List (Str × V)), H2 a = some (exo a C (some d)) ∧ H2 d = some (exd d fs) ∧ H1 d = none ∧ Q (.ref C) (some d) (upd (del H2 a) d (.xd fs))) (fun _ _ _ => False)
theorem i_mkO {C : Addr} {sp : Sp} {ta : TA} {σ : L2.St} {H : Hp} {Q : XK} (h : ta σ H (fun vs H1 => rMkO C sp vs H1 Q)) : tMkO C sp [] ta σ H Q := h
/-- __init__ keeps the one argument under the name f -/
def spX1 (K : PySem.W.Frag) (C : Addr) (f : Str) (G : V → Hp → Prop) : Sp := fun vs H Q _ => vs.length = 2 ∧ ∃ a v, vs = [.ref a, v] ∧ H a = some (exo a C none) ∧ G v H ∧
  ∀ dx H1, H dx = none → dx ≠ a → Same H H1 → H1 dx = none → Q .non (upd (upd H1 dx (exd dx [(f, v)])) a (exo a C (some dx)))
theorem i_mkX1 {K : PySem.W.Frag} {C : Addr} {f : Str} {G : V → Hp → Prop} {v : V} {H : Hp} {Q : XK} (g : ∀ H', Same H H' → G v H') (h : ∀ d H', H d = none → Same H H' → H' d = some (.xd [(f, v)]) → Q (.ref C) (some d) H') :
    rMkO C (spX1 K C f G) [v] H Q := by
  refine ⟨by show 1 ≤ 1000; decide, fun a ha => ?_⟩
  have s0 : Same H (upd H a (exo a C none)) := fun b o e => by rw [upd_ne (ne_of_none e ha)]; exact e
  refine ⟨rfl, a, v, rfl, upd_same, g _ s0, fun dx H1 hd hne sm hd1 => ?_⟩
  have hdH : H dx = none := by rw [upd_ne hne] at hd; exact hd
  refine ⟨rfl, dx, [(f, v)], upd_same, by rw [upd_ne hne, upd_same], hdH, h dx _ hdH (fun b o e => ?_) upd_same⟩
  have nb : b ≠ dx := ne_of_none e hdH
  have na : b ≠ a := ne_of_none e ha
  rw [upd_ne nb, del_ne na, upd_ne na, upd_ne nb]
  exact sm b o (s0 b o e)

/-! ### f-strings, by parts -/
def rFmt (x : V) (H1 : Hp) (Q : VK) : Prop := (∃ y : Str, x = .str y ∧ y.length ≤ sizeLine ∧ Q (.str y) H1) ∨ ∃ i : Int, x = .int i ∧ i.natAbs.log2 < 1920 ∧ Q (.str (toString i)) H1
theorem i_fmt {te : TE} {σ : L2.St} {H : Hp} {Q : VK} (h : te σ H (fun x H1 => rFmt x H1 Q)) : tFmt te σ H Q := h
theorem i_fmtS {y : Str} {H : Hp} {Q : VK} (l : y.length ≤ sizeLine) (h : Q (.str y) H) : rFmt (.str y) H Q := .inl ⟨y, rfl, l, h⟩

/-! ### ratios -/
def rf (q : Rat) : List (Str × V) := [("top", .int q.num), ("bottom", .int (q.den : Int))]
def IsR (CR : Addr) (H : Hp) (a : Addr) (q : Rat) : Prop := ∃ dx, H a = some (.ins CR dx (rf q))
theorem IsR.mono {CR a : Addr} {H H' : Hp} {q : Rat} (s : Same H H') (h : IsR CR H a q) : IsR CR H' a q := let ⟨dx, e⟩ := h; ⟨dx, s _ _ e⟩
theorem rf_top (q : Rat) : (rf q).lookup ("top" : Str) = some (V.int q.num) := by unfold rf; simp [List.lookup]
theorem rf_bot (q : Rat) : (rf q).lookup ("bottom" : Str) = some (V.int (q.den : Int)) := by
  have h : (("bottom" : Str) == "top") = false := by decide +kernel
  unfold rf
  simp [List.lookup, h]
theorem rf_no {m : Str} (q : Rat) (h1 : (m == ("top" : Str)) = false) (h2 : (m == ("bottom" : Str)) = false) : (rf q).lookup m = none := by
  unfold rf
  simp [List.lookup, h1, h2]
theorem rf_put1 (v : V) : putF "top" v [] = [(("top" : Str), v)] := rfl
theorem rf_put2 (v u : V) : putF "bottom" v [(("top" : Str), u)] = [(("top" : Str), u), (("bottom" : Str), v)] := by
  show (if ("top" : Str) = "bottom" then _ else (("top" : Str), u) :: putF "bottom" v []) = _
  rw [if_neg (by decide +kernel)]
  rfl
theorem i_top {K : PySem.W.Frag} {CR a : Addr} {H : Hp} {q : Rat} {Q : VK} (h : IsR CR H a q) (c : ClO K CR) (n : NoAttr K CR "top") (k : Q (.int q.num) H) : rFld K "top" (.ref a) H Q :=
  let ⟨_, e⟩ := h; i_fld1 e c.toCls n (rf_top q) k
theorem i_bot {K : PySem.W.Frag} {CR a : Addr} {H : Hp} {q : Rat} {Q : VK} (h : IsR CR H a q) (c : ClO K CR) (n : NoAttr K CR "bottom") (k : Q (.int (q.den : Int)) H) : rFld K "bottom" (.ref a) H Q :=
  let ⟨_, e⟩ := h; i_fld1 e c.toCls n (rf_bot q) k

/-- the error of a bottom 0 -/
def EBad (CB : Addr) (n : Int) (H : Hp) (E : XK) : Prop := ∀ d H', Same H H' → H' d = some (.xd [("n", .int n)]) → E (.ref CB) (some d) H'
def spRInit (CR CB : Addr) : Sp := fun vs H Q E => vs.length = 3 ∧ ∃ a t b, vs = [.ref a, .int t, .int b] ∧ (∃ dx, H a = some (.ins CR dx [])) ∧ (b = 0 ∨ ZR.Sz 8000 b) ∧
  (b = 0 → EBad CB 0 H E) ∧ (b ≠ 0 → ∀ H', IsR CR H' a ((t : Rat) / (b : Rat)) → (∀ x, x ≠ a → H' x = H x) → Q .non H')
/-- Ratio(t, b) with b other than 0 -/
theorem i_newR {CR CB : Addr} {t b : Int} {H : Hp} {Q : VK} {E : XK} (hb : b ≠ 0) (hz : ZR.Sz 8000 b) (h : ∀ p H', H p = none → Same H H' → IsR CR H' p ((t : Rat) / (b : Rat)) → Q (.ref p) H') :
    rNew CR (spRInit CR CB) [.int t, .int b] H Q E := by
  intro x dx hx hdx hne
  refine ⟨rfl, x, t, b, rfl, ⟨dx, upd_same⟩, .inr hz, fun h0 => absurd h0 hb, fun _ H' hr hs => ⟨rfl, h x H' hx (fun c o e => ?_) hr⟩⟩
  have n1 : c ≠ x := ne_of_none e hx
  rw [hs c n1, upd_ne n1, upd_ne (ne_of_none e hdx)]
  exact e
/-- Ratio(t, 0) -/
theorem i_newR0 {CR CB : Addr} {t : Int} {H : Hp} {Q : VK} {E : XK} (h : EBad CB 0 H E) : rNew CR (spRInit CR CB) [.int t, .int 0] H Q E := by
  intro x dx hx hdx hne
  refine ⟨rfl, x, t, 0, rfl, ⟨dx, upd_same⟩, .inl rfl, fun _ d H' s e => h d H' (fun c o e => s c o ?_) e, fun h0 => absurd rfl h0⟩
  rw [upd_ne (ne_of_none e hx), upd_ne (ne_of_none e hdx)]
  exact e
/-- a def of two ratios that hands back a new one -/
def spR2 (CR : Addr) (f : Rat → Rat → Rat) : Sp := fun vs H Q _ => vs.length = 2 ∧ ∃ a b p q, vs = [.ref a, .ref b] ∧ IsR CR H a p ∧ IsR CR H b q ∧ ZR.Bd 2000 p ∧ ZR.Bd 2000 q ∧
  ∀ c H', H c = none → Same H H' → IsR CR H' c (f p q) → Q (.ref c) H'
def spR1 (CR : Addr) (f : Rat → Rat) : Sp := fun vs H Q _ => vs.length = 1 ∧ ∃ a p, vs = [.ref a] ∧ IsR CR H a p ∧ ZR.Bd 2000 p ∧
  ∀ c H', H c = none → Same H H' → IsR CR H' c (f p) → Q (.ref c) H'
/-- the other side of ==: another ratio, or no ratio -/
def spREq (K : PySem.W.Frag) (CR : Addr) : Sp := fun vs H Q _ => vs.length = 2 ∧ ∃ a p y, vs = [.ref a, y] ∧ IsR CR H a p ∧
  ((∃ b q, y = .ref b ∧ IsR CR H b q ∧ ∀ H', Same H H' → Q (.bl (decide (p = q))) H') ∨
   (∃ t, TyX K H y t ∧ PySem.W.kitOne K t (.ref CR) = some false ∧ ∀ H', Same H H' → Q (.bl false) H'))
def spRBool (CR : Addr) : Sp := fun vs H Q _ => vs.length = 1 ∧ ∃ a p, vs = [.ref a] ∧ IsR CR H a p ∧ ∀ H', Same H H' → Q (.bl (decide (p ≠ 0))) H'
def spRUnder (CR : Addr) : Sp := fun vs H Q _ => vs.length = 2 ∧ ∃ a b p q, vs = [.ref a, .ref b] ∧ IsR CR H a p ∧ IsR CR H b q ∧ ZR.Bd 2000 p ∧ ZR.Bd 2000 q ∧
  ∀ H', Same H H' → Q (.bl (decide (p < q))) H'
def spRQuot (CR CB : Addr) : Sp := fun vs H Q E => vs.length = 2 ∧ ∃ a b p q, vs = [.ref a, .ref b] ∧ IsR CR H a p ∧ IsR CR H b q ∧ ZR.Bd 2000 p ∧ ZR.Bd 2000 q ∧
  (q = 0 → EBad CB 0 H E) ∧ (q ≠ 0 → ∀ c H', H c = none → Same H H' → IsR CR H' c (p / q) → Q (.ref c) H')
def spRWhole (CR : Addr) : Sp := fun vs H Q _ => vs.length = 2 ∧ ∃ n, vs = [.ref CR, .int n] ∧ ∀ c H', H c = none → Same H H' → IsR CR H' c (n : Rat) → Q (.ref c) H'
theorem bd0 {n : Nat} (h : n ≠ 0) : ZR.Bd n 0 := ⟨Nat.two_pow_pos n, Nat.one_lt_two_pow h⟩
section
variable {K : PySem.W.Frag} {CR CB a b : Addr} {p q : Rat} {H : Hp} {Q : VK} {E : XK} {f : Rat → Rat → Rat} {f1 : Rat → Rat}
theorem i_R2 (ha : IsR CR H a p) (hb : IsR CR H b q) (bp : ZR.Bd 2000 p) (bq : ZR.Bd 2000 q) (h : ∀ c H', H c = none → Same H H' → IsR CR H' c (f p q) → Q (.ref c) H') : rOwn CR (spR2 CR f) (.ref a) (.ref b) H Q := by
  obtain ⟨dx, e1⟩ := id ha
  obtain ⟨dy, e2⟩ := id hb
  exact ⟨a, b, dx, dy, _, _, rfl, rfl, e1, e2, rfl, a, b, p, q, rfl, ha, hb, bp, bq, h⟩
theorem i_R1 (ha : IsR CR H a p) (bp : ZR.Bd 2000 p) (h : ∀ c H', H c = none → Same H H' → IsR CR H' c (f1 p) → Q (.ref c) H') : rOwn1 CR (spR1 CR f1) (.ref a) H Q := by
  obtain ⟨dx, e1⟩ := id ha
  exact ⟨a, dx, _, rfl, e1, rfl, a, p, rfl, ha, bp, h⟩
theorem self_first : PySem.W.notFirst K CR (.ref CR) = true := by simp [PySem.W.notFirst]
theorem i_Req (ha : IsR CR H a p) (hb : IsR CR H b q) (h : ∀ H', Same H H' → Q (.bl (decide (p = q))) H') : rOwnC K CR (spREq K CR) (.ref a) (.ref b) H Q := by
  obtain ⟨dx, e1⟩ := id ha
  obtain ⟨dy, e2⟩ := id hb
  exact ⟨a, dx, _, _, rfl, e1, .ins e2, self_first, rfl, a, p, _, rfl, ha, .inl ⟨b, q, rfl, hb, h⟩⟩
theorem i_Rne (ha : IsR CR H a p) (hb : IsR CR H b q) (h : ∀ H', Same H H' → Q (.bl (!decide (p = q))) H') : rOwnN K CR (spREq K CR) (.ref a) (.ref b) H Q := by
  obtain ⟨dx, e1⟩ := id ha
  obtain ⟨dy, e2⟩ := id hb
  exact ⟨a, dx, _, _, rfl, e1, .ins e2, self_first, rfl, a, p, _, rfl, ha, .inl ⟨b, q, rfl, hb, fun H' s => ⟨_, rfl, h H' s⟩⟩⟩
theorem i_ReqI {i : Int} (ha : IsR CR H a p) (hk : PySem.W.kitOne K (.type "int") (.ref CR) = some false) (hn : PySem.W.notFirst K CR (.type "int") = true) (h : ∀ H', Same H H' → Q (.bl false) H') : rOwnC K CR (spREq K CR) (.ref a) (.int i) H Q := by
  obtain ⟨dx, e1⟩ := id ha
  exact ⟨a, dx, _, _, rfl, e1, .int i, hn, rfl, a, p, _, rfl, ha, .inr ⟨_, .base (.int i), hk, h⟩⟩
theorem i_ReqS {z : Str} (ha : IsR CR H a p) (hk : PySem.W.kitOne K (.type "str") (.ref CR) = some false) (hn : PySem.W.notFirst K CR (.type "str") = true) (h : ∀ H', Same H H' → Q (.bl false) H') : rOwnC K CR (spREq K CR) (.ref a) (.str z) H Q := by
  obtain ⟨dx, e1⟩ := id ha
  exact ⟨a, dx, _, _, rfl, e1, .str z, hn, rfl, a, p, _, rfl, ha, .inr ⟨_, .base (.str z), hk, h⟩⟩
theorem i_Rbool (ha : IsR CR H a p) (h : ∀ H', Same H H' → Q (.bl (decide (p ≠ 0))) H') : rBoolOwn CR (spRBool CR) [.ref a] H Q := by
  obtain ⟨dx, e1⟩ := id ha
  exact ⟨a, dx, _, rfl, e1, rfl, a, p, rfl, ha, fun H' s => ⟨_, rfl, h H' s⟩⟩
theorem i_under0 {P : Prop} (ha : IsR CR H a p) (h : P) : rMeth CR "under" (.ref a) H P := let ⟨_, e⟩ := ha; i_meth1 e (rf_no p (by decide +kernel) (by decide +kernel)) h
theorem i_quot0 {P : Prop} (ha : IsR CR H a p) (h : P) : rMeth CR "quotient" (.ref a) H P := let ⟨_, e⟩ := ha; i_meth1 e (rf_no p (by decide +kernel) (by decide +kernel)) h
theorem i_under (ha : IsR CR H a p) (hb : IsR CR H b q) (bp : ZR.Bd 2000 p) (bq : ZR.Bd 2000 q) (h : ∀ H', Same H H' → Q (.bl (decide (p < q))) H') : spRUnder CR [.ref a, .ref b] H Q E :=
  ⟨rfl, a, b, p, q, rfl, ha, hb, bp, bq, h⟩
theorem i_quot (ha : IsR CR H a p) (hb : IsR CR H b q) (bp : ZR.Bd 2000 p) (bq : ZR.Bd 2000 q) (h0 : q ≠ 0) (h : ∀ c H', H c = none → Same H H' → IsR CR H' c (p / q) → Q (.ref c) H') : spRQuot CR CB [.ref a, .ref b] H Q E :=
  ⟨rfl, a, b, p, q, rfl, ha, hb, bp, bq, fun z => absurd z h0, fun _ => h⟩
theorem i_quot00 (ha : IsR CR H a p) (hb : IsR CR H b 0) (bp : ZR.Bd 2000 p) (h : EBad CB 0 H E) : spRQuot CR CB [.ref a, .ref b] H Q E :=
  ⟨rfl, a, b, p, 0, rfl, ha, hb, bp, bd0 (by decide), fun _ => h, fun z => absurd rfl z⟩
theorem i_whole {n : Int} (h : ∀ c H', H c = none → Same H H' → IsR CR H' c (n : Rat) → Q (.ref c) H') : spRWhole CR [.ref CR, .int n] H Q E := ⟨rfl, n, rfl, h⟩
end
/-! ### the law's own helpers -/
def Pool (H : Hp) (p : Addr) : Prop := ∃ (c k : Int) (f : Bool), H p = some (.lst [V.int c, V.int k, V.bl f])
def spPool : Sp := fun vs H Q _ => vs.length = 1 ∧ ∃ c, vs = [.int c] ∧ ∀ p H', H p = none → Same H H' → (∀ b, b ≠ p → H' b = H b) → Pool H' p → Q (.ref p) H'
def spTake : Sp := fun vs H Q _ => vs.length = 2 ∧ ∃ p l, vs = [.ref p, .int l] ∧ Pool H p ∧ 0 < l ∧ ZR.Sz 8000 l ∧ ∀ r H', 0 ≤ r → r < l → (∀ b, b ≠ p → H' b = H b) → Pool H' p → Q (.int r) H'
def spCell (K : PySem.W.Frag) : Sp := fun vs H Q _ => vs.length = 2 ∧ ∃ (a : Addr) (ns : List Int) (k : Nat), vs = [.ref a, .int k] ∧ SqL K H a (ns.map V.int) ∧ ∀ i, Q (.int i) H
section
variable {K : PySem.W.Frag} {p a : Addr} {H : Hp} {Q : VK} {E : XK}
theorem i_pool {c : Int} (h : ∀ p H', H p = none → Same H H' → (∀ b, b ≠ p → H' b = H b) → Pool H' p → Q (.ref p) H') : spPool [.int c] H Q E := ⟨rfl, c, rfl, h⟩
theorem i_take {l : Int} (hp : Pool H p) (h0 : 0 < l) (hz : ZR.Sz 8000 l) (h : ∀ r H', 0 ≤ r → r < l → (∀ b, b ≠ p → H' b = H b) → Pool H' p → Q (.int r) H') : spTake [.ref p, .int l] H Q E := ⟨rfl, p, l, rfl, hp, h0, hz, h⟩
theorem i_cell {ns : List Int} {k : Nat} (hs : SqL K H a (ns.map V.int)) (h : ∀ i, Q (.int i) H) : spCell K [.ref a, .int k] H Q E := ⟨rfl, a, ns, k, rfl, hs, h⟩
end
/-! ### lists of ints compared -/
theorem dp_ints {K : PySem.W.Frag} {H : Hp} : ∀ ns : List Int, DpAll K H (ns.map V.int) (ns.map PyData.int)
  | [] => .nil
  | n :: ns => .cons (.int n) (dp_ints ns)
theorem eqv_ints : ∀ ns ms : List Int, PyData.eqvAll (ns.map PyData.int) (ms.map PyData.int) = decide (ns = ms)
  | [], [] => rfl
  | [], _ :: _ => rfl
  | _ :: _, [] => rfl
  | n :: ns, m :: ms => by
    show (PyData.eqv (.int n) (.int m) && PyData.eqvAll _ _) = _
    rw [eqv_ints ns ms]
    show ((n == m) && _) = _
    by_cases h1 : n = m <;> by_cases h2 : ns = ms <;> simp [h1, h2]
theorem lay_ints : ∀ ns : List Int, PyData.canLayAll0 (ns.map PyData.int) = true
  | [] => rfl
  | n :: ns => by
    show (PyData.canLay0 (.int n) && PyData.canLayAll0 _) = true
    rw [lay_ints ns]
    rfl
end Z

set_option Elab.async false
set_option linter.all false
set_option maxRecDepth 100000
set_option maxHeartbeats 4000000
/-! more readings -/
namespace Z
open PySem PySem.Spec PyProof.Rows L2
section
variable {X : Cx} {K : PySem.W.Frag} {σ σ' : L2.St} {H H1 : Hp} {D : Ends} {t u : TS} {te ta tb tc to : TE} {tt tu : TT} {tr : TA} {g : TG} {gs : TGs} {Q : VK} {QB : Bool → Hp → Prop} {QA : List V → Hp → Prop} {QS : L2.St → Hp → Prop} {QH : Hp → Prop} {v w x y : V} {i j : Nat} {A B : Prop} {b : Bool}
theorem i_isiT {tv : Value} {s : String} (ty : TyX K H x tv) (hk : PySem.W.kitOne K tv (.type s) = some b) (h : Q (.bl b) H) : rIsi K [x, .ty s] H Q := ⟨x, _, tv, _, b, rfl, .ty s, ty, hk, h⟩
theorem i_isiO {tv : Value} {C : Addr} (ty : TyX K H x tv) (hk : PySem.W.kitOne K tv (.ref C) = some b) (h : Q (.bl b) H) : rIsi K [x, .ref C] H Q := ⟨x, _, tv, _, b, rfl, .own C, ty, hk, h⟩
theorem tyInt (n : Int) : TyX K H (.int n) (.type "int") := .base (.int n)
theorem tyStr (z : Str) : TyX K H (.str z) (.type "str") := .base (.str z)
def rBits (x : V) (H1 : Hp) (Q : VK) : Prop := ∃ i : Int, x = .int i ∧ Q (.int (Builtin.Int.intBits i : Nat)) H1
theorem i_bits {n : Int} (h : Q (.int (Builtin.Int.intBits n : Nat)) H) : rBits (.int n) H Q := ⟨n, rfl, h⟩
theorem i_bits0 (h : to σ H (fun x H1 => rBits x H1 Q)) : tBits to σ H Q := h
theorem i_jsC {ts : List TE} {acc : Str} {QJ : Str → Hp → Prop} (h : te σ H (fun x H1 => ∃ y : Str, x = .str y ∧ (acc ++ y).length ≤ sizeLine ∧ tJs ts (acc ++ y) σ H1 QJ)) : tJs (te :: ts) acc σ H QJ := h
theorem i_jsN {acc : Str} {QJ : Str → Hp → Prop} (h : QJ acc H) : tJs [] acc σ H QJ := h
theorem Same_seqT {H H' : Hp} {a : Addr} {xs : List V} (e : Same H H') (h : SqT K H a xs) : SqT K H' a xs := by
  rcases h with (h | ⟨o, h⟩) | h
  · exact .inl (.inl (e _ _ h))
  · exact .inl (.inr ⟨o, e _ _ h⟩)
  · exact .inr h
/-! loops -/
def rFor (it : It) (g : TG) (tb : TS) (D : Ends) (σ : L2.St) (H1 : Hp) : Prop := ∃ W : Nat → Nat → L2.St → Hp → Prop, (∃ m, W 0 m σ H1) ∧ ∀ i m σ H, W i m σ H →
  (it.stop i H ∧ D.nx σ H) ∨ (it.go i H ∧ ∃ N : L2.St → Hp → Prop, (∀ σ' H', N σ' H' → ∃ m', m' < m ∧ W (i + 1) m' σ' H') ∧ ∀ x H', it.yld i H x H' → g x σ H' fun σ2 H2 => tb { D with nx := N, ct := N, bk := D.nx } σ2 H2)
def rForL (K : PySem.W.Frag) (g : TG) (tb : TS) (D : Ends) (σ : L2.St) (x : V) (H1 : Hp) : Prop := ∃ a, x = .ref a ∧ (∃ xs, SqL K H1 a xs) ∧ rFor (Itl K a) g tb D σ H1
def rForT (K : PySem.W.Frag) (g : TG) (tb : TS) (D : Ends) (σ : L2.St) (x : V) (H1 : Hp) : Prop := ∃ a, x = .ref a ∧ (∃ xs, SqT K H1 a xs) ∧ rFor (Itt K a) g tb D σ H1
def rForR (g : TG) (tb : TS) (D : Ends) (σ : L2.St) (vs : List V) (H1 : Hp) : Prop := ∃ j : Int, vs = [.int j] ∧ -(2 ^ 62) ≤ j ∧ j < 2 ^ 62 ∧ rFor (Itr 0 j.toNat) g tb D σ H1
theorem i_forL0 {tl : TE} {tb : TS} (h : tl σ H (fun x H1 => rForL K g tb D σ x H1)) : tFor (iList K tl) g tb D σ H := h
theorem i_forT0 {tl : TE} {tb : TS} (h : tl σ H (fun x H1 => rForT K g tb D σ x H1)) : tFor (iTup K tl) g tb D σ H := h
theorem i_forR0 {tb : TS} (h : tr σ H (fun vs H1 => rForR g tb D σ vs H1)) : tFor (iRng1 tr) g tb D σ H := h
theorem i_forL {a : Addr} {xs : List V} {tb : TS} (Pv : Nat → L2.St → Hp → Prop) (s : SqL K H a xs) (h0 : Pv 0 σ H) (hl : ∀ i σ H, i ≤ xs.length → Pv i σ H → SqL K H a xs)
    (hs : ∀ i x σ H, xs[i]? = some x → Pv i σ H → g x σ H fun σ2 H2 => tb { D with nx := Pv (i + 1), ct := Pv (i + 1), bk := D.nx } σ2 H2) (hd : ∀ σ H, Pv xs.length σ H → D.nx σ H) : rForL K g tb D σ (.ref a) H :=
  ⟨a, rfl, ⟨xs, s⟩, for_list Pv h0 hl hs hd⟩
theorem i_forT {a : Addr} {xs : List V} {tb : TS} (Pv : Nat → L2.St → Hp → Prop) (s : SqT K H a xs) (h0 : Pv 0 σ H) (hl : ∀ i σ H, i ≤ xs.length → Pv i σ H → SqT K H a xs)
    (hs : ∀ i x σ H, xs[i]? = some x → Pv i σ H → g x σ H fun σ2 H2 => tb { D with nx := Pv (i + 1), ct := Pv (i + 1), bk := D.nx } σ2 H2) (hd : ∀ σ H, Pv xs.length σ H → D.nx σ H) : rForT K g tb D σ (.ref a) H := by
  refine ⟨a, rfl, ⟨xs, s⟩, fun i m σ H => m = xs.length - i ∧ i ≤ xs.length ∧ Pv i σ H, ⟨xs.length, by simp, Nat.zero_le _, h0⟩, ?_⟩
  rintro i m σ H ⟨rfl, hi, p⟩
  have q := hl i σ H hi p
  by_cases hlt : i < xs.length
  · refine .inr ⟨⟨xs, xs[i], q, by simp [hlt]⟩, Pv (i + 1), fun σ' H' p' => ⟨xs.length - (i + 1), by omega, rfl, hlt, p'⟩, fun x H' y => ?_⟩
    obtain ⟨e, y⟩ := y
    subst e
    exact hs i x σ _ (y xs q) p
  · have e : i = xs.length := by omega
    subst e
    exact .inl ⟨⟨xs, q, Nat.le_refl _⟩, hd σ H p⟩
theorem i_forR {n : Nat} {k : Int} {tb : TS} (hk : k = (n : Int)) (hn : n < 1000000) (Pv : Nat → L2.St → Hp → Prop) (h0 : Pv 0 σ H)
    (hs : ∀ i σ H, i < n → Pv i σ H → g (.int (i : Nat)) σ H fun σ2 H2 => tb { D with nx := Pv (i + 1), ct := Pv (i + 1), bk := D.nx } σ2 H2) (hd : ∀ σ H, Pv n σ H → D.nx σ H) : rForR g tb D σ [.int k] H := by
  refine ⟨k, rfl, by omega, by omega, ?_⟩
  have e : k.toNat = n := by omega
  rw [e]
  refine for_range Pv h0 (fun i σ H hi p => ?_) hd
  rw [Int.zero_add]
  exact hs i σ H hi p
/-! comprehensions over lists -/
def rLcL (K : PySem.W.Frag) (g : TG) (tt : TT) (te : TE) (vs : List Nat) (σ : L2.St) (Q : VK) (x : V) (H1 : Hp) : Prop := ∃ a, x = .ref a ∧ (∃ xs, SqL K H1 a xs) ∧ ∀ D, H1 D = none → ∃ W : Nat → Nat → Hp → Prop, (∃ m, W 0 m (upd H1 D (.lst []))) ∧ ∀ i m H, W i m H →
  ((Itl K a).stop i H ∧ Q (.ref D) H) ∨ ((Itl K a).go i H ∧ ∃ Nx : Hp → Prop, (∀ H', Nx H' → ∃ m', m' < m ∧ W (i + 1) m' H') ∧ ∀ x H', (Itl K a).yld i H x H' → g x (wipe σ vs) H' fun σ2 H2 => wipe σ2 vs = wipe σ vs ∧ tt σ2 H2 fun b H3 =>
    if b = true then te σ2 H3 fun y H4 => ∃ acc, H4 D = some (.lst acc) ∧ acc.length < sizeLine ∧ Nx (upd H4 D (.lst (acc ++ [y]))) else Nx H3)
theorem i_lcL0 {tl : TE} {vs : List Nat} (h : tl σ H (fun x H1 => rLcL K g tt te vs σ Q x H1)) : tLc (iList K tl) g tt te vs σ H Q := h
theorem i_yes (h : QB true H) : tYes σ H QB := h
def LcS (D : Addr) (Pv : Nat → List V → Hp → Prop) (i : Nat) (H : Hp) : Prop := ∃ ys, H D = some (.lst ys) ∧ Pv i ys H
def rLcE (D : Addr) (Pv : Nat → List V → Hp → Prop) (i : Nat) (y : V) (H4 : Hp) : Prop := ∃ acc, H4 D = some (.lst acc) ∧ acc.length < sizeLine ∧ LcS D Pv (i + 1) (upd H4 D (.lst (acc ++ [y])))
theorem i_lcE {D : Addr} {Pv : Nat → List V → Hp → Prop} {ys : List V} (e : H D = some (.lst ys)) (l : ys.length < 100000) (h : ∀ H5, H5 D = some (.lst (ys ++ [y])) → (∀ c, c ≠ D → H5 c = H c) → Pv (i + 1) (ys ++ [y]) H5) : rLcE D Pv i y H :=
  ⟨ys, e, Nat.lt_of_lt_of_le l (by decide), ys ++ [y], upd_same, h _ upd_same (fun c hc => upd_ne hc)⟩
/-- the results so far stand in D (a new list), Pv tells the rest -/
theorem i_lcL {a : Addr} {xs : List V} {vs : List Nat} (Pv : Nat → List V → Hp → Prop) (s : SqL K H a xs) (h0 : ∀ D H', H D = none → Same H H' → H' D = some (.lst []) → (∀ b, b ≠ D → H' b = H b) → Pv 0 [] H')
    (hl : ∀ i ys H, Pv i ys H → SqL K H a xs)
    (hs : ∀ i x D ys H1, H D = none → xs[i]? = some x → H1 D = some (.lst ys) → Pv i ys H1 → g x (wipe σ vs) H1 fun σ2 H2 => wipe σ2 vs = wipe σ vs ∧ tt σ2 H2 fun b H3 => if b = true then te σ2 H3 fun y H4 => rLcE D Pv i y H4 else LcS D Pv (i + 1) H3)
    (hd : ∀ D ys H1, H D = none → H1 D = some (.lst ys) → Pv xs.length ys H1 → Q (.ref D) H1) : rLcL K g tt te vs σ Q (.ref a) H := by
  refine ⟨a, rfl, ⟨xs, s⟩, fun D hD => ?_⟩
  refine lc_list (xs := xs) (LcS D Pv) ?_ ?_ ?_ ?_
  · exact ⟨[], upd_same, h0 D _ hD (fun b o e => by rw [upd_ne (ne_of_none e hD)]; exact e) upd_same (fun b hb => upd_ne hb)⟩
  · rintro i H' _ ⟨ys, _, p⟩
    exact hl i ys H' p
  · rintro i x H' hi ⟨ys, hD', p⟩
    exact hs i x D ys H' hD hi hD' p
  · rintro H' ⟨ys, hD', p⟩
    exact hd D ys H' hD hD' p
theorem i_wipe {A B : Prop} (a : A) (b : B) : A ∧ B := ⟨a, b⟩
/-! targets, stores -/
theorem i_gsub {ti : TE} {r : V → V → V → Hp → (Hp → Prop) → Prop} (h : to σ H (fun o H1 => ti σ H1 (fun i H2 => r o i v H2 (fun H3 => QS σ H3)))) : gSub to ti r v σ H QS := h
theorem i_setL {p : Addr} {xs ys : List V} {k : Int} {j : Nat} (e : H p = some (.lst xs)) (hj : ixN xs.length k = some j) (w : xs.set j v = ys) (h : ∀ H2, H2 p = some (.lst ys) → (∀ b, b ≠ p → H2 b = H b) → QH H2) : rSetL (.ref p) (.int k) v H QH :=
  ⟨p, xs, k, j, rfl, rfl, e, hj, h _ (by rw [w]; exact upd_same) (fun b hb => upd_ne hb)⟩
theorem i_par (h : tr σ H (fun vs H1 => ∃ v w, vs = [v, w] ∧ D.nx ((σ.set i (some v)).set j (some w)) H1)) : tPar i j tr D σ H := h
theorem i_par1 {P : V → V → Prop} (h : P v w) : ∃ v' w', [v, w] = [v', w'] ∧ P v' w' := ⟨v, w, rfl, h⟩
theorem i_glst {a : Addr} {xs : List V} {n : Nat} (s : SqL K H a xs) (hn : xs.length = n) (h : gs xs σ H QS) : gLst K n gs (.ref a) σ H QS := ⟨a, xs, rfl, s, hn, h⟩
theorem i_gtup {a : Addr} {xs : List V} {n : Nat} (s : SqT K H a xs) (hn : xs.length = n) (h : gs xs σ H QS) : gTup K n gs (.ref a) σ H QS := ⟨a, xs, rfl, s, hn, h⟩
theorem i_gc {vs : List V} (h : g v σ H (fun σ' H' => gs vs σ' H' QS)) : gCons g gs (v :: vs) σ H QS := ⟨v, vs, rfl, h⟩
theorem i_gn (h : QS σ H) : gNil [] σ H QS := ⟨rfl, h⟩
/-! methods of lists -/
theorem i_bm {T : String} {r : V → List V → Hp → VK → Prop} (h : to σ H (fun x H1 => tyV K T x H1 ∧ tr σ H1 (fun xs H2 => r x xs H2 Q))) : tBM K T r to tr σ H Q := h
theorem tyL {p : Addr} {xs : List V} (e : H p = some (.lst xs)) : tyV K "list" (.ref p) H := Or.inl ⟨rfl, _, SqL.of e⟩
theorem i_app {p : Addr} {xs : List V} (e : H p = some (.lst xs)) (l : xs.length < 100000) (h : ∀ H2, H2 p = some (.lst (xs ++ [y])) → (∀ b, b ≠ p → H2 b = H b) → Q .non H2) : rAppend (.ref p) [y] H Q :=
  ⟨p, xs, y, rfl, rfl, e, Nat.lt_of_lt_of_le l (by decide), h _ upd_same (fun b hb => upd_ne hb)⟩
/-! errors' __init__ -/
def rVeI (K : PySem.W.Frag) (vs : List V) (H1 : Hp) (Q : VK) : Prop := ∃ (a C : Addr) (ws : List V), vs = .ref a :: ws ∧ ws.length ≤ 1000 ∧ OexC K C ∧ H1 a = some (exo a C none) ∧ Q .non H1
theorem i_tve (h : tr σ H (fun vs H1 => rVeI K vs H1 Q)) : tVeI K tr σ H Q := h
theorem i_tve1 {a C : Addr} {ws : List V} (T : OexC K C) (e : H a = some (exo a C none)) (l : ws.length ≤ 1000) (h : Q .non H) : rVeI K (.ref a :: ws) H Q := ⟨a, C, ws, rfl, l, T, e, h⟩
def rOst (K : PySem.W.Frag) (f : Str) (y x : V) (H2 : Hp) (P : Hp → Prop) : Prop := ∃ a C : Addr, x = .ref a ∧ OexC K C ∧ PySem.W.findIn K (.ref C) f = some none ∧
  ((H2 a = some (exo a C none) ∧ ∀ dx, H2 dx = none → dx ≠ a → P (upd (upd H2 dx (exd dx [(f, y)])) a (exo a C (some dx)))) ∨
    ∃ (dx : Addr) (fs : List (Str × V)), H2 a = some (exo a C (some dx)) ∧ H2 dx = some (exd dx fs) ∧ fs.length ≤ 900 ∧ P (upd H2 dx (exd dx ((f, y) :: fs))))
theorem i_ost {f : Str} (h : te σ H (fun y H1 => to σ H1 (fun x H2 => rOst K f y x H2 (fun H3 => D.nx σ H3)))) : tOst K f to te D σ H := h
theorem i_ost1 {f : Str} {a C : Addr} (T : OexC K C) (n : PySem.W.findIn K (.ref C) f = some none) (e : H a = some (exo a C none)) (h : ∀ dx, H dx = none → dx ≠ a → QH (upd (upd H dx (exd dx [(f, y)])) a (exo a C (some dx)))) : rOst K f y (.ref a) H QH :=
  ⟨a, C, rfl, T, n, .inl ⟨e, h⟩⟩
theorem i_fmtI {n : Int} (l : ZR.Sz 1900 n) (h : Q (.str (toString n)) H) : rFmt (.int n) H Q := .inr ⟨n, rfl, PySem.Flt.log2_lt_of (by decide) (l.mono (by decide)), h⟩
theorem i_js1 {ts : List TE} {acc z : Str} {QJ : Str → Hp → Prop} (l : (acc ++ z).length ≤ sizeLine) (h : tJs ts (acc ++ z) σ H QJ) : ∃ y : Str, V.str z = .str y ∧ (acc ++ y).length ≤ sizeLine ∧ tJs ts (acc ++ y) σ H QJ := ⟨z, rfl, l, h⟩
theorem bits_small {n : Int} {k : Nat} (h : ZR.Sz k n) : ¬ ((k : Int) < (Builtin.Int.intBits n : Nat)) := by
  have := (intBits_le_iff (m := k) (x := n)).mpr h
  omega
theorem text_small {n : Int} (h : ZR.Sz 1900 n) : (Str.ofString (toString n)).length ≤ 1901 := by
  have := int_text_length_le10 (k := 1900) (a := n) (by decide) (Nat.lt_of_lt_of_le (show n.natAbs < 2 ^ 1900 from h) (Nat.pow_le_pow_left (by decide) 1900))
  rw [PySem.ofString_length]
  exact this
/-! items by written places -/
theorem i_ix0 {p : Addr} {x0 : V} {xs : List V} (s : SqL K H p (x0 :: xs)) (h : Q x0 H) : rIxL K (.ref p) (.int 0) H Q := i_ixL (k := 0) s rfl h
theorem i_ix1 {p : Addr} {x0 x1 : V} {xs : List V} (s : SqL K H p (x0 :: x1 :: xs)) (h : Q x1 H) : rIxL K (.ref p) (.int 1) H Q := i_ixL (k := 1) s rfl h
theorem i_ix2 {p : Addr} {x0 x1 x2 : V} {xs : List V} (s : SqL K H p (x0 :: x1 :: x2 :: xs)) (h : Q x2 H) : rIxL K (.ref p) (.int 2) H Q := i_ixL (k := 2) s rfl h
theorem i_ixT {p : Addr} {xs : List V} {k : Nat} (s : SqT K H p xs) (e : xs[k]? = some v) (h : Q v H) : rIxT K (.ref p) (.int (k : Nat)) H Q := ⟨p, xs, _, v, rfl, rfl, s, atI_nat e, h⟩
theorem i_ixT0 {p : Addr} {x0 : V} {xs : List V} (s : SqT K H p (x0 :: xs)) (h : Q x0 H) : rIxT K (.ref p) (.int 0) H Q := i_ixT (k := 0) s rfl h
theorem i_neLI {p q : Addr} {ns ms : List Int} (h1 : SqL K H p (ns.map V.int)) (h2 : SqL K H q (ms.map V.int)) (h : Q (.bl (!decide (ns = ms))) H) : rNeD K (.ref p) (.ref q) H Q := by
  refine ⟨_, _, .lst h1 (dp_ints ns), .lst h2 (dp_ints ms), ?_, ?_, ?_⟩
  · exact shp ns
  · exact shp ms
  · have e : PyData.eqv (.list (ns.map PyData.int)) (.list (ms.map PyData.int)) = decide (ns = ms) := by
      show PyData.eqvAll _ _ = _
      exact eqv_ints ns ms
    rw [e]
    exact h
where shp (ns : List Int) : SeqAt.shaped (.list (ns.map PyData.int)) = true := by
        unfold SeqAt.shaped
        have d : ∀ ns : List Int, PyData.depthAll (ns.map PyData.int) ≤ 1 := by
          intro ns
          induction ns with
          | nil => decide
          | cons n ns ih => simp [PyData.depthAll, PyData.depth] at *; omega
        have := d ns
        have l := lay_ints ns
        simp [PyData.depth, PyData.canLay0]
        exact ⟨l, by omega⟩
end
end Z
namespace Z
open PySem PySem.Spec PyProof.Rows L2
/-! the same rules where the written part stands by its own letter -/
section
variable {X : Cx} {K : PySem.W.Frag} {e : Expr} {te : TE} {f : Str} {pos : Pos}
theorem k_fld (hK : X.K = K) (he : PE X e te) (hb : attributeBase e f X.env (eval e X.env) = eval e X.env) : PE X (.Attribute e f pos) (tFld K te f) := by
  subst hK
  exact pe_fld he hb
theorem k_ixL (hK : X.K = K) : IxR X (rIxL K) := by
  subst hK
  exact ix_list
theorem k_ixT (hK : X.K = K) : IxR X (rIxT K) := by
  subst hK
  exact ix_tup
theorem k_lst {es : List Expr} {k n : Nat} {t : TGs} (hK : X.K = K) (hc : X.calm = true) (h : PGs X es t) (hn : (assignEach es X.env).length = n := by rfl) (hst : (assignEach es X.env).findIdx? (·.1) = none := by rfl) : PG X (.Tuple es k pos) (gLst K n t) := by
  subst hK
  exact pg_lst hc h hn hst
theorem k_tup {es : List Expr} {k n : Nat} {t : TGs} (hK : X.K = K) (hc : X.calm = true) (h : PGs X es t) (hn : (assignEach es X.env).length = n := by rfl) (hst : (assignEach es X.env).findIdx? (·.1) = none := by rfl) : PG X (.Tuple es k pos) (gTup K n t) := by
  subst hK
  exact pg_tup hc h hn hst
theorem k_list {tg l : Expr} {tl : TE} (hK : X.K = K) (hl : PE X l tl) : PI X tg l (iList K tl) := by
  subst hK
  exact pi_list hl
theorem k_tupI {tg l : Expr} {tl : TE} (hK : X.K = K) (hl : PE X l tl) : PI X tg l (iTup K tl) := by
  subst hK
  exact pi_tup hl
theorem k_eqO {C : Addr} {k j : Nat} {sp : Sp} (hK : X.K = K) (c : CalO X.prog X.w X.K X.mg X.base C "__eq__" k sp) (hr : Room j X.A) (hj : k ≤ j := by decide) : OpR X (compareOp .Eq) (rOwnC K C sp) := by
  subst hK
  exact z_eqO c hr hj
theorem k_neO {C : Addr} {k j : Nat} {sp : Sp} (hK : X.K = K) (c : CalO X.prog X.w X.K X.mg X.base C "__eq__" k sp) (n : NeC X.K C) (hr : Room j X.A) (hj : k + 1 ≤ j := by decide) : OpR X (compareOp .NotEq) (rOwnN K C sp) := by
  subst hK
  exact z_neO c n hr hj
theorem k_eqD (hK : X.K = K) (hu : X.A.units + 64 < cLine) : OpR X (compareOp .Eq) (rEqD K) := by
  subst hK
  exact op_eqD hu
theorem k_neD (hK : X.K = K) (hu : X.A.units + 64 < cLine) : OpR X (compareOp .NotEq) (rNeD K) := by
  subst hK
  exact op_neD hu
/-- len of a list or a tuple -/
def rLen (K : PySem.W.Frag) : List V → Hp → VK → Prop := fun xs H Q => ∃ p ys, xs = [.ref p] ∧ (SqL K H p ys ∨ SqT K H p ys) ∧ Q (.int ys.length) H
theorem k_len (hK : X.K = K) : CallR X (.builtin "len") (rLen K) := by
  subst hK
  exact call_len_seq
theorem i_lenL {p : Addr} {xs : List V} {H : Hp} {Q : VK} (s : SqL K H p xs) (h : Q (.int xs.length) H) : rLen K [.ref p] H Q := ⟨p, xs, rfl, .inl s, h⟩
theorem i_lenT {p : Addr} {xs : List V} {H : Hp} {Q : VK} (s : SqT K H p xs) (h : Q (.int xs.length) H) : rLen K [.ref p] H Q := ⟨p, xs, rfl, .inr s, h⟩
theorem k_isi (hK : X.K = K) : CallR X (.builtin "isinstance") (rIsi K) := by
  subst hK
  exact call_isi
end
section
variable {K : PySem.W.Frag} {σ : L2.St} {H : Hp} {D : Ends} {Q : VK} {te : TE}
theorem i_was {c cls : Value} {i : Nat} {ts : Addr → Value → Option Addr → TS} {Wout : WX} {d : Option Addr} (hx : PySem.W.exmOne K cls c = some true)
    (h : ∀ a, H a = none → ts a cls d { nx := fun σ' H' => D.nx (σ'.set i none) H', rt := D.rt, bk := fun σ' H' => D.bk (σ'.set i none) H', ct := fun σ' H' => D.ct (σ'.set i none) H' } (σ.set i (some (.ref a))) H) :
    wAs K c i ts Wout D cls d σ H := ⟨true, hx, fun _ => h, fun q => by cases q⟩
def rXf (a : Addr) (cls : Value) (d : Option Addr) (C : Addr) (f : Str) (x : V) (H1 : Hp) (Q : VK) : Prop := x = .ref a ∧ cls = .ref C ∧ ∃ (dd : Addr) (fs : List (Str × V)) (v : V), d = some dd ∧ H1 dd = some (.xd fs) ∧ fs.lookup f = some v ∧ Q v H1
theorem i_xf {a C : Addr} {cls : Value} {d : Option Addr} {f : Str} (h : te σ H (fun x H1 => rXf a cls d C f x H1 Q)) : tXf a cls d C f te σ H Q := h
theorem i_xf1 {a C dd : Addr} {f : Str} {v : V} (e : H dd = some (.xd [(f, v)])) (h : Q v H) : rXf a (.ref C) (some dd) C f (.ref a) H Q :=
  ⟨rfl, rfl, dd, _, v, rfl, e, by simp [List.lookup], h⟩
end
end Z
namespace Z
open PySem PySem.Spec PyProof.Rows L2
/-! facts put together -/
theorem exm_in {K : PySem.W.Frag} {C D : Addr} {b : Bool} (e : PySem.W.subIn K (.ref C) (.type "BaseException") = some true) (i : PySem.W.isClsIn K C = true) (ty : PySem.W.typeIn K (.ref C) = some (.type "type")) (s : PySem.W.subIn K (.ref D) (.ref C) = some b) :
    PySem.W.exmOne K (.ref D) (.ref C) = some b := by
  unfold PySem.W.exmOne
  rw [if_pos (by rw [e]; rfl)]
  unfold PySem.W.kitCls
  have hc : (PySem.W.clsIn K C).isSome = true := i
  show (if ((PySem.W.clsIn K C).isSome && PySem.W.typeIn K (.ref C) == some (.type "type")) = true then PySem.W.subIn K (.ref D) (.ref C) else none) = some b
  rw [if_pos, s]
  rw [hc, ty]
  simp
theorem refs_ve (T : Addr) : PySem.HandSPX.refsVE [.ref T, .type "ValueError", .type "Exception", .type "BaseException", .type "object"] = true := by
  show PySem.HandSPX.refsVE [.type "ValueError", .type "Exception", .type "BaseException", .type "object"] = true
  decide +kernel
theorem kit_self {K : PySem.W.Frag} {C : Addr} : PySem.W.kitOne K (.ref C) (.ref C) = some true := by
  unfold PySem.W.kitOne
  rw [if_pos (by simp)]
theorem kit_c {K : PySem.W.Frag} {C : Addr} {t : Value} {b : Bool} (i : PySem.W.isClsIn K C = true) (ty : PySem.W.typeIn K (.ref C) = some (.type "type")) (e : PySem.W.subIn K t (.ref C) = some b) (hne : (t == Value.ref C) = false) : PySem.W.kitOne K t (.ref C) = some b := by
  unfold PySem.W.kitOne
  rw [if_neg (by rw [hne]; simp)]
  unfold PySem.W.kitCls
  have hc : (PySem.W.clsIn K C).isSome = true := i
  show (if ((PySem.W.clsIn K C).isSome && PySem.W.typeIn K (.ref C) == some (.type "type")) = true then PySem.W.subIn K t (.ref C) else none) = some b
  rw [if_pos, e]
  rw [hc, ty]
  simp

section
variable {P : Program} {w : World} {K : PySem.W.Frag} {mg : Str → Option Value} {base h : Heap} {f C : Addr} {fd : FuncData} {ps : List Str} {x : Str} {k : Nat} {sp : Sp}
theorem mk_cal (X : K.In h) (G : h.Ns mainGlobals mg) (a : PySem.W.nsIn K mainGlobals x = some (some (.ref f))) (kk : PySem.W.keepIn K (.ref f) = true) (F : FnOk P w K mg base (L2.CX P w) k f fd ps sp) (b : Binds K fd ps []) : Cal P w K mg base x k sp :=
  ⟨f, PySem.W.mg_of X G a, kk, fnR_of F b⟩
theorem mk_calM (m : Meth K C x f) (F : FnOk P w K mg base (L2.CX P w) k f fd ps sp) (b : Binds K fd ps []) : CalM P w K mg base C x k sp := ⟨f, m, fnR_of F b⟩
theorem mk_calI (X : K.In h) (G : h.Ns mainGlobals mg) (a : PySem.W.nsIn K mainGlobals x = some (some (.ref C))) (m : Mk K C f) (F : FnOk P w K mg base (L2.CX P w) k f fd ps sp) (b : Binds K fd ps []) : CalI P w K mg base x C k sp :=
  ⟨PySem.W.mg_of X G a, f, m, fnR_of F b⟩
theorem mk_calO (a : PySem.W.findIn K (.ref C) x = some (some (.ref f))) (i : PySem.W.isFn K (.ref f) = true) (s : PySem.W.selfFirst K C = true) (F : FnOk P w K mg base (L2.CX P w) k f fd ps sp) (b : Binds K fd ps []) : CalO P w K mg base C x k sp :=
  ⟨f, ⟨a, i⟩, s, fnR_of F b⟩
theorem mk_calK {mc : Value} {p : Addr} (r : ClX.CRead K C mc) (m : ClX.CMet K C mc x p f) (F : FnOk P w K mg base (L2.CX P w) k f fd ps sp) (b : Binds K fd ps []) : CalK P w K mg base C x k sp := ⟨mc, p, f, r, m, fnR_of F b⟩
theorem mk_calX (X : K.In h) (G : h.Ns mainGlobals mg) (a : PySem.W.nsIn K mainGlobals x = some (some (.ref C))) (o : OexC K C) (i : PySem.W.findIn K (.ref C) "__init__" = some (some (.ref f))) (t : PySem.W.typeIn K (.ref f) = some (.type "function"))
    (F : FnOk P w K mg base (L2.CX P w) k f fd ps sp) (b : Binds K fd ps []) : CalX P w K mg base x C k ps sp := ⟨PySem.W.mg_of X G a, o, f, fd, i, t, F, b⟩
theorem mk_calT {mc : Value} (X : K.In h) (G : h.Ns mainGlobals mg) (a : PySem.W.nsIn K mainGlobals x = some (some (.ref C))) (r : ClX.CRead K C mc) (v : PySem.W.findCls K (.ref C) mc "__init__" = some (.val (.builtin "ValueError.__init__"))) : CalT K mg x :=
  ⟨C, mc, PySem.W.mg_of X G a, r, v⟩
end
end Z

set_option Elab.async false
set_option linter.all false
set_option maxRecDepth 100000
set_option maxHeartbeats 4000000
/-! texts: str(x) of own things, s * n, comprehensions over texts -/
namespace Z
open PySem PySem.Spec PyProof.Rows L2
section
variable {X : Cx} {k j : Nat} {f C : Addr} {sp : Sp}
def strO (Q : VK) : VK := fun v H' => ∃ z, v = .str z ∧ Q (.str z) H'
/-- str(x), x an instance with its own __str__ -/
def rStrOwn (C : Addr) (sp : Sp) : List V → Hp → VK → Prop := fun xs H Q => ∃ a dx fs, xs = [.ref a] ∧ H a = some (.ins C dx fs) ∧
  sp [.ref a] H (strO Q) (fun _ _ _ => False)
theorem call_strOwn (F : FnR X.prog X.w X.K X.mg X.base (L2.CX X.prog X.w) k f sp) (hr : Room (k + 2) X.A) (S : Spc X.K C "__str__" f) :
    CallR X (.type "str") (rStrOwn C sp) := by
  intro pins s σ H xs us Q I r h
  obtain ⟨a, dx, fs, rfl, ea, h⟩ := h
  obtain rfl := Vals.ref1 r
  obtain ⟨ox, od, Ja⟩ := instAt I ea
  have hr1 : Room k X.A.in1.in1 := (hr.in1).in1
  refine PySem.W.kso_call (f := f) hr1.units0 I.kIn Ja S.at_ S.fn ?_
  refine wpAny_call (codeAny_mono (F X.A.in1.in1 X.stack s H [.ref a] [.ref a] _ (fun _ _ _ => False) hr1 I.env0.in1.in1 (.cons rfl .nil) h) fun q s' hq => ?_)
  rcases q with e | fl
  · exact (cxN hq).elim
  rcases fl with _ | _ | _ | u'
  · exact False.elim hq
  · exact False.elim hq
  · exact False.elim hq
  obtain ⟨v', H', J', rv, z, ev, q⟩ := I.after hq
  subst ev
  obtain ⟨t, rfl⟩ := rv
  exact ⟨.str z, H', J', ⟨t, rfl⟩, q⟩
theorem z_strO (c : CalO X.prog X.w X.K X.mg X.base C "__str__" k sp) (hr : Room j X.A) (hj : k + 2 ≤ j := by decide) : CallR X (.type "str") (rStrOwn C sp) := by
  obtain ⟨f, S, sf, F⟩ := c
  exact call_strOwn F (hr.mono hj) S
/-- s * n -/
def rMulS : R2 := fun x y H Q => ∃ (z : Str) (n : Int), x = .str z ∧ y = .int n ∧ 2 ≤ n ∧ n ≤ 1000 ∧ z.length ≤ 1000 ∧ Q (.str (Txt.mul z n)) H
theorem op_mulS : OpR X (binaryOp .Mult) rMulS := by
  intro pins s σ H x y v u Q I rx ry h
  obtain ⟨z, n, rfl, rfl, h2, hn, hz, q⟩ := h
  obtain ⟨t, rfl⟩ := rx
  obtain ⟨u', rfl⟩ := ry
  have hlen : z.length * n.toNat ≤ 1000000 := by
    have : n.toNat ≤ 1000 := by omega
    exact Nat.le_trans (Nat.mul_le_mul hz this) (by decide)
  refine PySem.SB.mul ⟨?_, ?_, ?_⟩ fun t' k => ⟨.str _, H, I.tok _, ⟨_, rfl⟩, q⟩
  · rw [decide_eq_false (by omega), decide_eq_false (by omega)]
    rfl
  · intro _ _ hgt
    have : (2 ^ 63 - 1 : Int) / n ≥ 1000 := Int.le_ediv_of_mul_le (by omega) (by omega)
    omega
  · intro _ _
    unfold PySem.Builtin.Str.tooLong
    rw [sizeLine_eq]
    exact decide_eq_false (by omega)
theorem i_mulS {z : Str} {n : Int} {H : Hp} {Q : VK} (h2 : 2 ≤ n) (hn : n ≤ 1000) (hz : z.length ≤ 1000) (h : Q (.str (Txt.mul z n)) H) : rMulS (.str z) (.int n) H Q := ⟨z, n, rfl, rfl, h2, hn, hz, h⟩
end
/-! ### comprehensions over texts -/
section
variable {K : PySem.W.Frag} {σ : L2.St} {H : Hp} {D : Ends} {te : TE} {tt : TT} {g : TG} {Q : VK}
def rLcS (g : TG) (tt : TT) (te : TE) (vs : List Nat) (σ : L2.St) (Q : VK) (x : V) (H1 : Hp) : Prop := ∃ z, x = .str z ∧ ∀ D, H1 D = none → ∃ W : Nat → Nat → Hp → Prop, (∃ m, W 0 m (upd H1 D (.lst []))) ∧ ∀ i m H, W i m H →
  ((Its z).stop i H ∧ Q (.ref D) H) ∨ ((Its z).go i H ∧ ∃ Nx : Hp → Prop, (∀ H', Nx H' → ∃ m', m' < m ∧ W (i + 1) m' H') ∧ ∀ x H', (Its z).yld i H x H' → g x (wipe σ vs) H' fun σ2 H2 => wipe σ2 vs = wipe σ vs ∧ tt σ2 H2 fun b H3 =>
    if b = true then te σ2 H3 fun y H4 => ∃ acc, H4 D = some (.lst acc) ∧ acc.length < sizeLine ∧ Nx (upd H4 D (.lst (acc ++ [y]))) else Nx H3)
theorem i_lcS0 {tl : TE} {vs : List Nat} (h : tl σ H (fun x H1 => rLcS g tt te vs σ Q x H1)) : tLc (iStr tl) g tt te vs σ H Q := h
theorem i_lcS {z : Str} {vs : List Nat} (Pv : Nat → List V → Hp → Prop) (h0 : ∀ D H', H D = none → Same H H' → H' D = some (.lst []) → (∀ b, b ≠ D → H' b = H b) → Pv 0 [] H')
    (hs : ∀ i c D ys H1, H D = none → (TL.tl z)[i]? = some c → H1 D = some (.lst ys) → Pv i ys H1 → g (.str ⟨#[c]⟩) (wipe σ vs) H1 fun σ2 H2 => wipe σ2 vs = wipe σ vs ∧ tt σ2 H2 fun b H3 => if b = true then te σ2 H3 fun y H4 => rLcE D Pv i y H4 else LcS D Pv (i + 1) H3)
    (hd : ∀ D ys H1, H D = none → H1 D = some (.lst ys) → Pv (TL.tl z).length ys H1 → Q (.ref D) H1) : rLcS g tt te vs σ Q (.str z) H := by
  refine ⟨z, rfl, fun D hD => ?_⟩
  have hsz : z.cps.size = (TL.tl z).length := (Array.length_toList).symm
  refine ⟨fun i m H' => m = z.cps.size - i ∧ i ≤ z.cps.size ∧ LcS D Pv i H', ⟨z.cps.size, by simp, Nat.zero_le _, [], upd_same, h0 D _ hD (fun b o e => by rw [upd_ne (ne_of_none e hD)]; exact e) upd_same (fun b hb => upd_ne hb)⟩, ?_⟩
  rintro i m H' ⟨rfl, hi, ys, hD', p⟩
  by_cases hlt : i < z.cps.size
  · refine .inr ⟨hlt, LcS D Pv (i + 1), fun H'' p' => ⟨z.cps.size - (i + 1), by omega, rfl, hlt, p'⟩, fun x H'' y => ?_⟩
    obtain ⟨e, c, hc, rfl⟩ := y
    subst e
    refine hs i c D ys _ hD ?_ hD' p
    show z.cps.toList[i]? = some c
    rw [Array.getElem?_toList]
    exact hc
  · have e : i = z.cps.size := by omega
    refine .inl ⟨Nat.le_of_eq e.symm, hd D ys H' hD hD' ?_⟩
    rw [← hsz, ← e]
    exact p
end
end Z
namespace Z
open PySem PySem.Spec PyProof.Rows L2
section
variable {K : PySem.W.Frag} {σ : L2.St} {H : Hp} {D : Ends} {te ta tb tc : TE} {tlo thi : TO} {QO : Option Int → Hp → Prop} {Q : VK} {z : Str}
theorem i_chain {r r' : R2} (h : ta σ H (fun x H1 => tb σ H1 (fun y H2 => r x y H2 (fun v H3 => ∃ k, v = .bl k ∧ (if k = true then tc σ H3 (fun w' H4 => r' y w' H4 Q) else Q (.bl false) H3))))) : tChain r r' ta tb tc σ H Q := h
theorem i_sl {r : V → Option Int → Option Int → Hp → VK → Prop} (h : te σ H (fun x H1 => tlo σ H1 (fun l H2 => thi σ H2 (fun u H3 => r x l u H3 Q)))) : tSl r te tlo thi σ H Q := h
theorem i_noPart (h : QO none H) : tNoPart σ H QO := h
def rPart (x : V) (H1 : Hp) (QO : Option Int → Hp → Prop) : Prop := ∃ i, x = .int i ∧ QO (some i) H1
theorem i_part (h : te σ H (fun x H1 => rPart x H1 QO)) : tPart te σ H QO := h
theorem i_part1 {i : Int} (h : QO (some i) H) : rPart (.int i) H QO := ⟨i, rfl, h⟩
theorem i_slS {lo hi : Option Int} (hz : z.length ≤ 100000) (h : Q (.str (cutS z lo hi)) H) : rSlS (.str z) lo hi H Q := ⟨z, rfl, Nat.le_trans hz (by decide), h⟩
theorem i_slL {lo hi : Option Int} {a : Addr} {xs ys : List V} (s : SqL K H a xs) (e : cutV xs lo hi = ys) (h : ∀ p H', H p = none → Same H H' → H' p = some (.lst ys) → (∀ b, b ≠ p → H' b = H b) → Q (.ref p) H') : rSlL K (.ref a) lo hi H Q := by
  subst e
  exact ⟨a, xs, rfl, s, fun p hp => h p _ hp (fun b o e => by rw [upd_ne (ne_of_none e hp)]; exact e) upd_same (fun b hb => upd_ne hb)⟩
theorem i_ixS {k : Nat} {c : Nat} (hz : z.length ≤ 100000) (e : (TL.tl z)[k]? = some c) (h : Q (.str ⟨#[c]⟩) H) : rIxS (.str z) (.int (k : Nat)) H Q := ⟨z, _, c, rfl, rfl, Nat.le_trans hz (by decide), atI_nat e, h⟩
theorem i_ixS0 {c : Nat} {r : List Nat} (hz : z.length ≤ 100000) (e : TL.tl z = c :: r) (h : Q (.str ⟨#[c]⟩) H) : rIxS (.str z) (.int 0) H Q := i_ixS (k := 0) hz (by rw [e]; rfl) h
def rRevL (K : PySem.W.Frag) (x : V) (H1 : Hp) (Q : VK) : Prop := ∃ a xs, x = .ref a ∧ SqL K H1 a xs ∧ ∀ p, H1 p = none → Q (.ref p) (upd H1 p (.lst xs.reverse))
theorem i_revL (h : te σ H (fun x H1 => rRevL K x H1 Q)) : tRevL K te σ H Q := h
theorem i_revL1 {a : Addr} {xs : List V} (s : SqL K H a xs) (h : ∀ p H', H p = none → Same H H' → H' p = some (.lst xs.reverse) → (∀ b, b ≠ p → H' b = H b) → Q (.ref p) H') : rRevL K (.ref a) H Q :=
  ⟨a, xs, rfl, s, fun p hp => h p _ hp (fun b o e => by rw [upd_ne (ne_of_none e hp)]; exact e) upd_same (fun b hb => upd_ne hb)⟩
theorem tl_from (z : Str) (k : Nat) : TL.tl (cutS z (some (k : Int)) none) = (TL.tl z).drop k := by
  have hl := TL.len_tl z
  show ((TL.tl z).drop (HT.sIx z.length 0 (some (k : Int)))).take (HT.sIx z.length z.length none - HT.sIx z.length 0 (some (k : Int))) = _
  rw [HT.sIx_nat, HT.sIx_none, hl, List.take_of_length_le (by rw [List.length_drop]; omega)]
  by_cases h : k ≤ (TL.tl z).length
  · rw [Nat.min_eq_left h]
  · rw [Nat.min_eq_right (by omega), List.drop_length, List.drop_of_length_le (by omega)]
theorem tl_upto (z : Str) (k : Nat) : TL.tl (cutS z none (some (k : Int))) = (TL.tl z).take k := by
  have hl := TL.len_tl z
  show ((TL.tl z).drop (HT.sIx z.length 0 none)).take (HT.sIx z.length z.length (some (k : Int)) - HT.sIx z.length 0 none) = _
  rw [HT.sIx_nat, HT.sIx_none, hl, List.drop_zero, Nat.sub_zero, ← List.take_take, List.take_length]
end
end Z
namespace Z
open PySem PySem.Spec PyProof.Rows L2
section
variable {K : PySem.W.Frag} {H : Hp} {Q : VK}
theorem i_cat {l b : Addr} {xs zs : List V} (h1 : H l = some (.lst xs)) (h2 : H b = some (.lst zs)) (hl : xs.length + zs.length ≤ 100000) (h : ∀ p H', H p = none → Same H H' → H' p = some (.lst (xs ++ zs)) → (∀ b, b ≠ p → H' b = H b) → Q (.ref p) H') : rCat (.ref l) (.ref b) H Q :=
  ⟨l, b, xs, zs, rfl, rfl, h1, h2, Nat.le_trans hl (by decide), fun p hp => h p _ hp (fun b o e => by rw [upd_ne (ne_of_none e hp)]; exact e) upd_same (fun b hb => upd_ne hb)⟩
theorem i_newStrs {ys : List Str} (h : ∀ p H', H p = none → Same H H' → H' p = some (.lst (ys.map V.str)) → (∀ b, b ≠ p → H' b = H b) → Q (.ref p) H') : rNewStrs ys H Q :=
  fun p hp => h p _ hp (fun b o e => by rw [upd_ne (ne_of_none e hp)]; exact e) upd_same (fun b hb => upd_ne hb)
end
end Z
namespace Z
open PySem PySem.Spec PyProof.Rows L2
theorem ixN_n {n j : Nat} (hj : j < n) : ixN n (j : Int) = some j := by
  unfold ixN
  rw [if_pos (by omega), if_pos (by omega)]
  simp
/-! lists of ints and texts, the same ones -/
def sv : Int ⊕ Str → V
  | .inl i => .int i
  | .inr z => .str z
def sd : Int ⊕ Str → PyData
  | .inl i => .int i
  | .inr z => .str z
section
variable {K : PySem.W.Frag} {H : Hp} {Q : VK} {p q : Addr}
theorem dp_sv : ∀ ls : List (Int ⊕ Str), DpAll K H (ls.map sv) (ls.map sd)
  | [] => .nil
  | .inl i :: ls => .cons (.int i) (dp_sv ls)
  | .inr z :: ls => .cons (.str z) (dp_sv ls)
theorem eqv_sd : ∀ ls : List (Int ⊕ Str), PyData.eqvAll (ls.map sd) (ls.map sd) = true
  | [] => rfl
  | .inl i :: ls => by
    show (PyData.eqv (.int i) (.int i) && PyData.eqvAll _ _) = true
    rw [eqv_sd ls, Bool.and_true]
    show (i == i) = true
    simp
  | .inr z :: ls => by
    show (PyData.eqv (.str z) (.str z) && PyData.eqvAll _ _) = true
    rw [eqv_sd ls, Bool.and_true]
    show (z == z) = true
    simp
theorem shaped_sd (ls : List (Int ⊕ Str)) (hs : ∀ z, .inr z ∈ ls → PyData.strOk z = true) : SeqAt.shaped (.list (ls.map sd)) = true := by
  unfold SeqAt.shaped
  have d : ∀ ls : List (Int ⊕ Str), PyData.depthAll (ls.map sd) ≤ 1 := by
    intro ls
    induction ls with
    | nil => decide
    | cons n ns ih => cases n <;> simp [PyData.depthAll, PyData.depth, sd] at * <;> omega
  have l : ∀ ls : List (Int ⊕ Str), (∀ z, .inr z ∈ ls → PyData.strOk z = true) → PyData.canLayAll0 (ls.map sd) = true := by
    intro ls
    induction ls with
    | nil => intro _; rfl
    | cons n ns ih =>
      intro hs
      have ih2 := ih fun z hz => hs z (List.mem_cons_of_mem _ hz)
      cases n with
      | inl i =>
        simp [PyData.canLayAll0, PyData.canLay0, sd] at *
        exact ih2
      | inr z =>
        have := hs z List.mem_cons_self
        simp [PyData.canLayAll0, PyData.canLay0, sd] at *
        exact ⟨this, ih2⟩
  have := d ls
  simp [PyData.depth, PyData.canLay0]
  exact ⟨l ls hs, by omega⟩
theorem i_neSame {ls : List (Int ⊕ Str)} (hs : ∀ z, .inr z ∈ ls → PyData.strOk z = true) (h1 : H p = some (.lst (ls.map sv))) (h2 : H q = some (.lst (ls.map sv))) (h : Q (.bl false) H) : rNeD K (.ref p) (.ref q) H Q := by
  refine ⟨_, _, .lst (SqL.of h1) (dp_sv ls), .lst (SqL.of h2) (dp_sv ls), shaped_sd ls hs, shaped_sd ls hs, ?_⟩
  have e : PyData.eqv (.list (ls.map sd)) (.list (ls.map sd)) = true := eqv_sd ls
  rw [e]
  exact h
theorem i_eqSame {ls : List (Int ⊕ Str)} (hs : ∀ z, .inr z ∈ ls → PyData.strOk z = true) (h1 : H p = some (.lst (ls.map sv))) (h2 : H q = some (.lst (ls.map sv))) (h : Q (.bl true) H) : rEqD K (.ref p) (.ref q) H Q := by
  refine ⟨_, _, .lst (SqL.of h1) (dp_sv ls), .lst (SqL.of h2) (dp_sv ls), shaped_sd ls hs, shaped_sd ls hs, ?_⟩
  have e : PyData.eqv (.list (ls.map sd)) (.list (ls.map sd)) = true := eqv_sd ls
  rw [e]
  exact h
end
end Z
namespace Z
open PySem PySem.Spec PyProof.Rows L2
/-- what stands at the end of both branches -/
theorem i_cap {t u : TS} {c : Bool} {D : Ends} {σ : L2.St} {H : Hp} (P : L2.St → Hp → Prop) (hP : ∀ σ H, P σ H → D.nx σ H) (k : (∀ σ H, P σ H → D.nx σ H) → if c = true then t D σ H else u D σ H) : if c = true then t D σ H else u D σ H := k hP
end Z

set_option Elab.async false
set_option linter.all false
set_option maxRecDepth 100000
set_option maxHeartbeats 4000000
/-! texts of numbers, texts of ratios: the mathematics -/
namespace ZS
open PySem TL PySem.NumText
def dig (c : Nat) : Bool := decide (48 ≤ c ∧ c ≤ 57)
/-- the digits of a number from 1 on, at most thirty -/
def posL (l : List Nat) : Bool := decide (1 ≤ l.length ∧ l.length ≤ 30) && (!(l.head? == some 48) && l.all dig)
def sgnL (l : List Nat) : Bool := if l.head? = some 45 then posL l.tail else (decide (l = [48]) || posL l)
def iv (z : Str) : Int := (intText? z).getD 0
theorem posL_iff {l : List Nat} : posL l = true ↔ 1 ≤ l.length ∧ l.length ≤ 30 ∧ l.head? ≠ some 48 ∧ AllDigits l := by
  unfold posL AllDigits
  simp [dig, and_assoc]
theorem val_lt : ∀ (l : List Nat) (a : Nat), AllDigits l → l.foldl (fun acc c => acc * 10 + (c - 48)) a < (a + 1) * 10 ^ l.length
  | [], a, _ => by simp
  | c :: l, a, h => by
    rw [List.foldl_cons]
    have h1 := val_lt l (a * 10 + (c - 48)) h.tail
    have hc := h.head
    refine Nat.lt_of_lt_of_le h1 ?_
    rw [List.length_cons, Nat.pow_succ, Nat.mul_comm (10 ^ l.length) 10, ← Nat.mul_assoc]
    exact Nat.mul_le_mul_right _ (by omega)
theorem val_ge : ∀ (l : List Nat) (a : Nat), a ≤ l.foldl (fun acc c => acc * 10 + (c - 48)) a
  | [], a => Nat.le_refl _
  | c :: l, a => by
    rw [List.foldl_cons]
    exact Nat.le_trans (by omega) (val_ge l (a * 10 + (c - 48)))
theorem digits_lt {l : List Nat} (h : AllDigits l) (hl : l.length ≤ 30) : digitsVal l < 10 ^ 30 := by
  have := val_lt l 0 h
  unfold digitsVal
  rw [Nat.zero_add, Nat.one_mul] at this
  exact Nat.lt_of_lt_of_le this (Nat.pow_le_pow_right (by decide) hl)
theorem digits_pos {l : List Nat} (h : AllDigits l) (h1 : 1 ≤ l.length) (h0 : l.head? ≠ some 48) : 1 ≤ digitsVal l := by
  cases l with
  | nil => simp at h1
  | cons c l =>
    unfold digitsVal
    rw [List.foldl_cons]
    refine Nat.le_trans ?_ (val_ge l _)
    have := h.head
    simp at h0
    omega
theorem len_ne {l : List Nat} (h : 1 ≤ l.length) : l ≠ [] := by
  rintro rfl
  simp at h
theorem pos_int {z : Str} (h : posL (tl z) = true) : ∃ n : Nat, intText? z = some (n : Int) ∧ 1 ≤ n ∧ n < 10 ^ 30 ∧ z.length ≤ 30 := by
  obtain ⟨h1, h2, h3, h4⟩ := posL_iff.mp h
  have hl : z.length ≤ 30 := by rw [len_tl]; exact h2
  exact ⟨digitsVal (tl z), intText_digits h4 (len_ne h1) (by omega), digits_pos h4 h1 h3, digits_lt h4 h2, hl⟩
theorem sgn_cases {l : List Nat} (h : sgnL l = true) : (∃ r, l = 45 :: r ∧ posL r = true) ∨ l = [48] ∨ (posL l = true ∧ l.head? ≠ some 45) := by
  unfold sgnL at h
  by_cases e : l.head? = some 45
  · rw [if_pos e] at h
    cases l with
    | nil => simp at e
    | cons c r =>
      simp at e
      subst e
      exact .inl ⟨r, rfl, h⟩
  · rw [if_neg e] at h
    rcases Bool.or_eq_true_iff.mp h with h | h
    · exact .inr (.inl (of_decide_eq_true h))
    · exact .inr (.inr ⟨h, e⟩)
theorem sgn_int {z : Str} (h : sgnL (tl z) = true) : ∃ n : Int, intText? z = some n ∧ n.natAbs < 10 ^ 30 ∧ z.length ≤ 31 ∧ (1 ≤ n ↔ posL (tl z) = true) := by
  have hl := len_tl z
  rcases sgn_cases h with ⟨r, e, hp⟩ | e | ⟨hp, hne⟩
  · obtain ⟨h1, h2, h3, h4⟩ := posL_iff.mp hp
    have e2 : z.length = r.length + 1 := by rw [hl, e]; rfl
    refine ⟨_, intText_neg e h4 (len_ne h1) (by omega), ?_, by omega, ?_⟩
    · rw [Int.natAbs_neg]
      exact digits_lt h4 h2
    · constructor
      · intro hn
        have := digits_pos h4 h1 h3
        omega
      · intro hp2
        have := (posL_iff.mp hp2).2.2.2 45 (by rw [e]; exact List.mem_cons_self)
        omega
  · have ez : z.length = 1 := by rw [hl, e]; rfl
    have ed : AllDigits (tl z) := by
      rw [e]
      intro c hc
      obtain rfl := List.mem_singleton.mp hc
      decide
    refine ⟨_, intText_digits ed (by rw [show z.cps.toList = [48] from e]; simp) (by omega), ?_, by omega, ?_⟩
    · rw [show z.cps.toList = [48] from e]
      decide
    · rw [show z.cps.toList = [48] from e]
      constructor
      · intro hn
        exact absurd hn (by decide)
      · intro hp
        have := (posL_iff.mp (e ▸ hp)).2.2.1
        exact absurd rfl this
  · obtain ⟨n, hn, h1, h2, h3⟩ := pos_int hp
    exact ⟨n, hn, by omega, by omega, fun _ => hp, fun _ => by omega⟩
theorem iv_of {z : Str} {n : Int} (h : intText? z = some n) : iv z = n := by
  unfold iv
  rw [h]
  rfl
/-! ### the text of a number -/
def T (n : Int) : Str := Str.ofString (toString n)
theorem tl_pos (n : Nat) : tl (T (n : Int)) = numL n := tl_num n
theorem tl_neg {n : Nat} (h : 0 < n) : tl (T (-(n : Int))) = 45 :: numL n := by
  obtain ⟨m, rfl⟩ : ∃ m, n = m + 1 := ⟨n - 1, by omega⟩
  unfold T
  rw [tl_ofString]
  show ("-" ++ Nat.repr (m + 1)).toList.map Char.toNat = _
  rw [String.toList_append, List.map_append, Nat.toList_repr]
  rfl
theorem num_head : ∀ n : Nat, 1 ≤ n → (numL n).head? ≠ some 48 := by
  intro n
  induction n using Nat.strongRecOn with
  | ind n ih =>
    intro h
    by_cases h10 : n < 10
    · rw [numL_lt h10]
      simp
      omega
    · rw [numL_step (by omega)]
      have hne := numL_ne (n / 10)
      have := ih (n / 10) (by omega) (by omega)
      cases e : numL (n / 10) with
      | nil => exact absurd e hne
      | cons c r =>
        rw [e] at this
        simpa using this
theorem num_pos {n : Nat} (h : 1 ≤ n) (hn : n < 10 ^ 30) : posL (numL n) = true := by
  refine posL_iff.mpr ⟨?_, numL_len (by decide) hn, num_head n h, numL_digits n⟩
  have := numL_ne n
  cases e : numL n with
  | nil => exact absurd e this
  | cons c r => simp
theorem pos_head {l : List Nat} (h : posL l = true) : l.head? ≠ some 45 := by
  intro e
  cases l with
  | nil => simp at e
  | cons c r =>
    simp at e
    subst e
    have := (posL_iff.mp h).2.2.2.head
    omega
theorem T_sgn {n : Int} (h : n.natAbs < 10 ^ 30) : sgnL (tl (T n)) = true := by
  rcases Int.lt_trichotomy n 0 with hn | rfl | hn
  · obtain ⟨m, rfl⟩ : ∃ m : Nat, n = -(m : Int) := ⟨n.natAbs, by omega⟩
    rw [tl_neg (by omega)]
    show (if (45 :: numL m).head? = some 45 then posL (45 :: numL m).tail else _) = true
    rw [if_pos (show (45 :: numL m).head? = some 45 from rfl)]
    exact num_pos (by omega) (by omega)
  · decide +kernel
  · obtain ⟨m, rfl⟩ : ∃ m : Nat, n = (m : Int) := ⟨n.natAbs, by omega⟩
    rw [tl_pos]
    have hp := num_pos (n := m) (by omega) (by omega)
    unfold sgnL
    rw [if_neg (pos_head hp), hp]
    simp
theorem T_pos {n : Int} (h1 : 1 ≤ n) (h : n < 10 ^ 30) : posL (tl (T n)) = true := by
  obtain ⟨m, rfl⟩ : ∃ m : Nat, n = (m : Int) := ⟨n.natAbs, by omega⟩
  rw [tl_pos]
  exact num_pos (by omega) (by omega)
theorem T_int {n : Int} (h : n.natAbs < 10 ^ 30) : intText? (T n) = some n := by
  rcases Int.lt_trichotomy n 0 with hn | rfl | hn
  · obtain ⟨m, rfl⟩ : ∃ m : Nat, n = -(m : Int) := ⟨n.natAbs, by omega⟩
    have e := tl_neg (n := m) (by omega)
    have hl := numL_len (n := m) (k := 30) (by decide) (by omega)
    have h3 := intText_neg (x := T (-(m : Int))) e (numL_digits m) (numL_ne m) (by rw [len_tl, e, List.length_cons]; omega)
    rw [numL_val] at h3
    exact h3
  · decide +kernel
  · obtain ⟨m, rfl⟩ : ∃ m : Nat, n = (m : Int) := ⟨n.natAbs, by omega⟩
    have hl := numL_len (n := m) (k := 30) (by decide) (by omega)
    have h3 := intText_digits (x := T (m : Int)) (by rw [show (T (m : Int)).cps.toList = numL m from tl_pos m]; exact numL_digits m) (by rw [show (T (m : Int)).cps.toList = numL m from tl_pos m]; exact numL_ne m) (by rw [len_tl, tl_pos]; omega)
    rw [show (T (m : Int)).cps.toList = numL m from tl_pos m, numL_val] at h3
    exact h3
theorem T_free {n : Int} : 47 ∉ tl (T n) := by
  rcases Int.lt_or_le n 0 with hn | hn
  · obtain ⟨m, rfl⟩ : ∃ m : Nat, n = -(m : Int) := ⟨n.natAbs, by omega⟩
    rw [tl_neg (by omega)]
    intro h
    rcases List.mem_cons.mp h with h | h
    · exact absurd h (by decide)
    · exact numL_free (by decide) h
  · obtain ⟨m, rfl⟩ : ∃ m : Nat, n = (m : Int) := ⟨n.natAbs, by omega⟩
    rw [tl_pos]
    exact numL_free (by decide)
theorem T_len {n : Int} (h : n.natAbs < 10 ^ 30) : (T n).length ≤ 31 := by
  obtain ⟨_, _, _, h, _⟩ := sgn_int (T_sgn h)
  exact h
theorem T_neg {n : Int} (h : n < 0) : Str.ofString "-" ++ T (-n) = T n := by
  obtain ⟨m, rfl⟩ : ∃ m : Nat, n = -(m : Int) := ⟨n.natAbs, by omega⟩
  refine ext_tl ?_
  rw [tl_append, tl_neg (by omega), Int.neg_neg, tl_pos]
  rfl
/-! ### the stroke -/
abbrev slash : Str := Str.ofString "/"
theorem tl_slash : tl slash = [47] := by decide +kernel
theorem at_slash (z : Str) : (47 ∉ tl z ∧ Txt.partition z slash = (z, Str.empty, Str.empty) ∧ Txt.split z slash = [z]) ∨
    ∃ t b, z = t ++ slash ++ b ∧ 47 ∉ tl t ∧ Txt.partition z slash = (t, slash, b) ∧ Txt.split z slash = t :: Txt.split b slash := by
  have hk : ∀ x : Str, ¬ Builtin.Str.strKind x < Builtin.Str.strKind slash := fun x => kind_ok (by decide +kernel)
  have hne : tl slash ≠ [] := by rw [tl_slash]; simp
  by_cases h : 47 ∈ tl z
  · obtain ⟨as, bs, e, hn⟩ := List.eq_append_cons_of_mem h
    have ez : z = ⟨as.toArray⟩ ++ slash ++ ⟨bs.toArray⟩ := ext_tl (by rw [tl_append, tl_append, tl_slash]; show tl z = as ++ [47] ++ bs; rw [e]; simp)
    refine .inr ⟨⟨as.toArray⟩, ⟨bs.toArray⟩, ez, hn, ?_, ?_⟩
    · rw [ez]
      exact partition_app tl_slash hn
    · refine map_tl_inj ?_
      rw [List.map_cons, split_spl _ _ hne (hk _), split_spl _ _ hne (hk _), tl_slash, e, tl_mk]
      exact spl_part1 (S := []) (acc := []) hn
  · refine .inl ⟨h, partition_none tl_slash h, ?_⟩
    refine map_tl_inj ?_
    rw [split_spl _ _ hne (hk _), tl_slash, spl_last1 h]
    rfl
theorem split_ne (z : Str) : ∃ w ws, Txt.split z slash = w :: ws := by
  rcases at_slash z with ⟨_, _, e⟩ | ⟨t, b, _, _, _, e⟩
  · exact ⟨_, _, e⟩
  · exact ⟨_, _, e⟩
theorem pos_free {z : Str} (h : posL (tl z) = true) : 47 ∉ tl z := by
  intro hm
  have := (posL_iff.mp h).2.2.2 47 hm
  omega
/-- what read does: the place of the fault, or the two integers -/
def rdF (z : Str) : Int ⊕ (Int × Int) :=
  let p := Txt.partition z slash
  if sgnL (tl p.1) = true then (if p.2.1 = Str.empty then .inr (iv p.1, 1) else if posL (tl p.2.2) = true then .inr (iv p.1, iv p.2.2) else .inl 1) else .inl 0
theorem rdF_den {z : Str} {n d : Int} (h : rdF z = .inr (n, d)) : d ≠ 0 ∧ 1 ≤ d ∧ d < 10 ^ 30 ∧ n.natAbs < 10 ^ 30 := by
  unfold rdF at h
  by_cases h1 : sgnL (tl (Txt.partition z slash).1) = true
  · obtain ⟨m, hm, hb, _⟩ := sgn_int h1
    rw [if_pos h1] at h
    by_cases h2 : (Txt.partition z slash).2.1 = Str.empty
    · rw [if_pos h2] at h
      cases h
      rw [iv_of hm]
      exact ⟨by decide, by decide, by decide, hb⟩
    · rw [if_neg h2] at h
      by_cases h3 : posL (tl (Txt.partition z slash).2.2) = true
      · rw [if_pos h3] at h
        obtain ⟨k, hk, k1, k2, _⟩ := pos_int h3
        cases h
        rw [iv_of hm, iv_of hk]
        exact ⟨by omega, by omega, by omega, hb⟩
      · rw [if_neg h3] at h
        cases h
  · rw [if_neg h1] at h
    cases h
theorem slash_ne : slash ≠ Str.empty := by decide +kernel
theorem rd_T {n : Int} (h : n.natAbs < 10 ^ 30) : rdF (T n) = .inr (n, 1) := by
  unfold rdF
  rw [partition_none tl_slash T_free]
  show (if sgnL (tl (T n)) = true then (if Str.empty = Str.empty then Sum.inr (iv (T n), (1 : Int)) else _) else _) = _
  rw [if_pos (T_sgn h), if_pos (show Str.empty = Str.empty from rfl), iv_of (T_int h)]
theorem rd_TT {n d : Int} (h : n.natAbs < 10 ^ 30) (h1 : 1 ≤ d) (h2 : d < 10 ^ 30) : rdF (T n ++ slash ++ T d) = .inr (n, d) := by
  unfold rdF
  rw [partition_app tl_slash T_free]
  simp only []
  rw [if_pos (T_sgn h), if_neg slash_ne, if_pos (T_pos h1 h2), iv_of (T_int h), iv_of (T_int (by omega))]
theorem rd_nil : rdF Str.empty = .inl 0 := by decide +kernel
end ZS
namespace ZS
open PySem TL PySem.NumText
theorem starts_minus (z : Str) : Txt.startswith z (Str.ofString "-") = decide ((tl z).head? = some 45) := by
  have em : tl (Str.ofString "-") = [45] := by decide +kernel
  have el : (Str.ofString "-").length = 1 := by decide +kernel
  unfold Txt.startswith
  rw [StrLaws.subAt_eq, el, show (Str.ofString "-").cps.toList = [45] from em, len_tl, show z.cps.toList = tl z from rfl, List.drop_zero]
  cases tl z with
  | nil => rfl
  | cons c r =>
    show (decide (0 + 1 ≤ r.length + 1) && (([c] : List Nat) == [45])) = _
    rw [decide_eq_true (by omega), Bool.true_and]
    by_cases h : c = 45
    · subst h
      rfl
    · rw [decide_eq_false (by simpa using h)]
      simpa using h
end ZS
namespace ZS
open PySem TL
theorem join1 (y x : Str) : Txt.join y [x] = x := by
  refine ext_tl ?_
  rw [join_eq, tl_join]
  rfl
theorem join2 (y a b : Str) : Txt.join y [a, b] = a ++ y ++ b := by
  refine ext_tl ?_
  rw [join_eq, tl_join, tl_append, tl_append, List.append_assoc]
  rfl
end ZS
namespace ZS
open PySem TL PySem.NumText
/-- the law's own look: the digits d of the word l -/
def intB (d l : List Nat) : Bool := decide (1 ≤ d.length ∧ d.length ≤ 30) && (d.all dig && (!(d.head? == some 48) || decide (l = [48])))
theorem int_minus {l : List Nat} (h : l.head? = some 45) : sgnL l = intB l.tail l := by
  unfold sgnL intB posL
  rw [if_pos h]
  have : decide (l = [48]) = false := by
    refine decide_eq_false ?_
    rintro rfl
    simp at h
  rw [this, Bool.or_false]
  cases decide (1 ≤ l.tail.length ∧ l.tail.length ≤ 30) <;> cases l.tail.all dig <;> cases (l.tail.head? == some 48) <;> rfl
theorem int_plain {l : List Nat} (h : ¬ l.head? = some 45) : sgnL l = intB l l := by
  unfold sgnL intB posL
  rw [if_neg h]
  by_cases e : l = [48]
  · subst e
    rfl
  · rw [decide_eq_false e, Bool.false_or, Bool.or_false]
    cases decide (1 ≤ l.length ∧ l.length ≤ 30) <;> cases l.all dig <;> cases (l.head? == some 48) <;> rfl
theorem take1 {l : List Nat} : l.take 1 = [45] ↔ l.head? = some 45 := by
  cases l with
  | nil => simp
  | cons c r => simp
end ZS
namespace ZS
open PySem TL
theorem rd_plain {z : Str} (h : Txt.partition z slash = (z, Str.empty, Str.empty)) : rdF z = if sgnL (tl z) = true then .inr (iv z, 1) else .inl 0 := by
  unfold rdF
  rw [h]
  show (if sgnL (tl z) = true then (if Str.empty = Str.empty then Sum.inr (iv z, (1 : Int)) else _) else _) = _
  rw [if_pos (show Str.empty = Str.empty from rfl)]
theorem rd_two {z t b : Str} (h : Txt.partition z slash = (t, slash, b)) : rdF z = if sgnL (tl t) = true then (if posL (tl b) = true then .inr (iv t, iv b) else .inl 1) else .inl 0 := by
  unfold rdF
  rw [h]
  show (if sgnL (tl t) = true then (if slash = Str.empty then _ else if posL (tl b) = true then Sum.inr (iv t, iv b) else Sum.inl (1 : Int)) else _) = _
  rw [if_neg slash_ne]
end ZS
namespace ZS
open PySem TL
theorem joinL_len : ∀ l : List (List Nat), l ≠ [] → (joinL [47] l).length + 1 = (l.map List.length).sum + l.length
  | [], h => absurd rfl h
  | [p], _ => by simp [joinL]
  | p :: q :: r, _ => by
    have ih := joinL_len (q :: r) (by simp)
    show (p ++ ([47] ++ joinL [47] (q :: r))).length + 1 = _
    rw [List.length_append, List.length_append]
    simp only [List.map_cons, List.sum_cons, List.length_cons] at ih ⊢
    simp only [List.length_nil]
    omega
theorem join_len {ys : List Str} (h : ys ≠ []) : (Txt.join slash ys).length + 1 = (ys.map (·.length)).sum + ys.length := by
  have h1 := joinL_len (ys.map tl) (by simpa using h)
  have e : (ys.map tl).map List.length = ys.map (·.length) := by
    rw [List.map_map]
    refine List.map_congr_left fun z _ => ?_
    exact (len_tl z).symm
  rw [e, List.length_map] at h1
  rw [← h1, len_tl, join_eq, tl_join, tl_slash]
theorem sum_set : ∀ (l : List Nat) (i x : Nat), (l.set i x).sum ≤ l.sum + x
  | [], _, _ => by simp
  | a :: l, 0, x => by
    simp only [List.set_cons_zero, List.sum_cons]
    omega
  | a :: l, i + 1, x => by
    have := sum_set l i x
    simp only [List.set_cons_succ, List.sum_cons]
    omega
theorem split_sum (z : Str) : ((Txt.split z slash).map (·.length)).sum + (Txt.split z slash).length = z.length + 1 := by
  obtain ⟨w, ws, e⟩ := split_ne z
  rw [← join_len (by rw [e]; simp), join_eq, StrLaws.join_split]
theorem set_join (z m : Str) (j : Nat) : (((Txt.split z slash).set j m).map (·.length)).sum + ((Txt.split z slash).set j m).length ≤ z.length + 1 + m.length ∧ (Txt.join slash ((Txt.split z slash).set j m)).length ≤ z.length + m.length := by
  have h1 := split_sum z
  have h2 := sum_set ((Txt.split z slash).map (·.length)) j m.length
  have e : ((Txt.split z slash).set j m).map (·.length) = ((Txt.split z slash).map (·.length)).set j m.length := List.map_set
  obtain ⟨w, ws, ew⟩ := split_ne z
  have h3 := join_len (ys := (Txt.split z slash).set j m) (by
    intro h
    have := congrArg List.length h
    rw [List.length_set, ew] at this
    simp at this)
  rw [List.length_set, e] at *
  omega
end ZS

set_option linter.all false
namespace OM
variable {α : Type} [DecidableEq α]
inductive Rch (E : List (α × α)) : α → α → Prop
  | refl (a : α) : Rch E a a
  | step {a b c : α} : (a, b) ∈ E → Rch E b c → Rch E a c
theorem Rch.trans {E : List (α × α)} {a b c : α} (h : Rch E a b) (k : Rch E b c) : Rch E a c := by
  induction h with
  | refl => exact k
  | step e _ ih => exact .step e (ih k)
theorem Rch.one {E : List (α × α)} {a b : α} (h : (a, b) ∈ E) : Rch E a b := .step h (.refl _)
theorem Rch.mono {E F : List (α × α)} (hs : ∀ p ∈ E, Rch F p.1 p.2) {a b : α} (h : Rch E a b) : Rch F a b := by
  induction h with
  | refl => exact .refl _
  | step e _ ih => exact (hs _ e).trans ih
theorem Rch.mem {E : List (α × α)} {N : List α} (hE : ∀ p ∈ E, p.1 ∈ N ∧ p.2 ∈ N) {a b : α} (h : Rch E a b) : a = b ∨ (a ∈ N ∧ b ∈ N) := by
  induction h with
  | refl => exact .inl rfl
  | step e _ ih =>
    rcases ih with rfl | h
    · exact .inr (hE _ e)
    · exact .inr ⟨(hE _ e).1, h.2⟩
open Classical in
noncomputable def cl (E : List (α × α)) (a b : α) : Bool := decide (Rch E a b)
theorem cl_iff {E : List (α × α)} {a b : α} : cl E a b = true ↔ Rch E a b := by simp [cl]
theorem cl_false {E : List (α × α)} {a b : α} : cl E a b = false ↔ ¬ Rch E a b := by simp [cl]
theorem cl_refl (E : List (α × α)) (a : α) : cl E a a = true := cl_iff.mpr (.refl a)
theorem cl_trans {E : List (α × α)} {a b c : α} (h : cl E a b = true) (k : cl E b c = true) : cl E a c = true := cl_iff.mpr ((cl_iff.mp h).trans (cl_iff.mp k))
theorem cl_congr {E F : List (α × α)} (h : ∀ p ∈ E, Rch F p.1 p.2) (k : ∀ p ∈ F, Rch E p.1 p.2) : cl E = cl F := by
  funext a b
  rw [Bool.eq_iff_iff, cl_iff, cl_iff]
  exact ⟨Rch.mono h, Rch.mono k⟩
/-! ### Warshall -/
def wm (E : List (α × α)) : List α → α → α → Bool
  | [], a, b => decide (a = b) || decide ((a, b) ∈ E)
  | m :: ms, a, b => wm E ms a b || (wm E ms a m && wm E ms m b)
theorem wm_mono {E : List (α × α)} {m : α} {ms : List α} {a b : α} (h : wm E ms a b = true) : wm E (m :: ms) a b = true := by simp [wm, h]
theorem wm_base {E : List (α × α)} {a b : α} (h : wm E [] a b = true) : ∀ ms, wm E ms a b = true
  | [] => h
  | _ :: ms => wm_mono (wm_base h ms)
theorem wm_refl (E : List (α × α)) (ms : List α) (a : α) : wm E ms a a = true := wm_base (by simp [wm]) ms
theorem wm_edge {E : List (α × α)} {a b : α} (h : (a, b) ∈ E) (ms : List α) : wm E ms a b = true := wm_base (by simp [wm, h]) ms
theorem wm_trans {E : List (α × α)} : ∀ {ms : List α} {m a b : α}, m ∈ ms → wm E ms a m = true → wm E ms m b = true → wm E ms a b = true
  | m' :: ms, m, a, b, hm, h1, h2 => by
    simp only [wm, Bool.or_eq_true, Bool.and_eq_true] at h1 h2 ⊢
    by_cases e : m = m'
    · subst e
      have h1' : wm E ms a m = true := by rcases h1 with h | h; exact h; exact h.1
      have h2' : wm E ms m b = true := by rcases h2 with h | h; exact h; exact h.2
      exact .inr ⟨h1', h2'⟩
    · have hm : m ∈ ms := by
        rcases List.mem_cons.mp hm with h | h
        · exact absurd h e
        · exact h
      rcases h1 with h1 | ⟨h1, h1'⟩ <;> rcases h2 with h2 | ⟨h2, h2'⟩
      · exact .inl (wm_trans hm h1 h2)
      · exact .inr ⟨wm_trans hm h1 h2, h2'⟩
      · exact .inr ⟨h1, wm_trans hm h1' h2⟩
      · exact .inr ⟨h1, h2'⟩
theorem wm_rch {E : List (α × α)} : ∀ {ms : List α} {a b : α}, wm E ms a b = true → Rch E a b
  | [], a, b, h => by
    simp only [wm, Bool.or_eq_true, decide_eq_true_eq] at h
    rcases h with rfl | h
    · exact .refl _
    · exact .one h
  | m :: ms, a, b, h => by
    simp only [wm, Bool.or_eq_true, Bool.and_eq_true] at h
    rcases h with h | ⟨h, k⟩
    · exact wm_rch h
    · exact (wm_rch h).trans (wm_rch k)
theorem rch_wm {E : List (α × α)} {ms : List α} (hE : ∀ p ∈ E, p.2 ∈ ms) {a b : α} (h : Rch E a b) : wm E ms a b = true := by
  induction h with
  | refl => exact wm_refl _ _ _
  | step e _ ih => exact wm_trans (hE _ e) (wm_edge e ms) ih
theorem wm_cl {E : List (α × α)} {ms : List α} (hE : ∀ p ∈ E, p.2 ∈ ms) : wm E ms = cl E := by
  funext a b
  rw [Bool.eq_iff_iff, cl_iff]
  exact ⟨wm_rch, rch_wm hE⟩
/-! ### paths of a length -/
def Pth (E : List (α × α)) : Nat → α → α → Prop
  | 0, a, b => a = b
  | k + 1, a, b => a = b ∨ ∃ c, (a, c) ∈ E ∧ Pth E k c b
theorem Pth.refl (E : List (α × α)) : ∀ (k : Nat) (a : α), Pth E k a a
  | 0, _ => rfl
  | _ + 1, _ => .inl rfl
theorem Pth.succ {E : List (α × α)} : ∀ {k : Nat} {a b : α}, Pth E k a b → Pth E (k + 1) a b
  | 0, _, _, h => .inl h
  | k + 1, _, _, h => by
    rcases h with rfl | ⟨c, e, h⟩
    · exact .inl rfl
    · exact .inr ⟨c, e, h.succ⟩
theorem Pth.le {E : List (α × α)} {k j : Nat} (h : k ≤ j) {a b : α} (p : Pth E k a b) : Pth E j a b := by
  induction h with
  | refl => exact p
  | step _ ih => exact ih.succ
theorem rch_pth {E : List (α × α)} {a b : α} (h : Rch E a b) : ∃ k, Pth E k a b := by
  induction h with
  | refl => exact ⟨0, rfl⟩
  | step e _ ih => exact ⟨ih.choose + 1, .inr ⟨_, e, ih.choose_spec⟩⟩
theorem Pth.mem {E : List (α × α)} {N : List α} (hE : ∀ p ∈ E, p.1 ∈ N ∧ p.2 ∈ N) : ∀ {k : Nat} {a b : α}, Pth E k a b → b ∈ N → a ∈ N
  | 0, _, _, h, hb => h ▸ hb
  | k + 1, _, _, h, hb => by
    rcases h with rfl | ⟨c, e, _⟩
    · exact hb
    · exact (hE _ e).1
open Classical in
theorem stall {E : List (α × α)} {b : α} {k : Nat} (h : ∀ a, Pth E (k + 1) a b → Pth E k a b) : ∀ j a, Pth E j a b → Pth E k a b
  | 0, a, p => by
    cases p
    exact Pth.refl _ _ _
  | j + 1, a, p => by
    rcases p with rfl | ⟨c, e, p⟩
    · exact Pth.refl _ _ _
    · exact h a (.inr ⟨c, e, stall h j c p⟩)
theorem filter_sub_eq {p q : α → Bool} : ∀ {l : List α}, (∀ a ∈ l, p a = true → q a = true) → (l.filter q).length ≤ (l.filter p).length → ∀ a ∈ l, q a = true → p a = true
  | [], _, _, a, ha, _ => by cases ha
  | x :: l, hs, hl, a, ha, hq => by
    have hs' : ∀ a ∈ l, p a = true → q a = true := fun a h => hs a (List.mem_cons_of_mem _ h)
    have le : (l.filter p).length ≤ (l.filter q).length := by
      clear hl hq ha
      induction l with
      | nil => exact Nat.le_refl _
      | cons y l ih =>
        have ih := ih (fun a h => hs a (by
          rcases List.mem_cons.mp h with h | h
          · exact h ▸ List.mem_cons_self
          · exact List.mem_cons_of_mem _ (List.mem_cons_of_mem _ h))) fun a h => hs' a (List.mem_cons_of_mem _ h)
        have := hs' y List.mem_cons_self
        simp only [List.filter_cons]
        by_cases h1 : p y = true
        · rw [if_pos h1, if_pos (this h1)]
          simp; omega
        · rw [if_neg h1]
          split
          · simp; omega
          · exact ih
    have hx := hs x List.mem_cons_self
    simp only [List.filter_cons] at hl
    by_cases h1 : p x = true
    · rw [if_pos h1, if_pos (hx h1)] at hl
      rcases List.mem_cons.mp ha with h | h
      · exact h ▸ h1
      · exact filter_sub_eq hs' (by simpa using hl) a h hq
    · rw [if_neg h1] at hl
      by_cases h2 : q x = true
      · rw [if_pos h2] at hl
        simp at hl
        omega
      · rw [if_neg h2] at hl
        rcases List.mem_cons.mp ha with h | h
        · exact absurd (h ▸ hq) h2
        · exact filter_sub_eq hs' hl a h hq
open Classical in
theorem grows {E : List (α × α)} {N : List α} (hE : ∀ p ∈ E, p.1 ∈ N ∧ p.2 ∈ N) {b : α} (hb : b ∈ N) : ∀ k, (∀ a, Pth E (k + 1) a b → Pth E k a b) ∨ k + 1 ≤ (N.filter fun a => decide (Pth E k a b)).length
  | 0 => by
    right
    have : b ∈ N.filter fun a => decide (Pth E 0 a b) := List.mem_filter.mpr ⟨hb, by simp [Pth]⟩
    have := List.length_pos_of_mem this
    omega
  | k + 1 => by
    rcases grows hE hb k with h | h
    · exact .inl fun a p => (stall h _ a p).succ
    · by_cases q : k + 2 ≤ (N.filter fun a => decide (Pth E (k + 1) a b)).length
      · exact .inr q
      · left
        have st : ∀ a, Pth E (k + 1) a b → Pth E k a b := fun a p => by
          have := filter_sub_eq (l := N) (p := fun a => decide (Pth E k a b)) (q := fun a => decide (Pth E (k + 1) a b)) (fun a _ h => by simpa using (of_decide_eq_true h).succ) (by omega) a (p.mem hE hb) (by simpa using p)
          simpa using this
        exact fun a p => (stall st _ a p).succ
open Classical in
theorem rch_short {E : List (α × α)} {N : List α} (hE : ∀ p ∈ E, p.1 ∈ N ∧ p.2 ∈ N) {a b : α} (h : Rch E a b) : Pth E N.length a b := by
  rcases h.mem hE with rfl | ⟨_, hb⟩
  · exact Pth.refl _ _ _
  · obtain ⟨j, p⟩ := rch_pth h
    rcases grows hE hb N.length with q | q
    · exact stall q j a p
    · have := List.length_filter_le (fun a => decide (Pth E N.length a b)) N
      omega
/-! ### the law's own closure -/
def put (f : α → List α) (a : α) (l : List α) : α → List α := fun x => if x = a then l else f x
def turn1 (f : α → List α) (p : α × α) : α → List α := put f p.1 (f p.1 ++ (f p.2).filter fun x => !decide (x ∈ f p.1))
def turn (E : List (α × α)) (f : α → List α) : α → List α := E.foldl turn1 f
def turns (E : List (α × α)) : Nat → (α → List α) → α → List α
  | 0, f => f
  | n + 1, f => turns E n (turn E f)
theorem turn1_mono {f : α → List α} {p : α × α} {a b : α} (h : b ∈ f a) : b ∈ turn1 f p a := by
  unfold turn1 put
  split
  · rename_i e
    subst e
    exact List.mem_append_left _ h
  · exact h
theorem turn_mono {E : List (α × α)} : ∀ {f : α → List α} {a b : α}, b ∈ f a → b ∈ turn E f a := by
  induction E with
  | nil => exact fun h => h
  | cons p E ih => exact fun h => ih (turn1_mono h)
theorem turn_edge {E : List (α × α)} : ∀ {f : α → List α} {p : α × α} {b : α}, p ∈ E → b ∈ f p.2 → b ∈ turn E f p.1 := by
  induction E with
  | nil => intro f p b h; cases h
  | cons q E ih =>
    intro f p b h hb
    rcases List.mem_cons.mp h with rfl | h
    · show b ∈ turn E (turn1 f p) p.1
      refine turn_mono ?_
      unfold turn1 put
      rw [if_pos rfl]
      by_cases e : b ∈ f p.1
      · exact List.mem_append_left _ e
      · exact List.mem_append_right _ (List.mem_filter.mpr ⟨hb, by simp [e]⟩)
    · exact ih h (turn1_mono hb)
theorem turns_succ (E : List (α × α)) : ∀ (n : Nat) (f : α → List α), turns E (n + 1) f = turn E (turns E n f)
  | 0, _ => rfl
  | n + 1, f => turns_succ E n (turn E f)
theorem turns_pth {E : List (α × α)} : ∀ {k : Nat} {a b : α}, Pth E k a b → b ∈ turns E k (fun x => [x]) a
  | 0, a, b, h => by
    cases h
    exact List.mem_singleton.mpr rfl
  | k + 1, a, b, h => by
    rw [turns_succ]
    rcases h with rfl | ⟨c, e, h⟩
    · exact turn_mono (turns_pth (Pth.refl E k a))
    · exact turn_edge (p := (a, c)) e (turns_pth h)
theorem turn1_sound {E : List (α × α)} {f : α → List α} {p : α × α} (hp : p ∈ E) (h : ∀ a b, b ∈ f a → Rch E a b) : ∀ a b, b ∈ turn1 f p a → Rch E a b := by
  intro a b hb
  unfold turn1 put at hb
  split at hb
  · rename_i e
    subst e
    rcases List.mem_append.mp hb with hb | hb
    · exact h _ _ hb
    · exact .step hp (h _ _ (List.mem_filter.mp hb).1)
  · exact h _ _ hb
theorem turn_sound {E : List (α × α)} : ∀ {F : List (α × α)} {f : α → List α}, (∀ p ∈ F, p ∈ E) → (∀ a b, b ∈ f a → Rch E a b) → ∀ a b, b ∈ turn F f a → Rch E a b := by
  intro F
  induction F with
  | nil => exact fun _ h => h
  | cons p F ih => exact fun hs h => ih (fun q hq => hs q (List.mem_cons_of_mem _ hq)) (turn1_sound (hs p List.mem_cons_self) h)
theorem turns_sound {E : List (α × α)} : ∀ {k : Nat} {a b : α}, b ∈ turns E k (fun x => [x]) a → Rch E a b
  | 0, a, b, h => by
    rw [List.mem_singleton.mp h]
    exact .refl _
  | k + 1, a, b, h => by
    rw [turns_succ] at h
    exact turn_sound (fun _ h => h) (fun _ _ h => turns_sound h) a b h
theorem turn1_nodup {f : α → List α} {p : α × α} (h : ∀ a, (f a).Nodup) : ∀ a, (turn1 f p a).Nodup := by
  intro a
  unfold turn1 put
  split
  · refine List.nodup_append.mpr ⟨h _, (h _).filter _, ?_⟩
    intro x hx y hy e
    subst e
    have := (List.mem_filter.mp hy).2
    simp [hx] at this
  · exact h a
theorem turn_nodup : ∀ {F : List (α × α)} {f : α → List α}, (∀ a, (f a).Nodup) → ∀ a, (turn F f a).Nodup := by
  intro F
  induction F with
  | nil => exact fun h => h
  | cons p F ih => exact fun h => ih (turn1_nodup h)
theorem turns_nodup {E : List (α × α)} : ∀ {k : Nat} (a : α), (turns E k (fun x => [x]) a).Nodup
  | 0, a => by simp [turns]
  | k + 1, a => by
    rw [turns_succ]
    exact turn_nodup (fun a => turns_nodup a) a
/-- what the law's closure has -/
theorem turns_iff {E : List (α × α)} {N : List α} (hE : ∀ p ∈ E, p.1 ∈ N ∧ p.2 ∈ N) {a b : α} : b ∈ turns E N.length (fun x => [x]) a ↔ cl E a b = true := by
  rw [cl_iff]
  exact ⟨turns_sound, fun h => turns_pth (rch_short hE h)⟩
end OM

set_option linter.all false
namespace OM
variable {α : Type} [DecidableEq α]
/-! ### pairs and covers -/
def ab (N : List α) (R : α → α → Bool) (a : α) : List α := N.filter (R a)
def prs (N : List α) (R : α → α → Bool) : List (α × α) := N.flatMap fun a => ((ab N R a).filter fun b => !decide (a = b)).map fun b => (a, b)
def btw (N : List α) (R : α → α → Bool) (a b : α) : List α := (ab N R a).filter fun c => R c b
def cvs (N : List α) (R : α → α → Bool) : List (α × α) := (prs N R).filter fun p => decide ((btw N R p.1 p.2).length = 2)
theorem mem_ab {N : List α} {R : α → α → Bool} {a b : α} : b ∈ ab N R a ↔ b ∈ N ∧ R a b = true := List.mem_filter
theorem mem_prs {N : List α} {R : α → α → Bool} {a b : α} : (a, b) ∈ prs N R ↔ a ∈ N ∧ b ∈ N ∧ R a b = true ∧ a ≠ b := by
  simp only [prs, List.mem_flatMap, List.mem_map, List.mem_filter, Prod.mk.injEq, mem_ab]
  constructor
  · rintro ⟨x, hx, y, ⟨hy, hn⟩, rfl, rfl⟩
    exact ⟨hx, hy.1, hy.2, by simpa using hn⟩
  · rintro ⟨h1, h2, h3, h4⟩
    exact ⟨a, h1, b, ⟨⟨h2, h3⟩, by simpa using h4⟩, rfl, rfl⟩
theorem mem_btw {N : List α} {R : α → α → Bool} {a b c : α} : c ∈ btw N R a b ↔ c ∈ N ∧ R a c = true ∧ R c b = true := by
  simp only [btw, List.mem_filter, mem_ab, and_assoc]
theorem mem_cvs {N : List α} {R : α → α → Bool} {a b : α} : (a, b) ∈ cvs N R ↔ (a ∈ N ∧ b ∈ N ∧ R a b = true ∧ a ≠ b) ∧ (btw N R a b).length = 2 := by
  simp only [cvs, List.mem_filter, mem_prs, decide_eq_true_eq]
theorem nodup_two {l : List α} (h : l.Nodup) {a b : α} (ha : a ∈ l) (hb : b ∈ l) (ne : a ≠ b) : l.length = 2 + (l.filter fun c => !decide (c = a) && !decide (c = b)).length := by
  have one : ∀ {l : List α} {a : α}, l.Nodup → a ∈ l → l.length = 1 + (l.filter fun c => !decide (c = a)).length := by
    intro l a
    induction l with
    | nil => intro _ h; cases h
    | cons x l ih =>
      intro hn hm
      obtain ⟨h1, h2⟩ := List.nodup_cons.mp hn
      by_cases e : x = a
      · subst e
        have : l.filter (fun c => !decide (c = x)) = l := List.filter_eq_self.mpr fun c hc => by
          have : c ≠ x := fun e => h1 (e ▸ hc)
          simpa using this
        simp [this]
        omega
      · have hm : a ∈ l := by
          rcases List.mem_cons.mp hm with h | h
          · exact absurd h.symm e
          · exact h
        have := ih h2 hm
        simp [e]
        omega
  have h1 := one h ha
  have h2 := one (a := b) (h.filter fun c => !decide (c = a)) (List.mem_filter.mpr ⟨hb, by simpa using Ne.symm ne⟩)
  rw [List.filter_filter] at h2
  have e : (l.filter fun c => (!decide (c = b)) && !decide (c = a)) = l.filter fun c => !decide (c = a) && !decide (c = b) := by
    congr 1
    funext c
    exact Bool.and_comm _ _
  rw [e] at h2
  omega
theorem btw_two {N : List α} {R : α → α → Bool} (hN : N.Nodup) (hr : ∀ a, R a a = true) {a b : α} (ha : a ∈ N) (hb : b ∈ N) (h : R a b = true) (ne : a ≠ b) :
    (btw N R a b).length = 2 ↔ ∀ c ∈ N, R a c = true → R c b = true → c = a ∨ c = b := by
  have hn : (btw N R a b).Nodup := (hN.filter _).filter _
  have := nodup_two hn (mem_btw.mpr ⟨ha, hr a, h⟩) (mem_btw.mpr ⟨hb, h, hr b⟩) ne
  rw [this]
  constructor
  · intro e c hc h1 h2
    have z : ((btw N R a b).filter fun c => !decide (c = a) && !decide (c = b)) = [] := List.eq_nil_of_length_eq_zero (by omega)
    have := List.filter_eq_nil_iff.mp z c (mem_btw.mpr ⟨hc, h1, h2⟩)
    simp at this
    by_cases e : c = a
    · exact .inl e
    · exact .inr (this e)
  · intro k
    have z : ((btw N R a b).filter fun c => !decide (c = a) && !decide (c = b)) = [] := List.filter_eq_nil_iff.mpr fun c hc => by
      obtain ⟨hc, h1, h2⟩ := mem_btw.mp hc
      rcases k c hc h1 h2 with e | e <;> simp [e]
    rw [z]
    rfl
/-- covers as the law finds them: f tells what is above -/
def lcv (N : List α) (f : α → List α) (g : α → List α) : List (α × α) := N.flatMap fun a => ((g a).filter fun b => !decide (b = a) && decide (((f a).filter fun c => !(decide (c = a) || decide (c = b)) && decide (b ∈ f c)) = [])).map fun b => (a, b)
theorem lcv_eq {N : List α} {R : α → α → Bool} {f : α → List α} (hN : N.Nodup) (hr : ∀ a, R a a = true) (hf : ∀ a ∈ N, ∀ b, b ∈ f a ↔ b ∈ N ∧ R a b = true) : lcv N f (ab N R) = cvs N R := by
  unfold lcv cvs prs
  rw [List.filter_flatMap]
  have cong : ∀ {l : List α} {F G : α → List (α × α)}, (∀ a ∈ l, F a = G a) → l.flatMap F = l.flatMap G := by
    intro l F G h
    induction l with
    | nil => rfl
    | cons x l ih => rw [List.flatMap_cons, List.flatMap_cons, h x List.mem_cons_self, ih fun a ha => h a (List.mem_cons_of_mem _ ha)]
  refine cong fun a ha => ?_
  rw [List.filter_map, List.filter_filter]
  congr 1
  refine List.filter_congr fun b hb => ?_
  obtain ⟨hb, hR⟩ := mem_ab.mp hb
  by_cases e : b = a
  · simp [e]
  · have e' : ¬ a = b := fun z => e z.symm
    simp only [Function.comp, e, e', decide_false, Bool.not_false, Bool.true_and, Bool.and_true]
    refine decide_eq_decide.mpr ?_
    rw [btw_two hN hr ha hb hR e', List.filter_eq_nil_iff]
    constructor
    · intro k c hc h1 h2
      have := k c ((hf a ha c).mpr ⟨hc, h1⟩)
      have := this
      simp [(hf c hc b).mpr ⟨hb, h2⟩] at this
      by_cases z : c = a
      · exact .inl z
      · exact .inr (this z)
    · intro k c hc
      obtain ⟨hc, h1⟩ := (hf a ha c).mp hc
      by_cases h2 : b ∈ f c
      · rcases k c hc h1 ((hf c hc b).mp h2).2 with z | z <;> simp [z]
      · simp [h2]
/-- covers tell the order -/
theorem cvs_rch {N : List α} {R : α → α → Bool} (hN : N.Nodup) (hr : ∀ a, R a a = true) (ht : ∀ a b c, R a b = true → R b c = true → R a c = true) (hs : ∀ a b, a ∈ N → b ∈ N → R a b = true → R b a = true → a = b) :
    ∀ (n : Nat) (a b : α), (btw N R a b).length ≤ n → a ∈ N → b ∈ N → R a b = true → Rch (cvs N R) a b
  | 0, a, b, h, ha, hb, k => by
    have := List.length_pos_of_mem (mem_btw.mpr ⟨ha, hr a, k⟩)
    omega
  | n + 1, a, b, h, ha, hb, k => by
    by_cases e : a = b
    · exact e ▸ .refl _
    by_cases two : (btw N R a b).length = 2
    · exact .one (mem_cvs.mpr ⟨⟨ha, hb, k, e⟩, two⟩)
    · rw [btw_two hN hr ha hb k e] at two
      obtain ⟨c, hc, h1, h2, ca, cb⟩ : ∃ c, c ∈ N ∧ R a c = true ∧ R c b = true ∧ c ≠ a ∧ c ≠ b := by
        refine Classical.byContradiction fun no => two fun c hc h1 h2 => ?_
        by_cases z : c = a
        · exact .inl z
        · exact .inr (Classical.byContradiction fun z2 => no ⟨c, hc, h1, h2, z, z2⟩)
      have less : ∀ x y z, x ∈ btw N R a b → x ∉ btw N R y z → (∀ w, w ∈ btw N R y z → w ∈ btw N R a b) → (btw N R y z).length ≤ n := by
        intro x y z hx hn hsub
        have nd : (x :: btw N R y z).Nodup := List.nodup_cons.mpr ⟨hn, (hN.filter _).filter _⟩
        have := nd.length_le_of_subset (l₂ := btw N R a b) fun w hw => by
          rcases List.mem_cons.mp hw with rfl | hw
          · exact hx
          · exact hsub w hw
        simp at this
        omega
      refine (cvs_rch hN hr ht hs n a c (less b a c (mem_btw.mpr ⟨hb, k, hr b⟩) (fun z => cb (hs _ _ hc hb h2 (mem_btw.mp z).2.2)) fun w hw => ?_) ha hc h1).trans
        (cvs_rch hN hr ht hs n c b (less a c b (mem_btw.mpr ⟨ha, hr a, k⟩) (fun z => ca (hs _ _ hc ha (mem_btw.mp z).2.1 h1)) fun w hw => ?_) hc hb h2)
      · obtain ⟨x, y, z⟩ := mem_btw.mp hw
        exact mem_btw.mpr ⟨x, y, ht _ _ _ z h2⟩
      · obtain ⟨x, y, z⟩ := mem_btw.mp hw
        exact mem_btw.mpr ⟨x, ht _ _ _ h1 y, z⟩
/-- no two below each other -/
def Anti (E : List (α × α)) : Prop := ∀ a b, Rch E a b → Rch E b a → a = b
theorem cvs_cl {E : List (α × α)} {N : List α} (hN : N.Nodup) (hE : ∀ p ∈ E, p.1 ∈ N ∧ p.2 ∈ N) (ha : Anti E) : cl (cvs N (cl E)) = cl E := by
  refine cl_congr (fun p hp => ?_) fun p hp => ?_
  · exact cl_iff.mp (mem_cvs.mp hp).1.2.2.1
  · exact cvs_rch hN (cl_refl E) (fun _ _ _ => cl_trans) (fun a b _ _ h k => ha a b (cl_iff.mp h) (cl_iff.mp k)) _ _ _ (Nat.le_refl _) (hE _ hp).1 (hE _ hp).2 (cl_iff.mpr (.one hp))
theorem prs_cl {E : List (α × α)} {N : List α} (hE : ∀ p ∈ E, p.1 ∈ N ∧ p.2 ∈ N) : cl (prs N (cl E)) = cl E := by
  refine cl_congr (fun p hp => cl_iff.mp (mem_prs.mp hp).2.2.1) fun p hp => ?_
  by_cases e : p.1 = p.2
  · rw [e]; exact .refl _
  · exact .one (mem_prs.mpr ⟨(hE _ hp).1, (hE _ hp).2, cl_iff.mpr (.one hp), e⟩)
/-- one pair more -/
theorem rch_more {E : List (α × α)} {l h a b : α} : Rch (E ++ [(l, h)]) a b ↔ Rch E a b ∨ (Rch E a l ∧ Rch E h b) := by
  constructor
  · intro k
    induction k with
    | refl => exact .inl (.refl _)
    | step e _ ih =>
      rcases List.mem_append.mp e with e | e
      · rcases ih with ih | ⟨ih, k⟩
        · exact .inl (.step e ih)
        · exact .inr ⟨.step e ih, k⟩
      · cases List.mem_singleton.mp e
        rcases ih with ih | ⟨ih, k⟩
        · exact .inr ⟨.refl _, ih⟩
        · exact .inr ⟨.refl _, k⟩
  · have up : ∀ {a b}, Rch E a b → Rch (E ++ [(l, h)]) a b := Rch.mono fun p hp => .one (List.mem_append_left _ hp)
    rintro (k | ⟨k1, k2⟩)
    · exact up k
    · exact (up k1).trans (.step (List.mem_append_right _ (List.mem_singleton.mpr rfl)) (up k2))
theorem anti_more {E : List (α × α)} {l h : α} (ha : Anti E) (hn : ¬ Rch E h l) : Anti (E ++ [(l, h)]) := by
  intro a b k1 k2
  rw [rch_more] at k1 k2
  rcases k1 with k1 | ⟨k1, k1'⟩ <;> rcases k2 with k2 | ⟨k2, k2'⟩
  · exact ha _ _ k1 k2
  · exact absurd (k2'.trans (k1.trans k2)) hn
  · exact absurd (k1'.trans (k2.trans k1)) hn
  · exact absurd (k1'.trans k2) hn
theorem cl_more {E : List (α × α)} {N : List α} {l h : α} (hl : l ∈ N) (hh : h ∈ N) : (∀ a ∈ N, ∀ b ∈ N, cl E a b = cl (E ++ [(l, h)]) a b) ↔ cl E l h = true := by
  constructor
  · intro k
    rw [k l hl h hh, cl_iff, rch_more]
    exact .inr ⟨.refl _, .refl _⟩
  · intro k a _ b _
    rw [Bool.eq_iff_iff, cl_iff, cl_iff, rch_more]
    constructor
    · exact .inl
    · rintro (q | ⟨q1, q2⟩)
      · exact q
      · exact (q1.trans (cl_iff.mp k)).trans q2
/-- pairs along a line -/
theorem anti_rank {E : List (α × α)} (r : α → Nat) (h : ∀ p ∈ E, p.1 = p.2 ∨ r p.1 < r p.2) : Anti E := by
  have up : ∀ {a b}, Rch E a b → a = b ∨ r a < r b := by
    intro a b k
    induction k with
    | refl => exact .inl rfl
    | step e _ ih =>
      have := h _ e
      rcases this with z | z <;> rcases ih with y | y
      · exact .inl (z.trans y)
      · exact .inr (by dsimp only at z; rw [z]; exact y)
      · exact .inr (by rw [← y]; exact z)
      · exact .inr (Nat.lt_trans z y)
  intro a b k1 k2
  rcases up k1 with e | e
  · exact e
  · rcases up k2 with e2 | e2
    · exact e2.symm
    · omega
theorem anti_sub {E F : List (α × α)} (hs : ∀ p ∈ E, Rch F p.1 p.2) (h : Anti F) : Anti E := fun a b k1 k2 => h a b (k1.mono hs) (k2.mono hs)
end OM

set_option Elab.async false
set_option linter.all false
set_option maxRecDepth 100000
set_option maxHeartbeats 4000000
/-! own __contains__, __len__, __iter__ (which hands back iter of a tuple), list(o) -/
namespace Z
open PySem PySem.Spec PyProof.Rows L2
section
variable {X : Cx} {k j : Nat} {f C : Addr} {sp : Sp}
/-- x in o, o an instance with its own __contains__ -/
def rInOwn (C : Addr) (sp : Sp) (neg : Bool) : R2 := fun x y H Q => ∃ a dx fs, y = .ref a ∧ H a = some (.ins C dx fs) ∧
  sp [.ref a, x] H (fun v H' => ∃ r : Bool, v = .bl r ∧ Q (.bl (r != neg)) H') (fun _ _ _ => False)
theorem backBl {A : Around} {pins : List (Addr × Obj)} {σ : L2.St} {H : Hp} {s : Shared} {g : Bool → Bool} {Q : VK} {us : List Value} {vs : List V} (F : FnR X.prog X.w X.K X.mg X.base (L2.CX X.prog X.w) k f sp) (hr : Room k A) (e0 : Env0 X.prog X.w X.K X.mg X.base A X.stack s H)
    (I : Inv X pins σ H s) (r : Vals vs us) (h : sp vs H (fun v H' => ∃ r : Bool, v = .bl r ∧ Q (.bl (g r)) H') (fun _ _ _ => False)) :
    wpAny (model X.prog X.w) A (call (.ref f) us) (fun v s' => ∃ r : Bool, v = .bool r ∧ EP X pins σ Q (.bool (g r)) s') X.xe s := by
  refine wpAny_call (codeAny_mono (F A X.stack s H us vs _ (fun _ _ _ => False) hr e0 r h) fun q s' hq => ?_)
  rcases q with e | fl
  · exact (cxN hq).elim
  rcases fl with _ | _ | _ | u'
  · exact False.elim hq
  · exact False.elim hq
  · exact False.elim hq
  obtain ⟨v', H', J', rv, r, ev, q⟩ := I.after hq
  subst ev
  obtain rfl : u' = Value.bool r := rv
  exact ⟨r, rfl, .bl (g r), H', J', rfl, q⟩
theorem z_inOwn (c : CalO X.prog X.w X.K X.mg X.base C "__contains__" k sp) (hr : Room j X.A) (hj : k ≤ j := by decide) : OpR X (compareOp .In) (rInOwn C sp false) := by
  intro pins s σ H x y v u Q I rx ry h
  obtain ⟨f, S, sf, F⟩ := c
  obtain ⟨a, dx, fs, rfl, ea, h⟩ := h
  obtain rfl : u = Value.ref a := ry
  obtain ⟨ox, od, Ja⟩ := instAt I ea
  obtain ⟨m, fr⟩ := I.fr
  refine PySem.W.in_K fr I.ok.mod.kin Ja S.at_ S.fn (wpAny_mono (backBl (vs := [.ref a, x]) F (hr.mono hj) I.env0 I (.cons rfl (.cons rx .nil)) h) (fun v s' hv => ?_) fun _ _ z => z)
  obtain ⟨r, rfl, q⟩ := hv
  refine wpAny_truthy_bool ?_
  have e : (r != false) = r := by cases r <;> rfl
  rw [e] at q
  exact q
theorem z_notInOwn (c : CalO X.prog X.w X.K X.mg X.base C "__contains__" k sp) (hr : Room j X.A) (hj : k ≤ j := by decide) : OpR X (compareOp .NotIn) (rInOwn C sp true) := by
  intro pins s σ H x y v u Q I rx ry h
  obtain ⟨f, S, sf, F⟩ := c
  obtain ⟨a, dx, fs, rfl, ea, h⟩ := h
  obtain rfl : u = Value.ref a := ry
  obtain ⟨ox, od, Ja⟩ := instAt I ea
  obtain ⟨m, fr⟩ := I.fr
  refine PySem.W.notIn_K fr I.ok.mod.kin Ja S.at_ S.fn (wpAny_mono (backBl (vs := [.ref a, x]) F (hr.mono hj) I.env0 I (.cons rfl (.cons rx .nil)) h) (fun v s' hv => ?_) fun _ _ z => z)
  obtain ⟨r, rfl, q⟩ := hv
  refine wpAny_truthy_bool ?_
  have e : (r != true) = !r := by cases r <;> rfl
  rw [e] at q
  exact q
/-- len(o) by an own __len__ -/
def rLenOwn (C : Addr) (sp : Sp) : List V → Hp → VK → Prop := fun xs H Q => ∃ a dx fs, xs = [.ref a] ∧ H a = some (.ins C dx fs) ∧
  sp [.ref a] H (fun v H' => ∃ n : Int, v = .int n ∧ (0 ≤ n ∧ n < 2 ^ 63) ∧ Q (.int n) H') (fun _ _ _ => False)
theorem lenRun {Ex : Value → Shared → Prop} {A : Around} {pins : List (Addr × Obj)} {σ : L2.St} {H : Hp} {s : Shared} {Q : VK} {a dx : Addr} {fs : List (Str × V)} (F : FnR X.prog X.w X.K X.mg X.base (L2.CX X.prog X.w) k f sp) (S : Spc X.K C "__len__" f) (hr : Room k A.in1) (e0 : Env0 X.prog X.w X.K X.mg X.base A.in1 X.stack s H)
    (I : Inv X pins σ H s) (ea : H a = some (.ins C dx fs)) (h : sp [.ref a] H (fun v H' => ∃ n : Int, v = .int n ∧ (0 ≤ n ∧ n < 2 ^ 63) ∧ Q (.int n) H') (fun _ _ _ => False)) :
    wpAny (model X.prog X.w) A (call (.builtin "len") [.ref a]) (fun v s' => ∃ n t, v = .int n t ∧ (0 ≤ n ∧ n < 2 ^ 63) ∧ ∃ H', Inv X pins σ H' s' ∧ Q (.int n) H') Ex s := by
  obtain ⟨ox, od, Ja⟩ := instAt I ea
  obtain ⟨m, fr⟩ := I.fr
  refine PySem.W.len_K fr I.ok.mod.kin Ja S.at_ S.fn (wpAny_call (codeAny_mono (F A.in1 X.stack s H [.ref a] [.ref a] _ (fun _ _ _ => False) hr e0 (.cons rfl .nil) h) fun q s' hq => ?_))
  rcases q with e | fl
  · exact (cxN hq).elim
  rcases fl with _ | _ | _ | u'
  · exact False.elim hq
  · exact False.elim hq
  · exact False.elim hq
  obtain ⟨v', H', J', rv, n, ev, hn, q⟩ := I.after hq
  subst ev
  obtain ⟨t, rfl⟩ := rv
  exact ⟨hn, n, _, rfl, hn, H', J'.tok _, q⟩
theorem z_lenOwn (c : CalO X.prog X.w X.K X.mg X.base C "__len__" k sp) (hr : Room j X.A) (hj : k + 1 ≤ j := by decide) : CallR X (.builtin "len") (rLenOwn C sp) := by
  intro pins s σ H xs us Q I r h
  obtain ⟨f, S, sf, F⟩ := c
  obtain ⟨a, dx, fs, rfl, ea, h⟩ := h
  obtain rfl := Vals.ref1 r
  refine wpAny_mono (lenRun F S (hr.mono hj).in1 I.env0.in1 I ea h) (fun v s' hv => ?_) fun _ _ z => z
  obtain ⟨n, t, rfl, _, H', I', q⟩ := hv
  exact ⟨.int n, H', I', ⟨t, rfl⟩, q⟩
/-- iter(t), a tuple: an iterator at its start -/
def TupIt (q t : Addr) (i : Nat) : HO := .ext fun h => h.IsTupleIter q t i
theorem tupIt_ok {P : Program} {w : World} {H : Hp} {h : Heap} {q t : Addr} {i : Nat} (e : h.IsTupleIter q t i) : ObjOk P w H h q (TupIt q t i) := by
  obtain ⟨o, ho, hc, hd⟩ := id e
  refine ⟨e, ⟨o, ho⟩, fun h1 h2 ⟨o1, e1, c1, d1⟩ k => ⟨o1, k _ e1, c1, d1⟩⟩
def rIterT (K : PySem.W.Frag) : List V → Hp → VK → Prop := fun xs H Q => ∃ t ys, xs = [.ref t] ∧ SqT K H t ys ∧ ∀ q, H q = none → Q (.ref q) (upd H q (TupIt q t 0))
theorem cr_iterT : CallR X (.builtin "iter") (rIterT X.K) := by
  intro pins s σ H xs us Q I r h
  obtain ⟨t, ys, rfl, ht, h⟩ := h
  obtain rfl := Vals.ref1 r
  obtain ⟨its, rv, hl, _⟩ := I.tuple ht
  refine Calls.call_function_entry (by decide +kernel) (by decide +kernel) PySem.W.kdk_entry_iter (PySem.W.kdk_args_iter _) ?_
  unfold Builtin.«iter»
  refine wpAny_bind (m := someArgs "iter" 1 2 _) (wpAny_of_eq (a := [Value.ref t]) (by first | rfl | kernel_rfl!) ?_)
  show wpAny _ _ (pyIter (.ref t) >>= _) _ _ _
  refine wpAny_bind (wpAny_pyIter_tuple hl ?_)
  refine wpAny_pure ⟨_, rfl, .ref s.heap.objs.size, _, I.laid (a := s.heap.objs.size) (o := TupIt s.heap.objs.size t 0) (t' := s.toks) (fun b o e => Heap.get?_push_of_some _ e) (Nat.le_refl _) (tupIt_ok ⟨_, Heap.get?_push_size _ rfl, rfl, rfl⟩), rfl, h _ (I.hok.fresh (Nat.le_refl _))⟩
/-- what is known of an iterator that is used up: it stands -/
def DeadIt (q : Addr) : HO := .ext fun h => ∃ o, h.get? q = some o
theorem deadIt_ok {P : Program} {w : World} {H : Hp} {h : Heap} {q : Addr} (e : ∃ o, h.get? q = some o) : ObjOk P w H h q (DeadIt q) := ⟨e, e, fun h1 h2 ⟨o1, e1⟩ k => ⟨o1, k _ e1⟩⟩
theorem nextEnd {prog : Program} {w : World} {A : Around} {E : Value → Shared → Prop} {s : Shared} {q t : Addr} {i : Nat} {its : Array Value} {Q : Option Value → Shared → Prop} (calm : A.handled = none)
    (hit : s.heap.IsTupleIter q t i) (ht : s.heap.IsTuple t its) (out : its[i]? = none) (hQ : ∀ h', (∀ b o, b ≠ q → s.heap.get? b = some o → h'.get? b = some o) → (∃ o, h'.get? q = some o) → Q none { s with heap := h' }) :
    wpAny (model prog w) A (pyNext (.ref q)) Q E s := by
  obtain ⟨ob, ho, hc, hd⟩ := id hit
  obtain ⟨ot, hot, _, nn, hdt⟩ := ht
  have st : ∃ o, (s.heap.update q (Obj.mapFields (·.setIfInBounds 0 Value.none))).get? q = some o := ⟨_, Heap.get?_update_self _ ho (Obj.isFreed_of_fields (Obj.data_mapFields hd _))⟩
  have ot2 : ∀ b o, b ≠ q → s.heap.get? b = some o → (s.heap.update q (Obj.mapFields (·.setIfInBounds 0 Value.none))).get? b = some o := fun b o hb e => (Heap.get?_update_other s.heap _ (Ne.symm hb)).trans e
  unfold pyNext
  refine wpAny_bind (wpAny_attempt (wpAny_callSpecial?_slot (name := Str.ofString "__next__") hit.typeIs F.slot_tuple_iterator_next (wpAny_call_entry F.slot_tuple_iterator_next hit.typeIs F.entry_tuple_iterator_next ?_
    (F.args_tuple_iterator_next_1 _))))
  show wpAny _ _ (field (.ref q) 0 >>= _) _ _ s
  refine wpAny_bind (wpAny_field ho hd (x := .ref t) rfl ?_); show wpAny _ _ (if (Value.ref t == Value.none) = true then _ else _) _ _ s
  rw [if_neg (show ¬ ((Value.ref t == Value.none) = true) from Bool.false_ne_true)]; show wpAny _ _ (field (.ref q) 1 >>= _) _ _ s
  refine wpAny_bind (wpAny_field ho hd (x := .int i 0) rfl ?_); show wpAny _ _ (seqItems? (.ref t) >>= _) _ _ s
  refine wpAny_bind (wpAny_seqItems hot hdt ?_); simp only [Int.toNat_natCast, out]
  refine wpAny_bind (wpAny_rule (wpAny_bind (wpAny_setField ho hd (by simp) ?_))); show wpAny _ _ (newExc (.type "StopIteration") [] >>= _) _ _ _
  refine wpAny_bind ?_; simp only [newExc, newTuple]
  refine wpAny_bind (wpAny_newObj_type ?_ (by size_fits)); refine wpAny_bind (m := firstArgMember _ _) (wpAny_of_eq (a := Value.none) (by first | rfl | (simp only [firstArgMember]; rfl)) ?_)
  refine wpAny_newObj_type ?_ (by size_fits); simp only [raiseNew]
  refine wpAny_bind (wpAny_handled ?_); first | rw [show A.in1.handled = none from calm] | rw [calm]
  refine wpAny_bind (wpAny_pure (wpAny_throw ?_)); refine wpAny_bind (wpAny_isInstance (T := "StopIteration") (b := true) ⟨_, Heap.get?_push_size _ rfl, rfl⟩ isSubtype_stop ?_)
  refine wpAny_pure (hQ _ (fun b o hb e => Heap.get?_push_of_some _ (Heap.get?_push_of_some _ (ot2 b o hb e))) ?_)
  obtain ⟨o, e⟩ := st
  exact ⟨o, Heap.get?_push_of_some _ (Heap.get?_push_of_some _ e)⟩
/-- the walk of a tuple's iterator at q that fills the list at l -/
theorem fillLoop {pins : List (Addr × Obj)} {σ : L2.St} {H : Hp} {q t l : Addr} {ys : List V} {A1 : Around} {Rs : Result → Shared → Prop} (calm : A1.in1.handled = none) (hl : H l = none) (hq : H q = none) (ht : SqT X.K H t ys) (hz : ys.length < 1000) (hlq : l ≠ q)
    (done : ∀ H' s, Inv X pins σ H' s → Same H H' → H' l = some (.lst ys) → Rs (.ok (.ret .none)) s) :
    ∀ (n i : Nat), i + n = ys.length → ∀ (H' : Hp) (s : Shared), Inv X pins σ H' s → Same H H' → H' l = some (.lst (ys.take i)) → H' q = some (TupIt q t i) → codeAny (model X.prog X.w) A1 (.builtin "list.extend.loop" ⟨[.ref l, .ref q, .none], []⟩) Rs s := by
  intro n
  induction n with
  | zero =>
    intro i hi H' s I sm el eq
    refine codeAny_builtin PySem.F.entry_extend_loop ?_
    rw [Around.under_plainId PySem.F.plain_extend_loop _]
    show wpAny _ A1.in1 (pyNext (.ref q) >>= _) _ _ s
    obtain ⟨its, rv, p, _⟩ := I.tuple (Same_seqT sm ht)
    have hit : s.heap.IsTupleIter q t i := (I.hok q _ eq).1
    have out : its.toArray[i]? = none := by
      have := rv.length
      simp
      omega
    refine wpAny_bind (nextEnd calm hit p out fun h' kp ex => wpAny_pure ?_)
    have I2 := I.write (x := q) (e := q) (o := DeadIt q) (h' := h') (t' := s.toks) (by rw [eq]; exact trivial) (.inl rfl) kp ex (deadIt_ok ex)
    refine done _ _ I2 (fun b o e => ?_) ?_
    · rw [upd_ne (ne_of_none e hq)]
      exact sm _ _ e
    · rw [upd_ne hlq, el, List.take_of_length_le (by omega)]
  | succ n ih =>
    intro i hi H' s I sm el eq
    refine codeAny_builtin PySem.F.entry_extend_loop ?_
    rw [Around.under_plainId PySem.F.plain_extend_loop _]
    show wpAny _ A1.in1 (pyNext (.ref q) >>= _) _ _ s
    obtain ⟨its, rv, p, _⟩ := I.tuple (Same_seqT sm ht)
    have hit : s.heap.IsTupleIter q t i := (I.hok q _ eq).1
    have hlen := rv.length
    have lt : i < ys.length := by omega
    obtain ⟨u, hu, ru⟩ := rv.get (List.getElem?_eq_getElem lt)
    have hx : its.toArray[i]? = some u := by simpa using hu
    refine wpAny_bind (wpAny_pyNext_tuple_item hit p hx fun h' hit' sb => ?_)
    have ex : ∃ o, h'.get? q = some o := let ⟨o, e, _⟩ := hit'; ⟨o, e⟩
    have I2 := I.write (x := q) (e := q) (o := TupIt q t (i + 1)) (h' := h') (t' := s.toks) (by rw [eq]; exact trivial) (.inl rfl) (fun b o hb e => sb.extBut b o hb e) ex (tupIt_ok hit')
    show wpAny _ A1.in1 (updateSeq l (·.push u) >>= _) _ _ _
    have el2 : upd H' q (TupIt q t (i + 1)) l = some (.lst (ys.take i)) := by rw [upd_ne hlq]; exact el
    obtain ⟨z, ls, kk, r2, hl2, e2⟩ := I2.lstM el2
    have hti : (ys.take i).length = i := by rw [List.length_take]; omega
    have h1000 : (1000 : Nat) < sizeLine := by rw [sizeLine_eq]; decide
    refine wpAny_bind (wpAny_updateSeq e2 rfl (wpAny_pure ⟨plainId_quiet PySem.F.plain_extend_loop _, ?_⟩) (by rw [List.size_toArray]; omega) (by show (ls.toArray.push u).size ≤ sizeLine + 1; rw [Array.size_push, List.size_toArray]; omega))
    have tk : ys.take (i + 1) = ys.take i ++ [ys[i]] := by rw [List.take_add_one, List.getElem?_eq_getElem lt]; rfl
    refine ih (i + 1) (by omega) _ _ (I2.lset (its' := ls ++ [u]) (ys := ys.take i ++ [ys[i]]) (t' := s.toks) el2 e2 (by simp) (r2.append (.cons ru .nil)) (by rw [List.length_append, List.length_singleton]; omega)) (fun b o e => ?_) ?_ ?_
    · rw [upd_ne (ne_of_none e hl), upd_ne (ne_of_none e hq)]
      exact sm _ _ e
    · rw [upd_same, tk]
    · rw [upd_ne (Ne.symm hlq), upd_same]
/-- list(o), where __iter__ hands back iter of a tuple, and __len__ says how long that is -/
def rListOwn (K : PySem.W.Frag) (C : Addr) (spI spL : Sp) : List V → Hp → VK → Prop := fun xs H Q => ∃ a dx fs t ys, xs = [.ref a] ∧ H a = some (.ins C dx fs) ∧ SqT K H t ys ∧ ys.length < 1000 ∧
  (∀ H1, Same H H1 → spI [.ref a] H1 (fun v H2 => ∃ q, v = .ref q ∧ H1 q = none ∧ H2 = upd H1 q (TupIt q t 0)) fun _ _ _ => False) ∧
  (∀ H1, Same H H1 → spL [.ref a] H1 (fun v H2 => ∃ n : Int, v = .int n ∧ (0 ≤ n ∧ n < 2 ^ 63) ∧ (fun v H' => v = V.int ys.length ∧ Same H1 H') (V.int n) H2) fun _ _ _ => False) ∧
  ∀ l H', H l = none → Same H H' → H' l = some (.lst ys) → Q (.ref l) H'
theorem z_listOwn {spI spL : Sp} {kI kL : Nat} (hc : X.calm = true) (cI : CalO X.prog X.w X.K X.mg X.base C "__iter__" kI spI) (cL : CalO X.prog X.w X.K X.mg X.base C "__len__" kL spL) (hr : Room j X.A) (hI : kI + 2 ≤ j := by decide) (hL : kL + 3 ≤ j := by decide) :
    CallR X (.type "list") (rListOwn X.K C spI spL) := by
  intro pins s σ H xs us Q I rv h
  obtain ⟨a, dx, fs, t, ys, rfl, ha, ht, hz, pI, pL, q⟩ := h
  obtain ⟨u, rfl, ru⟩ := rv.one
  cases ru
  obtain ⟨fI, SI, _, FI⟩ := cI
  obtain ⟨fL, SL, _, FL⟩ := cL
  refine callType_codes (Q₁ := fun obj s₁ => obj = .ref s.heap.objs.size ∧ s₁ = { s with heap := s.heap.push { cls := .type "list", data := .seq #[] } }) PySem.F.called_list (PySem.F.typeCall_list_1 _) PySem.F.entry_list_init (code_list_new _ ⟨rfl, rfl⟩) fun obj s₁ h₁ => ?_
  obtain ⟨rfl, rfl⟩ := h₁
  have hS : (s.heap.push { cls := .type "list", data := .seq #[] }).get? s.heap.objs.size = some { cls := .type "list", data := .seq #[] } := Heap.get?_push_size _ rfl
  refine ⟨⟨_, hS, rfl⟩, PySem.F.args_list_init_2 _ _, ?_⟩
  have fr : H s.heap.objs.size = none := I.hok.fresh (Nat.le_refl _)
  generalize hl : s.heap.objs.size = l at *
  have I1 : Inv X pins σ (upd H l (.lst [])) { s with heap := s.heap.push { cls := .type "list", data := .seq #[] } } := by
    rw [← hl]
    exact I.lnew (its := []) (t' := s.toks) .nil (Nat.zero_le _)
  show wpAny _ _ (do let old ← Builtin.List.listItems (.ref l); Builtin.List.listUpdate (.ref l) (fun _ => #[]); letGo old.toList.reverse; Builtin.List.listExtendWith (.ref l) (.ref a) .none) _ _ _
  refine wpAny_bind ?_
  unfold Builtin.List.listItems
  refine wpAny_bind (wpAny_seqItems hS rfl (wpAny_pure ?_))
  show wpAny _ _ (updateSeq l (fun _ => #[]) >>= fun _ => letGo (#[] : Array Value).toList.reverse >>= fun _ => Builtin.List.listExtendWith (.ref l) (.ref a) .none) _ _ _
  refine wpAny_bind (wpAny_updateSeq hS rfl ?_)
  have I2 := I1.lset (f := fun _ => #[]) (its := []) (its' := []) (ys := []) (t' := s.toks) upd_same hS rfl .nil (Nat.zero_le _)
  rw [upd_upd] at I2
  refine wpAny_bind (wpAny_letGo ?_)
  have s1 : Same H (upd H l (.lst [])) := fun b o e => by rw [upd_ne (ne_of_none e fr)]; exact e
  have ha2 := s1 _ _ ha
  have hne : l ≠ a := Ne.symm (ne_of_none ha fr)
  obtain ⟨ox, od, J⟩ := instAt I2 ha2
  obtain ⟨m0, hF⟩ := I2.fr
  unfold Builtin.List.listExtendWith
  refine wpAny_bind (J.type.here ?_)
  have h1 : Builtin.List.listSameRef (.ref l) (.ref a) = false := by simp [Builtin.List.listSameRef, hne]
  have h2 : (Value.ref C == Value.type "list") = false := rfl
  have h3 : (Value.ref C == Value.type "tuple") = false := rfl
  simp only [h1, h2, h3, Bool.or_false, Bool.false_eq_true, if_false]
  have hrI : Room kI X.A.in1.in1 := ((hr.mono hI).in1).in1
  have hrL : Room kL X.A.in1.in1.in1 := (((hr.mono hL).in1).in1).in1
  refine wpAny_bind (PySem.W.owit_iter hF I2.ok.mod.kin J SI.at_ SI.fn ?_)
  refine wpAny_call (codeAny_mono (FI X.A.in1.in1 X.stack _ _ [.ref a] [.ref a] _ (fun _ _ _ => False) hrI I2.env0.in1.in1 (.cons rfl .nil) (pI _ s1)) fun r s' hq' => ?_)
  rcases r with e | fl
  · exact (cxN hq').elim
  rcases fl with _ | _ | _ | u'
  · exact False.elim hq'
  · exact False.elim hq'
  · exact False.elim hq'
  obtain ⟨v', H3, I3, rv3, q0, ev, hq0, eH⟩ := I2.after hq'
  subst ev
  obtain rfl : u' = Value.ref q0 := rv3
  have hq1 : H q0 = none := by
    cases e : H q0 with
    | none => rfl
    | some o => rw [s1 _ _ e] at hq0; cases hq0
  have s2 : Same (upd H l (.lst [])) H3 := fun b o e => by rw [eH, upd_ne (ne_of_none e hq0)]; exact e
  have eq3 : H3 q0 = some (TupIt q0 t 0) := by rw [eH, upd_same]
  have hit : s'.heap.IsTupleIter q0 t 0 := (I3.hok q0 _ eq3).1
  unfold PySem.W.OwitIt
  refine wpAny_bind (wpAny_typeOf hit.typeIs (wpAny_of_eq PySem.F.slot_tuple_iterator_next.lookup ?_))
  refine wpAny_bind (wpAny_holding ?_)
  -- the length
  have e3 : H3 l = some (.lst []) := s2 _ _ upd_same
  have ha3 := s2 _ _ ha2
  obtain ⟨ox3, od3, J3⟩ := instAt I3 ha3
  unfold Builtin.List.listLengthHint
  refine wpAny_bind (wpAny_bind (J3.type.here ((PySem.W.looks_findIn I3.kIn SL.at_).here ?_)))
  dsimp only
  refine PySem.W.KFB.if_not rfl ?_
  refine PySem.W.KFB.if_so rfl ?_
  refine wpAny_bind (wpAny_rule ?_)
  refine wpAny_bind (wpAny_attempt (wpAny_mono (lenRun (Ex := fun _ _ => False) (Q := fun v H' => v = V.int ys.length ∧ Same H3 H') FL SL hrL I3.env0.in1.in1.in1 I3 ha3 (pL _ (s1.trans s2))) (fun v s'' hv => ?_) fun e s'' he => ?_))
  · obtain ⟨n, tn, rfl, hn, H4, I4, en, s4⟩ := hv
    injection en with en
    subst en
    have long : Builtin.List.listTooLong ((ys.length : Nat) : Int).toNat = false := by
      unfold Builtin.List.listTooLong
      rw [sizeLine_eq] at *
      simp
      omega
    dsimp only
    refine wpAny_bind (m := asInt? _) (wpAny_of_eq (a := some ((ys.length : Nat) : Int)) rfl ?_)
    dsimp only
    refine PySem.W.KFB.if_not long ?_
    refine wpAny_pure ?_
    have e4 := s4 _ _ e3
    have eq4 := s4 _ _ eq3
    have hlq : l ≠ q0 := ne_of_none upd_same hq0
    have loop : ∀ (H5 : Hp) (s5 : Shared), Inv X pins σ H5 s5 → Same H H5 → H5 l = some (.lst []) → H5 q0 = some (TupIt q0 t 0) → codeAny (model X.prog X.w) X.A.in1 (.builtin "list.extend.loop" ⟨[.ref l, .ref q0, .none], []⟩) (wants (fun r s₂ => r = .none ∧ EP X pins σ Q (.ref l) s₂) X.xe) s5 := fun H5 s5 I5 sm el eq =>
      fillLoop (show X.A.in1.in1.handled = none from I.ok.hd hc) fr hq1 ht hz hlq (fun H' s' I' sm el => ⟨rfl, .ref l, H', I', rfl, q l H' fr sm el⟩) ys.length 0 (by omega) H5 s5 I5 sm (by rw [List.take_zero]; exact el) eq
    obtain ⟨z, its, kk, r3, hl3, e5⟩ := I4.lstM e4
    cases r3
    have s14 : Same H H4 := (s1.trans s2).trans s4
    refine wpAny_ite_split (fun _ => ?_) (fun _ => wpAny_pure ⟨plainId_quiet PySem.F.plain_extend_loop _, loop H4 _ I4 s14 e4 eq4⟩)
    refine wpAny_bind (wpAny_rule ?_)
    refine wpAny_bind ?_
    show wpAny _ _ (updateSeq l (·.push .none) >>= fun _ => updateSeq l (·.pop)) _ _ _
    refine wpAny_bind (wpAny_updateSeq e5 rfl ?_)
    have I6 := I4.lset (f := (·.push Value.none)) (its' := [Value.none]) (ys := [.non]) (t' := s''.toks) e4 e5 (by simp) (.cons rfl .nil) (by rw [List.length_singleton, sizeLine_eq]; decide)
    obtain ⟨z4, its4, k4, r4, hl4, e6⟩ := I6.lstM upd_same
    obtain ⟨u4, rfl, ru4⟩ := r4.one
    refine wpAny_updateSeq e6 rfl ?_ (by show 1 ≤ sizeLine; rw [sizeLine_eq]; decide) (by show 0 ≤ sizeLine + 1; exact Nat.zero_le _)
    refine wpAny_pure ⟨plainId_quiet PySem.F.plain_extend_loop _, loop H4 _ ?_ s14 e4 eq4⟩
    have I7 := I6.lset (f := (·.pop)) (its := [u4]) (its' := []) (ys := []) (t' := s''.toks) upd_same e6 (by rfl) .nil (Nat.zero_le _)
    rw [upd_upd] at I7
    have hH : upd H4 l (.lst []) = H4 := by
      funext b
      by_cases hb : b = l
      · rw [hb, upd_same, e4]
      · rw [upd_ne hb]
    rw [hH] at I7
    exact I7
  · exact he.elim
end
end Z

set_option Elab.async false
set_option linter.all false
set_option maxRecDepth 100000
set_option maxHeartbeats 4000000
/-! {**a, **b}; sorted of a tuple of texts; == of dicts of tuples -/
namespace Z
open PySem PySem.Spec PyProof.Rows L2
section
variable {P : Program} {w : World} {A : Around} {E : Value → Shared → Prop} {s : Shared}
theorem putDict {d : Addr} {kvs : List (Key × Value)} {k : Key} {key v : Value} {Q : Unit → Shared → Prop} (hkey : (mixKind P w).is k key = true) (hm : s.heap.DictOf (mixKind P w) d kvs)
    (hQ : ∀ h', h'.DictOf (mixKind P w) d (stored kvs k v) → Heap.SameBut d s.heap h' → Q () { s with heap := h' }) (hsz : kvs.length ≤ sizeLine) :
    wpAny (model P w) A (dictPut d ((mixKind P w).hash k) key v) Q E s := by
  obtain ⟨o, es, ep, ho, hc, hd, hk, hp, hn⟩ := hm
  have hes : es.size ≤ sizeLine := by
    have e1 := hp.length
    have e2 : es.toList.length = es.size := by simp
    omega
  unfold dictPut
  refine wpAny_bind (wpAny_dictFind_of hkey ho hd hk ?_)
  have hidx : (es.findIdx? fun e => (mixKind P w).is k e.key) = kvs.findIdx? fun kv => decide (kv.1 = k) := by rw [← hp.findIdx k]; obtain ⟨l⟩ := es; simp
  cases hi : es.findIdx? fun e => (mixKind P w).is k e.key with
  | some i =>
    refine wpAny_updateDict ho hd (hQ _ ⟨_, _, ep, Heap.get?_update_self _ ho (Obj.isFreed_of_dict (Obj.data_mapDict hd _)), hc.mapDict _, Obj.data_mapDict hd _, hk.modify _ _, ?_, ?_⟩ (Heap.SameBut.update ..))
    · rw [stored, if_pos (any_of_findIdx_some (hidx ▸ hi))]
      have hl : (es.toList.findIdx? fun e => (mixKind P w).is k e.key) = some i := by rw [← hi]; obtain ⟨l⟩ := es; simp
      have := hp.modify hn hl v
      obtain ⟨l⟩ := es
      simpa using this
    · rw [stored, if_pos (any_of_findIdx_some (hidx ▸ hi)), keys_map_store]; exact hn
  | none =>
    have hnot : k ∉ kvs.map (·.1) := not_mem_of_findIdx_none (hidx ▸ hi)
    have hany : ¬ (kvs.any fun kv => decide (kv.1 = k)) = true := by
      rw [List.any_eq_true]; rintro ⟨kv, hkv, he⟩; exact hnot (List.mem_map.mpr ⟨kv, hkv, of_decide_eq_true he⟩)
    refine wpAny_updateDictKeys (hz := hes) ho hd (hQ _ ⟨_, _, ep + 1, Heap.get?_update_self _ ho (Obj.isFreed_of_dict (Obj.data_mapDictKeys hd _)), hc.mapDictKeys _, Obj.data_mapDictKeys hd _, hk.push hkey _, ?_, ?_⟩ (Heap.SameBut.update ..))
    · rw [stored, if_neg hany]
      have := hp.append hkey ((mixKind P w).hash k) v
      obtain ⟨l⟩ := es
      simpa using this
    · rw [stored, if_neg hany, List.map_append, List.nodup_append]
      refine ⟨hn, by simp, ?_⟩
      intro a ha b hb
      simp only [List.map_cons, List.map_nil, List.mem_singleton] at hb
      subst hb
      exact fun e => hnot (e ▸ ha)
theorem iteBoth {α : Type} {M : Model} {A : Around} {E : Value → Shared → Prop} {s : Shared} {c : Bool} {a b : Sem α} {Q : α → Shared → Prop} (hb : wpAny M A b Q E s) (ha : wpAny M A b Q E s → wpAny M A a Q E s) : wpAny M A (if c = true then a else b) Q E s := by
  cases c
  · exact hb
  · exact ha hb
theorem mergeIn {d o : Addr} {kvs more : List (Key × Value)} {Q : Unit → Shared → Prop} (hdo : d ≠ o) (hoS : (o == sysModules) = false) (hd : s.heap.DictOf (mixKind P w) d kvs) (ho : s.heap.DictOf (mixKind P w) o more)
    (hQ : ∀ h', h'.DictOf (mixKind P w) d (merged kvs more) → Heap.SameBut d s.heap h' → Q () { s with heap := h' }) (hsz : kvs.length + more.length ≤ sizeLine) :
    wpAny (model P w) A (mergeMapping d (.ref o) false) Q E s := by
  obtain ⟨od, esd, epd, hod, hcd, hdd, hkd, hpd, hnd⟩ := id hd
  obtain ⟨oo, eso, epo, hoo, hco, hdo', hko, hpo, hno⟩ := id ho
  have hlen : more.length = eso.size := by rw [← hpo.length]; simp
  unfold mergeMapping
  refine wpAny_bind (wpAny_isInstance (T := "dict") ho.typeIs PySem.F.sub_dict_dict ?_)
  refine PySem.W.KFB.if_so rfl ?_
  refine wpAny_bind (wpAny_specialOf ho.typeIs PySem.F.slot_dict_iter.lookup ?_)
  refine wpAny_bind (wpAny_of_eq (a := true) (by rw [show (some (Value.builtin "dict.__iter__") == some (Value.builtin "dict.__iter__")) = true by decide]) ?_)
  dsimp only
  refine PySem.W.KFB.if_not (by rw [hoS]) ?_
  refine wpAny_bind (wpAny_dictEntries hod hdd ?_)
  refine iteBoth ?_ fun loop => ?_
  · refine wpAny_bind (wpAny_dictEntries hoo hdo' (wpAny_bind (wpAny_dictEpoch hoo hdo' (wpAny_bind ?_))))
    refine wpAny_forIn_list _ (fun rest _ s' => ∃ h' i, s' = { s with heap := h' } ∧ rest = List.range' i (eso.size - i) ∧ i ≤ eso.size ∧ h'.DictOf (mixKind P w) d (merged kvs (more.take i)) ∧ h'.get? o = some oo ∧ Heap.SameBut d s.heap h') _ ?_ ?_ _ _ ⟨s.heap, 0, rfl, by rw [List.range_eq_range']; rfl, Nat.zero_le _, hd, hoo, Heap.SameBut.refl _ _⟩
    · rintro x rest b s' ⟨h', i, rfl, hr, hi, hd', hoo', hs'⟩
      have hlt : i < eso.size := by
        rcases Nat.lt_or_ge i eso.size with h | h
        · exact h
        · rw [Nat.sub_eq_zero_of_le h] at hr; simp at hr
      obtain ⟨rfl, hrest⟩ : x = i ∧ rest = List.range' (i + 1) (eso.size - (i + 1)) := by
        have e : eso.size - i = (eso.size - (i + 1)) + 1 := by omega
        rw [e, List.range'_succ] at hr
        injection hr with h1 h2; exact ⟨h1, h2⟩
      refine wpAny_bind (wpAny_dictEntries hoo' hdo' ?_)
      rw [Array.getElem?_eq_getElem hlt]
      obtain ⟨kv, hkv⟩ : ∃ kv, more[x]? = some kv := ⟨more[x]'(by rw [hlen]; exact hlt), List.getElem?_eq_getElem _⟩
      obtain ⟨k, v⟩ := kv
      obtain ⟨hkey, hval⟩ := hpo.get? (e := eso[x]) (by simp [hlt]) hkv
      obtain ⟨k', hkey', hhash⟩ := hko eso[x] (Array.getElem_mem hlt)
      obtain rfl : k' = k := (mixKind P w).inj _ _ _ hkey' hkey
      refine wpAny_bind (wpAny_holding ?_)
      refine PySem.W.KFB.if_not rfl ?_
      rw [hhash, hval]
      have hmx : (merged kvs (more.take x)).length ≤ sizeLine := by
        have e1 := merged_length_le kvs (more.take x)
        have e2 : (more.take x).length ≤ more.length := by rw [List.length_take]; omega
        omega
      refine putDict hkey hd' (fun h'' hd'' hs'' => ?_) hmx
      have hoo'' : h''.get? o = some oo := (hs''.2 o (Ne.symm hdo)).trans hoo'
      refine wpAny_bind (wpAny_dictEpoch hoo'' hdo' ?_)
      rw [if_neg (by simp)]
      refine wpAny_pure ⟨h'', x + 1, rfl, hrest, hlt, ?_, hoo'', hs'.trans hs''⟩
      rw [merged_take_succ kvs more x (k', v) hkv]
      exact hd''
    · rintro b s' ⟨h', i, rfl, hr, hi, hd', hoo', hs'⟩
      have hin : i = eso.size := by
        rcases Nat.lt_or_ge i eso.size with h | h
        · have e : eso.size - i = (eso.size - (i + 1)) + 1 := by omega
          rw [e, List.range'_succ] at hr; exact nomatch hr
        · exact Nat.le_antisymm hi h
      rw [hin, ← hlen, List.take_length] at hd'
      exact wpAny_pure (hQ h' hd' hs')
  · refine wpAny_bind (wpAny_dictEntries hoo hdo' (wpAny_bind ?_))
    rw [← Array.forIn_toList]
    refine wpAny_forIn_list _ (fun rest _ s' => s' = s ∧ ∀ e ∈ rest, e ∈ eso) _ ?_ ?_ _ _ ⟨rfl, fun e h => by simpa using h⟩
    · rintro e rest b s' ⟨rfl, hm⟩
      obtain ⟨k, hk, _⟩ := hko e (hm e List.mem_cons_self)
      have hm' : ∀ e ∈ rest, e ∈ eso := fun e h => hm e (List.mem_cons_of_mem _ h)
      rcases keyIs_shape hk with ⟨i, t, _, ek⟩ | ⟨x, t, _, ek⟩
      · rw [ek]
        exact wpAny_pure ⟨rfl, hm'⟩
      · rw [ek]
        exact wpAny_pure ⟨rfl, hm'⟩
    · rintro b s' ⟨rfl, _⟩
      exact loop
end
/-- {**a, **b}: two dicts with keys ints and texts -/
def tMerge2 (t1 t2 : TE) : TE := fun σ H Q => ∀ p, H p = Option.none → t1 σ (upd H p (.dK [])) fun x H1 => ∃ a ks, x = .ref a ∧ p ≠ a ∧ H1 a = some (.dK ks) ∧ H1 p = some (.dK []) ∧ ks.length ≤ 1000 ∧
  t2 σ (upd H1 p (.dK (mergeK [] ks))) fun y H2 => ∃ b ls, y = .ref b ∧ p ≠ b ∧ H2 b = some (.dK ls) ∧ H2 p = some (.dK (mergeK [] ks)) ∧ ls.length ≤ 1000 ∧ Q (.ref p) (upd H2 p (.dK (mergeK (mergeK [] ks) ls)))
section
variable {X : Cx} {pos : Pos} {e1 e2 : Expr} {t1 t2 : TE} {pins : List (Addr × Obj)} {σ : L2.St} {H : Hp} {s : Shared}
theorem mergeStep {p a : Addr} {kvs ks : List (Key × V)} {E : Value → Shared → Prop} {Q : Unit → Shared → Prop} (I : Inv X pins σ H s) (hne : p ≠ a) (ha : H a = some (.dK ks)) (hp : H p = some (.dK kvs)) (z1 : kvs.length ≤ 1000) (z2 : ks.length ≤ 1000)
    (h : ∀ s', Inv X pins σ (upd H p (.dK (mergeK kvs ks))) s' → Q () s') : wpAny (model X.prog X.w) X.A (mergeMapping p (.ref a) false) Q E s := by
  obtain ⟨_, sa, vs, ra, da⟩ := dk_of I.hok ha
  obtain ⟨_, sp, us, rp, dp⟩ := dk_of I.hok hp
  have l1 := ra.length
  have l2 := rp.length
  have big : (3000 : Nat) ≤ sizeLine := by rw [sizeLine_eq]; decide
  refine mergeIn hne sa dp da (fun h' dd hs => h _ ?_) (by omega)
  have he : ∃ q, h'.get? p = some q := let ⟨q, _, _, hq, _⟩ := dd; ⟨q, hq⟩
  have hz := length_mergeK ks kvs
  exact d_write I (by rw [hp]; exact True.intro) hs he (dk_new (by omega) sp (ra.merge rp) dd)
theorem pe_merge2 (h1 : PE X e1 t1) (h2 : PE X e2 t2) : PE X (.Dict [Option.none, Option.none] [e1, e2] pos) (tMerge2 t1 t2) := by
  refine ⟨fun pins s σ H Q I q => ?_⟩
  have hn := I.hok.fresh (Nat.le_refl s.heap.objs.size)
  have I1 := I.laid (a := s.heap.objs.size) (o := .dK []) (h' := s.heap.push { cls := .type "dict", data := .dict #[] }) (t' := s.toks) (fun _ _ q => Heap.get?_push_of_some _ q) (Nat.le_refl _) (dk_empty s.heap I.big)
  have q1 := q _ hn
  generalize hp : s.heap.objs.size = p at *
  rw [arm_eval_Dict]
  refine wpAny_bind (wpAny_standAt ?_)
  show wpAny _ _ (dictDisplay [(Option.none, (do let x ← eval e1 X.env; standAt pos; pure x)), (Option.none, (do let x ← eval e2 X.env; standAt pos; pure x))]) _ _ s
  unfold dictDisplay
  dsimp only
  refine wpAny_bind ?_
  rw [List.forIn_cons]
  refine wpAny_bind ?_
  dsimp only
  refine wpAny_bind (PySem.W.KFB.if_so rfl (wpAny_pure ?_))
  dsimp only
  refine wpAny_bind (wpAny_alloc ?_)
  rw [hp]
  refine wpAny_bind (wpAny_holding (wpAny_bind (thn (h1.run pins _ σ _ _ I1 q1) fun u s1 hh => ?_)))
  obtain ⟨x, H1, I2, rx, a, ks, ex, hne, ha, hpp, z, q2⟩ := hh
  subst ex
  obtain rfl : u = Value.ref a := rx
  refine wpAny_bind (wpAny_standAt (wpAny_pure ?_))
  have h0 : ([] : List (Key × V)).length ≤ 1000 := by decide
  refine wpAny_bind (wpAny_onRaise (wpAny_tryCatch (wpAny_onRaise (wpAny_holding (mergeStep I2 hne ha hpp h0 z fun s2 I3 => ?_)))))
  refine wpAny_pure ?_
  dsimp only
  rw [List.forIn_cons]
  refine wpAny_bind ?_
  dsimp only
  refine wpAny_bind (PySem.W.KFB.if_so rfl (wpAny_pure ?_))
  dsimp only
  refine wpAny_bind (wpAny_pure ?_)
  refine wpAny_bind (wpAny_holding (wpAny_bind (thn (h2.run pins _ σ _ _ I3 q2) fun u s3 hh => ?_)))
  obtain ⟨y, H2, I4, ry, b, ls, ey, hne2, hb, hpp2, z2, q3⟩ := hh
  subst ey
  obtain rfl : u = Value.ref b := ry
  refine wpAny_bind (wpAny_standAt (wpAny_pure ?_))
  have zm : (mergeK [] ks).length ≤ 1000 := by
    have := length_mergeK ks []
    simp only [List.length_nil] at this
    omega
  refine wpAny_bind (wpAny_onRaise (wpAny_tryCatch (wpAny_onRaise (wpAny_holding (mergeStep I4 hne2 hb hpp2 zm z2 fun s4 I5 => ?_)))))
  refine wpAny_pure ?_
  dsimp only
  rw [List.forIn_nil]
  refine wpAny_pure ?_
  refine wpAny_bind (PySem.W.KFB.if_so rfl (wpAny_pure ?_))
  exact wpAny_pure ⟨.ref p, _, I5, rfl, q3⟩
end
end Z

set_option Elab.async false
set_option linter.all false
set_option maxRecDepth 100000
set_option maxHeartbeats 4000000
/-! sorted of a list or a tuple of texts; == of dicts whose values are data; texts in order -/
namespace Z
open PySem PySem.Spec PyProof.Rows L2
/-! ### ascending texts -/
def ltS (a b : Str) : Bool := ltCps a.cps.toList b.cps.toList
theorem ltCps_irr : ∀ l : List Nat, ltCps l l = false
  | [] => rfl
  | x :: l => by
    unfold ltCps
    simp [ltCps_irr l]
theorem ltCps_tri : ∀ l m : List Nat, ltCps l m = false → ltCps m l = false → l = m
  | [], [], _, _ => rfl
  | [], y :: m, h, _ => by simp [ltCps] at h
  | x :: l, [], _, h => by simp [ltCps] at h
  | x :: l, y :: m, h, k => by
    unfold ltCps at h k
    by_cases e1 : x < y
    · simp [e1] at h
    · by_cases e2 : y < x
      · simp [e2] at k
      · have e : x = y := by omega
        subst e
        simp at h k
        rw [ltCps_tri l m h k]
theorem ltS_tri {a b : Str} (h : ltS a b = false) (k : ltS b a = false) : a = b := by
  have := ltCps_tri _ _ h k
  cases a; cases b
  congr 1
  exact Array.toList_inj.mp this
theorem ltCps_tr : ∀ l m n : List Nat, ltCps m l = false → ltCps n m = false → ltCps n l = false
  | [], m, n, _, _ => by cases n <;> rfl
  | x :: l, [], n, h, _ => by simp [ltCps] at h
  | x :: l, y :: m, [], _, h => by simp [ltCps] at h
  | x :: l, y :: m, z :: n, h, k => by
    unfold ltCps at h k ⊢
    by_cases e1 : y < x
    · simp [e1] at h
    · by_cases e2 : z < y
      · simp [e2] at k
      · by_cases e3 : z < x
        · omega
        · simp only [e3, if_false]
          by_cases e4 : x < z
          · simp [e4]
            intro h
            omega
          · have exz : x = z := by omega
            have exy : x = y := by omega
            subst exz; subst exy
            simp at h k ⊢
            exact ltCps_tr l m n h k
theorem risingS_pw : ∀ (l : List Str) (p : Str), risingS p l = true → (∀ x ∈ l, ltS x p = false) ∧ l.Pairwise fun a b => ltS b a = false
  | [], p, _ => ⟨(fun x h => (by cases h)), .nil⟩
  | x :: r, p, h => by
    unfold risingS at h
    rw [Bool.and_eq_true] at h
    obtain ⟨h1, h2⟩ := h
    have h1' : ltS x p = false := by simpa [ltS] using h1
    obtain ⟨a, b⟩ := risingS_pw r x h2
    refine ⟨fun y hy => ?_, List.pairwise_cons.mpr ⟨a, b⟩⟩
    rcases List.mem_cons.mp hy with rfl | hy
    · exact h1'
    · exact ltCps_tr _ _ _ h1' (a y hy)
theorem sortedS_pw {l : List Str} (h : sortedS l = true) : l.Pairwise fun a b => ltS b a = false := by
  cases l with
  | nil => exact .nil
  | cons x r =>
    obtain ⟨a, b⟩ := risingS_pw r x h
    exact List.pairwise_cons.mpr ⟨a, b⟩
/-- texts of the same members that ascend are the same list -/
theorem sort_uniq {l m : List Str} (hp : l.Perm m) (hl : l.Pairwise fun a b => ltS b a = false) (hm : m.Pairwise fun a b => ltS b a = false) : l = m :=
  hp.eq_of_pairwise (fun a b _ _ h k => (ltS_tri k h)) hl hm
noncomputable def srt (l : List Str) : List Str := l.mergeSort fun a b => !ltS b a
theorem srt_perm (l : List Str) : (srt l).Perm l := List.mergeSort_perm l _
theorem srt_pw (l : List Str) : (srt l).Pairwise fun a b => ltS b a = false := by
  have h := List.pairwise_mergeSort (le := fun a b => !ltS b a) (fun a b c h k => ?_) (fun a b => ?_) l
  · exact h.imp fun {a b} h => by simpa using h
  · simp only [Bool.not_eq_true'] at h k ⊢
    exact ltCps_tr _ _ _ h k
  · by_cases h : ltS b a = true
    · by_cases k : ltS a b = true
      · exfalso
        have := ltCps_tr a.cps.toList b.cps.toList a.cps.toList
        -- a < b and b < a: by totality of the order
        have asym : ∀ l m : List Nat, ltCps l m = true → ltCps m l = false := by
          intro l
          induction l with
          | nil => intro m h; cases m <;> rfl
          | cons x l ih =>
            intro m h
            cases m with
            | nil => simp [ltCps] at h
            | cons y m =>
              unfold ltCps at h ⊢
              by_cases e1 : x < y
              · have : ¬ y < x := by omega
                simp [this, e1]
                intro h
                omega
              · by_cases e2 : y < x
                · simp [e1, e2] at h
                  omega
                · have e : x = y := by omega
                  subst e
                  simp at h ⊢
                  exact ih m h
        have := asym _ _ k
        unfold ltS at h
        rw [this] at h
        cases h
      · simp [k]
    · simp [h]
theorem srt_eq {l m : List Str} (hp : m.Perm l) (hs : sortedS m = true) : m = srt l := sort_uniq (hp.trans (srt_perm l).symm) (sortedS_pw hs) (srt_pw l)
theorem srt_congr {l m : List Str} (h : l.Perm m) : srt l = srt m := sort_uniq ((srt_perm l).trans (h.trans (srt_perm m).symm)) (srt_pw l) (srt_pw m)
theorem srt_of_pw {l : List Str} (h : l.Pairwise fun a b => ltS b a = false) : srt l = l := sort_uniq (srt_perm l) (srt_pw l) h
theorem srt_nodup {l : List Str} (h : l.Nodup) : (srt l).Nodup := (srt_perm l).nodup_iff.mpr h
theorem mem_srt {l : List Str} {a : Str} : a ∈ srt l ↔ a ∈ l := (srt_perm l).mem_iff
/-- the members of a rising list that are in another one, sorted, are a filter -/
theorem srt_filter {N l : List Str} {p : Str → Bool} (hN : N.Nodup) (hs : N.Pairwise fun a b => ltS b a = false) (hl : l.Nodup) (h : ∀ a, a ∈ l ↔ a ∈ N ∧ p a = true) : srt l = N.filter p := by
  refine sort_uniq ?_ (srt_pw l) (hs.filter p)
  refine (srt_perm l).trans ((List.perm_ext_iff_of_nodup hl (hN.filter p)).mpr fun a => ?_)
  rw [h, List.mem_filter]
section
variable {X : Cx}
/-- sorted of a list or a tuple of texts -/
def rSortST (K : PySem.W.Frag) : List V → Hp → VK → Prop := fun vs H Q => ∃ (a : Addr) (xs : List Str), vs = [V.ref a] ∧ (SqL K H a (xs.map V.str) ∨ SqT K H a (xs.map V.str)) ∧ xs.length < 64 ∧
  ∀ p H', H p = none → Same H H' → (∀ b, b ≠ p → H' b = H b) → H' p = some (.lst ((srt xs).map V.str)) → Q (.ref p) H'
theorem cr_sortST : CallR X (.builtin "sorted") (rSortST X.K) := by
  intro pins s σ H xs us Q I r q
  obtain ⟨a, ks, ex, hd, h64, q⟩ := q
  subst ex
  obtain ⟨u, eu, rx⟩ := vals1 r
  subst eu
  cases rx
  obtain ⟨its, o, n, T, rv, ho, hc, hT, hdt⟩ : ∃ (its : List Value) (o : Obj) (n : Nat) (T : String), Vals (ks.map V.str) its ∧ s.heap.get? a = some o ∧ o.cls = .type T ∧ (T = "list" ∨ T = "tuple") ∧ o.data = .seq its.toArray n := by
    rcases hd with hd | hd
    · obtain ⟨its, rv, pl, _⟩ := I.list hd
      obtain ⟨o, ho, hc, n, hdt⟩ := pl.isList
      exact ⟨its, o, n, _, rv, ho, hc, .inl rfl, hdt⟩
    · obtain ⟨its, rv, ⟨o, ho, hc, n, hdt⟩, _⟩ := I.tuple hd
      exact ⟨its, o, n, _, rv, ho, hc, .inr rfl, hdt⟩
  have hlen := rv.length
  rw [List.length_map] at hlen
  have hsl : (64 : Nat) < sizeLine := by rw [sizeLine_eq]; decide
  refine Calls.call_function_entry PyProof.Rows.kind_sorted PyProof.Rows.plain_sorted PyProof.Rows.entry_sorted (PyProof.Rows.args_sorted1 _) ?_
  unfold Builtin.«sorted»
  refine wpAny_bind (m := checkCount "sorted" 1 1 _) (wpAny_pure ?_)
  refine wpAny_bind (wpAny_collect_seq a hT ho hc hdt (fun h' hk => ?_) (by rw [List.size_toArray]; omega))
  rw [show its.toArray.toList = its by simp]
  have hS := rv.strs
  have I1 : Inv X pins σ H { s with heap := h' } := I.kept (t' := s.toks) hk
  refine wpAny_bind (wpAny_newList ?_ (by omega))
  have hoL : (h'.push (seqObj "list" its.toArray 0)).get? h'.objs.size = some (seqObj "list" its.toArray 0) := Heap.get?_push_size _ rfl
  show wpAny _ _ _ _ _ { s with heap := h'.push (seqObj "list" its.toArray 0) }
  refine wpAny_bind (wpAny_holding (wpAny_call_entry PyProof.Rows.slot_list_sort ⟨_, hoL, rfl⟩ PyProof.Rows.entry_list_sort (list_sort_treeK strKind_oneLt (s := { s with heap := h'.push (seqObj "list" its.toArray 0) }) hoL hS.keysOf
    (fun v₁ v₂ rest e => keyKind_strs (by rw [← e]; exact hS)) (by omega) fun st' hp hs => ⟨_, rfl, ?_⟩) (PyProof.Rows.args_list_sort _)))
  obtain ⟨ys, g1, g2, g3⟩ := sorted_out_str hS hp hs
  obtain rfl := srt_eq g2 g3
  obtain ⟨e', he'⟩ := PyProof.Rows.sortedHeap_at (vs := its) (out := (arrOf st').map (·.2)) hoL
  have hlen2 : ((srt ks).map V.str).length ≤ sizeLine := by
    rw [List.length_map, g2.length_eq]
    omega
  have fr := I1.hok.fresh (Nat.le_refl h'.objs.size)
  refine wpAny_pure ⟨_, rfl, .ref h'.objs.size, upd H h'.objs.size (.lst ((srt ks).map V.str)), I1.laid (t' := s.toks) (fun b u e => ?_) (Nat.le_refl _)
    (show ObjOk X.prog X.w _ _ _ (.lst ((srt ks).map V.str)) from ⟨hlen2, ((arrOf st').map (·.2)).toList, e', vals_of_strs g1, by rw [Array.toArray_toList]; exact he'⟩), rfl, q _ _ fr (fun b o e => by rw [upd_ne (ne_of_none e fr)]; exact e) (fun b hb => upd_ne hb) upd_same⟩
  have hb : b < h'.objs.size := Heap.lt_size e
  rw [PyProof.Rows.sortedHeap_old (Nat.ne_of_lt hb) (by rw [size_push']; exact Nat.lt_succ_of_lt hb)]
  exact Heap.get?_push_of_some _ e
/-- two dicts of the same keys in the same order, whose values are data -/
def rEqDD (K : PySem.W.Frag) : R2 := fun x y H Q => ∃ (a b : Addr) (ks ls : List (Key × V)) (f g : Key → PyData), x = .ref a ∧ y = .ref b ∧ H a = some (.dK ks) ∧ H b = some (.dK ls) ∧ ks.map (·.1) = ls.map (·.1) ∧
  (∀ p ∈ ks, Dp K H p.2 (f p.1) ∧ SeqAt.shaped (f p.1) = true) ∧ (∀ p ∈ ls, Dp K H p.2 (g p.1) ∧ SeqAt.shaped (g p.1) = true) ∧ Q (.bl ((ks.map (·.1)).all fun k => PyData.eqv (f k) (g k))) H
theorem valV_mem : ∀ {ls : List (Key × V)} {k : Key}, k ∈ ls.map (·.1) → ∃ v, valV ls k = some v ∧ (k, v) ∈ ls
  | p :: ls, k, h => by
    by_cases e : p.1 = k
    · exact ⟨p.2, valV_pos e, by rw [← e]; exact List.mem_cons_self⟩
    · obtain ⟨v, h1, h2⟩ := valV_mem (ls := ls) (k := k) (by
        rcases List.mem_cons.mp h with h | h
        · exact absurd h.symm e
        · exact h)
      exact ⟨v, by rw [valV_neg e]; exact h1, List.mem_cons_of_mem _ h2⟩
theorem op_eqDD (hu : X.A.units + 66 < cLine) : OpR X (compareOp .Eq) (rEqDD X.K) := by
  intro pins s σ H x y v u Q I rx ry h
  obtain ⟨a, b, ks, ls, f, g, rfl, rfl, ea, eb, hkl, hf, hg, q⟩ := h
  obtain rfl : v = Value.ref a := rx
  obtain rfl : u = Value.ref b := ry
  obtain ⟨_, ya, va, ra, da⟩ := (show ObjOk X.prog X.w H s.heap a (.dK ks) from I.hok a _ ea)
  obtain ⟨_, yb, vb, rb, db⟩ := (show ObjOk X.prog X.w H s.heap b (.dK ls) from I.hok b _ eb)
  have hl : va.length = vb.length := by
    rw [← ra.length, ← rb.length]
    have := congrArg List.length hkl
    simpa using this
  have hits : ∀ {ks : List (Key × V)} {va : List (Key × Value)}, KV ks va → (∀ p ∈ ks, p.1 ∈ ls.map (·.1)) → (∀ p ∈ ks, Dp X.K H p.2 (f p.1) ∧ SeqAt.shaped (f p.1) = true) → PySem.W.KeqHits X.A.in1 s vb va ((ks.map (·.1)).all fun k => PyData.eqv (f k) (g k)) := by
    intro ks va r
    unfold KV at r
    induction r with
    | nil => intro _ _; exact .nil
    | @cons p q ps qs h t ih =>
      intro hm hd
      obtain ⟨h1, h2⟩ := h
      obtain ⟨v, hv, hin⟩ := valV_mem (hm p List.mem_cons_self)
      have rr : RelO (some v) (valueAt vb p.1) := by rw [← hv]; exact rb.val p.1
      obtain ⟨y, hy, ry⟩ := rr.some_of
      obtain ⟨key, w⟩ := q
      have h1' : p.1 = key := h1
      subst h1'
      obtain ⟨d1, s1⟩ := hd p List.mem_cons_self
      obtain ⟨d2, s2⟩ := hg _ hin
      obtain ⟨as, r1⟩ := Dp.reads I _ _ w d1 h2
      obtain ⟨bs, r2⟩ := Dp.reads I _ _ y d2 ry
      show PySem.W.KeqHits X.A.in1 s vb ((p.1, w) :: qs) (PyData.eqv (f p.1) (g p.1) && _)
      exact .hit hy (PySem.W.keq_at r1 r2 s1 s2 (by show X.A.units + 1 + 64 < cLine; omega)) (ih (fun p' h' => hm p' (List.mem_cons_of_mem _ h')) fun p' h' => hd p' (List.mem_cons_of_mem _ h'))
  refine PySem.W.keq_eq (knd := mixKind X.prog X.w) (r := (ks.map (·.1)).all fun k => PyData.eqv (f k) (g k)) ya yb da db (by omega) (fun _ => hits ra (fun p hp => by rw [← hkl]; exact List.mem_map_of_mem hp) hf) ⟨.bl _, H, I, ?_, q⟩
  rw [hl]
  show Value.bool _ = Value.bool _
  rw [show (vb.length == vb.length) = true by simp, Bool.true_and]
end
end Z

set_option Elab.async false
set_option linter.all false
set_option maxRecDepth 100000
set_option maxHeartbeats 4000000
/-! enumerate of a tuple -/
namespace Z
open PySem PySem.Spec PyProof.Rows L2
section
variable {prog : Program} {w : World} {A : Around} {E : Value → Shared → Prop} {s : Shared} {q t : Addr} {i : Nat} {its : Array Value} {x : Value} {Q : Value → Shared → Prop}
theorem tupItem (hit : s.heap.IsTupleIter q t i) (ht : s.heap.IsTuple t its) (hx : its[i]? = some x) (hQ : ∀ h', h'.IsTupleIter q t (i + 1) → Heap.SameBut q s.heap h' → Q x { s with heap := h' }) :
    wpAny (model prog w) A (Builtin.SmallTypes.nextOf (.ref q)) Q E s := by
  obtain ⟨ob, ho, hc, hd⟩ := id hit; obtain ⟨ot, hot, _, nn, hdt⟩ := ht
  unfold Builtin.SmallTypes.nextOf; refine wpAny_bind (wpAny_callSpecial?_slot (name := Str.ofString "__next__") hit.typeIs F.slot_tuple_iterator_next (wpAny_call_entry F.slot_tuple_iterator_next hit.typeIs F.entry_tuple_iterator_next ?_ (F.args_tuple_iterator_next_1 _)))
  show wpAny _ _ (field (.ref q) 0 >>= _) _ _ s; refine wpAny_bind (wpAny_field ho hd (x := .ref t) rfl ?_)
  show wpAny _ _ (if (Value.ref t == Value.none) = true then _ else _) _ _ s; rw [if_neg (show ¬ ((Value.ref t == Value.none) = true) from Bool.false_ne_true)]
  show wpAny _ _ (field (.ref q) 1 >>= _) _ _ s; refine wpAny_bind (wpAny_field ho hd (x := .int i 0) rfl ?_)
  show wpAny _ _ (seqItems? (.ref t) >>= _) _ _ s; refine wpAny_bind (wpAny_seqItems hot hdt ?_); simp only [Int.toNat_natCast, hx]
  refine wpAny_bind (wpAny_setField ho hd (by simp) (wpAny_pure ⟨x, rfl, wpAny_pure (hQ _ ⟨_, Heap.get?_update_self _ ho (Obj.isFreed_of_fields (Obj.data_mapFields hd _)), (Obj.cls_mapFields ..).trans hc, by rw [Obj.data_mapFields hd]; simp [rawInt]⟩ (Heap.SameBut.update ..))⟩))
theorem tupDone (calm : A.handled = none) (hit : s.heap.IsTupleIter q t i) (ht : s.heap.IsTuple t its) (out : its[i]? = none)
    (hE : ∀ h' e, Heap.ExtBut q s.heap h' → (∃ o, h'.get? e = some o ∧ o.cls = .type "StopIteration") → E (.ref e) { s with heap := h' }) : wpAny (model prog w) A (Builtin.SmallTypes.nextOf (.ref q)) Q E s := by
  obtain ⟨ob, ho, hc, hd⟩ := id hit; obtain ⟨ot, hot, _, nn, hdt⟩ := ht
  unfold Builtin.SmallTypes.nextOf; refine wpAny_bind (wpAny_callSpecial?_slot (name := Str.ofString "__next__") hit.typeIs F.slot_tuple_iterator_next (wpAny_call_entry F.slot_tuple_iterator_next hit.typeIs F.entry_tuple_iterator_next ?_ (F.args_tuple_iterator_next_1 _)))
  show wpAny _ _ (field (.ref q) 0 >>= _) _ _ s; refine wpAny_bind (wpAny_field ho hd (x := .ref t) rfl ?_)
  show wpAny _ _ (if (Value.ref t == Value.none) = true then _ else _) _ _ s; rw [if_neg (show ¬ ((Value.ref t == Value.none) = true) from Bool.false_ne_true)]
  show wpAny _ _ (field (.ref q) 1 >>= _) _ _ s; refine wpAny_bind (wpAny_field ho hd (x := .int i 0) rfl ?_)
  show wpAny _ _ (seqItems? (.ref t) >>= _) _ _ s; refine wpAny_bind (wpAny_seqItems hot hdt ?_); simp only [Int.toNat_natCast, out]
  refine wpAny_bind (wpAny_rule (wpAny_bind (wpAny_setField ho hd (by simp) ?_))); show wpAny _ _ (newExc (.type "StopIteration") [] >>= _) _ _ _
  refine wpAny_bind ?_; simp only [newExc, newTuple]
  refine wpAny_bind (wpAny_newObj_type ?_ (by size_fits)); refine wpAny_bind (m := firstArgMember _ _) (wpAny_of_eq (a := Value.none) (by first | rfl | (simp only [firstArgMember]; rfl)) ?_)
  refine wpAny_newObj_type ?_ (by size_fits); simp only [raiseNew]
  refine wpAny_bind (wpAny_handled ?_); first | rw [show A.in1.handled = none from calm] | rw [calm]
  refine wpAny_bind (wpAny_pure (wpAny_throw ?_)); exact hE _ _ (((Heap.SameBut.update ..).extBut.push _).push _) ⟨_, Heap.get?_push_size _ rfl, rfl⟩
end
theorem drawsTup {prog : Program} {w : World} {A : Around} (calm : A.handled = none) (q t : Addr) (hne : t ≠ q) (its : Array Value) :
    Draws prog w A q [q, t] its.size (fun i v => its[i]? = some v) (fun i h => h.IsTupleIter q t i ∧ h.IsTuple t its) where
  live := fun _ _ st => let ⟨o, ho, _⟩ := st.1; ⟨o, ho⟩
  frame := fun _ _ _ st hk => ⟨let ⟨o, ho, r⟩ := st.1; ⟨o, hk q (by simp) o ho, r⟩, let ⟨o, ho, r⟩ := st.2; ⟨o, hk t (by simp) o ho, r⟩⟩
  item := fun i s Q E hi st hQ => by
    refine tupItem st.1 st.2 (x := its[i]) (by simp [hi]) fun h' hit' sb => ?_
    exact hQ _ h' s.toks (by simp [hi]) ⟨hit', st.2.extBut sb.extBut hne⟩ sb
  done := fun s Q E st hE => tupDone calm st.1 st.2 (by simp) hE
/-- the end alone -/
theorem drawsEnd {prog : Program} {w : World} {A : Around} (calm : A.handled = none) (q t : Addr) (its : Array Value) (i : Nat) (out : its[i]? = none) :
    Draws prog w A q [q, t] i (fun _ _ => True) (fun j h => j = i ∧ h.IsTupleIter q t j ∧ h.IsTuple t its) where
  live := fun _ _ st => let ⟨o, ho, _⟩ := st.2.1; ⟨o, ho⟩
  frame := fun _ _ _ st hk => ⟨st.1, let ⟨o, ho, r⟩ := st.2.1; ⟨o, hk q (by simp) o ho, r⟩, let ⟨o, ho, r⟩ := st.2.2; ⟨o, hk t (by simp) o ho, r⟩⟩
  item := fun j s Q E hi st hQ => by
    have := st.1
    omega
  done := fun s Q E st hE => tupDone calm st.2.1 st.2.2 out hE
/-- the tuple at a, each item in a new pair -/
def IteT (K : PySem.W.Frag) (a : Addr) : It :=
  ⟨fun i H => ∃ (xs : List V) (x : V), SqT K H a xs ∧ xs[i]? = some x, fun i H v H' => ∃ T x, v = .ref T ∧ H T = none ∧ H' = upd H T (.tup [.int (i : Nat), x]) ∧ ∀ xs, SqT K H a xs → xs[i]? = some x, fun i H => ∃ xs : List V, SqT K H a xs ∧ xs.length ≤ i⟩
theorem turn_enumT {P : Program} {w : World} {K : PySem.W.Frag} {elts : List Expr} {kk : Nat} {tpos : Pos} (a e it : Addr) :
    Turn P w K (.Tuple elts kk tpos) (IteT K a) [e, it] e (fun i h => (∃ old, IsEnum h e it ((i : Nat) : Int) old) ∧ h.IsTupleIter it a i ∧ e ≠ it ∧ a ≠ it ∧ a ≠ e) where
  mem := by simp
  obj := fun i h st b hb => by
    obtain ⟨⟨old, he⟩, ⟨o, ho, hc, hd⟩, _⟩ := st
    have e' : b = e ∨ b = it := by simpa using hb
    rcases e' with z | z
    · rw [z]; exact ⟨_, he, fun v q => nomatch q⟩
    · rw [z]; exact ⟨o, ho, fun v q => by rw [hd] at q; cases q⟩
  keep := fun i h h' st k => let ⟨⟨old, he⟩, ⟨o, ho, r⟩, hne⟩ := st; ⟨⟨old, k e (by simp) _ he⟩, ⟨o, k it (by simp) _ ho, r⟩, hne⟩
  item := by
    intro X hP hw hK hc i pins s σ H E I hf st hg
    subst hP hw hK
    obtain ⟨⟨old, he⟩, hit, hne, hai, hae⟩ := st
    obtain ⟨xs, x, hq, hx⟩ := hg
    obtain ⟨its, rv, p, hz⟩ := I.tuple hq
    obtain ⟨u, hu, ru⟩ := rv.get hx
    have hel : e < s.heap.objs.size := Heap.lt_size he
    have hil : it < s.heap.objs.size := by obtain ⟨_, z, _⟩ := hit; exact Heap.lt_size z
    have hlt : i < its.toArray.size := by
      have := (List.getElem?_eq_some_iff.mp hu).1
      simpa using this
    refine wpAny_pyNext_enum_itemD (drawsTup (by first | exact I.ok.hd hc | (show X.A.in1.handled = none; exact I.ok.hd hc)) it a hai its.toArray) he ⟨hit, p⟩ hlt hne (by simp [hne, Ne.symm hae]) fun x' h' tk hx' ho hst' hT hsz hk => ?_
    obtain rfl : x' = u := by
      rw [show its.toArray[i]? = its[i]? by simp, hu] at hx'
      exact (Option.some.inj hx').symm
    refine ⟨_, rfl, wpAny_letOwnedTupleGo_enum (s := { s with heap := h', toks := tk + 1 }) ho fun h'' he' sb => ?_⟩
    have hT2 : h''.get? s.heap.objs.size = some { cls := .type "tuple", data := .seq #[.int i tk, x'] } := (sb.2 _ (Nat.ne_of_gt hel)).trans hT
    have new : ObjOk X.prog X.w (upd H s.heap.objs.size (.tup [.int (i : Nat), x])) h'' s.heap.objs.size (.tup [.int (i : Nat), x]) :=
      ⟨by show 2 ≤ sizeLine; decide, [.int i tk, x'], .cons ⟨_, rfl⟩ (.cons ru .nil), ⟨_, hT2, rfl, _, rfl⟩⟩
    have I1 : Inv X pins σ (upd H s.heap.objs.size (.tup [.int (i : Nat), x])) { s with heap := h'', toks := tk + 1 } :=
      I.turnedNew (ch := [e, it]) (fun b ob hb z => (sb.2 b (fun y => hb (by simp [y]))).trans (hk b ob (fun y => hb (by simp [y])) (fun y => hb (by simp [y])) z)) hf (Nat.le_refl _) new
    have hit2 : h''.IsTupleIter it a (i + 1) := let ⟨o, ho, r⟩ := hst'.1; ⟨o, (sb.2 it (Ne.symm hne)).trans ho, r⟩
    refine ⟨.ref s.heap.objs.size, _, I1, rfl, ⟨_, x, rfl, I.hok.fresh (Nat.le_refl _), rfl, fun ys hy => by rw [I.tuple_inj hy hq]; exact hx⟩, ⟨⟨x', ?_⟩, hit2, hne, hai, hae⟩, fun b hb => ?_⟩
    · have e1 : ((i + 1 : Nat) : Int) = (i : Int) + 1 := by omega
      rw [e1]; exact he'
    · have hb' : b < s.heap.objs.size := by
        have e' : b = e ∨ b = it := by simpa using hb
        rcases e' with z | z
        · rw [z]; exact hel
        · rw [z]; exact hil
      rw [upd_ne (Nat.ne_of_lt hb')]
      exact (hf b hb).1
  done := by
    intro X hP hw hK hc i pins s σ H E I hf st hg
    subst hP hw hK
    obtain ⟨⟨old, he⟩, hit, hne, hai, hae⟩ := st
    obtain ⟨xs, hq, hx⟩ := hg
    obtain ⟨its, rv, p, hz⟩ := I.tuple hq
    obtain ⟨f0, f1, f2, f3, f4, f5⟩ := hf it (by simp)
    have hl := rv.length
    refine wpAny_pyNext_enum_endD (drawsEnd (by first | exact I.ok.hd hc | (show X.A.in1.handled = none; exact I.ok.hd hc)) it a its.toArray i (by simp; omega)) he ⟨rfl, hit, p⟩ fun h' eb => ⟨rfl, I.turned (t' := s.toks) (fun b o hb q => eb b o hb q) f0 f1 f3 f4 f5⟩
  self := fun A i s Q E st h => let ⟨⟨_, he⟩, _⟩ := st; wpAny_pyIter_enum he h
set_option maxHeartbeats 4000000 in
theorem enumNewT (l : Addr) (its : Array Value) (n : Nat) (dct : Option Addr) (sl : Array (Option Value)) :
    Meets (Builtin.«enumerate.__new__» ⟨[.type "enumerate", .ref l], []⟩) (fun _ R s => s.heap.get? l = some { cls := .type "tuple", dict := dct, data := .seq its n, slots := sl } ∧
      R (.ok (.ret (.ref (s.heap.push { cls := .type "tuple_iterator", data := .fields #[.ref l, .int 0 0] }).objs.size)))
        { s with heap := (s.heap.push { cls := .type "tuple_iterator", data := .fields #[.ref l, .int 0 0] }).push { cls := .type "enumerate", data := .fields #[.none, .bool false, .ref s.heap.objs.size, rawInt 0, .none, .none] } }) :=
  .of_wp fun prog w A R s h => by
    obtain ⟨hl, h⟩ := h
    obtain ⟨hp, g, d, tk, os⟩ := s
    have hT : (⟨hp, g, d, tk, os⟩ : Shared).heap.IsTuple l its := ⟨_, hl, rfl, n, rfl⟩
    have hsub := sub_enumerate
    wp_walk
    refine wpAny_stack_any fun st => wpAny_pure ?_
    split
    · rename_i c _ _ _ _ _
      cases (c == Value.type "enumerate")
      · wp_walk using wpAny_loadPart' hl, wpAny_pyIter_tuple hT
        exact ⟨_, rfl, h⟩
      · wp_walk using wpAny_loadPart' hl, wpAny_pyIter_tuple hT
        exact ⟨_, rfl, h⟩
    · wp_walk using wpAny_loadPart' hl, wpAny_pyIter_tuple hT
      exact ⟨_, rfl, h⟩
theorem callEnumT {prog : Program} {w : World} {A : Around} {E : Value → Shared → Prop} {s : Shared} {l : Addr} {its : Array Value} {Q : Value → Shared → Prop} (hL : s.heap.IsTuple l its)
    (h : ∀ h', IsEnum h' (s.heap.objs.size + 1) s.heap.objs.size 0 .none → h'.IsTupleIter s.heap.objs.size l 0 → (∀ b o, s.heap.get? b = some o → h'.get? b = some o) → Q (.ref (s.heap.objs.size + 1)) { s with heap := h' }) :
    wpAny (model prog w) A (call (.type "enumerate") [.ref l]) Q E s := by
  obtain ⟨⟨c, dct, dt, sl⟩, hl, hc, n, hd⟩ := hL
  replace hc : c = .type "tuple" := hc
  replace hd : dt = .seq its n := hd
  subst hc hd
  refine callType_new F.called_enumerate (by decide) (F.typeCall_enumerate_1 _) (F.newCall_enumerate_1 _) (fun obj => F.args_object_init_2 obj _) F.entry_enumerate_new (enumNewT l its n dct sl) ⟨hl, ?_⟩
  have hz : (s.heap.push { cls := .type "tuple_iterator", data := .fields #[.ref l, .int 0 0] }).objs.size = s.heap.objs.size + 1 := Heap.size_push ..
  show _ ∧ _
  rw [hz]
  have he : IsEnum ((s.heap.push { cls := .type "tuple_iterator", data := .fields #[.ref l, .int 0 0] }).push { cls := .type "enumerate", data := .fields #[.none, .bool false, .ref s.heap.objs.size, rawInt 0, .none, .none] }) (s.heap.objs.size + 1) s.heap.objs.size 0 .none := by
    have := Heap.get?_push_size (s.heap.push { cls := .type "tuple_iterator", data := .fields #[.ref l, .int 0 0] }) (o := { cls := .type "enumerate", data := .fields #[.none, .bool false, .ref s.heap.objs.size, rawInt 0, .none, .none] }) rfl
    rw [hz] at this; exact this
  exact ⟨⟨_, he, rfl⟩, h _ he ⟨_, Heap.get?_push_of_some _ (Heap.get?_push_size _ rfl), rfl, rfl⟩ fun b o x => Heap.get?_push_of_some _ (Heap.get?_push_of_some _ x)⟩
def iEnumT (K : PySem.W.Frag) (ta : TA) : TI := fun σ H R => ta σ H fun vs H1 => ∃ a xs, vs = [.ref a] ∧ SqT K H1 a xs ∧ R (IteT K a) H1
theorem pi_enumT {X : Cx} {e : Expr} {ta : TA} {p pos tpos : Pos} {elts : List Expr} {kk : Nat} (hg : Gl X "enumerate") (hm : X.mg "enumerate" = none) (ha : PA X [e] ta) (hs : starEach [e] X.env = [(false, eval e X.env)] := by rfl) :
    PI X (.Tuple elts kk tpos) (.Call (.Name "enumerate" p) [e] [] pos) (iEnumT X.K ta) := by
  refine ⟨fun pins s σ H R I h => ?_⟩
  refine Call_ (ld_blt I hg hm boot_enumerate (PyProof.Rows.callWith_type1 (thn (ha.run pos pins s σ H _ I h) fun us s1 ⟨vs, H1, I1, r1, q1⟩ => ?_) hs rfl))
  obtain ⟨a, xs, ex, hq, q⟩ := q1
  subst ex
  obtain ⟨u, rfl, r⟩ := r1.one
  cases r
  obtain ⟨its, rv, p', hz⟩ := I1.tuple hq
  refine callEnumT p' fun h' he hit hk => wpAny_pyIter_enum he ?_
  have I2 : Inv X pins σ H1 { s1 with heap := h' } := I1.kept (t' := s1.toks) hk
  have hal : a < s1.heap.objs.size := by obtain ⟨_, z, _⟩ := p'; exact Heap.lt_size z
  refine ⟨s1.heap.objs.size + 1, [s1.heap.objs.size + 1, s1.heap.objs.size], _, _, H1, rfl, I2, turn_enumT a (s1.heap.objs.size + 1) s1.heap.objs.size, ⟨⟨.none, he⟩, hit, Nat.succ_ne_self _, Nat.ne_of_lt hal, Nat.ne_of_lt (Nat.lt_succ_of_lt hal)⟩, fun b hb => ?_, q⟩
  have e' : b = s1.heap.objs.size + 1 ∨ b = s1.heap.objs.size := by simpa using hb
  have hle : s1.heap.objs.size ≤ b := by
    rcases e' with z | z
    · rw [z]; exact Nat.le_add_right _ _
    · rw [z]; exact Nat.le_refl _
  exact I1.fpOk hle (I1.hok.fresh hle)
end Z

set_option Elab.async false
set_option linter.all false
set_option maxRecDepth 100000
set_option maxHeartbeats 4000000
/-! what is walked, be it a list or a tuple; readings of loops, comprehensions and dicts -/
namespace Z
open PySem PySem.Spec PyProof.Rows L2
def SqA (K : PySem.W.Frag) (H : Hp) (a : Addr) (xs : List V) : Prop := SqL K H a xs ∨ SqT K H a xs
/-- what stood at a stands there -/
def AtS (H : Hp) (a : Addr) (H' : Hp) : Prop := ∀ o, H a = some o → H' a = some o
section
variable {K : PySem.W.Frag} {H H' : Hp} {a : Addr} {xs : List V}
theorem AtS.refl : AtS H a H := fun _ e => e
theorem AtS.of (s : Same H H') : AtS H a H' := fun _ e => s _ _ e
theorem atL (s : AtS H a H') (h : SqL K H a xs) : SqL K H' a xs := by
  rcases h with (h | ⟨o, h⟩) | h
  · exact .inl (.inl (s _ h))
  · exact .inl (.inr ⟨o, s _ h⟩)
  · exact .inr h
theorem atT (s : AtS H a H') (h : SqT K H a xs) : SqT K H' a xs := by
  rcases h with (h | ⟨o, h⟩) | h
  · exact .inl (.inl (s _ h))
  · exact .inl (.inr ⟨o, s _ h⟩)
  · exact .inr h
theorem atA (s : AtS H a H') (h : SqA K H a xs) : SqA K H' a xs := h.elim (fun h => .inl (atL s h)) fun h => .inr (atT s h)
theorem sameA (s : Same H H') (h : SqA K H a xs) : SqA K H' a xs := atA (.of s) h
theorem SqA.l (h : H a = some (.lst xs)) : SqA K H a xs := .inl (.of h)
theorem SqA.t (h : H a = some (.tup xs)) : SqA K H a xs := .inr (.of h)
end
/-- e, a list or a tuple, item by item -/
def WkA (K : PySem.W.Frag) (H1 : Hp) (a : Addr) (xs : List V) (Y : Nat → Hp → V → Hp → Prop) (R : It → Prop) : Prop := (SqL K H1 a xs ∧ ∀ J, Walk J xs.length (fun H' => SqL K H' a xs) Y → R J) ∨ (SqT K H1 a xs ∧ ∀ J, Walk J xs.length (fun H' => SqT K H' a xs) Y → R J)
theorem WkA.intro {K : PySem.W.Frag} {H0 H1 : Hp} {a : Addr} {xs : List V} {Y : Nat → Hp → V → Hp → Prop} {R : It → Prop} (s : SqA K H0 a xs) (s1 : Same H0 H1) (h : ∀ J G, Walk J xs.length G Y → (∀ H', Same H0 H' → G H') → R J) : WkA K H1 a xs Y R := by
  rcases s with s | s
  · exact .inl ⟨atL (.of s1) s, fun J w => h J _ w fun H' z => atL (.of z) s⟩
  · exact .inr ⟨atT (.of s1) s, fun J w => h J _ w fun H' z => atT (.of z) s⟩
def iAny (K : PySem.W.Frag) (tl : TE) : TI := fun σ H R => tl σ H fun x H1 => ∃ a xs, x = .ref a ∧ WkA K H1 a xs (YAt xs) fun J => R J H1
theorem pi_any {X : Cx} {K : PySem.W.Frag} {tg l : Expr} {tl : TE} (hK : X.K = K) (hl : PE X l tl) : PI X tg l (iAny K tl) := by
  subst hK
  refine ⟨fun pins s σ H R I h => ?_⟩
  refine thn (hl.run pins s σ H _ I h) fun v s1 ⟨x, H1, I1, r1, q1⟩ => ?_
  obtain ⟨a, xs, e, hq⟩ := q1
  subst e
  cases r1
  have one : ∀ b ∈ [s1.heap.objs.size], FpOk X pins H1 b := fun b hb => by
    have e : b = s1.heap.objs.size := by simpa using hb
    subst e
    exact I1.fpOk (Nat.le_refl _) (I1.hok.fresh (Nat.le_refl _))
  rcases hq with ⟨hq, q⟩ | ⟨hq, q⟩
  · obtain ⟨its, rv, p, hz⟩ := I1.list hq
    exact wpAny_pyIter_list p.isList ⟨s1.heap.objs.size, [s1.heap.objs.size], _, _, H1, rfl, I1.kept (t' := s1.toks) fun b o e => Heap.get?_push_of_some _ e, turn_list a _, ⟨_, Heap.get?_push_size _ rfl, rfl, rfl⟩, one, q _ walk_list⟩
  · obtain ⟨its, rv, p, hz⟩ := I1.tuple hq
    exact wpAny_pyIter_tuple (show s1.heap.IsTuple a its.toArray from p) ⟨s1.heap.objs.size, [s1.heap.objs.size], _, _, H1, rfl, I1.kept (t' := s1.toks) fun b o e => Heap.get?_push_of_some _ e, turn_tuple a _, ⟨_, Heap.get?_push_size _ rfl, rfl, rfl⟩, one, q _ walk_tup⟩
theorem walk_enumT {K : PySem.W.Frag} {a : Addr} {xs : List V} : Walk (IteT K a) xs.length (fun H => SqT K H a xs) (YPair (fun i => some (.int (i : Nat))) (fun i => xs[i]?)) := by
  refine ⟨fun i _ hi q => ⟨xs, xs[i], q, by simp [hi]⟩, fun _ q => ⟨xs, q, Nat.le_refl _⟩, fun i H v H' _ q y => ?_⟩
  obtain ⟨T, x, h1, h2, h3, h4⟩ := y
  exact ⟨T, .int (i : Nat), x, h1, h2, h3, rfl, h4 xs q⟩
/-- enumerate of a list or a tuple -/
def iEnA (K : PySem.W.Frag) (ta : TA) : TI := fun σ H R => ta σ H fun vs H1 => ∃ a xs, vs = [.ref a] ∧ WkA K H1 a xs (YPair (fun i => some (.int (i : Nat))) (fun i => xs[i]?)) fun J => R J H1
theorem pi_enA {X : Cx} {K : PySem.W.Frag} {e : Expr} {ta : TA} {p pos tpos : Pos} {elts : List Expr} {kk : Nat} (hK : X.K = K) (hg : Gl X "enumerate") (hm : X.mg "enumerate" = none) (ha : PA X [e] ta) (hs : starEach [e] X.env = [(false, eval e X.env)] := by rfl) :
    PI X (.Tuple elts kk tpos) (.Call (.Name "enumerate" p) [e] [] pos) (iEnA K ta) := by
  subst hK
  refine ⟨fun pins s σ H R I h => ?_⟩
  refine Call_ (ld_blt I hg hm boot_enumerate (PyProof.Rows.callWith_type1 (thn (ha.run pos pins s σ H _ I h) fun us s1 ⟨vs, H1, I1, r1, q1⟩ => ?_) hs rfl))
  obtain ⟨a, xs, ex, hq⟩ := q1
  subst ex
  obtain ⟨u, rfl, r⟩ := r1.one
  cases r
  have two : ∀ b ∈ [s1.heap.objs.size + 1, s1.heap.objs.size], FpOk X pins H1 b := fun b hb => by
    have e' : b = s1.heap.objs.size + 1 ∨ b = s1.heap.objs.size := by simpa using hb
    have hle : s1.heap.objs.size ≤ b := by
      rcases e' with z | z
      · rw [z]; exact Nat.le_add_right _ _
      · rw [z]; exact Nat.le_refl _
    exact I1.fpOk hle (I1.hok.fresh hle)
  rcases hq with ⟨hq, q⟩ | ⟨hq, q⟩
  · obtain ⟨its, rv, p', hz⟩ := I1.list hq
    refine call_enumerate_list p'.isList fun h' he hit hsz hk => wpAny_pyIter_enum he ?_
    exact ⟨s1.heap.objs.size + 1, [s1.heap.objs.size + 1, s1.heap.objs.size], _, _, H1, rfl, I1.kept (t' := s1.toks) hk, turn_enum a (s1.heap.objs.size + 1) s1.heap.objs.size, ⟨⟨.none, he⟩, hit, Nat.succ_ne_self _⟩, two, q _ walk_enum⟩
  · obtain ⟨its, rv, p', hz⟩ := I1.tuple hq
    refine callEnumT p' fun h' he hit hk => wpAny_pyIter_enum he ?_
    have hal : a < s1.heap.objs.size := by obtain ⟨_, z, _⟩ := p'; exact Heap.lt_size z
    exact ⟨s1.heap.objs.size + 1, [s1.heap.objs.size + 1, s1.heap.objs.size], _, _, H1, rfl, I1.kept (t' := s1.toks) hk, turn_enumT a (s1.heap.objs.size + 1) s1.heap.objs.size, ⟨⟨.none, he⟩, hit, Nat.succ_ne_self _, Nat.ne_of_lt hal, Nat.ne_of_lt (Nat.lt_succ_of_lt hal)⟩, two, q _ walk_enumT⟩
/-! ### readings -/
section
variable {K : PySem.W.Frag} {σ : L2.St} {H H0 : Hp} {D : Ends} {te tl tk tv td ty : TE} {tt tt1 : TT} {tr : TA} {g g1 : TG} {tb : TS} {Q : VK} {a : Addr} {xs : List V} {n : Nat}
def rForA (K : PySem.W.Frag) (g : TG) (tb : TS) (D : Ends) (σ : L2.St) (x : V) (H1 : Hp) : Prop := ∃ a xs, x = .ref a ∧ WkA K H1 a xs (YAt xs) fun J => rFor J g tb D σ H1
theorem i_forA0 (h : tl σ H (fun x H1 => rForA K g tb D σ x H1)) : tFor (iAny K tl) g tb D σ H := h
theorem i_forA (Pv : Nat → L2.St → Hp → Prop) (s : SqA K H0 a xs) (h0 : Pv 0 σ H) (hl : ∀ i σ H1, Pv i σ H1 → Same H0 H1)
    (hs : ∀ i x σ H, xs[i]? = some x → Pv i σ H → g x σ H fun σ2 H2 => tb { D with nx := Pv (i + 1), ct := Pv (i + 1), bk := D.nx } σ2 H2) (hd : ∀ σ H, Pv xs.length σ H → D.nx σ H) : rForA K g tb D σ (.ref a) H :=
  ⟨a, xs, rfl, .intro s (hl _ _ _ h0) fun J G w hG => for_it w Pv h0 (fun i σ H1 _ p => hG _ (hl i σ H1 p)) (fun i x σ H H' _ p y => by obtain ⟨rfl, e⟩ := y; exact hs i x σ _ e p) hd⟩
def rEnA (K : PySem.W.Frag) (g : TG) (tb : TS) (D : Ends) (σ : L2.St) (vs : List V) (H1 : Hp) : Prop := ∃ a xs, vs = [.ref a] ∧ WkA K H1 a xs (YPair (fun i => some (.int (i : Nat))) (fun i => xs[i]?)) fun J => rFor J g tb D σ H1
theorem i_enA0 (h : tr σ H (fun vs H1 => rEnA K g tb D σ vs H1)) : tFor (iEnA K tr) g tb D σ H := h
theorem i_enA (Pv : Nat → L2.St → Hp → Prop) (s : SqA K H0 a xs) (h0 : Pv 0 σ H) (hl : ∀ i σ H1, Pv i σ H1 → Same H0 H1)
    (hs : ∀ i x T σ H H2, xs[i]? = some x → Pv i σ H → H T = none → Same H H2 → H2 T = some (.tup [.int (i : Nat), x]) → (∀ b, b ≠ T → H2 b = H b) → g (.ref T) σ H2 fun σ2 H2 => tb { D with nx := Pv (i + 1), ct := Pv (i + 1), bk := D.nx } σ2 H2)
    (hd : ∀ σ H, Pv xs.length σ H → D.nx σ H) : rEnA K g tb D σ [.ref a] H :=
  ⟨a, xs, rfl, .intro s (hl _ _ _ h0) fun J G w hG => for_it w Pv h0 (fun i σ H1 _ p => hG _ (hl i σ H1 p)) (fun i x σ H H' _ p y => by
    obtain ⟨T, v, z, rfl, hT, rfl, e1, e2⟩ := y
    cases e1
    exact hs i z T σ H _ e2 p hT (fun b o e => by rw [upd_ne (ne_of_none e hT)]; exact e) upd_same fun b hb => upd_ne hb) hd⟩
/-- list comprehensions over it -/
def rLcA (K : PySem.W.Frag) (g : TG) (tt : TT) (te : TE) (vs : List Nat) (σ : L2.St) (Q : VK) (x : V) (H1 : Hp) : Prop := ∃ a xs, x = .ref a ∧ WkA K H1 a xs (YAt xs) fun J => ∀ D, H1 D = none → ∃ W : Nat → Nat → Hp → Prop, (∃ m, W 0 m (upd H1 D (.lst []))) ∧ ∀ i m H, W i m H →
  (J.stop i H ∧ Q (.ref D) H) ∨ (J.go i H ∧ ∃ Nx : Hp → Prop, (∀ H', Nx H' → ∃ m', m' < m ∧ W (i + 1) m' H') ∧ ∀ x H', J.yld i H x H' → g x (wipe σ vs) H' fun σ2 H2 => wipe σ2 vs = wipe σ vs ∧ tt σ2 H2 fun b H3 =>
    if b = true then te σ2 H3 fun y H4 => ∃ acc, H4 D = some (.lst acc) ∧ acc.length < sizeLine ∧ Nx (upd H4 D (.lst (acc ++ [y]))) else Nx H3)
theorem i_lcA0 {vs : List Nat} (h : tl σ H (fun x H1 => rLcA K g tt te vs σ Q x H1)) : tLc (iAny K tl) g tt te vs σ H Q := h
theorem i_lcA {vs : List Nat} (Pv : Nat → List V → Hp → Prop) (s : SqA K H0 a xs) (s0 : Same H0 H) (h0 : ∀ D H', H D = none → Same H H' → H' D = some (.lst []) → (∀ b, b ≠ D → H' b = H b) → Pv 0 [] H')
    (hl : ∀ i ys H1, Pv i ys H1 → Same H0 H1)
    (hs : ∀ i x D ys H1, H D = none → xs[i]? = some x → H1 D = some (.lst ys) → Pv i ys H1 → g x (wipe σ vs) H1 fun σ2 H2 => wipe σ2 vs = wipe σ vs ∧ tt σ2 H2 fun b H3 => if b = true then te σ2 H3 fun y H4 => rLcE D Pv i y H4 else LcS D Pv (i + 1) H3)
    (hd : ∀ D ys H1, H D = none → H1 D = some (.lst ys) → Pv xs.length ys H1 → Q (.ref D) H1) : rLcA K g tt te vs σ Q (.ref a) H := by
  refine ⟨a, xs, rfl, .intro s s0 fun J G w hG D hD => ?_⟩
  refine lc_it w (LcS D Pv) ⟨[], upd_same, h0 D _ hD (fun b o e => by rw [upd_ne (ne_of_none e hD)]; exact e) upd_same (fun b hb => upd_ne hb)⟩ ?_ ?_ ?_
  · rintro i H' _ ⟨ys, _, p⟩
    exact hG _ (hl i ys H' p)
  · rintro i x H1 H2 hi ⟨ys, hD', p⟩ ⟨rfl, e⟩
    exact hs i x D ys _ hD e hD' p
  · rintro H' ⟨ys, hD', p⟩
    exact hd D ys H' hD hD' p
/-- dict comprehensions over it -/
def DcS (D : Addr) (Pv : Nat → List (Key × V) → Hp → Prop) (i : Nat) (H : Hp) : Prop := ∃ kvs, H D = some (.dK kvs) ∧ Pv i kvs H
def rDcE (D : Addr) (Pv : Nat → List (Key × V) → Hp → Prop) (i : Nat) (y z : V) (H5 : Hp) : Prop := ∃ kvs k, y = kV k ∧ H5 D = some (.dK kvs) ∧ kvs.length < sizeLine ∧ DcS D Pv (i + 1) (upd H5 D (.dK (putK kvs k z)))
theorem i_dcE {D : Addr} {Pv : Nat → List (Key × V) → Hp → Prop} {i : Nat} {y : Str} {z : V} {kvs : List (Key × V)} (e : H D = some (.dK kvs)) (l : kvs.length < 100000) (h : ∀ H5, H5 D = some (.dK (putK kvs (.inr y) z)) → (∀ c, c ≠ D → H5 c = H c) → Pv (i + 1) (putK kvs (.inr y) z) H5) : rDcE D Pv i (.str y) z H :=
  ⟨kvs, .inr y, rfl, e, Nat.lt_of_lt_of_le l (by decide), _, upd_same, h _ upd_same (fun c hc => upd_ne hc)⟩
def rDcA (K : PySem.W.Frag) (g : TG) (tt : TT) (tk tv : TE) (vs : List Nat) (σ : L2.St) (Q : VK) (x : V) (H1 : Hp) : Prop := ∃ a xs, x = .ref a ∧ WkA K H1 a xs (YAt xs) fun J => ∀ D, H1 D = none → ∃ W : Nat → Nat → Hp → Prop, (∃ m, W 0 m (upd H1 D (.dK []))) ∧ ∀ i m H, W i m H →
  (J.stop i H ∧ Q (.ref D) H) ∨ (J.go i H ∧ ∃ Nx : Hp → Prop, (∀ H', Nx H' → ∃ m', m' < m ∧ W (i + 1) m' H') ∧ ∀ x H', J.yld i H x H' → g x (wipe σ vs) H' fun σ2 H2 => wipe σ2 vs = wipe σ vs ∧ tt σ2 H2 fun b H3 =>
    if b = true then tk σ2 H3 fun y H4 => tv σ2 H4 fun z H5 => ∃ kvs k, y = kV k ∧ H5 D = some (.dK kvs) ∧ kvs.length < sizeLine ∧ Nx (upd H5 D (.dK (putK kvs k z))) else Nx H3)
theorem i_dcA0 {vs : List Nat} (h : tl σ H (fun x H1 => rDcA K g tt tk tv vs σ Q x H1)) : tDc (iAny K tl) g tt tk tv vs σ H Q := h
theorem i_dcA {vs : List Nat} (Pv : Addr → Nat → List (Key × V) → Hp → Prop) (s : SqA K H0 a xs) (s0 : Same H0 H) (h0 : ∀ D H', H D = none → Same H H' → H' D = some (.dK []) → (∀ b, b ≠ D → H' b = H b) → Pv D 0 [] H')
    (hl : ∀ D i ys H1, Pv D i ys H1 → Same H0 H1)
    (hs : ∀ i x D kvs H1, H D = none → xs[i]? = some x → H1 D = some (.dK kvs) → Pv D i kvs H1 → g x (wipe σ vs) H1 fun σ2 H2 => wipe σ2 vs = wipe σ vs ∧ tt σ2 H2 fun b H3 => if b = true then tk σ2 H3 fun y H4 => tv σ2 H4 fun z H5 => rDcE D (Pv D) i y z H5 else DcS D (Pv D) (i + 1) H3)
    (hd : ∀ D kvs H1, H D = none → H1 D = some (.dK kvs) → Pv D xs.length kvs H1 → Q (.ref D) H1) : rDcA K g tt tk tv vs σ Q (.ref a) H := by
  refine ⟨a, xs, rfl, .intro s s0 fun J G w hG D hD => ⟨fun i m H => m = xs.length - i ∧ i ≤ xs.length ∧ DcS D (Pv D) i H, ⟨xs.length, by simp, Nat.zero_le _, [], upd_same, h0 D _ hD (fun b o e => by rw [upd_ne (ne_of_none e hD)]; exact e) upd_same (fun b hb => upd_ne hb)⟩, ?_⟩⟩
  rintro i m H' ⟨rfl, hi, kvs, hD', p⟩
  have q := hG _ (hl D i kvs H' p)
  by_cases hlt : i < xs.length
  · refine .inr ⟨w.goes i H' hlt q, DcS D (Pv D) (i + 1), fun H'' p' => ⟨xs.length - (i + 1), by omega, rfl, hlt, p'⟩, fun x H'' y => ?_⟩
    obtain ⟨rfl, e⟩ := w.yields i H' x H'' hlt q y
    exact hs i x D kvs _ hD e hD' p
  · have e : i = xs.length := by omega
    subst e
    exact .inl ⟨w.stops H' q, hd D kvs H' hD hD' p⟩
/-! dicts -/
def rDGet (x y : V) (H2 : Hp) (Q : VK) : Prop := ∃ a v, x = .ref a ∧ DGet H2 a y (some v) ∧ Q v H2
theorem i_dget0 (h : td σ H (fun x H1 => ty σ H1 (fun y H2 => rDGet x y H2 Q))) : tDGet td ty σ H Q := h
theorem i_dget {kvs : List (Key × V)} {z : Str} {v : V} (e : H a = some (.dK kvs)) (l : valV kvs (.inr z) = some v) (h : Q v H) : rDGet (.ref a) (.str z) H Q := ⟨a, v, rfl, by rw [← l]; exact DGet.k (k := .inr z) e, h⟩
def rDIn (y x : V) (H2 : Hp) (Q : VK) : Prop := ∃ a o, x = .ref a ∧ DGet H2 a y o ∧ Q (.bl o.isSome) H2
theorem i_din0 (h : ty σ H (fun y H1 => td σ H1 (fun x H2 => rDIn y x H2 Q))) : tDIn ty td σ H Q := h
theorem i_din {kvs : List (Key × V)} {z : Str} {b : Bool} (e : H a = some (.dK kvs)) (l : (valV kvs (.inr z)).isSome = b) (h : Q (.bl b) H) : rDIn (.str z) (.ref a) H Q := ⟨a, _, rfl, DGet.k (k := .inr z) e, by rw [l]; exact h⟩
def rDPut (v x y : V) (H3 : Hp) (P : Hp → Prop) : Prop := ∃ a H4, x = .ref a ∧ DPut H3 a y v H4 ∧ P H4
theorem i_dput0 (h : tv σ H (fun v H1 => td σ H1 (fun x H2 => ty σ H2 (fun y H3 => rDPut v x y H3 (fun H4 => D.nx σ H4))))) : sDPut td ty tv D σ H := h
theorem i_dput {kvs : List (Key × V)} {z : Str} {v : V} {P : Hp → Prop} (e : H a = some (.dK kvs)) (l : kvs.length < 100000) (h : ∀ H4, H4 a = some (.dK (putK kvs (.inr z) v)) → (∀ b, b ≠ a → H4 b = H b) → P H4) : rDPut v (.ref a) (.str z) H P :=
  ⟨a, _, rfl, DPut.k (k := .inr z) e (Nat.lt_of_lt_of_le l (by decide)), h _ upd_same fun b hb => upd_ne hb⟩
/-- the merge of two dicts -/
def rMg2 (p : Addr) (kvs : List (Key × V)) (y : V) (H2 : Hp) (Q : VK) : Prop := ∃ b ls, y = .ref b ∧ p ≠ b ∧ H2 b = some (.dK ls) ∧ H2 p = some (.dK kvs) ∧ ls.length ≤ 1000 ∧ Q (.ref p) (upd H2 p (.dK (mergeK kvs ls)))
def rMg1 (p : Addr) (t2 : TE) (σ : L2.St) (x : V) (H1 : Hp) (Q : VK) : Prop := ∃ a ks, x = .ref a ∧ p ≠ a ∧ H1 a = some (.dK ks) ∧ H1 p = some (.dK []) ∧ ks.length ≤ 1000 ∧ t2 σ (upd H1 p (.dK (mergeK [] ks))) fun y H2 => rMg2 p (mergeK [] ks) y H2 Q
theorem i_mg0 {t1 t2 : TE} (h : ∀ p H1, H p = none → Same H H1 → H1 p = some (.dK []) → (∀ b, b ≠ p → H1 b = H b) → t1 σ H1 fun x H2 => rMg1 p t2 σ x H2 Q) : tMerge2 t1 t2 σ H Q :=
  fun p hp => h p _ hp (fun b o e => by rw [upd_ne (ne_of_none e hp)]; exact e) upd_same fun b hb => upd_ne hb
theorem i_mg1 {p : Addr} {ks : List (Key × V)} {t2 : TE} (ne : p ≠ a) (e : H a = some (.dK ks)) (ep : H p = some (.dK [])) (l : ks.length ≤ 1000) (h : ∀ H2, H2 p = some (.dK (mergeK [] ks)) → (∀ b, b ≠ p → H2 b = H b) → t2 σ H2 fun y H3 => rMg2 p (mergeK [] ks) y H3 Q) : rMg1 p t2 σ (.ref a) H Q :=
  ⟨a, ks, rfl, ne, e, ep, l, h _ upd_same fun b hb => upd_ne hb⟩
theorem i_mg2 {p : Addr} {kvs ls : List (Key × V)} (ne : p ≠ a) (e : H a = some (.dK ls)) (ep : H p = some (.dK kvs)) (l : ls.length ≤ 1000) (h : ∀ H2, H2 p = some (.dK (mergeK kvs ls)) → (∀ b, b ≠ p → H2 b = H b) → Q (.ref p) H2) : rMg2 p kvs (.ref a) H Q :=
  ⟨a, ls, rfl, ne, e, ep, l, h _ upd_same fun b hb => upd_ne hb⟩
/-- a display of one pair -/
theorem i_disp1 {tk tv : TE} (h : ∀ p H1, H p = none → Same H H1 → H1 p = some (.dK []) → (∀ b, b ≠ p → H1 b = H b) → tk σ H1 fun x H2 => tv σ H2 fun y H3 => H3 p = some (.dK []) ∧ ∃ z : Str, x = .str z ∧ ∀ H4, H4 p = some (.dK [(.inr z, y)]) → (∀ b, b ≠ p → H4 b = H3 b) → Q (.ref p) H4)
    (mono : ∀ (P P' : VK), (∀ x H, P x H → P' x H) → ∀ σ H, tk σ H P → tk σ H P') (mono2 : ∀ (P P' : VK), (∀ x H, P x H → P' x H) → ∀ σ H, tv σ H P → tv σ H P') : tDisp [(tk, tv)] σ H Q := by
  intro p hp
  refine mono _ _ (fun x H2 q => mono2 _ _ (fun y H3 q2 => ?_) _ _ q) _ _ (h p _ hp (fun b o e => by rw [upd_ne (ne_of_none e hp)]; exact e) upd_same fun b hb => upd_ne hb)
  obtain ⟨e, z, rfl, k⟩ := q2
  exact ⟨e, [(.inr z, y)], rfl, (by show 1 ≤ 15; decide), k _ upd_same fun b hb => upd_ne hb⟩
/-! comprehensions with two fors -/
def rLcIn (K : PySem.W.Frag) (D : Addr) (N : Hp → Prop) (g1 : TG) (tt1 : TT) (te : TE) (vs1 : List Nat) (σ2 : L2.St) (x1 : V) (H4 : Hp) : Prop := ∃ a xs, x1 = .ref a ∧ WkA K H4 a xs (YAt xs) fun J1 => ∃ W1 : Nat → Nat → Hp → Prop, (∃ m, W1 0 m H4) ∧ ∀ j k H, W1 j k H →
  (J1.stop j H ∧ N H) ∨ (J1.go j H ∧ ∃ Nx1 : Hp → Prop, (∀ H', Nx1 H' → ∃ k', k' < k ∧ W1 (j + 1) k' H') ∧ ∀ x H', J1.yld j H x H' → g1 x (wipe σ2 vs1) H' fun σ3 H5 => wipe σ3 vs1 = wipe σ2 vs1 ∧ tt1 σ3 H5 fun b H6 =>
    if b = true then te σ3 H6 fun y H7 => ∃ acc, H7 D = some (.lst acc) ∧ acc.length < sizeLine ∧ Nx1 (upd H7 D (.lst (acc ++ [y]))) else Nx1 H6)
def rLc2A (K : PySem.W.Frag) (g : TG) (tt : TT) (tl1 : TE) (g1 : TG) (tt1 : TT) (te : TE) (vs vs1 : List Nat) (σ : L2.St) (Q : VK) (x : V) (H1 : Hp) : Prop := ∃ a xs, x = .ref a ∧ WkA K H1 a xs (YAt xs) fun J => ∀ D, H1 D = none → ∃ W : Nat → Nat → Hp → Prop, (∃ m, W 0 m (upd H1 D (.lst []))) ∧ ∀ i m H, W i m H →
  (J.stop i H ∧ Q (.ref D) H) ∨ (J.go i H ∧ ∃ Nx : Hp → Prop, (∀ H', Nx H' → ∃ m', m' < m ∧ W (i + 1) m' H') ∧ ∀ x H', J.yld i H x H' → g x (wipe σ vs) H' fun σ2 H2 => wipe σ2 vs = wipe σ vs ∧ tt σ2 H2 fun b H3 =>
    if b = true then tl1 σ2 H3 fun x1 H4 => rLcIn K D Nx g1 tt1 te vs1 σ2 x1 H4 else Nx H3)
theorem i_lc2A0 {tl1 : TE} {vs vs1 : List Nat} (h : tl σ H (fun x H1 => rLc2A K g tt tl1 g1 tt1 te vs vs1 σ Q x H1)) : tLc2 (iAny K tl) g tt (iAny K tl1) g1 tt1 te vs vs1 σ H Q := h
theorem i_lcIn {D : Addr} {Pv Pw : Nat → List V → Hp → Prop} {i : Nat} {vs1 : List Nat} {ys : List V} (s : SqA K H0 a xs) (e : H D = some (.lst ys)) (h0 : Pw 0 ys H) (hl : ∀ j ys H1, Pw j ys H1 → Same H0 H1)
    (hs : ∀ j x ys H1, xs[j]? = some x → H1 D = some (.lst ys) → Pw j ys H1 → g1 x (wipe σ vs1) H1 fun σ3 H5 => wipe σ3 vs1 = wipe σ vs1 ∧ tt1 σ3 H5 fun b H6 => if b = true then te σ3 H6 fun y H7 => rLcE D Pw j y H7 else LcS D Pw (j + 1) H6)
    (hd : ∀ ys H1, H1 D = some (.lst ys) → Pw xs.length ys H1 → Pv (i + 1) ys H1) : rLcIn K D (LcS D Pv (i + 1)) g1 tt1 te vs1 σ (.ref a) H := by
  refine ⟨a, xs, rfl, .intro s (hl _ _ _ h0) fun J G w hG => ⟨fun j k H => k = xs.length - j ∧ j ≤ xs.length ∧ LcS D Pw j H, ⟨xs.length, by simp, Nat.zero_le _, ys, e, h0⟩, ?_⟩⟩
  rintro j k H' ⟨rfl, hj, zs, hD, p⟩
  have q := hG _ (hl j zs H' p)
  by_cases hlt : j < xs.length
  · refine .inr ⟨w.goes j H' hlt q, LcS D Pw (j + 1), fun H'' p' => ⟨xs.length - (j + 1), by omega, rfl, hlt, p'⟩, fun x H'' y => ?_⟩
    obtain ⟨rfl, e⟩ := w.yields j H' x H'' hlt q y
    exact hs j x zs _ e hD p
  · have e : j = xs.length := by omega
    subst e
    exact .inl ⟨w.stops H' q, zs, hD, hd zs H' hD p⟩
theorem i_lc2A {tl1 : TE} {vs vs1 : List Nat} (Pv : Nat → List V → Hp → Prop) (s : SqA K H0 a xs) (s0 : Same H0 H) (h0 : ∀ D H', H D = none → Same H H' → H' D = some (.lst []) → (∀ b, b ≠ D → H' b = H b) → Pv 0 [] H')
    (hl : ∀ i ys H1, Pv i ys H1 → Same H0 H1)
    (hs : ∀ i x D ys H1, H D = none → xs[i]? = some x → H1 D = some (.lst ys) → Pv i ys H1 → g x (wipe σ vs) H1 fun σ2 H2 => wipe σ2 vs = wipe σ vs ∧ tt σ2 H2 fun b H3 => if b = true then tl1 σ2 H3 fun x1 H4 => rLcIn K D (LcS D Pv (i + 1)) g1 tt1 te vs1 σ2 x1 H4 else LcS D Pv (i + 1) H3)
    (hd : ∀ D ys H1, H D = none → H1 D = some (.lst ys) → Pv xs.length ys H1 → Q (.ref D) H1) : rLc2A K g tt tl1 g1 tt1 te vs vs1 σ Q (.ref a) H := by
  refine ⟨a, xs, rfl, .intro s s0 fun J G w hG D hD => ⟨fun i m H => m = xs.length - i ∧ i ≤ xs.length ∧ LcS D Pv i H, ⟨xs.length, by simp, Nat.zero_le _, [], upd_same, h0 D _ hD (fun b o e => by rw [upd_ne (ne_of_none e hD)]; exact e) upd_same (fun b hb => upd_ne hb)⟩, ?_⟩⟩
  rintro i m H' ⟨rfl, hi, ys, hD', p⟩
  have q := hG _ (hl i ys H' p)
  by_cases hlt : i < xs.length
  · refine .inr ⟨w.goes i H' hlt q, LcS D Pv (i + 1), fun H'' p' => ⟨xs.length - (i + 1), by omega, rfl, hlt, p'⟩, fun x H'' y => ?_⟩
    obtain ⟨rfl, e⟩ := w.yields i H' x H'' hlt q y
    exact hs i x D ys _ hD e hD' p
  · have e : i = xs.length := by omega
    subst e
    exact .inl ⟨w.stops H' q, hd D ys H' hD hD' p⟩
end
end Z

set_option Elab.async false
set_option linter.all false
set_option maxRecDepth 100000
set_option maxHeartbeats 4000000
/-! more readings: lists and tuples of texts -/
namespace Z
open PySem PySem.Spec PyProof.Rows L2
theorem same_new {H : Hp} {p : Addr} {o : HO} (hp : H p = none) : Same H (upd H p o) := fun b q e => by rw [upd_ne (ne_of_none e hp)]; exact e
section
variable {X : Cx} {K : PySem.W.Frag}
theorem k_inS (hK : X.K = K) : OpR X (compareOp .In) (rIn K false) := by subst hK; exact op_in_seq
theorem k_notInS (hK : X.K = K) : OpR X (compareOp .NotIn) (rIn K true) := by subst hK; exact op_notIn_seq
theorem k_inD (hK : X.K = K) (hu : X.A.units + 65 < cLine) : OpR X (compareOp .In) (rInD K) := by subst hK; exact op_inD hu
theorem k_slA (hK : X.K = K) : SlR X (fun x lo hi H Q => rSlL K x lo hi H Q ∨ rSlT K x lo hi H Q) := by subst hK; exact sl_list.or sl_tup
def rListA (K : PySem.W.Frag) : List V → Hp → VK → Prop := fun xs H Q => ∃ p ys, xs = [.ref p] ∧ (SqL K H p ys ∨ SqT K H p ys) ∧ ∀ l, H l = none → Q (.ref l) (upd H l (.lst ys))
theorem k_listA (hK : X.K = K) : CallR X (.type "list") (rListA K) := by subst hK; exact call_list_of
def rTupA (K : PySem.W.Frag) : List V → Hp → VK → Prop := fun xs H Q => ∃ p ys, xs = [.ref p] ∧ ((SqL K H p ys ∧ ∀ l, H l = none → Q (.ref l) (upd H l (.tup ys))) ∨ (SqT K H p ys ∧ Q (.ref p) H))
theorem k_tupA (hK : X.K = K) : CallR X (.type "tuple") (rTupA K) := by subst hK; exact call_tuple_of
theorem k_sort (hK : X.K = K) : CallR X (.builtin "sorted") (rSortST K) := by subst hK; exact cr_sortST
theorem k_iterT (hK : X.K = K) : CallR X (.builtin "iter") (rIterT K) := by subst hK; exact cr_iterT
theorem k_eqDD (hK : X.K = K) (hu : X.A.units + 66 < cLine) : OpR X (compareOp .Eq) (rEqDD K) := by subst hK; exact op_eqDD hu
theorem k_any (hK : X.calm = true) (hK2 : X.K = K) : CallR X (.builtin "any") (rAny K) := by subst hK2; exact cr_any hK
theorem k_all (hK : X.calm = true) (hK2 : X.K = K) : CallR X (.builtin "all") (rAll K) := by subst hK2; exact cr_all hK
theorem k_listOwn {C : Addr} {j : Nat} {spI spL : Sp} {kI kL : Nat} (hK : X.K = K) (hc : X.calm = true) (cI : CalO X.prog X.w X.K X.mg X.base C "__iter__" kI spI) (cL : CalO X.prog X.w X.K X.mg X.base C "__len__" kL spL) (hr : Room j X.A) (hI : kI + 2 ≤ j := by decide) (hL : kL + 3 ≤ j := by decide) :
    CallR X (.type "list") (rListOwn K C spI spL) := by subst hK; exact z_listOwn hc cI cL hr hI hL
/-- the truth of any value -/
def tTruA (K : PySem.W.Frag) (ta : TE) : TT := fun σ H Q => ta σ H fun x H' => ∃ k, TruV K x H' k ∧ Q k H'
theorem k_truth {a : Expr} {ta : TE} (hK : X.K = K) (ha : PE X a ta) (he : ∀ whole, isTrue a X.env whole = (do let v ← whole; standAt a.pos; holding [v] (truthy v))) : PT X a (tTruA K ta) := by subst hK; exact pt_truth ha he
/-- a dict's own pairs, copied -/
def rDictD : List V → Hp → VK → Prop := fun xs H Q => ∃ (a : Addr) (kvs : List (Key × V)), xs = [.ref a] ∧ Rd H a (.dK kvs) ∧ ∀ p, H p = none → Q (.ref p) (upd H p (.dK kvs))
theorem k_dictD : CallR X (.type "dict") rDictD := call_dictD
def rSortD : List V → Hp → VK → Prop := fun xs H Q => ∃ (a : Addr) (kvs : List (Key × V)) (ks : List Str), xs = [.ref a] ∧ Rd H a (.dK kvs) ∧ kvs.map (·.1) = ks.map Sum.inr ∧ ks.length < 64 ∧
    ∀ ys p, ys.Perm ks → sortedS ys = true → H p = none → Q (.ref p) (upd H p (.lst (ys.map V.str)))
theorem k_sortD (hc : X.calm = true) : CallR X (.builtin "sorted") rSortD := call_sortedD hc
end
section
variable {K : PySem.W.Frag} {σ : L2.St} {H : Hp} {D : Ends} {te ta : TE} {Q : VK} {QB : Bool → Hp → Prop} {a p : Addr} {xs ys : List V} {zs : List Str} {x y : Str}
theorem flat_strs : ∀ zs : List Str, (zs.map V.str).all flatV = true
  | [] => rfl
  | z :: zs => by
    rw [List.map_cons, List.all_cons, flat_strs zs]
    rfl
theorem inV_strs : ∀ (zs : List Str) (x : Str), inV (.str x) (zs.map V.str) = decide (x ∈ zs)
  | [], x => by simp [inV]
  | z :: zs, x => by
    have ih := inV_strs zs x
    unfold inV at ih ⊢
    rw [List.map_cons, List.any_cons, ih]
    have e : eqV (.str z) (.str x) = decide (z = x) := by
      show (z == x) = decide (z = x)
      rfl
    rw [e]
    by_cases h : z = x
    · subst h
      simp
    · have : ¬ x = z := fun e => h e.symm
      simp [h, this]
theorem i_inS (s : SqA K H p (zs.map V.str)) (h : Q (.bl (decide (x ∈ zs))) H) : rIn K false (.str x) (.ref p) H Q := ⟨p, _, rfl, s, rfl, flat_strs zs, by rw [inV_strs]; exact h⟩
theorem i_notInS (s : SqA K H p (zs.map V.str)) (h : Q (.bl (!decide (x ∈ zs))) H) : rIn K true (.str x) (.ref p) H Q := ⟨p, _, rfl, s, rfl, flat_strs zs, by rw [inV_strs]; exact h⟩
theorem i_lenA (s : SqA K H p xs) (h : Q (.int xs.length) H) : rLen K [.ref p] H Q := s.elim (fun s => i_lenL s h) fun s => i_lenT s h
theorem i_tru0 (h : ta σ H (fun x H1 => ∃ k, TruV K x H1 k ∧ QB k H1)) : tTruA K ta σ H QB := h
theorem i_truL {b : Bool} (s : SqA K H p xs) (e : (!xs.isEmpty) = b) (h : QB b H) : ∃ k, TruV K (.ref p) H k ∧ QB k H := ⟨b, s.elim (fun s => .inl ⟨xs, s, e.symm⟩) fun s => .inr (.inl ⟨xs, s, e.symm⟩), h⟩
theorem i_listA (s : SqA K H p ys) (h : ∀ l H', H l = none → Same H H' → H' l = some (.lst ys) → (∀ b, b ≠ l → H' b = H b) → Q (.ref l) H') : rListA K [.ref p] H Q := ⟨p, ys, rfl, s, fun l hl => h l _ hl (same_new hl) upd_same fun b hb => upd_ne hb⟩
theorem i_tupL (s : SqL K H p ys) (h : ∀ l H', H l = none → Same H H' → H' l = some (.tup ys) → (∀ b, b ≠ l → H' b = H b) → Q (.ref l) H') : rTupA K [.ref p] H Q := ⟨p, ys, rfl, .inl ⟨s, fun l hl => h l _ hl (same_new hl) upd_same fun b hb => upd_ne hb⟩⟩
theorem i_tupA (s : SqA K H p ys) (h : ∀ l H', Same H H' → SqT K H' l ys → (∀ b, H b ≠ none → H' b = H b) → Q (.ref l) H') : rTupA K [.ref p] H Q := by
  rcases s with s | s
  · exact i_tupL s fun l H' hl sm e ho => h l H' sm (.of e) fun b hb => ho b fun z => hb (z ▸ hl)
  · exact ⟨p, ys, rfl, .inr ⟨s, h p H (Same.refl _) s fun _ _ => rfl⟩⟩
theorem i_sort (s : SqA K H p (zs.map V.str)) (l : zs.length < 64) (h : ∀ q H', H q = none → Same H H' → (∀ b, b ≠ q → H' b = H b) → H' q = some (.lst ((srt zs).map V.str)) → Q (.ref q) H') : rSortST K [.ref p] H Q := ⟨p, zs, rfl, s, l, h⟩
theorem i_sortD {kvs : List (Key × V)} (e : H a = some (.dK kvs)) (k : kvs.map (·.1) = zs.map Sum.inr) (l : zs.length < 64) (h : ∀ q H', H q = none → Same H H' → (∀ b, b ≠ q → H' b = H b) → H' q = some (.lst ((srt zs).map V.str)) → Q (.ref q) H') : rSortD [.ref a] H Q :=
  ⟨a, kvs, zs, rfl, .inl e, k, l, fun ys q hp hs hq => by obtain rfl := srt_eq hp hs; exact h q _ hq (same_new hq) (fun b hb => upd_ne hb) upd_same⟩
theorem i_iterT {t : Addr} (s : SqT K H t ys) (h : ∀ q, H q = none → Q (.ref q) (upd H q (TupIt q t 0))) : rIterT K [.ref t] H Q := ⟨t, ys, rfl, s, h⟩
/-- xs[:j], j below the length -/
theorem cut_to (xs : List V) (j : Nat) : cutV xs none (some (j : Int)) = xs.take j := by
  unfold cutV
  rw [HT.sIx_none, HT.sIx_nat, List.drop_zero, Nat.sub_zero]
  by_cases h : j ≤ xs.length
  · rw [Nat.min_eq_left h]
  · rw [Nat.min_eq_right (by omega), List.take_length, List.take_of_length_le (by omega)]
theorem i_slTo {j : Nat} (s : SqA K H a xs) (hj : j < xs.length) (h : ∀ q H2, H q = none → Same H H2 → SqA K H2 q (xs.take j) → (∀ b, b ≠ q → H2 b = H b) → Q (.ref q) H2) : (rSlL K (.ref a) none (some (j : Int)) H Q ∨ rSlT K (.ref a) none (some (j : Int)) H Q) := by
  rcases s with s | s
  · exact .inl ⟨a, xs, rfl, s, fun q hq => by rw [cut_to]; exact h q _ hq (same_new hq) (.l upd_same) fun b hb => upd_ne hb⟩
  · refine .inr ⟨a, xs, rfl, s, ?_, fun q hq => by rw [cut_to]; exact h q _ hq (same_new hq) (.t upd_same) fun b hb => upd_ne hb⟩
    rintro ⟨_, e⟩
    rw [HT.sIx_nat, Nat.min_eq_left (by omega)] at e
    omega
/-- {x!r} -/
def rFmtR (x : V) (H1 : Hp) (Q : VK) : Prop := (∃ y : Str, x = .str y ∧ (reprText y).length ≤ sizeLine ∧ Q (.str (reprText y)) H1) ∨ ∃ i : Int, x = .int i ∧ i.natAbs.log2 < 1920 ∧ Q (.str (toString i)) H1
theorem i_fmtR (h : te σ H (fun x H1 => rFmtR x H1 Q)) : tFmtR te σ H Q := h
theorem i_fmtRS (l : (reprText y).length ≤ 100000) (h : Q (.str (reprText y)) H) : rFmtR (.str y) H Q := .inl ⟨y, rfl, Nat.le_trans l (by decide), h⟩
/-! lists changed -/
theorem i_bm0 {T : String} {r : V → List V → Hp → VK → Prop} (h : te σ H (fun x H1 => tyV K T x H1 ∧ r x [] H1 Q)) : tBM0 K T r te σ H Q := h
theorem ix_seq {n k : Nat} (h : k < n) : seqIndex? (k : Int) n = some k := by
  have := ixN_seq (ixN_n h)
  exact this.1
theorem i_popAt {k : Nat} {v : V} (e : H p = some (.lst xs)) (l : xs.length ≤ 100000) (hk : xs[k]? = some v) (h : ∀ H2, H2 p = some (.lst (xs.eraseIdx k)) → (∀ b, b ≠ p → H2 b = H b) → Q v H2) : rPopAt (.ref p) [.int (k : Nat)] H Q := by
  have lt := (List.getElem?_eq_some_iff.mp hk).1
  exact ⟨p, xs, k, k, v, rfl, rfl, e, by omega, by omega, ix_seq lt, hk, h _ upd_same fun b hb => upd_ne hb⟩
theorem i_clear (e : H p = some (.lst xs)) (h : ∀ H2, H2 p = some (.lst []) → (∀ b, b ≠ p → H2 b = H b) → Q .non H2) : rClear (.ref p) [] H Q := ⟨p, xs, rfl, rfl, e, h _ upd_same fun b hb => upd_ne hb⟩
/-! data -/
theorem dp_strs : ∀ zs : List Str, DpAll K H (zs.map V.str) (zs.map PyData.str)
  | [] => .nil
  | z :: zs => .cons (.str z) (dp_strs zs)
theorem eqv_strs : ∀ zs ws : List Str, PyData.eqvAll (zs.map PyData.str) (ws.map PyData.str) = decide (zs = ws)
  | [], [] => rfl
  | [], _ :: _ => rfl
  | _ :: _, [] => rfl
  | z :: zs, w :: ws => by
    show (PyData.eqv (.str z) (.str w) && PyData.eqvAll _ _) = _
    rw [eqv_strs zs ws]
    show ((z == w) && _) = _
    by_cases h1 : z = w <;> by_cases h2 : zs = ws <;> simp [h1, h2]
end
end Z

set_option Elab.async false
set_option linter.all false
set_option maxRecDepth 100000
set_option maxHeartbeats 4000000
/-! orders in the heap; promises of the defs about them -/
namespace Z
open PySem PySem.Spec PyProof.Rows L2
theorem u65 {A : Around} {k : Nat} (hr : Room k A) : A.units + 65 < cLine := by have := hr.un; omega
theorem u66 {A : Around} {k : Nat} (hr : Room k A) : A.units + 66 < cLine := by have := hr.un; omega
/-- this promise is never asked -/
def spNo2 : Sp := fun vs _ _ _ => vs.length = 2 ∧ False
/-! ### words -/
def let_ (c : Nat) : Bool := decide (97 ≤ c ∧ c ≤ 122)
def nameL (l : List Nat) : Bool := decide (1 ≤ l.length ∧ l.length ≤ 8) && (l.head?.any let_ && l.all fun c => let_ c || ZS.dig c)
def nameB (z : Str) : Bool := nameL (TL.tl z)
theorem nameB_len {z : Str} (h : nameB z = true) : z.length ≤ 8 := by
  unfold nameB nameL at h
  rw [Bool.and_eq_true] at h
  have := of_decide_eq_true h.1
  have e := TL.len_tl z
  omega
theorem nameB_ok {z : Str} (h : nameB z = true) : PyData.strOk z = true := by
  unfold nameB nameL at h
  rw [Bool.and_eq_true, Bool.and_eq_true] at h
  have h2 := List.all_eq_true.mp h.2.2
  unfold PyData.strOk
  rw [← Array.all_toList, List.all_eq_true]
  intro c hc
  have := h2 c hc
  unfold let_ ZS.dig at this
  simp at this ⊢
  omega
def spIsName : Sp := fun vs H Q _ => vs.length = 1 ∧ ∃ z : Str, vs = [.str z] ∧ z.length ≤ 100000 ∧ ∀ H', Same H H' → Q (.bl (nameB z)) H'
def spCheckN (K : PySem.W.Frag) : Sp := fun vs H Q _ => vs.length = 1 ∧ ∃ (a : Addr) (zs : List Str), vs = [.ref a] ∧ SqA K H a (zs.map V.str) ∧ zs.length ≤ 60 ∧ (∀ z ∈ zs, nameB z = true) ∧ zs.Nodup ∧ ∀ H', Same H H' → Q .non H'
/-- a text whose printed form is not too long -/
def RB (z : Str) : Prop := (reprText z).length ≤ 10000
def GStr : V → Hp → Prop := fun v _ => ∃ z : Str, v = .str z ∧ RB z
/-- an error's own name -/
def EName (CU : Addr) (z : Str) (H : Hp) (E : XK) : Prop := ∀ d H', Same H H' → H' d = some (.xd [("name", .str z)]) → E (.ref CU) (some d) H'
def miss (ks zs : List Str) : Option Str := zs.find? fun z => !decide (z ∈ ks)
def spAmong (K : PySem.W.Frag) (CU : Addr) : Sp := fun vs H Q E => vs.length = 2 ∧ ∃ (a b : Addr) (ks zs : List Str), vs = [.ref a, .ref b] ∧ SqA K H a (ks.map V.str) ∧ SqA K H b (zs.map V.str) ∧
  (∀ z, miss ks zs = some z → RB z ∧ EName CU z H E) ∧ (miss ks zs = none → ∀ H', Same H H' → Q .non H')
theorem miss_none {ks zs : List Str} (h : ∀ z ∈ zs, z ∈ ks) : miss ks zs = none := by
  unfold miss
  rw [List.find?_eq_none]
  intro z hz
  simp [h z hz]
section
variable {K : PySem.W.Frag} {CU a b : Addr} {H : Hp} {Q : VK} {E : XK} {ks zs : List Str} {z : Str}
theorem i_isName (hz : z.length ≤ 100000) (h : ∀ H', Same H H' → Q (.bl (nameB z)) H') : spIsName [.str z] H Q E := ⟨rfl, z, rfl, hz, h⟩
theorem i_checkN (s : SqA K H a (zs.map V.str)) (l : zs.length ≤ 60) (n : ∀ z ∈ zs, nameB z = true) (d : zs.Nodup) (h : ∀ H', Same H H' → Q .non H') : spCheckN K [.ref a] H Q E := ⟨rfl, a, zs, rfl, s, l, n, d, h⟩
theorem i_among (s : SqA K H a (ks.map V.str)) (t : SqA K H b (zs.map V.str)) (m : ∀ z ∈ zs, z ∈ ks) (h : ∀ H', Same H H' → Q .non H') : spAmong K CU [.ref a, .ref b] H Q E := by
  refine ⟨rfl, a, b, ks, zs, rfl, s, t, ?_, fun _ => h⟩
  intro z hz
  rw [miss_none m] at hz
  cases hz
end
/-! ### pairs and orders in the heap -/
/-- tuples of two texts -/
def PrT (K : PySem.W.Frag) (H : Hp) (ps : List V) (E : List (Str × Str)) : Prop := ps.length = E.length ∧ ∀ (i : Nat) (p : V) (e : Str × Str), ps[i]? = some p → E[i]? = some e → ∃ q, p = .ref q ∧ SqT K H q [.str e.1, .str e.2]
def PrA (K : PySem.W.Frag) (H : Hp) (b : Addr) (E : List (Str × Str)) : Prop := ∃ ps, SqA K H b ps ∧ PrT K H ps E
theorem PrT.mono {K : PySem.W.Frag} {H H' : Hp} {ps : List V} {E : List (Str × Str)} (s : Same H H') (h : PrT K H ps E) : PrT K H' ps E :=
  ⟨h.1, fun i p e hp he => let ⟨q, e1, e2⟩ := h.2 i p e hp he; ⟨q, e1, Same_seqT s e2⟩⟩
theorem PrA.mono {K : PySem.W.Frag} {H H' : Hp} {b : Addr} {E : List (Str × Str)} (s : Same H H') (h : PrA K H b E) : PrA K H' b E := let ⟨ps, h1, h2⟩ := h; ⟨ps, sameA s h1, h2.mono s⟩
theorem PrT.nil {K : PySem.W.Frag} {H : Hp} : PrT K H [] [] := ⟨rfl, fun i p e hp => by simp at hp⟩
theorem PrT.snoc {K : PySem.W.Frag} {H : Hp} {ps : List V} {E : List (Str × Str)} {q : Addr} {a b : Str} (h : PrT K H ps E) (e : SqT K H q [.str a, .str b]) : PrT K H (ps ++ [.ref q]) (E ++ [(a, b)]) := by
  refine ⟨by rw [List.length_append, List.length_append, h.1]; rfl, fun i p e' hp he => ?_⟩
  by_cases lt : i < ps.length
  · rw [List.getElem?_append_left lt] at hp
    rw [List.getElem?_append_left (by rw [← h.1]; exact lt)] at he
    exact h.2 i p e' hp he
  · rw [List.getElem?_append_right (by omega)] at hp
    rw [List.getElem?_append_right (by rw [← h.1]; omega), ← h.1] at he
    cases hk : i - ps.length with
    | zero =>
      rw [hk] at hp he
      cases hp
      cases he
      exact ⟨q, rfl, e⟩
    | succ n =>
      rw [hk] at hp
      simp at hp
/-- an order at a: its names ascending, what is above each -/
def rowsOf (N : List Str) (A : Str → Addr) : List (Key × V) := N.map fun n => (.inr n, .ref (A n))
def OTab (H : Hp) (d : Addr) (N : List Str) (R : Str → Str → Bool) : Prop := ∃ A, H d = some (.dK (rowsOf N A)) ∧ ∀ n ∈ N, H (A n) = some (.tup ((OM.ab N R n).map V.str))
def IsO (CO : Addr) (H : Hp) (a : Addr) (N : List Str) (R : Str → Str → Bool) : Prop := ∃ dx t d, H a = some (.ins CO dx [("names", .ref t), ("_above", .ref d)]) ∧ H t = some (.tup (N.map V.str)) ∧ OTab H d N R ∧ N.length ≤ 8 ∧ N.Nodup ∧ ∀ n ∈ N, nameB n = true
theorem OTab.mono {H H' : Hp} {d : Addr} {N : List Str} {R : Str → Str → Bool} (s : Same H H') (h : OTab H d N R) : OTab H' d N R := let ⟨A, h1, h2⟩ := h; ⟨A, s _ _ h1, fun n hn => s _ _ (h2 n hn)⟩
theorem IsO.mono {CO : Addr} {H H' : Hp} {a : Addr} {N : List Str} {R : Str → Str → Bool} (s : Same H H') (h : IsO CO H a N R) : IsO CO H' a N R :=
  let ⟨dx, t, d, h1, h2, h3, h4⟩ := h; ⟨dx, t, d, s _ _ h1, s _ _ h2, h3.mono s, h4⟩
theorem rows_val {A : Str → Addr} {n : Str} : ∀ {N : List Str}, n ∈ N → valV (rowsOf N A) (.inr n) = some (.ref (A n))
  | m :: N, h => by
    by_cases e : m = n
    · subst e
      exact valV_pos rfl
    · have hm : n ∈ N := by
        rcases List.mem_cons.mp h with h | h
        · exact absurd h.symm e
        · exact h
      have := rows_val (A := A) hm
      unfold rowsOf at this ⊢
      rw [List.map_cons, valV_neg (fun z => e (Sum.inr.inj z))]
      exact this
def spClosure (K : PySem.W.Frag) : Sp := fun vs H Q _ => vs.length = 2 ∧ ∃ (a b : Addr) (N : List Str) (E : List (Str × Str)), vs = [.ref a, .ref b] ∧ SqA K H a (N.map V.str) ∧ PrA K H b E ∧ N.length ≤ 8 ∧ N.Nodup ∧ N.Pairwise (fun a b => ltS b a = false) ∧
  (∀ p ∈ E, p.1 ∈ N ∧ p.2 ∈ N) ∧ ∀ d H', H d = none → Same H H' → OTab H' d N (OM.cl E) → Q (.ref d) H'
/-- new tuples of two texts -/
def TPr (H : Hp) (qs : List Addr) (E : List (Str × Str)) : Prop := qs.length = E.length ∧ ∀ (i : Nat) (q : Addr) (e : Str × Str), qs[i]? = some q → E[i]? = some e → H q = some (.tup [.str e.1, .str e.2])
theorem TPr.keep {H H' : Hp} {qs : List Addr} {E : List (Str × Str)} (h : TPr H qs E) (t : ∀ c ys, H c = some (.tup ys) → H' c = some (.tup ys)) : TPr H' qs E := ⟨h.1, fun i q e a b => t _ _ (h.2 i q e a b)⟩
theorem TPr.mono {H H' : Hp} {qs : List Addr} {E : List (Str × Str)} (s : Same H H') (h : TPr H qs E) : TPr H' qs E := h.keep fun c ys e => s _ _ e
theorem TPr.nil {H : Hp} : TPr H [] [] := ⟨rfl, fun i q e h => by simp at h⟩
theorem TPr.snoc {H : Hp} {qs : List Addr} {E : List (Str × Str)} {q : Addr} {a b : Str} (h : TPr H qs E) (e : H q = some (.tup [.str a, .str b])) : TPr H (qs ++ [q]) (E ++ [(a, b)]) := by
  refine ⟨by rw [List.length_append, List.length_append, h.1]; rfl, fun i q' e' hq he => ?_⟩
  by_cases lt : i < qs.length
  · rw [List.getElem?_append_left lt] at hq
    rw [List.getElem?_append_left (by rw [← h.1]; exact lt)] at he
    exact h.2 i q' e' hq he
  · rw [List.getElem?_append_right (by omega)] at hq
    rw [List.getElem?_append_right (by rw [← h.1]; omega), ← h.1] at he
    cases hk : i - qs.length with
    | zero =>
      rw [hk] at hq he
      cases hq
      cases he
      exact e
    | succ n =>
      rw [hk] at hq
      simp at hq
theorem TPr.prt {K : PySem.W.Frag} {H : Hp} {qs : List Addr} {E : List (Str × Str)} (h : TPr H qs E) : PrT K H (qs.map V.ref) E := by
  refine ⟨by rw [List.length_map, h.1], fun i p e hp he => ?_⟩
  rw [List.getElem?_map] at hp
  cases hq : qs[i]? with
  | none => rw [hq] at hp; cases hp
  | some q =>
    rw [hq] at hp
    cases hp
    exact ⟨q, rfl, .of (h.2 i q e hq he)⟩
/-- a new list of pairs -/
def LPr (H : Hp) (p : Addr) (E : List (Str × Str)) : Prop := ∃ qs : List Addr, H p = some (.lst (qs.map V.ref)) ∧ TPr H qs E
theorem LPr.a {K : PySem.W.Frag} {H : Hp} {p : Addr} {E : List (Str × Str)} (h : LPr H p E) : PrA K H p E := let ⟨qs, h1, h2⟩ := h; ⟨_, .l h1, h2.prt⟩
theorem LPr.mono {H H' : Hp} {p : Addr} {E : List (Str × Str)} (s : Same H H') (h : LPr H p E) : LPr H' p E := let ⟨qs, h1, h2⟩ := h; ⟨qs, s _ _ h1, h2.mono s⟩
/-- the tuples stand when an object of another kind is changed -/
theorem tup_keep {H H' : Hp} {p : Addr} {o : HO} (e : H p = some o) (nt : ∀ ys, o ≠ .tup ys) (ho : ∀ b, b ≠ p → H' b = H b) : ∀ c ys, H c = some (.tup ys) → H' c = some (.tup ys) := fun c ys hc => by
  rw [ho c (ne_of hc e (fun z => nt ys z.symm))]
  exact hc
theorem lst_keep {H H' : Hp} {p : Addr} {xs : List V} (e : H p = some (.lst xs)) (ho : ∀ b, b ≠ p → H' b = H b) : ∀ c ys, H c = some (.tup ys) → H' c = some (.tup ys) := tup_keep e (fun _ z => nomatch z) ho
/-- one pair more -/
theorem LPr.snoc {H H2 : Hp} {p q : Addr} {E : List (Str × Str)} {xs : List V} {a b : Str} (h : LPr H p E) (e : H p = some (.lst xs)) (eq : H q = some (.tup [.str a, .str b])) (e2 : H2 p = some (.lst (xs ++ [.ref q]))) (ho : ∀ b, b ≠ p → H2 b = H b) : LPr H2 p (E ++ [(a, b)]) := by
  obtain ⟨qs, h1, h2⟩ := h
  have ex : xs = qs.map V.ref := by
    have := h1.symm.trans e
    cases this
    rfl
  subst ex
  exact ⟨qs ++ [q], by rw [e2, List.map_append]; rfl, (h2.snoc eq).keep (lst_keep e ho)⟩
def spPairs (CO : Addr) : Sp := fun vs H Q _ => vs.length = 1 ∧ ∃ a N R, vs = [.ref a] ∧ IsO CO H a N R ∧ ∀ p H', H p = none → Same H H' → LPr H' p (OM.prs N R) → Q (.ref p) H'
def spBtw (CO : Addr) : Sp := fun vs H Q _ => vs.length = 3 ∧ ∃ a N R x y, vs = [.ref a, .str x, .str y] ∧ IsO CO H a N R ∧ x ∈ N ∧ y ∈ N ∧ ∀ p H', H p = none → Same H H' → H' p = some (.lst ((OM.btw N R x y).map V.str)) → Q (.ref p) H'
def spCovers (CO : Addr) : Sp := fun vs H Q _ => vs.length = 1 ∧ ∃ a N R, vs = [.ref a] ∧ IsO CO H a N R ∧ ∀ p H', H p = none → Same H H' → LPr H' p (OM.cvs N R) → Q (.ref p) H'
def spBelow (CO CU : Addr) : Sp := fun vs H Q E => vs.length = 3 ∧ ∃ a N R x y, vs = [.ref a, .str x, .str y] ∧ IsO CO H a N R ∧ (∀ z, miss N [x, y] = some z → RB z ∧ EName CU z H E) ∧ (miss N [x, y] = none → ∀ H', Same H H' → Q (.bl (R x y)) H')
def spOInit (K : PySem.W.Frag) (CO : Addr) : Sp := fun vs H Q _ => vs.length = 3 ∧ ∃ (a b c : Addr) (zs : List Str) (E : List (Str × Str)), vs = [.ref a, .ref b, .ref c] ∧ (∃ dx, H a = some (.ins CO dx [])) ∧ SqA K H b (zs.map V.str) ∧ PrA K H c E ∧
  1 ≤ zs.length ∧ zs.length ≤ 8 ∧ (∀ z ∈ zs, nameB z = true) ∧ zs.Nodup ∧ (∀ p ∈ E, p.1 ∈ zs ∧ p.2 ∈ zs) ∧ E.length ≤ 10000 ∧ OM.Anti E ∧
  ∀ H', IsO CO H' a (srt zs) (OM.cl E) → (∀ x o, x ≠ a → H x = some o → H' x = some o) → Q .non H'
def spOIn (CO : Addr) : Sp := fun vs H Q _ => vs.length = 2 ∧ ∃ a N R z, vs = [.ref a, .str z] ∧ IsO CO H a N R ∧ ∀ H', Same H H' → Q (.bl (decide (z ∈ N))) H'
def spOLen (CO : Addr) : Sp := fun vs H Q _ => vs.length = 1 ∧ ∃ a N R, vs = [.ref a] ∧ IsO CO H a N R ∧ ∀ H', Same H H' → Q (.int (N.length : Nat)) H'
def spOIter (CO : Addr) : Sp := fun vs H Q _ => vs.length = 1 ∧ ∃ a dx t d ys, vs = [.ref a] ∧ H a = some (.ins CO dx [("names", .ref t), ("_above", .ref d)]) ∧ H t = some (.tup ys) ∧ ∀ q, H q = none → Q (.ref q) (upd H q (TupIt q t 0))
/-- the other side of ==: another order, or no order -/
def spOEq (K : PySem.W.Frag) (CO : Addr) : Sp := fun vs H Q _ => vs.length = 2 ∧ ∃ a N R y, vs = [.ref a, y] ∧ IsO CO H a N R ∧
  ((∃ b M S, y = .ref b ∧ IsO CO H b M S ∧ ∀ H', Same H H' → Q (.bl (decide (N = M) && N.all fun n => decide (OM.ab N R n = OM.ab M S n))) H') ∨
   (∃ t, TyX K H y t ∧ PySem.W.kitOne K t (.ref CO) = some false ∧ ∀ H', Same H H' → Q (.bl false) H'))
def spOStr (CO : Addr) : Sp := fun vs H Q _ => vs.length = 1 ∧ ∃ a N R, vs = [.ref a] ∧ IsO CO H a N R ∧ ∀ z H', Same H H' → Q (.str z) H'
/-! ### the closure's dict of dicts -/
def trues (l : List Str) : List (Key × V) := l.map fun k => (.inr k, .bl true)
def setF {α : Type} (f : Str → α) (n : Str) (v : α) : Str → α := fun x => if x = n then v else f x
theorem setF_same {α : Type} {f : Str → α} {n : Str} {v : α} : setF f n v n = v := by simp [setF]
theorem setF_ne {α : Type} {f : Str → α} {n m : Str} {v : α} (h : m ≠ n) : setF f n v m = f m := by simp [setF, h]
theorem valV_map_none {α : Type} {g : α → V} {f : α → Str} {k : Str} : ∀ {l : List α}, (∀ x ∈ l, f x ≠ k) → valV (l.map fun x => (Sum.inr (f x), g x)) (Sum.inr k : Key) = none
  | [], _ => rfl
  | x :: l, h => by
    rw [List.map_cons, valV_neg (fun z => h x List.mem_cons_self (Sum.inr.inj z))]
    exact valV_map_none fun y hy => h y (List.mem_cons_of_mem _ hy)
theorem trues_put {l : List Str} {k : Str} : putK (trues l) (.inr k) (.bl true) = trues (if k ∈ l then l else l ++ [k]) := by
  by_cases h : k ∈ l
  · rw [if_pos h]
    have hany : ((trues l).any fun kv => decide (kv.1 = Sum.inr k)) = true := List.any_eq_true.mpr ⟨((.inr k : Key), V.bl true), List.mem_map.mpr ⟨k, h, rfl⟩, by simp⟩
    unfold putK
    rw [if_pos hany]
    unfold trues
    rw [List.map_map]
    refine List.map_congr_left fun x _ => ?_
    show (if _ = _ then _ else _) = _
    split
    · rfl
    · rfl
  · have hno : valV (trues l) (.inr k) = none := valV_map_none (k := k) (f := fun x => x) (g := fun _ => V.bl true) fun x hx (e : x = k) => h (e ▸ hx)
    rw [if_neg h, putK_new _ hno]
    unfold trues
    rw [List.map_append]
    rfl
theorem trues_get {l : List Str} {k : Str} : (valV (trues l) (.inr k)).isSome = decide (k ∈ l) := by
  by_cases h : k ∈ l
  · obtain ⟨v, h1, _⟩ := valV_mem (ls := trues l) (k := .inr k) (by
      unfold trues
      rw [List.map_map]
      exact List.mem_map.mpr ⟨k, h, rfl⟩)
    rw [h1]
    simp [h]
  · unfold trues
    rw [valV_map_none (k := k) (f := fun x => x) (g := fun _ => V.bl true) fun x hx (e : x = k) => h (e ▸ hx)]
    simp [h]
def mk (l m : List Str) : List Str := m.foldl (fun acc k => if k ∈ acc then acc else acc ++ [k]) l
theorem trues_merge : ∀ (m l : List Str), mergeK (trues l) (trues m) = trues (mk l m)
  | [], l => rfl
  | k :: m, l => by
    show mergeK (putK (trues l) (.inr k) (.bl true)) (trues m) = trues (mk (if k ∈ l then l else l ++ [k]) m)
    rw [trues_put, trues_merge m]
theorem mem_mk : ∀ (m l : List Str) (x : Str), x ∈ mk l m ↔ x ∈ l ∨ x ∈ m
  | [], l, x => by simp [mk]
  | k :: m, l, x => by
    show x ∈ mk (if k ∈ l then l else l ++ [k]) m ↔ _
    rw [mem_mk m]
    by_cases h : k ∈ l
    · rw [if_pos h]
      constructor
      · rintro (q | q)
        · exact .inl q
        · exact .inr (List.mem_cons_of_mem _ q)
      · rintro (q | q)
        · exact .inl q
        · rcases List.mem_cons.mp q with rfl | q
          · exact .inl h
          · exact .inr q
    · rw [if_neg h]
      simp [or_assoc]
theorem put_nodup {l : List Str} {k : Str} (h : l.Nodup) : (if k ∈ l then l else l ++ [k]).Nodup := by
  split
  · exact h
  · rename_i hn
    refine List.nodup_append.mpr ⟨h, by simp, fun x hx y hy e => hn ?_⟩
    rw [← List.mem_singleton.mp hy, ← e]
    exact hx
theorem mk_nodup : ∀ (m : List Str) {l : List Str}, l.Nodup → (mk l m).Nodup
  | [], l, h => h
  | k :: m, l, h => mk_nodup m (put_nodup h)
theorem nodup_len {N l : List Str} (h : l.Nodup) (s : ∀ x ∈ l, x ∈ N) : l.length ≤ N.length := h.length_le_of_subset s
theorem rows_put {A : Str → Addr} {n : Str} {p : Addr} {N : List Str} (h : n ∈ N) : putK (rowsOf N A) (.inr n) (.ref p) = rowsOf N (setF A n p) := by
  have hany : ((rowsOf N A).any fun kv => decide (kv.1 = Sum.inr n)) = true := List.any_eq_true.mpr ⟨((.inr n : Key), V.ref (A n)), List.mem_map.mpr ⟨n, h, rfl⟩, by simp⟩
  unfold putK
  rw [if_pos hany]
  unfold rowsOf
  rw [List.map_map]
  refine List.map_congr_left fun x _ => ?_
  show (if (Sum.inr x : Key) = Sum.inr n then ((Sum.inr x : Key), V.ref p) else (Sum.inr x, V.ref (A x))) = _
  by_cases e : x = n
  · subst e
    rw [if_pos rfl, setF_same]
  · rw [if_neg (fun z => e (Sum.inr.inj z)), setF_ne e]
theorem rows_snoc {A : Str → Addr} {n : Str} {p : Addr} {N : List Str} (h : ¬ n ∈ N) : putK (rowsOf N A) (.inr n) (.ref p) = rowsOf (N ++ [n]) (setF A n p) := by
  unfold rowsOf
  rw [putK_new _ (valV_map_none (k := n) (f := fun x => x) (g := fun n => V.ref (A n)) fun x hx (e : x = n) => h (e ▸ hx)), List.map_append]
  congr 1
  · refine List.map_congr_left fun x hx => ?_
    rw [setF_ne fun (e : x = n) => h (e ▸ hx)]
  · show _ = [(_, V.ref (setF A n p n))]
    rw [setF_same]
/-- the dict at d0 has a dict of its own for each name: its keys are ks n -/
structure CSt (H : Hp) (d0 : Addr) (N : List Str) (A : Str → Addr) (ks : Str → List Str) (H1 : Hp) : Prop where
  same : Same H H1
  d0n : H d0 = none
  tab : H1 d0 = some (.dK (rowsOf N A))
  new : ∀ n ∈ N, H (A n) = none
  ne : ∀ n ∈ N, A n ≠ d0
  row : ∀ n ∈ N, H1 (A n) = some (.dK (trues (ks n)))
  nd : ∀ n ∈ N, (ks n).Nodup
  inj : ∀ n ∈ N, ∀ m ∈ N, A n = A m → n = m
/-- a key more in the row of n -/
theorem CSt.put {H H1 H2 : Hp} {d0 : Addr} {N : List Str} {A : Str → Addr} {ks : Str → List Str} {n k : Str} (c : CSt H d0 N A ks H1) (hn : n ∈ N) (e : H2 (A n) = some (.dK (putK (trues (ks n)) (.inr k) (.bl true)))) (ho : ∀ b, b ≠ A n → H2 b = H1 b) :
    CSt H d0 N A (setF ks n (if k ∈ ks n then ks n else ks n ++ [k])) H2 where
  same := fun b o eb => by
    rw [ho b (ne_of_none eb (c.new n hn))]
    exact c.same _ _ eb
  d0n := c.d0n
  tab := by
    rw [ho d0 (Ne.symm (c.ne n hn))]
    exact c.tab
  new := c.new
  ne := c.ne
  row := fun m hm => by
    by_cases em : m = n
    · subst em
      rw [e, trues_put, setF_same]
    · rw [setF_ne em, ho _ (fun z => em (c.inj m hm n hn z))]
      exact c.row m hm
  nd := fun m hm => by
    by_cases em : m = n
    · subst em
      rw [setF_same]
      exact put_nodup (c.nd m hm)
    · rw [setF_ne em]
      exact c.nd m hm
  inj := c.inj
/-- another dict for n -/
theorem CSt.set {H H1 H2 H3 : Hp} {d0 p : Addr} {N l : List Str} {A : Str → Addr} {ks : Str → List Str} {n : Str} (c : CSt H d0 N A ks H1) (hn : n ∈ N) (hp : H1 p = none) (hl : l.Nodup) (s2 : ∀ b, b ≠ p → H2 b = H1 b) (e2 : H2 p = some (.dK (trues l)))
    (e : H3 d0 = some (.dK (putK (rowsOf N A) (.inr n) (.ref p)))) (ho : ∀ b, b ≠ d0 → H3 b = H2 b) : CSt H d0 N (setF A n p) (setF ks n l) H3 := by
  have hpH : H p = none := by
    cases q : H p with
    | none => rfl
    | some o => rw [c.same _ _ q] at hp; cases hp
  have pd : p ≠ d0 := fun z => by rw [z, c.tab] at hp; cases hp
  have pA : ∀ m ∈ N, A m ≠ p := fun m hm z => by rw [← z, c.row m hm] at hp; cases hp
  refine ⟨fun b o eb => ?_, c.d0n, by rw [e, rows_put hn], fun m hm => ?_, fun m hm => ?_, fun m hm => ?_, fun m hm => ?_, fun m hm m' hm' z => ?_⟩
  · rw [ho b (ne_of_none eb c.d0n), s2 b (ne_of_none eb hpH)]
    exact c.same _ _ eb
  · by_cases em : m = n
    · subst em
      rw [setF_same]
      exact hpH
    · rw [setF_ne em]
      exact c.new m hm
  · by_cases em : m = n
    · subst em
      rw [setF_same]
      exact pd
    · rw [setF_ne em]
      exact c.ne m hm
  · by_cases em : m = n
    · subst em
      rw [setF_same, setF_same, ho p pd]
      exact e2
    · rw [setF_ne em, setF_ne em, ho _ (c.ne m hm), s2 _ (pA m hm)]
      exact c.row m hm
  · by_cases em : m = n
    · subst em
      rw [setF_same]
      exact hl
    · rw [setF_ne em]
      exact c.nd m hm
  · by_cases em : m = n <;> by_cases em' : m' = n
    · rw [em, em']
    · subst em
      rw [setF_same, setF_ne em'] at z
      exact absurd z.symm (pA m' hm')
    · subst em'
      rw [setF_same, setF_ne em] at z
      exact absurd z (pA m hm)
    · rw [setF_ne em, setF_ne em'] at z
      exact c.inj m hm m' hm' z
/-- a name more -/
theorem CSt.snoc {H H1 H2 H3 : Hp} {d0 p : Addr} {L : List Str} {A : Str → Addr} {ks : Str → List Str} {n : Str} (c : CSt H d0 L A ks H1) (hn : ¬ n ∈ L) (hp : H1 p = none) (hl : (ks n).Nodup) (s2 : ∀ b, b ≠ p → H2 b = H1 b) (e2 : H2 p = some (.dK (trues (ks n))))
    (e : H3 d0 = some (.dK (putK (rowsOf L A) (.inr n) (.ref p)))) (ho : ∀ b, b ≠ d0 → H3 b = H2 b) : CSt H d0 (L ++ [n]) (setF A n p) ks H3 := by
  have hpH : H p = none := by
    cases q : H p with
    | none => rfl
    | some o => rw [c.same _ _ q] at hp; cases hp
  have pd : p ≠ d0 := fun z => by rw [z, c.tab] at hp; cases hp
  have pA : ∀ m ∈ L, A m ≠ p := fun m hm z => by rw [← z, c.row m hm] at hp; cases hp
  have two : ∀ m, m ∈ L ++ [n] → (m ∈ L ∧ m ≠ n) ∨ m = n := fun m hm => by
    rcases List.mem_append.mp hm with h | h
    · exact .inl ⟨h, fun e => hn (e ▸ h)⟩
    · exact .inr (List.mem_singleton.mp h)
  refine ⟨fun b o eb => ?_, c.d0n, by rw [e, rows_snoc hn], fun m hm => ?_, fun m hm => ?_, fun m hm => ?_, fun m hm => ?_, fun m hm m' hm' z => ?_⟩
  · rw [ho b (ne_of_none eb c.d0n), s2 b (ne_of_none eb hpH)]
    exact c.same _ _ eb
  · rcases two m hm with ⟨h, em⟩ | rfl
    · rw [setF_ne em]
      exact c.new m h
    · rw [setF_same]
      exact hpH
  · rcases two m hm with ⟨h, em⟩ | rfl
    · rw [setF_ne em]
      exact c.ne m h
    · rw [setF_same]
      exact pd
  · rcases two m hm with ⟨h, em⟩ | rfl
    · rw [setF_ne em, ho _ (c.ne m h), s2 _ (pA m h)]
      exact c.row m h
    · rw [setF_same, ho p pd]
      exact e2
  · rcases two m hm with ⟨h, em⟩ | rfl
    · exact c.nd m h
    · exact hl
  · rcases two m hm with ⟨h, em⟩ | rfl <;> rcases two m' hm' with ⟨h', em'⟩ | rfl
    · rw [setF_ne em, setF_ne em'] at z
      exact c.inj m h m' h' z
    · rw [setF_same, setF_ne em] at z
      exact absurd z (pA m h)
    · rw [setF_same, setF_ne em'] at z
      exact absurd z.symm (pA m' h')
    · rfl
theorem CSt.keep {H H1 H2 : Hp} {d0 : Addr} {N : List Str} {A : Str → Addr} {ks : Str → List Str} (c : CSt H d0 N A ks H1) (h : ∀ b, H1 b ≠ none → H2 b = H1 b) : CSt H d0 N A ks H2 where
  same := fun b o e => by
    rw [h b (by rw [c.same _ _ e]; simp)]
    exact c.same _ _ e
  d0n := c.d0n
  tab := by
    rw [h d0 (by rw [c.tab]; simp)]
    exact c.tab
  new := c.new
  ne := c.ne
  row := fun n hn => by
    rw [h _ (by rw [c.row n hn]; simp)]
    exact c.row n hn
  nd := c.nd
  inj := c.inj
theorem mem_put {l : List Str} {k x : Str} : x ∈ (if k ∈ l then l else l ++ [k]) ↔ x ∈ l ∨ x = k := by
  split
  · rename_i h
    exact ⟨.inl, fun q => q.elim (fun q => q) fun e => e ▸ h⟩
  · simp
theorem wm_self {E : List (Str × Str)} {ms : List Str} {m q : Str} : OM.wm E (m :: ms) m q = OM.wm E ms m q := by
  have := OM.wm_refl E ms m
  show (OM.wm E ms m q || (OM.wm E ms m m && OM.wm E ms m q)) = _
  rw [this]
  simp
theorem trues_keys {l : List Str} : (trues l).map (·.1) = l.map Sum.inr := by
  unfold trues
  rw [List.map_map]
  rfl
theorem trues_len {l : List Str} : (trues l).length = l.length := by unfold trues; rw [List.length_map]
theorem rows_len {N : List Str} {A : Str → Addr} : (rowsOf N A).length = N.length := by unfold rowsOf; rw [List.length_map]
end Z

set_option Elab.async false
set_option linter.all false
set_option maxRecDepth 100000
set_option maxHeartbeats 4000000
/-! try with several clauses, each with its name -/
namespace Z
open PySem PySem.Spec PyProof.Rows L2
abbrev CTS := Value × (Addr → Value → Option Addr → TS)
/-- what the clauses wish, one after the other -/
def wAll (K : PySem.W.Frag) (i : Nat) (Wout : WX) (D : Ends) : List CTS → WX
  | [] => Wout
  | (c, ts) :: r => wAs K c i ts (wAll K i Wout D r) D
/-- the clauses' suites are understood -/
inductive Clauses (X : Cx) (n : Str) : List ExceptHandler → List CTS → Prop
  | nil : Clauses X n [] []
  | cons {x : Str} {c : Value} {ts : Addr → Value → Option Addr → TS} {b : Stmt} {bs : List Stmt} {np hp : Pos} {hds : List ExceptHandler} {l : List CTS} (hc : Names X x c)
      (hsu : ∀ (a : Addr) (oe : Obj) (cls : Value) (d : Option Addr) (pn : List (Addr × Obj)), Zc cls d oe → (∃ vs, oe.data = .fields vs) → PSs (X.suite a ((a, oe) :: pn)) (b :: bs) (ts a cls d)) (r : Clauses X n hds l) :
      Clauses X n (.ExceptHandler (some (.Name x np)) (some n) (b :: bs) hp :: hds) ((c, ts) :: l)
section
variable {X : Cx} {n : Str} {i : Nat} {body : List Stmt} {h₀ : ExceptHandler} {hds : List ExceptHandler} {l : List CTS} {pos : Pos} {tb : WX → TS} {Wout : WX}
theorem z_tryAll (hs : X.stack = X.env :: X.outer) (hf : X.env.frame = some X.env.locals) (hN : X.N.Nodup) (hi : X.N[i]? = some n) (hln : X.env.kindOf n = some .local) (tk : Takes X Wout)
    (hb : ∀ (W : WX) (pn : List (Addr × Obj)) (xe : Value → Shared → Prop), Takes (X.tr pn xe) W → PassesOwn (model X.prog X.w) X.A X.env xe → PSs (X.tr pn xe) body (tb W))
    (hh : Clauses X n (h₀ :: hds) l) : PS X (.Try body (h₀ :: hds) [] [] pos) (fun D σ H => tb (wAll X.K i Wout D l) D σ H) := by
  refine ⟨fun pins s σ H D I h => ?_⟩
  have ok := I.ok
  have hfr : X.A.frames = some (X.env :: X.outer) := by rw [ok.frames, hs]
  have hloc : Loc X.env.scope n := .inl hln
  refine wpAny_Try_except ?_
  refine wpAny_mono ((hb (wAll X.K i Wout D l) (X.pn ++ pins) (fun e s₁ => wpAny (model X.prog X.w) X.A (noteFrame e X.env) (fun _ s₂ => wpAny (model X.prog X.w) X.A (setFlight e none) (fun _ s₃ =>
    wpAny (model X.prog X.w) X.A (handleBy e X.env (h₀ :: hds)) (SP X pins D) X.xe s₃) X.xe s₂) X.xe s₁) (fun u s' xx => ?_) PassesOwn.looking).run [] s σ H D (I.toTry _) h) (fun f s1 hsp => ?_) (fun e s1 he => he)
  · obtain ⟨a, B, sI, pins', σ', H', cls, d, rfl, J', nb, up, sky, na, os, ag, w⟩ := xx
    have J : Inv X pins σ' H' sI := J'.ofTry ok
    have sk : Sky B (X.env :: X.outer) a (Zc cls d) X.env.locals s'.heap := hs ▸ sky
    show wpAny (model X.prog X.w) X.A (noteFrame (.ref a) X.env) _ _ _
    refine Sky.land Zc.steady hfr hf sk fun h3 fl up3 => ?_
    have u3 := up.trans up3
    have J3 : Inv X pins σ' H' { s' with heap := h3 } := J.landed nb fl.1 u3 os ag
    obtain ⟨oe, vs, he, hz, hd⟩ := fl.there
    -- the exception is no frame
    have far : a ∉ frs (X.env :: X.outer) := fun hm => by
      obtain ⟨_, o', e', hnf⟩ := fl.2.2.1.mem hm
      have := he.symm.trans e'
      cases this
      exact hnf _ hd
    have nL : a ≠ X.env.locals := fun z => far (List.mem_filterMap.mpr ⟨X.env, .head _, by rw [hf, z]⟩)
    have nF : a ∉ X.fs := fun hm => by
      obtain ⟨e, he', q⟩ := List.mem_filterMap.mp hm
      exact far (List.mem_filterMap.mpr ⟨e, .tail _ he', q⟩)
    have S3 := J3.suite he hd na nL nF
    have LT : PySem.W.Looks (model X.prog X.w) h3 (typeOf (.ref a)) cls := fun A Q E s k q => wpAny_typeOf_ref (k _ _ he) (by rw [hz.1]; exact q)
    have each : ∀ {cs : List ExceptHandler} {m : List CTS}, Clauses X n cs m → wAll X.K i Wout D m cls d σ' H' → wpAny (model X.prog X.w) X.A (handleBy (.ref a) X.env cs) (SP X pins D) X.xe { s' with heap := h3 } := by
      intro cs m k
      induction k with
      | nil =>
        intro w
        refine wpAny_handleBy_nil ?_
        obtain ⟨_, _, _, o2, v2, T, oT, t2, g1, _, g2, g3, _⟩ := id fl
        unfold PySem.passOn
        refine wpAny_bind (wpAny_field g1 g2 g3 ?_)
        rw [if_neg (show ¬ ((Value.ref T == Value.none) = true) by simp)]
        have out : wpAny (model X.prog X.w) X.A (setFlight (.ref a) X.env.frame) (fun _ s4 => wpAny (model X.prog X.w) X.A (throw (.ref a) : Sem Flow) (SP X pins D) X.xe s4) X.xe { s' with heap := h3 } := by
          rw [hf]
          exact HandSPX.setFlight_upZ fl fun h4 hh4 up4 => wpAny_throw (tk _ _ ⟨a, B, sI, pins, σ', H', cls, d, rfl, J, nb, u3.trans up4, .inr (.inr (hs ▸ hh4)), na, os, ag, w⟩)
        first
          | exact wpAny_bind (wpAny_pure (wpAny_bind out))
          | exact wpAny_bind out
      | @cons x c ts b bs np hp cs2 m2 hc hsu r ih =>
        rintro ⟨y, hy, yes, no⟩
        refine wpAny_handleBy_cons (codeAny_handlers_test ?_) (by intro q; cases q)
        have LM := (PySem.W.exm_one (M := model X.prog X.w) (J3.kIn) LT hy)
        have named : ∀ {Q E : Value → Shared → Prop}, Q c { s' with heap := h3 } → wpAny (model X.prog X.w) (X.A.mark (some (.ref a))) (eval (.Name x np) X.env) Q E { s' with heap := h3 } := by
          intro Q E q
          rcases hc with ⟨hg, hdb, hm | ⟨hm, hv, hnn⟩⟩
          · exact ld_glob (X := X.suite a ((a, oe) :: (X.pn ++ pins))) S3 hg hm q hdb
          · exact ld_blt (X := X.suite a ((a, oe) :: (X.pn ++ pins))) S3 hg hm hv q hnn hdb
        refine named (LM.here ?_)
        cases y
        · exact ih (no rfl)
        · refine codeAny_handlers_suite_as ?_
          refine HandSPX.lands_againZ fl fun h4 fl4 up4 => ?_
          obtain ⟨oe4, vs4, he4, hz4, hd4⟩ := fl4.there
          have S4 := (show Inv X pins σ' H' { s' with heap := h4 } from J.landed nb fl4.1 (u3.trans up4) os ag).suite he4 hd4 na nL nF
          refine store_ok (X := X.suite a ((a, oe4) :: (X.pn ++ pins))) (v := .ref a) S4 hN hi hloc rfl (fun s5 S5 => ?_) (.inr hln)
          have after : ∀ {s6 : Shared} {σ6 : L2.St} {H6 : Hp} {Q : Shared → Prop}, Inv (X.suite a ((a, oe4) :: (X.pn ++ pins))) [] σ6 H6 s6 → (∀ s7, Inv X pins (σ6.set i none) H6 s7 → Q s7) →
              wpAny (model X.prog X.w) X.A (do bindName X.env n .none; unbindBehindTheSuite X.env n hp) (fun _ s7 => Q s7) X.xe s6 := fun {s6 σ6 H6 Q} S6 hq => gone_ok (S6.unsuite ok) hN hi hln hq
          refine wpAny_mono ((hsu a oe4 cls d (X.pn ++ pins) hz4 ⟨_, hd4⟩).run [] s5 _ H' _ S5 (yes rfl a na)) (fun f s6 z => ?_) (fun _ _ z => z.elim)
          cases f
          case ret u =>
            obtain ⟨v6, σ6, H6, S6, r6, q6⟩ := z
            exact after S6 fun s7 J7 => ⟨_, _, _, J7, r6, q6⟩
          all_goals
            obtain ⟨σ6, H6, S6, q6⟩ := z
            exact after S6 fun s7 J7 => ⟨_, _, J7, q6⟩
    exact each hh w
  · cases f
    case next =>
      obtain ⟨σ', H', J', q⟩ := hsp
      exact wpAny_execs_nil ⟨σ', H', J'.ofTry ok, q⟩
    case ret u =>
      obtain ⟨v, σ', H', J', r, q⟩ := hsp
      exact ⟨v, σ', H', J'.ofTry ok, r, q⟩
    all_goals
      obtain ⟨σ', H', J', q⟩ := hsp
      exact ⟨σ', H', J'.ofTry ok, q⟩
end
/-- this clause is not the one -/
theorem i_wasNo {K : PySem.W.Frag} {σ : L2.St} {H : Hp} {D : Ends} {c cls : Value} {i : Nat} {ts : Addr → Value → Option Addr → TS} {Wout : WX} {d : Option Addr} (hx : PySem.W.exmOne K cls c = some false) (h : Wout cls d σ H) :
    wAs K c i ts Wout D cls d σ H := ⟨false, hx, (fun q => nomatch q), fun _ => h⟩
end Z

set_option Elab.async false
set_option linter.all false
set_option maxRecDepth 100000
set_option maxHeartbeats 4000000
/-! a list of texts in an f-string: some bounded text -/
namespace Z
open PySem PySem.Spec PyProof.Rows PySem.Sem
section
variable {prog : Program} {w : World} {A : Around} {E : Value → Shared → Prop} {s : Shared}
theorem dots_len : ("[...]" : Str).length ≤ 5 := by decide +kernel
theorem z_reprHead {M : Model} {Q : Fin → Shared → Prop} {a : Addr} {o : Obj} {x : Value} {l : List Value} {n : Nat} {b : Nat} (hget : s.heap.get? a = some o) (hd : o.data = .seq (x :: l).toArray n)
    (h1 : wpAny M A (do again (.builtin "list.__repr__.loop" ⟨[.ref a, rawInt 0, ← newList [], rawInt b], []⟩)) Q E s) (h2 : wpAny M A (do rule "list.__repr__.in-itself"; retStr "[...]") Q E s) : wpAny M A (Builtin.listReprAt b ⟨[.ref a], []⟩) Q E s := by
  intro Γ p hΓ
  have k1 := h1 Γ p hΓ
  have k2 := h2 Γ p hΓ
  unfold Builtin.listReprAt
  simp [slotArgs, Builtin.List.listItems, seqItems?, wp_load_of (h := hget), hd, PySem.stack]
  show wp M Γ (if (Γ.below.any _) = true then _ else _) _ _ p s
  split
  · exact k2
  · exact k1
theorem z_item {prog : Program} {w : World} : ∀ {l : List Value} {ts : List Str}, ReprAll prog w l ts → ∀ (i : Nat) (y : Value), l[i]? = some y → ∃ t, ts[i]? = some t ∧ ReprIs prog w y t
  | _, _, .nil, i, y, h => by simp at h
  | _, _, .cons h1 h2, 0, y, h => by
    have e := Option.some.inj h
    subst e
    exact ⟨_, rfl, h1⟩
  | _, _, .cons h1 h2, i + 1, y, h => z_item h2 i y h
theorem z_listRepr {a : Addr} {o : Obj} {x : Value} {l : List Value} {n : Nat} {ts : List Str} {Q : Value → Shared → Prop} (hT : s.TypeIs (.ref a) "list") (ha : s.heap.get? a = some o) (hd : o.data = .seq (x :: l).toArray n) (hA : ReprAll prog w (x :: l) ts) (hz : (listText ts).length ≤ sizeLine)
    (h : ∀ (m : Str) (u tk : Tok) (h' : Heap), (∀ b o, s.heap.get? b = some o → h'.get? b = some o) → m.length ≤ (listText ts).length + 5 → Q (.str m u) { s with heap := h', toks := tk }) : wpAny (model prog w) A (call (.builtin "list.__repr__") [.ref a]) Q E s := by
  refine wpAny_call (codeAny_call_builtin F.slot_list_repr.plain F.entry_list_repr (F.slot_list_repr.check _ _ _ _ _ _ _ _ hT (F.args_list_repr_1 _) ?_))
  refine z_reprHead (b := 0) ha hd ?_ ?_
  · refine wpAny_bind (m := newList []) (wpAny_newObj_type ?_)
    refine wpAny_pure ⟨F.quiet_list_repr_loop _, ?_⟩
    refine codeAny_list_repr_start (P := s.heap.objs.size) (ts := ts) (Nat.ne_of_lt (Heap.lt_size ha)) (by rw [hA.length_eq]; rfl) (fun i y hy => ?_) (Heap.get?_push_of_some _ ha) hd (Heap.get?_push_size _ rfl) (fun h' u tk hk => ?_) (by omega)
    · exact z_item hA i y (by simpa using hy)
    · exact h _ u tk h' (fun b o e => hk b o (Nat.ne_of_lt (Heap.lt_size e)) (Heap.get?_push_of_some _ e)) (Nat.le_add_right _ _)
  · refine wpAny_bind (wpAny_rule ?_)
    refine wpAny_bind (wpAny_mkStr (wpAny_pure ?_) (by decide +kernel))
    exact h "[...]" _ _ s.heap (fun _ _ e => e) (Nat.le_trans dots_len (Nat.le_add_left _ _))
theorem z_listFmt {a : Addr} {o : Obj} {x : Value} {l : List Value} {n : Nat} {ts : List Str} {Q : Value → Shared → Prop} (hu : A.units + 2 < cLine) (hT : s.TypeIs (.ref a) "list") (ha : s.heap.get? a = some o) (hd : o.data = .seq (x :: l).toArray n) (hA : ReprAll prog w (x :: l) ts) (hz : (listText ts).length ≤ sizeLine)
    (h : ∀ (m : Str) (u tk : Tok) (h' : Heap), (∀ b o, s.heap.get? b = some o → h'.get? b = some o) → m.length ≤ (listText ts).length + 5 → Q (.str m u) { s with heap := h', toks := tk }) : wpAny (model prog w) A (formatField (.ref a) Str.empty) Q E s :=
  wpAny_formatField_slot (fun _ _ => nofun) hu hT F.slot_list_format F.slot_list_str F.slot_list_repr.toG
    (z_listRepr (s := { s with toks := s.toks + 1 }) hT ha hd hA hz fun m u tk h' k hm => ⟨m, u, rfl, h m u tk h' k hm⟩)
end
theorem from_len : ∀ (ts : List Str) (k : Nat) (acc : Str), (textFrom k acc ts).length ≤ acc.length + piled ts
  | [], _, acc => by rw [piled_nil]; exact Nat.le_add_right _ _
  | t :: ts, k, acc => by
    have ih := from_len ts (k + 1) (acc ++ (if k > 0 then ", " else "" : String) ++ t)
    have e : (acc ++ (if k > 0 then ", " else "" : String) ++ t).length ≤ acc.length + 2 + t.length := by
      rw [strLen_append, strLen_append]
      have : ((if k > 0 then ", " else "" : String) : Str).length ≤ 2 := by split <;> decide +kernel
      omega
    rw [piled_cons]
    show (textFrom (k + 1) _ ts).length ≤ _
    omega
theorem listText_le (ts : List Str) : (listText ts).length ≤ piled ts + 2 := by
  have := from_len ts 0 "["
  have e1 : (("[" : String) : Str).length = 1 := rfl
  have e2 : (("]" : String) : Str).length = 1 := rfl
  unfold listText
  rw [strLen_append]
  omega
end Z
namespace Z
open PySem PySem.Spec PyProof.Rows L2
section
variable {X : Cx}
/-- {l}, l a list of texts, not empty: some text, no longer than ten times its signs and a little -/
def tFmtL (K : PySem.W.Frag) (te : TE) : TE := fun σ H Q => te σ H fun x H1 => ∃ (a : Addr) (y : Str) (l : List Str), x = .ref a ∧ SqL K H1 a ((y :: l).map V.str) ∧ (∀ z ∈ y :: l, ∀ c ∈ z.cps.toList, c < 16 ^ 8) ∧ fmtCost (y :: l) + 7 ≤ sizeLine ∧ ∀ m : Str, m.length ≤ fmtCost (y :: l) + 7 → Q (.str m) H1
theorem pe_fmtL {e : Expr} {te : TE} {pos : Pos} {k : Nat} (hr : Room k X.A) (he : PE X e te) : PE X (.FormattedValue e (-1) none pos) (tFmtL X.K te) := by
  refine ⟨fun pins s σ H Q I h => ?_⟩
  refine wpAny_FormattedValue_plain (thn (he.run pins s σ H _ I h) fun v s1 hv => ?_)
  obtain ⟨x, H1, I1, r1, a, y, l, rfl, ht, hc, hz, q⟩ := hv
  cases r1
  obtain ⟨its, rv, pl, _⟩ := I1.list ht
  obtain ⟨o, ho, hcl, n, hd⟩ := pl.isList
  have hp := fmt_piled (y :: l) hc
  have htx := listText_le ((y :: l).map reprText)
  have hu := hr.units
  cases rv with
  | @cons _ u _ us r1 r2 =>
    refine z_listFmt (ts := (y :: l).map reprText) (by omega) ⟨o, ho, hcl⟩ ho hd (repr_all (.cons r1 r2) fun z hz => ?_) (by omega) fun m u tk h' k hm => ⟨.str m, H1, I1.kept k, ⟨u, rfl⟩, q m (by omega)⟩
    have h1 := StrLaws.reprText_len z (hc z hz)
    have h2 := fmtCost_mem hz
    omega
end
end Z

set_option Elab.async false
set_option linter.all false
set_option maxRecDepth 100000
set_option maxHeartbeats 400000
/-! an exception that has a field already: its field read, its base's __init__ -/
namespace Z
open PySem PySem.Spec PyProof.Rows L2 PySem.OEX
section
variable {prog : Program} {w : World} {A : Around} {R : Result → Shared → Prop} {g : Array GenState} {d : Drawn} {t : Nat} {os : OsState} {h : Heap} {B newId initId : String} {bmB : List Value}
variable {C : Addr}
theorem z_initD (F : ExcBaseFacts B newId initId bmB) {e t0 : Addr} {od : Option Addr} {rest : List Value}
    (hk : ∀ {Q : Unit → Shared → Prop} {E : Value → Shared → Prop} {M : Model} {A' : Around}, Q () ⟨h, g, d, t, os⟩ → wpAny M A' (checkBuiltinCall initId ⟨.ref e :: rest, []⟩) Q E ⟨h, g, d, t, os⟩)
    (he : h.get? e = some ({ cls := .ref C, dict := od, data := .fields #[.ref t0, .none, .none, .none, .bool false, .none] } : Obj)) (hrest : rest.length ≤ sizeLine)
    (hq : ∀ h' t1, (∀ b o, b ≠ e → h.get? b = some o → h'.get? b = some o) → h'.get? e = some ({ cls := .ref C, dict := od, data := .fields #[.ref t1, .none, .none, .none, .bool false, .none] } : Obj) → R (.ok (.ret .none)) ⟨h', g, d, t, os⟩) :
    codeAny (model prog w) A (.call (.builtin initId) ⟨.ref e :: rest, []⟩) R ⟨h, g, d, t, os⟩ := by
  refine codeAny_call_builtin F.init.plain F.initEntry (hk ?_)
  wp_walk
  refine hq _ h.objs.size (fun b o hb ho => ?_) ?_
  · rw [Heap.get?_update_other _ _ (Ne.symm hb)]
    exact Heap.get?_push_of_some _ ho
  · rw [Heap.get?_update_self _ (Heap.get?_push_of_some _ he) rfl]
    rfl
end
end Z
namespace Z
open PySem PySem.Spec PyProof.Rows L2 PySem.OEX
section
variable {X : Cx} {pins : List (Addr × Obj)} {σ : L2.St} {H : Hp} {s : Shared} {a C : Addr} {dx : Option Addr} {E : Value → Shared → Prop}
theorem z_oinitD {us : List Value} {Q : Value → Shared → Prop} (T : OexC X.K C) (I : Inv X pins σ H s) (e : H a = some (exo a C dx)) (hl : us.length ≤ sizeLine) (h : ∀ s', Inv X pins σ H s' → Q .none s') :
    wpAny (model X.prog X.w) X.A (call (.builtin "ValueError.__init__") (.ref a :: us)) Q E s := by
  obtain ⟨nm, q, N, bs, bm, sn, sub, ab, col, dd, k0, k1, k2, k3, k5, hC, hbm⟩ := T.cls
  obtain ⟨t1, ho⟩ := exo_at I.hok e
  obtain ⟨hp, g, d, t, os⟩ := s
  refine wpAny_call (z_initD PySem.F.excBase_ValueError (fun {Q E M A'} hq => PySem.HandSPX.check_init_own PySem.F.excBase_ValueError (fun Y => PySem.HandSPX.refsVE_contains Y bm hbm) (I.kIn _ _ hC) ho rfl hq) ho hl fun h' t2 k hx => ?_)
  have J := I.write (t' := t) (x := a) (e := a) (o := exo a C dx) (by rw [e]; exact True.intro) (.inl rfl) k ⟨_, hx⟩ (exo_ok hx)
  have eu : upd H a (exo a C dx) = H := by
    funext b
    by_cases hb : b = a
    · rw [hb, upd_same, e]
    · rw [upd_ne hb]
  rw [eu] at J
  exact h _ J
end
/-- ThrowError.__init__(self, ..) behind a field that is set -/
def tVeD (K : PySem.W.Frag) (ta : TA) : TE := fun σ H Q => ta σ H fun vs H1 => ∃ (a C : Addr) (ws : List V) (d : Option Addr), vs = .ref a :: ws ∧ ws.length ≤ 1000 ∧ OexC K C ∧ H1 a = some (exo a C d) ∧ Q .non H1
/-- self.f of an exception in its own __init__ -/
def tXat (K : PySem.W.Frag) (f : Str) (te : TE) : TE := fun σ H Q => te σ H fun x H1 => ∃ (a C dd : Addr) (fs : List (Str × V)) (v : V), x = .ref a ∧ XfC K C ∧ PySem.W.findIn K (.ref C) f = some none ∧ H1 a = some (exo a C (some dd)) ∧ H1 dd = some (exd dd fs) ∧ fs.lookup f = some v ∧ Q v H1
section
variable {X : Cx} {x : Str} {e : Expr} {es : List Expr} {t : TA} {te : TE} {pos : Pos}
theorem z_tinitD {p1 p2 : Pos} {pl : Sem Bool} (hg : Gl X x) (c : CalT X.K X.mg x) (ha : PA X (e :: es) t)
    (hc : eval (.Call (.Attribute (.Name x p1) "__init__" p2) (e :: es) [] pos) X.env = (do
      let ov ← eval (.Name x p1) X.env
      standAt p2.atName
      let (f, first) ← holding [ov] (getMethod ov "__init__" pl)
      callWith pos f first (backTo pos (starEach (e :: es) X.env)) (backToKw pos (keywordEach [] X.env))) := by rfl)
    (hdb : (x == ("__debug__" : Str)) = false := by decide) (he : starEach (e :: es) X.env = (false, eval e X.env) :: starEach es X.env := by rfl)
    (hpl : (backTo pos (starEach es X.env)).any (·.1) = false := by rfl) :
    PE X (.Call (.Attribute (.Name x p1) "__init__" p2) (e :: es) [] pos) (tVeD X.K t) := by
  obtain ⟨T, mc, hm, r, vV⟩ := c
  constructor
  intro pins s σ H Q I h
  refine PySem.W.methodCall_KW (ld_glob I hg hm ?_ hdb) hc
  apply PySem.W.method_cls I.kIn r.ga
  apply PySem.W.cls_value I.kIn r.rd vV (by decide +kernel)
  show wpAny _ _ (callWith pos (Value.builtin "ValueError.__init__") [] (backTo pos (starEach (e :: es) X.env)) []) _ _ _
  refine PyProof.Rows.callWith_method1 (thn (ha.run pos pins _ σ H _ (I.tok _) h) fun us s1 hh => ?_) he hpl
  obtain ⟨vs, H1, I1, r1, a, C, ws, d, ev, hl, T', ea, q⟩ := hh
  subst ev
  cases r1 with
  | @cons _ u0 _ ur ra rw' =>
    obtain rfl : u0 = Value.ref a := ra
    have hlen : ur.length ≤ sizeLine := by
      rw [← Paired.length rw', sizeLine_eq]
      omega
    exact z_oinitD T' I1 ea hlen fun s' J => ⟨.non, H1, J, rfl, q⟩
theorem pe_xat {n : Str} (he : PE X e te) (hb : attributeBase e n X.env (eval e X.env) = eval e X.env := by rfl) : PE X (.Attribute e n pos) (tXat X.K n te) := by
  refine ⟨fun pins s σ H Q I h => ?_⟩
  refine attr_of hb (thn (he.run pins s σ H _ I h) fun u s1 hh => ?_)
  obtain ⟨x, H1, I1, rx, a, C, dd, fs, v, ex, T, hno, ea, ed, l, q⟩ := hh
  subst ex
  obtain rfl : u = Value.ref a := rx
  obtain ⟨t1, ho⟩ := exo_at I1.hok ea
  obtain ⟨mA, hns, hr⟩ := exd_at I1.hok ed
  obtain ⟨od, ho2, hl⟩ := lookIn_ns hns
  obtain ⟨u, hu, ru⟩ := RelO.some_of (v := v) (o := mA n) (by rw [← l]; exact hr n)
  have J : PySem.W.InstAt s1.heap a _ C (some od) := ⟨ho, rfl, rfl, ho2⟩
  exact HandSPX.exc_get I1.kIn J T.ga T.gg T.exC (PySem.W.findObj_own T.hdC hno rfl (by rw [hl, hu])) (handed_of ru) ⟨v, H1, I1.tok _, ru, q⟩
end
/-! readings -/
section
variable {K : PySem.W.Frag} {σ : L2.St} {H : Hp} {Q : VK} {te : TE} {tr : TA}
def rVeD (K : PySem.W.Frag) (vs : List V) (H1 : Hp) (Q : VK) : Prop := ∃ (a C : Addr) (ws : List V) (d : Option Addr), vs = .ref a :: ws ∧ ws.length ≤ 1000 ∧ OexC K C ∧ H1 a = some (exo a C d) ∧ Q .non H1
theorem i_tvd (h : tr σ H (fun vs H1 => rVeD K vs H1 Q)) : tVeD K tr σ H Q := h
theorem i_tvd1 {a C : Addr} {ws : List V} {d : Option Addr} (T : OexC K C) (e : H a = some (exo a C d)) (l : ws.length ≤ 1000) (h : Q .non H) : rVeD K (.ref a :: ws) H Q := ⟨a, C, ws, d, rfl, l, T, e, h⟩
def rXat (K : PySem.W.Frag) (f : Str) (x : V) (H1 : Hp) (Q : VK) : Prop := ∃ (a C dd : Addr) (fs : List (Str × V)) (v : V), x = .ref a ∧ XfC K C ∧ PySem.W.findIn K (.ref C) f = some none ∧ H1 a = some (exo a C (some dd)) ∧ H1 dd = some (exd dd fs) ∧ fs.lookup f = some v ∧ Q v H1
theorem i_xat {f : Str} (h : te σ H (fun x H1 => rXat K f x H1 Q)) : tXat K f te σ H Q := h
theorem i_xat1 {f : Str} {a C dd : Addr} {v : V} (T : XfC K C) (n : PySem.W.findIn K (.ref C) f = some none) (e : H a = some (exo a C (some dd))) (ed : H dd = some (exd dd [(f, v)])) (h : Q v H) : rXat K f (.ref a) H Q := ⟨a, C, dd, _, v, rfl, T, n, e, ed, by simp [List.lookup], h⟩
def rFmtL (K : PySem.W.Frag) (x : V) (H1 : Hp) (Q : VK) : Prop := ∃ (a : Addr) (y : Str) (l : List Str), x = .ref a ∧ SqL K H1 a ((y :: l).map V.str) ∧ (∀ z ∈ y :: l, ∀ c ∈ z.cps.toList, c < 16 ^ 8) ∧ fmtCost (y :: l) + 7 ≤ sizeLine ∧ ∀ m : Str, m.length ≤ fmtCost (y :: l) + 7 → Q (.str m) H1
theorem i_fmtL (h : te σ H (fun x H1 => rFmtL K x H1 Q)) : tFmtL K te σ H Q := h
end
end Z

set_option Elab.async false
set_option linter.all false
set_option maxRecDepth 100000
set_option maxHeartbeats 400000
/-! comprehensions over ranges, read -/
namespace Z
open PySem PySem.Spec PyProof.Rows L2
section
variable {K : PySem.W.Frag} {σ : L2.St} {H : Hp} {g g1 : TG} {tt tt1 : TT} {te tl1 : TE} {tr : TA} {Q : VK}
def rLcR2 (g : TG) (tt : TT) (te : TE) (vs : List Nat) (σ : L2.St) (Q : VK) (ws : List V) (H1 : Hp) : Prop := ∃ i j : Int, ws = [.int i, .int j] ∧ (-(2 ^ 62) ≤ i ∧ i < 2 ^ 62 ∧ -(2 ^ 62) ≤ j ∧ j < 2 ^ 62) ∧ ∀ D, H1 D = none → ∃ W : Nat → Nat → Hp → Prop, (∃ m, W 0 m (upd H1 D (.lst []))) ∧ ∀ k m H, W k m H →
  ((Itr i (j - i).toNat).stop k H ∧ Q (.ref D) H) ∨ ((Itr i (j - i).toNat).go k H ∧ ∃ Nx : Hp → Prop, (∀ H', Nx H' → ∃ m', m' < m ∧ W (k + 1) m' H') ∧ ∀ x H', (Itr i (j - i).toNat).yld k H x H' → g x (wipe σ vs) H' fun σ2 H2 => wipe σ2 vs = wipe σ vs ∧ tt σ2 H2 fun b H3 =>
    if b = true then te σ2 H3 fun y H4 => ∃ acc, H4 D = some (.lst acc) ∧ acc.length < sizeLine ∧ Nx (upd H4 D (.lst (acc ++ [y]))) else Nx H3)
theorem i_lcR20 {vs : List Nat} (h : tr σ H (fun ws H1 => rLcR2 g tt te vs σ Q ws H1)) : tLc (iRng2 tr) g tt te vs σ H Q := h
theorem i_lcR2 {vs : List Nat} {n : Nat} {i j : Int} (hj : j - i = (n : Int)) (hi : 0 ≤ i ∧ i < 1000) (hn : n < 100000) (Pv : Nat → List V → Hp → Prop) (h0 : ∀ D H', H D = none → Same H H' → H' D = some (.lst []) → (∀ b, b ≠ D → H' b = H b) → Pv 0 [] H')
    (hs : ∀ k D ys H1, H D = none → k < n → H1 D = some (.lst ys) → Pv k ys H1 → g (.int (i + (k : Nat))) (wipe σ vs) H1 fun σ2 H2 => wipe σ2 vs = wipe σ vs ∧ tt σ2 H2 fun b H3 => if b = true then te σ2 H3 fun y H4 => rLcE D Pv k y H4 else LcS D Pv (k + 1) H3)
    (hd : ∀ D ys H1, H D = none → H1 D = some (.lst ys) → Pv n ys H1 → Q (.ref D) H1) : rLcR2 g tt te vs σ Q [.int i, .int j] H := by
  refine ⟨i, j, rfl, by omega, fun D hD => ?_⟩
  have e : (j - i).toNat = n := by omega
  rw [e]
  refine lc_range (LcS D Pv) ⟨[], upd_same, h0 D _ hD (fun b o e => by rw [upd_ne (ne_of_none e hD)]; exact e) upd_same (fun b hb => upd_ne hb)⟩ ?_ ?_
  · rintro k H' hk ⟨ys, hD', p⟩
    exact hs k D ys H' hD hk hD' p
  · rintro H' ⟨ys, hD', p⟩
    exact hd D ys H' hD hD' p
/-- two fors, the outer one over a range -/
def rLc2R (K : PySem.W.Frag) (g : TG) (tt : TT) (tl1 : TE) (g1 : TG) (tt1 : TT) (te : TE) (vs vs1 : List Nat) (σ : L2.St) (Q : VK) (ws : List V) (H1 : Hp) : Prop := ∃ j : Int, ws = [.int j] ∧ -(2 ^ 62) ≤ j ∧ j < 2 ^ 62 ∧ ∀ D, H1 D = none → ∃ W : Nat → Nat → Hp → Prop, (∃ m, W 0 m (upd H1 D (.lst []))) ∧ ∀ i m H, W i m H →
  ((Itr 0 j.toNat).stop i H ∧ Q (.ref D) H) ∨ ((Itr 0 j.toNat).go i H ∧ ∃ Nx : Hp → Prop, (∀ H', Nx H' → ∃ m', m' < m ∧ W (i + 1) m' H') ∧ ∀ x H', (Itr 0 j.toNat).yld i H x H' → g x (wipe σ vs) H' fun σ2 H2 => wipe σ2 vs = wipe σ vs ∧ tt σ2 H2 fun b H3 =>
    if b = true then tl1 σ2 H3 fun x1 H4 => rLcIn K D Nx g1 tt1 te vs1 σ2 x1 H4 else Nx H3)
theorem i_lc2R0 {vs vs1 : List Nat} (h : tr σ H (fun ws H1 => rLc2R K g tt tl1 g1 tt1 te vs vs1 σ Q ws H1)) : tLc2 (iRng1 tr) g tt (iAny K tl1) g1 tt1 te vs vs1 σ H Q := h
theorem i_lc2R {vs vs1 : List Nat} {n : Nat} (hn : n < 100000) (Pv : Nat → List V → Hp → Prop) (h0 : ∀ D H', H D = none → Same H H' → H' D = some (.lst []) → (∀ b, b ≠ D → H' b = H b) → Pv 0 [] H')
    (hs : ∀ k D ys H1, H D = none → k < n → H1 D = some (.lst ys) → Pv k ys H1 → g (.int (k : Nat)) (wipe σ vs) H1 fun σ2 H2 => wipe σ2 vs = wipe σ vs ∧ tt σ2 H2 fun b H3 => if b = true then tl1 σ2 H3 fun x1 H4 => rLcIn K D (LcS D Pv (k + 1)) g1 tt1 te vs1 σ2 x1 H4 else LcS D Pv (k + 1) H3)
    (hd : ∀ D ys H1, H D = none → H1 D = some (.lst ys) → Pv n ys H1 → Q (.ref D) H1) : rLc2R K g tt tl1 g1 tt1 te vs vs1 σ Q [.int (n : Nat)] H := by
  refine ⟨_, rfl, by omega, by omega, fun D hD => ?_⟩
  rw [Int.toNat_natCast]
  refine ⟨fun i m H => m = n - i ∧ i ≤ n ∧ LcS D Pv i H, ⟨n, by simp, Nat.zero_le _, [], upd_same, h0 D _ hD (fun b o e => by rw [upd_ne (ne_of_none e hD)]; exact e) upd_same (fun b hb => upd_ne hb)⟩, ?_⟩
  rintro i m H' ⟨rfl, hi, ys, hD', p⟩
  by_cases hlt : i < n
  · refine .inr ⟨hlt, LcS D Pv (i + 1), fun H'' p' => ⟨n - (i + 1), by omega, rfl, hlt, p'⟩, fun x H'' y => ?_⟩
    obtain ⟨e, y⟩ := y
    subst e
    have := hs i D ys _ hD hlt hD' p
    obtain ⟨rfl⟩ := y
    simpa using this
  · have e : i = n := by omega
    subst e
    exact .inl ⟨Nat.le_refl _, hd D ys H' hD hD' p⟩
end
end Z

set_option Elab.async false
set_option linter.all false
set_option maxRecDepth 100000
set_option maxHeartbeats 4000000
/-! the truth of an own object; x[::-1] of a list or a tuple; xs != ys of lists of lists; a list's last item -/
namespace Z
open PySem PySem.Spec PyProof.Rows L2
section
variable {X : Cx} {k j : Nat} {f C : Addr} {sp : Sp}
/-- the truth of an instance with its own __bool__ -/
def rTruO (C : Addr) (sp : Sp) : V → Hp → (Bool → Hp → Prop) → Prop := fun x H Q => ∃ a dx fs, x = .ref a ∧ H a = some (.ins C dx fs) ∧
  sp [.ref a] H (fun v H' => ∃ r, v = .bl r ∧ Q r H') (fun _ _ _ => False)
theorem tru_own (F : FnR X.prog X.w X.K X.mg X.base (L2.CX X.prog X.w) k f sp) (hr : Room k X.A) (S : Spc X.K C "__bool__" f) : TruR X (rTruO C sp) := by
  intro pins s σ H x v Q I rx h
  obtain ⟨a, dx, fs, rfl, ea, h⟩ := h
  obtain rfl : v = Value.ref a := rx
  obtain ⟨ox, od, Ja⟩ := instAt I ea
  obtain ⟨m, fr⟩ := I.fr
  apply PySem.W.truthy_K fr I.ok.mod.kin Ja S.at_ S.fn
  refine wpAny_call (codeAny_mono (F X.A X.stack s H [.ref a] [.ref a] _ (fun _ _ _ => False) hr I.env0 (.cons rfl .nil) h) fun q s' hq => ?_)
  rcases q with e | fl
  · exact (cxN hq).elim
  rcases fl with _ | _ | _ | u'
  · exact False.elim hq
  · exact False.elim hq
  · exact False.elim hq
  obtain ⟨v', H', J', rv, r, ev, q⟩ := I.after hq
  subst ev
  obtain rfl : u' = Value.bool r := rv
  exact ⟨H', J', q⟩
def tTruO (C : Addr) (sp : Sp) (ta : TE) : TT := fun σ H Q => ta σ H fun x H' => rTruO C sp x H' Q
theorem z_truO {a : Expr} {ta : TE} (c : CalO X.prog X.w X.K X.mg X.base C "__bool__" k sp) (hr : Room j X.A) (ha : PE X a ta) (he : ∀ whole, isTrue a X.env whole = (do let v ← whole; standAt a.pos; holding [v] (truthy v))) (hj : k ≤ j := by decide) : PT X a (tTruO C sp ta) := by
  obtain ⟨f, S, sf, F⟩ := c
  exact pt_truthR ha (tru_own F (hr.mono hj) S) he
end
section
variable {prog : Program} {w : World} {A : Around} {E : Value → Shared → Prop} {s : Shared}
theorem places_back (n : Nat) : Builtin.Slice.slicePlaces ((n : Int) - 1) (-1) (-1) = n := by
  unfold Builtin.Slice.slicePlaces
  have h1 : ¬ ((-1 : Int) > 0) := by omega
  have h2 : (- (-1) : Int) = 1 := rfl
  simp only [h1, if_false, h2, Int.ediv_one]
  split <;> omega
theorem fm_congr {α β : Type} {f g : α → Option β} : ∀ {l : List α}, (∀ x ∈ l, f x = g x) → l.filterMap f = l.filterMap g
  | [], _ => rfl
  | x :: l, h => by
    rw [List.filterMap_cons, List.filterMap_cons, h x List.mem_cons_self, fm_congr fun y hy => h y (List.mem_cons_of_mem _ hy)]
theorem pick_back (xs : Array Value) : ((List.range xs.size).filterMap fun (m : Nat) => xs[(((xs.size : Int) - 1) + (m : Int) * (-1)).toNat]?).toArray = xs.toList.reverse.toArray := by
  have := PySem.W.krv_pick xs
  unfold slicePick at this
  rw [PySem.W.krv_bounds] at this
  rw [PySem.W.krv_sliceRange, List.filterMap_map] at this
  rw [← this]
  congr 1
  refine fm_congr fun m hm => ?_
  have hm := List.mem_range.mp hm
  have e : (((xs.size : Int) - 1) + (m : Int) * (-1)).toNat = xs.size - 1 - m := by omega
  rw [e]
  rfl
theorem backApplied {sl : Addr} {vs : Value} {n : Nat} {Q : Int × Int × Nat → Shared → Prop} (hs : s.heap.IsSliceOf sl .none .none vs) (ps : IsPart vs (some (-1)))
    (h : Q ((n : Int) - 1, -1, n) s) : wpAny (model prog w) A (Builtin.Slice.sliceApplied (.ref sl) (pure (n : Int))) Q E s := by
  obtain ⟨os, hos, hcs, hds⟩ := id hs
  unfold Builtin.Slice.sliceApplied Builtin.Slice.sliceFields
  refine wpAny_bind (wpAny_bind (wpAny_field hos hds (x := .none) rfl (wpAny_bind (wpAny_field hos hds (x := .none) rfl (wpAny_bind (wpAny_field hos hds (x := vs) rfl (wpAny_pure ?_)))))))
  refine wpAny_bind (HT.slicePart_ ps ?_)
  show wpAny _ _ (if ((-1 : Int) == 0) = true then _ else _) _ _ s
  rw [if_neg (by decide)]
  refine wpAny_bind (HT.slicePart_ .none (wpAny_bind (HT.slicePart_ .none (wpAny_bind (wpAny_pure ?_)))))
  have e : Builtin.Slice.sliceAdjust none none (-1) (n : Int) = ((n : Int) - 1, -1) := by
    unfold Builtin.Slice.sliceAdjust
    simp
  show wpAny _ _ (match Builtin.Slice.sliceAdjust none none (-1) (n : Int) with | (lo, hi) => pure (lo, (-1 : Int), Builtin.Slice.slicePlaces lo hi (-1))) _ _ s
  rw [e]
  show wpAny _ _ (pure ((n : Int) - 1, (-1 : Int), Builtin.Slice.slicePlaces ((n : Int) - 1) (-1) (-1))) _ _ s
  rw [places_back]
  exact wpAny_pure h
theorem tupBack {t sl : Addr} {its : Array Value} {vs : Value} {Q : Value → Shared → Prop} (ht : IsTup s.heap t its) (hs : s.heap.IsSliceOf sl .none .none vs) (ps : IsPart vs (some (-1)))
    (h : Q (.ref s.heap.objs.size) { s with heap := s.heap.push { cls := .type "tuple", data := .seq its.toList.reverse.toArray } }) (hsz : its.size ≤ sizeLine) : wpAny (model prog w) A (getItem (.ref t) (.ref sl)) Q E s := by
  have hz : sizeOk (.seq its.toList.reverse.toArray) := by
    show its.toList.reverse.toArray.size ≤ sizeLine
    simpa using hsz
  obtain ⟨os, hos, hcs, hds⟩ := id hs
  have hTs : s.TypeIs (.ref sl) "slice" := ⟨os, hos, hcs⟩
  unfold getItem; try with_reducible refine wpAny_holding ?_
  first | refine wpAny_bind (wpAny_pure ?_) | skip
  refine wpAny_bind (wpAny_sequenceKey ht.typeIs (by decide) ?_); refine wpAny_bind (wpAny_callSpecial?_slot (name := Str.ofString "__getitem__") ht.typeIs PyProof.Rows.slot_tuple_getitem (wpAny_call_entry PyProof.Rows.slot_tuple_getitem ht.typeIs entry_tuple_getitem ?_ (args_tuple_getitem _ _)))
  show wpAny _ _ (Builtin.Tuple.tupleItemsOf (.ref t) >>= _) _ _ s; refine wpAny_bind (tupleItemsOf_ ht ?_); refine wpAny_bind (wpAny_typeOf hTs ?_)
  rw [if_pos (by decide)]; refine wpAny_bind (backApplied (n := its.size) hs ps ?_)
  show wpAny _ _ (if ((((its.size : Int) - 1) == 0) && ((-1 : Int) == 1) && (its.size == its.size)) = true then _ else _) _ _ s
  rw [if_neg (by simp), pick_back]
  first
    | exact wpAny_bind (m := Builtin.Tuple.tupleExact _) (wpAny_newObj_type (wpAny_pure ⟨_, rfl, wpAny_pure h⟩) hz)
    | exact wpAny_bind (m := Builtin.Tuple.tupleExact _) (wpAny_newObj_type (wpAny_bind (wpAny_pure (wpAny_pure ⟨_, rfl, wpAny_pure h⟩))) hz)
    | exact wpAny_bind (wpAny_bind (m := Builtin.Tuple.tupleExact _) (wpAny_newObj_type (wpAny_pure (wpAny_pure ⟨_, rfl, wpAny_pure h⟩)) hz))
    | exact wpAny_bind (wpAny_bind (m := Builtin.Tuple.tupleExact _) (wpAny_newObj_type (wpAny_pure ⟨_, rfl, wpAny_pure h⟩) hz))
end
section
variable {X : Cx}
/-- x[::-1], x a list or a tuple -/
def tRevA (K : PySem.W.Frag) (te : TE) : TE := fun σ H Q => te σ H fun x H1 => ∃ a xs, x = .ref a ∧ ((SqL K H1 a xs ∧ ∀ p, H1 p = none → Q (.ref p) (upd H1 p (.lst xs.reverse))) ∨ (SqT K H1 a xs ∧ ∀ p, H1 p = none → Q (.ref p) (upd H1 p (.tup xs.reverse))))
theorem pe_revA {K : PySem.W.Frag} {e : Expr} {te : TE} {k : Nat} {p1 p2 p3 pos : Pos} (hK : X.K = K) (he : PE X e te) : PE X (.Subscript e (.Slice none none (some (.UnaryOp .USub (.Constant (.int 1) k p1) p2)) p3) pos) (tRevA K te) := by
  subst hK
  refine ⟨fun pins s σ H Q I h => ?_⟩
  refine Subscript_ (thn (he.run pins s σ H _ I h) fun v s1 ⟨x, H1, I1, r1, q1⟩ => ?_)
  obtain ⟨a, xs, ex, q⟩ := q1
  subst ex
  cases r1
  have hst : PO X (some (.UnaryOp .USub (.Constant (.int 1) k p1) p2)) (tPart (tUn (rU fun i => .int (-i)) (tC (.int 1)))) := po_some (pe_un un_neg pe_int)
  refine wpAny_Slice (thn (po_none.run pins s1 σ H1 (fun o H2 => o = none ∧ H2 = H1) I1 ⟨rfl, rfl⟩) fun vl s2 ⟨l, H2, I2, pl, el, e2⟩ => ?_)
  subst el e2
  refine thn (po_none.run pins s2 σ H2 (fun o H3 => o = none ∧ H3 = H2) I2 ⟨rfl, rfl⟩) fun vu s3 ⟨u, H3, I3, pu, eu, e3⟩ => ?_
  subst eu e3
  refine thn (hst.run pins s3 σ H3 (fun o H4 => o = some (-1) ∧ H4 = H3) I3 ⟨1, rfl, -1, rfl, rfl, rfl⟩) fun vs s4 ⟨o, H4, I4, ps, eo, e4⟩ => ?_
  subst eo e4
  have I5 : Inv X pins σ H4 { s4 with heap := s4.heap.push { cls := .type "slice", data := .fields #[vl, vu, vs] } } := I4.kept (t' := s4.toks) fun b ob q => Heap.get?_push_of_some _ q
  cases pl
  cases pu
  rcases q with ⟨hx, q⟩ | ⟨hx, q⟩
  · obtain ⟨its, r, ht, hz⟩ := I5.list hx
    have hlen := r.length
    show wpAny (model X.prog X.w) X.A (subscriptTail e (.Slice none none (some (.UnaryOp .USub (.Constant (.int 1) k p1) p2)) p3) (.ref a) (.ref s4.heap.objs.size)) (EP X pins σ Q) X.xe _
    refine tail_any (ops := [.ref a, .ref s4.heap.objs.size]) ht.isList.typeIs (PySem.slot_list_getitem.lookup) ?_ (by with_unfolding_all rfl)
    refine wpAny_getItem_list_slice ht.isList (Heap.IsSliceOf.new _ _ _ vs) .none .none ps (by decide) ?_ (by rw [List.size_toArray]; omega)
    rw [PySem.W.krv_pick]
    refine ⟨.ref _, _, I5.laid (t' := s4.toks) (o := .lst xs.reverse) (fun b ob q => Heap.get?_push_of_some _ q) (Nat.le_refl _) ?_, rfl, q _ (I5.hok.fresh (Nat.le_refl _))⟩
    exact ⟨by rw [List.length_reverse]; exact hz, _, 0, r.reverse, Heap.get?_push_size _ rfl⟩
  · obtain ⟨its, r, ht, hz⟩ := I5.tuple hx
    have hlen := r.length
    show wpAny (model X.prog X.w) X.A (subscriptTail e (.Slice none none (some (.UnaryOp .USub (.Constant (.int 1) k p1) p2)) p3) (.ref a) (.ref s4.heap.objs.size)) (EP X pins σ Q) X.xe _
    refine tail_any (ops := [.ref a, .ref s4.heap.objs.size]) ht.typeIs PyProof.Rows.slot_tuple_getitem.lookup ?_ (by with_unfolding_all rfl)
    refine tupBack ht (Heap.IsSliceOf.new _ _ _ vs) ps ?_ (by rw [List.size_toArray]; omega)
    refine ⟨.ref _, _, I5.laid (t' := s4.toks) (o := .tup xs.reverse) (fun b ob q => Heap.get?_push_of_some _ q) (Nat.le_refl _) ?_, rfl, q _ (I5.hok.fresh (Nat.le_refl _))⟩
    exact ⟨by rw [List.length_reverse]; exact hz, _, r.reverse, IsTup.new _ _⟩
theorem u1n {k : Nat} {A : Around} (r : Room k A) : A.units + 1 < cLine := by have := r.units; omega
/-- xs != ys, lists of lists of the very same objects -/
def rNeLL : R2 := fun x y H Q => ∃ a b ls ms, x = .ref a ∧ y = .ref b ∧ H a = some (.lst ls) ∧ H b = some (.lst ms) ∧ ls.length = ms.length ∧
  (∀ (i : Nat) (u v : V), ls[i]? = some u → ms[i]? = some v → ∃ p q xs, u = .ref p ∧ v = .ref q ∧ p ≠ q ∧ H p = some (.lst xs) ∧ H q = some (.lst xs) ∧ ∀ z ∈ xs, ∃ r, z = .ref r) ∧ Q (.bl false) H
theorem vals_one {zs : List V} (hz : ∀ z ∈ zs, ∃ p, z = .ref p) {us vs : List Value} (r1 : Vals zs us) (r2 : Vals zs vs) : us = vs := by
  induction zs generalizing us vs with
  | nil =>
    cases r1; cases r2; rfl
  | cons z zs ih =>
    cases r1 with
    | cons a1 t1 =>
      cases r2 with
      | cons a2 t2 =>
        obtain ⟨p, ep⟩ := hz z (by simp)
        subst ep
        cases a1; cases a2
        rw [ih (fun z h => hz z (by simp [h])) t1 t2]
theorem z_neLL (hu : X.A.units + 1 < cLine) : OpR X (compareOp .NotEq) rNeLL := by
  intro pins s σ H x y v u Q I rx ry h
  obtain ⟨a, b, ls, ms, rfl, rfl, ha, hb, hl, hz, q⟩ := h
  obtain rfl : v = Value.ref a := rx
  obtain rfl : u = Value.ref b := ry
  obtain ⟨_, its, n, rv, e⟩ := (show ObjOk X.prog X.w H s.heap a (.lst ls) from I.hok a _ ha)
  obtain ⟨_, its2, n2, rv2, e2⟩ := (show ObjOk X.prog X.w H s.heap b (.lst ms) from I.hok b _ hb)
  have l1 := rv.length
  have l2 := rv2.length
  show wpAny _ X.A (richCompare .NotEq _ _) _ _ s
  refine SeqAt.RcNeAt.lists (e := fun _ => true) ⟨_, e, rfl, n, rfl⟩ ⟨_, e2, rfl, n2, rfl⟩ (by simp; omega) (by omega) (fun j h1 h2 => ?_) X.prog X.w _ _ ?_
  · have j1 : j < its.length := by simpa using h1
    have j2 : j < its2.length := by simpa using h2
    obtain ⟨u1, g1, r1⟩ := rv.get (List.getElem?_eq_getElem (show j < ls.length by omega))
    obtain ⟨u2, g2, r2⟩ := rv2.get (List.getElem?_eq_getElem (show j < ms.length by omega))
    obtain ⟨p, t, xs, ep, et, hne, hp, ht, hr⟩ := hz j _ _ (List.getElem?_eq_getElem (show j < ls.length by omega)) (List.getElem?_eq_getElem (show j < ms.length by omega))
    rw [ep] at r1
    rw [et] at r2
    obtain rfl : u1 = Value.ref p := r1
    obtain rfl : u2 = Value.ref t := r2
    have f1 : its.toArray[j] = Value.ref p := by
      rw [List.getElem?_eq_getElem j1] at g1
      simpa using Option.some.inj g1
    have f2 : its2.toArray[j] = Value.ref t := by
      rw [List.getElem?_eq_getElem j2] at g2
      simpa using Option.some.inj g2
    rw [f1, f2]
    obtain ⟨_, i1, n3, rv3, e3⟩ := (show ObjOk X.prog X.w H s.heap p (.lst xs) from I.hok p _ hp)
    obtain ⟨_, i2, n4, rv4, e4⟩ := (show ObjOk X.prog X.w H s.heap t (.lst xs) from I.hok t _ ht)
    obtain rfl := vals_one hr rv3 rv4
    have key := SeqAt.RcAt.lists (A := X.A.in1) (s := s) (e := fun _ => true) ⟨_, e3, rfl, n3, rfl⟩ ⟨_, e4, rfl, n4, rfl⟩ rfl (by show X.A.units + 1 < cLine; omega) (fun j h1 h2 => SeqAt.EqAt.same _)
    have ea : (List.range i1.toArray.size).all (fun _ => true) = true := by simp
    rw [ea] at key
    exact SeqAt.EqAt.of_refs hne key
  · refine ⟨.bl false, H, I, ?_, q⟩
    have : (List.range its.toArray.size).all (fun _ => true) = true := by simp
    rw [this]
    rfl
end
/-! ### read -/
section
variable {K : PySem.W.Frag} {σ : L2.St} {H : Hp} {te : TE} {Q : VK} {a : Addr} {xs : List V} {n : Nat}
theorem i_popR {v : V} (h : H a = some (.lst (xs ++ [v]))) (q : ∀ H', H' a = some (.lst xs) → (∀ b, b ≠ a → H' b = H b) → Q v H') : rPop (.ref a) [] H Q :=
  ⟨a, _, v, rfl, rfl, h, by simp, q _ (by rw [upd_same, List.dropLast_concat]) fun b hb => upd_ne hb⟩
def rRevA (K : PySem.W.Frag) (x : V) (H1 : Hp) (Q : VK) : Prop := ∃ a xs, x = .ref a ∧ ((SqL K H1 a xs ∧ ∀ p, H1 p = none → Q (.ref p) (upd H1 p (.lst xs.reverse))) ∨ (SqT K H1 a xs ∧ ∀ p, H1 p = none → Q (.ref p) (upd H1 p (.tup xs.reverse))))
theorem i_revA0 (h : te σ H (fun x H1 => rRevA K x H1 Q)) : tRevA K te σ H Q := h
theorem i_revA (s : SqA K H a xs) (h : ∀ p H', H p = none → Same H H' → SqA K H' p xs.reverse → (∀ b, b ≠ p → H' b = H b) → Q (.ref p) H') : rRevA K (.ref a) H Q := by
  have sm : ∀ {p : Addr} {o : HO}, H p = none → Same H (upd H p o) := fun hp b q e => by rw [upd_ne (ne_of_none e hp)]; exact e
  refine ⟨a, xs, rfl, ?_⟩
  rcases s with s | s
  · exact .inl ⟨s, fun p hp => h p _ hp (sm hp) (.l upd_same) fun b hb => upd_ne hb⟩
  · exact .inr ⟨s, fun p hp => h p _ hp (sm hp) (.t upd_same) fun b hb => upd_ne hb⟩
theorem i_truO0 {C : Addr} {sp : Sp} {P : Bool → Hp → Prop} (h : te σ H (fun x H1 => rTruO C sp x H1 P)) : tTruO C sp te σ H P := h
end
end Z

set_option Elab.async false
set_option linter.all false
set_option maxRecDepth 100000
set_option maxHeartbeats 4000000
/-! a def called within an except suite, whatever is handled there -/
namespace Z
open PySem PySem.Spec PyProof.Rows L2 L2H
structure FnL (P : Program) (w : World) (K : PySem.W.Frag) (mg : Str → Option Value) (base : Heap) (k : Nat) (f : Addr) (fd : FuncData) (ps : List Str) (sp : Sp) : Prop where
  len : ∀ vs H Q E, sp vs H Q E → vs.length = ps.length
  run : ∀ (A : Around) (outer : List Env) (s : Shared) (H : Hp) (args : Args) (us : List Value) (vs : List V) (Q : VK) (E : XK) (p : Addr × Obj), RoomH k A → PinOk outer H s p → Env0 P w K mg base A outer s H → BindsTo s fd args (ps.zip us) → Vals vs us → sp vs H Q E → codeAny (model P w) A (.call (.ref f) args) (CR (L2.CX P w) outer P w H s Q E) s
theorem fnL_of {P : Program} {w : World} {K : PySem.W.Frag} {mg : Str → Option Value} {base : Heap} {k : Nat} {f : Addr} {x qual : Str} {st : Stmt} {fd : FuncData} {N ps : List Str} {sp : Sp} (F : L2.Fun K x qual st f fd) (S : FnScope N ps (defScope st)) (len : ∀ vs H Q E, sp vs H Q E → vs.length = ps.length)
    (hbody : ∀ (cdv : Value) (A : Around) (outer : List Env) (s : Shared) (H : Hp) (vs : List V) (Q : VK) (E : XK) (p : Addr × Obj), RoomH k (A.deeper (envOfC qual (defScope st) s.heap.objs.size f cdv)) → sp vs H Q E →
      ∃ t, PSs (cxH (L2.CX P w) P w K mg base N qual (defScope st) f cdv A outer s H E p) (defBody st) t ∧ t { nx := fun _ H' => Q .non H', rt := Q } (L2.start N vs) H) : FnL P w K mg base (k + 1) f fd ps sp := by
  obtain ⟨oc, od, kV, doc, pm, an, cdv, ct, osl, rfl, lk, hcd⟩ := F.ex
  refine ⟨len, fun A outer s H args us vs Q E p hr hpin e0 hb r hsp => ?_⟩
  have hl := len _ _ _ _ hsp
  have KX : K.In s.heap := e0.mod.kin.keeps (fun b o e => (e0.bs b o e).1); have lim : s.heap.NoLimit := e0.mod.nolimit.keeps fun b o e => (e0.bs b o e).1
  have kinds : ∀ y ∈ ps.zip us, (defScope st).names.lookup y.1 = some .local ∨ ((defScope st).names.lookup y.1 = some .cell ∧ ((cellsFrom (s.heap.objs.size + 1) (defScope st).names []).lookup y.1).isSome = true) := by
    rintro ⟨n, v⟩ hy
    exact (S.par n (List.of_mem_zip hy).1).elim .inl fun q => .inr ⟨q, PySem.W.cellsFrom_some _ _ _ (.inl q)⟩
  refine codeAny_call_function hr.depth (KX _ _ lk) rfl S.co S.gen rfl (PySem.W.codeRec_of KX hcd) (hb _ _ _ _ (wpAny_newFunctionEnv_cells S.kind kinds fun env he s1 x => ?_))
  subst he
  obtain ⟨t, ht, hq⟩ := hbody cdv A outer s H vs Q E p (hr.deeper _) hsp
  refine ⟨lim.keeps x.toInCall.keep, codeAny_func (wpAny_mono (ht.run [] s1 (L2.start N vs) H _ (inv_startH (CX := L2.CX P w) S hpin e0 hl r x) hq) (fun fl s' hs => ?_) fun e s' hs => hs)⟩
  rcases fl with _ | _ | _ | u
  · obtain ⟨σ', H', J, q⟩ := hs
    exact ⟨.non, H', J.os, J.bare, J.base, J.hok, rfl, q⟩
  · obtain ⟨_, _, _, q⟩ := hs; exact False.elim q
  · obtain ⟨_, _, _, q⟩ := hs; exact False.elim q
  · obtain ⟨v, σ', H', J, rv, q⟩ := hs
    exact ⟨v, H', J.os, J.bare, J.base, J.hok, rv, q⟩
/-- such a def by its name -/
def CalL (P : Program) (w : World) (K : PySem.W.Frag) (mg : Str → Option Value) (base : Heap) (x : Str) (k : Nat) (sp : Sp) : Prop := ∃ f fd ps, mg x = some (.ref f) ∧ PySem.W.keepIn K (.ref f) = true ∧ Binds K fd ps [] ∧ FnL P w K mg base k f fd ps sp
theorem roomL {k : Nat} {A : Around} {v : Option Value} (r : Room k A) : RoomH k (A.mark v) := ⟨r.dp, r.un⟩
theorem z_callL {X : Cx} {k j : Nat} {x : Str} {sp : Sp} {q pos : Pos} {e : Expr} {es : List Expr} {t : TA} {p : Addr × Obj} (c : CalL X.prog X.w X.K X.mg X.base x k sp) (hr : RoomH j X.A) (hp : p ∈ X.pn) (hx : ∀ σ, PassesAt (L2.CX X.prog X.w) X σ (EN σ)) (ha : PA X (e :: es) t) (hj : k ≤ j := by decide) (hg : Gl X x := by rfl)
    (hdb : (x == ("__debug__" : Str)) = false := by decide) (he : starEach (e :: es) X.env = (false, eval e X.env) :: starEach es X.env := by rfl) (hpl : (backTo pos (starEach es X.env)).any (·.1) = false := by rfl) :
    PE X (.Call (.Name x q) (e :: es) [] pos) (tCallS sp EN t) := by
  obtain ⟨f, fd, ps, hm, hk, hb, F⟩ := c
  refine ⟨fun pins s σ H Q I h => wpAny_Call_Name_kw (ld_glob I hg hm ?_ hdb)⟩
  refine PySem.W.callWith_K (h₀ := X.base) I.ok.mod.kin hk (thn (ha.run pos pins s σ H _ I h) fun us s1 ⟨vs, H1, I1, r, q⟩ => ⟨I1.kIn, ?_⟩) he hpl
  have hl : us.length = ps.length := by rw [← r.length]; exact F.len _ _ _ _ q
  have b := hb s1 us I1.kIn (by rw [List.append_nil]; exact hl)
  rw [List.append_nil] at b
  have P1 := I1.pin p (List.mem_append_left _ hp)
  have pk : PinOk X.stack H1 s1 p := ⟨P1.1, P1.2.1, (fun hm => (List.mem_cons.mp (I1.stkSub p.1 hm)).elim P1.2.2.1 P1.2.2.2.1), P1.2.2.2.2⟩
  refine wpAny_call (codeAny_mono (F.run X.A X.stack s1 H1 ⟨us, []⟩ us vs Q (EN σ) p (hr.mono hj) pk I1.env0 b r q) fun r s' hq => ?_)
  rcases r with e | fl
  · exact hx σ pins H1 s1 e s' I1 hq
  rcases fl with _ | _ | _ | u
  · exact False.elim hq
  · exact False.elim hq
  · exact False.elim hq
  · exact I1.after hq
theorem mk_calL {P : Program} {w : World} {K : PySem.W.Frag} {mg : Str → Option Value} {base h : Heap} {x : Str} {f : Addr} {fd : FuncData} {ps : List Str} {k : Nat} {sp : Sp} (X : K.In h) (G : h.Ns mainGlobals mg) (a : PySem.W.nsIn K mainGlobals x = some (some (.ref f))) (kk : PySem.W.keepIn K (.ref f) = true) (b : Binds K fd ps []) (F : FnL P w K mg base k f fd ps sp) :
    CalL P w K mg base x k sp := ⟨f, fd, ps, PySem.W.mg_of X G a, kk, b, F⟩
theorem kit_b {K : PySem.W.Frag} {C : Addr} {T : String} {b : Bool} (h : PySem.W.kitMeta T = true) (e : PySem.W.subIn K (.ref C) (.type T) = some b) : PySem.W.kitOne K (.ref C) (.type T) = some b := by
  unfold PySem.W.kitOne
  rw [if_neg (by simp)]
  unfold PySem.W.kitCls
  show (if PySem.W.kitMeta T = true then PySem.W.subIn K (.ref C) (.type T) else none) = some b
  rw [if_pos h, e]
end Z

set_option Elab.async false
set_option linter.all false
set_option maxRecDepth 100000
set_option maxHeartbeats 4000000
/-! errors that are made and not raised; isinstance of them; {x!s} of own things -/
namespace Z
open PySem PySem.Spec PyProof.Rows L2
section
variable {X : Cx} {C : Addr} {k j : Nat} {sp : Sp} {x : Str} {e : Expr} {es : List Expr} {t : TA} {te : TE} {p pos : Pos}
/-- C(e, ..), C an error class: the new object -/
def tMkV (C : Addr) (sp : Sp) (ta : TA) : TE := fun σ H Q => ta σ H fun vs H1 => vs.length ≤ 1000 ∧ ∀ a, H1 a = none → sp (.ref a :: (vs ++ [])) (upd H1 a (exo a C none)) (fun v H2 => v = .non ∧ Q (.ref a) H2) (fun _ _ _ => False)
theorem runMkV {pins : List (Addr × Obj)} {σ : L2.St} {H1 : Hp} {s1 : Shared} {Q : VK} {us : List Value} {vs : List V} {fI : Addr} {fd : FuncData} {ps : List Str} (T : OexC X.K C) (iC : PySem.W.findIn X.K (.ref C) "__init__" = some (some (.ref fI))) (tI : PySem.W.typeIn X.K (.ref fI) = some (.type "function"))
    (F1 : FnOk X.prog X.w X.K X.mg X.base (L2.CX X.prog X.w) k fI fd ps sp) (hr : Room (k + 1) X.A) (hb : Binds X.K fd ps []) (I1 : Inv X pins σ H1 s1) (r1 : Vals vs us) (hz : vs.length ≤ 1000)
    (q1 : ∀ a, H1 a = none → sp (.ref a :: (vs ++ [])) (upd H1 a (exo a C none)) (fun v H2 => v = .non ∧ Q (.ref a) H2) (fun _ _ _ => False)) : wpAny (model X.prog X.w) X.A (call (.ref C) us) (EP X pins σ Q) X.xe s1 := by
  obtain ⟨nm, q, N, bs, bm, sn, sub, ab, col, dd, k0, k1, k2, k3, k5, hC, hbm⟩ := T.cls
  obtain ⟨hp, g, dr, tk, os⟩ := s1
  have hsz : hp.objs.size ≤ hp.objs.size + 1 := Nat.le_succ _
  have hn : H1 (hp.objs.size + 1) = none := I1.hok.fresh hsz
  have hq := q1 (hp.objs.size + 1) hn
  have kk : ∀ b o, hp.get? b = some o → ((hp.push (PySem.W.kdv_tup us)).push (PySem.HandSPX.excO C hp.objs.size)).get? b = some o := fun b o e => Heap.get?_push_of_some _ (Heap.get?_push_of_some _ e)
  have hget : ((hp.push (PySem.W.kdv_tup us)).push (PySem.HandSPX.excO C hp.objs.size)).get? (hp.objs.size + 1) = some (PySem.HandSPX.excO C hp.objs.size) := by heap_get
  have I2 : Inv X pins σ (upd H1 (hp.objs.size + 1) (exo (hp.objs.size + 1) C none)) ⟨(hp.push (PySem.W.kdv_tup us)).push (PySem.HandSPX.excO C hp.objs.size), g, dr, tk, os⟩ :=
    I1.laid (t' := tk) (a := hp.objs.size + 1) (o := exo (hp.objs.size + 1) C none) (h' := (hp.push (PySem.W.kdv_tup us)).push (PySem.HandSPX.excO C hp.objs.size)) kk hsz (exo_ok hget)
  have r2 : Vals (V.ref (hp.objs.size + 1) :: (vs ++ [])) (Value.ref (hp.objs.size + 1) :: (us ++ [])) := .cons rfl (r1.append .nil)
  have hl : (Value.ref (hp.objs.size + 1) :: us ++ []).length = ps.length := by
    have e := r2.length
    rw [F1.len _ _ _ _ hq] at e
    exact e.symm
  have hus : us.length ≤ sizeLine := by
    rw [← Paired.length r1, sizeLine_eq]
    omega
  have hbb := hb _ (Value.ref (hp.objs.size + 1) :: us) I2.kIn hl
  rw [List.cons_append] at hbb
  refine wpAny_call (PySem.HandSPX.call_own F.excBase_ValueError (fun Y => PySem.HandSPX.refsVE_contains Y bm hbm) (I1.kIn _ _ hC) (PySem.W.looks_findIn I1.kIn iC) (fun self => PySem.W.bind_fn I1.kIn self tI) hus
    (codeAny_mono (F1.run _ X.stack _ _ ⟨Value.ref (hp.objs.size + 1) :: us, []⟩ (Value.ref (hp.objs.size + 1) :: (us ++ [])) _ _ (fun _ _ _ => False) (hr.make C us []) (I2.env0.make C us []) hbb r2 hq) fun r s' hq' => ?_))
  cases r with
  | error er => exact (cxN hq').elim
  | ok fl =>
    cases fl with
    | ret u =>
      obtain ⟨v, H', I3, rv, ev, q3⟩ := I2.after hq'
      subst ev
      exact ⟨rv, .ref (hp.objs.size + 1), H', I3, rfl, q3⟩
    | next => exact False.elim hq'
    | brk => exact False.elim hq'
    | cont => exact False.elim hq'
theorem z_mkV {ps : List Str} (c : CalX X.prog X.w X.K X.mg X.base x C k ps sp) (hr : Room j X.A) (ha : PA X (e :: es) t) (hj : k + 1 ≤ j := by decide) (hg : Gl X x := by rfl)
    (hdb : (x == ("__debug__" : Str)) = false := by decide) (he : starEach (e :: es) X.env = (false, eval e X.env) :: starEach es X.env := by rfl)
    (hpl : (backTo pos (starEach es X.env)).any (·.1) = false := by rfl) : PE X (.Call (.Name x p) (e :: es) [] pos) (tMkV C sp t) := by
  obtain ⟨hm, T, fI, fd, iC, tI, F, b⟩ := c
  refine ⟨fun pins s σ H Q I h => ?_⟩
  refine wpAny_Call_Name_kw (ld_glob I hg hm ?_ hdb)
  refine PySem.W.callWith_K (h₀ := X.base) I.ok.mod.kin T.kC (thn (ha.run pos pins s σ H _ I h) fun us s1 ⟨vs, H1, I1, r1, hz, q1⟩ => ⟨I1.kIn, ?_⟩) he hpl
  exact runMkV T iC tI F (hr.mono hj) b I1 r1 hz q1
theorem z_mkV0 {ps : List Str} (c : CalX X.prog X.w X.K X.mg X.base x C k ps sp) (hr : Room j X.A) (hj : k + 1 ≤ j := by decide) (hg : Gl X x := by rfl)
    (hdb : (x == ("__debug__" : Str)) = false := by decide) : PE X (.Call (.Name x p) [] [] pos) (tMkV C sp tNil) := by
  obtain ⟨hm, T, fI, fd, iC, tI, F, b⟩ := c
  refine ⟨fun pins s σ H Q I h => ?_⟩
  refine wpAny_Call_Name_kw (ld_glob I hg hm ?_ hdb)
  have h' : (([] : List V).length ≤ 1000 ∧ ∀ a, H a = none → sp (.ref a :: ([] ++ [])) (upd H a (exo a C none)) (fun v H2 => v = .non ∧ Q (.ref a) H2) (fun _ _ _ => False)) := h
  exact PySem.W.callWith_K0 I.kIn T.kC (runMkV (us := []) T iC tI F (hr.mono hj) b I .nil h'.1 h'.2)
/-- isinstance(e, c), e an error that stands -/
def rIsX (K : PySem.W.Frag) : List V → Hp → VK → Prop := fun xs H Q => ∃ (a D : Addr) (d : Option Addr) (c : V) (u : Value) (b : Bool), xs = [.ref a, c] ∧ ClsV c u ∧ ExcC K D ∧ H a = some (exo a D d) ∧ (∀ dd, d = some dd → ∃ fs, H dd = some (exd dd fs)) ∧ PySem.W.kitOne K (.ref D) u = some b ∧ Q (.bl b) H
theorem call_isX : CallR X (.builtin "isinstance") (rIsX X.K) := by
  intro pins s σ H xs us Q I r h
  obtain ⟨a, D, d, c, u, b, rfl, k, CD, ha, hd, e, q⟩ := h
  obtain ⟨u1, u2, rfl, r1, r2⟩ := vals2 r
  have e2 := k.eq r2
  subst e2
  obtain rfl : u1 = Value.ref a := r1
  obtain ⟨t1, ho⟩ := exo_at I.hok ha
  have hcl : (PySem.W.clsIn X.K D).isSome = true := by
    obtain ⟨cd, hc, _⟩ := PySem.W.any_some CD.hd
    rw [hc]
    rfl
  have go : ∀ od, PySem.W.InstAt s.heap a { cls := .ref D, dict := d, data := .fields #[.ref t1, .none, .none, .none, .bool false, .none] } D od → wpAny (model X.prog X.w) X.A (call (.builtin "isinstance") [.ref a, u2]) (EP X pins σ Q) X.xe s := fun od J =>
    PySem.W.kia_one (PySem.W.kitx_exc hcl CD.hg CD.hk CD.hs CD.ha CD.hn CD.ht CD.hm) I.kIn J e (fun z => nomatch z) fun tk => ⟨.bl b, H, I.tok tk, rfl, q⟩
  cases d with
  | none => exact go none ⟨ho, rfl, rfl, trivial⟩
  | some dd =>
    obtain ⟨fs, hdd⟩ := hd dd rfl
    obtain ⟨mA, hns, hr⟩ := exd_at I.hok hdd
    obtain ⟨od, ho2, hl⟩ := lookIn_ns hns
    exact go (some od) ⟨ho, rfl, rfl, ho2⟩
theorem k_isX {K : PySem.W.Frag} (hK : X.K = K) : CallR X (.builtin "isinstance") (rIsX K) := by
  subst hK
  exact call_isX
/-- {x!s}, x an instance with its own __str__ -/
def tFmtSO (C : Addr) (sp : Sp) (te : TE) : TE := fun σ H Q => te σ H fun x H1 => ∃ a dx fs, x = .ref a ∧ H1 a = some (.ins C dx fs) ∧ sp [.ref a] H1 (fun v H' => ∃ z, v = .str z ∧ z.length ≤ 100000 ∧ Q (.str z) H') (fun _ _ _ => False)
theorem pe_fmtSO (c : CalO X.prog X.w X.K X.mg X.base C "__str__" k sp) (hr : Room j X.A) (he : PE X e te) (hj : k + 2 ≤ j := by decide) : PE X (.FormattedValue e 115 none pos) (tFmtSO C sp te) := by
  obtain ⟨f, S, sf, F⟩ := c
  have hr := hr.mono hj
  refine ⟨fun pins s σ H Q I h => ?_⟩
  refine wpAny_FormattedValue_s (thn (he.run pins s σ H _ I h) fun v s1 ⟨x, H1, I1, r1, q⟩ => ?_)
  obtain ⟨a, dx, fs, rfl, ea, h⟩ := q
  obtain rfl : v = Value.ref a := r1
  show wpAny _ _ (pyStrObj (.ref a)) _ _ _
  obtain ⟨ox, od, Ja⟩ := instAt I1 ea
  unfold pyStrObj
  refine wpAny_bind (m := cRoomFor _ _) (wpAny_cRoomFor hr.units0 ?_)
  refine wpAny_bind (m := callSpecial? (.ref a) (Str.ofString "__str__")) (PySem.W.special_fn I1.kIn Ja S.at_ (beq_iff_eq.mp S.fn) ?_)
  have hr1 : Room k X.A := hr.mono (by omega)
  refine wpAny_call (codeAny_mono (F X.A X.stack s1 H1 [.ref a] [.ref a] _ (fun _ _ _ => False) hr1 I1.env0 (.cons rfl .nil) h) fun q s' hq => ?_)
  rcases q with e | fl
  · exact (cxN hq).elim
  rcases fl with _ | _ | _ | u'
  · exact False.elim hq
  · exact False.elim hq
  · exact False.elim hq
  obtain ⟨v', H', J', rv, z, ev, hz, q⟩ := I1.after hq
  subst ev
  obtain ⟨t, rfl⟩ := rv
  refine wpAny_bind (wpAny_isInstance (b := true) (typeIs_str _ _ _) isSubtype_str_str ?_)
  refine wpAny_pure ?_
  exact wpAny_formatField_str ⟨.str z, H', J', ⟨_, rfl⟩, q⟩ ⟨.str z, H', J'.tok _, ⟨_, rfl⟩, q⟩ (Nat.le_trans hz (by rw [sizeLine_eq]; decide))
/-- [x] * k -/
def rMulLI : R2 := fun x y H Q => ∃ (a : Addr) (v : V) (k : Nat), x = .ref a ∧ y = .int k ∧ H a = some (.lst [v]) ∧ k ≤ 1000 ∧ ∀ p, H p = none → Q (.ref p) (upd H p (.lst (List.replicate k v)))
theorem op_mulLI : OpR X (binaryOp .Mult) rMulLI := by
  intro pins s σ H x y v u Q I rx ry h
  obtain ⟨a, v1, k, rfl, rfl, ha, hk, q⟩ := h
  obtain rfl : v = Value.ref a := rx
  obtain ⟨tk, rfl⟩ := ry
  obtain ⟨hz0, its, n, rv, ho⟩ := (show ObjOk X.prog X.w H s.heap a (.lst [v1]) from I.hok a _ ha)
  have l1 : its.length = 1 := by rw [← rv.length]; rfl
  have key : ∀ z : Int, z = (k : Nat) → wpAny (model X.prog X.w) X.A (binaryOp .Mult (.ref a) (.int z tk)) (EP X pins σ Q) X.xe s := fun z hzk => by
    have hm : its.toArray.size * z.toNat = k := by rw [hzk, List.size_toArray, l1, Int.toNat_natCast, Nat.one_mul]
    have c0 : ¬(!Builtin.List.listFitsIndex z) = true := by
      unfold Builtin.List.listFitsIndex
      simp
      omega
    refine wpAny_binaryOp_repeat_ref (T := "list") (U := "int") (by decide) ⟨_, ho, rfl⟩ (fun s' => typeIs_int s' _ tk) noFill_list_mul F.fills_int_mul F.slot_int_rmul repeat_list F.slot_int_index.lookup
      (call_meets F.slot_int_rmul (typeIs_int s _ tk) F.entry_int_rmul (F.args_int_rmul_2 _ _) (int___rmul___int_list z tk a its.toArray n)
        ⟨ho, rfl, ⟨_, ho, rfl⟩, call_meets F.slot_list_mul ⟨_, ho, rfl⟩ F.entry_list_mul (F.args_list_mul_2 _ _)
          (AutoListH.list___mul___list_int_3 a its.toArray n z tk c0 (by rw [hm]; omega) (by rw [hm]; unfold Builtin.List.listTooLong; rw [sizeLine_eq, decide_eq_true_eq]; omega))
          ⟨ho, ?_⟩⟩)
    rw [listMul_foldl_if, hzk, Int.toNat_natCast]
    obtain ⟨u1, rfl⟩ : ∃ u1, its = [u1] := by
      match its, l1 with
      | [u1], _ => exact ⟨u1, rfl⟩
    obtain ⟨rv1, _⟩ : RelV v1 u1 ∧ True := by
      cases rv with
      | cons r t => exact ⟨r, trivial⟩
    have rep : ∀ k : Nat, Vals (List.replicate k v1) (List.replicate k [u1]).flatten := by
      intro k
      induction k with
      | zero => exact .nil
      | succ k ih =>
        rw [List.replicate_succ, List.replicate_succ, List.flatten_cons]
        exact .cons rv1 ih
    have hv := rep k
    have hl : (List.replicate k v1).length ≤ sizeLine := by rw [List.length_replicate, sizeLine_eq]; omega
    have hlist : [u1].toArray.toList = [u1] := rfl
    rw [hlist]
    refine ⟨.ref s.heap.objs.size, upd H s.heap.objs.size (.lst (List.replicate k v1)), I.laid (t' := s.toks) (fun b o e => Heap.get?_push_of_some _ e) (Nat.le_refl _) ⟨hl, _, 0, hv, Heap.get?_push_size _ rfl⟩, rfl, q _ (I.hok.fresh (Nat.le_refl _))⟩
  exact key _ rfl
end
/-! ### a def with a star parameter, as a classmethod -/
section
variable {P : Program} {w : World} {K : PySem.W.Frag} {mg : Str → Option Value} {base : Heap}
/-- what a call of def f(a, *v) asks: sp of the new tuple -/
def spStar (n : Nat) (sp : Sp) : Sp := fun vs H Q E => ∃ ws rest, vs = ws ++ rest ∧ ws.length = n ∧ rest.length ≤ sizeLine ∧ ∀ p, H p = Option.none → sp (ws ++ [V.ref p]) (upd H p (.tup rest)) Q E
theorem fnS_mk {x qual : Str} {st : Stmt} {f : Addr} {fd : FuncData} {N ps : List Str} {pv : Str} {k : Nat} {sp : Sp} (F : L2.Fun K x qual st f fd) (S : FnScope N (ps ++ [pv]) (defScope st))
    (hb : ∀ (kV doc pm : Value) (an : Option Addr) (cdv ct : Value) (us rest : List Value), us.length = ps.length → bindArgs (PySem.W.fnOf x qual (defArgs st) (defBody st) (defScope st) .none kV doc pm an cdv ct) ⟨us ++ rest, []⟩ = (newTuple rest >>= fun t => pure (ps.zip us ++ [(pv, t)])))
    (hbody : ∀ (cdv : Value) (A : Around) (outer : List Env) (s : Shared) (H : Hp) (vs : List V) (Q : VK) (E : XK), Room k (A.deeper (envOfC qual (defScope st) s.heap.objs.size f cdv)) → sp vs H Q E →
      ∃ t, PSs (cxOf (L2.CX P w) P w K mg base N qual (defScope st) f cdv A outer s H E) (defBody st) t ∧ t { nx := fun _ H' => Q .non H', rt := Q } (start N vs) H) : FnR P w K mg base (L2.CX P w) (k + 1) f (spStar ps.length sp) := by
  obtain ⟨oc, od, kV, doc, pm, an, cdv, ct, osl, rfl, lk, hcd⟩ := F.ex
  exact StX.fn_star lk hcd S StX.cxUp (hb _ _ _ _ _ _) (hbody cdv)
theorem fnS_mk1 {x qual : Str} {st : Stmt} {f : Addr} {fd : FuncData} {N : List Str} {p1 pv : Str} {k : Nat} {sp : Sp} (F : L2.Fun K x qual st f fd) (S : FnScope N [p1, pv] (defScope st))
    (h0 : ∀ (kV doc pm : Value) (an : Option Addr) (cdv ct : Value) (a : Value), bindArgs (PySem.W.fnOf x qual (defArgs st) (defBody st) (defScope st) .none kV doc pm an cdv ct) ⟨[a], []⟩ = (newTuple [] >>= fun t => pure [(p1, a), (pv, t)]))
    (h1 : ∀ (kV doc pm : Value) (an : Option Addr) (cdv ct : Value) (a r : Value) (rs : List Value), bindArgs (PySem.W.fnOf x qual (defArgs st) (defBody st) (defScope st) .none kV doc pm an cdv ct) ⟨a :: r :: rs, []⟩ = (newTuple (r :: rs) >>= fun t => pure [(p1, a), (pv, t)]))
    (hbody : ∀ (cdv : Value) (A : Around) (outer : List Env) (s : Shared) (H : Hp) (vs : List V) (Q : VK) (E : XK), Room k (A.deeper (envOfC qual (defScope st) s.heap.objs.size f cdv)) → sp vs H Q E →
      ∃ t, PSs (cxOf (L2.CX P w) P w K mg base N qual (defScope st) f cdv A outer s H E) (defBody st) t ∧ t { nx := fun _ H' => Q .non H', rt := Q } (start N vs) H) : FnR P w K mg base (L2.CX P w) (k + 1) f (spStar 1 sp) :=
  fnS_mk (ps := [p1]) (pv := pv) F S (fun kV doc pm an cdv ct => StX.bind_star1 (B := fun vs => bindArgs (PySem.W.fnOf x qual (defArgs st) (defBody st) (defScope st) .none kV doc pm an cdv ct) ⟨vs, []⟩) (h0 kV doc pm an cdv ct) (h1 kV doc pm an cdv ct)) hbody
theorem mk_calKS {C f : Addr} {k : Nat} {sp : Sp} {x : Str} {mc : Value} {p : Addr} (r : ClX.CRead K C mc) (m : ClX.CMet K C mc x p f) (F : FnR P w K mg base (L2.CX P w) k f sp) : CalK P w K mg base C x k sp := ⟨mc, p, f, r, m, F⟩
end
end Z

set_option Elab.async false
set_option linter.all false
set_option maxRecDepth 100000
set_option maxHeartbeats 1000000
/-! list(zip(xs, ys)), xs and ys tuples: the pairs that are kept -/
namespace Z
open PySem RZ
section
variable {prog : Program} {w : World} {A : Around} {E : Value → Shared → Prop} {s : Shared}
abbrev IsZipF (h : Heap) (z TI TO : Addr) (f0 : Value) (b : Bool) : Prop :=
  h.get? z = some { cls := .type "zip", dict := none, data := .fields #[f0, .bool b, .bool false, .ref TI, .ref TO], slots := #[] }
theorem zl_head {z TI TO T : Addr} {b : Bool} {oT : Obj} {F : Bool → Sem Fin} {Q : Fin → Shared → Prop} (hz : IsZipF s.heap z TI TO (rawInt T) b) (ha : s.heap.get? T = some oT)
    (h : ∀ h', IsZipF h' z TI TO (rawInt T) true → Heap.SameBut z s.heap h' → wpAny (model prog w) A (F false) Q E { s with heap := h' }) :
    wpAny (model prog w) A (Builtin.SmallTypes.ownedTupleIsFree (.ref z) >>= F) Q E s := by
  refine wpAny_bind ?_
  unfold Builtin.SmallTypes.ownedTupleIsFree
  refine wpAny_bind (wpAny_field hz rfl (x := rawInt T) rfl ?_)
  show wpAny _ _ (loadIfAlive (T : Int).toNat >>= _) _ _ _
  rw [Int.toNat_natCast]
  refine wpAny_bind (PySem.W.kdx_alive ha ?_)
  simp only [Option.isNone_some, Bool.false_eq_true, if_false]
  refine wpAny_bind (wpAny_field hz rfl (x := .bool b) rfl ?_)
  cases b with
  | true =>
    show wpAny _ _ (if (Value.bool true != Value.bool true) = true then _ else _) _ _ _
    rw [if_neg (by decide)]
    exact wpAny_pure (h _ hz ⟨rfl, fun _ _ => rfl⟩)
  | false =>
    show wpAny _ _ (if (Value.bool false != Value.bool true) = true then _ else _) _ _ _
    rw [if_pos (by decide)]
    refine wpAny_bind (wpAny_setField_rec hz (by simp) fun h₁ hz₁ hs₁ => ?_)
    exact wpAny_pure (h _ hz₁ hs₁)
theorem zl_item {z TI TO i1 i2 l1 l2 T : Addr} {k1 k2 : Nat} {b : Bool} {oT : Obj} {xs ys : Array Value} {x y : Value} {Q : Value → Shared → Prop} (D : ZipApart z TI TO i1 i2 l1 l2)
    (hz : IsZipF s.heap z TI TO (rawInt T) b) (hTI : IsPair s.heap TI (.ref i1) (.ref i2)) (ha : s.heap.get? T = some oT)
    (h1 : s.heap.IsTupleIter i1 l1 k1) (h2 : s.heap.IsTupleIter i2 l2 k2) (hl1 : s.heap.IsTuple l1 xs) (hl2 : s.heap.IsTuple l2 ys) (hx : xs[k1]? = some x) (hy : ys[k2]? = some y)
    (hQ : ∀ h', IsZipF h' z TI TO (rawInt T) true → h'.IsTupleIter i1 l1 (k1 + 1) → h'.IsTupleIter i2 l2 (k2 + 1) → IsPair h' s.heap.objs.size x y → h'.objs.size = s.heap.objs.size + 1 →
      (∀ c o, c ≠ z → c ≠ i1 → c ≠ i2 → s.heap.get? c = some o → h'.get? c = some o) → Q (.ref s.heap.objs.size) { s with heap := h' }) :
    wpAny (model prog w) A (Builtin.«zip.__next__» ⟨[.ref z], []⟩) (fun fin s' => ∃ v, fin = .done (.ret v) ∧ Q v s') E s := by
  show wpAny _ _ (field (.ref z) 2 >>= _) _ _ _
  refine wpAny_bind (wpAny_field hz rfl (x := .bool false) rfl ?_)
  show wpAny _ _ (field (.ref z) 3 >>= _) _ _ _
  refine wpAny_bind (wpAny_field hz rfl (x := .ref TI) rfl ?_)
  refine wpAny_bind (wpAny_seqItems hTI rfl ?_)
  show wpAny _ _ (Builtin.SmallTypes.ownedTupleIsFree (.ref z) >>= _) _ _ _
  refine zl_head hz ha fun h₁ hz₁ hs₁ => ?_
  simp only [Bool.false_eq_true, if_false]
  refine wpAny_bind ?_
  rw [← Array.forIn_toList]
  simp only [List.forIn_cons, List.forIn_nil]
  refine wpAny_bind (wpAny_bind (wpAny_holding ?_))
  show wpAny _ _ (Builtin.SmallTypes.nextOf (.ref i1) >>= _) _ _ _
  refine wpAny_bind (nextOf_tuple_item (h1.extBut hs₁.extBut D.i1z) (hl1.extBut hs₁.extBut D.l1z) hx fun h₂ h1₂ hs₂ => wpAny_pure ?_)
  refine wpAny_pure (wpAny_bind (wpAny_bind (wpAny_holding ?_)))
  show wpAny _ _ (Builtin.SmallTypes.nextOf (.ref i2) >>= _) _ _ _
  refine wpAny_bind (nextOf_tuple_item ((h2.extBut hs₁.extBut D.i2z).extBut hs₂.extBut D.i12.symm) ((hl2.extBut hs₁.extBut D.l2z).extBut hs₂.extBut D.l2i1) hy fun h₃ h2₃ hs₃ => wpAny_pure ?_)
  refine wpAny_pure (wpAny_pure ?_)
  show wpAny _ _ (newTuple [x, y] >>= fun t => ret t) _ _ _
  refine wpAny_bind (wpAny_newTuple ?_)
  have hsz : h₃.objs.size = s.heap.objs.size := by rw [hs₃.1, hs₂.1, hs₁.1]
  have hk : ∀ c o, c ≠ z → c ≠ i1 → c ≠ i2 → s.heap.get? c = some o → (h₃.push { cls := .type "tuple", data := .seq #[x, y] }).get? c = some o := fun c o c1 c2 c3 e =>
    Heap.get?_push_of_some _ (hs₃.extBut _ _ c3 (hs₂.extBut _ _ c2 (hs₁.extBut _ _ c1 e)))
  refine wpAny_pure ⟨_, rfl, ?_⟩
  show Q (.ref h₃.objs.size) _
  have hz3 : IsZipF h₃ z TI TO (rawInt T) true := hs₃.extBut _ _ D.i2z.symm (hs₂.extBut _ _ D.i1z.symm hz₁)
  have a1 : IsZipF (h₃.push { cls := .type "tuple", data := .seq #[x, y] }) z TI TO (rawInt T) true := Heap.get?_push_of_some _ hz3
  have a2 : IsPair (h₃.push { cls := .type "tuple", data := .seq #[x, y] }) h₃.objs.size x y := Heap.get?_push_size _ rfl
  rw [hsz] at a2 ⊢
  exact hQ _ a1 ((h1₂.extBut hs₃.extBut D.i12).at fun o e => Heap.get?_push_of_some _ e) (h2₃.at fun o e => Heap.get?_push_of_some _ e) a2 (by rw [Heap.size_push, hsz]) hk
theorem zl_end {z TI TO i1 i2 l1 l2 T : Addr} {k1 k2 : Nat} {b : Bool} {oT : Obj} {xs ys : Array Value} {Q : Fin → Shared → Prop} (hh : A.handled = none) (D : ZipApart z TI TO i1 i2 l1 l2)
    (hz : IsZipF s.heap z TI TO (rawInt T) b) (hTI : IsPair s.heap TI (.ref i1) (.ref i2)) (ha : s.heap.get? T = some oT)
    (h1 : s.heap.IsTupleIter i1 l1 k1) (h2 : s.heap.IsTupleIter i2 l2 k2) (hl1 : s.heap.IsTuple l1 xs) (hl2 : s.heap.IsTuple l2 ys) (hend : xs[k1]? = none ∨ ys[k2]? = none)
    (hE : ∀ h' e, (∀ c o, c ≠ z → c ≠ i1 → c ≠ i2 → s.heap.get? c = some o → h'.get? c = some o) → (∃ o, h'.get? e = some o ∧ o.cls = .type "StopIteration") → E (.ref e) { s with heap := h' }) :
    wpAny (model prog w) A (Builtin.«zip.__next__» ⟨[.ref z], []⟩) Q E s := by
  show wpAny _ _ (field (.ref z) 2 >>= _) _ _ _
  refine wpAny_bind (wpAny_field hz rfl (x := .bool false) rfl ?_)
  show wpAny _ _ (field (.ref z) 3 >>= _) _ _ _
  refine wpAny_bind (wpAny_field hz rfl (x := .ref TI) rfl ?_)
  refine wpAny_bind (wpAny_seqItems hTI rfl ?_)
  show wpAny _ _ (Builtin.SmallTypes.ownedTupleIsFree (.ref z) >>= _) _ _ _
  refine zl_head hz ha fun h₁ hz₁ hs₁ => ?_
  simp only [Bool.false_eq_true, if_false]
  refine wpAny_bind ?_
  rw [← Array.forIn_toList]
  simp only [List.forIn_cons, List.forIn_nil]
  refine wpAny_bind (wpAny_bind (wpAny_holding ?_))
  show wpAny _ _ (Builtin.SmallTypes.nextOf (.ref i1) >>= _) _ _ _
  cases hx : xs[k1]? with
  | none =>
    exact wpAny_bind (nextOf_tuple_end hh (h1.extBut hs₁.extBut D.i1z) (hl1.extBut hs₁.extBut D.l1z) hx fun h₂ e hs₂ he => hE h₂ e (fun c o c1 c2 c3 x => hs₂ _ _ c2 (hs₁.extBut _ _ c1 x)) he)
  | some x =>
    have hy : ys[k2]? = none := by rcases hend with h | h; rw [hx] at h; cases h; exact h
    refine wpAny_bind (nextOf_tuple_item (h1.extBut hs₁.extBut D.i1z) (hl1.extBut hs₁.extBut D.l1z) hx fun h₂ h1₂ hs₂ => wpAny_pure ?_)
    refine wpAny_pure (wpAny_bind (wpAny_bind (wpAny_holding ?_)))
    show wpAny _ _ (Builtin.SmallTypes.nextOf (.ref i2) >>= _) _ _ _
    exact wpAny_bind (nextOf_tuple_end hh ((h2.extBut hs₁.extBut D.i2z).extBut hs₂.extBut D.i12.symm) ((hl2.extBut hs₁.extBut D.l2z).extBut hs₂.extBut D.l2i1) hy fun h₃ e hs₃ he =>
      hE h₃ e (fun c o c1 c2 c3 x => hs₃ _ _ c3 (hs₂.extBut _ _ c2 (hs₁.extBut _ _ c1 x))) he)
theorem zl_nextItem {z TI TO i1 i2 l1 l2 T : Addr} {k1 k2 : Nat} {b : Bool} {oT : Obj} {xs ys : Array Value} {x y : Value} {Q : Option Value → Shared → Prop} (D : ZipApart z TI TO i1 i2 l1 l2)
    (hz : IsZipF s.heap z TI TO (rawInt T) b) (hTI : IsPair s.heap TI (.ref i1) (.ref i2)) (ha : s.heap.get? T = some oT)
    (h1 : s.heap.IsTupleIter i1 l1 k1) (h2 : s.heap.IsTupleIter i2 l2 k2) (hl1 : s.heap.IsTuple l1 xs) (hl2 : s.heap.IsTuple l2 ys) (hx : xs[k1]? = some x) (hy : ys[k2]? = some y)
    (hQ : ∀ h', IsZipF h' z TI TO (rawInt T) true → h'.IsTupleIter i1 l1 (k1 + 1) → h'.IsTupleIter i2 l2 (k2 + 1) → IsPair h' s.heap.objs.size x y → h'.objs.size = s.heap.objs.size + 1 →
      (∀ c o, c ≠ z → c ≠ i1 → c ≠ i2 → s.heap.get? c = some o → h'.get? c = some o) → Q (some (.ref s.heap.objs.size)) { s with heap := h' }) : wpAny (model prog w) A (pyNext (.ref z)) Q E s := by
  have hT : s.TypeIs (.ref z) "zip" := ⟨_, hz, rfl⟩
  unfold pyNext
  exact wpAny_bind (wpAny_attempt (wpAny_callSpecial?_slot (name := Str.ofString "__next__") hT F.slot_zip_next
    (wpAny_call_entry F.slot_zip_next hT F.entry_zip_next
      (zl_item D hz hTI ha h1 h2 hl1 hl2 hx hy fun h' a1 a3 a4 a5 a6 a7 => wpAny_pure (hQ h' a1 a3 a4 a5 a6 a7)) (F.args_zip_next_1 _))))
theorem zl_nextEnd {z TI TO i1 i2 l1 l2 T : Addr} {k1 k2 : Nat} {b : Bool} {oT : Obj} {xs ys : Array Value} {Q : Option Value → Shared → Prop} (hh : A.handled = none) (D : ZipApart z TI TO i1 i2 l1 l2)
    (hz : IsZipF s.heap z TI TO (rawInt T) b) (hTI : IsPair s.heap TI (.ref i1) (.ref i2)) (ha : s.heap.get? T = some oT)
    (h1 : s.heap.IsTupleIter i1 l1 k1) (h2 : s.heap.IsTupleIter i2 l2 k2) (hl1 : s.heap.IsTuple l1 xs) (hl2 : s.heap.IsTuple l2 ys) (hend : xs[k1]? = none ∨ ys[k2]? = none)
    (hQ : ∀ h', (∀ c o, c ≠ z → c ≠ i1 → c ≠ i2 → s.heap.get? c = some o → h'.get? c = some o) → Q none { s with heap := h' }) : wpAny (model prog w) A (pyNext (.ref z)) Q E s := by
  have hT : s.TypeIs (.ref z) "zip" := ⟨_, hz, rfl⟩
  unfold pyNext
  refine wpAny_bind (wpAny_attempt (wpAny_callSpecial?_slot (name := Str.ofString "__next__") hT F.slot_zip_next
    (wpAny_call_entry F.slot_zip_next hT F.entry_zip_next (zl_end hh D hz hTI ha h1 h2 hl1 hl2 hend fun h' e hk he => ?_) (F.args_zip_next_1 _))))
  obtain ⟨o, ho, hc⟩ := he
  refine wpAny_bind (wpAny_isInstance (T := "StopIteration") (b := true) ⟨o, ho, hc⟩ isSubtype_stop ?_)
  exact wpAny_pure (hQ _ hk)
/-- a zip of two tuples amid its walk, its pairs kept by others -/
def ZSt (h : Heap) (z TI TO i1 i2 l1 l2 S : Addr) (xs ys : Array Value) (i : Nat) : Prop :=
  IsPair h TI (.ref i1) (.ref i2) ∧ h.IsTupleIter i1 l1 i ∧ h.IsTupleIter i2 l2 i ∧ h.IsTuple l1 xs ∧ h.IsTuple l2 ys ∧
    ((IsZip h z TI TO .none ∧ ∃ a b, IsPair h TO a b) ∨ ∃ (T : Nat) (b : Bool) (oT : Obj), IsZipF h z TI TO (rawInt T) b ∧ h.get? T = some oT ∧ S < T)
theorem ZSt.keep {h h' : Heap} {z TI TO i1 i2 l1 l2 S : Addr} {xs ys : Array Value} {i : Nat} (x : ZSt h z TI TO i1 i2 l1 l2 S xs ys i) (hk : ∀ b o, b ≠ S → h.get? b = some o → h'.get? b = some o) (lo : ∀ c ∈ [z, TI, TO, i1, i2, l1, l2], c < S) : ZSt h' z TI TO i1 i2 l1 l2 S xs ys i := by
  have ne : ∀ c ∈ [z, TI, TO, i1, i2, l1, l2], c ≠ S := fun c hc => Nat.ne_of_lt (lo c hc)
  obtain ⟨hTI, h1, h2, hl1, hl2, hz⟩ := x
  refine ⟨hk _ _ (ne TI (by simp)) hTI, h1.at fun o e => hk _ o (ne i1 (by simp)) e, h2.at fun o e => hk _ o (ne i2 (by simp)) e, hl1.at fun o e => hk _ o (ne l1 (by simp)) e, hl2.at fun o e => hk _ o (ne l2 (by simp)) e, ?_⟩
  rcases hz with ⟨hz, a, b, hTO⟩ | ⟨T, b, oT, hz, hT, hS⟩
  · exact .inl ⟨hk _ _ (ne z (by simp)) hz, a, b, hk _ _ (ne TO (by simp)) hTO⟩
  · exact .inr ⟨T, b, oT, hk _ _ (ne z (by simp)) hz, hk _ _ (Nat.ne_of_gt hS) hT, hS⟩
structure ZG (xs ys : Array Value) (lo : Addr) (h : Heap) (as : List Addr) : Prop where
  rise : as.Pairwise (· < ·)
  above : ∀ a ∈ as, lo < a
  pairs : ∀ (j : Nat) (a : Addr), as[j]? = some a → ∃ x y, xs[j]? = some x ∧ ys[j]? = some y ∧ IsPair h a x y
variable {z TI TO i1 i2 l1 l2 S : Addr} {xs ys : Array Value} {R : Result → Shared → Prop}
theorem zl_step {i : Nat} {x y : Value} {Q : Option Value → Shared → Prop} (D : ZipApart z TI TO i1 i2 l1 l2) (lo : ∀ c ∈ [z, TI, TO, i1, i2, l1, l2], c < S) (hSh : S < s.heap.objs.size) (st : ZSt s.heap z TI TO i1 i2 l1 l2 S xs ys i) (hx : xs[i]? = some x) (hy : ys[i]? = some y)
    (hQ : ∀ h', ZSt h' z TI TO i1 i2 l1 l2 S xs ys (i + 1) → IsPair h' s.heap.objs.size x y → h'.objs.size = s.heap.objs.size + 1 →
      (∀ c o, c ≠ z → c ≠ TO → c ≠ i1 → c ≠ i2 → s.heap.get? c = some o → h'.get? c = some o) → Q (some (.ref s.heap.objs.size)) { s with heap := h' }) : wpAny (model prog w) A (pyNext (.ref z)) Q E s := by
  obtain ⟨hTI, h1, h2, hl1, hl2, hz⟩ := st
  rcases hz with ⟨hz, a, b, hTO⟩ | ⟨T, b, oT, hz, hT, hS⟩
  · refine pyNext_zipT_item D hz hTI hTO h1 h2 hl1 hl2 hx hy fun h' a1 a2 a3 a4 a5 a6 hk => hQ h' ⟨hk _ _ D.TIz D.TITO D.TIi1 D.TIi2 hTI, a3, a4, hl1.at fun o e => hk _ o D.l1z D.l1TO D.l1i1 D.l1i2 e, hl2.at fun o e => hk _ o D.l2z D.l2TO D.l2i1 D.l2i2 e, .inr ⟨_, false, _, a1, a5, hSh⟩⟩ a5 a6 hk
  · have tne : ∀ c ∈ [z, TI, TO, i1, i2, l1, l2], T ≠ c := fun c hc => Nat.ne_of_gt (Nat.lt_trans (lo c hc) hS)
    refine zl_nextItem D hz hTI hT h1 h2 hl1 hl2 hx hy fun h' a1 a3 a4 a5 a6 hk => hQ h' ⟨hk _ _ D.TIz D.TIi1 D.TIi2 hTI, a3, a4, hl1.at fun o e => hk _ o D.l1z D.l1i1 D.l1i2 e, hl2.at fun o e => hk _ o D.l2z D.l2i1 D.l2i2 e, .inr ⟨T, true, oT, a1, hk _ _ (tne z (by simp)) (tne i1 (by simp)) (tne i2 (by simp)) hT, hS⟩⟩ a5 a6 fun c o c1 _ c3 c4 e => hk c o c1 c3 c4 e
theorem zl_stop {i : Nat} {Q : Option Value → Shared → Prop} (hh : A.handled = none) (D : ZipApart z TI TO i1 i2 l1 l2) (st : ZSt s.heap z TI TO i1 i2 l1 l2 S xs ys i) (hend : xs[i]? = none ∨ ys[i]? = none)
    (hQ : ∀ h', (∀ c o, c ≠ z → c ≠ TO → c ≠ i1 → c ≠ i2 → s.heap.get? c = some o → h'.get? c = some o) → Q none { s with heap := h' }) : wpAny (model prog w) A (pyNext (.ref z)) Q E s := by
  obtain ⟨hTI, h1, h2, hl1, hl2, hz⟩ := st
  rcases hz with ⟨hz, a, b, hTO⟩ | ⟨T, b, oT, hz, hT, hS⟩
  · exact pyNext_zipT_end hh D hz hTI hTO h1 h2 hl1 hl2 hend hQ
  · exact zl_nextEnd hh D hz hTI hT h1 h2 hl1 hl2 hend fun h' hk => hQ h' fun c o c1 _ c3 c4 e => hk c o c1 c3 c4 e
theorem zl_loop {n : Nat} (hh : A.handled = none) (D : ZipApart z TI TO i1 i2 l1 l2) (lo : ∀ c ∈ [z, TI, TO, i1, i2, l1, l2], c < S) (hn : n = min xs.size ys.size) (hz : n ≤ sizeLine) (res : Value) {h₁ : Heap}
    (hR : ∀ h' tk acc c as, (∀ b o, b ≠ S → b ≠ z → b ≠ TO → b ≠ i1 → b ≠ i2 → h₁.get? b = some o → h'.get? b = some o) → h'.get? S = some { cls := .type "list", dict := none, data := .seq acc c, slots := #[] } → as.length = n → ZG xs ys S h' as →
      acc.toList = as.map Value.ref → R (.ok (.ret res)) { s with heap := h', toks := tk }) :
    ∀ (k i : Nat) (h : Heap) (tk c : Nat) (acc : Array Value) (as : List Addr), n - i = k → i ≤ n → ZSt h z TI TO i1 i2 l1 l2 S xs ys i → (∀ b o, b ≠ S → b ≠ z → b ≠ TO → b ≠ i1 → b ≠ i2 → h₁.get? b = some o → h.get? b = some o) →
      h.get? S = some { cls := .type "list", dict := none, data := .seq acc c, slots := #[] } → acc.toList = as.map Value.ref → as.length = i → ZG xs ys S h as →
      codeAny (model prog w) A (.builtin "list.extend.loop" ⟨[.ref S, .ref z, res], []⟩) R { s with heap := h, toks := tk } := by
  have ne : ∀ c ∈ [z, TI, TO, i1, i2, l1, l2], c ≠ S := fun c hc => Nat.ne_of_lt (lo c hc)
  have hi : ∀ {a : Addr}, S < a → a ≠ z ∧ a ≠ TO ∧ a ≠ i1 ∧ a ≠ i2 := fun {a} ha => by
    exact ⟨Nat.ne_of_gt (Nat.lt_trans (lo z (by simp)) ha), Nat.ne_of_gt (Nat.lt_trans (lo TO (by simp)) ha), Nat.ne_of_gt (Nat.lt_trans (lo i1 (by simp)) ha), Nat.ne_of_gt (Nat.lt_trans (lo i2 (by simp)) ha)⟩
  intro k
  induction k with
  | zero =>
    intro i h tk c acc as hk hi' hst hkeep hS hacc hal hG
    have hin : i = n := by omega
    refine codeAny_builtin PySem.F.entry_extend_loop ?_
    rw [Around.under_plainId PySem.F.plain_extend_loop _]
    show wpAny _ A.in1 (pyNext (.ref z) >>= _) _ _ _
    refine wpAny_bind (zl_stop (s := { s with heap := h, toks := tk }) (A := A.in1) hh D hst ?_ fun h' he => ?_)
    · rcases Nat.le_total xs.size ys.size with q | q
      · exact .inl (Array.getElem?_eq_none (by omega))
      · exact .inr (Array.getElem?_eq_none (by omega))
    refine wpAny_pure (hR h' tk acc c as (fun b o h1 h2 h3 h4 h5 e => he b o h2 h3 h4 h5 (hkeep b o h1 h2 h3 h4 h5 e)) (he S _ (ne z (by simp)).symm (ne TO (by simp)).symm (ne i1 (by simp)).symm (ne i2 (by simp)).symm hS) (by omega) ⟨hG.rise, hG.above, fun j a hj => ?_⟩ hacc)
    obtain ⟨x, y, e1, e2, e3⟩ := hG.pairs j a hj
    obtain ⟨n1, n2, n3, n4⟩ := hi (hG.above a (List.mem_of_getElem? hj))
    exact ⟨x, y, e1, e2, he a _ n1 n2 n3 n4 e3⟩
  | succ k ih =>
    intro i h tk c acc as hk hi' hst hkeep hS hacc hal hG
    have hlt : i < n := by omega
    have hsz : acc.size = i := by rw [← Array.length_toList, hacc, List.length_map, hal]
    have hSl : S < h.objs.size := Heap.lt_size hS
    have lx : i < xs.size := by omega
    have ly : i < ys.size := by omega
    refine codeAny_builtin PySem.F.entry_extend_loop ?_
    rw [Around.under_plainId PySem.F.plain_extend_loop _]
    show wpAny _ A.in1 (pyNext (.ref z) >>= _) _ _ _
    refine wpAny_bind (zl_step (s := { s with heap := h, toks := tk }) (S := S) D lo hSl hst (Array.getElem?_eq_getElem lx) (Array.getElem?_eq_getElem ly) fun h' hst' ht hz' hkp => ?_)
    dsimp only at ht hz' hkp ⊢
    have hS' := hkp S _ (ne z (by simp)).symm (ne TO (by simp)).symm (ne i1 (by simp)).symm (ne i2 (by simp)).symm hS
    have up : ∀ b o, b ≠ S → h'.get? b = some o → (h'.update S (Obj.mapSeq (·.push (Value.ref h.objs.size)))).get? b = some o := fun b o hb e => (Heap.get?_update_other _ _ (Ne.symm hb)).trans e
    show wpAny _ A.in1 (updateSeq S (·.push (Value.ref h.objs.size)) >>= _) _ _ _
    refine wpAny_bind ?_
    refine wpAny_updateSeq hS' rfl (wpAny_pure ⟨plainId_quiet PySem.F.plain_extend_loop _, ih (i + 1) _ tk _ (acc.push (Value.ref h.objs.size)) (as ++ [h.objs.size]) (by omega) hlt (hst'.keep up lo)
      (fun b o h1 h2 h3 h4 h5 e => up b o h1 (hkp b o h2 h3 h4 h5 (hkeep b o h1 h2 h3 h4 h5 e))) (Heap.get?_update_self _ hS' rfl) (by rw [Array.toList_push, hacc, List.map_append]; rfl) (by rw [List.length_append, hal]; rfl) ⟨?_, ?_, ?_⟩⟩) (by rw [hsz]; omega) (by show (acc.push (Value.ref h.objs.size)).size ≤ sizeLine + 1; rw [Array.size_push, hsz]; omega)
    · refine List.pairwise_append.mpr ⟨hG.rise, List.pairwise_singleton _ _, fun a ha b hb => ?_⟩
      rw [List.mem_singleton.mp hb]
      obtain ⟨j, hj⟩ := List.getElem?_of_mem ha
      obtain ⟨x, y, e1, e2, e3⟩ := hG.pairs j a hj
      exact Heap.lt_size e3
    · intro a ha
      rcases List.mem_append.mp ha with ha | ha
      · exact hG.above a ha
      · rw [List.mem_singleton.mp ha]; exact hSl
    · intro j b hj
      rcases Nat.lt_trichotomy j as.length with h1 | h1 | h1
      · rw [List.getElem?_append_left h1] at hj
        obtain ⟨x, y, e1, e2, e3⟩ := hG.pairs j b hj
        have hb := hG.above b (List.mem_of_getElem? hj)
        obtain ⟨n1, n2, n3, n4⟩ := hi hb
        exact ⟨x, y, e1, e2, up b _ (Nat.ne_of_gt hb) (hkp b _ n1 n2 n3 n4 e3)⟩
      · subst h1
        have hb : h.objs.size = b := by simpa using hj
        subst hb
        exact ⟨xs[i], ys[i], by rw [hal]; exact Array.getElem?_eq_getElem lx, by rw [hal]; exact Array.getElem?_eq_getElem ly, up _ _ (Nat.ne_of_gt hSl) ht⟩
      · have hnone : (as ++ [h.objs.size])[j]? = none := List.getElem?_eq_none (by rw [List.length_append, List.length_singleton]; omega)
        rw [hnone] at hj; cases hj
theorem zl_len_none : typeLookup (.type "zip") "__len__" = pure none := by rw [typeLookup_type, builtinLookup_eq_fast]; kernel_rfl
theorem zl_hint_none : typeLookup (.type "zip") "__length_hint__" = pure none := by rw [typeLookup_type, builtinLookup_eq_fast]; kernel_rfl
theorem zl_hint (hT : s.TypeIs (.ref z) "zip") {Q : Bool → Shared → Prop} (h : Q true s) : wpAny (model prog w) A (Builtin.List.listLengthHint (.ref z)) Q E s := by
  unfold Builtin.List.listLengthHint
  refine wpAny_bind (wpAny_specialOf hT zl_len_none ?_)
  show wpAny _ _ (specialOf (Value.ref z) (Str.ofString "__length_hint__") >>= _) _ _ _
  exact wpAny_bind (wpAny_specialOf hT zl_hint_none (wpAny_pure h))
theorem zl_extend {n : Nat} (hh : A.handled = none) (D : ZipApart z TI TO i1 i2 l1 l2) (lo : ∀ c ∈ [z, TI, TO, i1, i2, l1, l2], c < S) (hn : n = min xs.size ys.size) (hl : n ≤ sizeLine) (res : Value) (c₀ : Nat) (hz : IsZip s.heap z TI TO .none)
    (st : ∀ h', (∀ b o, b ≠ S → s.heap.get? b = some o → h'.get? b = some o) → ZSt h' z TI TO i1 i2 l1 l2 S xs ys 0) (hS : s.heap.get? S = some { cls := .type "list", data := .seq #[] c₀ })
    (hR : ∀ h' tk acc c as, (∀ b o, b ≠ S → b ≠ z → b ≠ TO → b ≠ i1 → b ≠ i2 → s.heap.get? b = some o → h'.get? b = some o) → h'.get? S = some { cls := .type "list", dict := none, data := .seq acc c, slots := #[] } → as.length = n → ZG xs ys S h' as →
      acc.toList = as.map Value.ref → R (.ok (.ret res)) { s with heap := h', toks := tk }) :
    wpAny (model prog w) A.in1 (Builtin.List.listExtendWith (.ref S) (.ref z) res)
      (fun fin s' => match fin with | .done f => R (.ok f) s' | .again c' => c'.quiet = true ∧ codeAny (model prog w) A c' R s') (fun e s' => R (.error e) s') s := by
  have hSz : S ≠ z := Nat.ne_of_gt (lo z (by simp))
  have key : ∀ (h : Heap) (c₁ tk : Nat), (∀ b o, b ≠ S → s.heap.get? b = some o → h.get? b = some o) →
      h.get? S = some { cls := .type "list", data := .seq #[] c₁ } → codeAny (model prog w) A (.builtin "list.extend.loop" ⟨[.ref S, .ref z, res], []⟩) R { s with heap := h, toks := tk } := by
    intro h c₁ tk hk hS₁
    exact zl_loop (n := n) (s := s) (h₁ := s.heap) hh D lo hn hl res hR n 0 h tk c₁ #[] [] (Nat.sub_zero _) (Nat.zero_le _) (st h hk) (fun b o hb _ _ _ _ e => hk b o hb e) hS₁ rfl rfl
      ⟨List.Pairwise.nil, (fun _ ha => nomatch ha), (fun j a hj => by simp at hj)⟩
  have hT : s.TypeIs (.ref z) "zip" := ⟨_, hz, rfl⟩
  unfold Builtin.List.listExtendWith
  refine wpAny_bind (wpAny_typeOf (T := "zip") hT ?_)
  have h1 : Builtin.List.listSameRef (.ref S) (.ref z) = false := by simp [Builtin.List.listSameRef, hSz]
  have h2 : (Value.type "zip" == Value.type "list") = false := by decide
  have h3 : (Value.type "zip" == Value.type "tuple") = false := by decide
  simp only [h1, h2, h3, Bool.or_false, Bool.false_eq_true, if_false]
  refine wpAny_bind (wpAny_pyIter_zip hz ?_)
  refine wpAny_bind (wpAny_holding (zl_hint hT ?_))
  refine wpAny_ite_split (fun _ => ?_) (fun _ => wpAny_pure ⟨plainId_quiet PySem.F.plain_extend_loop _, key _ c₀ _ (fun b o _ e => e) hS⟩)
  refine wpAny_bind (wpAny_rule ?_)
  refine wpAny_bind ?_
  show wpAny _ _ (updateSeq S (·.push .none) >>= fun _ => updateSeq S (·.pop)) _ _ _
  refine wpAny_bind (wpAny_updateSeq hS rfl ?_)
  have hS₂ := Heap.get?_update_self (Obj.mapSeq (·.push Value.none)) hS rfl
  refine wpAny_updateSeq (hz := by seq_fits) hS₂ rfl ?_
  have hS₃ := Heap.get?_update_self (Obj.mapSeq (·.pop)) hS₂ rfl
  refine wpAny_pure ⟨plainId_quiet PySem.F.plain_extend_loop _, key _ _ _ (fun b o hb e => ?_) hS₃⟩
  exact (Heap.get?_update_other _ _ (Ne.symm hb)).trans ((Heap.get?_update_other _ _ (Ne.symm hb)).trans e)
theorem zl_init {n : Nat} (hh : A.handled = none) (D : ZipApart z TI TO i1 i2 l1 l2) (lo : ∀ c ∈ [z, TI, TO, i1, i2, l1, l2], c < S) (hn : n = min xs.size ys.size) (hl : n ≤ sizeLine) (hz : IsZip s.heap z TI TO .none) (hS : s.heap.get? S = some { cls := .type "list", data := .seq #[] })
    (st : ∀ h', (∀ b o, b ≠ S → s.heap.get? b = some o → h'.get? b = some o) → ZSt h' z TI TO i1 i2 l1 l2 S xs ys 0)
    (hR : ∀ h' tk acc c as, (∀ b o, b ≠ S → b ≠ z → b ≠ TO → b ≠ i1 → b ≠ i2 → s.heap.get? b = some o → h'.get? b = some o) → h'.get? S = some { cls := .type "list", dict := none, data := .seq acc c, slots := #[] } → as.length = n → ZG xs ys S h' as →
      acc.toList = as.map Value.ref → R (.ok (.ret .none)) { s with heap := h', toks := tk }) :
    wpAny (model prog w) A.in1 (Builtin.«list.__init__» ⟨[.ref S, .ref z], []⟩)
      (fun fin s' => match fin with | .done f => R (.ok f) s' | .again c' => c'.quiet = true ∧ codeAny (model prog w) A c' R s') (fun e s' => R (.error e) s') s := by
  show wpAny _ _ (do let old ← Builtin.List.listItems (.ref S); Builtin.List.listUpdate (.ref S) (fun _ => #[]); letGo old.toList.reverse; Builtin.List.listExtendWith (.ref S) (.ref z) .none) _ _ s
  refine wpAny_bind ?_
  unfold Builtin.List.listItems
  refine wpAny_bind (wpAny_seqItems hS rfl (wpAny_pure ?_))
  show wpAny _ _ (updateSeq S (fun _ => #[]) >>= fun _ => letGo (#[] : Array Value).toList.reverse >>= fun _ => Builtin.List.listExtendWith (.ref S) (.ref z) .none) _ _ s
  refine wpAny_bind (wpAny_updateSeq hS rfl ?_)
  have hS₂ := Heap.get?_update_self (Obj.mapSeq (fun _ => (#[] : Array Value))) hS rfl
  have oth : ∀ b o, b ≠ S → s.heap.get? b = some o → (s.heap.update S (Obj.mapSeq (fun _ => (#[] : Array Value)))).get? b = some o :=
    fun b o hb e => (Heap.get?_update_other _ _ (Ne.symm hb)).trans e
  refine wpAny_bind (wpAny_letGo ?_)
  refine zl_extend (n := n) hh D lo hn hl .none _ (oth z _ (Nat.ne_of_lt (lo z (by simp))) hz) (fun h' hk => st h' fun b o hb e => hk b o hb (oth b o hb e)) hS₂ (fun h' tk acc c as hk hS' hl hG hacc => ?_)
  exact hR h' tk acc c as (fun b o hb n1 n2 n3 n4 e => hk b o hb n1 n2 n3 n4 (oth b o hb e)) hS' hl hG hacc
theorem zl_call {n : Nat} {Q : Value → Shared → Prop} (hh : A.handled = none) (D : ZipApart z TI TO i1 i2 l1 l2) (lo : ∀ c ∈ [z, TI, TO, i1, i2, l1, l2], c < s.heap.objs.size) (hn : n = min xs.size ys.size) (hl : n ≤ sizeLine)
    (hz : IsZip s.heap z TI TO .none) (hTI : IsPair s.heap TI (.ref i1) (.ref i2)) (hTO : IsPair s.heap TO .none .none) (h1 : s.heap.IsTupleIter i1 l1 0) (h2 : s.heap.IsTupleIter i2 l2 0) (hl1 : s.heap.IsTuple l1 xs) (hl2 : s.heap.IsTuple l2 ys)
    (hQ : ∀ h' tk acc c as, (∀ b o, b ≠ z → b ≠ TO → b ≠ i1 → b ≠ i2 → s.heap.get? b = some o → h'.get? b = some o) → h'.get? s.heap.objs.size = some { cls := .type "list", dict := none, data := .seq acc c, slots := #[] } → as.length = n → ZG xs ys s.heap.objs.size h' as →
      acc.toList = as.map Value.ref → Q (.ref s.heap.objs.size) { s with heap := h', toks := tk }) :
    wpAny (model prog w) A (call (.type "list") [.ref z]) Q E s := by
  refine callType_codes (Q₁ := fun obj s₁ => obj = .ref s.heap.objs.size ∧ s₁ = { s with heap := s.heap.push { cls := .type "list", data := .seq #[] } }) PySem.F.called_list (PySem.F.typeCall_list_1 _) PySem.F.entry_list_init
    (code_list_new _ ⟨rfl, rfl⟩) fun obj s₁ h₁ => ?_
  obtain ⟨rfl, rfl⟩ := h₁
  have hS : (s.heap.push { cls := .type "list", data := .seq #[] }).get? s.heap.objs.size = some { cls := .type "list", data := .seq #[] } := Heap.get?_push_size _ rfl
  have st0 : ZSt s.heap z TI TO i1 i2 l1 l2 s.heap.objs.size xs ys 0 := ⟨hTI, h1, h2, hl1, hl2, .inl ⟨hz, _, _, hTO⟩⟩
  refine ⟨⟨_, hS, rfl⟩, PySem.F.args_list_init_2 _ _, zl_init (n := n) (A := A.in1) hh D lo hn hl (Heap.get?_push_of_some _ hz) hS (fun h' hk => st0.keep (fun b o hb e => hk b o hb (Heap.get?_push_of_some _ e)) lo) (fun h' tk acc c as hk hS' hl hG hacc => ?_)⟩
  exact ⟨rfl, hQ h' tk acc c as (fun b o n1 n2 n3 n4 e => hk b o (Nat.ne_of_lt (Heap.lt_size e)) n1 n2 n3 n4 (Heap.get?_push_of_some _ e)) hS' hl hG hacc⟩
end
end Z

set_option Elab.async false
set_option linter.all false
set_option maxRecDepth 100000
set_option maxHeartbeats 1000000
namespace Z
open PySem PySem.Spec PyProof.Rows L2 RZ
theorem zipLook : ∀ {ps : List Addr} {ls : List (List V)} {i : Nat} {p : Addr} {l : List V}, ps.Pairwise (· < ·) → ps[i]? = some p → ls[i]? = some l → (ps.zip ls).lookup p = some l
  | [], _, _, _, _, _, h, _ => by simp at h
  | _ :: _, [], _, _, _, _, _, h => by simp at h
  | q :: ps, m :: ls, 0, p, l, _, h, h2 => by
    simp at h h2
    subst h h2
    simp [List.lookup]
  | q :: ps, m :: ls, i + 1, p, l, n, h, h2 => by
    have h' : ps[i]? = some p := by simpa using h
    have h2' : ls[i]? = some l := by simpa using h2
    have lt : q < p := (List.pairwise_cons.mp n).1 p (List.mem_of_getElem? h')
    have e : (p == q) = false := by simpa using Nat.ne_of_gt lt
    rw [List.zip_cons_cons, List.lookup, e]
    exact zipLook (List.pairwise_cons.mp n).2 h' h2'
theorem zipLookR : ∀ {ps : List Addr} {ls : List (List V)} {b : Addr} {l : List V}, (ps.zip ls).lookup b = some l → ∃ i : Nat, ps[i]? = some b ∧ ls[i]? = some l
  | [], _, _, _, h => by simp [List.lookup] at h
  | _ :: _, [], _, _, h => by simp [List.lookup] at h
  | q :: ps, m :: ls, b, l, h => by
    rw [List.zip_cons_cons, List.lookup] at h
    by_cases e : b = q
    · subst e
      simp at h
      exact ⟨0, by simp, by simp [h]⟩
    · have e' : (b == q) = false := by simpa using e
      rw [e'] at h
      obtain ⟨i, h1, h2⟩ := zipLookR h
      exact ⟨i + 1, by simpa using h1, by simpa using h2⟩
def hpZip (H : Hp) (q : Addr) (ps : List Addr) (ls : List (List V)) : Hp := fun b => if b = q then some (.lst (ps.map V.ref)) else match (ps.zip ls).lookup b with | some l => some (.tup l) | none => H b
/-- list(zip(x, y)), tuples -/
def tLZip (K : PySem.W.Frag) (ta : TA) : TE := fun σ H Q => ta σ H fun vs H1 => ∃ a b xs ys, vs = [.ref a, .ref b] ∧ SqT K H1 a xs ∧ SqT K H1 b ys ∧ ∀ (q : Addr) (ps : List Addr) (H2 : Hp), H1 q = none → (∀ c o, H1 c = some o → H2 c = some o) → H2 q = some (.lst (ps.map V.ref)) → ps.length = min xs.length ys.length →
  (∀ (i : Nat) (p : Addr), ps[i]? = some p → ∃ x y, xs[i]? = some x ∧ ys[i]? = some y ∧ H2 p = some (.tup [x, y])) → Q (.ref q) H2
section
variable {X : Cx} {e e2 : Expr} {ta : TA} {p1 p2 pos pos2 : Pos}
theorem pe_lzip {K : PySem.W.Frag} (hK : X.K = K) (hc : X.calm = true) (hg1 : Gl X "list") (hm1 : X.mg "list" = none) (hg : Gl X "zip") (hm : X.mg "zip" = none) (ha : PA X [e, e2] ta)
    (hs : starEach [e, e2] X.env = (false, eval e X.env) :: starEach [e2] X.env := by rfl) (hpl : (backTo pos2 (starEach [e2] X.env)).any (·.1) = false := by rfl)
    (hs1 : starEach [.Call (.Name "zip" p2) [e, e2] [] pos2] X.env = [(false, eval (.Call (.Name "zip" p2) [e, e2] [] pos2) X.env)] := by rfl) :
    PE X (.Call (.Name "list" p1) [.Call (.Name "zip" p2) [e, e2] [] pos2] [] pos) (tLZip K ta) := by
  subst hK
  refine ⟨fun pins s σ H Q I h => ?_⟩
  refine Call_ (ld_blt (u := .type "list") I hg1 hm1 (by decide +kernel) (PyProof.Rows.callWith_type1 (T := "list") ?_ hs1 (by rfl)))
  rw [hs1]
  show wpAny _ _ (spliced ((false, eval (.Call (.Name "zip" p2) [e, e2] [] pos2) X.env) :: backTo pos [])) _ _ _
  refine Calls.spliced_cons ?_
  refine Call_ (ld_blt I hg hm PyProof.Rows.boot_zip (PyProof.Rows.callWith_type1 (thn (ha.run pos2 pins _ σ H _ I h) fun us s1 ⟨vs, H1, I1, r1, q1⟩ => ?_) hs hpl))
  obtain ⟨a, b, xs, ys, ex, hqx, hqy, q⟩ := q1
  subst ex
  cases r1 with
  | cons r rr =>
    cases rr with
    | cons r' rr =>
      cases rr
      cases r
      cases r'
      obtain ⟨its, rv, p1, z1⟩ := I1.tuple hqx
      obtain ⟨its2, rv2, p2, z2⟩ := I1.tuple hqy
      obtain ⟨o1, ho1, _⟩ := id p1
      obtain ⟨o2, ho2, _⟩ := id p2
      have la := Heap.lt_size ho1
      have lb := Heap.lt_size ho2
      refine call_zipT (show s1.heap.IsTuple a its.toArray from p1) (show s1.heap.IsTuple b its2.toArray from p2) fun h' hz hTI hTO h1 h2 hsz hk => ?_
      refine Calls.spliced_nil ?_
      show wpAny _ _ (call (.type "list") [.ref (s1.heap.objs.size + 4)]) _ _ _
      have lo : ∀ c ∈ [s1.heap.objs.size + 4, s1.heap.objs.size + 2, s1.heap.objs.size + 3, s1.heap.objs.size, s1.heap.objs.size + 1, a, b], c < h'.objs.size := by
        intro c hc
        rw [hsz]
        simp at hc
        rcases hc with rfl | rfl | rfl | rfl | rfl | rfl | rfl
        · exact Nat.lt_succ_self _
        · exact Nat.add_lt_add_left (by decide) _
        · exact Nat.add_lt_add_left (by decide) _
        · exact Nat.lt_add_of_pos_right (by decide)
        · exact Nat.add_lt_add_left (by decide) _
        · exact Nat.lt_of_lt_of_le la (Nat.le_add_right _ _)
        · exact Nat.lt_of_lt_of_le lb (Nat.le_add_right _ _)
      have l1 := rv.length
      have l2 := rv2.length
      have hmin : min xs.length ys.length = min its.toArray.size its2.toArray.size := by rw [List.size_toArray, List.size_toArray, l1, l2]
      refine zl_call (s := { s1 with heap := h' }) (n := min xs.length ys.length) (I1.ok.hd hc) (PySem.W.ktu_apart s1.heap.objs.size a b la lb) lo hmin (by omega) hz hTI hTO h1 h2
        (let ⟨o, ho, x⟩ := p1; ⟨o, hk _ _ ho, x⟩) (let ⟨o, ho, x⟩ := p2; ⟨o, hk _ _ ho, x⟩) fun h2 tk acc c as hk2 hL hla hG hacc => ?_
      have lt5 : s1.heap.objs.size < h'.objs.size := by rw [hsz]; exact Nat.lt_add_of_pos_right (by decide)
      have kk : ∀ b o, s1.heap.get? b = some o → h2.get? b = some o := fun b o e => by
        have hb := Heap.lt_size e
        exact hk2 b o (Nat.ne_of_lt (Nat.lt_of_lt_of_le hb (Nat.le_add_right _ _))) (Nat.ne_of_lt (Nat.lt_of_lt_of_le hb (Nat.le_add_right _ _))) (Nat.ne_of_lt hb) (Nat.ne_of_lt (Nat.lt_of_lt_of_le hb (Nat.le_add_right _ _))) (hk b o e)
      have frs : ∀ c, h'.objs.size ≤ c → H1 c = none := fun c hc => I1.hok.fresh (Nat.le_trans (Nat.le_of_lt lt5) hc)
      have oldlt : ∀ b o, H1 b = some o → b < h'.objs.size := fun b o e => Nat.lt_of_not_le fun hc => by rw [frs b hc] at e; cases e
      have nolook : ∀ b, b < h'.objs.size → (as.zip (List.zipWith (fun x y => [x, y]) xs ys)).lookup b = none := fun b hb => by
        cases hl : (as.zip (List.zipWith (fun x y => [x, y]) xs ys)).lookup b with
        | none => rfl
        | some l =>
          obtain ⟨i, h1, _⟩ := zipLookR hl
          have := hG.above b (List.mem_of_getElem? h1)
          exact absurd (Nat.lt_trans hb this) (Nat.lt_irrefl _)
      have eold : ∀ b, b < h'.objs.size → hpZip H1 h'.objs.size as (List.zipWith (fun x y => [x, y]) xs ys) b = H1 b := fun b hb => by
        unfold hpZip
        rw [if_neg (Nat.ne_of_lt hb), nolook b hb]
      have lsl : (List.zipWith (fun x y => [x, y]) xs ys).length = as.length := by rw [List.length_zipWith, hla]
      have etup : ∀ (i : Nat) (p : Addr) (l : List V), as[i]? = some p → (List.zipWith (fun x y => [x, y]) xs ys)[i]? = some l → hpZip H1 h'.objs.size as (List.zipWith (fun x y => [x, y]) xs ys) p = some (.tup l) := fun i p l hp hl => by
        unfold hpZip
        rw [if_neg (Nat.ne_of_gt (hG.above p (List.mem_of_getElem? hp))), zipLook hG.rise hp hl]
      have Un1 : Un X.fs [] H1 (hpZip H1 h'.objs.size as (List.zipWith (fun x y => [x, y]) xs ys)) s1.heap h2 := {
        keep := fun b o q n _ _ => kk b o q
        slot := fun b o q n _ _ => ⟨o.slots, kk b o q⟩
        free := fun b o q n _ => by rw [eold b (Nat.lt_trans (Heap.lt_size q) lt5)]; exact n
        there := fun b o q _ => ⟨o, kk b o q⟩
        tups := fun b xs q => by rw [eold b (oldlt b _ q)]; exact q
        frzs := fun b o v q => by rw [eold b (oldlt b _ q)]; exact q
        tbls := fun b ps q => ⟨#[], by rw [eold b (oldlt b _ q), q]; simp⟩ }
      have J : L2.Inv X pins σ (hpZip H1 h'.objs.size as (List.zipWith (fun x y => [x, y]) xs ys)) { s1 with heap := h2, toks := tk } := I1.un (t' := tk) Un1 fun b o q => by
        by_cases hbq : b = h'.objs.size
        · subst hbq
          have e : hpZip H1 h'.objs.size as (List.zipWith (fun x y => [x, y]) xs ys) h'.objs.size = some (.lst (as.map V.ref)) := by
            unfold hpZip
            rw [if_pos rfl]
          rw [e] at q
          cases q
          have hv : ∀ ps : List Addr, Vals (ps.map V.ref) (ps.map Value.ref) := by
            intro ps
            induction ps with
            | nil => exact .nil
            | cons p ps ih => exact .cons rfl ih
          have el : acc = (as.map Value.ref).toArray := by rw [← hacc]
          refine ⟨by rw [List.length_map]; omega, _, c, hv as, ?_⟩
          rw [← el]
          exact hL
        · cases hlk : (as.zip (List.zipWith (fun x y => [x, y]) xs ys)).lookup b with
          | some l =>
            obtain ⟨i, hi, hli⟩ := zipLookR hlk
            rw [etup i b l hi hli] at q
            cases q
            obtain ⟨u, v, hu, hv, hp⟩ := hG.pairs i b hi
            rw [List.getElem?_zipWith] at hli
            cases hxi : xs[i]? with
            | none => rw [hxi] at hli; simp at hli
            | some x =>
              cases hyi : ys[i]? with
              | none => rw [hxi, hyi] at hli; simp at hli
              | some y =>
                rw [hxi, hyi] at hli
                have hli : [x, y] = l := by simpa using hli
                subst hli
                obtain ⟨u', hu', ru⟩ := rv.get hxi
                obtain ⟨v', hv', rv'⟩ := rv2.get hyi
                have e1 : u = u' := by
                  have : its[i]? = some u := by simpa using hu
                  rw [this] at hu'
                  exact Option.some.inj hu'
                have e2 : v = v' := by
                  have : its2[i]? = some v := by simpa using hv
                  rw [this] at hv'
                  exact Option.some.inj hv'
                subst e1 e2
                exact ⟨by show 2 ≤ sizeLine; decide, [u, v], .cons ru (.cons rv' .nil), ⟨_, hp, rfl, _, rfl⟩⟩
          | none =>
            have e : hpZip H1 h'.objs.size as (List.zipWith (fun x y => [x, y]) xs ys) b = H1 b := by
              unfold hpZip
              rw [if_neg hbq, hlk]
            rw [e] at q
            exact (I1.hok b o q).stay (fun c v hc z => kk c v z) (fun c hc => by rw [eold c (oldlt c _ hc)]; exact hc) (fun c xs hc => by rw [eold c (oldlt c _ hc)]; exact hc)
      refine ⟨.ref h'.objs.size, _, J, rfl, q _ as _ (frs _ (Nat.le_refl _)) (fun c o e => by rw [eold c (oldlt c o e)]; exact e) ?_ hla fun i p hp => ?_⟩
      · unfold hpZip
        rw [if_pos rfl]
      · have li : i < as.length := (List.getElem?_eq_some_iff.mp hp).1
        have lx : i < xs.length := by omega
        have ly : i < ys.length := by omega
        refine ⟨xs[i], ys[i], List.getElem?_eq_getElem lx, List.getElem?_eq_getElem ly, etup i p _ hp ?_⟩
        rw [List.getElem?_zipWith, List.getElem?_eq_getElem lx, List.getElem?_eq_getElem ly]
end
end Z
namespace Z
open PySem L2
section
variable {K : PySem.W.Frag} {σ : L2.St} {H : Hp} {Q : VK} {ta : TA} {te : TE}
/-! ### read -/
def rLZip (K : PySem.W.Frag) (vs : List V) (H1 : Hp) (Q : VK) : Prop := ∃ a b xs ys, vs = [.ref a, .ref b] ∧ SqT K H1 a xs ∧ SqT K H1 b ys ∧ ∀ (q : Addr) (ps : List Addr) (H2 : Hp), H1 q = none → (∀ c o, H1 c = some o → H2 c = some o) → H2 q = some (.lst (ps.map V.ref)) → ps.length = min xs.length ys.length →
  (∀ (i : Nat) (p : Addr), ps[i]? = some p → ∃ x y, xs[i]? = some x ∧ ys[i]? = some y ∧ H2 p = some (.tup [x, y])) → Q (.ref q) H2
theorem i_lzip (h : ta σ H (fun vs H1 => rLZip K vs H1 Q)) : tLZip K ta σ H Q := h
def rMkV (C : Addr) (sp : Sp) (vs : List V) (H1 : Hp) (Q : VK) : Prop := vs.length ≤ 1000 ∧ ∀ a, H1 a = none → sp (.ref a :: (vs ++ [])) (upd H1 a (exo a C none)) (fun v H2 => v = .non ∧ Q (.ref a) H2) (fun _ _ _ => False)
theorem i_mkV {C : Addr} {sp : Sp} (h : ta σ H (fun vs H1 => rMkV C sp vs H1 Q)) : tMkV C sp ta σ H Q := h
def rFmtSO (C : Addr) (sp : Sp) (x : V) (H1 : Hp) (Q : VK) : Prop := ∃ a dx fs, x = .ref a ∧ H1 a = some (.ins C dx fs) ∧ sp [.ref a] H1 (fun v H' => ∃ z, v = .str z ∧ z.length ≤ 100000 ∧ Q (.str z) H') (fun _ _ _ => False)
theorem i_fmtSO {C : Addr} {sp : Sp} (h : te σ H (fun x H1 => rFmtSO C sp x H1 Q)) : tFmtSO C sp te σ H Q := h
theorem i_mulLI {a : Addr} {v : V} {k : Nat} (e : H a = some (.lst [v])) (hk : k ≤ 1000) (h : ∀ p H', H p = none → Same H H' → H' p = some (.lst (List.replicate k v)) → Q (.ref p) H') : rMulLI (.ref a) (.int (k : Nat)) H Q :=
  ⟨a, v, k, rfl, rfl, e, hk, fun p hp => h p _ hp (fun b o eb => by rw [upd_ne (ne_of_none eb hp)]; exact eb) upd_same⟩
end
end Z
namespace Z
open PySem PySem.Spec PyProof.Rows L2
section
variable {K : PySem.W.Frag} {σ : L2.St} {H : Hp} {g : TG} {tt : TT} {te : TE} {tr : TA} {Q : VK}
def rLcR1 (g : TG) (tt : TT) (te : TE) (vs : List Nat) (σ : L2.St) (Q : VK) (ws : List V) (H1 : Hp) : Prop := ∃ j : Int, ws = [.int j] ∧ -(2 ^ 62) ≤ j ∧ j < 2 ^ 62 ∧ ∀ D, H1 D = none → ∃ W : Nat → Nat → Hp → Prop, (∃ m, W 0 m (upd H1 D (.lst []))) ∧ ∀ k m H, W k m H →
  ((Itr 0 j.toNat).stop k H ∧ Q (.ref D) H) ∨ ((Itr 0 j.toNat).go k H ∧ ∃ Nx : Hp → Prop, (∀ H', Nx H' → ∃ m', m' < m ∧ W (k + 1) m' H') ∧ ∀ x H', (Itr 0 j.toNat).yld k H x H' → g x (wipe σ vs) H' fun σ2 H2 => wipe σ2 vs = wipe σ vs ∧ tt σ2 H2 fun b H3 =>
    if b = true then te σ2 H3 fun y H4 => ∃ acc, H4 D = some (.lst acc) ∧ acc.length < sizeLine ∧ Nx (upd H4 D (.lst (acc ++ [y]))) else Nx H3)
theorem i_lcR10 {vs : List Nat} (h : tr σ H (fun ws H1 => rLcR1 g tt te vs σ Q ws H1)) : tLc (iRng1 tr) g tt te vs σ H Q := h
theorem i_lcR1 {vs : List Nat} {n : Nat} {j : Int} (hj : j = (n : Int)) (hn : n < 100000) (Pv : Nat → List V → Hp → Prop) (h0 : ∀ D H', H D = none → Same H H' → H' D = some (.lst []) → (∀ b, b ≠ D → H' b = H b) → Pv 0 [] H')
    (hs : ∀ k D ys H1, H D = none → k < n → H1 D = some (.lst ys) → Pv k ys H1 → g (.int ((0 : Int) + (k : Nat))) (wipe σ vs) H1 fun σ2 H2 => wipe σ2 vs = wipe σ vs ∧ tt σ2 H2 fun b H3 => if b = true then te σ2 H3 fun y H4 => rLcE D Pv k y H4 else LcS D Pv (k + 1) H3)
    (hd : ∀ D ys H1, H D = none → H1 D = some (.lst ys) → Pv n ys H1 → Q (.ref D) H1) : rLcR1 g tt te vs σ Q [.int j] H := by
  refine ⟨j, rfl, by omega, by omega, fun D hD => ?_⟩
  have e : j.toNat = n := by omega
  rw [e]
  refine lc_range (LcS D Pv) ⟨[], upd_same, h0 D _ hD (fun b o e => by rw [upd_ne (ne_of_none e hD)]; exact e) upd_same (fun b hb => upd_ne hb)⟩ ?_ ?_
  · rintro k H' hk ⟨ys, hD', p⟩
    exact hs k D ys H' hD hk hD' p
  · rintro H' ⟨ys, hD', p⟩
    exact hd D ys H' hD hD' p
end
end Z

set_option Elab.async false
set_option linter.all false
set_option maxRecDepth 100000
set_option maxHeartbeats 1000000
/-! a, *rest = xs -/
namespace Z
open PySem PySem.Spec PyProof.Rows L2
/-- a walk from a place on -/
theorem walksFrom {prog : Program} {w : World} {A : Around} {I : Addr} {fp wr : List Addr} {G : Array GenState → Array GenState → Prop} {n : Nat} {P : Nat → Value → Prop} {St : Nat → Shared → Prop} (W : WalksS prog w A I fp wr G n P St) (k : Nat) (hk : k ≤ n) :
    WalksS prog w A I fp wr G (n - k) (fun i => P (i + k)) (fun i => St (i + k)) where
  sub := W.sub
  grefl := W.grefl
  gtrans := W.gtrans
  frame := fun i => W.frame (i + k)
  item := fun i s Q E hi st hq => W.item (i + k) s Q E (by omega) st fun v s' p st' m => hq v s' p (Eq.mp (congrArg (fun z => St z s') (show i + k + 1 = i + 1 + k by omega)) st') m
  done := fun s Q E st hq => W.done s Q E (Eq.mp (congrArg (fun z => St z s) (show n - k + k = n by omega)) st) hq
  self := fun i => W.self (i + k)
section
variable {prog : Program} {w : World} {A : Around} {E : Value → Shared → Prop} {s : Shared} {l : Addr} {items : Array Value}
theorem starItems {Q : List Value → Shared → Prop} {x : Value} {rest : List Value} (hh : A.handled = none) (hl : s.heap.IsList l items) (hi : items.toList = x :: rest) (hz : items.size ≤ sizeLine)
    (hQ : ∀ h' tk q, (∀ b o, s.heap.get? b = some o → h'.get? b = some o) → s.heap.get? q = none → (∃ c, h'.get? q = some ({ cls := .type "list", data := .seq rest.toArray c } : Obj)) → Q [x, .ref q] { s with heap := h', toks := tk }) :
    wpAny (model prog w) A (unpackItems (.ref l) 2 (some 1)) Q E s := by
  have hls : l < s.heap.objs.size := by obtain ⟨o, ho, _⟩ := hl; exact Heap.lt_size ho
  have hlt : l ≠ s.heap.objs.size := Nat.ne_of_lt hls
  have hsz : items.size = rest.length + 1 := by rw [← Array.length_toList, hi]; rfl
  unfold unpackItems
  refine wpAny_bind ?_
  unfold notIterableAtAll
  refine wpAny_bind (wpAny_specialOf hl.typeIs PySem.F.slot_list_iter.lookup ?_)
  refine wpAny_pure ?_
  simp only [Bool.false_eq_true, if_false]
  refine wpAny_bind (wpAny_holding (wpAny_pyIter_list hl ?_))
  refine wpAny_bind (wpAny_holding (PySem.W.kun_draw hlt 1 0 _ _ ⟨_, Heap.get?_push_size _ rfl, rfl, rfl⟩ (hl.push _) (by omega) fun h₁ hit₁ hs₁ => ?_))
  have hall : (items.toList.drop 0).take 1 = [x] := by rw [hi]; rfl
  rw [hall]
  rw [if_neg (by simp)]
  have hl₁ : h₁.IsList l items := (hl.push _).extBut hs₁.extBut hlt
  have hsz1 : h₁.objs.size = s.heap.objs.size + 1 := by rw [hs₁.1]; exact Heap.size_push _ _
  refine wpAny_bind (wpAny_holding ?_)
  have W := walksFrom (Walks.list (prog := prog) (w := w) (A := A.in1) hh s.heap.objs.size l hlt items).toS 1 (by omega)
  refine wpAny_collect_iter (T := "list_iterator") (.inr (.inr (.inl rfl))) W (fun i s st => st.1.typeIs) ⟨hit₁, hl₁⟩ (fun b hb => ?_) (by simp) (fun s' acc hm hacc => ?_) (by omega)
  · simp at hb
    rcases hb with rfl | rfl
    · show s.heap.objs.size < h₁.objs.size
      rw [hsz1]
      exact Nat.lt_succ_self _
    · show b < h₁.objs.size
      rw [hsz1]
      exact Nat.lt_succ_of_lt hls
  have eacc : acc.toList = rest := by
    obtain ⟨h1, h2⟩ := hacc
    have h1' : acc.toList.length = rest.length := by rw [Array.length_toList, h1]; omega
    refine List.ext_getElem? fun j => ?_
    rcases Nat.lt_or_ge j rest.length with hj | hj
    · have hj' : j < acc.size := by rw [← Array.length_toList]; omega
      have this : items[j + 1]? = some acc[j] := h2 j acc[j] (by simp [hj'])
      have e2 : items[j + 1]? = rest[j]? := by
        rw [← Array.getElem?_toList, hi, List.getElem?_cons_succ]
      rw [e2] at this
      rw [this, Array.getElem?_toList]
      simp [hj']
    · rw [List.getElem?_eq_none (by omega), List.getElem?_eq_none hj]
  rw [eacc]
  have hz0 : rest.length ≤ sizeLine := by omega
  rw [if_neg (by simp)]
  show wpAny _ _ (newList (rest.take (rest.length - (2 - 1 - 1))) >>= _) _ _ _
  have et : rest.take (rest.length - (2 - 1 - 1)) = rest := List.take_of_length_le (by omega)
  rw [et]
  obtain ⟨hp, g, d, t, os⟩ := s
  obtain ⟨hp', g', d', t', os'⟩ := s'
  obtain ⟨m1, m2, m3, m4, m5⟩ := hm
  dsimp only at m1 m2 m3 m4 m5
  subst m2 m3 m4
  have kp : ∀ b o, hp.get? b = some o → hp'.get? b = some o := fun b o e => m1 b o (by
    have := Heap.lt_size e
    simp
    exact Nat.ne_of_lt this) (hs₁.extBut b o (Nat.ne_of_lt (Heap.lt_size e)) (Heap.get?_push_of_some _ e))
  unfold newList
  refine wpAny_bind (wpAny_newObj_type ?_ (by show rest.toArray.size ≤ sizeLine; rw [List.size_toArray]; exact hz0))
  refine wpAny_pure ?_
  have ed : rest.drop (rest.length - (2 - 1 - 1)) = [] := List.drop_of_length_le (by omega)
  rw [ed]
  have hq : hp.get? hp'.objs.size = none := by
    cases e : hp.get? hp'.objs.size with
    | none => rfl
    | some o => exact absurd (Heap.lt_size (kp _ _ e)) (Nat.lt_irrefl _)
  exact hQ _ _ _ (fun b o e => Heap.get?_push_of_some _ (kp b o e)) hq ⟨0, Heap.get?_push_size _ rfl⟩
end
section
variable {P : Program} {w : World} {H : Hp} {h h' : Heap} {a : Addr} {o : HO}
theorem objAlive (x : ObjOk P w H h a o) : ∃ u, h.get? a = some u := by
  cases o with
  | lst xs => obtain ⟨_, _, _, _, e⟩ := x; exact ⟨_, e⟩
  | tup xs => obtain ⟨_, _, _, u, e, _⟩ := x; exact ⟨u, e⟩
  | dK kvs => obtain ⟨_, _, _, _, u, _, _, e, _⟩ := x; exact ⟨u, e⟩
  | dT kvs => obtain ⟨_, _, _, _, u, _, _, e, _⟩ := x; exact ⟨u, e⟩
  | set S n => obtain ⟨u, _, _, _, e, _⟩ := x; exact ⟨u, e⟩
  | ins C dx fs => obtain ⟨_, _, _, e, _⟩ := x; exact ⟨_, e⟩
  | own y => obtain ⟨u, e⟩ := x; exact ⟨u, e⟩
  | xd fs => obtain ⟨_, ⟨u, _, _, e, _⟩, _⟩ := x; exact ⟨u, e⟩
  | rng lo hi => obtain ⟨_, _, _, e⟩ := x; exact ⟨_, e⟩
  | frz ob u => obtain ⟨e, _⟩ := x; exact ⟨_, e⟩
  | tbl ps => exact ⟨_, (show h.get? a = some _ from x)⟩
  | met f y => exact ⟨_, (show h.get? a = some _ from x)⟩
  | ext φ => obtain ⟨_, ⟨u, e⟩, _⟩ := x; exact ⟨u, e⟩
end
/-- a new list where nothing stood, all others kept -/
theorem invAt {X : Cx} {pins : List (Addr × Obj)} {σ : L2.St} {H : Hp} {s : Shared} {h' : Heap} {q : Addr} {o : HO} {t' : Nat} (I : L2.Inv X pins σ H s) (k : ∀ b u, s.heap.get? b = some u → h'.get? b = some u) (hq : s.heap.get? q = none) (new : ObjOk X.prog X.w (upd H q o) h' q o) :
    H q = none ∧ L2.Inv X pins σ (upd H q o) { s with heap := h', toks := t' } := by
  have hn : H q = none := by
    cases e : H q with
    | none => rfl
    | some u =>
      obtain ⟨v, ev⟩ := objAlive (I.hok q u e)
      rw [hq] at ev
      cases ev
  have ne : ∀ {b : Addr} {u : Obj}, s.heap.get? b = some u → b ≠ q := fun {b u} e z => by rw [z, hq] at e; cases e
  refine ⟨hn, I.un (t' := t') {
    keep := fun b o e n _ _ => k b o e
    slot := fun b o e n _ _ => ⟨o.slots, k b o e⟩
    free := fun b o e n _ => by rw [upd_ne (ne e)]; exact n
    there := fun b o e _ => ⟨o, k b o e⟩
    tups := fun b xs e => by rw [upd_ne (ne_of_none e hn)]; exact e
    frzs := fun b o v e => by rw [upd_ne (ne_of_none e hn)]; exact e
    tbls := fun b ps e => ⟨#[], by rw [upd_ne (ne_of_none e hn), e]; simp⟩ } fun b u e => ?_⟩
  by_cases hb : b = q
  · subst hb
    rw [upd_same] at e
    cases e
    exact new
  · rw [upd_ne hb] at e
    exact (I.hok b u e).stay (fun c v _ z => k c v z) (fun c z => by rw [upd_ne (ne_of_none z hn)]; exact z) (fun c xs z => by rw [upd_ne (ne_of_none z hn)]; exact z)
/-- a, *b = xs -/
def gStar (K : PySem.W.Frag) (t : TGs) : TG := fun v σ H Q => ∃ (a : Addr) (x : V) (xs : List V), v = .ref a ∧ SqL K H a (x :: xs) ∧ ∀ p, H p = none → t [x, .ref p] σ (upd H p (.lst xs)) Q
theorem pg_star1 {X : Cx} {e1 e2 : Expr} {ps pos : Pos} {k : Nat} {t : TGs} (hc : X.calm = true) (h : PGs X [e1, e2] t) (hn : (assignEach [e1, .Starred e2 ps] X.env).length = 2 := by rfl) (hst : (assignEach [e1, .Starred e2 ps] X.env).findIdx? (·.1) = some 1 := by rfl)
    (hm : (assignEach [e1, .Starred e2 ps] X.env).map (·.2) = (assignEach [e1, e2] X.env).map (·.2) := by rfl) : PG X (.Tuple [e1, .Starred e2 ps] k pos) (gStar X.K t) := by
  refine ⟨fun pins s σ H v u Q I r hw => ?_⟩
  obtain ⟨a, x, xs, e1, hq, hw⟩ := hw
  subst e1
  cases r
  obtain ⟨its, rv, pl, hz⟩ := I.list hq
  obtain ⟨ux, us, rfl, rx, rs⟩ : ∃ ux us, its = ux :: us ∧ RelV x ux ∧ Vals xs us := by
    cases rv with
    | cons r1 r2 => exact ⟨_, _, rfl, r1, r2⟩
  have hl := rs.length
  rw [PyProof.Rows.assign_Tuple]
  refine wpAny_bind (wpAny_standAt ?_)
  unfold unpack
  rw [hn, hst, hm]
  refine wpAny_bind (wpAny_holding (starItems (I.ok.hd hc) pl.isList rfl (by rw [List.size_toArray, List.length_cons]; rw [List.length_cons] at hz; omega) fun h' tk q hk hq' ⟨c, hc'⟩ => ?_))
  have hz' : xs.length ≤ sizeLine := by rw [List.length_cons] at hz; omega
  obtain ⟨hn', J⟩ := invAt (t' := tk) (o := .lst xs) I hk hq' ⟨hz', us, c, rs, hc'⟩
  exact h.run pins _ σ _ [x, .ref q] [ux, .ref q] Q J (.cons rx (.cons rfl .nil)) (hw q hn')
end Z

set_option Elab.async false
set_option linter.all false
set_option maxRecDepth 100000
set_option maxHeartbeats 4000000
/-! enumerate(xs, start=k), xs a list -/
namespace Z
open PySem PySem.Spec PyProof.Rows L2
section
variable {M : Model} {A : Around} {E : Value → Shared → Prop} {s : Shared} {env : Env}
theorem cw_typeArgs {pos : Pos} {T : String} {args : List (Bool × Sem Value)} {keywords : List (Option Str × Sem Value)} {Q : Value → Shared → Prop} (hplain : args.any (·.1) = false) (hkw : keywords.any (·.1.isNone) = false)
    (h : wpAny M A (evalArgs (.type T) true args keywords) (fun a s₁ => wpAny M A (call (.type T) a.pos a.kw) Q E s₁) E s) : wpAny M A (callWith pos (.type T) [] args keywords) Q E s := by
  unfold callWith
  refine wpAny_bind (wpAny_holding (wpAny_mono h (fun a s₁ h₁ => wpAny_bind (wpAny_standAt ?_)) fun _ _ x => x))
  simp only [hplain, hkw, Bool.or_false]
  refine wpAny_bind (wpAny_pure ?_)
  exact wpAny_bind (wpAny_mono h₁ (fun r s₂ hr => wpAny_bind (wpAny_holding (wpAny_point (wpAny_pure hr)))) fun _ _ x => x)
theorem cw_typeKw {pos : Pos} {T : String} {e : Expr} {rest : List Expr} {kws : List Keyword} {Q : Value → Shared → Prop}
    (h : wpAny M A (spliced (backTo pos (starEach (e :: rest) env))) (fun vs s₁ => wpAny M A (evalAll ((backToKw pos (keywordEach kws env)).map (·.2)))
      (fun kvs s₂ => wpAny M A (call (.type T) vs (((backToKw pos (keywordEach kws env)).filterMap (·.1)).zip kvs)) Q E s₂) E s₁) E s)
    (he : backTo pos (starEach (e :: rest) env) = (false, eval e env) :: backTo pos (starEach rest env) := by rfl)
    (hplain : (backTo pos (starEach (e :: rest) env)).any (·.1) = false := by rfl)
    (hall : (backToKw pos (keywordEach kws env)).all (·.1.isSome) = true := by rfl)
    (hkw : (backToKw pos (keywordEach kws env)).any (·.1.isNone) = false := by rfl) :
    wpAny M A (callWith pos (.type T) [] (backTo pos (starEach (e :: rest) env)) (backToKw pos (keywordEach kws env))) Q E s := by
  refine cw_typeArgs hplain hkw ?_
  rw [he] at h ⊢
  exact evalArgs_kwB hall h
end
/-- the end alone, of a list -/
theorem drawsEndL {prog : Program} {w : World} {A : Around} (calm : A.handled = none) (q t : Addr) (its : Array Value) (i : Nat) (out : its[i]? = none) :
    Draws prog w A q [q, t] i (fun _ _ => True) (fun j h => j = i ∧ h.IsListIter q t j ∧ h.IsList t its) where
  live := fun _ _ st => let ⟨o, ho, _⟩ := st.2.1; ⟨o, ho⟩
  frame := fun _ _ _ st hk => ⟨st.1, st.2.1.at fun o e => hk q (by simp) o e, st.2.2.at fun o e => hk t (by simp) o e⟩
  item := fun j s Q E hi st hQ => by
    have := st.1
    omega
  done := fun s Q E st hE => wpAny_nextOf_list_end calm st.2.1 st.2.2 out hE
/-- the list at a from the number k on, each item in a new pair -/
def IteS (K : PySem.W.Frag) (a : Addr) (k : Int) : It :=
  ⟨fun i H => ∃ (xs : List V) (x : V), SqL K H a xs ∧ xs[i]? = some x, fun i H v H' => ∃ T x, v = .ref T ∧ H T = none ∧ H' = upd H T (.tup [.int (k + (i : Nat)), x]) ∧ ∀ xs, SqL K H a xs → xs[i]? = some x, fun i H => ∃ xs : List V, SqL K H a xs ∧ xs.length ≤ i⟩
theorem turn_enumS {P : Program} {w : World} {K : PySem.W.Frag} {elts : List Expr} {kk : Nat} {tpos : Pos} (a e it : Addr) (k : Int) :
    Turn P w K (.Tuple elts kk tpos) (IteS K a k) [e, it] e (fun i h => (∃ old, IsEnum h e it (k + (i : Nat)) old) ∧ h.IsListIter it a i ∧ e ≠ it ∧ a ≠ it ∧ a ≠ e) where
  mem := by simp
  obj := fun i h st b hb => by
    obtain ⟨⟨old, he⟩, ⟨o, ho, hc, hd⟩, _⟩ := st
    have e' : b = e ∨ b = it := by simpa using hb
    rcases e' with z | z
    · rw [z]; exact ⟨_, he, fun v q => nomatch q⟩
    · rw [z]; exact ⟨o, ho, fun v q => by rw [hd] at q; cases q⟩
  keep := fun i h h' st k => let ⟨⟨old, he⟩, hit, hne⟩ := st; ⟨⟨old, k e (by simp) _ he⟩, hit.at fun o q => k it (by simp) o q, hne⟩
  item := by
    intro X hP hw hK hc i pins s σ H E I hf st hg
    subst hP hw hK
    obtain ⟨⟨old, he⟩, hit, hne, hai, hae⟩ := st
    obtain ⟨xs, x, hq, hx⟩ := hg
    obtain ⟨its, rv, p, hz⟩ := I.list hq
    obtain ⟨u, hu, ru⟩ := rv.get hx
    have hel : e < s.heap.objs.size := Heap.lt_size he
    have hil : it < s.heap.objs.size := by obtain ⟨_, z, _⟩ := hit; exact Heap.lt_size z
    have hlt : i < its.toArray.size := by
      have := (List.getElem?_eq_some_iff.mp hu).1
      simpa using this
    refine wpAny_pyNext_enum_itemC (Draws.list (by first | exact I.ok.hd hc | (show X.A.in1.handled = none; exact I.ok.hd hc)) it a hai its.toArray) he ⟨hit, p.isList⟩ hlt hne (by simp [hne, Ne.symm hae]) fun x' h' tk hx' ho hst' hT hsz hk => ?_
    obtain rfl : x' = u := by
      rw [show its.toArray[i]? = its[i]? by simp, hu] at hx'
      exact (Option.some.inj hx').symm
    refine ⟨_, rfl, wpAny_letOwnedTupleGo_enum (s := { s with heap := h', toks := tk + 1 }) ho fun h'' he' sb => ?_⟩
    have hT2 : h''.get? s.heap.objs.size = some { cls := .type "tuple", data := .seq #[.int (k + (i : Nat)) tk, x'] } := (sb.2 _ (Nat.ne_of_gt hel)).trans hT
    have new : ObjOk X.prog X.w (upd H s.heap.objs.size (.tup [.int (k + (i : Nat)), x])) h'' s.heap.objs.size (.tup [.int (k + (i : Nat)), x]) :=
      ⟨by show 2 ≤ sizeLine; decide, [.int (k + (i : Nat)) tk, x'], .cons ⟨_, rfl⟩ (.cons ru .nil), ⟨_, hT2, rfl, _, rfl⟩⟩
    have I1 : Inv X pins σ (upd H s.heap.objs.size (.tup [.int (k + (i : Nat)), x])) { s with heap := h'', toks := tk + 1 } :=
      I.turnedNew (ch := [e, it]) (fun b ob hb z => (sb.2 b (fun y => hb (by simp [y]))).trans (hk b ob (fun y => hb (by simp [y])) (fun y => hb (by simp [y])) z)) hf (Nat.le_refl _) new
    have hit2 : h''.IsListIter it a (i + 1) := hst'.1.at fun o z => (sb.2 it (Ne.symm hne)).trans z
    refine ⟨.ref s.heap.objs.size, _, I1, rfl, ⟨_, x, rfl, I.hok.fresh (Nat.le_refl _), rfl, fun ys hy => by rw [I.list_inj hy hq]; exact hx⟩, ⟨⟨x', ?_⟩, hit2, hne, hai, hae⟩, fun b hb => ?_⟩
    · have e1 : k + ((i + 1 : Nat) : Int) = k + (i : Nat) + 1 := by omega
      rw [e1]; exact he'
    · have hb' : b < s.heap.objs.size := by
        have e' : b = e ∨ b = it := by simpa using hb
        rcases e' with z | z
        · rw [z]; exact hel
        · rw [z]; exact hil
      rw [upd_ne (Nat.ne_of_lt hb')]
      exact (hf b hb).1
  done := by
    intro X hP hw hK hc i pins s σ H E I hf st hg
    subst hP hw hK
    obtain ⟨⟨old, he⟩, hit, hne, hai, hae⟩ := st
    obtain ⟨xs, hq, hx⟩ := hg
    obtain ⟨its, rv, p, hz⟩ := I.list hq
    obtain ⟨f0, f1, f2, f3, f4, f5⟩ := hf it (by simp)
    have hl := rv.length
    refine wpAny_pyNext_enum_endD (drawsEndL (by first | exact I.ok.hd hc | (show X.A.in1.handled = none; exact I.ok.hd hc)) it a its.toArray i (by simp; omega)) he ⟨rfl, hit, p.isList⟩ fun h' eb => ⟨rfl, I.turned (t' := s.toks) (fun b o hb q => eb b o hb q) f0 f1 f3 f4 f5⟩
  self := fun A i s Q E st h => let ⟨⟨_, he⟩, _⟩ := st; wpAny_pyIter_enum he h
theorem walk_enumS {K : PySem.W.Frag} {a : Addr} {xs : List V} {k : Int} : Walk (IteS K a k) xs.length (fun H => SqL K H a xs) (YPair (fun i => some (.int (k + (i : Nat)))) (fun i => xs[i]?)) := by
  refine ⟨fun i _ hi q => ⟨xs, xs[i], q, by simp [hi]⟩, fun _ q => ⟨xs, q, Nat.le_refl _⟩, fun i H v H' _ q y => ?_⟩
  obtain ⟨T, x, h1, h2, h3, h4⟩ := y
  exact ⟨T, .int (k + (i : Nat)), x, h1, h2, h3, rfl, h4 xs q⟩
/-- enumerate(xs, start=k) -/
def iEnS (K : PySem.W.Frag) (ta tk : TA) : TI := fun σ H R => ta σ H fun vs H1 => tk σ H1 fun ws H2 => ∃ a xs k, vs = [.ref a] ∧ ws = [.int k] ∧ -(2 ^ 62) ≤ k ∧ k < 2 ^ 62 ∧ SqL K H2 a xs ∧ R (IteS K a k) H2
theorem pi_enS {X : Cx} {K : PySem.W.Frag} {e : Expr} {kws : List Keyword} {ta tk : TA} {p pos tpos : Pos} {elts : List Expr} {kk : Nat} (hK : X.K = K) (hg : Gl X "enumerate") (hm : X.mg "enumerate" = none) (ha : PA X [e] ta) (hk : PK X kws tk)
    (he : backTo pos (starEach [e] X.env) = [(false, eval e X.env)] := by rfl) (hpl : (backTo pos (starEach [e] X.env)).any (·.1) = false := by rfl)
    (hall : (backToKw pos (keywordEach kws X.env)).all (·.1.isSome) = true := by rfl) (hnone : (backToKw pos (keywordEach kws X.env)).any (·.1.isNone) = false := by rfl) (hks : (backToKw pos (keywordEach kws X.env)).filterMap (·.1) = [Str.ofString "start"] := by rfl) :
    PI X (.Tuple elts kk tpos) (.Call (.Name "enumerate" p) [e] kws pos) (iEnS K ta tk) := by
  subst hK
  refine ⟨fun pins s σ H R I h => ?_⟩
  refine wpAny_Call_Name_kw (ld_blt I hg hm boot_enumerate ?_)
  refine cw_typeKw (thn (ha.run pos pins s σ H _ I h) fun us s1 ⟨vs, H1, I1, r1, q1⟩ => thn (hk.run pos pins s1 σ H1 _ I1 q1) fun ws s2 ⟨zs, H2, I2, r2, q2⟩ => ?_) he hpl hall hnone
  rw [hks]
  obtain ⟨a, xs, k, rfl, rfl, hk0, hk1, hq, q⟩ := q2
  obtain ⟨u, rfl, r⟩ := r1.one
  cases r
  obtain ⟨u2, rfl, r'⟩ := r2.one
  obtain ⟨tk', rfl⟩ := r'
  have two : ∀ b ∈ [s2.heap.objs.size + 1, s2.heap.objs.size], FpOk X pins H2 b := fun b hb => by
    have e' : b = s2.heap.objs.size + 1 ∨ b = s2.heap.objs.size := by simpa using hb
    have hle : s2.heap.objs.size ≤ b := by
      rcases e' with z | z
      · rw [z]; exact Nat.le_add_right _ _
      · rw [z]; exact Nat.le_refl _
    exact I2.fpOk hle (I2.hok.fresh hle)
  obtain ⟨its, rv, p', hz⟩ := I2.list hq
  have hal : a < s2.heap.objs.size := by obtain ⟨_, z, _⟩ := p'.isList; exact Heap.lt_size z
  refine enum_begins_start (begins_list a its.toArray) p'.isList (by omega) (by omega) fun h' he' hit hsz hk' => wpAny_pyIter_enum he' ?_
  refine ⟨s2.heap.objs.size + 1, [s2.heap.objs.size + 1, s2.heap.objs.size], _, _, H2, rfl, I2.kept (t' := s2.toks) hk', turn_enumS a (s2.heap.objs.size + 1) s2.heap.objs.size k, ⟨⟨.none, ?_⟩, ⟨_, hit, rfl, rfl⟩, Nat.succ_ne_self _, Nat.ne_of_lt hal, Nat.ne_of_lt (Nat.lt_succ_of_lt hal)⟩, two, q⟩
  have e0 : k + ((0 : Nat) : Int) = k := by omega
  rw [e0]
  exact he'
/-! ### read -/
section
variable {K : PySem.W.Frag} {σ : L2.St} {H H0 : Hp} {D : Ends} {ta tk : TA} {g : TG} {tb : TS} {a : Addr} {xs : List V} {k : Int}
def rEnS (K : PySem.W.Frag) (g : TG) (tb : TS) (D : Ends) (σ : L2.St) (vs ws : List V) (H2 : Hp) : Prop := ∃ a xs k, vs = [.ref a] ∧ ws = [.int k] ∧ -(2 ^ 62) ≤ k ∧ k < 2 ^ 62 ∧ SqL K H2 a xs ∧ rFor (IteS K a k) g tb D σ H2
theorem i_enS0 (h : ta σ H (fun vs H1 => tk σ H1 (fun ws H2 => rEnS K g tb D σ vs ws H2))) : tFor (iEnS K ta tk) g tb D σ H := h
theorem i_enS (Pv : Nat → L2.St → Hp → Prop) (s : H0 a = some (.lst xs)) (hk : -(2 ^ 62) ≤ k ∧ k < 2 ^ 62) (h0 : Pv 0 σ H) (hl : ∀ i σ H1, Pv i σ H1 → Same H0 H1)
    (hs : ∀ i x T σ H H2, xs[i]? = some x → Pv i σ H → H T = none → Same H H2 → H2 T = some (.tup [.int (k + (i : Nat)), x]) → (∀ b, b ≠ T → H2 b = H b) → g (.ref T) σ H2 fun σ2 H2 => tb { D with nx := Pv (i + 1), ct := Pv (i + 1), bk := D.nx } σ2 H2)
    (hd : ∀ σ H, Pv xs.length σ H → D.nx σ H) : rEnS K g tb D σ [.ref a] [.int k] H :=
  ⟨a, xs, k, rfl, rfl, hk.1, hk.2, .of (hl _ _ _ h0 _ _ s), for_it walk_enumS Pv h0 (fun i σ H1 _ p => .of (hl i σ H1 p _ _ s)) (fun i x σ H H' _ p y => by
    obtain ⟨T, v, z, rfl, hT, rfl, e1, e2⟩ := y
    cases e1
    exact hs i z T σ H _ e2 p hT (fun b o e => by rw [upd_ne (ne_of_none e hT)]; exact e) upd_same fun b hb => upd_ne hb) hd⟩
theorem i_gstar {x : V} {t : TGs} {QS : L2.St → Hp → Prop} (s : SqL K H a (x :: xs)) (h : ∀ p H', H p = none → Same H H' → H' p = some (.lst xs) → (∀ b, b ≠ p → H' b = H b) → t [x, .ref p] σ H' QS) : gStar K t (.ref a) σ H QS :=
  ⟨a, x, xs, rfl, s, fun p hp => h p _ hp (fun b o e => by rw [upd_ne (ne_of_none e hp)]; exact e) upd_same fun b hb => upd_ne hb⟩
end
theorem k_star1 {X : Cx} {K : PySem.W.Frag} {e1 e2 : Expr} {ps pos : Pos} {k : Nat} {t : TGs} (hK : X.K = K) (hc : X.calm = true) (h : PGs X [e1, e2] t) (hn : (assignEach [e1, .Starred e2 ps] X.env).length = 2 := by rfl) (hst : (assignEach [e1, .Starred e2 ps] X.env).findIdx? (·.1) = some 1 := by rfl)
    (hm : (assignEach [e1, .Starred e2 ps] X.env).map (·.2) = (assignEach [e1, e2] X.env).map (·.2) := by rfl) : PG X (.Tuple [e1, .Starred e2 ps] k pos) (gStar K t) := by
  subst hK
  exact pg_star1 hc h hn hst hm
end Z

set_option Elab.async false
set_option linter.all false
set_option maxRecDepth 100000
set_option maxHeartbeats 4000000
namespace Z
open PySem PySem.Spec PyProof.Rows L2

local macro_rules | `(tactic| walk_at "sm") => `(tactic| first | (with_reducible assumption) | ((with_reducible refine' IsR.mono ?s ?h); (case s => with_reducible assumption); (case h => walk_at "sm")) | ((with_reducible refine' Same.at ?s ?h); (case s => with_reducible assumption); (case h => walk_at "sm")) | ((with_reducible refine' Same.seq ?s ?h); (case s => with_reducible assumption); (case h => walk_at "sm")) | ((with_reducible refine' SqL.of ?h); (case h => walk_at "sm")))
local macro_rules | `(tactic| walk_at "cd") => `(tactic| first | assumption | exact cmulW (by assumption) (by assumption) | exact cmulW (ZR.Bd.n (by assumption)) (ZR.Bd.n (by assumption)) | exact cmulW (ZR.Bd.n (by assumption)) (ZR.Bd.d (by assumption)) | exact cmulW (ZR.Bd.d (by assumption)) (ZR.Bd.d (by assumption)) | exact cmulW (ZR.Bd.d (by assumption)) (ZR.Bd.n (by assumption)) | exact (by show (0 : Int) < _; decide) | exact .inr ⟨by decide, by decide⟩ | exact .inl ⟨by decide, by decide⟩ | exact ⟨by decide, by decide⟩ | exact ⟨by decide, by decide, by decide⟩)
local macro_rules | `(tactic| walk_at "r1") => `(tactic| first
  | (with_reducible first
  | refine i_seq ?_ | refine i_next ?_ | refine i_asg ?_ | refine i_gname (by with_unfolding_all rfl) ?_ | refine i_ret ?_ | refine i_retN ?_ | refine i_drop ?_ | refine i_ifs ?_ | refine i_test ?_ | refine i_B ?_
  | refine i_bl ?_ | refine i_bl' ?_ | refine i_and ?_ | refine i_or ?_ | refine i_not ?_ | refine i_andV ?_ | refine i_orV ?_ | refine i_notV ?_ | refine i_ifx ?_
  | refine i_tt ?_ | refine i_ff ?_ | refine i_nt ?_ | refine i_nf ?_
  | refine i_var (by with_unfolding_all rfl) ?_ | refine i_c ?_ | refine i_op ?_ | refine i_un ?_ | refine i_cons ?_ | refine i_nil ?_ | refine i_cb ?_ | refine i_call ?_ | refine i_lst0 ?_ | refine i_tup0 ?_
  | refine i_fld0 ?_ | refine i_put0 ?_ | refine i_meth ?_ | refine i_make ?_ | refine i_mkO ?_ | refine i_fmt ?_ | refine i_jsC ?_ | refine i_jsN ?_ | refine i_bits0 ?_ | refine i_bits ?_
  | refine i_lcR10 ?_ | refine i_enS0 ?_ | refine i_lzip ?_ | refine i_mkV ?_ | refine i_fmtSO ?_ | refine i_revA0 ?_ | refine i_truO0 ?_ | refine i_lcR20 ?_ | refine i_lc2R0 ?_ | refine i_forR20 ?_ | refine i_tvd ?_ | refine i_xat ?_ | refine i_fmtL ?_ | refine i_forA0 ?_ | refine i_enA0 ?_ | refine i_lcA0 ?_ | refine i_lc2A0 ?_ | refine i_dcA0 ?_ | refine i_dget0 ?_ | refine i_din0 ?_ | refine i_dput0 ?_ | refine i_tru0 ?_ | refine i_fmtR ?_ | refine i_bm0 ?_ | refine i_gn ?_ | refine i_xf ?_ | refine i_chain ?_ | refine i_sl ?_ | refine i_noPart ?_ | refine i_part ?_ | refine i_part1 ?_ | refine i_revL ?_ | refine i_lcS0 ?_ | refine i_tve ?_ | refine i_ost ?_ | refine i_forL0 ?_ | refine i_forT0 ?_ | refine i_forR0 ?_ | refine i_lcL0 ?_ | refine i_yes ?_ | refine i_gsub ?_ | refine i_par ?_ | refine i_par1 ?_ | refine i_gc ?_ | refine i_gn ?_ | refine i_bm ?_
  | refine i_rI0 ?_ | refine i_rU ?_ | refine i_eqI ?_ | refine i_neI ?_ | refine i_eqB ?_ | refine i_neB ?_ | refine i_eqS ?_ | refine i_neS ?_ | refine i_gcd ?_)
  | ((with_reducible refine i_rI ?c ?_); (case c => walk_at "cd"))
  | walk_at "r2")
local macro_rules | `(tactic| walk_at "rd") => `(tactic| repeat walk_at "r1")
local macro_rules | `(tactic| walk_at "rb") => `(tactic| ((try dsimp only); repeat walk_at "r1"))

local macro_rules | `(tactic| walk_at "r2") => `(tactic| with_reducible first | refine i_mkO ?_)
def top (i : Nat) : Stmt := PySem.Challenge.pw_onethrow_k15_texts_of_orders.main.body.getD i (.Pass ⟨0, 0, 0, 0⟩)
theorem i_fmtRSW {z : Str} {H : Hp} {Q : VK} (l : (reprText z).length ≤ 400000) (h : Q (.str (reprText z)) H) : rFmtR (.str z) H Q := .inl ⟨z, rfl, Nat.le_trans l (by rw [sizeLine_eq]; decide), h⟩
def RW (z : Str) : Prop := (reprText z).length ≤ 400000
def GStW : V → Hp → Prop := fun v _ => ∃ z : Str, v = .str z ∧ RW z
def spAmW (K : PySem.W.Frag) (CU : Addr) : Sp := fun vs H Q E => vs.length = 2 ∧ ∃ (a b : Addr) (ks zs : List Str), vs = [.ref a, .ref b] ∧ SqA K H a (ks.map V.str) ∧ SqA K H b (zs.map V.str) ∧
  (∀ z, miss ks zs = some z → RW z ∧ EName CU z H E) ∧ (miss ks zs = none → ∀ H', Same H H' → Q .non H')
def spShown : Sp := fun vs H Q _ => vs.length = 1 ∧ ∃ n : Int, vs = [.int n] ∧ ZR.Sz 1000 n ∧ ∀ y : Str, y.length ≤ 2000 → Q (.str y) H
def GInt : V → Hp → Prop := fun v _ => ∃ n : Int, v = .int n ∧ ZR.Sz 1000 n
abbrev s__shown : Stmt := top 2
theorem sc__shown : FnScope ["n"] ["n"] (defScope s__shown) := ⟨rfl, rfl, rfl, by decide +kernel, rfl, by decide +kernel, by decide +kernel⟩
theorem ok__shown {P : Program} {w : World} {K : PySem.W.Frag} {mg : Str → Option Value} {base : Heap} {f : Addr} {fd : FuncData} (F : L2.Fun K "_shown" "_shown" s__shown f fd)
    (C_b_int : mg "int" = none)
    (C_b_isinstance : mg "isinstance" = none)
    (C_b_str : mg "str" = none) :
    FnOk P w K mg base (L2.CX P w) 1 f fd ["n"] spShown := by
  refine fnOk_mk F sc__shown (fun vs H Q E h => h.1) (fun cdv A outer s H vs Q E hr h => ?_)
  obtain ⟨_, n, rfl, hz, k⟩ := h
  refine ⟨_, pss_cons (ps_if (PW.pt (pw_and (pt_val (pe_callB call_isi (by rfl) C_b_isinstance (by decide +kernel) (pa_cons (pv 0) (pa_cons ((pe_bltn (v := .ty "int") rfl C_b_int (by decide +kernel) rfl)) pa_nil)))) (pw_and1 (pt_cmpR op_gt (pe_bits (pv 0)) pe_int (nomark _))))) (pss_one (ps_ret pe_str)) (pss_nil))
    (pss_one (ps_ret (pe_callTy call_str_int (by rfl) C_b_str (by decide +kernel) (pa_cons (pv 0) pa_nil)))), ?_⟩
  try dsimp only [cxOf]
  walk_at "rd"
  refine i_isiT (tyInt n) (b := true) (kit_ty (by decide +kernel)) ?_
  walk_at "rd"
  refine i_dec (fun h => absurd h (bits_small hz)) fun _ => ?_
  walk_at "rd"
  exact ⟨n, rfl, PySem.Flt.log2_lt_of (by decide) (hz.mono (by decide)), k _ (Nat.le_trans (text_small (hz.mono (by decide))) (by decide))⟩
abbrev s_BadNumber___init__ : Stmt := inClass (top 4) 0
theorem sc_BadNumber___init__ : FnScope ["self", "n"] ["self", "n"] (defScope s_BadNumber___init__) := ⟨rfl, rfl, rfl, by decide +kernel, rfl, by decide +kernel, by decide +kernel⟩
theorem ok_BadNumber___init__ {P : Program} {w : World} {K : PySem.W.Frag} {mg : Str → Option Value} {base : Heap} {CB : Addr} {f : Addr} {fd : FuncData} (F : L2.Fun K "__init__" "BadNumber.__init__" s_BadNumber___init__ f fd)
    (C_f_shown : Cal P w K mg base "_shown" 1 spShown)
    (C_ox_BadNumber : OexC K CB)
    (C_t_ThrowError : CalT K mg "ThrowError")
    (C_xn_BadNumber_n : PySem.W.findIn K (.ref CB) "n" = some none) :
    FnOk P w K mg base (L2.CX P w) 2 f fd ["self", "n"] (spX1 K CB "n" GInt) := by
  refine fnOk_mk F sc_BadNumber___init__ (fun vs H Q E h => h.1) (fun cdv A outer s H vs Q E hr h => ?_)
  obtain ⟨_, a, v, rfl, ha, g, k⟩ := h
  obtain ⟨n, rfl, hz⟩ := g
  refine ⟨_, pss_cons (ps_expr (z_tinit (by rfl) C_t_ThrowError (pa_cons (pv 0) (pa_cons (pe_joined (PJ.cons pe_str (PJ.cons (pe_fmt (z_callC C_f_shown hr passN (pa_cons (pv 1) pa_nil))) PJ.nil))) pa_nil))))
    (pss_one (ps_ost (pv 0) (pv 1))), ?_⟩
  try dsimp only [cxOf]
  walk_at "rd"
  refine i_js1 (by decide +kernel) ?_
  walk_at "rd"
  refine ⟨rfl, n, rfl, hz, fun y hy => ?_⟩
  refine i_fmtS (Nat.le_trans hy (by decide)) ?_
  refine i_js1 ?_ ?_
  · rw [Str.length_append, Str.length_append]
    have e : (Str.ofString "bad number: ").length = 12 := by decide +kernel
    have e0 : Str.empty.length = 0 := by decide +kernel
    rw [e, e0, sizeLine_eq]
    omega
  walk_at "rd"
  refine i_tve1 C_ox_BadNumber ha (by show 1 ≤ 1000; decide) ?_
  walk_at "rd"
  refine i_ost1 C_ox_BadNumber C_xn_BadNumber_n ha fun dx hd hn => ?_
  exact k dx H hd hn (Same.refl _) hd
abbrev s_BadName___init__ : Stmt := inClass (top 6) 0
theorem sc_BadName___init__ : FnScope ["self", "name"] ["self", "name"] (defScope s_BadName___init__) := ⟨rfl, rfl, rfl, by decide +kernel, rfl, by decide +kernel, by decide +kernel⟩
theorem ok_BadName___init__ {P : Program} {w : World} {K : PySem.W.Frag} {mg : Str → Option Value} {base : Heap} {CN : Addr} {f : Addr} {fd : FuncData} (F : L2.Fun K "__init__" "BadName.__init__" s_BadName___init__ f fd)
    (C_ox_BadName : OexC K CN)
    (C_t_ThrowError : CalT K mg "ThrowError")
    (C_xn_BadName_name : PySem.W.findIn K (.ref CN) "name" = some none) :
    FnOk P w K mg base (L2.CX P w) 1 f fd ["self", "name"] (spX1 K CN "name" GStW) := by
  refine fnOk_mk F sc_BadName___init__ (fun vs H Q E h => h.1) (fun cdv A outer s H vs Q E hr h => ?_)
  obtain ⟨_, a, v, rfl, ha, g, k⟩ := h
  obtain ⟨z, rfl, hz⟩ := g
  refine ⟨_, pss_cons (ps_expr (z_tinit (by rfl) C_t_ThrowError (pa_cons (pv 0) (pa_cons (pe_joined (PJ.cons pe_str (PJ.cons (pe_fmtR (pv 1)) PJ.nil))) pa_nil))))
    (pss_one (ps_ost (pv 0) (pv 1))), ?_⟩
  try dsimp only [cxOf]
  walk_at "rd"
  refine i_js1 (by decide +kernel) ?_
  walk_at "rd"
  refine i_fmtRSW hz ?_
  refine i_js1 ?_ ?_
  · rw [Str.length_append, Str.length_append]
    have e : (Str.ofString "bad name: ").length = 10 := by decide +kernel
    have e0 : Str.empty.length = 0 := by decide +kernel
    have hz' : (reprText z).length ≤ 400000 := hz
    rw [e, e0, sizeLine_eq]
    omega
  walk_at "rd"
  refine i_tve1 C_ox_BadName ha (by show 1 ≤ 1000; decide) ?_
  walk_at "rd"
  refine i_ost1 C_ox_BadName C_xn_BadName_name ha fun dx hd hn => ?_
  exact k dx H hd hn (Same.refl _) hd
abbrev s_DuplicateName___init__ : Stmt := inClass (top 7) 0
theorem sc_DuplicateName___init__ : FnScope ["self", "name"] ["self", "name"] (defScope s_DuplicateName___init__) := ⟨rfl, rfl, rfl, by decide +kernel, rfl, by decide +kernel, by decide +kernel⟩
theorem ok_DuplicateName___init__ {P : Program} {w : World} {K : PySem.W.Frag} {mg : Str → Option Value} {base : Heap} {CD : Addr} {f : Addr} {fd : FuncData} (F : L2.Fun K "__init__" "DuplicateName.__init__" s_DuplicateName___init__ f fd)
    (C_ox_DuplicateName : OexC K CD)
    (C_t_ThrowError : CalT K mg "ThrowError")
    (C_xn_DuplicateName_name : PySem.W.findIn K (.ref CD) "name" = some none) :
    FnOk P w K mg base (L2.CX P w) 1 f fd ["self", "name"] (spX1 K CD "name" GStW) := by
  refine fnOk_mk F sc_DuplicateName___init__ (fun vs H Q E h => h.1) (fun cdv A outer s H vs Q E hr h => ?_)
  obtain ⟨_, a, v, rfl, ha, g, k⟩ := h
  obtain ⟨z, rfl, hz⟩ := g
  refine ⟨_, pss_cons (ps_expr (z_tinit (by rfl) C_t_ThrowError (pa_cons (pv 0) (pa_cons (pe_joined (PJ.cons pe_str (PJ.cons (pe_fmtR (pv 1)) PJ.nil))) pa_nil))))
    (pss_one (ps_ost (pv 0) (pv 1))), ?_⟩
  try dsimp only [cxOf]
  walk_at "rd"
  refine i_js1 (by decide +kernel) ?_
  walk_at "rd"
  refine i_fmtRSW hz ?_
  refine i_js1 ?_ ?_
  · rw [Str.length_append, Str.length_append]
    have e : (Str.ofString "name comes again: ").length = 18 := by decide +kernel
    have e0 : Str.empty.length = 0 := by decide +kernel
    have hz' : (reprText z).length ≤ 400000 := hz
    rw [e, e0, sizeLine_eq]
    omega
  walk_at "rd"
  refine i_tve1 C_ox_DuplicateName ha (by show 1 ≤ 1000; decide) ?_
  walk_at "rd"
  refine i_ost1 C_ox_DuplicateName C_xn_DuplicateName_name ha fun dx hd hn => ?_
  exact k dx H hd hn (Same.refl _) hd
abbrev s_UnknownName___init__ : Stmt := inClass (top 8) 0
theorem sc_UnknownName___init__ : FnScope ["self", "name"] ["self", "name"] (defScope s_UnknownName___init__) := ⟨rfl, rfl, rfl, by decide +kernel, rfl, by decide +kernel, by decide +kernel⟩
theorem ok_UnknownName___init__ {P : Program} {w : World} {K : PySem.W.Frag} {mg : Str → Option Value} {base : Heap} {CU : Addr} {f : Addr} {fd : FuncData} (F : L2.Fun K "__init__" "UnknownName.__init__" s_UnknownName___init__ f fd)
    (C_ox_UnknownName : OexC K CU)
    (C_t_ThrowError : CalT K mg "ThrowError")
    (C_xn_UnknownName_name : PySem.W.findIn K (.ref CU) "name" = some none) :
    FnOk P w K mg base (L2.CX P w) 1 f fd ["self", "name"] (spX1 K CU "name" GStW) := by
  refine fnOk_mk F sc_UnknownName___init__ (fun vs H Q E h => h.1) (fun cdv A outer s H vs Q E hr h => ?_)
  obtain ⟨_, a, v, rfl, ha, g, k⟩ := h
  obtain ⟨z, rfl, hz⟩ := g
  refine ⟨_, pss_cons (ps_expr (z_tinit (by rfl) C_t_ThrowError (pa_cons (pv 0) (pa_cons (pe_joined (PJ.cons pe_str (PJ.cons (pe_fmtR (pv 1)) PJ.nil))) pa_nil))))
    (pss_one (ps_ost (pv 0) (pv 1))), ?_⟩
  try dsimp only [cxOf]
  walk_at "rd"
  refine i_js1 (by decide +kernel) ?_
  walk_at "rd"
  refine i_fmtRSW hz ?_
  refine i_js1 ?_ ?_
  · rw [Str.length_append, Str.length_append]
    have e : (Str.ofString "unknown name: ").length = 14 := by decide +kernel
    have e0 : Str.empty.length = 0 := by decide +kernel
    have hz' : (reprText z).length ≤ 400000 := hz
    rw [e, e0, sizeLine_eq]
    omega
  walk_at "rd"
  refine i_tve1 C_ox_UnknownName ha (by show 1 ≤ 1000; decide) ?_
  walk_at "rd"
  refine i_ost1 C_ox_UnknownName C_xn_UnknownName_name ha fun dx hd hn => ?_
  exact k dx H hd hn (Same.refl _) hd
def spXR (K : PySem.W.Frag) (C : Addr) : Sp := fun vs H Q _ => vs.length = 2 ∧ ∃ (a b : Addr) (zs : List Str), vs = [.ref a, .ref b] ∧ H a = some (exo a C none) ∧ zs ≠ [] ∧ SqL K H b (zs.map V.str) ∧ (∀ z ∈ zs, nameB z = true) ∧ zs.length ≤ 64 ∧
  ∀ q dx H1, H q = none → H dx = none → dx ≠ a → q ≠ a → Same H H1 → H1 q = some (.lst (zs.map V.str)) → H1 dx = none → Q .non (upd (upd H1 dx (exd dx [("names", .ref q)])) a (exo a C (some dx)))
theorem i_mkXR {K : PySem.W.Frag} {C b : Addr} {zs : List Str} {H : Hp} {Q : XK} (n0 : zs ≠ []) (s : SqL K H b (zs.map V.str)) (hn : ∀ z ∈ zs, nameB z = true) (hl : zs.length ≤ 64)
    (h : ∀ d q H', H d = none → Same H H' → H' d = some (.xd [("names", .ref q)]) → H' q = some (.lst (zs.map V.str)) → Q (.ref C) (some d) H') : rMkO C (spXR K C) [.ref b] H Q := by
  refine ⟨by show 1 ≤ 1000; decide, fun a ha => ?_⟩
  have s0 : Same H (upd H a (exo a C none)) := fun b o e => by rw [upd_ne (ne_of_none e ha)]; exact e
  refine ⟨rfl, a, b, zs, rfl, upd_same, n0, s0.seq s, hn, hl, fun q dx H1 hq hd hne hqa sm eq hd1 => ?_⟩
  have hdH : H dx = none := by rw [upd_ne hne] at hd; exact hd
  have dq : q ≠ dx := fun z => by rw [z, hd1] at eq; cases eq
  refine ⟨rfl, dx, [("names", .ref q)], upd_same, by rw [upd_ne hne, upd_same], hdH, h dx q _ hdH (fun b o e => ?_) upd_same ?_⟩
  · have nb : b ≠ dx := ne_of_none e hdH
    have na : b ≠ a := ne_of_none e ha
    rw [upd_ne nb, del_ne na, upd_ne na, upd_ne nb]
    exact sm b o (s0 b o e)
  · rw [upd_ne dq, del_ne hqa, upd_ne hqa, upd_ne dq]
    exact eq
theorem cost_names : ∀ zs : List Str, (∀ z ∈ zs, z.length ≤ 8) → fmtCost zs ≤ zs.length * 84
  | [], _ => Nat.zero_le _
  | z :: zs, h => by
    have ih := cost_names zs fun w hw => h w (List.mem_cons_of_mem _ hw)
    have := h z List.mem_cons_self
    rw [fmtCost_cons, List.length_cons, Nat.succ_mul]
    omega
theorem name_chars {z : Str} (h : nameB z = true) : ∀ c ∈ z.cps.toList, c < 16 ^ 8 := by
  unfold nameB nameL at h
  rw [Bool.and_eq_true, Bool.and_eq_true] at h
  intro c hc
  have := List.all_eq_true.mp h.2.2 c hc
  unfold let_ ZS.dig at this
  simp at this
  omega
abbrev s_Ring___init__ : Stmt := inClass (top 9) 0
theorem sc_Ring___init__ : FnScope ["self", "names"] ["self", "names"] (defScope s_Ring___init__) := ⟨rfl, rfl, rfl, by decide +kernel, rfl, by decide +kernel, by decide +kernel⟩
theorem ok_Ring___init__ {P : Program} {w : World} {K : PySem.W.Frag} {mg : Str → Option Value} {base : Heap} {CG : Addr} {f : Addr} {fd : FuncData} (F : L2.Fun K "__init__" "Ring.__init__" s_Ring___init__ f fd)
    (C_b_list : mg "list" = none)
    (C_ox_Ring : OexC K CG)
    (C_t_ThrowError : CalT K mg "ThrowError")
    (C_xf_Ring : XfC K CG)
    (C_xn_Ring_names : PySem.W.findIn K (.ref CG) "names" = some none) :
    FnOk P w K mg base (L2.CX P w) 1 f fd ["self", "names"] (spXR K CG) := by
  refine fnOk_mk F sc_Ring___init__ (fun vs H Q E h => h.1) (fun cdv A outer s H vs Q E hr h => ?_)
  obtain ⟨_, a, b, zs, rfl, ha, n0, hs, hn, hl, k⟩ := h
  have hcost := cost_names zs fun z hz => nameB_len (hn z hz)
  refine ⟨_, pss_cons (ps_ost (pv 0) (pe_callTy (k_listA (K := K) rfl) (by rfl) C_b_list (by decide +kernel) (pa_cons (pv 1) pa_nil)))
    (pss_one (ps_expr (z_tinitD (by rfl) C_t_ThrowError (pa_cons (pv 0) (pa_cons (pe_joined (PJ.cons pe_str (PJ.cons (pe_fmtL hr (pe_xat (pv 0))) PJ.nil))) pa_nil))))), ?_⟩
  try dsimp only [cxOf]
  walk_at "rd"
  refine i_listA (.inl hs) fun q H1 hq s1 e1 o1 => ?_
  have qa : q ≠ a := fun z => by rw [z, ha] at hq; cases hq
  walk_at "rd"
  refine i_ost1 C_ox_Ring C_xn_Ring_names (s1 _ _ ha) fun dx hd hn2 => ?_
  have qd : q ≠ dx := fun z => by rw [z, hd] at e1; cases e1
  walk_at "rd"
  refine i_js1 (by decide +kernel) ?_
  walk_at "rd"
  refine i_xat1 C_xf_Ring C_xn_Ring_names upd_same (by rw [upd_ne hn2, upd_same]) ?_
  obtain ⟨y, l, rfl⟩ : ∃ y l, zs = y :: l := by
    cases zs with
    | nil => exact absurd rfl n0
    | cons y l => exact ⟨y, l, rfl⟩
  refine ⟨q, y, l, rfl, .of (by rw [upd_ne qa, upd_ne qd]; exact e1), fun z hz => name_chars (hn z hz), by rw [sizeLine_eq]; omega, fun m hm => ?_⟩
  refine i_js1 ?_ ?_
  · rw [Str.length_append, Str.length_append]
    have e : (Str.ofString "below each other: ").length = 18 := by decide +kernel
    have e0 : Str.empty.length = 0 := by decide +kernel
    rw [e, e0, sizeLine_eq]
    omega
  walk_at "rd"
  refine i_tvd1 C_ox_Ring upd_same (by show 1 ≤ 1000; decide) ?_
  walk_at "rd"
  refine k q dx H1 hq ?_ hn2 qa s1 e1 hd
  cases z : H dx with
  | none => rfl
  | some o => rw [s1 _ _ z] at hd; cases hd
abbrev s_BadText___init__ : Stmt := inClass (top 5) 0
theorem sc_BadText___init__ : FnScope ["self", "at"] ["self", "at"] (defScope s_BadText___init__) := ⟨rfl, rfl, rfl, by decide +kernel, rfl, by decide +kernel, by decide +kernel⟩
theorem ok_BadText___init__ {P : Program} {w : World} {K : PySem.W.Frag} {mg : Str → Option Value} {base : Heap} {CX : Addr} {f : Addr} {fd : FuncData} (F : L2.Fun K "__init__" "BadText.__init__" s_BadText___init__ f fd)
    (C_f_shown : Cal P w K mg base "_shown" 1 spShown)
    (C_ox_BadText : OexC K CX)
    (C_t_ThrowError : CalT K mg "ThrowError")
    (C_xn_BadText_at : PySem.W.findIn K (.ref CX) "at" = some none) :
    FnOk P w K mg base (L2.CX P w) 2 f fd ["self", "at"] (spX1 K CX "at" GInt) := by
  refine fnOk_mk F sc_BadText___init__ (fun vs H Q E h => h.1) (fun cdv A outer s H vs Q E hr h => ?_)
  obtain ⟨_, a, v, rfl, ha, g, k⟩ := h
  obtain ⟨n, rfl, hz⟩ := g
  refine ⟨_, pss_cons (ps_expr (z_tinit (by rfl) C_t_ThrowError (pa_cons (pv 0) (pa_cons (pe_joined (PJ.cons pe_str (PJ.cons (pe_fmt (z_callC C_f_shown hr passN (pa_cons (pv 1) pa_nil))) PJ.nil))) pa_nil))))
    (pss_one (ps_ost (pv 0) (pv 1))), ?_⟩
  try dsimp only [cxOf]
  walk_at "rd"
  refine i_js1 (by decide +kernel) ?_
  walk_at "rd"
  refine ⟨rfl, n, rfl, hz, fun y hy => ?_⟩
  refine i_fmtS (Nat.le_trans hy (by decide)) ?_
  refine i_js1 ?_ ?_
  · rw [Str.length_append, Str.length_append]
    have e : (Str.ofString "bad text at ").length = 12 := by decide +kernel
    have e0 : Str.empty.length = 0 := by decide +kernel
    rw [e, e0, sizeLine_eq]
    omega
  walk_at "rd"
  refine i_tve1 C_ox_BadText ha (by show 1 ≤ 1000; decide) ?_
  walk_at "rd"
  refine i_ost1 C_ox_BadText C_xn_BadText_at ha fun dx hd hn => ?_
  exact k dx H hd hn (Same.refl _) hd
theorem let_mem (c : Nat) : decide (c ∈ (Str.ofString "abcdefghijklmnopqrstuvwxyz").cps.toList) = let_ c := by
  have e : (Str.ofString "abcdefghijklmnopqrstuvwxyz").cps.toList = [97, 98, 99, 100, 101, 102, 103, 104, 105, 106, 107, 108, 109, 110, 111, 112, 113, 114, 115, 116, 117, 118, 119, 120, 121, 122] := by decide +kernel
  rw [e]
  unfold let_
  refine decide_eq_decide.mpr ?_
  simp
  omega
theorem dig_mem (c : Nat) : decide (c ∈ (Str.ofString "0123456789").cps.toList) = ZS.dig c := by
  have e : (Str.ofString "0123456789").cps.toList = [48, 49, 50, 51, 52, 53, 54, 55, 56, 57] := by decide +kernel
  rw [e]
  unfold ZS.dig
  refine decide_eq_decide.mpr ?_
  simp
  omega
theorem i_all {K : PySem.W.Frag} {D : Addr} {H : Hp} {Q : VK} {bs : List Bool} (e : H D = some (.lst (bs.map V.bl))) (h : Q (.bl (bs.all id)) H) : rAll K [.ref D] H Q := ⟨D, bs, rfl, SqL.of e, h⟩
theorem i_any {K : PySem.W.Frag} {D : Addr} {H : Hp} {Q : VK} {bs : List Bool} (e : H D = some (.lst (bs.map V.bl))) (h : Q (.bl (bs.any id)) H) : rAny K [.ref D] H Q := ⟨D, bs, rfl, SqL.of e, h⟩
theorem take_map {α β : Type} {l : List α} {f : α → β} {i : Nat} {c : α} (hc : l[i]? = some c) : (l.take (i + 1)).map f = (l.take i).map f ++ [f c] := by
  rw [List.take_add_one, hc, List.map_append]
  rfl
abbrev s_is_name : Stmt := top 14
theorem sc_is_name : FnScope ["text", "sign"] ["text"] (defScope s_is_name) := ⟨rfl, rfl, rfl, by decide +kernel, rfl, by decide +kernel, by decide +kernel⟩
theorem ok_is_name {P : Program} {w : World} {K : PySem.W.Frag} {mg : Str → Option Value} {base : Heap} {tk_DIGITS : Tok} {tk_LETTERS : Tok} {tk_MOST_SIGNS : Tok} {f : Addr} {fd : FuncData} (F : L2.Fun K "is_name" "is_name" s_is_name f fd)
    (C_b_all : mg "all" = none)
    (C_b_len : mg "len" = none)
    (C_n_DIGITS : mg "DIGITS" = some (.str "0123456789" tk_DIGITS))
    (C_n_LETTERS : mg "LETTERS" = some (.str "abcdefghijklmnopqrstuvwxyz" tk_LETTERS))
    (C_n_MOST_SIGNS : mg "MOST_SIGNS" = some (.int 8 tk_MOST_SIGNS)) :
    FnOk P w K mg base (L2.CX P w) 1 f fd ["text"] spIsName := by
  refine fnOk_mk F sc_is_name (fun vs H Q E h => h.1) (fun cdv A outer s H vs Q E hr h => ?_)
  obtain ⟨_, z, rfl, hz, k⟩ := h
  have hl := TL.len_tl z
  refine ⟨_, pss_cons (ps_if (pt_not (pt_chain op_le op_le pe_int (pe_callB call_len_str (by rfl) C_b_len (by decide +kernel) (pa_cons (pv 0) pa_nil)) ((pe_glob (v := .int 8) rfl C_n_MOST_SIGNS ⟨_, rfl⟩)))) (pss_one (ps_ret pe_bl)) (pss_nil))
    (pss_one (ps_ret (pe_and (pe_cmpR op_in_sign (pe_ix ix_str (pv 0) pe_int (fun _ _ => rfl)) ((pe_glob (v := .str "abcdefghijklmnopqrstuvwxyz") rfl C_n_LETTERS ⟨_, rfl⟩)) rfl) (pe_one (pe_callB (k_all rfl (K := K) rfl) (by rfl) C_b_all (by decide +kernel) (pa_cons (pe_lc (own := [("sign", 1)]) (by rfl) sc_is_name.nd (pi_str (pv 0)) (blkOk_by (N := ["text", "sign"]) (sc := defScope s_is_name) (by decide +kernel)) (fun _ _ _ _ _ => pg_name (i := 1) sc_is_name.nd rfl (Or.inl rfl)) (fun _ _ _ _ _ => pts_nil) (fun _ _ _ _ _ => pe_or (pe_cmpR op_in_sign (pv 1) ((pe_glob (v := .str "abcdefghijklmnopqrstuvwxyz") rfl C_n_LETTERS ⟨_, rfl⟩)) rfl) (pe_one (pe_cmpR op_in_sign (pv 1) ((pe_glob (v := .str "0123456789") rfl C_n_DIGITS ⟨_, rfl⟩)) rfl)))) pa_nil)))))), ?_⟩
  try dsimp only [cxOf]
  walk_at "rd"
  refine ⟨z, rfl, Nat.le_trans hz (by decide), ?_⟩
  walk_at "rb"
  have out : ∀ {b : Bool}, nameB z = b → Q (.bl b) H := fun e => e ▸ k H (Same.refl _)
  refine i_dec (fun e1 => ?_) (fun e1 => ?_)
  · walk_at "rd"
    refine i_ndec (fun e2 => ?_) (fun e2 => ?_)
    · walk_at "rd"
      refine out ?_
      unfold nameB nameL
      rw [decide_eq_false (by omega)]
      rfl
    · walk_at "rd"
      obtain ⟨c, r, ez⟩ : ∃ c r, TL.tl z = c :: r := by
        cases e : TL.tl z with
        | nil =>
          rw [e] at hl
          simp at hl
          omega
        | cons c r => exact ⟨c, r, rfl⟩
      refine i_ixS0 hz ez ?_
      walk_at "rd"
      refine ⟨c, _, rfl, rfl, ?_⟩
      rw [let_mem]
      have hlen : decide (1 ≤ (TL.tl z).length ∧ (TL.tl z).length ≤ 8) = true := decide_eq_true (by omega)
      refine ⟨_, rfl, ?_⟩
      refine i_bool (fun e3 => ?_) (fun e3 => ?_)
      · walk_at "rd"
        refine i_lcS (fun i ys H' => Same H H' ∧ ys = (((TL.tl z).take i).map fun c => let_ c || ZS.dig c).map V.bl) (fun D H' hD s e' ho => ⟨s, rfl⟩) ?_ ?_
        · rintro i c2 D ys H1 hD hc eD ⟨s1, rfl⟩
          walk_at "rd"
          refine ⟨by with_unfolding_all rfl, ?_⟩
          walk_at "rd"
          refine ⟨c2, _, rfl, rfl, ?_⟩
          rw [let_mem]
          have fin : ∀ b, b = (let_ c2 || ZS.dig c2) → rLcE D (fun i ys H' => Same H H' ∧ ys = (((TL.tl z).take i).map fun c => let_ c || ZS.dig c).map V.bl) i (V.bl b) H1 := by
            rintro b rfl
            refine i_lcE eD ?_ fun H2 e2 ho => ⟨?_, ?_⟩
            · have := (List.getElem?_eq_some_iff.mp hc).1
              simp
              omega
            · intro b o e
              exact (ho b (ne_of_none e hD)).trans (s1 _ _ e)
            · rw [take_map hc, List.map_append]
              rfl
          refine ⟨_, rfl, ?_⟩
          refine i_bool (fun e4 => ?_) (fun e4 => ?_)
          · exact fin _ (by rw [e4]; rfl)
          · walk_at "rd"
            refine ⟨c2, _, rfl, rfl, ?_⟩
            rw [dig_mem]
            exact fin _ (by rw [e4]; rfl)
        · rintro D ys H1 hD eD ⟨s1, rfl⟩
          walk_at "rd"
          refine i_all eD ?_
          have ep : (((TL.tl z).take (TL.tl z).length).map fun c => let_ c || ZS.dig c).all id = nameB z := by
            rw [List.take_length]
            unfold nameB nameL
            rw [hlen, ez]
            simp [List.all_map, Function.comp_def, e3]
          rw [ep]
          exact k H1 s1
      · refine out ?_
        unfold nameB nameL
        rw [hlen, ez]
        simp [e3]
  · walk_at "rd"
    refine out ?_
    unfold nameB nameL
    rw [decide_eq_false (by omega)]
    rfl
theorem strs_at {N : List Str} {i : Nat} {x : V} (h : (N.map V.str)[i]? = some x) : ∃ n, N[i]? = some n ∧ x = V.str n := by
  rw [List.getElem?_map] at h
  cases e : N[i]? with
  | none => rw [e] at h; cases h
  | some n => rw [e] at h; exact ⟨n, rfl, (Option.some.inj h).symm⟩
theorem take_snoc {α : Type} {N : List α} {i : Nat} {n : α} (h : N[i]? = some n) : N.take (i + 1) = N.take i ++ [n] := by rw [List.take_add_one, h]; rfl
theorem nodup_take {N : List Str} (hN : N.Nodup) {i : Nat} {n : Str} (h : N[i]? = some n) : ¬ n ∈ N.take i := fun hm => by
  obtain ⟨lt, e2⟩ := List.getElem?_eq_some_iff.mp h
  obtain ⟨j, hj, e⟩ := List.mem_iff_getElem.mp hm
  rw [List.length_take] at hj
  rw [List.getElem_take] at e
  have := (List.getElem_inj hN).mp (e.trans e2.symm)
  omega

/-- the first fault of names: no name (false), or one that came (true) -/
def nmF : List Str → List Str → Option (Bool × Str)
  | _, [] => none
  | seen, z :: zs => if nameB z = false then some (false, z) else if z ∈ seen then some (true, z) else nmF (seen ++ [z]) zs
theorem nmF_cons {seen zs : List Str} {z : Str} : nmF seen (z :: zs) = if nameB z = false then some (false, z) else if z ∈ seen then some (true, z) else nmF (seen ++ [z]) zs := rfl
theorem nmF_none : ∀ (zs seen : List Str), nmF seen zs = none → seen.Nodup → (∀ z ∈ zs, nameB z = true) ∧ (seen ++ zs).Nodup
  | [], seen, _, h => ⟨fun z hz => absurd hz (by simp), by simpa using h⟩
  | z :: zs, seen, h, hs => by
    unfold nmF at h
    split at h
    · cases h
    · rename_i h1
      split at h
      · cases h
      · rename_i h2
        have hs2 : (seen ++ [z]).Nodup := List.nodup_append.mpr ⟨hs, by simp, fun x hx y hy e => h2 (by rw [← List.mem_singleton.mp hy, ← e]; exact hx)⟩
        obtain ⟨a, b⟩ := nmF_none zs (seen ++ [z]) h hs2
        refine ⟨fun w hw => ?_, by simpa using b⟩
        rcases List.mem_cons.mp hw with rfl | hw
        · simpa using h1
        · exact a w hw
def spCheckG (K : PySem.W.Frag) (CN CD : Addr) : Sp := fun vs H Q E => vs.length = 1 ∧ ∃ (a : Addr) (zs : List Str), vs = [.ref a] ∧ SqA K H a (zs.map V.str) ∧ zs.length ≤ 30000 ∧ (∀ z ∈ zs, z.length ≤ 100000) ∧
  (∀ b z, nmF [] zs = some (b, z) → RW z ∧ EName (if b then CD else CN) z H E) ∧ (nmF [] zs = none → ∀ H', Same H H' → Q .non H')
abbrev s_check_names : Stmt := top 15
theorem sc_check_names : FnScope ["names", "at", "name"] ["names"] (defScope s_check_names) := ⟨rfl, rfl, rfl, by decide +kernel, rfl, by decide +kernel, by decide +kernel⟩
theorem ok_check_names {P : Program} {w : World} {K : PySem.W.Frag} {mg : Str → Option Value} {base : Heap} {CD CN : Addr} {f : Addr} {fd : FuncData} (F : L2.Fun K "check_names" "check_names" s_check_names f fd)
    (C_b_enumerate : mg "enumerate" = none)
    (C_f_is_name : Cal P w K mg base "is_name" 1 spIsName)
    (C_x_BadName : CalX P w K mg base "BadName" CN 1 ["self", "name"] (spX1 K CN "name" GStW))
    (C_x_DuplicateName : CalX P w K mg base "DuplicateName" CD 1 ["self", "name"] (spX1 K CD "name" GStW)) :
    FnOk P w K mg base (L2.CX P w) 3 f fd ["names"] (spCheckG K CN CD) := by
  refine fnOk_mk F sc_check_names (fun vs H Q E h => h.1) (fun cdv A outer s H vs Q E hr h => ?_)
  obtain ⟨_, a, zs, rfl, hs, hl, hlen, kx, k⟩ := h
  refine ⟨_, pss_one (ps_for (passes_of rfl) rfl (pi_enA (K := K) rfl (by rfl) C_b_enumerate (pa_cons (pv 0) pa_nil)) (k_tup (K := K) (n := 2) rfl rfl (pgs_cons (pg_name (i := 1) sc_check_names.nd rfl (Or.inl rfl)) (pgs_cons (pg_name (i := 2) sc_check_names.nd rfl (Or.inl rfl)) pgs_nil))) (pss_cons (ps_if (pt_not (pt_val (z_callC C_f_is_name hr passN (pa_cons (pv 2) pa_nil)))) (pss_one (ps_raise rfl (takes_of rfl rfl rfl rfl) (z_mkX C_x_BadName hr (pa_cons (pv 2) pa_nil)))) (pss_nil))
    (pss_one (ps_if (pt_cmpR (k_inS (K := K) rfl) (pv 2) (pe_slice (k_slA (K := K) rfl) (pv 0) po_none (po_some (pv 1))) rfl) (pss_one (ps_raise rfl (takes_of rfl rfl rfl rfl) (z_mkX C_x_DuplicateName hr (pa_cons (pv 2) pa_nil)))) (pss_nil))))), ?_⟩
  try dsimp only [cxOf]
  walk_at "rd"
  refine i_enA (fun i σ H1 => (∃ x y, σ = [some (.ref a), x, y]) ∧ Same H H1 ∧ nmF (zs.take i) (zs.drop i) = nmF [] zs) hs ⟨⟨_, _, rfl⟩, Same.refl _, rfl⟩ (fun i σ H1 p => p.2.1) ?_ ?_
  · rintro i x T σ H1 H2 hx ⟨⟨u, v, rfl⟩, s1, hf⟩ hT s2 eT ho
    obtain ⟨z, hz, rfl⟩ := strs_at hx
    have s02 := s1.trans s2
    have hm : z ∈ zs := List.mem_of_getElem? hz
    have lt := (List.getElem?_eq_some_iff.mp hz).1
    have hd : zs.drop i = z :: zs.drop (i + 1) := by rw [List.drop_eq_getElem_cons lt, (List.getElem?_eq_some_iff.mp hz).2]
    rw [hd, nmF_cons] at hf
    refine i_gtup (SqT.of eT) rfl ?_
    walk_at "rd"
    refine i_isName (hlen z hm) fun H3 s3 => ?_
    walk_at "rd"
    have s03 := s02.trans s3
    cases hb : nameB z
    · rw [if_pos hb] at hf
      walk_at "rd"
      obtain ⟨rb, kx⟩ := kx false z hf.symm
      exact i_mkX1 (fun H' s => ⟨z, rfl, rb⟩) fun d H' hd s e' => kx d H' (s03.trans s) e'
    · rw [if_neg (by rw [hb]; decide)] at hf
      walk_at "rd"
      refine i_slTo (sameA s03 hs) (by rw [List.length_map]; exact lt) fun q H4 hq s4 e4 ho4 => ?_
      rw [← List.map_take] at e4
      refine i_inS e4 ?_
      walk_at "rd"
      have s04 := s03.trans s4
      refine i_dec (fun g => ?_) (fun g => ?_)
      · rw [if_pos g] at hf
        walk_at "rd"
        obtain ⟨rb, kx⟩ := kx true z hf.symm
        exact i_mkX1 (fun H' s => ⟨z, rfl, rb⟩) fun d H' hd s e' => kx d H' (s04.trans s) e'
      · rw [if_neg g] at hf
        walk_at "rd"
        exact ⟨⟨_, _, rfl⟩, s04, by rw [take_snoc hz]; exact hf⟩
  · rintro σ H1 ⟨⟨u, v, rfl⟩, s1, hf⟩
    rw [List.length_map, List.drop_length] at hf
    exact k hf.symm H1 s1
abbrev s_check_among : Stmt := top 16
theorem sc_check_among : FnScope ["known", "names", "name"] ["known", "names"] (defScope s_check_among) := ⟨rfl, rfl, rfl, by decide +kernel, rfl, by decide +kernel, by decide +kernel⟩
theorem ok_check_among {P : Program} {w : World} {K : PySem.W.Frag} {mg : Str → Option Value} {base : Heap} {CU : Addr} {f : Addr} {fd : FuncData} (F : L2.Fun K "check_among" "check_among" s_check_among f fd)
    (C_x_UnknownName : CalX P w K mg base "UnknownName" CU 1 ["self", "name"] (spX1 K CU "name" GStW)) :
    FnOk P w K mg base (L2.CX P w) 3 f fd ["known", "names"] (spAmW K CU) := by
  refine fnOk_mk F sc_check_among (fun vs H Q E h => h.1) (fun cdv A outer s H vs Q E hr h => ?_)
  obtain ⟨_, a, b, ks, zs, rfl, ha, hb, kx, k⟩ := h
  refine ⟨_, pss_one (ps_for (passes_of rfl) rfl (pi_any (K := K) rfl (pv 1)) (pg_name (i := 2) sc_check_among.nd rfl (Or.inl rfl)) (pss_one (ps_if (pt_cmpR (k_notInS (K := K) rfl) (pv 2) (pv 0) rfl) (pss_one (ps_raise rfl (takes_of rfl rfl rfl rfl) (z_mkX C_x_UnknownName hr (pa_cons (pv 2) pa_nil)))) (pss_nil)))), ?_⟩
  try dsimp only [cxOf]
  walk_at "rd"
  refine i_forA (fun i σ H1 => (∃ x, σ = [some (.ref a), some (.ref b), x]) ∧ Same H H1 ∧ ∀ z ∈ zs.take i, z ∈ ks) hb ⟨⟨_, rfl⟩, Same.refl _, fun z h => by simp at h⟩ (fun i σ H1 p => p.2.1) ?_ ?_
  · rintro i x σ H1 hx ⟨⟨u, rfl⟩, s1, hin⟩
    rw [List.getElem?_map] at hx
    obtain ⟨z, hz, rfl⟩ : ∃ z, zs[i]? = some z ∧ V.str z = x := by
      cases h : zs[i]? with
      | none => rw [h] at hx; cases hx
      | some z => rw [h] at hx; exact ⟨z, rfl, Option.some.inj hx⟩
    have tk : zs.take (i + 1) = zs.take i ++ [z] := by rw [List.take_add_one, hz]; rfl
    walk_at "rd"
    refine i_notInS (sameA s1 ha) ?_
    walk_at "rd"
    refine i_ndec (fun e => ?_) (fun e => ?_)
    · walk_at "rd"
      have hm : miss ks zs = some z := by
        unfold miss
        have ez : zs = zs.take i ++ z :: zs.drop (i + 1) := by
          have := (List.take_append_drop i zs).symm
          rw [List.drop_eq_getElem_cons (List.getElem?_eq_some_iff.mp hz).1, (List.getElem?_eq_some_iff.mp hz).2] at this
          exact this
        rw [ez, List.find?_append, List.find?_eq_none.mpr (fun x hx => by simp [hin x hx])]
        simp [e]
      obtain ⟨rb, kx⟩ := kx z hm
      exact i_mkX1 (fun H' s => ⟨z, rfl, rb⟩) fun d H' hd s e' => kx d H' (s1.trans s) e'
    · walk_at "rd"
      refine ⟨⟨_, rfl⟩, s1, fun w hw => ?_⟩
      rw [tk] at hw
      rcases List.mem_append.mp hw with hw | hw
      · exact hin w hw
      · rw [List.mem_singleton.mp hw]
        exact e
  · rintro σ H1 ⟨⟨u, rfl⟩, s1, hin⟩
    rw [List.length_map, List.take_length] at hin
    exact k (miss_none hin) H1 s1
abbrev s__closure : Stmt := top 19
theorem sc__closure : FnScope ["names", "pairs", "above", "name", "low", "high", "middle"] ["names", "pairs"] (defScope s__closure) := ⟨rfl, rfl, rfl, by decide +kernel, rfl, by decide +kernel, by decide +kernel⟩
theorem ok__closure {P : Program} {w : World} {K : PySem.W.Frag} {mg : Str → Option Value} {base : Heap} {f : Addr} {fd : FuncData} (F : L2.Fun K "_closure" "_closure" s__closure f fd)
    (C_b_sorted : mg "sorted" = none)
    (C_b_tuple : mg "tuple" = none) :
    FnOk P w K mg base (L2.CX P w) 1 f fd ["names", "pairs"] (spClosure K) := by
  refine fnOk_mk F sc__closure (fun vs H Q E h => h.1) (fun cdv A outer s H vs Q E hr h => ?_)
  obtain ⟨_, a, b, N, E', rfl, ha, ⟨ps, hb, hp⟩, hl, hN, hs, hE, k⟩ := h
  refine ⟨_, pss_cons (ps_set (i := 2) sc__closure.nd rfl (Or.inr rfl) (pe_dc (own := [("name", 3)]) (by rfl) sc__closure.nd (pi_any (K := K) rfl (pv 0)) (blkOk_by (N := ["names", "pairs", "above", "name", "low", "high", "middle"]) (sc := defScope s__closure) (by decide +kernel)) (fun _ _ _ _ _ => pg_name (i := 3) sc__closure.nd rfl (Or.inl rfl)) (fun _ _ _ _ _ => pts_nil) (fun _ _ _ _ _ => pv 3) (fun _ _ _ _ _ => pe_disp (pps_cons (pv 3) pe_bl pps_nil) (by rfl) (by rfl) (fun z => by cases z) (by decide))))
    (pss_cons (ps_for (passes_of rfl) rfl (pi_any (K := K) rfl (pv 1)) (k_tup (K := K) (n := 2) rfl rfl (pgs_cons (pg_name (i := 4) sc__closure.nd rfl (Or.inl rfl)) (pgs_cons (pg_name (i := 5) sc__closure.nd rfl (Or.inl rfl)) pgs_nil))) (pss_one (ps_dput (hu_of hr) (pe_dget (hu_of hr) (pv 2) (pv 4) (fun _ _ => rfl)) (pv 5) pe_bl (by rfl))))
    (pss_cons (ps_for (passes_of rfl) rfl (pi_any (K := K) rfl (pv 0)) (pg_name (i := 6) sc__closure.nd rfl (Or.inl rfl)) (pss_one (ps_for (passes_of rfl) rfl (pi_any (K := K) rfl (pv 0)) (pg_name (i := 3) sc__closure.nd rfl (Or.inl rfl)) (pss_one (ps_if (pt_cmp (pc_din (hu_of hr) (pv 6) (pe_dget (hu_of hr) (pv 2) (pv 3) (fun _ _ => rfl))) rfl) (pss_one (ps_dput (hu_of hr) (pv 2) (pv 3) (pe_merge2 (pe_dget (hu_of hr) (pv 2) (pv 3) (fun _ _ => rfl)) (pe_dget (hu_of hr) (pv 2) (pv 6) (fun _ _ => rfl))) (by rfl))) (pss_nil))))))
    (pss_one (ps_ret (pe_dc (own := [("name", 3)]) (by rfl) sc__closure.nd (pi_any (K := K) rfl (pv 0)) (blkOk_by (N := ["names", "pairs", "above", "name", "low", "high", "middle"]) (sc := defScope s__closure) (by decide +kernel)) (fun _ _ _ _ _ => pg_name (i := 3) sc__closure.nd rfl (Or.inl rfl)) (fun _ _ _ _ _ => pts_nil) (fun _ _ _ _ _ => pv 3) (fun _ _ _ _ _ => pe_callTy (k_tupA (K := K) rfl) (by rfl) C_b_tuple (by decide +kernel) (pa_cons (pe_callB (k_sortD rfl) (by rfl) C_b_sorted (by decide +kernel) (pa_cons (pe_dget (hu_of hr) (pv 2) (pv 3) (fun _ _ => rfl)) pa_nil)) pa_nil))))))), ?_⟩
  try dsimp only [cxOf]
  walk_at "rd"
  refine i_dcA (fun D i kvs H1 => ∃ A, CSt H D (N.take i) A (fun n => [n]) H1) ha (Same.refl _) ?_ (fun D i ys H1 ⟨A, c⟩ => c.same) ?_ ?_
  · intro D H' hD sm e ho
    exact ⟨fun _ => D, sm, hD, e, fun n hn => by simp at hn, fun n hn => by simp at hn, fun n hn => by simp at hn, fun n hn => by simp at hn, fun n hn => by simp at hn⟩
  · rintro i x D kvs H1 hD hx eD ⟨A, c⟩
    obtain ⟨n, hn, rfl⟩ := strs_at hx
    have lt := (List.getElem?_eq_some_iff.mp hn).1
    walk_at "rd"
    refine ⟨by with_unfolding_all rfl, ?_⟩
    walk_at "rd"
    refine i_disp1 (fun p H2 hp s2 e2 ho2 => ?_) (fun P P' f σ H ⟨v, e, q⟩ => ⟨v, e, f _ _ q⟩) (fun P P' f σ H q => f _ _ q)
    walk_at "rd"
    refine ⟨e2, n, rfl, fun H4 e4 ho4 => ?_⟩
    have ekv : kvs = rowsOf (N.take i) A := by
      have := c.tab.symm.trans eD
      injection this with this
      injection this with this
      exact this.symm
    subst ekv
    have pD : p ≠ D := fun z => by rw [z, eD] at hp; cases hp
    have eD4 : H4 D = some (.dK (rowsOf (N.take i) A)) := by rw [ho4 D (Ne.symm pD), ho2 D (Ne.symm pD)]; exact eD
    refine i_dcE eD4 ?_ fun H5 e5 ho5 => ?_
    · unfold rowsOf
      rw [List.length_map, List.length_take]
      omega
    · rw [take_snoc hn]
      refine ⟨setF A n p, c.snoc (p := p) (nodup_take hN hn) hp (by simp) (fun b hb => by rw [ho4 b hb, ho2 b hb]) e4 e5 ho5⟩
  · rintro D kvs H1 hD eD ⟨A, c⟩
    rw [List.length_map, List.take_length] at c
    walk_at "rd"
    -- the told pairs
    refine i_forA (fun i σ H2 => (∃ u v, σ = [some (.ref a), some (.ref b), some (.ref D), none, u, v, none]) ∧ ∃ A ks, CSt H D N A ks H2 ∧ ∀ n ∈ N, ∀ q, q ∈ ks n ↔ (n = q ∨ (n, q) ∈ E'.take i)) hb ⟨⟨_, _, rfl⟩, A, _, c, fun n hn q => by simp [eq_comm]⟩ (fun i σ H2 p => by obtain ⟨_, A, ks, c, _⟩ := p; exact c.same) ?_ ?_
    · rintro i x σ H2 hx ⟨⟨u, v, rfl⟩, A, ks, c, hk⟩
      have lt := (List.getElem?_eq_some_iff.mp hx).1
      rw [hp.1] at lt
      obtain ⟨q, rfl, eq⟩ := hp.2 i x E'[i] hx (by simp [lt])
      have hmem : E'[i] ∈ E' := List.getElem_mem lt
      obtain ⟨h1, h2⟩ := hE _ hmem
      have het : E'.take (i + 1) = E'.take i ++ [E'[i]] := take_snoc (by simp [lt])
      refine i_gtup (Same_seqT c.same eq) rfl ?_
      walk_at "rd"
      refine i_dget c.tab (rows_val h1) ?_
      walk_at "rd"
      refine i_dput (c.row _ h1) ?_ fun H3 e3 ho3 => ?_
      · rw [trues_len]
        have := nodup_len (N := N) (c.nd _ h1) fun r hr => by
          rcases (hk _ h1 r).mp hr with e | e
          · exact e ▸ h1
          · exact (hE _ (List.mem_of_mem_take e)).2
        omega
      refine ⟨⟨_, _, rfl⟩, A, _, c.put h1 e3 ho3, fun n hn r => ?_⟩
      rw [het, List.mem_append, List.mem_singleton]
      by_cases en : n = E'[i].1
      · subst en
        rw [setF_same, mem_put, hk _ h1 r]
        constructor
        · rintro ((q | q) | q)
          · exact .inl q
          · exact .inr (.inl q)
          · exact .inr (.inr (by rw [q]))
        · rintro (q | q | q)
          · exact .inl (.inl q)
          · exact .inl (.inr q)
          · exact .inr (congrArg Prod.snd q)
      · rw [setF_ne en, hk n hn r]
        constructor
        · rintro (q | q)
          · exact .inl q
          · exact .inr (.inl q)
        · rintro (q | q | q)
          · exact .inl q
          · exact .inr q
          · exact absurd (congrArg Prod.fst q) en
    · rintro σ H2 ⟨⟨u, v, rfl⟩, A, ks, c, hk⟩
      walk_at "rd"
      rw [hp.1, List.take_length] at hk
      -- Warshall's turns
      refine i_forA (fun i σ H3 => (∃ x u v y, σ = [some (.ref a), some (.ref b), some (.ref D), x, u, v, y]) ∧ ∃ A ks, CSt H D N A ks H3 ∧ ∀ n ∈ N, ∀ q, q ∈ ks n ↔ OM.wm E' (N.take i).reverse n q = true) ha
        ⟨⟨_, _, _, _, rfl⟩, A, ks, c, fun n hn q => by rw [hk n hn q, List.take_zero]; simp [OM.wm]⟩ (fun i σ H3 p => by obtain ⟨_, A, ks, c, _⟩ := p; exact c.same) ?_ ?_
      · rintro i x σ H3 hx ⟨⟨x0, u0, v0, y0, rfl⟩, A, ks, c, hk⟩
        obtain ⟨m, hm, rfl⟩ := strs_at hx
        have hmN : m ∈ N := List.mem_of_getElem? hm
        walk_at "rd"
        refine i_forA (fun j σ H4 => (∃ x u v, σ = [some (.ref a), some (.ref b), some (.ref D), x, u, v, some (.str m)]) ∧ ∃ A ks, CSt H D N A ks H4 ∧ ∀ n ∈ N, ∀ q, q ∈ ks n ↔ OM.wm E' (if n ∈ N.take j then m :: (N.take i).reverse else (N.take i).reverse) n q = true) ha
          ⟨⟨_, _, _, rfl⟩, A, ks, c, fun n hn q => by rw [hk n hn q, List.take_zero]; simp⟩ (fun i σ H4 p => by obtain ⟨_, A, ks, c, _⟩ := p; exact c.same) ?_ ?_
        · rintro j x σ H4 hx ⟨⟨x1, u1, v1, rfl⟩, A, ks, c, hk⟩
          obtain ⟨n, hn, rfl⟩ := strs_at hx
          have hnN : n ∈ N := List.mem_of_getElem? hn
          have hnt := nodup_take hN hn
          have hkn : ∀ q, q ∈ ks n ↔ OM.wm E' (N.take i).reverse n q = true := fun q => by
            have := hk n hnN q
            rw [if_neg hnt] at this
            exact this
          have hkm : ∀ q, q ∈ ks m ↔ OM.wm E' (N.take i).reverse m q = true := fun q => by
            have := hk m hmN q
            split at this
            · rw [wm_self] at this
              exact this
            · exact this
          have sub : ∀ w ∈ N, ∀ q ∈ ks w, q ∈ N := fun w hw q hq => by
            have := OM.wm_rch ((hk w hw q).mp hq)
            rcases this.mem hE with e | ⟨_, e⟩
            · exact e ▸ hw
            · exact e
          have len : ∀ w ∈ N, (trues (ks w)).length ≤ 1000 := fun w hw => by
            rw [trues_len]
            have := nodup_len (c.nd w hw) (sub w hw)
            omega
          walk_at "rd"
          refine i_dget c.tab (rows_val hnN) ?_
          walk_at "rd"
          refine i_din (c.row n hnN) trues_get ?_
          walk_at "rd"
          refine i_dec (fun e => ?_) (fun e => ?_)
          · walk_at "rd"
            refine i_mg0 fun p H5 hp5 s5 e5 ho5 => ?_
            have c5 : CSt H D N A ks H5 := c.keep fun b hb => ho5 b fun z => hb (z ▸ hp5)
            have pA : ∀ w ∈ N, p ≠ A w := fun w hw z => by rw [z, c.row w hw] at hp5; cases hp5
            have pD : p ≠ D := fun z => by rw [z, c.tab] at hp5; cases hp5
            walk_at "rd"
            refine i_dget c5.tab (rows_val hnN) ?_
            refine i_mg1 (pA n hnN) (c5.row n hnN) e5 (len n hnN) fun H6 e6 ho6 => ?_
            have e6' : H6 p = some (.dK (trues (mk [] (ks n)))) := by
              rw [e6, ← trues_merge]
              rfl
            have r6 : ∀ w ∈ N, H6 (A w) = some (.dK (trues (ks w))) := fun w hw => by
              rw [ho6 _ (Ne.symm (pA w hw))]
              exact c5.row w hw
            have t6 : H6 D = some (.dK (rowsOf N A)) := by
              rw [ho6 _ (Ne.symm pD)]
              exact c5.tab
            walk_at "rd"
            refine i_dget t6 (rows_val hmN) ?_
            refine i_mg2 (pA m hmN) (r6 m hmN) e6 (len m hmN) fun H7 e7 ho7 => ?_
            have e7' : H7 p = some (.dK (trues (mk (mk [] (ks n)) (ks m)))) := by
              rw [e7, ← trues_merge, ← trues_merge]
              rfl
            have t7 : H7 D = some (.dK (rowsOf N A)) := by
              rw [ho7 _ (Ne.symm pD)]
              exact t6
            walk_at "rd"
            refine i_dput t7 (by rw [rows_len]; omega) fun H8 e8 ho8 => ?_
            refine ⟨⟨_, _, _, rfl⟩, _, _, c.set hnN hp5 (mk_nodup _ (mk_nodup _ List.nodup_nil)) (fun b hb => by rw [ho7 b hb, ho6 b hb, ho5 b hb]) e7' e8 ho8, fun w hw q => ?_⟩
            rw [take_snoc hn]
            by_cases ew : w = n
            · subst ew
              rw [setF_same, mem_mk, mem_mk, hkn q, hkm q, if_pos (by simp)]
              have h1 := (hkn m).mp e
              simp [OM.wm, h1]
            · rw [setF_ne ew, hk w hw q]
              simp [ew]
          · walk_at "rd"
            refine ⟨⟨_, _, _, rfl⟩, A, ks, c, fun w hw q => ?_⟩
            rw [take_snoc hn]
            by_cases ew : w = n
            · subst ew
              rw [hkn q, if_pos (by simp)]
              have h1 : OM.wm E' (N.take i).reverse w m = false := by
                cases z : OM.wm E' (N.take i).reverse w m with
                | false => rfl
                | true => exact absurd ((hkn m).mpr z) e
              simp [OM.wm, h1]
            · rw [hk w hw q]
              simp [ew]
        · rintro σ H4 ⟨⟨x1, u1, v1, rfl⟩, A, ks, c, hk⟩
          rw [List.length_map, List.take_length] at hk
          walk_at "rd"
          refine ⟨⟨_, _, _, _, rfl⟩, A, ks, c, fun n hn q => ?_⟩
          have := hk n hn q
          rw [if_pos hn] at this
          rw [this, take_snoc hm, List.reverse_append]
          rfl
      · rintro σ H3 ⟨⟨x0, u0, v0, y0, rfl⟩, A, ks, c, hk⟩
        rw [List.length_map, List.take_length, OM.wm_cl (fun p hp => List.mem_reverse.mpr (hE p hp).2)] at hk
        have mem : ∀ n ∈ N, ∀ q, q ∈ ks n ↔ q ∈ N ∧ OM.cl E' n q = true := fun n hn q => by
          rw [hk n hn q]
          refine ⟨fun z => ⟨?_, z⟩, fun z => z.2⟩
          rcases (OM.cl_iff.mp z).mem hE with e | ⟨_, e⟩
          · exact e ▸ hn
          · exact e
        walk_at "rd"
        refine i_dcA (fun D2 i kvs H4 => Same H3 H4 ∧ ∃ A2, kvs = rowsOf (N.take i) A2 ∧ ∀ n ∈ N.take i, H4 (A2 n) = some (.tup ((OM.ab N (OM.cl E') n).map V.str))) ha c.same ?_ (fun D i ys H4 p => c.same.trans p.1) ?_ ?_
        · intro D2 H4 hD2 s4 e4 ho4
          exact ⟨s4, fun _ => D2, rfl, fun n hn => by simp at hn⟩
        · rintro i x D2 kvs H4 hD2 hx eD2 ⟨s4, A2, rfl, h2⟩
          obtain ⟨n, hn, rfl⟩ := strs_at hx
          have hnN : n ∈ N := List.mem_of_getElem? hn
          have lt := (List.getElem?_eq_some_iff.mp hn).1
          walk_at "rd"
          refine ⟨by with_unfolding_all rfl, ?_⟩
          walk_at "rd"
          refine i_dget (s4 _ _ c.tab) (rows_val hnN) ?_
          walk_at "rd"
          refine i_sortD (s4 _ _ (c.row n hnN)) trues_keys ?_ fun q H5 hq s5 ho5 e5 => ?_
          · have := nodup_len (c.nd n hnN) fun r hr => ((mem n hnN r).mp hr).1
            omega
          walk_at "rd"
          refine i_tupL (SqL.of e5) fun t H6 ht s6 e6 ho6 => ?_
          have eD6 : H6 D2 = some (.dK (rowsOf (N.take i) A2)) := s6 _ _ (s5 _ _ eD2)
          refine i_dcE eD6 (by rw [rows_len, List.length_take]; omega) fun H7 e7 ho7 => ⟨?_, setF A2 n t, ?_, fun w hw => ?_⟩
          · intro b o eb
            rw [ho7 b (ne_of_none eb hD2)]
            exact s6 _ _ (s5 _ _ (s4 _ _ eb))
          · rw [rows_snoc (nodup_take hN hn), take_snoc hn]
          · have tup : ∀ (c : Addr) (ys : List V), H6 c = some (.tup ys) → H7 c = some (.tup ys) := fun c ys hc => by
              rw [ho7 c (ne_of hc eD6 (fun z => nomatch z))]
              exact hc
            by_cases ew : w = n
            · subst ew
              rw [setF_same, tup _ _ e6]
              rw [srt_filter (p := OM.cl E' w) hN hs (c.nd w hnN) (mem w hnN)]
              rfl
            · rw [setF_ne ew]
              refine tup _ _ (s6 _ _ (s5 _ _ (h2 w ?_)))
              rw [take_snoc hn] at hw
              rcases List.mem_append.mp hw with h | h
              · exact h
              · exact absurd (List.mem_singleton.mp h) ew
        · rintro D2 kvs H4 hD2 eD2 ⟨s4, A2, rfl, h2⟩
          rw [List.length_map, List.take_length] at eD2 h2
          walk_at "rd"
          refine k D2 H4 ?_ (c.same.trans s4) ⟨A2, eD2, h2⟩
          cases z : H D2 with
          | none => rfl
          | some o => rw [c.same _ _ z] at hD2; cases hD2
section
variable {K : PySem.W.Frag} {CO a t d : Addr} {H : Hp} {N : List Str} {R : Str → Str → Bool}
theorem rf_names {t d : Addr} : List.lookup ("names" : Str) ([("names", V.ref t), ("_above", V.ref d)] : List (Str × V)) = some (V.ref t) := by simp [List.lookup]
theorem rf_above {t d : Addr} : List.lookup ("_above" : Str) ([("names", V.ref t), ("_above", V.ref d)] : List (Str × V)) = some (V.ref d) := by
  have : (("_above" : Str) == ("names" : Str)) = false := by decide +kernel
  simp [List.lookup, this]
theorem ro_no {m : Str} {t d : Addr} (h1 : (m == ("names" : Str)) = false) (h2 : (m == ("_above" : Str)) = false) : List.lookup m ([("names", V.ref t), ("_above", V.ref d)] : List (Str × V)) = none := by simp [List.lookup, h1, h2]
end
theorem ab_len {N : List Str} {R : Str → Str → Bool} {n : Str} : (OM.ab N R n).length ≤ N.length := List.length_filter_le _ _
def PF (N : List Str) (R : Str → Str → Bool) (L : List Str) : List (Str × Str) := L.flatMap fun a => ((OM.ab N R a).filter fun b => !decide (a = b)).map fun b => (a, b)
theorem PF_len {N : List Str} {R : Str → Str → Bool} : ∀ L : List Str, (PF N R L).length ≤ L.length * N.length
  | [] => Nat.zero_le _
  | a :: L => by
    have ih := PF_len (N := N) (R := R) L
    unfold PF at ih ⊢
    rw [List.flatMap_cons, List.length_append, List.length_map, List.length_cons, Nat.succ_mul]
    have h1 : ((OM.ab N R a).filter fun b => !decide (a = b)).length ≤ N.length := Nat.le_trans (List.length_filter_le _ _) (List.length_filter_le _ _)
    omega
abbrev s_Order_pairs : Stmt := inClass (top 21) 5
theorem sc_Order_pairs : FnScope ["self", "low", "high"] ["self"] (defScope s_Order_pairs) := ⟨rfl, rfl, rfl, by decide +kernel, rfl, by decide +kernel, by decide +kernel⟩
theorem ok_Order_pairs {P : Program} {w : World} {K : PySem.W.Frag} {mg : Str → Option Value} {base : Heap} {CO : Addr} {f : Addr} {fd : FuncData} (F : L2.Fun K "pairs" "Order.pairs" s_Order_pairs f fd)
    (C_c_Order : ClO K CO)
    (C_na_Order__above : NoAttr K CO "_above")
    (C_na_Order_names : NoAttr K CO "names") :
    FnOk P w K mg base (L2.CX P w) 1 f fd ["self"] (spPairs CO) := by
  refine fnOk_mk F sc_Order_pairs (fun vs H Q E h => h.1) (fun cdv A outer s H vs Q E hr h => ?_)
  obtain ⟨_, a, N, R, rfl, ho, k⟩ := h
  obtain ⟨dx, t, d, e1, e2, ⟨A', e3, e4⟩, hl, hN, hnl⟩ := ho
  refine ⟨_, pss_one (ps_ret (pe_lc2 (own := [("low", 1), ("high", 2)]) (vs1 := [2]) (by rfl) sc_Order_pairs.nd (pi_any (K := K) rfl (pe_fld (pv 0) rfl)) (blkOk_by (N := ["self", "low", "high"]) (sc := defScope s_Order_pairs) (by decide +kernel)) (by decide) (fun _ _ _ _ _ => pg_name (i := 1) sc_Order_pairs.nd rfl (Or.inl rfl)) (fun _ _ _ _ _ => pts_nil) (fun _ _ _ _ _ => pi_any (K := K) rfl (pe_dget (hu_of hr) (k_fld (K := K) rfl (pv 0) rfl) (pv 1) (fun _ _ => rfl))) (fun _ _ _ _ _ => pg_name (i := 2) sc_Order_pairs.nd rfl (Or.inl rfl)) (fun _ _ _ _ _ => pts_one (pt_cmpR op_ne (pv 1) (pv 2) (nomark _))) (fun _ _ _ _ _ => pe_tup (pa_cons (pv 1) (pa_cons (pv 2) pa_nil))))), ?_⟩
  try dsimp only [cxOf]
  walk_at "rd"
  refine i_fld1 e1 C_c_Order.toCls C_na_Order_names rf_names ?_
  refine i_lc2A (H0 := H) (fun i ys H1 => Same H H1 ∧ ∃ qs, ys = qs.map V.ref ∧ TPr H1 qs (PF N R (N.take i))) (SqA.t e2) (Same.refl _) ?_ ?_ ?_ ?_
  · intro D H' hD sm e ho
    exact ⟨sm, [], rfl, .nil⟩
  · exact fun i ys H1 p => p.1
  · rintro i x D ys H1 hD hx eD ⟨s1, qs, rfl, hq⟩
    obtain ⟨n, hn, rfl⟩ := strs_at hx
    have hnN : n ∈ N := List.mem_of_getElem? hn
    walk_at "rd"
    refine ⟨by with_unfolding_all rfl, ?_⟩
    walk_at "rd"
    refine i_fld1 (s1 _ _ e1) C_c_Order.toCls C_na_Order__above rf_above ?_
    walk_at "rd"
    refine i_dget (s1 _ _ e3) (rows_val hnN) ?_
    refine i_lcIn (H0 := H) (Pw := fun j ys H2 => Same H H2 ∧ ∃ qs, ys = qs.map V.ref ∧ TPr H2 qs (PF N R (N.take i) ++ (((OM.ab N R n).take j).filter fun b => !decide (n = b)).map fun b => (n, b))) (SqA.t (e4 n hnN)) eD ?_ ?_ ?_ ?_
    · exact ⟨s1, qs, rfl, by simpa using hq⟩
    · exact fun j ys H2 p => p.1
    · rintro j x ys H2 hx eD2 ⟨s2, qs2, rfl, hq2⟩
      obtain ⟨m, hm, rfl⟩ := strs_at hx
      walk_at "rd"
      refine ⟨by with_unfolding_all rfl, ?_⟩
      walk_at "rd"
      refine i_ndec (fun e => ?_) (fun e => ?_)
      · walk_at "rd"
        refine i_tup1 (by show 2 ≤ 100000; decide) fun q H3 hq3 s3 e3' ho3 => ?_
        refine i_lcE (s3 _ _ eD2) ?_ fun H4 e4' ho4 => ⟨?_, qs2 ++ [q], by rw [List.map_append]; rfl, ?_⟩
        · have h1 := hq2.1
          rw [List.length_append, List.length_map] at h1
          have h2 := PF_len (N := N) (R := R) (N.take i)
          have h3 : ((List.take j (OM.ab N R n)).filter fun b => !decide (n = b)).length ≤ N.length := Nat.le_trans (List.length_filter_le _ _) (Nat.le_trans (by rw [List.length_take]; omega) (ab_len (N := N) (R := R) (n := n)))
          have h4 : (N.take i).length * N.length ≤ 8 * 8 := Nat.mul_le_mul (by rw [List.length_take]; omega) hl
          rw [List.length_map]
          omega
        · intro b o eb
          rw [ho4 b (ne_of_none eb hD)]
          exact s3 _ _ (s2 _ _ eb)
        · have := ((hq2.mono s3).snoc e3').keep (lst_keep (s3 _ _ eD2) ho4)
          rw [take_snoc hm, List.filter_append, List.map_append, ← List.append_assoc]
          simpa [e] using this
      · walk_at "rd"
        refine ⟨_, eD2, s2, qs2, rfl, ?_⟩
        rw [take_snoc hm, List.filter_append, List.map_append, ← List.append_assoc]
        simpa [e] using hq2
    · rintro ys H2 eD2 ⟨s2, qs2, rfl, hq2⟩
      refine ⟨s2, qs2, rfl, ?_⟩
      rw [List.length_map, List.take_length] at hq2
      rw [take_snoc hn]
      unfold PF at hq2 ⊢
      rw [List.flatMap_append]
      simpa using hq2
  · rintro D ys H1 hD eD ⟨s1, qs, rfl, hq⟩
    rw [List.length_map, List.take_length] at hq
    exact k D H1 hD s1 ⟨qs, eD, hq⟩
theorem prs_len {N : List Str} {R : Str → Str → Bool} : (OM.prs N R).length ≤ N.length * N.length := PF_len (N := N) (R := R) N
abbrev s_Order___len__ : Stmt := inClass (top 21) 13
theorem sc_Order___len__ : FnScope ["self"] ["self"] (defScope s_Order___len__) := ⟨rfl, rfl, rfl, by decide +kernel, rfl, by decide +kernel, by decide +kernel⟩
theorem ok_Order___len__ {P : Program} {w : World} {K : PySem.W.Frag} {mg : Str → Option Value} {base : Heap} {CO : Addr} {f : Addr} {fd : FuncData} (F : L2.Fun K "__len__" "Order.__len__" s_Order___len__ f fd)
    (C_b_len : mg "len" = none)
    (C_c_Order : ClO K CO)
    (C_na_Order__above : NoAttr K CO "_above")
    (C_na_Order_names : NoAttr K CO "names") :
    FnOk P w K mg base (L2.CX P w) 1 f fd ["self"] (spOLen CO) := by
  refine fnOk_mk F sc_Order___len__ (fun vs H Q E h => h.1) (fun cdv A outer s H vs Q E hr h => ?_)
  obtain ⟨_, a, N, R, rfl, ho, k⟩ := h
  obtain ⟨dx, t, d, e1, e2, ⟨A', e3, e4⟩, hl, hN, hnl⟩ := ho
  refine ⟨_, pss_one (ps_ret (pe_callB (k_len (K := K) rfl) (by rfl) C_b_len (by decide +kernel) (pa_cons (pe_fld (pv 0) rfl) pa_nil))), ?_⟩
  try dsimp only [cxOf]
  walk_at "rd"
  refine i_fld1 e1 C_c_Order.toCls C_na_Order_names rf_names ?_
  walk_at "rd"
  refine i_lenA (SqA.t e2) ?_
  rw [List.length_map]
  exact k H (Same.refl _)
abbrev s_Order___iter__ : Stmt := inClass (top 21) 14
theorem sc_Order___iter__ : FnScope ["self"] ["self"] (defScope s_Order___iter__) := ⟨rfl, rfl, rfl, by decide +kernel, rfl, by decide +kernel, by decide +kernel⟩
theorem ok_Order___iter__ {P : Program} {w : World} {K : PySem.W.Frag} {mg : Str → Option Value} {base : Heap} {CO : Addr} {f : Addr} {fd : FuncData} (F : L2.Fun K "__iter__" "Order.__iter__" s_Order___iter__ f fd)
    (C_b_iter : mg "iter" = none)
    (C_c_Order : ClO K CO)
    (C_na_Order__above : NoAttr K CO "_above")
    (C_na_Order_names : NoAttr K CO "names") :
    FnOk P w K mg base (L2.CX P w) 1 f fd ["self"] (spOIter CO) := by
  refine fnOk_mk F sc_Order___iter__ (fun vs H Q E h => h.1) (fun cdv A outer s H vs Q E hr h => ?_)
  obtain ⟨_, a, dx, t, d, ys, rfl, e1, e2, k⟩ := h
  refine ⟨_, pss_one (ps_ret (pe_callB (k_iterT (K := K) rfl) (by rfl) C_b_iter (by decide +kernel) (pa_cons (pe_fld (pv 0) rfl) pa_nil))), ?_⟩
  try dsimp only [cxOf]
  walk_at "rd"
  refine i_fld1 e1 C_c_Order.toCls C_na_Order_names rf_names ?_
  walk_at "rd"
  exact i_iterT (.of e2) k
theorem eqv_tupS (zs ws : List Str) : PyData.eqv (.tuple (zs.map PyData.str)) (.tuple (ws.map PyData.str)) = decide (zs = ws) := by
  show PyData.eqvAll _ _ = _
  exact eqv_strs zs ws
theorem shaped_tupS {zs : List Str} (h : ∀ z ∈ zs, nameB z = true) : SeqAt.shaped (.tuple (zs.map PyData.str)) = true := by
  unfold SeqAt.shaped
  have d : ∀ zs : List Str, PyData.depthAll (zs.map PyData.str) ≤ 1 := by
    intro zs
    induction zs with
    | nil => decide
    | cons n ns ih => simp [PyData.depthAll, PyData.depth] at *; omega
  have l : ∀ zs : List Str, (∀ z ∈ zs, nameB z = true) → PyData.canLayAll0 (zs.map PyData.str) = true := by
    intro zs
    induction zs with
    | nil => intro _; rfl
    | cons n ns ih =>
      intro hs
      have ih2 := ih fun z hz => hs z (List.mem_cons_of_mem _ hz)
      have h1 : PyData.strOk n = true := nameB_ok (hs n List.mem_cons_self)
      simp [PyData.canLayAll0, PyData.canLay0] at *
      exact ⟨h1, ih2⟩
  have := d zs
  have := l zs h
  simp [PyData.depth, PyData.canLay0] at *
  exact ⟨by assumption, by omega⟩
/-- the other objects stand -/
def But (a : Addr) (H H' : Hp) : Prop := ∀ x o, x ≠ a → H x = some o → H' x = some o
def IsIns (H : Hp) (a : Addr) : Prop := ∃ C dx fs, H a = some (.ins C dx fs)
theorem seqA_ne {K : PySem.W.Frag} {H H' : Hp} {a b : Addr} {xs : List V} (i : IsIns H a) (t : But a H H') (h : SqA K H b xs) : SqA K H' b xs := by
  obtain ⟨C, dx, fs, e⟩ := i
  rcases h with ((h | ⟨o, h⟩) | h) | ((h | ⟨o, h⟩) | h)
  · exact .inl (.inl (.inl (t _ _ (fun z => by rw [z, e] at h; cases h) h)))
  · exact .inl (.inl (.inr ⟨o, t _ _ (fun z => by rw [z, e] at h; cases h) h⟩))
  · exact .inl (.inr h)
  · exact .inr (.inl (.inl (t _ _ (fun z => by rw [z, e] at h; cases h) h)))
  · exact .inr (.inl (.inr ⟨o, t _ _ (fun z => by rw [z, e] at h; cases h) h⟩))
  · exact .inr (.inr h)
theorem seqT_ne {K : PySem.W.Frag} {H H' : Hp} {a b : Addr} {xs : List V} (i : IsIns H a) (t : But a H H') (h : SqT K H b xs) : SqT K H' b xs := by
  obtain ⟨C, dx, fs, e⟩ := i
  rcases h with (h | ⟨o, h⟩) | h
  · exact .inl (.inl (t _ _ (fun z => by rw [z, e] at h; cases h) h))
  · exact .inl (.inr ⟨o, t _ _ (fun z => by rw [z, e] at h; cases h) h⟩)
  · exact .inr h
def dPr (E : List (Str × Str)) : List PyData := E.map fun e => .tuple [.str e.1, .str e.2]
theorem TPr.dp {K : PySem.W.Frag} {H : Hp} : ∀ {qs : List Addr} {E : List (Str × Str)}, TPr H qs E → DpAll K H (qs.map V.ref) (dPr E)
  | [], [], _ => .nil
  | [], _ :: _, h => by have := h.1; simp at this
  | _ :: _, [], h => by have := h.1; simp at this
  | q :: qs, e :: E, h => .cons (.tup (.of (h.2 0 q e rfl rfl)) (.cons (.str _) (.cons (.str _) .nil))) (TPr.dp (E := E) ⟨by have := h.1; simpa using this, fun i q' e' a b => h.2 (i + 1) q' e' (by simpa using a) (by simpa using b)⟩)
theorem shaped_pr {E : List (Str × Str)} (h : ∀ e ∈ E, nameB e.1 = true ∧ nameB e.2 = true) : SeqAt.shaped (.list (dPr E)) = true := by
  unfold SeqAt.shaped
  have d : ∀ E : List (Str × Str), PyData.depthAll (dPr E) ≤ 2 := by
    intro E
    induction E with
    | nil => decide
    | cons n ns ih => unfold dPr at *; simp [PyData.depthAll, PyData.depth] at *; omega
  have l : ∀ E : List (Str × Str), (∀ e ∈ E, nameB e.1 = true ∧ nameB e.2 = true) → PyData.canLayAll0 (dPr E) = true := by
    intro E
    induction E with
    | nil => intro _; rfl
    | cons n ns ih =>
      intro hs
      have ih2 := ih fun z hz => hs z (List.mem_cons_of_mem _ hz)
      have h1 : PyData.strOk n.1 = true := nameB_ok (hs n List.mem_cons_self).1
      have h2 : PyData.strOk n.2 = true := nameB_ok (hs n List.mem_cons_self).2
      unfold dPr at *
      simp [PyData.canLayAll0, PyData.canLay0] at *
      exact ⟨⟨h1, h2⟩, ih2⟩
  have := d E
  have := l E h
  simp [PyData.depth, PyData.canLay0] at *
  exact ⟨by assumption, by omega⟩
theorem eqv_pr (a b c d : Str) : PyData.eqv (.tuple [.str a, .str b]) (.tuple [.str c, .str d]) = decide ((a, b) = (c, d)) := by
  have := eqv_tupS [a, b] [c, d]
  simpa using this
theorem any_pr {E : List (Str × Str)} {x y : Str} : ((dPr E).any fun z => PyData.eqv z (.tuple [.str x, .str y])) = decide ((x, y) ∈ E) := by
  unfold dPr
  rw [List.any_map, Bool.eq_iff_iff, List.any_eq_true, decide_eq_true_eq]
  constructor
  · rintro ⟨e, he, h⟩
    rw [Function.comp_apply, eqv_pr, decide_eq_true_eq] at h
    exact h ▸ he
  · intro h
    exact ⟨(x, y), h, by rw [Function.comp_apply, eqv_pr, decide_eq_true_eq]⟩
theorem i_inPr {K : PySem.W.Frag} {H : Hp} {Q : VK} {p q : Addr} {qs : List Addr} {E : List (Str × Str)} {x y : Str} (hq : H q = some (.tup [.str x, .str y])) (hp : H p = some (.lst (qs.map V.ref))) (ht : TPr H qs E) (hE : ∀ e ∈ E, nameB e.1 = true ∧ nameB e.2 = true) (hx : nameB x = true) (hy : nameB y = true)
    (h : Q (.bl (decide ((x, y) ∈ E))) H) : rInD K (.ref q) (.ref p) H Q := by
  refine ⟨.tuple [.str x, .str y], dPr E, .tup (.of hq) (.cons (.str _) (.cons (.str _) .nil)), .lst (.of hp) ht.dp, ?_, shaped_pr hE, ?_⟩
  · refine shaped_tupS (zs := [x, y]) ?_
    intro z hz
    rcases List.mem_cons.mp hz with rfl | hz
    · exact hx
    · rw [List.mem_singleton.mp hz]
      exact hy
  · rw [any_pr]
    exact h
theorem op1 (t : V) : putF ("names" : Str) t [] = [(("names" : Str), t)] := rfl
theorem op2 (t d : V) : putF ("_above" : Str) d [(("names" : Str), t)] = [(("names" : Str), t), (("_above" : Str), d)] := by
  show (if ("names" : Str) = "_above" then _ else (("names" : Str), t) :: putF "_above" d []) = _
  rw [if_neg (by decide +kernel)]
  rfl
theorem rf_names1 {t : Addr} : List.lookup ("names" : Str) ([("names", V.ref t)] : List (Str × V)) = some (V.ref t) := by simp [List.lookup]
theorem notAny {bs : List Bool} (h : ∀ b ∈ bs, b = false) : bs.any id = false := by
  rw [List.any_eq_false]
  intro b hb
  rw [h b hb]
  decide
theorem prs_names {N : List Str} {R : Str → Str → Bool} (hN : ∀ n ∈ N, nameB n = true) : ∀ e ∈ OM.prs N R, nameB e.1 = true ∧ nameB e.2 = true := by
  rintro ⟨x, y⟩ he
  obtain ⟨hx, hy, _, _⟩ := OM.mem_prs.mp he
  exact ⟨hN x hx, hN y hy⟩

/-- the first strange name of pairs -/
def missE (ks : List Str) (E : List (Str × Str)) : Option Str := (E.flatMap fun e => [e.1, e.2]).find? fun z => !decide (z ∈ ks)
/-- the names that would be below each other -/
def fR (N : List Str) (R : Str → Str → Bool) (n : Str) : Bool := (OM.ab N R n).any fun m => decide ((m, n) ∈ OM.prs N R)
def rings (N : List Str) (R : Str → Str → Bool) : List Str := N.filter (fR N R)
def spOInitG (K : PySem.W.Frag) (CO CB CN CD CU CG : Addr) : Sp := fun vs H Q E' => vs.length = 3 ∧ ∃ (a b c : Addr) (zs : List Str) (E : List (Str × Str)), vs = [.ref a, .ref b, .ref c] ∧ (∃ dx, H a = some (.ins CO dx [])) ∧ SqA K H b (zs.map V.str) ∧ PrA K H c E ∧
  zs.length ≤ 30000 ∧ (∀ z ∈ zs, z.length ≤ 100000) ∧ E.length ≤ 30000 ∧
  (¬ (1 ≤ zs.length ∧ zs.length ≤ 8) → ∀ d H', But a H H' → H' d = some (.xd [("n", .int (zs.length : Nat))]) → E' (.ref CB) (some d) H') ∧
  ((1 ≤ zs.length ∧ zs.length ≤ 8) → (∀ b z, nmF [] zs = some (b, z) → RW z ∧ ∀ d H', But a H H' → H' d = some (.xd [("name", .str z)]) → E' (.ref (if b then CD else CN)) (some d) H') ∧
    (nmF [] zs = none → (∀ z, missE zs E = some z → RW z ∧ ∀ d H', But a H H' → H' d = some (.xd [("name", .str z)]) → E' (.ref CU) (some d) H') ∧
      (missE zs E = none → (rings (srt zs) (OM.cl E) ≠ [] → ∀ d q H', But a H H' → H' d = some (.xd [("names", .ref q)]) → H' q = some (.lst ((rings (srt zs) (OM.cl E)).map V.str)) → E' (.ref CG) (some d) H') ∧
        (rings (srt zs) (OM.cl E) = [] → ∀ H', IsO CO H' a (srt zs) (OM.cl E) → But a H H' → Q .non H'))))
theorem missE_none {ks : List Str} {E : List (Str × Str)} (h : missE ks E = none) : ∀ e ∈ E, e.1 ∈ ks ∧ e.2 ∈ ks := by
  intro e he
  have h2 := List.find?_eq_none.mp h
  have m1 : e.1 ∈ E.flatMap fun e => [e.1, e.2] := List.mem_flatMap.mpr ⟨e, he, by simp⟩
  have m2 : e.2 ∈ E.flatMap fun e => [e.1, e.2] := List.mem_flatMap.mpr ⟨e, he, by simp⟩
  exact ⟨by simpa using h2 _ m1, by simpa using h2 _ m2⟩
theorem missE_at {ks : List Str} {E : List (Str × Str)} {i : Nat} {e : Str × Str} (hi : E[i]? = some e) (h : ∀ p ∈ E.take i, p.1 ∈ ks ∧ p.2 ∈ ks) {z : Str} (hz : miss ks [e.1, e.2] = some z) : missE ks E = some z := by
  have lt := (List.getElem?_eq_some_iff.mp hi).1
  have ee : E = E.take i ++ e :: E.drop (i + 1) := by
    have := (List.take_append_drop i E).symm
    rw [List.drop_eq_getElem_cons lt, (List.getElem?_eq_some_iff.mp hi).2] at this
    exact this
  unfold missE
  rw [ee, List.flatMap_append, List.flatMap_cons, List.find?_append, List.find?_append]
  have n1 : ((E.take i).flatMap fun e => [e.1, e.2]).find? (fun z => !decide (z ∈ ks)) = none := by
    rw [List.find?_eq_none]
    intro x hx
    obtain ⟨p, hp, hx⟩ := List.mem_flatMap.mp hx
    obtain ⟨h1, h2⟩ := h p hp
    simp at hx
    rcases hx with rfl | rfl
    · simp [h1]
    · simp [h2]
  rw [n1]
  unfold miss at hz
  rw [hz]
  rfl
abbrev s_Order___init__ : Stmt := inClass (top 21) 0
theorem sc_Order___init__ : FnScope ["self", "names", "pairs", "pair", "joined", "ringed", "low", "high"] ["self", "names", "pairs"] (defScope s_Order___init__) := ⟨rfl, rfl, rfl, by decide +kernel, rfl, by decide +kernel, by decide +kernel⟩
theorem ok_Order___init__ {P : Program} {w : World} {K : PySem.W.Frag} {mg : Str → Option Value} {base : Heap} {CB CD CG CN CO CU : Addr} {tk_MOST_NAMES : Tok} {f : Addr} {fd : FuncData} (F : L2.Fun K "__init__" "Order.__init__" s_Order___init__ f fd)
    (C_b_any : mg "any" = none)
    (C_b_len : mg "len" = none)
    (C_b_sorted : mg "sorted" = none)
    (C_b_tuple : mg "tuple" = none)
    (C_c_Order : ClO K CO)
    (C_f_check_among : Cal P w K mg base "check_among" 3 (spAmW K CU))
    (C_f_check_names : Cal P w K mg base "check_names" 3 (spCheckG K CN CD))
    (C_f_closure : Cal P w K mg base "_closure" 1 (spClosure K))
    (C_m_Order_pairs : CalM P w K mg base CO "pairs" 1 (spPairs CO))
    (C_n_MOST_NAMES : mg "MOST_NAMES" = some (.int 8 tk_MOST_NAMES))
    (C_na_Order__above : NoAttr K CO "_above")
    (C_na_Order_names : NoAttr K CO "names")
    (C_x_BadNumber : CalX P w K mg base "BadNumber" CB 2 ["self", "n"] (spX1 K CB "n" GInt))
    (C_x_Ring : CalX P w K mg base "Ring" CG 1 ["self", "names"] (spXR K CG)) :
    FnOk P w K mg base (L2.CX P w) 4 f fd ["self", "names", "pairs"] (spOInitG K CO CB CN CD CU CG) := by
  refine fnOk_mk F sc_Order___init__ (fun vs H Q E h => h.1) (fun cdv A outer s H vs Q E hr h => ?_)
  obtain ⟨_, a, b, c, zs, E', rfl, ⟨dx, ha⟩, hb, ⟨ps, hc, hp⟩, h60, hlen, hlE, kB, kN⟩ := h
  refine ⟨_, pss_cons (ps_if (pt_not (pt_chain op_le op_le pe_int (pe_callB (k_len (K := K) rfl) (by rfl) C_b_len (by decide +kernel) (pa_cons (pv 1) pa_nil)) ((pe_glob (v := .int 8) rfl C_n_MOST_NAMES ⟨_, rfl⟩)))) (pss_one (ps_raise rfl (takes_of rfl rfl rfl rfl) (z_mkX C_x_BadNumber hr (pa_cons (pe_callB (k_len (K := K) rfl) (by rfl) C_b_len (by decide +kernel) (pa_cons (pv 1) pa_nil)) pa_nil)))) (pss_nil))
    (pss_cons (ps_expr (z_callC C_f_check_names hr (fun σ => passAt (takes_of rfl rfl rfl rfl) σ) (pa_cons (pv 1) pa_nil)))
    (pss_cons (ps_for (passes_of rfl) rfl (pi_any (K := K) rfl (pv 2)) (pg_name (i := 3) sc_Order___init__.nd rfl (Or.inl rfl)) (pss_one (ps_expr (z_callC C_f_check_among hr (fun σ => passAt (takes_of rfl rfl rfl rfl) σ) (pa_cons (pv 1) (pa_cons (pv 3) pa_nil))))))
    (pss_cons (ps_fld (pv 0) (pe_callTy (k_tupA (K := K) rfl) (by rfl) C_b_tuple (by decide +kernel) (pa_cons (pe_callB (k_sort (K := K) rfl) (by rfl) C_b_sorted (by decide +kernel) (pa_cons (pv 1) pa_nil)) pa_nil)) rfl)
    (pss_cons (ps_fld (pv 0) (z_callC C_f_closure hr passN (pa_cons (pe_fld (pv 0) rfl) (pa_cons (pv 2) pa_nil))) rfl)
    (pss_cons (ps_set (i := 4) sc_Order___init__.nd rfl (Or.inr rfl) (z_meth0C (pv 0) C_c_Order.toCls C_m_Order_pairs hr passN))
    (pss_cons (ps_setLc (i := 5) (own := [("low", 6)]) (by rfl) sc_Order___init__.nd rfl rfl (sw_true rfl rfl rfl (by decide +kernel)) (pi_any (K := K) rfl (pe_fld (pv 0) rfl)) (blkOk_by (N := ["self", "names", "pairs", "pair", "joined", "ringed", "low", "high"]) (sc := defScope s_Order___init__) (by decide +kernel)) (fun _ _ _ _ _ => pg_name (i := 6) sc_Order___init__.nd rfl (Or.inr rfl)) (fun _ _ _ _ _ => pts_one (pt_val (pe_callB (k_any rfl (K := K) rfl) (by rfl) C_b_any (by decide +kernel) (pa_cons (pe_lc (own := [("high", 7)]) (by rfl) sc_Order___init__.nd (pi_any (K := K) rfl (pe_dget (hu_of hr) (k_fld (K := K) rfl (pv 0) rfl) (pv 6) (fun _ _ => rfl))) (blkOk_by (N := ["self", "names", "pairs", "pair", "joined", "ringed", "low", "high"]) (by rfl)) (fun _ _ _ _ _ => pg_name (i := 7) sc_Order___init__.nd rfl (Or.inl rfl)) (fun _ _ _ _ _ => pts_nil) (fun _ _ _ _ _ => pe_cmpR (k_inD (K := K) rfl (u65 hr)) (pe_tup (pa_cons (pv 7) (pa_cons (pv 6) pa_nil))) (pv 4) rfl)) pa_nil)))) (fun _ _ _ _ _ => pv 6))
    (pss_one (ps_if (k_truth (K := K) rfl (pv 5) (by intro _; rfl)) (pss_one (ps_raise rfl (takes_of rfl rfl rfl rfl) (z_mkX C_x_Ring hr (pa_cons (pv 5) pa_nil)))) (pss_nil))))))))), ?_⟩
  try dsimp only [cxOf]
  walk_at "rd"
  refine i_lenA hb ?_
  rw [List.length_map]
  walk_at "rd"
  have badN : ¬ (1 ≤ zs.length ∧ zs.length ≤ 8) → rMkO CB (spX1 K CB "n" GInt) [V.int (zs.length : Nat)] H fun cls d H' => E cls d H' := fun hb =>
    i_mkX1 (fun H' s => ⟨_, rfl, ZR.Sz.mono (n := 15) (Nat.lt_of_le_of_lt (show ((zs.length : Nat) : Int).natAbs ≤ 30000 by omega) (by decide +kernel)) (by decide)⟩) fun d H' hd s e' => kB hb d H' (fun x o _ e => s _ _ e) e'
  refine i_dec (fun g1 => ?_) (fun g1 => ?_)
  rotate_left
  · walk_at "rd"
    refine i_lenA hb ?_
    rw [List.length_map]
    walk_at "rd"
    exact badN (by omega)
  walk_at "rd"
  refine i_ndec (fun g2 => ?_) (fun g2 => ?_)
  · walk_at "rd"
    refine i_lenA hb ?_
    rw [List.length_map]
    walk_at "rd"
    exact badN (by omega)
  walk_at "rd"
  obtain ⟨kF, kN⟩ := kN ⟨by omega, by omega⟩
  refine ⟨rfl, b, zs, rfl, hb, h60, hlen, fun x z hz => ⟨(kF x z hz).1, fun d H' s e => (kF x z hz).2 d H' (fun y o _ e => s _ _ e) e⟩, fun hF H1 s1 => ?_⟩
  obtain ⟨hn, hd⟩ := nmF_none zs [] hF List.nodup_nil
  rw [List.nil_append] at hd
  obtain ⟨kU, kN⟩ := kN hF
  walk_at "rd"
  refine i_forA (H0 := H) (fun i σ H2 => (∃ v, σ = [some (.ref a), some (.ref b), some (.ref c), v, none, none, none, none]) ∧ Same H H2 ∧ ∀ p ∈ E'.take i, p.1 ∈ zs ∧ p.2 ∈ zs) hc ⟨⟨_, rfl⟩, s1, fun p hp => absurd hp (by simp)⟩ (fun i σ H2 p => p.2.1) ?_ ?_
  · rintro i x σ H2 hx ⟨⟨v, rfl⟩, s2, hin⟩
    have lt := (List.getElem?_eq_some_iff.mp hx).1
    rw [hp.1] at lt
    have hei : E'[i]? = some E'[i] := by simp [lt]
    obtain ⟨q, rfl, eq⟩ := hp.2 i x E'[i] hx hei
    walk_at "rd"
    refine ⟨rfl, b, q, zs, [E'[i].1, E'[i].2], rfl, sameA s2 hb, .inr (Same_seqT s2 eq), fun z hz => ?_, fun hz H3 s3 => ?_⟩
    · obtain ⟨rb, kU⟩ := kU z (missE_at hei hin hz)
      exact ⟨rb, fun d' H' s e => kU d' H' (fun y o _ e => s _ _ (s2 _ _ e)) e⟩
    walk_at "rd"
    refine ⟨⟨_, rfl⟩, s2.trans s3, fun p hpm => ?_⟩
    rw [take_snoc hei] at hpm
    rcases List.mem_append.mp hpm with h | h
    · exact hin p h
    · rw [List.mem_singleton.mp h]
      have h0 := List.find?_eq_none.mp hz
      exact ⟨by simpa using h0 E'[i].1 (by simp), by simpa using h0 E'[i].2 (by simp)⟩
  · rintro σ H2 ⟨⟨v, rfl⟩, s2, hin⟩
    rw [hp.1, List.take_length] at hin
    have hE := hin
    have hME : missE zs E' = none := by
      unfold missE
      rw [List.find?_eq_none]
      intro x hx
      obtain ⟨p, hp, hx⟩ := List.mem_flatMap.mp hx
      obtain ⟨h1, h2⟩ := hin p hp
      simp at hx
      rcases hx with rfl | rfl
      · simp [h1]
      · simp [h2]
    obtain ⟨kR, k⟩ := kN hME
    walk_at "rd"
    refine i_sort (sameA s2 hb) (by omega) fun q H3 hq s3 ho3 e3 => ?_
    walk_at "rd"
    refine i_tupL (SqL.of e3) fun t H4 ht s4 e4 ho4 => ?_
    walk_at "rd"
    have ins : IsIns H a := ⟨_, _, _, ha⟩
    have na4 : ∀ o, H a = some o → H4 a = some o := fun o e => s4 _ _ (s3 _ _ (s2 _ _ e))
    have ta : t ≠ a := fun z => by
      have := s3 _ _ (s2 _ _ ha)
      rw [← z, ht] at this
      cases this
    refine i_put1 (na4 _ ha) C_c_Order.toCls C_na_Order_names (by show 0 < 100; decide) (op1 _) fun H5 e5 o5 => ?_
    have b5 : But a H H5 := fun x o hx e => by rw [o5 x hx]; exact s4 _ _ (s3 _ _ (s2 _ _ e))
    walk_at "rd"
    refine i_fld1 e5 C_c_Order.toCls C_na_Order_names rf_names1 ?_
    walk_at "rd"
    have hc5 : PrA K H5 c E' := ⟨ps, seqA_ne ins b5 hc, hp.1, fun i p e hpi hei => by
      obtain ⟨q, e1, e2⟩ := hp.2 i p e hpi hei
      exact ⟨q, e1, seqT_ne ins b5 e2⟩⟩
    have et5 : H5 t = some (.tup ((srt zs).map V.str)) := by rw [o5 t ta]; exact e4
    have hE2 : ∀ p ∈ E', p.1 ∈ srt zs ∧ p.2 ∈ srt zs := fun p hpE => ⟨mem_srt.mpr (hE p hpE).1, mem_srt.mpr (hE p hpE).2⟩
    have l2 : (srt zs).length = zs.length := (srt_perm zs).length_eq
    refine ⟨rfl, t, c, srt zs, E', rfl, .t et5, hc5, by omega, srt_nodup hd, srt_pw zs, hE2, fun d H6 hd6 s6 tab => ?_⟩
    have da : d ≠ a := fun z => by rw [z, e5] at hd6; cases hd6
    walk_at "rb"
    refine i_put1 (s6 _ _ e5) C_c_Order.toCls C_na_Order__above (by show 1 < 100; decide) (op2 _ _) fun H7 e7 o7 => ?_
    have ho7 : IsO CO H7 a (srt zs) (OM.cl E') := by
      obtain ⟨A, e8, e9⟩ := tab
      refine ⟨dx, t, d, e7, by rw [o7 t ta]; exact s6 _ _ et5, ⟨A, by rw [o7 d da]; exact e8, fun n hn => ?_⟩, by omega, srt_nodup hd, fun n hnm => hn n (mem_srt.mp hnm)⟩
      rw [o7 (A n) fun z => ?_]
      · exact e9 n hn
      · have := e9 n hn
        rw [z, s6 _ _ e5] at this
        cases this
    have b7 : But a H H7 := fun x o hx e => by rw [o7 x hx]; exact s6 _ _ (b5 x o hx e)
    walk_at "rd"
    refine i_meth1 e7 (ro_no (by decide +kernel) (by decide +kernel)) ?_
    walk_at "rd"
    refine ⟨rfl, a, srt zs, OM.cl E', rfl, ho7, fun p H8 hp8 s8 hP => ?_⟩
    obtain ⟨qs, ep, tq⟩ := hP
    walk_at "rd"
    refine i_fld1 (s8 _ _ e7) C_c_Order.toCls C_na_Order_names rf_names ?_
    have ho8 := ho7.mono s8
    obtain ⟨dx', t', d', f1, f2, ⟨A, f3, f4⟩, _, _, hnl⟩ := id ho8
    have et8 : H8 t = some (.tup ((srt zs).map V.str)) := by
      have := f1.symm.trans (s8 _ _ e7)
      cases this
      exact f2
    have hab : ∀ n, (OM.ab (srt zs) (OM.cl E') n).length ≤ 8 := fun n => Nat.le_trans ab_len (by omega)
    refine i_lcA (H0 := H8) (fun i ys H => Same H8 H ∧ ys = (((srt zs).take i).filter (fR (srt zs) (OM.cl E'))).map V.str) (SqA.t et8) (Same.refl _) ?_ ?_ ?_ ?_
    · intro D H' hD sm e ho
      exact ⟨sm, rfl⟩
    · exact fun i ys H p => p.1
    · rintro i x D ys H9 hD hx eD ⟨s9, rfl⟩
      obtain ⟨n, hni, rfl⟩ := strs_at hx
      have hnN : n ∈ srt zs := List.mem_of_getElem? hni
      walk_at "rd"
      refine ⟨by with_unfolding_all rfl, ?_⟩
      walk_at "rd"
      refine i_fld1 (s9 _ _ f1) C_c_Order.toCls C_na_Order__above rf_above ?_
      walk_at "rd"
      refine i_dget (s9 _ _ f3) (rows_val hnN) ?_
      refine i_lcA (H0 := H9) (fun i ys H => Same H9 H ∧ ys = (((OM.ab (srt zs) (OM.cl E') n).take i).map fun m => decide ((m, n) ∈ OM.prs (srt zs) (OM.cl E'))).map V.bl) (SqA.t (s9 _ _ (f4 n hnN))) (Same.refl _) ?_ ?_ ?_ ?_
      · intro D H' hD sm e ho
        exact ⟨sm, rfl⟩
      · exact fun i ys H p => p.1
      · rintro j y D2 ys H10 hD2 hy eD2 ⟨s10, rfl⟩
        obtain ⟨m, hmi, rfl⟩ := strs_at hy
        obtain ⟨hmN, hmR⟩ := OM.mem_ab.mp (List.mem_of_getElem? hmi)
        walk_at "rd"
        refine ⟨by with_unfolding_all rfl, ?_⟩
        walk_at "rd"
        refine i_tup1 (by show 2 ≤ 100000; decide) fun q H11 hq s11 e11 ho11 => ?_
        walk_at "rd"
        have s811 := (s9.trans s10).trans s11
        refine i_inPr e11 (s811 _ _ ep) (tq.mono s811) (prs_names hnl) (hnl m hmN) (hnl n hnN) ?_
        have hb60 : j < (OM.ab (srt zs) (OM.cl E') n).length := (List.getElem?_eq_some_iff.mp hmi).1
        have h8 := hab n
        refine i_lcE (s11 _ _ eD2) ?_ fun H12 e12 ho12 => ⟨fun b o eb => ?_, ?_⟩
        · rw [List.length_map, List.length_map, List.length_take]
          omega
        · rw [ho12 b (ne_of_none eb hD2)]
          exact s11 _ _ (s10 _ _ eb)
        · rw [take_snoc hmi, List.map_append, List.map_append]
          rfl
      · rintro D2 ys H10 hD2 eD2 ⟨s10, rfl⟩
        rw [List.length_map, List.take_length] at eD2
        walk_at "rd"
        refine i_any eD2 ?_
        rw [List.any_map]
        refine ⟨_, rfl, ?_⟩
        have eb : (OM.ab (srt zs) (OM.cl E') n).any (id ∘ fun m => decide ((m, n) ∈ OM.prs (srt zs) (OM.cl E'))) = fR (srt zs) (OM.cl E') n := rfl
        rw [eb]
        refine i_bool (fun g => ?_) (fun g => ?_)
        · walk_at "rd"
          refine i_lcE (s10 _ _ eD) ?_ fun H12 e12 ho12 => ⟨fun b o eb => ?_, ?_⟩
          · rw [List.length_map]
            have h1 := List.length_filter_le (fR (srt zs) (OM.cl E')) ((srt zs).take i)
            rw [List.length_take] at h1
            omega
          · rw [ho12 b (ne_of_none eb hD)]
            exact s10 _ _ (s9 _ _ eb)
          · rw [take_snoc hni, List.filter_append, List.filter_cons_of_pos g, List.filter_nil, List.map_append]
            rfl
        · refine ⟨_, s10 _ _ eD, s9.trans s10, ?_⟩
          rw [take_snoc hni, List.filter_append, List.filter_cons_of_neg (by rw [g]; decide), List.filter_nil, List.append_nil]
    · rintro D ys H9 hD eD ⟨s9, rfl⟩
      rw [List.length_map, List.take_length] at eD
      have eR : ((srt zs).filter (fR (srt zs) (OM.cl E'))) = rings (srt zs) (OM.cl E') := rfl
      rw [eR] at eD
      have b9 : But a H H9 := fun x o hx e => s9 _ _ (s8 _ _ (b7 x o hx e))
      walk_at "rd"
      refine ⟨!(((rings (srt zs) (OM.cl E')).map V.str).isEmpty), .inl ⟨_, SqL.of eD, rfl⟩, ?_⟩
      cases hr : rings (srt zs) (OM.cl E') with
      | nil =>
        rw [if_neg (by decide)]
        walk_at "rd"
        exact k hr H9 (ho8.mono s9) b9
      | cons y l =>
        rw [if_pos (show (!(List.map V.str (y :: l)).isEmpty) = true from rfl)]
        walk_at "rd"
        have nn : rings (srt zs) (OM.cl E') ≠ [] := by rw [hr]; simp
        refine i_mkXR nn (.of eD) (fun z hz => hnl z (List.mem_filter.mp hz).1) (Nat.le_trans (List.length_filter_le _ _) (by omega)) fun d2 q2 H' hd2 s' ed2 eq2 => ?_
        exact kR nn d2 q2 H' (fun x o hx e => s' _ _ (b9 x o hx e)) ed2 eq2
abbrev s_Order__between : Stmt := inClass (top 21) 7
theorem sc_Order__between : FnScope ["self", "low", "high", "name"] ["self", "low", "high"] (defScope s_Order__between) := ⟨rfl, rfl, rfl, by decide +kernel, rfl, by decide +kernel, by decide +kernel⟩
theorem ok_Order__between {P : Program} {w : World} {K : PySem.W.Frag} {mg : Str → Option Value} {base : Heap} {CO : Addr} {f : Addr} {fd : FuncData} (F : L2.Fun K "_between" "Order._between" s_Order__between f fd)
    (C_c_Order : ClO K CO)
    (C_na_Order__above : NoAttr K CO "_above")
    (C_na_Order_names : NoAttr K CO "names") :
    FnOk P w K mg base (L2.CX P w) 1 f fd ["self", "low", "high"] (spBtw CO) := by
  refine fnOk_mk F sc_Order__between (fun vs H Q E h => h.1) (fun cdv A outer s H vs Q E hr h => ?_)
  obtain ⟨_, a, N, R, x, y, rfl, ho, hx0, hy0, k⟩ := h
  obtain ⟨dx, t, d, e1, e2, ⟨A', e3, e4⟩, hl, hN, hnl⟩ := ho
  refine ⟨_, pss_one (ps_ret (pe_lc (own := [("name", 3)]) (by rfl) sc_Order__between.nd (pi_any (K := K) rfl (pe_dget (hu_of hr) (pe_fld (pv 0) rfl) (pv 1) (fun _ _ => rfl))) (blkOk_by (N := ["self", "low", "high", "name"]) (sc := defScope s_Order__between) (by decide +kernel)) (fun _ _ _ _ _ => pg_name (i := 3) sc_Order__between.nd rfl (Or.inl rfl)) (fun _ _ _ _ _ => pts_one (pt_cmpR (k_inS (K := K) rfl) (pv 2) (pe_dget (hu_of hr) (k_fld (K := K) rfl (pv 0) rfl) (pv 3) (fun _ _ => rfl)) rfl)) (fun _ _ _ _ _ => pv 3))), ?_⟩
  try dsimp only [cxOf]
  walk_at "rd"
  refine i_fld1 e1 C_c_Order.toCls C_na_Order__above rf_above ?_
  walk_at "rd"
  refine i_dget e3 (rows_val hx0) ?_
  refine i_lcA (H0 := H) (fun i ys H1 => Same H H1 ∧ ys = (((OM.ab N R x).take i).filter fun c => R c y).map V.str) (SqA.t (e4 x hx0)) (Same.refl _) ?_ ?_ ?_ ?_
  · intro D H' hD sm e ho
    exact ⟨sm, rfl⟩
  · exact fun i ys H1 p => p.1
  · rintro i v D ys H1 hD hx eD ⟨s1, rfl⟩
    obtain ⟨c, hc, rfl⟩ := strs_at hx
    have hcN : c ∈ N := (OM.mem_ab.mp (List.mem_of_getElem? hc)).1
    walk_at "rd"
    refine ⟨by with_unfolding_all rfl, ?_⟩
    walk_at "rd"
    refine i_fld1 (s1 _ _ e1) C_c_Order.toCls C_na_Order__above rf_above ?_
    walk_at "rd"
    refine i_dget (s1 _ _ e3) (rows_val hcN) ?_
    refine i_inS (SqA.t (s1 _ _ (e4 c hcN))) ?_
    walk_at "rd"
    have em : decide (y ∈ OM.ab N R c) = R c y := by
      rw [Bool.eq_iff_iff, decide_eq_true_eq, OM.mem_ab]
      exact ⟨fun z => z.2, fun z => ⟨hy0, z⟩⟩
    rw [em]
    refine i_bool (fun e => ?_) (fun e => ?_)
    · walk_at "rd"
      refine i_lcE eD ?_ fun H4 e4' ho4 => ⟨fun b o eb => ?_, ?_⟩
      · rw [List.length_map]
        have := List.length_filter_le (fun c => R c y) ((OM.ab N R x).take i)
        have h2 : ((OM.ab N R x).take i).length ≤ N.length := Nat.le_trans (by rw [List.length_take]; omega) (ab_len (N := N) (R := R) (n := x))
        omega
      · rw [ho4 b (ne_of_none eb hD)]
        exact s1 _ _ eb
      · rw [take_snoc hc, List.filter_append, List.map_append]
        simp [e]
    · refine ⟨_, eD, s1, ?_⟩
      rw [take_snoc hc, List.filter_append, List.map_append]
      simp [e]
  · rintro D ys H1 hD eD ⟨s1, rfl⟩
    rw [List.length_map, List.take_length] at eD
    exact k D H1 hD s1 eD
abbrev s_Order_covers : Stmt := inClass (top 21) 6
theorem sc_Order_covers : FnScope ["self", "low", "high"] ["self"] (defScope s_Order_covers) := ⟨rfl, rfl, rfl, by decide +kernel, rfl, by decide +kernel, by decide +kernel⟩
theorem ok_Order_covers {P : Program} {w : World} {K : PySem.W.Frag} {mg : Str → Option Value} {base : Heap} {CO : Addr} {f : Addr} {fd : FuncData} (F : L2.Fun K "covers" "Order.covers" s_Order_covers f fd)
    (C_b_len : mg "len" = none)
    (C_c_Order : ClO K CO)
    (C_m_Order__between : CalM P w K mg base CO "_between" 1 (spBtw CO))
    (C_m_Order_pairs : CalM P w K mg base CO "pairs" 1 (spPairs CO))
    (C_na_Order__above : NoAttr K CO "_above")
    (C_na_Order_names : NoAttr K CO "names") :
    FnOk P w K mg base (L2.CX P w) 2 f fd ["self"] (spCovers CO) := by
  refine fnOk_mk F sc_Order_covers (fun vs H Q E h => h.1) (fun cdv A outer s H vs Q E hr h => ?_)
  obtain ⟨_, a, N, R, rfl, ho, k⟩ := h
  obtain ⟨dx, t, d, e1, _, _, hl, _, _⟩ := id ho
  have hll : N.length * N.length ≤ 8 * 8 := Nat.mul_le_mul hl hl
  have hpl := prs_len (N := N) (R := R)
  refine ⟨_, pss_one (ps_ret (pe_lc (own := [("low", 1), ("high", 2)]) (by rfl) sc_Order_covers.nd (pi_any (K := K) rfl (z_meth0C (pv 0) C_c_Order.toCls C_m_Order_pairs hr passN)) (blkOk_by (N := ["self", "low", "high"]) (sc := defScope s_Order_covers) (by decide +kernel)) (fun _ _ _ _ _ => k_tup (K := K) (n := 2) rfl rfl (pgs_cons (pg_name (i := 1) sc_Order_covers.nd rfl (Or.inl rfl)) (pgs_cons (pg_name (i := 2) sc_Order_covers.nd rfl (Or.inl rfl)) pgs_nil))) (fun _ _ _ _ _ => pts_one (pt_cmpR op_eq (pe_callB (k_len (K := K) rfl) (by rfl) C_b_len (by decide +kernel) (pa_cons (z_methC (pv 0) C_c_Order.toCls C_m_Order__between hr passN (pa_cons (pv 1) (pa_cons (pv 2) pa_nil))) pa_nil)) pe_int (nomark _))) (fun _ _ _ _ _ => pe_tup (pa_cons (pv 1) (pa_cons (pv 2) pa_nil))))), ?_⟩
  try dsimp only [cxOf]
  walk_at "rd"
  refine i_meth1 e1 (ro_no (by decide +kernel) (by decide +kernel)) ?_
  walk_at "rd"
  refine ⟨rfl, a, N, R, rfl, ho, fun p H1 hp s1 hP => ?_⟩
  obtain ⟨ps, es, ht⟩ := hP
  refine i_lcA (H0 := H1) (fun i ys H2 => Same H1 H2 ∧ ∃ qs, ys = qs.map V.ref ∧ TPr H2 qs (((OM.prs N R).take i).filter fun p => decide ((OM.btw N R p.1 p.2).length = 2))) (SqA.l es) (Same.refl _) ?_ ?_ ?_ ?_
  · intro D H' hD sm e ho
    exact ⟨sm, [], rfl, .nil⟩
  · exact fun i ys H2 p => p.1
  · rintro i v D ys H2 hD hx eD ⟨s2, qs, rfl, hq⟩
    rw [List.getElem?_map] at hx
    obtain ⟨q, hqi, rfl⟩ : ∃ q, ps[i]? = some q ∧ v = V.ref q := by
      cases e : ps[i]? with
      | none => rw [e] at hx; cases hx
      | some q => rw [e] at hx; exact ⟨q, rfl, (Option.some.inj hx).symm⟩
    have lt := (List.getElem?_eq_some_iff.mp hqi).1
    rw [ht.1] at lt
    have hei : (OM.prs N R)[i]? = some (OM.prs N R)[i] := by simp [lt]
    have eq := ht.2 i q _ hqi hei
    generalize hxy : (OM.prs N R)[i] = xy at *
    obtain ⟨x, y⟩ := xy
    have hm : (x, y) ∈ OM.prs N R := List.mem_of_getElem? (i := i) hei
    obtain ⟨hx0, hy0, _, _⟩ := OM.mem_prs.mp hm
    have oo := ho.mono (s1.trans s2)
    obtain ⟨dx2, t2, d2, e1', _⟩ := id oo
    refine i_gtup (SqT.of (s2 _ _ eq)) rfl ?_
    walk_at "rd"
    refine ⟨by with_unfolding_all rfl, ?_⟩
    walk_at "rd"
    refine i_meth1 e1' (ro_no (by decide +kernel) (by decide +kernel)) ?_
    walk_at "rd"
    refine ⟨rfl, a, N, R, x, y, rfl, oo, hx0, hy0, fun l H3 hl3 s3 e3 => ?_⟩
    walk_at "rd"
    refine i_lenA (SqA.l e3) ?_
    rw [List.length_map]
    walk_at "rd"
    refine i_dec (fun e => ?_) (fun e => ?_)
    · walk_at "rd"
      refine i_tup1 (by show 2 ≤ 100000; decide) fun q2 H4 hq4 s4 e4 ho4 => ?_
      have eD4 := s4 _ _ (s3 _ _ eD)
      refine i_lcE eD4 ?_ fun H5 e5 ho5 => ⟨fun b o eb => ?_, qs ++ [q2], by rw [List.map_append]; rfl, ?_⟩
      · rw [List.length_map, hq.1]
        have := List.length_filter_le (fun p => decide ((OM.btw N R p.1 p.2).length = 2)) ((OM.prs N R).take i)
        rw [List.length_take] at this
        omega
      · rw [ho5 b (ne_of_none eb hD)]
        exact s4 _ _ (s3 _ _ (s2 _ _ eb))
      · have := (((hq.mono s3).mono s4).snoc e4).keep (lst_keep eD4 ho5)
        rw [take_snoc hei, List.filter_append]
        have e2 : (OM.btw N R x y).length = 2 := by omega
        simpa [e2] using this
    · refine ⟨_, s3 _ _ eD, s2.trans s3, qs, rfl, ?_⟩
      rw [take_snoc hei, List.filter_append]
      have e2 : ¬ (OM.btw N R x y).length = 2 := by omega
      simpa [e2] using hq.mono s3
  · rintro D ys H2 hD eD ⟨s2, qs, rfl, hq⟩
    rw [List.length_map, ht.1, List.take_length] at hq
    refine k D H2 ?_ (s1.trans s2) ⟨qs, eD, hq⟩
    cases z : H D with
    | none => rfl
    | some o => rw [s1 _ _ z] at hD; cases hD
def rowD (N : List Str) (R : Str → Str → Bool) : Key → PyData
  | .inr n => .tuple ((OM.ab N R n).map .str)
  | _ => .none
abbrev s_Order___eq__ : Stmt := inClass (top 21) 15
theorem sc_Order___eq__ : FnScope ["self", "other"] ["self", "other"] (defScope s_Order___eq__) := ⟨rfl, rfl, rfl, by decide +kernel, rfl, by decide +kernel, by decide +kernel⟩
theorem ok_Order___eq__ {P : Program} {w : World} {K : PySem.W.Frag} {mg : Str → Option Value} {base : Heap} {CO : Addr} {f : Addr} {fd : FuncData} (F : L2.Fun K "__eq__" "Order.__eq__" s_Order___eq__ f fd)
    (C_b_isinstance : mg "isinstance" = none)
    (C_c_Order : ClO K CO)
    (C_gOrder : mg "Order" = some (.ref CO))
    (C_ki_Order_Order : PySem.W.kitOne K (.ref CO) (.ref CO) = some true)
    (C_na_Order__above : NoAttr K CO "_above")
    (C_na_Order_names : NoAttr K CO "names") :
    FnOk P w K mg base (L2.CX P w) 1 f fd ["self", "other"] (spOEq K CO) := by
  refine fnOk_mk F sc_Order___eq__ (fun vs H Q E h => h.1) (fun cdv A outer s H vs Q E hr h => ?_)
  obtain ⟨_, a, N, R, y, rfl, ho, cs⟩ := h
  refine ⟨_, pss_one (ps_ret (pe_and (pe_callB call_isi (by rfl) C_b_isinstance (by decide +kernel) (pa_cons (pv 1) (pa_cons ((pe_glob (v := .ref CO) rfl C_gOrder rfl)) pa_nil))) (pe_and (pe_cmpR (k_eqD (K := K) rfl hr.units) (pe_fld (pv 0) rfl) (pe_fld (pv 1) rfl) (nomark _)) (pe_one (pe_cmpR (k_eqDD (K := K) rfl (u66 hr)) (pe_fld (pv 0) rfl) (pe_fld (pv 1) rfl) (nomark _)))))), ?_⟩
  try dsimp only [cxOf]
  walk_at "rd"
  rcases cs with ⟨b, M, S, rfl, ho2, k⟩ | ⟨t, ty, hk, k⟩
  · obtain ⟨dx, t, d, e1, e2, ⟨A', e3, e4⟩, hl, hN, hnl⟩ := ho
    obtain ⟨dx2, t2, d2, f1, f2, ⟨A2, f3, f4⟩, hl2, hN2, hnl2⟩ := ho2
    refine i_isiO (C_c_Order.ty f1) (b := true) C_ki_Order_Order ?_
    walk_at "rd"
    refine i_fld1 e1 C_c_Order.toCls C_na_Order_names rf_names ?_
    walk_at "rd"
    refine i_fld1 f1 C_c_Order.toCls C_na_Order_names rf_names ?_
    refine ⟨_, _, .tup (SqT.of e2) (dp_strs N), .tup (SqT.of f2) (dp_strs M), shaped_tupS hnl, shaped_tupS hnl2, ?_⟩
    rw [eqv_tupS]
    refine ⟨_, rfl, ?_⟩
    refine i_dec (fun e => ?_) (fun e => ?_)
    · subst e
      walk_at "rd"
      refine i_fld1 e1 C_c_Order.toCls C_na_Order__above rf_above ?_
      walk_at "rd"
      refine i_fld1 f1 C_c_Order.toCls C_na_Order__above rf_above ?_
      have keys : ∀ A : Str → Addr, (rowsOf N A).map (·.1) = N.map Sum.inr := fun A => by unfold rowsOf; rw [List.map_map]; rfl
      have one : ∀ (A : Str → Addr) (T : Str → Str → Bool), (∀ n ∈ N, H (A n) = some (.tup ((OM.ab N T n).map V.str))) → ∀ p ∈ rowsOf N A, Dp K H p.2 (rowD N T p.1) ∧ SeqAt.shaped (rowD N T p.1) = true := by
        intro A T h p hp
        obtain ⟨n, hn, rfl⟩ := List.mem_map.mp hp
        exact ⟨.tup (SqT.of (h n hn)) (dp_strs _), shaped_tupS fun z hz => hnl z (OM.mem_ab.mp hz).1⟩
      refine ⟨d, d2, _, _, rowD N R, rowD N S, rfl, rfl, e3, f3, by rw [keys, keys], one A' R e4, one A2 S f4, ?_⟩
      have ef : ((rowsOf N A').map (·.1)).all (fun q : Key => PyData.eqv (rowD N R q) (rowD N S q)) = (decide (N = N) && N.all fun n => decide (OM.ab N R n = OM.ab N S n)) := by
        rw [keys, List.all_map, decide_eq_true rfl, Bool.true_and]
        congr 1
        funext n
        exact eqv_tupS _ _
      rw [ef]
      exact k H (Same.refl _)
    · have := k H (Same.refl _)
      rw [decide_eq_false e, Bool.false_and] at this
      exact this
  · refine i_isiO ty hk ?_
    walk_at "rd"
    exact k H (Same.refl _)
theorem joinL_le (s : List Nat) : ∀ l : List (List Nat), (TL.joinL s l).length ≤ (l.map List.length).sum + l.length * s.length
  | [] => by simp [TL.joinL]
  | [p] => by simp [TL.joinL]
  | p :: q :: r => by
    have ih := joinL_le s (q :: r)
    show (p ++ (s ++ TL.joinL s (q :: r))).length ≤ _
    rw [List.length_append, List.length_append]
    simp only [List.map_cons, List.sum_cons, List.length_cons, Nat.succ_mul] at ih ⊢
    omega
theorem sum_le {B : Nat} : ∀ ys : List Str, (∀ z ∈ ys, z.length ≤ B) → (ys.map (·.length)).sum ≤ ys.length * B
  | [], _ => by simp
  | z :: ys, h => by
    have ih := sum_le ys fun w hw => h w (List.mem_cons_of_mem _ hw)
    have := h z List.mem_cons_self
    simp only [List.map_cons, List.sum_cons, List.length_cons, Nat.succ_mul]
    omega
theorem join_le {sep : Str} {B : Nat} {ys : List Str} (h : ∀ z ∈ ys, z.length ≤ B) : (Txt.join sep ys).length ≤ ys.length * B + ys.length * sep.length := by
  have h1 := joinL_le (TL.tl sep) (ys.map TL.tl)
  have e : (ys.map TL.tl).map List.length = ys.map (·.length) := by
    rw [List.map_map]
    refine List.map_congr_left fun z _ => ?_
    exact (TL.len_tl z).symm
  rw [e, List.length_map, ← TL.tl_join, ← TL.join_eq, ← TL.len_tl, ← TL.len_tl] at h1
  have := sum_le ys h
  omega
theorem i_star {K : PySem.W.Frag} {te : TE} {t : TA} {σ : L2.St} {H : Hp} {Q : List V → Hp → Prop} (h : te σ H fun x H1 => ∃ p xs, x = V.ref p ∧ (SqT K H1 p xs ∨ SqL K H1 p xs) ∧ t σ H1 fun ys H2 => Q (xs ++ ys) H2) : StX.tStar K te t σ H Q := h
def eT (e : Str × Str) : Str := e.1 ++ Str.ofString " < " ++ e.2
def txtP (N : List Str) (E : List (Str × Str)) : Str := Txt.join (Str.ofString "; ") (Txt.join (Str.ofString " ") N :: E.map eT)
theorem empty_app (x : Str) : Str.empty ++ x = x := by
  refine TL.ext_tl ?_
  rw [TL.tl_append]
  rfl
def spOStrX (CO : Addr) : Sp := fun vs H Q _ => vs.length = 1 ∧ ∃ a N R, vs = [.ref a] ∧ IsO CO H a N R ∧ ∀ H', Same H H' → Q (.str (txtP N (OM.cvs N R))) H'
abbrev s_Order___str__ : Stmt := inClass (top 21) 16
theorem sc_Order___str__ : FnScope ["self", "low", "high"] ["self"] (defScope s_Order___str__) := ⟨rfl, rfl, rfl, by decide +kernel, rfl, by decide +kernel, by decide +kernel⟩
theorem ok_Order___str__ {P : Program} {w : World} {K : PySem.W.Frag} {mg : Str → Option Value} {base : Heap} {CO : Addr} {f : Addr} {fd : FuncData} (F : L2.Fun K "__str__" "Order.__str__" s_Order___str__ f fd)
    (C_c_Order : ClO K CO)
    (C_m_Order_covers : CalM P w K mg base CO "covers" 2 (spCovers CO))
    (C_na_Order__above : NoAttr K CO "_above")
    (C_na_Order_names : NoAttr K CO "names") :
    FnOk P w K mg base (L2.CX P w) 3 f fd ["self"] (spOStrX CO) := by
  refine fnOk_mk F sc_Order___str__ (fun vs H Q E h => h.1) (fun cdv A outer s H vs Q E hr h => ?_)
  obtain ⟨_, a, N, R, rfl, ho, k⟩ := h
  obtain ⟨dx, t, d, e1, e2, _, hl, hN, hnl⟩ := id ho
  have hll : N.length * N.length ≤ 8 * 8 := Nat.mul_le_mul hl hl
  have hpl := prs_len (N := N) (R := R)
  refine ⟨_, pss_one (ps_ret (pe_bm PySem.F.plainAttrs_str PySem.F.slot_str_join PySem.F.type_str_join mt_join pe_str (pa_cons (pe_lst (pa_cons (pe_bm PySem.F.plainAttrs_str PySem.F.slot_str_join PySem.F.type_str_join mt_join pe_str (pa_cons (pe_fld (pv 0) rfl) pa_nil)) (StX.pa_star (pe_lc (own := [("low", 1), ("high", 2)]) (by rfl) sc_Order___str__.nd (pi_any (K := K) rfl (z_meth0C (pv 0) C_c_Order.toCls C_m_Order_covers hr passN)) (blkOk_by (N := ["self", "low", "high"]) (sc := defScope s_Order___str__) (by decide +kernel)) (fun _ _ _ _ _ => k_tup (K := K) (n := 2) rfl rfl (pgs_cons (pg_name (i := 1) sc_Order___str__.nd rfl (Or.inl rfl)) (pgs_cons (pg_name (i := 2) sc_Order___str__.nd rfl (Or.inl rfl)) pgs_nil))) (fun _ _ _ _ _ => pts_nil) (fun _ _ _ _ _ => pe_joined (PJ.cons (pe_fmt (pv 1)) (PJ.cons pe_str (PJ.cons (pe_fmt (pv 2)) PJ.nil))))) pa_nil))) pa_nil))), ?_⟩
  try dsimp only [cxOf]
  walk_at "rd"
  have hcl : (OM.cvs N R).length ≤ N.length * N.length := Nat.le_trans (List.length_filter_le _ _) hpl
  refine ⟨rfl, ?_⟩
  walk_at "rd"
  refine ⟨rfl, ?_⟩
  walk_at "rd"
  refine i_fld1 e1 C_c_Order.toCls C_na_Order_names rf_names ?_
  walk_at "rd"
  have l1 : (Str.ofString " ").length = 1 := by decide +kernel
  have l2 : (Str.ofString "; ").length = 2 := by decide +kernel
  have l3 : (Str.ofString " < ").length = 3 := by decide +kernel
  have b1 := sum_le N (B := 8) fun z hz => nameB_len (hnl z hz)
  have b2 := join_le (sep := Str.ofString " ") (ys := N) (B := 8) fun z hz => nameB_len (hnl z hz)
  rw [show N.length * (Str.ofString " ").length = N.length by rw [l1, Nat.mul_one]] at b2
  refine ⟨_, t, N, rfl, rfl, .inr (.of e2), by rw [l1]; omega, ?_⟩
  refine i_star ?_
  walk_at "rd"
  refine i_meth1 e1 (ro_no (by decide +kernel) (by decide +kernel)) ?_
  walk_at "rd"
  refine ⟨rfl, a, N, R, rfl, ho, fun p H1 hp s1 hP => ?_⟩
  obtain ⟨ps, es, ht⟩ := hP
  refine i_lcA (H0 := H1) (fun i ys H2 => Same H1 H2 ∧ ∃ zs : List Str, ys = zs.map V.str ∧ zs.length ≤ i ∧ (∀ z ∈ zs, z.length ≤ 19) ∧ zs = ((OM.cvs N R).take i).map eT) (SqA.l es) (Same.refl _) ?_ ?_ ?_ ?_
  · intro D H' hD sm e ho
    exact ⟨sm, [], rfl, Nat.zero_le _, fun z hz => absurd hz (by simp), rfl⟩
  · exact fun i ys H2 p => p.1
  · rintro i v D ys H2 hD hx eD ⟨s2, zs, rfl, hz, hzl, hze⟩
    rw [List.getElem?_map] at hx
    obtain ⟨q, hqi, rfl⟩ : ∃ q, ps[i]? = some q ∧ v = V.ref q := by
      cases e : ps[i]? with
      | none => rw [e] at hx; cases hx
      | some q => rw [e] at hx; exact ⟨q, rfl, (Option.some.inj hx).symm⟩
    have lt := (List.getElem?_eq_some_iff.mp hqi).1
    rw [ht.1] at lt
    have hei : (OM.cvs N R)[i]? = some (OM.cvs N R)[i] := by simp [lt]
    have eq := ht.2 i q _ hqi hei
    generalize hxy : (OM.cvs N R)[i] = xy at *
    obtain ⟨x, y⟩ := xy
    have hm : (x, y) ∈ OM.cvs N R := List.mem_of_getElem? (i := i) hei
    obtain ⟨hx0, hy0, _, _⟩ := OM.mem_prs.mp (List.mem_filter.mp hm).1
    have lx := nameB_len (hnl x hx0)
    have ly := nameB_len (hnl y hy0)
    refine i_gtup (SqT.of (s2 _ _ eq)) rfl ?_
    walk_at "rd"
    refine ⟨by with_unfolding_all rfl, ?_⟩
    walk_at "rd"
    refine i_fmtS (by show x.length ≤ _; rw [sizeLine_eq]; omega) ?_
    have l0 : Str.empty.length = 0 := by decide +kernel
    have n1 : (Str.empty ++ x).length = x.length := by rw [Str.length_append, l0, Nat.zero_add]
    have n2 : (Str.empty ++ x ++ Str.ofString " < ").length = x.length + 3 := by rw [Str.length_append, n1, l3]
    refine i_js1 (by rw [n1, sizeLine_eq]; omega) ?_
    walk_at "rd"
    refine i_js1 (by rw [n2, sizeLine_eq]; omega) ?_
    walk_at "rd"
    refine i_fmtS (by show y.length ≤ _; rw [sizeLine_eq]; omega) ?_
    have n3 : (Str.empty ++ x ++ Str.ofString " < " ++ y).length = x.length + 3 + y.length := by rw [Str.length_append, n2]
    refine i_js1 (by rw [n3, sizeLine_eq]; omega) ?_
    walk_at "rd"
    refine i_lcE eD ?_ fun H5 e5 ho5 => ⟨fun b o eb => ?_, zs ++ [_], by rw [List.map_append]; rfl, ?_, ?_, ?_⟩
    · rw [List.length_map]
      omega
    · rw [ho5 b (ne_of_none eb hD)]
      exact s2 _ _ eb
    · rw [List.length_append]
      show _ + 1 ≤ _
      omega
    · intro z hzm
      rcases List.mem_append.mp hzm with h | h
      · exact hzl z h
      · rw [List.mem_singleton.mp h]
        show Str.length (Str.empty ++ x ++ Str.ofString " < " ++ y) ≤ 19
        omega
    · rw [take_snoc hei, List.map_append, hze, empty_app]
      rfl
  · rintro D ys H2 hD eD ⟨s2, zs, rfl, hz, hzl, hze⟩
    rw [List.length_map, ht.1] at hz
    rw [List.length_map, ht.1, List.take_length] at hze
    refine ⟨D, _, rfl, .inr (.of eD), ?_⟩
    walk_at "rd"
    have el : V.str (Txt.join (Str.ofString " ") N) :: (zs.map V.str ++ []) = (Txt.join (Str.ofString " ") N :: zs).map V.str := by simp
    rw [el]
    refine i_lst1 (by rw [List.length_map, List.length_cons]; omega) fun q H3 hq s3 e3 ho3 => ?_
    walk_at "rd"
    have b3 := sum_le zs hzl
    refine ⟨_, q, _, rfl, rfl, .inl (.of e3), ?_, ?_⟩
    · rw [List.map_cons, List.sum_cons, List.length_cons, l2]
      omega
    · rw [hze]
      exact k _ ((s1.trans s2).trans s3)

/-- a word of a text -/
def wordB (z : Str) : Bool := !decide (z = Str.ofString "") && !([32, 59, 60].any fun c => decide (c ∈ z.cps.toList))
def spWords (K : PySem.W.Frag) : Sp := fun vs H Q _ => vs.length = 1 ∧ ∃ (a : Addr) (zs : List Str), vs = [.ref a] ∧ SqA K H a (zs.map V.str) ∧ zs.length ≤ 30000 ∧ ∀ H', Same H H' → Q (.bl (zs.all wordB)) H'
def spWord : Sp := fun vs H Q _ => vs.length = 1 ∧ ∃ z : Str, vs = [.str z] ∧ ∀ H', Same H H' → Q (.bl (wordB z)) H'
theorem sgn_tl : TL.tl (Str.ofString " ;<") = [32, 59, 60] := by decide +kernel
abbrev s__are_words : Stmt := top 20
theorem sc__are_words : FnScope ["words", "sign", "word"] ["words"] (defScope s__are_words) := ⟨rfl, rfl, rfl, by decide +kernel, rfl, by decide +kernel, by decide +kernel⟩
theorem ok__are_words {P : Program} {w : World} {K : PySem.W.Frag} {mg : Str → Option Value} {base : Heap} {f : Addr} {fd : FuncData} (F : L2.Fun K "_are_words" "_are_words" s__are_words f fd)
    (C_b_all : mg "all" = none)
    (C_b_any : mg "any" = none) :
    FnOk P w K mg base (L2.CX P w) 1 f fd ["words"] (spWords K) := by
  refine fnOk_mk F sc__are_words (fun vs H Q E h => h.1) (fun cdv A outer s H vs Q E hr h => ?_)
  obtain ⟨_, a, zs, rfl, hs, hl, k⟩ := h
  refine ⟨_, pss_one (ps_ret (pe_callB (k_all rfl (K := K) rfl) (by rfl) C_b_all (by decide +kernel) (pa_cons (pe_lc (own := [("word", 2)]) (by rfl) sc__are_words.nd (pi_any (K := K) rfl (pv 0)) (blkOk_by (N := ["words", "sign", "word"]) (sc := defScope s__are_words) (by decide +kernel)) (fun _ _ _ _ _ => pg_name (i := 2) sc__are_words.nd rfl (Or.inr rfl)) (fun _ _ _ _ _ => pts_nil) (fun _ _ _ _ _ => pe_and (pe_cmpR op_ne (pv 2) pe_str (nomark _)) (pe_one (pe_not (pe_callB (k_any rfl (K := K) rfl) (by rfl) C_b_any (by decide +kernel) (pa_cons (pe_lc (own := [("sign", 1)]) (by rfl) sc__are_words.nd (pi_str pe_str) (blkOk_by (N := ["words", "sign", "word"]) (by rfl)) (fun _ _ _ _ _ => pg_name (i := 1) sc__are_words.nd rfl (Or.inl rfl)) (fun _ _ _ _ _ => pts_nil) (fun _ _ _ _ _ => pe_cmpR op_in_sign (pv 1) (pv 2) rfl)) pa_nil)))))) pa_nil))), ?_⟩
  try dsimp only [cxOf]
  walk_at "rd"
  refine i_lcA (H0 := H) (fun i ys H1 => Same H H1 ∧ ys = ((zs.take i).map wordB).map V.bl) hs (Same.refl _) (fun D H' hD s e ho => ⟨s, rfl⟩) (fun i ys H1 p => p.1) ?_ ?_
  · rintro i x D ys H1 hD hx eD ⟨s1, rfl⟩
    obtain ⟨z, hz, rfl⟩ := strs_at hx
    have lt := (List.getElem?_eq_some_iff.mp hz).1
    walk_at "rd"
    refine ⟨by with_unfolding_all rfl, ?_⟩
    walk_at "rd"
    have fin : ∀ (b : Bool) (H2 : Hp), Same H1 H2 → b = wordB z → rLcE D (fun i ys H1 => Same H H1 ∧ ys = ((zs.take i).map wordB).map V.bl) i (V.bl b) H2 := by
      rintro b H2 s2 rfl
      refine i_lcE (s2 _ _ eD) ?_ fun H3 e3 o3 => ⟨fun c o ec => ?_, ?_⟩
      · rw [List.length_map, List.length_map, List.length_take]
        omega
      · rw [o3 c (ne_of_none ec hD)]
        exact s2 _ _ (s1 _ _ ec)
      · rw [take_snoc hz, List.map_append, List.map_append]
        rfl
    by_cases e : z = Str.ofString ""
    · rw [if_neg (by rw [decide_eq_true e]; decide)]
      exact fin false H1 (Same.refl _) (by unfold wordB; rw [decide_eq_true e]; rfl)
    · rw [if_pos (by rw [decide_eq_false e]; rfl)]
      walk_at "rd"
      refine i_lcS (fun i ys H' => Same H1 H' ∧ ys = ((([32, 59, 60] : List Nat).take i).map fun c => decide (c ∈ z.cps.toList)).map V.bl) (fun D H' hD s e' ho => ⟨s, rfl⟩) ?_ ?_
      · rintro j c D2 ys H2 hD2 hc eD2 ⟨s2, rfl⟩
        rw [sgn_tl] at hc
        walk_at "rd"
        refine ⟨by with_unfolding_all rfl, ?_⟩
        walk_at "rd"
        refine ⟨c, z, rfl, rfl, ?_⟩
        refine i_lcE eD2 ?_ fun H3 e3 o3 => ⟨fun b o eb => ?_, ?_⟩
        · rw [List.length_map, List.length_map, List.length_take]
          show min j 3 < _
          omega
        · rw [o3 b (ne_of_none eb hD2)]
          exact s2 _ _ eb
        · rw [take_snoc hc, List.map_append, List.map_append]
          rfl
      · rintro D2 ys H2 hD2 eD2 ⟨s2, rfl⟩
        rw [sgn_tl, show ([32, 59, 60] : List Nat).length = 3 from rfl] at eD2
        walk_at "rd"
        refine i_any eD2 ?_
        rw [List.any_map]
        walk_at "rd"
        exact fin _ H2 s2 (by unfold wordB; rw [decide_eq_false e]; rfl)
  · rintro D ys H1 hD eD ⟨s1, rfl⟩
    rw [List.length_map, List.take_length] at eD
    walk_at "rd"
    refine i_all eD ?_
    rw [List.all_map]
    exact k H1 s1
abbrev s__law_is_word : Stmt := top 31
theorem sc__law_is_word : FnScope ["_law_text_here", "_law_sign"] ["_law_text_here"] (defScope s__law_is_word) := ⟨rfl, rfl, rfl, by decide +kernel, rfl, by decide +kernel, by decide +kernel⟩
theorem ok__law_is_word {P : Program} {w : World} {K : PySem.W.Frag} {mg : Str → Option Value} {base : Heap} {f : Addr} {fd : FuncData} (F : L2.Fun K "_law_is_word" "_law_is_word" s__law_is_word f fd)
    (C_b_any : mg "any" = none) :
    FnOk P w K mg base (L2.CX P w) 1 f fd ["_law_text_here"] spWord := by
  refine fnOk_mk F sc__law_is_word (fun vs H Q E h => h.1) (fun cdv A outer s H vs Q E hr h => ?_)
  obtain ⟨_, z, rfl, k⟩ := h
  refine ⟨_, pss_one (ps_ret (pe_and (pe_cmpR op_ne (pv 0) pe_str (nomark _)) (pe_one (pe_not (pe_callB (k_any rfl (K := K) rfl) (by rfl) C_b_any (by decide +kernel) (pa_cons (pe_lc (own := [("_law_sign", 1)]) (by rfl) sc__law_is_word.nd (pi_any (K := K) rfl (pe_lst (pa_cons pe_str (pa_cons pe_str (pa_cons pe_str pa_nil))))) (blkOk_by (N := ["_law_text_here", "_law_sign"]) (sc := defScope s__law_is_word) (by decide +kernel)) (fun _ _ _ _ _ => pg_name (i := 1) sc__law_is_word.nd rfl (Or.inl rfl)) (fun _ _ _ _ _ => pts_nil) (fun _ _ _ _ _ => pe_cmpR op_in_sign (pv 1) (pv 0) rfl)) pa_nil)))))), ?_⟩
  try dsimp only [cxOf]
  walk_at "rd"
  by_cases e : z = Str.ofString ""
  · rw [if_neg (by rw [decide_eq_true e]; decide)]
    have : wordB z = false := by unfold wordB; rw [decide_eq_true e]; rfl
    rw [← this]
    exact k H (Same.refl _)
  · rw [if_pos (by rw [decide_eq_false e]; rfl)]
    walk_at "rd"
    refine i_lst1 (Nat.le_of_ble_eq_true rfl) fun l H1 hl s1 e1 o1 => ?_
    refine i_lcA (H0 := H1) (fun i ys H' => Same H1 H' ∧ ys = ((([32, 59, 60] : List Nat).take i).map fun c => decide (c ∈ z.cps.toList)).map V.bl) (SqA.l e1) (Same.refl _) (fun D H' hD s e ho => ⟨s, rfl⟩) (fun i ys H' p => p.1) ?_ ?_
    · rintro j x D2 ys H2 hD2 hx eD2 ⟨s2, rfl⟩
      obtain ⟨c, hc, ex⟩ : ∃ c : Nat, ([32, 59, 60] : List Nat)[j]? = some c ∧ x = V.str ⟨#[c]⟩ := by
        have lt := (List.getElem?_eq_some_iff.mp hx).1
        have : j = 0 ∨ j = 1 ∨ j = 2 := by
          have : j < 3 := lt
          omega
        rcases this with rfl | rfl | rfl
        · exact ⟨32, rfl, (Option.some.inj hx).symm⟩
        · exact ⟨59, rfl, (Option.some.inj hx).symm⟩
        · exact ⟨60, rfl, (Option.some.inj hx).symm⟩
      subst ex
      walk_at "rd"
      refine ⟨by with_unfolding_all rfl, ?_⟩
      walk_at "rd"
      refine ⟨c, z, rfl, rfl, ?_⟩
      refine i_lcE eD2 ?_ fun H3 e3 o3 => ⟨fun b o eb => ?_, ?_⟩
      · rw [List.length_map, List.length_map, List.length_take]
        show min j 3 < _
        omega
      · rw [o3 b (ne_of_none eb hD2)]
        exact s2 _ _ eb
      · rw [take_snoc hc, List.map_append, List.map_append]
        rfl
    · rintro D2 ys H2 hD2 eD2 ⟨s2, rfl⟩
      walk_at "rd"
      refine i_any eD2 ?_
      rw [List.any_map]
      walk_at "rd"
      have ew : wordB z = !([32, 59, 60] : List Nat).any fun c => decide (c ∈ z.cps.toList) := by unfold wordB; rw [decide_eq_false e]; rfl
      have h2 := k H2 (s1.trans s2)
      rw [ew] at h2
      exact h2

/-! ### pieces of a text -/
theorem spl_in (S : List Nat) : ∀ (xs : List Nat) (k : Nat) (acc p : List Nat), p ∈ TL.spl S k acc xs → p.length ≤ acc.length + xs.length ∧ ∀ c ∈ p, c ∈ acc ∨ c ∈ xs
  | [], k, acc, p, h => by
    rw [TL.spl_nil, List.mem_singleton] at h
    subst h
    exact ⟨Nat.le_add_right _ _, fun c hc => .inl hc⟩
  | c :: r, 0, acc, p, h => by
    rw [TL.spl] at h
    split at h
    · rcases List.mem_cons.mp h with rfl | h
      · exact ⟨Nat.le_add_right _ _, fun c hc => .inl hc⟩
      · obtain ⟨h1, h2⟩ := spl_in S r _ _ p h
        refine ⟨?_, fun d hd => ?_⟩
        · rw [List.length_nil] at h1
          rw [List.length_cons]
          omega
        · rcases h2 d hd with z | z
          · cases z
          · exact .inr (List.mem_cons_of_mem _ z)
    · obtain ⟨h1, h2⟩ := spl_in S r _ _ p h
      refine ⟨?_, fun d hd => ?_⟩
      · rw [List.length_append, List.length_singleton] at h1
        rw [List.length_cons]
        omega
      · rcases h2 d hd with z | z
        · rcases List.mem_append.mp z with z | z
          · exact .inl z
          · rw [List.mem_singleton.mp z]
            exact .inr List.mem_cons_self
        · exact .inr (List.mem_cons_of_mem _ z)
  | c :: r, k + 1, acc, p, h => by
    rw [TL.spl] at h
    obtain ⟨h1, h2⟩ := spl_in S r _ _ p h
    refine ⟨?_, fun d hd => ?_⟩
    · rw [List.length_cons]
      omega
    · rcases h2 d hd with z | z
      · exact .inl z
      · exact .inr (List.mem_cons_of_mem _ z)
theorem spl_cnt (S : List Nat) : ∀ (xs : List Nat) (k : Nat) (acc : List Nat), 1 ≤ (TL.spl S k acc xs).length ∧ (TL.spl S k acc xs).length ≤ xs.length + 1
  | [], k, acc => by
    rw [TL.spl_nil]
    exact ⟨Nat.le_refl _, Nat.le_refl _⟩
  | c :: r, 0, acc => by
    rw [TL.spl]
    split
    · have := spl_cnt S r (S.length - 1) []
      rw [List.length_cons, List.length_cons]
      omega
    · have := spl_cnt S r 0 (acc ++ [c])
      rw [List.length_cons]
      omega
  | c :: r, k + 1, acc => by
    rw [TL.spl]
    have := spl_cnt S r k acc
    rw [List.length_cons]
    omega
/-- a text that may be read: not too long, its signs plain -/
def okT (n : Nat) (z : Str) : Prop := z.length ≤ n ∧ ∀ c ∈ TL.tl z, c < 128
theorem okT.rw {n : Nat} {z : Str} (h : okT n z) (hn : n ≤ 39999) : RW z := by
  have h1 := StrLaws.reprText_len z (fun c hc => Nat.lt_trans (h.2 c hc) (by decide))
  have h2 := h.1
  unfold RW
  omega
theorem okT.split {n : Nat} {z y : Str} (h : okT n z) (hy : TL.tl y ≠ []) (hk : y.cps.all (· < 256) = true) : (∀ p ∈ Txt.split z y, okT n p) ∧ 1 ≤ (Txt.split z y).length ∧ (Txt.split z y).length ≤ n + 1 := by
  have e := TL.split_spl z y hy (TL.kind_ok hk)
  have lz := TL.len_tl z
  have c := spl_cnt (TL.tl y) (TL.tl z) 0 []
  have el : (Txt.split z y).length = (TL.spl (TL.tl y) 0 [] (TL.tl z)).length := by rw [← e, List.length_map]
  refine ⟨fun p hp => ?_, by omega, ?_⟩
  · have hm : TL.tl p ∈ TL.spl (TL.tl y) 0 [] (TL.tl z) := by rw [← e]; exact List.mem_map_of_mem hp
    obtain ⟨h1, h2⟩ := spl_in _ _ _ _ _ hm
    have lp := TL.len_tl p
    have := h.1
    refine ⟨?_, fun d hd => ?_⟩
    · rw [List.length_nil] at h1
      omega
    · rcases h2 d hd with q | q
      · cases q
      · exact h.2 d q
  · have := h.1
    omega
/-- one pair of a text -/
def pP (p : Str) : Option (Str × Str) := match Txt.split p (Str.ofString " < ") with
  | [a, b] => if (wordB a && wordB b) = true then some (a, b) else none
  | _ => none
theorem But.same {a : Addr} {H H' : Hp} (t : But a H H') {H0 : Hp} (n : H0 a = none) (s : Same H0 H) : Same H0 H' := fun b o e => t b o (ne_of_none e n) (s _ _ e)
theorem But.trans {a : Addr} {H H1 H2 : Hp} (s : But a H H1) (t : But a H1 H2) : But a H H2 := fun x o hx e => t x o hx (s x o hx e)
theorem But.of {a : Addr} {H H' : Hp} (s : Same H H') : But a H H' := fun x o _ e => s _ _ e
def del (q : Addr) (H : Hp) : Hp := fun x => if x = q then none else H x
theorem del_at {q x : Addr} {H : Hp} (h : x ≠ q) : del q H x = H x := if_neg h
theorem same_del {q : Addr} {H H' : Hp} (t : But q H H') : Same (del q H) H' := fun x o e => by
  by_cases h : x = q
  · rw [h] at e
    unfold del at e
    rw [if_pos rfl] at e
    cases e
  · rw [del_at h] at e
    exact t x o h e
theorem But.refl (a : Addr) (H : Hp) : But a H H := fun _ _ _ e => e
theorem i_newG {K : PySem.W.Frag} {CO CB CN CD CU CG b c : Addr} {H : Hp} {Q : VK} {X : XK} {zs : List Str} {E : List (Str × Str)} (hb : SqA K H b (zs.map V.str)) (hc : PrA K H c E) (h60 : zs.length ≤ 30000) (hl : ∀ z ∈ zs, z.length ≤ 100000 ∧ RW z) (hE : E.length ≤ 30000) (hR : ∀ e ∈ E, RW e.1 ∧ RW e.2)
    (kB : ¬ (1 ≤ zs.length ∧ zs.length ≤ 8) → ∀ d H', Same H H' → H' d = some (.xd [("n", .int (zs.length : Nat))]) → X (.ref CB) (some d) H')
    (kF : (1 ≤ zs.length ∧ zs.length ≤ 8) → ∀ b z, nmF [] zs = some (b, z) → ∀ d H', Same H H' → H' d = some (.xd [("name", .str z)]) → X (.ref (if b then CD else CN)) (some d) H')
    (kU : (1 ≤ zs.length ∧ zs.length ≤ 8) → nmF [] zs = none → ∀ z, missE zs E = some z → ∀ d H', Same H H' → H' d = some (.xd [("name", .str z)]) → X (.ref CU) (some d) H')
    (kR : (1 ≤ zs.length ∧ zs.length ≤ 8) → nmF [] zs = none → missE zs E = none → rings (srt zs) (OM.cl E) ≠ [] → ∀ d q H', Same H H' → H' d = some (.xd [("names", .ref q)]) → H' q = some (.lst ((rings (srt zs) (OM.cl E)).map V.str)) → X (.ref CG) (some d) H')
    (kO : (1 ≤ zs.length ∧ zs.length ≤ 8) → nmF [] zs = none → missE zs E = none → rings (srt zs) (OM.cl E) = [] → ∀ p H', H p = none → Same H H' → IsO CO H' p (srt zs) (OM.cl E) → Q (.ref p) H') :
    rNew CO (spOInitG K CO CB CN CD CU CG) [.ref b, .ref c] H Q X := by
  intro x dx hx hdx hne
  have sm : Same H (upd (upd H dx (.own x)) x (.ins CO dx [])) := fun c o e => by
    rw [upd_ne (ne_of_none e hx), upd_ne (ne_of_none e hdx)]
    exact e
  have bt : ∀ {H'}, But x (upd (upd H dx (.own x)) x (.ins CO dx [])) H' → Same H H' := fun t c o e => t c o (ne_of_none e hx) (sm _ _ e)
  have nmRB : ∀ (zs seen : List Str) b z, nmF seen zs = some (b, z) → z ∈ zs := by
    intro zs
    induction zs with
    | nil => intro seen b z h; cases h
    | cons y ys ih =>
      intro seen b z h
      rw [nmF_cons] at h
      split at h
      · cases h; exact List.mem_cons_self
      · split at h
        · cases h; exact List.mem_cons_self
        · exact List.mem_cons_of_mem _ (ih _ _ _ h)
  have miRB : ∀ z, missE zs E = some z → RW z := fun z hz => by
    have := List.mem_of_find?_eq_some hz
    obtain ⟨e, he, hm⟩ := List.mem_flatMap.mp this
    simp at hm
    rcases hm with rfl | rfl
    · exact (hR e he).1
    · exact (hR e he).2
  exact ⟨rfl, x, b, c, zs, E, rfl, ⟨dx, upd_same⟩, sameA sm hb, hc.mono sm, h60, fun z hz => (hl z hz).1, hE, fun g d H' t e => kB g d H' (bt t) e, fun g => ⟨fun b z hz => ⟨(hl z (nmRB zs [] b z hz)).2, fun d H' t e => kF g b z hz d H' (bt t) e⟩,
    fun g2 => ⟨fun z hz => ⟨miRB z hz, fun d H' t e => kU g g2 z hz d H' (bt t) e⟩, fun g3 => ⟨fun g4 d q H' t e1 e2 => kR g g2 g3 g4 d q H' (bt t) e1 e2, fun g4 H' io t => ⟨rfl, kO g g2 g3 g4 x H' hx (bt t) io⟩⟩⟩⟩⟩

theorem i_split {H : Hp} {Q : VK} {a b : Str} (hb : (b.length == 0) = false) (hl : a.length ≤ 100000) (h : ∀ p H', H p = none → Same H H' → H' p = some (.lst ((Txt.split a b).map V.str)) → (∀ c, c ≠ p → H' c = H c) → Q (.ref p) H') :
    ∃ a' b', V.str a = V.str a' ∧ [V.str b] = [V.str b'] ∧ (b'.length == 0) = false ∧ a'.length + 2 ≤ sizeLine ∧ rNewStrs (Txt.split a' b') H Q :=
  ⟨a, b, rfl, rfl, hb, by rw [sizeLine_eq]; omega, fun p hp => h p _ hp (fun c o e => by rw [upd_ne (ne_of_none e hp)]; exact e) upd_same fun c hc => upd_ne hc⟩
theorem pP_some {p : Str} {e : Str × Str} (h : pP p = some e) : Txt.split p (Str.ofString " < ") = [e.1, e.2] ∧ wordB e.1 = true ∧ wordB e.2 = true := by
  unfold pP at h
  split at h
  · rename_i a b hs
    split at h
    · rename_i hw
      cases h
      rw [Bool.and_eq_true] at hw
      exact ⟨hs, hw.1, hw.2⟩
    · cases h
  · cases h
theorem pP_two {p a b : Str} (h : Txt.split p (Str.ofString " < ") = [a, b]) : pP p = if ([a, b].all wordB) = true then some (a, b) else none := by
  unfold pP
  rw [h]
  simp
theorem pP_len {p : Str} (h : (Txt.split p (Str.ofString " < ")).length ≠ 2) : pP p = none := by
  unfold pP
  split
  · rename_i a b hs
    rw [hs] at h
    exact absurd rfl h
  · rfl
theorem same_noneV {H H' : Hp} (s : Same H H') {c : Addr} (h : H' c = none) : H c = none := by
  cases z : H c with
  | none => rfl
  | some o => rw [s _ _ z] at h; cases h
def EText (CX : Addr) (n : Int) (H : Hp) (E : XK) : Prop := ∀ d H', Same H H' → H' d = some (.xd [("at", .int n)]) → E (.ref CX) (some d) H'
/-- all ways out of Order(zs, E) -/
structure OutG (CO CB CN CD CU CG : Addr) (zs : List Str) (E : List (Str × Str)) (H : Hp) (Q : VK) (X : XK) : Prop where
  kB : ¬ (1 ≤ zs.length ∧ zs.length ≤ 8) → ∀ d H', Same H H' → H' d = some (.xd [("n", .int (zs.length : Nat))]) → X (.ref CB) (some d) H'
  kF : (1 ≤ zs.length ∧ zs.length ≤ 8) → ∀ b z, nmF [] zs = some (b, z) → ∀ d H', Same H H' → H' d = some (.xd [("name", .str z)]) → X (.ref (if b then CD else CN)) (some d) H'
  kU : (1 ≤ zs.length ∧ zs.length ≤ 8) → nmF [] zs = none → ∀ z, missE zs E = some z → ∀ d H', Same H H' → H' d = some (.xd [("name", .str z)]) → X (.ref CU) (some d) H'
  kR : (1 ≤ zs.length ∧ zs.length ≤ 8) → nmF [] zs = none → missE zs E = none → rings (srt zs) (OM.cl E) ≠ [] → ∀ d q H', Same H H' → H' d = some (.xd [("names", .ref q)]) → H' q = some (.lst ((rings (srt zs) (OM.cl E)).map V.str)) → X (.ref CG) (some d) H'
  kO : (1 ≤ zs.length ∧ zs.length ≤ 8) → nmF [] zs = none → missE zs E = none → rings (srt zs) (OM.cl E) = [] → ∀ p H', H p = none → Same H H' → IsO CO H' p (srt zs) (OM.cl E) → Q (.ref p) H'
def spRead (CO CB CN CD CU CG CX : Addr) : Sp := fun vs H Q X => vs.length = 2 ∧ ∃ z : Str, vs = [.ref CO, .str z] ∧ okT 20000 z ∧ ∀ hd parts, Txt.split z (Str.ofString "; ") = hd :: parts →
  ((Txt.split hd (Str.ofString " ")).all wordB = false → EText CX 0 H X) ∧
  ((Txt.split hd (Str.ofString " ")).all wordB = true → (∀ (j : Nat) p, parts[j]? = some p → pP p = none → (∀ q ∈ parts.take j, (pP q).isSome = true) → EText CX (1 + (j : Nat)) H X) ∧
    ((∀ q ∈ parts, (pP q).isSome = true) → OutG CO CB CN CD CU CG (Txt.split hd (Str.ofString " ")) (parts.filterMap pP) H Q X))
abbrev s_Order_read : Stmt := inClass (top 21) 3
theorem sc_Order_read : FnScope ["cls", "text", "head", "parts", "names", "pairs", "at", "part", "words"] ["cls", "text"] (defScope s_Order_read) := ⟨rfl, rfl, rfl, by decide +kernel, rfl, by decide +kernel, by decide +kernel⟩
theorem ok_Order_read {P : Program} {w : World} {K : PySem.W.Frag} {mg : Str → Option Value} {base : Heap} {CB CD CG CN CO CU CX : Addr} {f : Addr} {fd : FuncData} (F : L2.Fun K "read" "Order.read" s_Order_read f fd)
    (C_b_enumerate : mg "enumerate" = none)
    (C_b_len : mg "len" = none)
    (C_f_are_words : Cal P w K mg base "_are_words" 1 (spWords K))
    (C_i_Order : CalI P w K mg base "Order" CO 4 (spOInitG K CO CB CN CD CU CG))
    (C_x_BadText : CalX P w K mg base "BadText" CX 2 ["self", "at"] (spX1 K CX "at" GInt)) :
    FnOk P w K mg base (L2.CX P w) 6 f fd ["cls", "text"] (spRead CO CB CN CD CU CG CX) := by
  refine fnOk_mk F sc_Order_read (fun vs H Q E h => h.1) (fun cdv A outer s H vs Q E hr h => ?_)
  obtain ⟨_, z, rfl, oz, k⟩ := h
  have sp1 := oz.split (y := Str.ofString "; ") (by decide +kernel) (by decide +kernel)
  obtain ⟨hd, parts, ep⟩ : ∃ hd parts, Txt.split z (Str.ofString "; ") = hd :: parts := by
    cases e : Txt.split z (Str.ofString "; ") with
    | nil => rw [e] at sp1; exact absurd sp1.2.1 (by simp)
    | cons a b => exact ⟨a, b, rfl⟩
  obtain ⟨kW, k⟩ := k hd parts ep
  rw [ep] at sp1
  have ohd := sp1.1 hd List.mem_cons_self
  have lp : parts.length ≤ 20000 := by
    have := sp1.2.2
    rw [List.length_cons] at this
    omega
  have sp2 := ohd.split (y := Str.ofString " ") (by decide +kernel) (by decide +kernel)
  refine ⟨_, pss_cons (ps_asg (pe_bm PySem.F.plainAttrs_str PySem.F.slot_str_split PySem.F.type_str_split mt_split (pv 1) (pa_cons pe_str pa_nil)) (k_star1 (K := K) rfl rfl (pgs_cons (pg_name (i := 2) sc_Order_read.nd rfl (Or.inl rfl)) (pgs_cons (pg_name (i := 3) sc_Order_read.nd rfl (Or.inl rfl)) pgs_nil))))
    (pss_cons (ps_set (i := 4) sc_Order_read.nd rfl (Or.inl rfl) (pe_bm PySem.F.plainAttrs_str PySem.F.slot_str_split PySem.F.type_str_split mt_split (pv 2) (pa_cons pe_str pa_nil)))
    (pss_cons (ps_if (pt_not (pt_val (z_callC C_f_are_words hr passN (pa_cons (pv 4) pa_nil)))) (pss_one (ps_raise rfl (takes_of rfl rfl rfl rfl) (z_mkX C_x_BadText hr (pa_cons pe_int pa_nil)))) (pss_nil))
    (pss_cons (ps_set (i := 5) sc_Order_read.nd rfl (Or.inl rfl) (pe_lst pa_nil))
    (pss_cons (ps_for (passes_of rfl) rfl (pi_enS (K := K) rfl (by rfl) C_b_enumerate (pa_cons (pv 3) pa_nil) (pk_cons pe_int pk_nil)) (k_tup (K := K) (n := 2) rfl rfl (pgs_cons (pg_name (i := 6) sc_Order_read.nd rfl (Or.inl rfl)) (pgs_cons (pg_name (i := 7) sc_Order_read.nd rfl (Or.inl rfl)) pgs_nil))) (pss_cons (ps_set (i := 8) sc_Order_read.nd rfl (Or.inl rfl) (pe_bm PySem.F.plainAttrs_str PySem.F.slot_str_split PySem.F.type_str_split mt_split (pv 7) (pa_cons pe_str pa_nil)))
    (pss_cons (ps_if (PW.pt (pw_or (pt_cmpR op_ne (pe_callB (k_len (K := K) rfl) (by rfl) C_b_len (by decide +kernel) (pa_cons (pv 8) pa_nil)) pe_int (nomark _)) (pw_or1 (pt_not (pt_val (z_callC C_f_are_words hr passN (pa_cons (pv 8) pa_nil))))))) (pss_one (ps_raise rfl (takes_of rfl rfl rfl rfl) (z_mkX C_x_BadText hr (pa_cons (pv 6) pa_nil)))) (pss_nil))
    (pss_one (ps_expr (pe_bm PySem.F.plainAttrs_list PySem.F.slot_list_append PySem.F.type_list_append mt_append (pv 5) (pa_cons (pe_tup (pa_cons (pe_ix ix_list (pv 8) pe_int (fun _ _ => rfl)) (pa_cons (pe_ix ix_list (pv 8) pe_int (fun _ _ => rfl)) pa_nil))) pa_nil)))))))
    (pss_one (ps_ret (z_makeL (i := 0) C_i_Order hr (fun σ => passAt (takes_of rfl rfl rfl rfl) σ) (pa_cons (pv 4) (pa_cons (pv 5) pa_nil))))))))), ?_⟩
  try dsimp only [cxOf]
  walk_at "rd"
  refine ⟨rfl, ?_⟩
  walk_at "rd"
  refine i_split (by decide +kernel) (by have := oz.1; omega) fun p1 H1 hp1 s1 e1 o1 => ?_
  rw [ep] at e1
  refine i_gstar (x := .str hd) (xs := parts.map V.str) (.of e1) fun p2 H2 hp2 s2 e2 o2 => ?_
  walk_at "rd"
  refine ⟨rfl, ?_⟩
  walk_at "rd"
  refine i_split (by decide +kernel) (by have := ohd.1; omega) fun p3 H3 hp3 s3 e3 o3 => ?_
  walk_at "rd"
  refine ⟨rfl, p3, _, rfl, .l e3, by have := sp2.2.2; omega, fun H4 s4 => ?_⟩
  have t4 := ((s1.trans s2).trans s3).trans s4
  have e3' := e3
  cases hw : (Txt.split hd (Str.ofString " ")).all wordB with
  | false =>
    walk_at "rd"
    exact i_mkX1 (fun H' s => ⟨0, rfl, ZR.sz0⟩) fun d H' hd' s e' => kW hw d H' (t4.trans s) e'
  | true =>
    obtain ⟨kE, kO⟩ := k hw
    walk_at "rd"
    refine i_lst1 (Nat.le_of_ble_eq_true rfl) fun q H5 hq s5 e5 o5 => ?_
    walk_at "rd"
    have t5 := t4.trans s5
    have nq : H q = none := same_noneV t4 hq
    have e2' : (del q H5) p2 = some (.lst (parts.map V.str)) := by
      have : p2 ≠ q := fun z => by rw [z] at e2; rw [s4 _ _ (s3 _ _ e2)] at hq; cases hq
      rw [del_at this]
      exact s5 _ _ (s4 _ _ (s3 _ _ e2))
    refine i_enS (k := 1) (H0 := del q H5) (fun i σ H' => (∃ v6 v7 v8, σ = [some (.ref CO), some (.str z), some (.str hd), some (.ref p2), some (.ref p3), some (.ref q), v6, v7, v8]) ∧ But q H5 H' ∧ LPr H' q ((parts.take i).filterMap pP) ∧ ∀ x ∈ parts.take i, (pP x).isSome = true) e2' ⟨by decide, by decide⟩ ⟨⟨_, _, _, rfl⟩, .refl _ _, ⟨[], e5, .nil⟩, fun x hx => absurd hx (by simp)⟩ (fun i σ H' p => same_del p.2.1) ?_ ?_
    · rintro i x T σ H6 H7 hx ⟨⟨v6, v7, v8, rfl⟩, bt6, lp6, al6⟩ hT s7 eT o7
      obtain ⟨p, hpi, rfl⟩ := strs_at hx
      refine i_gtup (SqT.of eT) rfl ?_
      walk_at "rd"
      refine ⟨rfl, ?_⟩
      walk_at "rd"
      have op := sp1.1 p (List.mem_cons_of_mem _ (List.mem_of_getElem? hpi))
      have lti := (List.getElem?_eq_some_iff.mp hpi).1
      have t6 : Same H H6 := fun c o e => bt6 c o (ne_of_none e nq) (t5 _ _ e)
      have t7 := t6.trans s7
      refine i_split (by decide +kernel) (by have := op.1; omega) fun p8 H8 hp8 s8 e8 o8 => ?_
      walk_at "rd"
      have t8 := t7.trans s8
      have bad : pP p = none → rMkO CX (spX1 K CX "at" GInt) [V.int (1 + (i : Nat))] H8 fun cls d H' => E cls d H' := fun hn =>
        i_mkX1 (fun H' s => ⟨_, rfl, ZR.Sz.mono (n := 15) (Nat.lt_of_le_of_lt (show ((1 : Int) + (i : Nat)).natAbs ≤ 21000 by omega) (by decide +kernel)) (by decide)⟩) fun d H' hd' s e' => kE i p hpi hn al6 d H' (t8.trans s) e'
      refine i_lenL (.of e8) ?_
      rw [List.length_map]
      walk_at "rd"
      refine i_ndec (fun g => ?_) (fun g => ?_)
      · walk_at "rd"
        exact bad (pP_len fun h => g (by omega))
      · obtain ⟨a, b, hab⟩ : ∃ a b, Txt.split p (Str.ofString " < ") = [a, b] := by
          match hs : Txt.split p (Str.ofString " < "), (show (Txt.split p (Str.ofString " < ")).length = 2 by omega) with
          | [a, b], _ => exact ⟨a, b, rfl⟩
        rw [hab] at e8
        walk_at "rd"
        refine ⟨rfl, p8, [a, b], rfl, .l e8, by show 2 ≤ 30000; decide, fun H9 s9 => ?_⟩
        have bad9 : pP p = none → rMkO CX (spX1 K CX "at" GInt) [V.int (1 + (i : Nat))] H9 fun cls d H' => E cls d H' := fun hn =>
          i_mkX1 (fun H' s => ⟨_, rfl, ZR.Sz.mono (n := 15) (Nat.lt_of_le_of_lt (show ((1 : Int) + (i : Nat)).natAbs ≤ 21000 by omega) (by decide +kernel)) (by decide)⟩) fun d H' hd' s e' => kE i p hpi hn al6 d H' ((t8.trans s9).trans s) e'
        have hpp := pP_two hab
        refine ⟨_, rfl, ?_⟩
        cases hw2 : [a, b].all wordB with
        | false =>
          rw [if_pos (by rfl)]
          walk_at "rd"
          exact bad9 (by rw [hpp, hw2]; rfl)
        | true =>
          rw [if_neg (by decide)]
          rw [hw2, if_pos rfl] at hpp
          obtain ⟨qs, eqs, tqs⟩ := id lp6
          have s79 := (s7.trans s8).trans s9
          walk_at "rd"
          refine ⟨tyL (s79 _ _ eqs), ?_⟩
          walk_at "rd"
          have e9 := s9 _ _ e8
          refine i_ix0 (.of e9) ?_
          walk_at "rd"
          refine i_ix1 (.of e9) ?_
          walk_at "rd"
          refine i_tup1 (by show 2 ≤ 100000; decide) fun u H10 hu s10 e10 o10 => ?_
          walk_at "rd"
          have eq10 := s10 _ _ (s79 _ _ eqs)
          have lq : qs.length = ((parts.take i).filterMap pP).length := tqs.1
          have lf : ((parts.take i).filterMap pP).length ≤ i := by
            have h1 := List.length_filterMap_le pP (parts.take i)
            rw [List.length_take] at h1
            omega
          refine i_app eq10 (by rw [List.length_map]; omega) fun H11 e11 o11 => ?_
          walk_at "rd"
          have s710 := s79.trans s10
          refine ⟨⟨_, _, _, rfl⟩, fun c o hc ec => ?_, ⟨qs ++ [u], ?_, ?_⟩, fun x hx => ?_⟩
          · rw [o11 c hc]
            exact s710 _ _ (bt6 c o hc ec)
          · rw [e11, List.map_append]
            rfl
          · rw [take_snoc hpi, List.filterMap_append]
            have e1 : [p].filterMap pP = [(a, b)] := by simp [List.filterMap, hpp]
            rw [e1]
            exact ((tqs.mono s710).snoc e10).keep (lst_keep eq10 o11)
          · rw [take_snoc hpi] at hx
            rcases List.mem_append.mp hx with hx | hx
            · exact al6 x hx
            · rw [List.mem_singleton.mp hx, hpp]
              rfl
    · rintro σ H6 ⟨⟨v6, v7, v8, rfl⟩, bt6, lp6, al6⟩
      rw [List.length_map, List.take_length] at lp6 al6
      walk_at "rd"
      refine ⟨by with_unfolding_all rfl, ?_⟩
      walk_at "rd"
      have KO := kO al6
      have t6 : Same H H6 := fun c o e => bt6 c o (ne_of_none e nq) (t5 _ _ e)
      have p3q : p3 ≠ q := fun z => by rw [← z, s4 _ _ e3'] at hq; cases hq
      have e3'' : H6 p3 = some (.lst ((Txt.split hd (Str.ofString " ")).map V.str)) := bt6 _ _ p3q (s5 _ _ (s4 _ _ e3'))
      have pr : ∀ e ∈ parts.filterMap pP, okT 20000 e.1 ∧ okT 20000 e.2 := fun e he => by
        obtain ⟨p, hp, hpe⟩ := List.mem_filterMap.mp he
        have h1 := ((sp1.1 p (List.mem_cons_of_mem _ hp)).split (y := Str.ofString " < ") (by decide +kernel) (by decide +kernel)).1
        rw [(pP_some hpe).1] at h1
        exact ⟨h1 _ (by simp), h1 _ (by simp)⟩
      refine i_newG (SqA.l e3'') lp6.a (by have := sp2.2.2; omega) (fun y hy => ⟨by have := (sp2.1 y hy).1; omega, (sp2.1 y hy).rw (by decide)⟩) (by have := List.length_filterMap_le pP parts; omega) (fun e he => ⟨(pr e he).1.rw (by decide), (pr e he).2.rw (by decide)⟩)
        (fun g d H' s e => KO.kB g d H' (t6.trans s) e) (fun g b z hz d H' s e => KO.kF g b z hz d H' (t6.trans s) e) (fun g g2 z hz d H' s e => KO.kU g g2 z hz d H' (t6.trans s) e) (fun g g2 g3 g4 d q H' s e e2 => KO.kR g g2 g3 g4 d q H' (t6.trans s) e e2) (fun g g2 g3 g4 p H' hp s io => KO.kO g g2 g3 g4 p H' (same_noneV t6 hp) (t6.trans s) io)
abbrev s__law_pool : Stmt := top 23
theorem sc__law_pool : FnScope ["_law_cell_here"] ["_law_cell_here"] (defScope s__law_pool) := ⟨rfl, rfl, rfl, by decide +kernel, rfl, by decide +kernel, by decide +kernel⟩
theorem ok__law_pool {P : Program} {w : World} {K : PySem.W.Frag} {mg : Str → Option Value} {base : Heap} {f : Addr} {fd : FuncData} (F : L2.Fun K "_law_pool" "_law_pool" s__law_pool f fd) :
    FnOk P w K mg base (L2.CX P w) 1 f fd ["_law_cell_here"] spPool := by
  refine fnOk_mk F sc__law_pool (fun vs H Q E h => h.1) (fun cdv A outer s H vs Q E hr h => ?_)
  obtain ⟨_, c, rfl, k⟩ := h
  refine ⟨_, pss_one (ps_ret (pe_lst (pa_cons (pv 0) (pa_cons pe_int (pa_cons (pe_cmpR op_ge (pv 0) (pe_op op_pow pe_int pe_int) (nomark _)) pa_nil))))), ?_⟩
  try dsimp only [cxOf]
  walk_at "rd"
  walk_at "rd"
  refine i_lst1 (Nat.le_of_ble_eq_true rfl) fun p H2 hp s e ho => ?_
  exact k p H2 hp s ho ⟨_, _, _, e⟩
abbrev s__law_cell : Stmt := top 25
theorem sc__law_cell : FnScope ["_law_script", "_law_k"] ["_law_script", "_law_k"] (defScope s__law_cell) := ⟨rfl, rfl, rfl, by decide +kernel, rfl, by decide +kernel, by decide +kernel⟩
theorem ok__law_cell {P : Program} {w : World} {K : PySem.W.Frag} {mg : Str → Option Value} {base : Heap} {f : Addr} {fd : FuncData} (F : L2.Fun K "_law_cell" "_law_cell" s__law_cell f fd)
    (C_b_len : mg "len" = none) :
    FnOk P w K mg base (L2.CX P w) 1 f fd ["_law_script", "_law_k"] (spCell K) := by
  refine fnOk_mk F sc__law_cell (fun vs H Q E h => h.1) (fun cdv A outer s H vs Q E hr h => ?_)
  obtain ⟨_, a, ns, i, rfl, hs, k⟩ := h
  refine ⟨_, pss_cons (ps_if (pt_cmpR op_lt (pv 1) (pe_callB (k_len (K := K) rfl) (by rfl) C_b_len (by decide +kernel) (pa_cons (pv 0) pa_nil)) (nomark _)) (pss_one (ps_ret (pe_ix ix_list (pv 0) (pv 1) (fun _ _ => rfl)))) (pss_nil))
    (pss_one (ps_ret pe_int)), ?_⟩
  try dsimp only [cxOf]
  walk_at "rd"
  refine ⟨a, _, rfl, .inl hs, ?_⟩
  walk_at "rd"
  refine i_dec (fun e => ?_) (fun e => ?_)
  · walk_at "rd"
    have hlt : i < ns.length := by
      rw [List.length_map] at e
      omega
    refine i_ixL hs (v := V.int ns[i]) (by simp [hlt]) ?_
    exact k _
  · walk_at "rd"
    exact k 0
abbrev s__law_take : Stmt := top 24
theorem sc__law_take : FnScope ["_law_pool_here", "_law_limit", "_law_drawn", "_law_mixed"] ["_law_pool_here", "_law_limit"] (defScope s__law_take) := ⟨rfl, rfl, rfl, by decide +kernel, rfl, by decide +kernel, by decide +kernel⟩
theorem ok__law_take {P : Program} {w : World} {K : PySem.W.Frag} {mg : Str → Option Value} {base : Heap} {f : Addr} {fd : FuncData} (F : L2.Fun K "_law_take" "_law_take" s__law_take f fd)
    (C_b_int : mg "int" = none) :
    FnOk P w K mg base (L2.CX P w) 1 f fd ["_law_pool_here", "_law_limit"] spTake := by
  refine fnOk_mk F sc__law_take (fun vs H Q E h => h.1) (fun cdv A outer s H vs Q E hr h => ?_)
  obtain ⟨_, p, l, rfl, ⟨c, k0, fl, hp⟩, h0, hz, k⟩ := h
  refine ⟨_, pss_cons (ps_asg (pe_op op_add (pe_ix ix_list (pv 0) pe_int (fun _ _ => rfl)) pe_int) (pg_sub (pv 0) pe_int set_list))
    (pss_cons (ps_if (pt_val (pe_ix ix_list (pv 0) pe_int (fun _ _ => rfl))) (pss_cons (ps_set (i := 2) sc__law_take.nd rfl (Or.inl rfl) (pe_op op_mod (pe_callTy call_int1 (by rfl) C_b_int (by decide +kernel) (pa_cons (pe_ix ix_list (pv 0) pe_int (fun _ _ => rfl)) pa_nil)) (pv 1)))
    (pss_cons (ps_asg (pe_op op_fdivZ (pe_callTy call_int1 (by rfl) C_b_int (by decide +kernel) (pa_cons (pe_ix ix_list (pv 0) pe_int (fun _ _ => rfl)) pa_nil)) (pv 1)) (pg_sub (pv 0) pe_int set_list))
    (pss_one (ps_ret (pv 2))))) (pss_nil))
    (pss_cons (ps_set (i := 3) sc__law_take.nd rfl (Or.inl rfl) (pe_op op_mod (pe_callTy call_int1 (by rfl) C_b_int (by decide +kernel) (pa_cons (pe_op op_add (pe_op op_add (pe_op op_mul (pe_ix ix_list (pv 0) pe_int (fun _ _ => rfl)) pe_int) (pe_op op_mul (pe_ix ix_list (pv 0) pe_int (fun _ _ => rfl)) pe_int)) pe_int) pa_nil)) pe_int))
    (pss_one (ps_ret (pe_op op_mod (pe_op op_fdivZ (pe_callTy call_int1 (by rfl) C_b_int (by decide +kernel) (pa_cons (pe_op op_mod (pe_op op_pow (pv 3) pe_int) pe_int) pa_nil)) pe_int) (pv 1)))))), ?_⟩
  try dsimp only [cxOf]
  walk_at "rd"
  refine i_ix1 (SqL.of hp) ?_
  walk_at "rd"
  refine i_setL (ys := [V.int c, V.int (k0 + 1), V.bl fl]) hp rfl rfl fun H2 e2 s2 => ?_
  have cl : ∀ i, CDivZ i l := fun i => cdivZ (by omega) hz
  walk_at "rd"
  refine i_ix2 (SqL.of e2) ?_
  walk_at "rd"
  cases fl
  · walk_at "rd"
    refine i_ix0 (SqL.of e2) ?_
    walk_at "rd"
    refine i_ix1 (SqL.of e2) ?_
    walk_at "rd"
    refine .inl ⟨_, rfl, ?_⟩
    walk_at "rd"
    refine i_rI ⟨by decide, by decide, ?_⟩ ?_
    · have h1 := Int.emod_lt_of_pos (c * 7919 + (k0 + 1) * 104729 + 13) (show (0 : Int) < 2147483647 by decide)
      have h2 := Int.emod_nonneg (c * 7919 + (k0 + 1) * 104729 + 13) (show (2147483647 : Int) ≠ 0 by decide)
      omega
    walk_at "rd"
    refine .inl ⟨_, rfl, ?_⟩
    walk_at "rd"
    exact k _ H2 (Int.emod_nonneg _ (by omega)) (Int.emod_lt_of_pos _ h0) s2 ⟨_, _, _, e2⟩
  · walk_at "rd"
    refine i_ix0 (SqL.of e2) ?_
    walk_at "rd"
    refine .inl ⟨_, rfl, ?_⟩
    walk_at "rd"
    refine i_ix0 (SqL.of e2) ?_
    walk_at "rd"
    refine .inl ⟨_, rfl, ?_⟩
    walk_at "rd"
    refine i_rI (cl _) ?_
    walk_at "rd"
    refine i_setL (ys := [V.int (c.fdiv l), V.int (k0 + 1), V.bl true]) e2 rfl rfl fun H3 e3 s3 => ?_
    walk_at "rd"
    exact k _ H3 (Int.emod_nonneg _ (by omega)) (Int.emod_lt_of_pos _ h0) (fun b hb => (s3 b hb).trans (s2 b hb)) ⟨_, _, _, e3⟩
theorem erase_perm {α : Type} : ∀ {l : List α} {k : Nat} {v : α}, l[k]? = some v → (v :: l.eraseIdx k).Perm l
  | [], k, v, h => by simp at h
  | x :: l, 0, v, h => by
    have e : x = v := by simpa using h
    subst e
    exact .refl _
  | x :: l, k + 1, v, h => by
    have h2 : l[k]? = some v := by simpa using h
    exact (List.Perm.swap x v (l.eraseIdx k)).trans ((erase_perm h2).cons x)
theorem erase_len {α : Type} {l : List α} {k : Nat} (h : k < l.length) : (l.eraseIdx k).length + 1 = l.length := by rw [List.length_eraseIdx, if_pos h]; omega
theorem map_erase {α β : Type} (f : α → β) : ∀ (l : List α) (k : Nat), (l.map f).eraseIdx k = (l.eraseIdx k).map f
  | [], k => by simp
  | x :: l, 0 => rfl
  | x :: l, k + 1 => by
    show f x :: ((l.map f).eraseIdx k) = _
    rw [map_erase f l k]
    rfl
theorem sz8 {l : Int} (h : l.natAbs ≤ 8) : ZR.Sz 8000 l := ZR.Sz.mono (n := 10) (Nat.lt_of_le_of_lt h (by decide +kernel)) (by decide)
def MENU : List Str := ["a", "b", "c", "x1", "x10", "y", "abcdefgh", "d9"]
theorem MENU_nodup : MENU.Nodup := by
  have h : (decide MENU.Nodup) = true := by decide +kernel
  exact of_decide_eq_true h
theorem MENU_ok : ∀ z ∈ MENU, nameB z = true := by
  have h : (MENU.all nameB) = true := by decide +kernel
  exact fun z hz => List.all_eq_true.mp h z hz
def spNames : Sp := fun vs H Q _ => vs.length = 2 ∧ ∃ (p : Addr) (n : Nat), vs = [.ref p, .int n] ∧ Pool H p ∧ n ≤ 8 ∧
  ∀ (q : Addr) (H' : Hp) (zs : List Str), H q = none → But p H H' → Pool H' p → H' q = some (.lst (zs.map V.str)) → zs.length = n → zs.Nodup → (∀ z ∈ zs, z ∈ MENU) → Q (.ref q) H'
/-- one drawn: from rest to zs -/
theorem draw_perm {zs rest : List Str} {k : Nat} {v : Str} {M : List Str} (h : (zs ++ rest).Perm M) (e : rest[k]? = some v) : ((zs ++ [v]) ++ rest.eraseIdx k).Perm M := by
  rw [List.append_assoc]
  exact ((erase_perm e).append_left zs).trans h
def spLPairs : Sp := fun vs H Q _ => vs.length = 2 ∧ ∃ (p b : Addr) (zs : List Str), vs = [.ref p, .ref b] ∧ Pool H p ∧ b ≠ p ∧ H b = some (.lst (zs.map V.str)) ∧ zs.length ≤ 8 ∧ zs.Nodup ∧
  ∀ (q : Addr) (H' : Hp) (E : List (Str × Str)), H q = none → But p H H' → Pool H' p → LPr H' q E → (∀ e ∈ E, e.1 ∈ zs ∧ e.2 ∈ zs) → E.length ≤ 64 → OM.Anti E → Q (.ref q) H'
def rForR2 (g : TG) (tb : TS) (D : Ends) (σ : L2.St) (vs : List V) (H1 : Hp) : Prop := ∃ i j : Int, vs = [.int i, .int j] ∧ (-(2 ^ 62) ≤ i ∧ i < 2 ^ 62 ∧ -(2 ^ 62) ≤ j ∧ j < 2 ^ 62) ∧ rFor (Itr i (j - i).toNat) g tb D σ H1
section
variable {σ : L2.St} {H : Hp} {D : Ends} {tr : TA} {g : TG}
theorem i_forR20 {tb : TS} (h : tr σ H (fun vs H1 => rForR2 g tb D σ vs H1)) : tFor (iRng2 tr) g tb D σ H := h
theorem i_forR2 {l n : Nat} {i j : Int} {tb : TS} (hi : i = (l : Int)) (hj : j = (n : Int)) (hl : l ≤ n) (hn : n < 1000000) (Pv : Nat → L2.St → Hp → Prop) (h0 : Pv l σ H)
    (hs : ∀ k σ H, l ≤ k → k < n → Pv k σ H → g (.int (k : Nat)) σ H fun σ2 H2 => tb { D with nx := Pv (k + 1), ct := Pv (k + 1), bk := D.nx } σ2 H2) (hd : ∀ σ H, Pv n σ H → D.nx σ H) : rForR2 g tb D σ [.int i, .int j] H := by
  refine ⟨i, j, rfl, by omega, ?_⟩
  have e : (j - i).toNat = n - l := by omega
  rw [e, hi]
  refine for_range (fun k => Pv (l + k)) h0 (fun k σ H hk p => ?_) fun σ H p => hd σ H ?_
  · have := hs (l + k) σ H (by omega) (by omega) p
    rw [show ((l + k : Nat) : Int) = (l : Int) + (k : Int) by omega] at this
    exact this
  · rw [show n = l + (n - l) by omega]
    exact p
end
abbrev s__law_names : Stmt := top 26
theorem sc__law_names : FnScope ["_law_pool_here", "_law_many", "_law_menu", "_law_found", "_law_k"] ["_law_pool_here", "_law_many"] (defScope s__law_names) := ⟨rfl, rfl, rfl, by decide +kernel, rfl, by decide +kernel, by decide +kernel⟩
theorem ok__law_names {P : Program} {w : World} {K : PySem.W.Frag} {mg : Str → Option Value} {base : Heap} {f : Addr} {fd : FuncData} (F : L2.Fun K "_law_names" "_law_names" s__law_names f fd)
    (C_b_len : mg "len" = none)
    (C_b_range : mg "range" = none)
    (C_f_law_take : Cal P w K mg base "_law_take" 1 spTake) :
    FnOk P w K mg base (L2.CX P w) 2 f fd ["_law_pool_here", "_law_many"] spNames := by
  refine fnOk_mk F sc__law_names (fun vs H Q E h => h.1) (fun cdv A outer s H vs Q E hr h => ?_)
  obtain ⟨_, p, n, rfl, hp, hn, k⟩ := h
  refine ⟨_, pss_cons (ps_set (i := 2) sc__law_names.nd rfl (Or.inl rfl) (pe_lst (pa_cons pe_str (pa_cons pe_str (pa_cons pe_str (pa_cons pe_str (pa_cons pe_str (pa_cons pe_str (pa_cons pe_str (pa_cons pe_str pa_nil))))))))))
    (pss_cons (ps_set (i := 3) sc__law_names.nd rfl (Or.inl rfl) (pe_lst pa_nil))
    (pss_cons (ps_for (passes_of rfl) rfl (pi_range1 (by rfl) C_b_range (pa_cons (pv 1) pa_nil)) (pg_name (i := 4) sc__law_names.nd rfl (Or.inl rfl)) (pss_one (ps_expr (pe_bm PySem.F.plainAttrs_list PySem.F.slot_list_append PySem.F.type_list_append mt_append (pv 3) (pa_cons (pe_bm PySem.F.plainAttrs_list PySem.F.slot_list_pop PySem.F.type_list_pop mt_popAt (pv 2) (pa_cons (z_callC C_f_law_take hr passN (pa_cons (pv 0) (pa_cons (pe_callB (k_len (K := K) rfl) (by rfl) C_b_len (by decide +kernel) (pa_cons (pv 2) pa_nil)) pa_nil))) pa_nil)) pa_nil)))))
    (pss_one (ps_ret (pv 3))))), ?_⟩
  try dsimp only [cxOf]
  walk_at "rd"
  refine i_lst1 (Nat.le_of_ble_eq_true rfl) fun pm H1 hpm s1 e1 ho1 => ?_
  walk_at "rd"
  refine i_lst1 (Nat.le_of_ble_eq_true rfl) fun pf H2 hpf s2 e2 ho2 => ?_
  walk_at "rd"
  have pmn : pm ≠ p := fun z => by obtain ⟨c, k, f, e⟩ := hp; rw [z, e] at hpm; cases hpm
  have pfn : pf ≠ p := fun z => by obtain ⟨c, k, f, e⟩ := hp; rw [z, s1 _ _ e] at hpf; cases hpf
  have pfm : pf ≠ pm := fun z => by rw [z, e1] at hpf; cases hpf
  have hpfH : H pf = none := by
    cases z : H pf with
    | none => rfl
    | some o => rw [s1 _ _ z] at hpf; cases hpf
  refine i_forR (n := n) rfl (by omega) (fun i σ H' => ∃ (zs rest : List Str) (v : Option V), σ = [some (.ref p), some (.int (n : Nat)), some (.ref pm), some (.ref pf), v] ∧ H' pm = some (.lst (rest.map V.str)) ∧ H' pf = some (.lst (zs.map V.str)) ∧ zs.length = i ∧ (zs ++ rest).Perm MENU ∧ But p H H' ∧ Pool H' p)
    ⟨[], MENU, _, rfl, s2 _ _ e1, e2, rfl, .refl _, .of (s1.trans s2), ?_⟩ ?_ ?_
  · obtain ⟨c, k, f, e⟩ := hp
    exact ⟨c, k, f, s2 _ _ (s1 _ _ e)⟩
  · rintro i σ H3 hi ⟨zs, rest, v, rfl, em, ef, hz, perm, bt, pl⟩
    have hrl : zs.length + rest.length = 8 := by have := perm.length_eq; rw [List.length_append] at this; exact this
    walk_at "rd"
    refine ⟨tyL ef, ?_⟩
    walk_at "rd"
    refine ⟨tyL em, ?_⟩
    walk_at "rd"
    refine i_lenL (SqL.of em) ?_
    rw [List.length_map]
    walk_at "rd"
    refine i_take pl (by omega) (sz8 (show ((rest.length : Nat) : Int).natAbs ≤ 8 by omega)) fun r H4 r0 r1 o4 pl4 => ?_
    obtain ⟨m, rfl⟩ : ∃ m : Nat, r = (m : Int) := ⟨r.toNat, by omega⟩
    walk_at "rd"
    have hm : m < rest.length := by omega
    have hv : rest[m]? = some rest[m] := by simp [hm]
    refine i_popAt (k := m) (v := .str rest[m]) (by rw [o4 _ pmn]; exact em) (by rw [List.length_map]; omega) (by rw [List.getElem?_map, hv]; rfl) fun H5 e5 o5 => ?_
    walk_at "rd"
    refine i_app (xs := zs.map V.str) (by rw [o5 _ pfm, o4 _ pfn]; exact ef) (by rw [List.length_map]; omega) fun H6 e6 o6 => ?_
    walk_at "rd"
    refine ⟨zs ++ [rest[m]], rest.eraseIdx m, _, rfl, ?_, by rw [e6, List.map_append]; rfl, by rw [List.length_append, hz]; rfl, draw_perm perm hv, ?_, ?_⟩
    · rw [o6 _ (Ne.symm pfm), e5, map_erase]
    · intro x o hx e
      rw [o6 x (ne_of_none e hpfH), o5 x (ne_of_none e hpm), o4 x hx]
      exact bt x o hx e
    · obtain ⟨c, k, f, e⟩ := pl4
      exact ⟨c, k, f, by rw [o6 _ (Ne.symm pfn), o5 _ (Ne.symm pmn)]; exact e⟩
  · rintro σ H3 ⟨zs, rest, v, rfl, em, ef, hz, perm, bt, pl⟩
    walk_at "rd"
    refine k pf H3 zs hpfH bt pl ef hz ?_ fun z hz => perm.mem_iff.mp (List.mem_append_left _ hz)
    exact (List.nodup_append.mp (perm.nodup_iff.mpr MENU_nodup)).1
/-- pairs of a line: the first one stands ahead of the second -/
def Ahead (ls : List Str) (E : List (Str × Str)) : Prop := ∀ e ∈ E, ∃ (i j : Nat), i < j ∧ ls[i]? = some e.1 ∧ ls[j]? = some e.2
theorem idx_nodup {ls : List Str} (h : ls.Nodup) {i : Nat} {z : Str} (e : ls[i]? = some z) : ls.idxOf z = i := by
  obtain ⟨hi, e⟩ := List.getElem?_eq_some_iff.mp e
  subst e
  exact h.idxOf_getElem i hi
theorem ahead_anti {ls : List Str} {E : List (Str × Str)} (h : ls.Nodup) (a : Ahead ls E) : OM.Anti E := by
  refine OM.anti_rank (fun z => ls.idxOf z) fun e he => .inr ?_
  obtain ⟨i, j, lt, e1, e2⟩ := a e he
  rw [idx_nodup h e1, idx_nodup h e2]
  exact lt
abbrev s__law_pairs : Stmt := top 27
theorem sc__law_pairs : FnScope ["_law_pool_here", "_law_names_here", "_law_row", "_law_line", "_law_k", "_law_found", "_law_dense", "_law_i", "_law_j"] ["_law_pool_here", "_law_names_here"] (defScope s__law_pairs) := ⟨rfl, rfl, rfl, by decide +kernel, rfl, by decide +kernel, by decide +kernel⟩
theorem ok__law_pairs {P : Program} {w : World} {K : PySem.W.Frag} {mg : Str → Option Value} {base : Heap} {f : Addr} {fd : FuncData} (F : L2.Fun K "_law_pairs" "_law_pairs" s__law_pairs f fd)
    (C_b_len : mg "len" = none)
    (C_b_list : mg "list" = none)
    (C_b_range : mg "range" = none)
    (C_f_law_take : Cal P w K mg base "_law_take" 1 spTake) :
    FnOk P w K mg base (L2.CX P w) 2 f fd ["_law_pool_here", "_law_names_here"] spLPairs := by
  refine fnOk_mk F sc__law_pairs (fun vs H Q E h => h.1) (fun cdv A outer s H vs Q E hr h => ?_)
  obtain ⟨_, p, b, zs, rfl, hp, hbp, hb, hz, hnd, k⟩ := h
  refine ⟨_, pss_cons (ps_set (i := 2) sc__law_pairs.nd rfl (Or.inl rfl) (pe_callTy (k_listA (K := K) rfl) (by rfl) C_b_list (by decide +kernel) (pa_cons (pv 1) pa_nil)))
    (pss_cons (ps_set (i := 3) sc__law_pairs.nd rfl (Or.inl rfl) (pe_lst pa_nil))
    (pss_cons (ps_for (passes_of rfl) rfl (pi_range1 (by rfl) C_b_range (pa_cons (pe_callB (k_len (K := K) rfl) (by rfl) C_b_len (by decide +kernel) (pa_cons (pv 1) pa_nil)) pa_nil)) (pg_name (i := 4) sc__law_pairs.nd rfl (Or.inl rfl)) (pss_one (ps_expr (pe_bm PySem.F.plainAttrs_list PySem.F.slot_list_append PySem.F.type_list_append mt_append (pv 3) (pa_cons (pe_bm PySem.F.plainAttrs_list PySem.F.slot_list_pop PySem.F.type_list_pop mt_popAt (pv 2) (pa_cons (z_callC C_f_law_take hr passN (pa_cons (pv 0) (pa_cons (pe_callB (k_len (K := K) rfl) (by rfl) C_b_len (by decide +kernel) (pa_cons (pv 2) pa_nil)) pa_nil))) pa_nil)) pa_nil)))))
    (pss_cons (ps_set (i := 5) sc__law_pairs.nd rfl (Or.inl rfl) (pe_lst pa_nil))
    (pss_cons (ps_set (i := 6) sc__law_pairs.nd rfl (Or.inl rfl) (pe_op op_add pe_int (z_callC C_f_law_take hr passN (pa_cons (pv 0) (pa_cons pe_int pa_nil)))))
    (pss_cons (ps_for (passes_of rfl) rfl (pi_range1 (by rfl) C_b_range (pa_cons (pe_callB (k_len (K := K) rfl) (by rfl) C_b_len (by decide +kernel) (pa_cons (pv 3) pa_nil)) pa_nil)) (pg_name (i := 7) sc__law_pairs.nd rfl (Or.inl rfl)) (pss_one (ps_for (passes_of rfl) rfl (pi_range2 (by rfl) C_b_range (pa_cons (pe_op op_add (pv 7) pe_int) (pa_cons (pe_callB (k_len (K := K) rfl) (by rfl) C_b_len (by decide +kernel) (pa_cons (pv 3) pa_nil)) pa_nil))) (pg_name (i := 8) sc__law_pairs.nd rfl (Or.inl rfl)) (pss_one (ps_if (pt_cmpR op_eq (z_callC C_f_law_take hr passN (pa_cons (pv 0) (pa_cons (pv 6) pa_nil))) pe_int (nomark _)) (pss_one (ps_expr (pe_bm PySem.F.plainAttrs_list PySem.F.slot_list_append PySem.F.type_list_append mt_append (pv 5) (pa_cons (pe_tup (pa_cons (pe_ix ix_list (pv 3) (pv 7) (fun _ _ => rfl)) (pa_cons (pe_ix ix_list (pv 3) (pv 8) (fun _ _ => rfl)) pa_nil))) pa_nil)))) (pss_nil))))))
    (pss_one (ps_ret (pv 5)))))))), ?_⟩
  try dsimp only [cxOf]
  walk_at "rd"
  refine i_listA (SqA.l hb) fun pm H1 hpm s1 e1 ho1 => ?_
  walk_at "rd"
  refine i_lst1 (Nat.le_of_ble_eq_true rfl) fun pl H2 hpl s2 e2 ho2 => ?_
  walk_at "rd"
  refine i_lenL (SqL.of (s2 _ _ (s1 _ _ hb))) ?_
  rw [List.length_map]
  walk_at "rd"
  have pmn : pm ≠ p := fun z => by obtain ⟨c, k, f, e⟩ := hp; rw [z, e] at hpm; cases hpm
  have pln : pl ≠ p := fun z => by obtain ⟨c, k, f, e⟩ := hp; rw [z, s1 _ _ e] at hpl; cases hpl
  have plm : pl ≠ pm := fun z => by rw [z, e1] at hpl; cases hpl
  have hplH : H pl = none := by
    cases z : H pl with
    | none => rfl
    | some o => rw [s1 _ _ z] at hpl; cases hpl
  refine i_forR (n := zs.length) rfl (by omega) (fun i σ H' => ∃ (ls rest : List Str) (v : Option V), σ = [some (.ref p), some (.ref b), some (.ref pm), some (.ref pl), v, none, none, none, none] ∧ H' pm = some (.lst (rest.map V.str)) ∧ H' pl = some (.lst (ls.map V.str)) ∧ ls.length = i ∧ (ls ++ rest).Perm zs ∧ But p H H' ∧ Pool H' p)
    ⟨[], zs, _, rfl, s2 _ _ e1, e2, rfl, .refl _, .of (s1.trans s2), ?_⟩ ?_ ?_
  · obtain ⟨c, k, f, e⟩ := hp
    exact ⟨c, k, f, s2 _ _ (s1 _ _ e)⟩
  · rintro i σ H3 hi ⟨ls, rest, v, rfl, em, ef, hls, perm, bt, hpo⟩
    have hrl : ls.length + rest.length = zs.length := by have := perm.length_eq; rw [List.length_append] at this; exact this
    walk_at "rd"
    refine ⟨tyL ef, ?_⟩
    walk_at "rd"
    refine ⟨tyL em, ?_⟩
    walk_at "rd"
    refine i_lenL (SqL.of em) ?_
    rw [List.length_map]
    walk_at "rd"
    refine i_take hpo (by omega) (sz8 (show ((rest.length : Nat) : Int).natAbs ≤ 8 by omega)) fun r H4 r0 r1 o4 pl4 => ?_
    obtain ⟨m, rfl⟩ : ∃ m : Nat, r = (m : Int) := ⟨r.toNat, by omega⟩
    walk_at "rd"
    have hm : m < rest.length := by omega
    have hv : rest[m]? = some rest[m] := by simp [hm]
    refine i_popAt (k := m) (v := .str rest[m]) (by rw [o4 _ pmn]; exact em) (by rw [List.length_map]; omega) (by rw [List.getElem?_map, hv]; rfl) fun H5 e5 o5 => ?_
    walk_at "rd"
    refine i_app (xs := ls.map V.str) (by rw [o5 _ plm, o4 _ pln]; exact ef) (by rw [List.length_map]; omega) fun H6 e6 o6 => ?_
    walk_at "rd"
    refine ⟨ls ++ [rest[m]], rest.eraseIdx m, _, rfl, ?_, by rw [e6, List.map_append]; rfl, by rw [List.length_append, hls]; rfl, draw_perm perm hv, ?_, ?_⟩
    · rw [o6 _ (Ne.symm plm), e5, map_erase]
    · intro x o hx e
      rw [o6 x (ne_of_none e hplH), o5 x (ne_of_none e hpm), o4 x hx]
      exact bt x o hx e
    · obtain ⟨c, k, f, e⟩ := pl4
      exact ⟨c, k, f, by rw [o6 _ (Ne.symm pln), o5 _ (Ne.symm pmn)]; exact e⟩
  · rintro σ H3 ⟨ls, rest, v, rfl, em, ef, hls, perm, bt, hpo⟩
    have hr0 : rest = [] := by
      have := perm.length_eq
      rw [List.length_append] at this
      exact List.eq_nil_of_length_eq_zero (by omega)
    subst hr0
    rw [List.append_nil] at perm
    have hlnd := perm.nodup_iff.mpr hnd
    walk_at "rd"
    refine i_lst1 (Nat.le_of_ble_eq_true rfl) fun q H4 hq s4 e4 ho4 => ?_
    walk_at "rd"
    have hpo4 : Pool H4 p := by
      obtain ⟨c, k, f, e⟩ := hpo
      exact ⟨c, k, f, s4 _ _ e⟩
    refine i_take hpo4 (by decide) (ZR.sz_of (by decide +kernel)) fun r H5 r0 r1 o5 pl5 => ?_
    have qp : q ≠ p := fun z => by obtain ⟨c, k, f, e⟩ := hpo; rw [z, e] at hq; cases hq
    have ql : q ≠ pl := fun z => by rw [z, ef] at hq; cases hq
    have hqH : H q = none := by
      cases z : H q with
      | none => rfl
      | some o =>
        have := bt q o qp z
        rw [hq] at this
        cases this
    walk_at "rd"
    have el5 : H5 pl = some (.lst (ls.map V.str)) := by rw [o5 _ pln]; exact s4 _ _ ef
    refine i_lenL (SqL.of el5) ?_
    rw [List.length_map, hls]
    walk_at "rd"
    refine i_forR (n := zs.length) rfl (by omega) (fun i σ H' => ∃ (E : List (Str × Str)) (v7 v8 : Option V), σ = [some (.ref p), some (.ref b), some (.ref pm), some (.ref pl), v, some (.ref q), some (.int (2 + r)), v7, v8] ∧ H' pl = some (.lst (ls.map V.str)) ∧ LPr H' q E ∧ Ahead ls E ∧ E.length ≤ i * 8 ∧ But p H H' ∧ Pool H' p)
      ⟨[], _, _, rfl, el5, ⟨[], by rw [o5 _ qp]; exact e4, .nil⟩, fun e he => absurd he (by simp), by simp, fun x o hx e => by rw [o5 x hx]; exact s4 _ _ (bt x o hx e), pl5⟩ ?_ ?_
    · rintro i σ H6 hi ⟨E, v7, v8, rfl, el, lp, ah, le, bt6, po6⟩
      walk_at "rd"
      refine i_forR20 ?_
      walk_at "rd"
      refine i_lenL (SqL.of el) ?_
      rw [List.length_map, hls]
      walk_at "rd"
      refine i_forR2 (l := i + 1) (n := zs.length) (by omega) rfl (by omega) (by omega) (fun j σ H' => ∃ (E : List (Str × Str)) (v8 : Option V), σ = [some (.ref p), some (.ref b), some (.ref pm), some (.ref pl), v, some (.ref q), some (.int (2 + r)), some (.int (i : Nat)), v8] ∧ H' pl = some (.lst (ls.map V.str)) ∧ LPr H' q E ∧ Ahead ls E ∧ E.length ≤ i * 8 + j ∧ But p H H' ∧ Pool H' p)
        ⟨E, v8, rfl, el, lp, ah, by omega, bt6, po6⟩ ?_ ?_
      · rintro j σ H7 hj1 hj2 ⟨E, v8, rfl, el, lp, ah, le, bt7, po7⟩
        walk_at "rd"
        refine i_take po7 (by omega) (sz8 (show (2 + r).natAbs ≤ 8 by omega)) fun r2 H8 r20 r21 o8 po8 => ?_
        walk_at "rd"
        have el8 : H8 pl = some (.lst (ls.map V.str)) := by rw [o8 _ pln]; exact el
        refine i_dec (fun e => ?_) (fun e => ?_)
        · walk_at "rd"
          obtain ⟨qs, eq, tq⟩ := id lp
          have eq8 : H8 q = some (.lst (qs.map V.ref)) := by rw [o8 _ qp]; exact eq
          have lp8 : LPr H8 q E := ⟨qs, eq8, tq.keep fun c ys e => by
            rw [o8 c fun z => ?_]
            · exact e
            · obtain ⟨c', k', f', e'⟩ := po7
              rw [z, e'] at e
              cases e⟩
          refine ⟨tyL eq8, ?_⟩
          walk_at "rd"
          have hil : i < ls.length := by omega
          have hjl : j < ls.length := by omega
          have hi? : ls[i]? = some ls[i] := by simp [hil]
          have hj? : ls[j]? = some ls[j] := by simp [hjl]
          refine i_ixL (v := .str ls[i]) (SqL.of el8) (by rw [List.getElem?_map, hi?]; rfl) ?_
          walk_at "rd"
          refine i_ixL (v := .str ls[j]) (SqL.of el8) (by rw [List.getElem?_map, hj?]; rfl) ?_
          walk_at "rd"
          refine i_tup1 (by show 2 ≤ 100000; decide) fun u H9 hu s9 e9 ho9 => ?_
          walk_at "rd"
          have hql : qs.length = E.length := tq.1
          refine i_app (xs := qs.map V.ref) (s9 _ _ eq8) (by rw [List.length_map]; omega) fun H10 e10 o10 => ?_
          walk_at "rd"
          refine ⟨E ++ [(ls[i], ls[j])], _, rfl, by rw [o10 _ (Ne.symm ql)]; exact s9 _ _ el8, (lp8.mono s9).snoc (s9 _ _ eq8) e9 e10 o10, ?_, ?_, ?_, ?_⟩
          · intro e he
            rcases List.mem_append.mp he with h | h
            · exact ah e h
            · rw [List.mem_singleton.mp h]
              exact ⟨i, j, by omega, hi?, hj?⟩
          · rw [List.length_append]
            show _ + 1 ≤ _
            omega
          · intro x o hx e
            rw [o10 x (ne_of_none e hqH)]
            refine s9 _ _ ?_
            rw [o8 x hx]
            exact bt7 x o hx e
          · obtain ⟨c, k, f, e⟩ := po8
            exact ⟨c, k, f, by rw [o10 _ (Ne.symm qp)]; exact s9 _ _ e⟩
        · walk_at "rd"
          refine ⟨E, _, rfl, el8, ?_, ah, by omega, fun x o hx e => by rw [o8 x hx]; exact bt7 x o hx e, po8⟩
          obtain ⟨qs, eq, tq⟩ := lp
          exact ⟨qs, by rw [o8 _ qp]; exact eq, tq.keep fun c ys e => by
            rw [o8 c fun z => ?_]
            · exact e
            · obtain ⟨c', k', f', e'⟩ := po7
              rw [z, e'] at e
              cases e⟩
      · rintro σ H7 ⟨E, v8, rfl, el, lp, ah, le, bt7, po7⟩
        exact ⟨E, _, _, rfl, el, lp, ah, by omega, bt7, po7⟩
    · rintro σ H6 ⟨E, v7, v8, rfl, el, lp, ah, le, bt6, po6⟩
      walk_at "rd"
      refine k q H6 E hqH bt6 po6 lp (fun e he => ?_) (by omega) (ahead_anti hlnd ah)
      obtain ⟨i, j, _, e1, e2⟩ := ah e he
      exact ⟨perm.mem_iff.mp (List.mem_of_getElem? e1), perm.mem_iff.mp (List.mem_of_getElem? e2)⟩
/-- the law's own table: what is above each name, in any order -/
def LTab (H : Hp) (d : Addr) (N : List Str) (W : Str → List Str) : Prop := ∃ A, H d = some (.dK (rowsOf N A)) ∧ ∀ n ∈ N, H (A n) = some (.lst ((W n).map V.str))
theorem LTab.mono {H H' : Hp} {d : Addr} {N : List Str} {W : Str → List Str} (s : Same H H') (h : LTab H d N W) : LTab H' d N W := let ⟨A, h1, h2⟩ := h; ⟨A, s _ _ h1, fun n hn => s _ _ (h2 n hn)⟩
theorem LTab.keep {H H' : Hp} {d p : Addr} {o : HO} {N : List Str} {W : Str → List Str} (e : H p = some o) (n1 : ∀ ks, o ≠ .dK ks) (n2 : ∀ zs : List Str, o ≠ .lst (zs.map V.str)) (t : But p H H') (h : LTab H d N W) : LTab H' d N W := by
  obtain ⟨A, h1, h2⟩ := h
  refine ⟨A, t _ _ (fun z => ?_) h1, fun n hn => t _ _ (fun z => ?_) (h2 n hn)⟩
  · rw [z, e] at h1
    exact n1 _ (Option.some.inj h1)
  · have := h2 n hn
    rw [z, e] at this
    exact n2 _ (Option.some.inj this)
def spAbove (K : PySem.W.Frag) : Sp := fun vs H Q _ => vs.length = 2 ∧ ∃ (b c : Addr) (zs : List Str) (E : List (Str × Str)), vs = [.ref b, .ref c] ∧ SqA K H b (zs.map V.str) ∧ PrA K H c E ∧ zs.length ≤ 8 ∧ zs.Nodup ∧ (∀ p ∈ E, p.1 ∈ zs ∧ p.2 ∈ zs) ∧
  ∀ d H', H d = none → Same H H' → LTab H' d zs (OM.turns E zs.length fun x => [x]) → Q (.ref d) H'
theorem i_dnew {σ : L2.St} {H : Hp} {Q : VK} (h : ∀ p H', H p = none → Same H H' → H' p = some (.dK []) → (∀ b, b ≠ p → H' b = H b) → Q (.ref p) H') : tDNewK σ H Q := fun p hp => h p _ hp (same_new hp) upd_same fun b hb => upd_ne hb
/-- the table while it is made -/
structure LSt (H : Hp) (d : Addr) (L N : List Str) (A : Str → Addr) (W : Str → List Str) (H1 : Hp) : Prop where
  same : Same H H1
  dn : H d = none
  tab : H1 d = some (.dK (rowsOf L A))
  row : ∀ n ∈ L, H1 (A n) = some (.lst ((W n).map V.str))
  nd : ∀ n ∈ N, (W n).Nodup
  sub : ∀ n ∈ N, ∀ x ∈ W n, x ∈ N
theorem LSt.sames {H H1 H2 : Hp} {d : Addr} {L N : List Str} {A : Str → Addr} {W : Str → List Str} (c : LSt H d L N A W H1) (s : Same H1 H2) : LSt H d L N A W H2 := ⟨c.same.trans s, c.dn, s _ _ c.tab, fun n hn => s _ _ (c.row n hn), c.nd, c.sub⟩
theorem LSt.put {H H1 H2 : Hp} {d q : Addr} {N : List Str} {A : Str → Addr} {W : Str → List Str} {p : Str × Str} (c : LSt H d N N A W H1) (h1 : p.1 ∈ N) (h2 : p.2 ∈ N) (eq : H1 q = some (.lst ((W p.1 ++ (W p.2).filter fun x => !decide (x ∈ W p.1)).map V.str)))
    (e : H2 d = some (.dK (putK (rowsOf N A) (.inr p.1) (.ref q)))) (ho : ∀ b, b ≠ d → H2 b = H1 b) : LSt H d N N (setF A p.1 q) (OM.turn1 W p) H2 where
  same := fun b o eb => by
    rw [ho b (ne_of_none eb c.dn)]
    exact c.same _ _ eb
  dn := c.dn
  tab := by rw [e, rows_put h1]
  row := fun n hn => by
    have key : ∀ a xs, H1 a = some (.lst xs) → H2 a = some (.lst xs) := fun a xs ea => by
      rw [ho a fun z => ?_]
      · exact ea
      · rw [z, c.tab] at ea
        cases ea
    unfold OM.turn1 OM.put
    by_cases h : n = p.1
    · rw [if_pos h, h, setF_same]
      exact key _ _ eq
    · rw [if_neg h, setF_ne h]
      exact key _ _ (c.row n hn)
  nd := fun n hn => by
    unfold OM.turn1 OM.put
    split
    · refine List.nodup_append.mpr ⟨c.nd _ h1, (c.nd _ h2).filter _, ?_⟩
      intro x hx y hy e
      subst e
      have := (List.mem_filter.mp hy).2
      simp [hx] at this
    · exact c.nd n hn
  sub := fun n hn x hx => by
    unfold OM.turn1 OM.put at hx
    split at hx
    · rcases List.mem_append.mp hx with h | h
      · exact c.sub _ h1 x h
      · exact c.sub _ h2 x (List.mem_filter.mp h).1
    · exact c.sub n hn x hx
theorem turn_snoc {E : List (Str × Str)} {j : Nat} {e : Str × Str} {W : Str → List Str} (h : E[j]? = some e) : OM.turn (E.take (j + 1)) W = OM.turn1 (OM.turn (E.take j) W) e := by
  unfold OM.turn
  rw [take_snoc h, List.foldl_append]
  rfl
abbrev s__law_above : Stmt := top 28
theorem sc__law_above : FnScope ["_law_names_here", "_law_pairs_here", "_law_above_here", "_law_name", "_law_turn", "_law_low", "_law_high"] ["_law_names_here", "_law_pairs_here"] (defScope s__law_above) := ⟨rfl, rfl, rfl, by decide +kernel, rfl, by decide +kernel, by decide +kernel⟩
theorem ok__law_above {P : Program} {w : World} {K : PySem.W.Frag} {mg : Str → Option Value} {base : Heap} {f : Addr} {fd : FuncData} (F : L2.Fun K "_law_above" "_law_above" s__law_above f fd)
    (C_b_len : mg "len" = none)
    (C_b_range : mg "range" = none) :
    FnOk P w K mg base (L2.CX P w) 1 f fd ["_law_names_here", "_law_pairs_here"] (spAbove K) := by
  refine fnOk_mk F sc__law_above (fun vs H Q E h => h.1) (fun cdv A outer s H vs Q E hr h => ?_)
  obtain ⟨_, b, c, zs, E, rfl, hb, ⟨ps, hc, hp⟩, hz, hnd, hE, k⟩ := h
  refine ⟨_, pss_cons (ps_set (i := 2) sc__law_above.nd rfl (Or.inr rfl) pe_dnewK)
    (pss_cons (ps_for (passes_of rfl) rfl (pi_any (K := K) rfl (pv 0)) (pg_name (i := 3) sc__law_above.nd rfl (Or.inl rfl)) (pss_one (ps_dput (hu_of hr) (pv 2) (pv 3) (pe_lst (pa_cons (pv 3) pa_nil)) (by rfl))))
    (pss_cons (ps_for (passes_of rfl) rfl (pi_range1 (by rfl) C_b_range (pa_cons (pe_callB (k_len (K := K) rfl) (by rfl) C_b_len (by decide +kernel) (pa_cons (pv 0) pa_nil)) pa_nil)) (pg_name (i := 4) sc__law_above.nd rfl (Or.inl rfl)) (pss_one (ps_for (passes_of rfl) rfl (pi_any (K := K) rfl (pv 1)) (k_tup (K := K) (n := 2) rfl rfl (pgs_cons (pg_name (i := 5) sc__law_above.nd rfl (Or.inr rfl)) (pgs_cons (pg_name (i := 6) sc__law_above.nd rfl (Or.inl rfl)) pgs_nil))) (pss_one (ps_dput (hu_of hr) (pv 2) (pv 5) (pe_op op_cat (pe_dget (hu_of hr) (pv 2) (pv 5) (fun _ _ => rfl)) (pe_lc (own := [("_law_name", 3)]) (by rfl) sc__law_above.nd (pi_any (K := K) rfl (pe_dget (hu_of hr) (pv 2) (pv 6) (fun _ _ => rfl))) (blkOk_by (N := ["_law_names_here", "_law_pairs_here", "_law_above_here", "_law_name", "_law_turn", "_law_low", "_law_high"]) (sc := defScope s__law_above) (by decide +kernel)) (fun _ _ _ _ _ => pg_name (i := 3) sc__law_above.nd rfl (Or.inl rfl)) (fun _ _ _ _ _ => pts_one (pt_cmpR (k_notInS (K := K) rfl) (pv 3) (pe_dget (hu_of hr) (pv 2) (pv 5) (fun _ _ => rfl)) rfl)) (fun _ _ _ _ _ => pv 3))) (by rfl))))))
    (pss_one (ps_ret (pv 2))))), ?_⟩
  try dsimp only [cxOf]
  walk_at "rd"
  refine i_dnew fun d H1 hd s1 e1 o1 => ?_
  walk_at "rd"
  refine i_forA (H0 := H) (fun i σ H' => ∃ (A : Str → Addr) (v : Option V), σ = [some (.ref b), some (.ref c), some (.ref d), v, none, none, none] ∧ LSt H d (zs.take i) zs A (fun n => [n]) H') hb
    ⟨fun _ => d, _, rfl, s1, hd, by rw [e1, List.take_zero]; rfl, fun n hn => absurd hn (by simp), fun n hn => by simp, fun n hn x hx => by rw [List.mem_singleton.mp hx]; exact hn⟩ (fun i σ H' p => ?_) ?_ ?_
  · obtain ⟨_, _, _, st⟩ := p
    exact st.same
  · rintro i x σ H2 hx ⟨A, v, rfl, st⟩
    obtain ⟨n, hni, rfl⟩ := strs_at hx
    walk_at "rd"
    refine i_lst1 (Nat.le_of_ble_eq_true rfl) fun q H3 hq s3 e3 o3 => ?_
    have st3 := st.sames s3
    walk_at "rd"
    refine i_dput st3.tab (by rw [rows_len, List.length_take]; omega) fun H4 e4 o4 => ?_
    have hn : ¬ n ∈ zs.take i := by
      intro hm
      have := hnd.sublist (List.take_sublist (i + 1) zs)
      rw [take_snoc hni] at this
      exact (List.nodup_append.mp this).2.2 n hm n (List.mem_singleton.mpr rfl) rfl
    walk_at "rd"
    refine ⟨setF A n q, _, rfl, ?_, st3.dn, by rw [e4, rows_snoc hn, take_snoc hni], fun m hm => ?_, st3.nd, st3.sub⟩
    · intro x o e
      rw [o4 x (ne_of_none e hd)]
      exact st3.same _ _ e
    · have key : ∀ a xs, H3 a = some (.lst xs) → H4 a = some (.lst xs) := fun a xs ea => by
        rw [o4 a fun z => ?_]
        · exact ea
        · rw [z, st3.tab] at ea
          cases ea
      rw [take_snoc hni] at hm
      by_cases em : m = n
      · subst em
        rw [setF_same]
        exact key _ _ e3
      · rw [setF_ne em]
        rcases List.mem_append.mp hm with h | h
        · exact key _ _ (st3.row m h)
        · exact absurd (List.mem_singleton.mp h) em
  · rintro σ H2 ⟨A, v, rfl, st⟩
    rw [List.length_map, List.take_length] at st
    walk_at "rd"
    refine i_lenA (sameA st.same hb) ?_
    rw [List.length_map]
    walk_at "rd"
    refine i_forR (n := zs.length) rfl (by omega) (fun i σ H' => ∃ (A : Str → Addr) (v v4 v5 v6 : Option V), σ = [some (.ref b), some (.ref c), some (.ref d), v, v4, v5, v6] ∧ LSt H d zs zs A (OM.turns E i fun x => [x]) H')
      ⟨A, _, _, _, _, rfl, st⟩ ?_ ?_
    · rintro i σ H3 hi ⟨A, v, v4, v5, v6, rfl, st⟩
      walk_at "rd"
      refine i_forA (H0 := H) (fun j σ H' => ∃ (A : Str → Addr) (v v5 v6 : Option V), σ = [some (.ref b), some (.ref c), some (.ref d), v, some (.int (i : Nat)), v5, v6] ∧ LSt H d zs zs A (OM.turn (E.take j) (OM.turns E i fun x => [x])) H') hc
        ⟨A, _, _, _, rfl, st⟩ (fun i σ H' p => ?_) ?_ ?_
      · obtain ⟨_, _, _, _, _, st⟩ := p
        exact st.same
      · rintro j x σ H4 hx ⟨A, v, v5, v6, rfl, st⟩
        have lt := (List.getElem?_eq_some_iff.mp hx).1
        rw [hp.1] at lt
        have hej : E[j]? = some E[j] := by simp [lt]
        obtain ⟨q, rfl, eq⟩ := hp.2 j x E[j] hx hej
        obtain ⟨m1, m2⟩ := hE _ (List.getElem_mem lt)
        rw [turn_snoc hej]
        generalize OM.turn (E.take j) (OM.turns E i fun x => [x]) = W at *
        generalize E[j] = e at *
        obtain ⟨lo, hi'⟩ := e
        refine i_gtup (Same_seqT st.same eq) rfl ?_
        walk_at "rd"
        refine i_dget st.tab (rows_val m1) ?_
        walk_at "rd"
        refine i_dget st.tab (rows_val m2) ?_
        refine i_lcA (H0 := H4) (fun k ys H' => Same H4 H' ∧ ys = (((W hi').take k).filter fun x => !decide (x ∈ W lo)).map V.str) (SqA.l (st.row _ m2)) (Same.refl _) ?_ ?_ ?_ ?_
        · intro D H' hD sm e ho
          exact ⟨sm, rfl⟩
        · exact fun i ys H' p => p.1
        · rintro k x D ys H5 hD hx eD ⟨s5, rfl⟩
          obtain ⟨z, hzi, rfl⟩ := strs_at hx
          walk_at "rd"
          refine ⟨by with_unfolding_all rfl, ?_⟩
          walk_at "rd"
          refine i_dget (s5 _ _ st.tab) (rows_val m1) ?_
          refine i_notInS (SqA.l (s5 _ _ (st.row _ m1))) ?_
          walk_at "rd"
          refine i_bool (fun hb => ?_) (fun hb => ?_)
          · walk_at "rd"
            refine i_lcE eD ?_ fun H6 e6 o6 => ⟨fun b o eb => ?_, ?_⟩
            · rw [List.length_map]
              have h1 := List.length_filter_le (fun x => !decide (x ∈ W lo)) ((W hi').take k)
              have h2 := nodup_len (st.nd _ m2) (st.sub _ m2)
              rw [List.length_take] at h1
              show (List.filter (fun x => !decide (x ∈ W lo)) ((W hi').take k)).length < _
              have h2' : (W hi').length ≤ zs.length := h2
              omega
            · rw [o6 b (ne_of_none eb hD)]
              exact s5 _ _ eb
            · rw [take_snoc hzi, List.filter_append, List.map_append]
              simp at hb
              simp [hb]
          · refine ⟨_, eD, s5, ?_⟩
            rw [take_snoc hzi, List.filter_append, List.map_append]
            simp at hb
            simp [hb]
        · rintro D ys H5 hD eD ⟨s5, rfl⟩
          rw [List.length_map, List.take_length] at eD
          have st5 := st.sames s5
          have h1 : (W lo).length ≤ zs.length := nodup_len (st.nd _ m1) (st.sub _ m1)
          have h2 : (W hi').length ≤ zs.length := nodup_len (st.nd _ m2) (st.sub _ m2)
          have h3 := List.length_filter_le (fun x => !decide (x ∈ W lo)) (W hi')
          refine i_cat (st5.row _ m1) eD (by rw [List.length_map, List.length_map]; show (W lo).length + (List.filter (fun x => !decide (x ∈ W lo)) (W hi')).length ≤ _; omega) fun q2 H6 hq2 s6 e6 o6 => ?_
          have st6 := st5.sames s6
          walk_at "rd"
          refine i_dput st6.tab (by rw [rows_len]; omega) fun H7 e7 o7 => ?_
          walk_at "rd"
          exact ⟨_, _, _, _, rfl, st6.put (p := (lo, hi')) m1 m2 (by rw [e6, List.map_append]) e7 o7⟩
      · rintro σ H4 ⟨A, v, v5, v6, rfl, st⟩
        rw [hp.1, List.take_length, ← OM.turns_succ] at st
        exact ⟨_, _, _, _, _, rfl, st⟩
    · rintro σ H3 ⟨A, v, v4, v5, v6, rfl, st⟩
      walk_at "rd"
      exact k d H3 hd st.same ⟨A, st.tab, st.row⟩
/-- lists of texts compared with a new list -/
theorem shaped_lstS {zs : List Str} (h : ∀ z ∈ zs, nameB z = true) : SeqAt.shaped (.list (zs.map PyData.str)) = true := by
  have := shaped_tupS h
  unfold SeqAt.shaped at *
  simpa [PyData.depth, PyData.canLay0] using this
theorem eqv_lstS (zs ws : List Str) : PyData.eqv (.list (zs.map PyData.str)) (.list (ws.map PyData.str)) = decide (zs = ws) := by
  show PyData.eqvAll _ _ = _
  exact eqv_strs zs ws
/-- what the law knows about its names and its table -/
structure Tbl (zs : List Str) (W : Str → List Str) (R : Str → Str → Bool) : Prop where
  len : zs.length ≤ 8
  nd : zs.Nodup
  ok : ∀ n ∈ zs, nameB n = true
  wnd : ∀ n ∈ zs, (W n).Nodup
  mem : ∀ n ∈ zs, ∀ x, x ∈ W n ↔ x ∈ zs ∧ R n x = true
  rf : ∀ a, R a a = true
theorem Tbl.srt {zs : List Str} {W : Str → List Str} {R : Str → Str → Bool} (t : Tbl zs W R) {n : Str} (hn : n ∈ zs) : srt (W n) = OM.ab (srt zs) R n :=
  srt_filter (srt_nodup t.nd) (srt_pw zs) (t.wnd n hn) fun a => by rw [t.mem n hn, mem_srt]
theorem Tbl.wlen {zs : List Str} {W : Str → List Str} {R : Str → Str → Bool} (t : Tbl zs W R) {n : Str} (hn : n ∈ zs) : (W n).length ≤ 8 :=
  Nat.le_trans (nodup_len (t.wnd n hn) fun x hx => ((t.mem n hn x).mp hx).1) t.len
theorem mem_of_rch {E : List (Str × Str)} {N : List Str} (hE : ∀ p ∈ E, p.1 ∈ N ∧ p.2 ∈ N) {a b : Str} (h : OM.Rch E a b) : a ∈ N → b ∈ N := by
  induction h with
  | refl => exact fun h => h
  | step e _ ih => exact fun _ => ih (hE _ e).2
theorem tbl_of {E : List (Str × Str)} {zs : List Str} (hl : zs.length ≤ 8) (hn : zs.Nodup) (ho : ∀ n ∈ zs, nameB n = true) (hE : ∀ p ∈ E, p.1 ∈ zs ∧ p.2 ∈ zs) : Tbl zs (OM.turns E zs.length fun x => [x]) (OM.cl E) where
  len := hl
  nd := hn
  ok := ho
  wnd := fun n _ => OM.turns_nodup n
  mem := fun n hn x => by
    rw [OM.turns_iff hE]
    exact ⟨fun h => ⟨mem_of_rch hE (OM.cl_iff.mp h) hn, h⟩, fun h => h.2⟩
  rf := OM.cl_refl E
local macro_rules | `(tactic| walk_at "sm") => `(tactic| first | (with_reducible assumption) | ((with_reducible refine' IsR.mono ?s ?h); (case s => with_reducible assumption); (case h => walk_at "sm")) | ((with_reducible refine' Same.at ?s ?h); (case s => with_reducible assumption); (case h => walk_at "sm")) | ((with_reducible refine' Same.seq ?s ?h); (case s => with_reducible assumption); (case h => walk_at "sm")) | ((with_reducible refine' SqL.of ?h); (case h => walk_at "sm")))
local macro_rules | `(tactic| walk_at "cd") => `(tactic| first | assumption | exact cmulW (by assumption) (by assumption) | exact cmulW (ZR.Bd.n (by assumption)) (ZR.Bd.n (by assumption)) | exact cmulW (ZR.Bd.n (by assumption)) (ZR.Bd.d (by assumption)) | exact cmulW (ZR.Bd.d (by assumption)) (ZR.Bd.d (by assumption)) | exact cmulW (ZR.Bd.d (by assumption)) (ZR.Bd.n (by assumption)) | exact (by show (0 : Int) < _; decide) | exact .inr ⟨by decide, by decide⟩ | exact .inl ⟨by decide, by decide⟩ | exact ⟨by decide, by decide⟩ | exact ⟨by decide, by decide, by decide⟩)
local macro_rules | `(tactic| walk_at "r1") => `(tactic| first
  | (with_reducible first
  | refine i_seq ?_ | refine i_next ?_ | refine i_asg ?_ | refine i_gname (by with_unfolding_all rfl) ?_ | refine i_ret ?_ | refine i_retN ?_ | refine i_drop ?_ | refine i_ifs ?_ | refine i_test ?_ | refine i_B ?_
  | refine i_bl ?_ | refine i_bl' ?_ | refine i_and ?_ | refine i_or ?_ | refine i_not ?_ | refine i_andV ?_ | refine i_orV ?_ | refine i_notV ?_ | refine i_ifx ?_
  | refine i_tt ?_ | refine i_ff ?_ | refine i_nt ?_ | refine i_nf ?_
  | refine i_var (by with_unfolding_all rfl) ?_ | refine i_c ?_ | refine i_op ?_ | refine i_un ?_ | refine i_cons ?_ | refine i_nil ?_ | refine i_cb ?_ | refine i_call ?_ | refine i_lst0 ?_ | refine i_tup0 ?_
  | refine i_fld0 ?_ | refine i_put0 ?_ | refine i_meth ?_ | refine i_make ?_ | refine i_mkO ?_ | refine i_fmt ?_ | refine i_jsC ?_ | refine i_jsN ?_ | refine i_bits0 ?_ | refine i_bits ?_
  | refine i_lcR10 ?_ | refine i_enS0 ?_ | refine i_lzip ?_ | refine i_mkV ?_ | refine i_fmtSO ?_ | refine i_revA0 ?_ | refine i_truO0 ?_ | refine i_lcR20 ?_ | refine i_lc2R0 ?_ | refine i_forR20 ?_ | refine i_tvd ?_ | refine i_xat ?_ | refine i_fmtL ?_ | refine i_forA0 ?_ | refine i_enA0 ?_ | refine i_lcA0 ?_ | refine i_lc2A0 ?_ | refine i_dcA0 ?_ | refine i_dget0 ?_ | refine i_din0 ?_ | refine i_dput0 ?_ | refine i_tru0 ?_ | refine i_fmtR ?_ | refine i_bm0 ?_ | refine i_gn ?_ | refine i_xf ?_ | refine i_chain ?_ | refine i_sl ?_ | refine i_noPart ?_ | refine i_part ?_ | refine i_part1 ?_ | refine i_revL ?_ | refine i_lcS0 ?_ | refine i_tve ?_ | refine i_ost ?_ | refine i_forL0 ?_ | refine i_forT0 ?_ | refine i_forR0 ?_ | refine i_lcL0 ?_ | refine i_yes ?_ | refine i_gsub ?_ | refine i_par ?_ | refine i_par1 ?_ | refine i_gc ?_ | refine i_gn ?_ | refine i_bm ?_
  | refine i_rI0 ?_ | refine i_rU ?_ | refine i_eqI ?_ | refine i_neI ?_ | refine i_eqB ?_ | refine i_neB ?_ | refine i_eqS ?_ | refine i_neS ?_ | refine i_gcd ?_)
  | ((with_reducible refine i_rI ?c ?_); (case c => walk_at "cd"))
  | walk_at "r2")
local macro_rules | `(tactic| walk_at "rd") => `(tactic| repeat walk_at "r1")
local macro_rules | `(tactic| walk_at "rb") => `(tactic| ((try dsimp only); repeat walk_at "r1"))

local macro_rules | `(tactic| walk_at "r2") => `(tactic| with_reducible first | refine i_mkO ?_)
/-- lists of texts compared with a new list -/
theorem lcv_snoc {N : List Str} {i : Nat} {a : Str} {f g : Str → List Str} (h : N[i]? = some a) : OM.lcv (N.take (i + 1)) f g = OM.lcv (N.take i) f g ++ ((g a).filter fun b => !decide (b = a) && decide (((f a).filter fun c => !(decide (c = a) || decide (c = b)) && decide (b ∈ f c)) = [])).map fun b => (a, b) := by
  unfold OM.lcv
  rw [take_snoc h, List.flatMap_append]
  simp
theorem lcv_len {f g : Str → List Str} {m : Nat} : ∀ {N : List Str}, (∀ n ∈ N, (g n).length ≤ m) → (OM.lcv N f g).length ≤ N.length * m
  | [], _ => by simp [OM.lcv]
  | a :: N, h => by
    have ih := lcv_len (f := f) (g := g) (N := N) fun n hn => h n (List.mem_cons_of_mem _ hn)
    have h1 := List.length_filter_le (fun b => !decide (b = a) && decide (((f a).filter fun c => !(decide (c = a) || decide (c = b)) && decide (b ∈ f c)) = [])) (g a)
    have h2 := h a List.mem_cons_self
    unfold OM.lcv at ih ⊢
    rw [List.flatMap_cons, List.length_append, List.length_map, List.length_cons, Nat.succ_mul]
    omega
/-- what the law knows about its names and its table -/
def spLCov (K : PySem.W.Frag) : Sp := fun vs H Q _ => vs.length = 2 ∧ ∃ (b c : Addr) (zs : List Str) (W : Str → List Str) (R : Str → Str → Bool), vs = [.ref b, .ref c] ∧ SqA K H b (zs.map V.str) ∧ LTab H c zs W ∧ Tbl zs W R ∧
  ∀ q H', H q = none → Same H H' → LPr H' q (OM.cvs (srt zs) R) → Q (.ref q) H'
abbrev s__law_covers : Stmt := top 29
theorem sc__law_covers : FnScope ["_law_names_here", "_law_above_here", "_law_found", "_law_low", "_law_high", "_law_between", "_law_name"] ["_law_names_here", "_law_above_here"] (defScope s__law_covers) := ⟨rfl, rfl, rfl, by decide +kernel, rfl, by decide +kernel, by decide +kernel⟩
theorem ok__law_covers {P : Program} {w : World} {K : PySem.W.Frag} {mg : Str → Option Value} {base : Heap} {f : Addr} {fd : FuncData} (F : L2.Fun K "_law_covers" "_law_covers" s__law_covers f fd)
    (C_b_sorted : mg "sorted" = none) :
    FnOk P w K mg base (L2.CX P w) 1 f fd ["_law_names_here", "_law_above_here"] (spLCov K) := by
  refine fnOk_mk F sc__law_covers (fun vs H Q E h => h.1) (fun cdv A outer s H vs Q E hr h => ?_)
  obtain ⟨_, b, c, zs, W, R, rfl, hb, ⟨A, hc, hA⟩, tb, k⟩ := h
  obtain ⟨hz, hnd, hok, hwn, hwm, hrf⟩ := id tb
  have lz : (srt zs).length = zs.length := (srt_perm zs).length_eq
  refine ⟨_, pss_cons (ps_set (i := 2) sc__law_covers.nd rfl (Or.inl rfl) (pe_lst pa_nil))
    (pss_cons (ps_for (passes_of rfl) rfl (pi_any (K := K) rfl (pe_callB (k_sort (K := K) rfl) (by rfl) C_b_sorted (by decide +kernel) (pa_cons (pv 0) pa_nil))) (pg_name (i := 3) sc__law_covers.nd rfl (Or.inr rfl)) (pss_one (ps_for (passes_of rfl) rfl (pi_any (K := K) rfl (pe_callB (k_sort (K := K) rfl) (by rfl) C_b_sorted (by decide +kernel) (pa_cons (pe_dget (hu_of hr) (pv 1) (pv 3) (fun _ _ => rfl)) pa_nil))) (pg_name (i := 4) sc__law_covers.nd rfl (Or.inr rfl)) (pss_cons (ps_setLc (i := 5) (own := [("_law_name", 6)]) (by rfl) sc__law_covers.nd rfl rfl (sw_true rfl rfl rfl (by decide +kernel)) (pi_any (K := K) rfl (pe_dget (hu_of hr) (pv 1) (pv 3) (fun _ _ => rfl))) (blkOk_by (N := ["_law_names_here", "_law_above_here", "_law_found", "_law_low", "_law_high", "_law_between", "_law_name"]) (sc := defScope s__law_covers) (by decide +kernel)) (fun _ _ _ _ _ => pg_name (i := 6) sc__law_covers.nd rfl (Or.inl rfl)) (fun _ _ _ _ _ => pts_one (PW.pt (pw_and (pt_cmpR (k_notInS (K := K) rfl) (pv 6) (pe_lst (pa_cons (pv 3) (pa_cons (pv 4) pa_nil))) rfl) (pw_and1 (pt_cmpR (k_inS (K := K) rfl) (pv 4) (pe_dget (hu_of hr) (pv 1) (pv 6) (fun _ _ => rfl)) rfl))))) (fun _ _ _ _ _ => pv 6))
    (pss_one (ps_if (PW.pt (pw_and (pt_cmpR op_ne (pv 4) (pv 3) (nomark _)) (pw_and1 (pt_cmpR (k_eqD (K := K) rfl hr.units) (pv 5) (pe_lst pa_nil) (nomark _))))) (pss_one (ps_expr (pe_bm PySem.F.plainAttrs_list PySem.F.slot_list_append PySem.F.type_list_append mt_append (pv 2) (pa_cons (pe_tup (pa_cons (pv 3) (pa_cons (pv 4) pa_nil))) pa_nil)))) (pss_nil)))))))
    (pss_one (ps_ret (pv 2)))), ?_⟩
  try dsimp only [cxOf]
  walk_at "rd"
  refine i_lst1 (Nat.le_of_ble_eq_true rfl) fun q H1 hq s1 e1 o1 => ?_
  walk_at "rd"
  refine i_sort (sameA s1 hb) (by omega) fun u H2 hu s2 o2 e2 => ?_
  walk_at "rd"
  have n2 : Same H H2 := s1.trans s2
  have uq : u ≠ q := fun z => by rw [z, e1] at hu; cases hu
  have e2' : del q H2 u = some (.lst ((srt zs).map V.str)) := by rw [del_at uq]; exact e2
  have hab : ∀ n, (OM.ab (srt zs) R n).length ≤ 8 := fun n => Nat.le_trans ab_len (by omega)
  have inH : ∀ {H' : Hp}, But q H2 H' → Same H H' := fun t => (t.same hq n2 : _)
  refine i_forA (H0 := del q H2) (fun i σ H' => ∃ (v3 v4 v5 v6 : Option V), σ = [some (.ref b), some (.ref c), some (.ref q), v3, v4, v5, v6] ∧ But q H2 H' ∧ LPr H' q (OM.lcv ((srt zs).take i) W (OM.ab (srt zs) R))) (SqA.l e2') ⟨_, _, _, _, rfl, .refl _ _, [], s2 _ _ e1, .nil⟩ (fun i σ H' p => ?_) ?_ ?_
  · obtain ⟨_, _, _, _, _, t, _⟩ := p
    exact same_del t
  · rintro i x σ H3 hx ⟨v3, v4, v5, v6, rfl, t3, lp⟩
    obtain ⟨n, hni, rfl⟩ := strs_at hx
    have hn : n ∈ zs := mem_srt.mp (List.mem_of_getElem? hni)
    rw [lcv_snoc hni]
    have hE0 : (OM.lcv ((srt zs).take i) W (OM.ab (srt zs) R)).length ≤ 64 := by
      have h1 := lcv_len (f := W) (g := OM.ab (srt zs) R) (m := 8) (N := (srt zs).take i) fun n _ => hab n
      rw [List.length_take] at h1
      omega
    generalize OM.lcv ((srt zs).take i) W (OM.ab (srt zs) R) = E0 at *
    have s3 := inH t3
    walk_at "rd"
    refine i_dget (s3 _ _ hc) (rows_val hn) ?_
    walk_at "rd"
    have lw := tb.wlen hn
    refine i_sort (SqA.l (s3 _ _ (hA n hn))) (by omega) fun w H4 hw s4 o4 e4 => ?_
    rw [tb.srt hn] at e4
    walk_at "rd"
    obtain ⟨qs0, eq0, tq0⟩ := id lp
    have wq : w ≠ q := fun z => by rw [z, eq0] at hw; cases hw
    have e4' : del q H4 w = some (.lst ((OM.ab (srt zs) R n).map V.str)) := by rw [del_at wq]; exact e4
    have t4 : But q H2 H4 := t3.trans (.of s4)
    refine i_forA (H0 := del q H4) (fun j σ H' => ∃ (v4 v5 v6 : Option V), σ = [some (.ref b), some (.ref c), some (.ref q), some (.str n), v4, v5, v6] ∧ But q H4 H' ∧ LPr H' q (E0 ++ (((OM.ab (srt zs) R n).take j).filter fun b => !decide (b = n) && decide (((W n).filter fun c => !(decide (c = n) || decide (c = b)) && decide (b ∈ W c)) = [])).map fun b => (n, b))) (SqA.l e4')
      ⟨_, _, _, rfl, .refl _ _, by simpa using lp.mono s4⟩ (fun i σ H' p => ?_) ?_ ?_
    · obtain ⟨_, _, _, _, t, _⟩ := p
      exact same_del t
    · rintro j x σ H5 hx ⟨v4, v5, v6, rfl, t5, lp5⟩
      obtain ⟨m, hmi, rfl⟩ := strs_at hx
      have hm : m ∈ zs := mem_srt.mp (OM.mem_ab.mp (List.mem_of_getElem? hmi)).1
      have t25 := t4.trans t5
      have s5 := inH t25
      rw [take_snoc hmi, List.filter_append, List.map_append, ← List.append_assoc]
      have hE1 : (E0 ++ (((OM.ab (srt zs) R n).take j).filter fun b => !decide (b = n) && decide (((W n).filter fun c => !(decide (c = n) || decide (c = b)) && decide (b ∈ W c)) = [])).map fun b => (n, b)).length ≤ 100 := by
        have h1 := List.length_filter_le (fun b => !decide (b = n) && decide (((W n).filter fun c => !(decide (c = n) || decide (c = b)) && decide (b ∈ W c)) = [])) ((OM.ab (srt zs) R n).take j)
        have h2 := hab n
        rw [List.length_take] at h1
        rw [List.length_append, List.length_map]
        omega
      generalize (E0 ++ (((OM.ab (srt zs) R n).take j).filter fun b => !decide (b = n) && decide (((W n).filter fun c => !(decide (c = n) || decide (c = b)) && decide (b ∈ W c)) = [])).map fun b => (n, b)) = E1 at *
      walk_at "rd"
      refine i_dget (s5 _ _ hc) (rows_val hn) ?_
      refine i_lcA (H0 := H5) (fun k ys H' => Same H5 H' ∧ ys = (((W n).take k).filter fun c => !(decide (c = n) || decide (c = m)) && decide (m ∈ W c)).map V.str) (SqA.l (s5 _ _ (hA n hn))) (Same.refl _) ?_ ?_ ?_ ?_
      · intro D H' hD sm e ho
        exact ⟨sm, rfl⟩
      · exact fun i ys H' p => p.1
      · rintro k x D ys H6 hD hx eD ⟨s6, rfl⟩
        obtain ⟨z, hzi, rfl⟩ := strs_at hx
        have hzz : z ∈ zs := ((hwm n hn z).mp (List.mem_of_getElem? hzi)).1
        walk_at "rd"
        refine ⟨by with_unfolding_all rfl, ?_⟩
        walk_at "rd"
        refine i_lst1 (by show 2 ≤ 100000; decide) fun l2 H7 hl2 s7 e7 o7 => ?_
        refine i_notInS (zs := [n, m]) (SqA.l e7) ?_
        have s57 := s6.trans s7
        have em2 : decide (z ∈ [n, m]) = (decide (z = n) || decide (z = m)) := by simp
        rw [em2]
        have skip : ∀ {H' : Hp}, Same H7 H' → (!(decide (z = n) || decide (z = m)) && decide (m ∈ W z)) = false → LcS D (fun k ys H' => Same H5 H' ∧ ys = (((W n).take k).filter fun c => !(decide (c = n) || decide (c = m)) && decide (m ∈ W c)).map V.str) (k + 1) H' := by
          intro H' s' hf
          refine ⟨_, s' _ _ (s7 _ _ eD), s57.trans s', ?_⟩
          rw [take_snoc hzi, List.filter_append, List.filter_cons_of_neg (by show ¬ (_ && _) = true; rw [hf]; decide), List.filter_nil, List.append_nil]
        refine ⟨_, rfl, ?_⟩
        refine i_bool (fun h1 => ?_) (fun h1 => ?_)
        · walk_at "rd"
          refine i_dget (s57 _ _ (s5 _ _ hc)) (rows_val hzz) ?_
          refine i_inS (SqA.l (s57 _ _ (s5 _ _ (hA z hzz)))) ?_
          walk_at "rd"
          refine i_bool (fun h2 => ?_) (fun h2 => ?_)
          · walk_at "rd"
            refine i_lcE (s7 _ _ eD) ?_ fun H8 e8 o8 => ⟨fun b o eb => ?_, ?_⟩
            · rw [List.length_map]
              have h1 := List.length_filter_le (fun c => !(decide (c = n) || decide (c = m)) && decide (m ∈ W c)) ((W n).take k)
              rw [List.length_take] at h1
              omega
            · rw [o8 b (ne_of_none eb hD)]
              exact s57 _ _ eb
            · rw [take_snoc hzi, List.filter_append, List.filter_cons_of_pos (by show (_ && _) = true; rw [h1, h2]; rfl), List.filter_nil, List.map_append]
              rfl
          · exact skip (Same.refl _) (by rw [h2, Bool.and_false])
        · walk_at "rd"
          exact skip (Same.refl _) (by rw [h1, Bool.false_and])
      · rintro D ys H6 hD eD ⟨s6, rfl⟩
        rw [List.length_map, List.take_length] at eD
        walk_at "rd"
        have t46 : But q H4 H6 := t5.trans (.of s6)
        have lp6 := lp5.mono s6
        have hold : ∀ {H' : Hp}, Same H6 H' → (!decide (m = n) && decide (((W n).filter fun c => !(decide (c = n) || decide (c = m)) && decide (m ∈ W c)) = [])) = false →
            But q H4 H' ∧ LPr H' q (E1 ++ ([m].filter fun b => !decide (b = n) && decide (((W n).filter fun c => !(decide (c = n) || decide (c = b)) && decide (b ∈ W c)) = [])).map fun b => (n, b)) := by
          intro H' s' hf
          rw [List.filter_cons_of_neg (by show ¬ (_ && _) = true; rw [hf]; decide), List.filter_nil]
          exact ⟨t46.trans (.of s'), by simpa using lp6.mono s'⟩
        refine i_ndec (fun g1 => ?_) (fun g1 => ?_)
        · walk_at "rd"
          refine i_lst1 (Nat.le_of_ble_eq_true rfl) fun l2 H7 hl2 s7 e7 o7 => ?_
          refine ⟨.list ((((W n).filter fun c => !(decide (c = n) || decide (c = m)) && decide (m ∈ W c))).map PyData.str), .list (([] : List Str).map PyData.str), .lst (SqL.of (s7 _ _ eD)) (dp_strs _), .lst (SqL.of e7) .nil, shaped_lstS fun z hz => hok z ((hwm n hn z).mp (List.mem_filter.mp hz).1).1, shaped_lstS fun z hz => absurd hz (by simp), ?_⟩
          rw [eqv_lstS]
          refine ⟨_, rfl, ?_⟩
          refine i_dec (fun g2 => ?_) (fun g2 => ?_)
          · obtain ⟨qs, eq, tq⟩ := id (lp6.mono s7)
            walk_at "rd"
            refine ⟨tyL eq, ?_⟩
            walk_at "rd"
            refine i_tup1 (by show 2 ≤ 100000; decide) fun x H8 hx8 s8 e8 o8 => ?_
            walk_at "rd"
            have hql : qs.length = E1.length := tq.1
            refine i_app (xs := qs.map V.ref) (s8 _ _ eq) (by rw [List.length_map]; omega) fun H9 e9 o9 => ?_
            walk_at "rd"
            refine ⟨_, _, _, rfl, fun x o hx e => ?_, ?_⟩
            · rw [o9 x hx]
              exact s8 _ _ (s7 _ _ (t46 x o hx e))
            · rw [List.filter_cons_of_pos (by show (_ && _) = true; rw [g2]; simp [g1]), List.filter_nil]
              exact ((lp6.mono s7).mono s8).snoc (s8 _ _ eq) e8 e9 o9
          · walk_at "rd"
            exact ⟨_, _, _, rfl, hold s7 (by rw [decide_eq_false g2, Bool.and_false])⟩
        · walk_at "rd"
          exact ⟨_, _, _, rfl, hold (Same.refl _) (by rw [decide_eq_true g1]; rfl)⟩
    · rintro σ H5 ⟨v4, v5, v6, rfl, t5, lp5⟩
      rw [List.length_map, List.take_length] at lp5
      exact ⟨_, _, _, _, rfl, t4.trans t5, lp5⟩
  · rintro σ H3 ⟨v3, v4, v5, v6, rfl, t3, lp⟩
    rw [List.length_map, List.take_length, OM.lcv_eq (srt_nodup hnd) hrf fun a ha b => by rw [hwm a (mem_srt.mp ha), mem_srt]] at lp
    walk_at "rd"
    exact k q H3 hq (inH t3) lp

def spText (K : PySem.W.Frag) : Sp := fun vs H Q _ => vs.length = 2 ∧ ∃ (b c : Addr) (zs : List Str) (E : List (Str × Str)), vs = [.ref b, .ref c] ∧ SqA K H b (zs.map V.str) ∧ LPr H c E ∧ zs.length ≤ 8 ∧ (∀ z ∈ zs, z.length ≤ 8) ∧ E.length ≤ 1000 ∧ (∀ e ∈ E, e.1.length ≤ 8 ∧ e.2.length ≤ 8) ∧
  ∀ H', Same H H' → Q (.str (txtP zs E)) H'
abbrev s__law_text : Stmt := top 30
theorem sc__law_text : FnScope ["_law_names_here", "_law_pairs_here", "_law_parts", "_law_low", "_law_high"] ["_law_names_here", "_law_pairs_here"] (defScope s__law_text) := ⟨rfl, rfl, rfl, by decide +kernel, rfl, by decide +kernel, by decide +kernel⟩
theorem ok__law_text {P : Program} {w : World} {K : PySem.W.Frag} {mg : Str → Option Value} {base : Heap} {f : Addr} {fd : FuncData} (F : L2.Fun K "_law_text" "_law_text" s__law_text f fd) :
    FnOk P w K mg base (L2.CX P w) 1 f fd ["_law_names_here", "_law_pairs_here"] (spText K) := by
  refine fnOk_mk F sc__law_text (fun vs H Q E h => h.1) (fun cdv A outer s H vs Q E hr h => ?_)
  obtain ⟨_, b, c, zs, E0, rfl, hb, ⟨ps, hc, tp⟩, h8, hz, hE, he, k⟩ := h
  have l1 : (Str.ofString " ").length = 1 := by decide +kernel
  have l2 : (Str.ofString "; ").length = 2 := by decide +kernel
  have l3 : (Str.ofString " < ").length = 3 := by decide +kernel
  have b1 := sum_le zs hz
  have b2 := join_le (sep := Str.ofString " ") hz
  rw [show zs.length * (Str.ofString " ").length = zs.length by rw [l1, Nat.mul_one]] at b2
  refine ⟨_, pss_cons (ps_set (i := 2) sc__law_text.nd rfl (Or.inl rfl) (pe_lst (pa_cons (pe_bm PySem.F.plainAttrs_str PySem.F.slot_str_join PySem.F.type_str_join mt_join pe_str (pa_cons (pv 0) pa_nil)) pa_nil)))
    (pss_cons (ps_for (passes_of rfl) rfl (pi_any (K := K) rfl (pv 1)) (k_tup (K := K) (n := 2) rfl rfl (pgs_cons (pg_name (i := 3) sc__law_text.nd rfl (Or.inl rfl)) (pgs_cons (pg_name (i := 4) sc__law_text.nd rfl (Or.inl rfl)) pgs_nil))) (pss_one (ps_expr (pe_bm PySem.F.plainAttrs_list PySem.F.slot_list_append PySem.F.type_list_append mt_append (pv 2) (pa_cons (pe_op op_add_str (pe_op op_add_str (pv 3) pe_str) (pv 4)) pa_nil)))))
    (pss_one (ps_ret (pe_bm PySem.F.plainAttrs_str PySem.F.slot_str_join PySem.F.type_str_join mt_join pe_str (pa_cons (pv 2) pa_nil))))), ?_⟩
  try dsimp only [cxOf]
  walk_at "rd"
  refine ⟨rfl, ?_⟩
  walk_at "rd"
  refine ⟨_, b, zs, rfl, rfl, hb, by rw [l1]; omega, ?_⟩
  walk_at "rd"
  refine i_lst1 (Nat.le_of_ble_eq_true rfl) fun q H1 hq s1 e1 o1 => ?_
  walk_at "rd"
  have cq : c ≠ q := fun z => by rw [← z, hc] at hq; cases hq
  have hc1 : (del q H1) c = some (.lst (ps.map V.ref)) := by rw [del_at cq]; exact s1 _ _ hc
  refine i_forA (H0 := del q H1) (fun i σ H' => (∃ v3 v4, σ = [some (.ref b), some (.ref c), some (.ref q), v3, v4]) ∧ But q H1 H' ∧ H' q = some (.lst ((Txt.join (Str.ofString " ") zs :: (E0.take i).map eT).map V.str))) (SqA.l hc1) ⟨⟨_, _, rfl⟩, .refl _ _, e1⟩ (fun i σ H' p => same_del p.2.1) ?_ ?_
  · rintro i x σ H2 hx ⟨⟨v3, v4, rfl⟩, bt2, e2⟩
    rw [List.getElem?_map] at hx
    obtain ⟨r, hr, rfl⟩ : ∃ r, ps[i]? = some r ∧ x = V.ref r := by
      cases e : ps[i]? with
      | none => rw [e] at hx; cases hx
      | some r => rw [e] at hx; exact ⟨r, rfl, (Option.some.inj hx).symm⟩
    have lt := (List.getElem?_eq_some_iff.mp hr).1
    rw [tp.1] at lt
    have hei : E0[i]? = some E0[i] := by simp [lt]
    have er := tp.2 i r _ hr hei
    obtain ⟨n1, n2⟩ := he _ (List.getElem_mem lt)
    generalize E0[i] = ee at *
    obtain ⟨lo, hi⟩ := ee
    have rq : r ≠ q := fun z => by rw [← z, er] at hq; cases hq
    refine i_gtup (SqT.of (bt2 _ _ rq (s1 _ _ er))) rfl ?_
    walk_at "rd"
    refine ⟨tyL e2, ?_⟩
    walk_at "rd"
    refine ⟨_, _, rfl, rfl, by have : lo.length ≤ 8 := n1; rw [l3, sizeLine_eq]; show lo.length + 3 ≤ _; omega, ?_⟩
    walk_at "rb"
    refine ⟨_, _, rfl, rfl, ?_, ?_⟩
    · have a1 : lo.length ≤ 8 := n1
      have a2 : hi.length ≤ 8 := n2
      have a3 : (lo ++ Str.ofString " < ").length = lo.length + 3 := by rw [Str.length_append, l3]
      show (lo ++ Str.ofString " < ").length + hi.length ≤ _
      rw [a3, sizeLine_eq]
      omega
    walk_at "rb"
    refine i_app e2 (by rw [List.length_map, List.length_cons, List.length_map, List.length_take]; omega) fun H3 e3 o3 => ?_
    walk_at "rd"
    refine ⟨⟨_, _, rfl⟩, fun x o hx ex => ?_, ?_⟩
    · rw [o3 x hx]
      exact bt2 x o hx ex
    · rw [e3, take_snoc hei, List.map_append (f := eT), ← List.cons_append, List.map_append]
      rfl
  · rintro σ H2 ⟨⟨v3, v4, rfl⟩, bt2, e2⟩
    rw [List.length_map, tp.1, List.take_length] at e2
    walk_at "rd"
    refine ⟨rfl, ?_⟩
    walk_at "rd"
    refine ⟨_, q, _, rfl, rfl, .inl (.of e2), ?_, ?_⟩
    · have c1 : ∀ y ∈ Txt.join (Str.ofString " ") zs :: E0.map eT, y.length ≤ 80 := fun y hy => by
        rcases List.mem_cons.mp hy with rfl | hy
        · omega
        · obtain ⟨e, hem, rfl⟩ := List.mem_map.mp hy
          obtain ⟨n1, n2⟩ := he e hem
          show (e.1 ++ Str.ofString " < " ++ e.2).length ≤ 80
          rw [Str.length_append, Str.length_append, l3]
          omega
      have b3 := sum_le _ c1
      rw [List.length_cons, List.length_map] at b3
      rw [List.length_cons, List.length_map, l2]
      omega
    · walk_at "rd"
      exact k H2 (bt2.same hq s1)

def dueT (n : Int) : PyData := .list [.str "text", .int n]
noncomputable def dueOf (zs : List Str) (E : List (Str × Str)) : PyData :=
  if ¬ (1 ≤ zs.length ∧ zs.length ≤ 8) then .list [.str "number", .int (zs.length : Nat)]
  else match nmF [] zs with
    | some (false, z) => .list [.str "name", .str z]
    | some (true, z) => .list [.str "twice", .str z]
    | none => match missE zs E with
      | some z => .list [.str "unknown", .str z]
      | none => if rings (srt zs) (OM.cl E) ≠ [] then .list [.str "ring", .list ((rings (srt zs) (OM.cl E)).map .str)] else .list [.tuple ((srt zs).map .str), .list (dPr (OM.prs (srt zs) (OM.cl E)))]
noncomputable def dueR (z : Str) : PyData := match Txt.split z (Str.ofString "; ") with
  | [] => dueT 0
  | hd :: parts => if (Txt.split hd (Str.ofString " ")).all wordB = true then (match parts.findIdx? fun p => (pP p).isNone with
      | some j => dueT (1 + (j : Nat))
      | none => dueOf (Txt.split hd (Str.ofString " ")) (parts.filterMap pP)) else dueT 0
def spTold (K : PySem.W.Frag) : Sp := fun vs H Q _ => vs.length = 4 ∧ ∃ (w : Int) (z : Str) (b c : Addr), vs = [.int w, .str z, .ref b, .ref c] ∧
  ((w = 0 ∧ okT 20000 z ∧ ∀ p H', Same H H' → Dp K H' (.ref p) (dueR z) → Q (.ref p) H') ∨
   (w = 1 ∧ ∃ (zs : List Str) (E : List (Str × Str)), SqA K H b (zs.map V.str) ∧ PrA K H c E ∧ zs.length ≤ 30000 ∧ (∀ z ∈ zs, okT 20000 z) ∧ E.length ≤ 30000 ∧ (∀ e ∈ E, okT 20000 e.1 ∧ okT 20000 e.2) ∧ ∀ p H', Same H H' → Dp K H' (.ref p) (dueOf zs E) → Q (.ref p) H'))
theorem find_none {ps : List Str} (h : (ps.findIdx? fun p => (pP p).isNone) = none) : ∀ q ∈ ps, (pP q).isSome = true := by
  intro q hq
  have := List.findIdx?_eq_none_iff.mp h q hq
  cases e : pP q with
  | none => rw [e] at this; simp at this
  | some v => rfl
theorem find_some {ps : List Str} {j : Nat} {p : Str} (hj : ps[j]? = some p) (hn : pP p = none) (ha : ∀ q ∈ ps.take j, (pP q).isSome = true) : (ps.findIdx? fun p => (pP p).isNone) = some j := by
  rw [List.findIdx?_eq_some_iff_getElem]
  obtain ⟨lt, e⟩ := List.getElem?_eq_some_iff.mp hj
  refine ⟨lt, by rw [e, hn]; rfl, fun i hi => ?_⟩
  have hm : ps[i] ∈ ps.take j := by
    rw [List.mem_take_iff_getElem]
    exact ⟨i, by omega, rfl⟩
  have := ha _ hm
  cases e : pP ps[i] with
  | none => rw [e] at this; simp at this
  | some v => simp
abbrev s__law_told : Stmt := top 32
theorem sc__law_told : FnScope ["_law_which", "_law_text_here", "_law_names_here", "_law_pairs_here", "_law_order", "e"] ["_law_which", "_law_text_here", "_law_names_here", "_law_pairs_here"] (defScope s__law_told) := ⟨rfl, rfl, rfl, by decide +kernel, rfl, by decide +kernel, by decide +kernel⟩
theorem ok__law_told {P : Program} {w : World} {K : PySem.W.Frag} {mg : Str → Option Value} {base : Heap} {CB CD CG CN CO CU CX : Addr} {f : Addr} {fd : FuncData} (F : L2.Fun K "_law_told" "_law_told" s__law_told f fd)
    (C_c_Order : ClO K CO)
    (C_gBadName : mg "BadName" = some (.ref CN))
    (C_gBadNumber : mg "BadNumber" = some (.ref CB))
    (C_gBadText : mg "BadText" = some (.ref CX))
    (C_gDuplicateName : mg "DuplicateName" = some (.ref CD))
    (C_gOrder : mg "Order" = some (.ref CO))
    (C_gRing : mg "Ring" = some (.ref CG))
    (C_gUnknownName : mg "UnknownName" = some (.ref CU))
    (C_i_Order : CalI P w K mg base "Order" CO 4 (spOInitG K CO CB CN CD CU CG))
    (C_k_Order_read : CalK P w K mg base CO "read" 6 (spRead CO CB CN CD CU CG CX))
    (C_m_Order_pairs : CalM P w K mg base CO "pairs" 1 (spPairs CO))
    (C_na_Order__above : NoAttr K CO "_above")
    (C_na_Order_names : NoAttr K CO "names")
    (C_xf_BadName : XfC K CN)
    (C_xf_BadNumber : XfC K CB)
    (C_xf_BadText : XfC K CX)
    (C_xf_DuplicateName : XfC K CD)
    (C_xf_Ring : XfC K CG)
    (C_xf_UnknownName : XfC K CU)
    (C_xm_BadName : PySem.W.exmOne K (.ref CN) (.ref CN) = some true)
    (C_xm_BadName_BadNumber : PySem.W.exmOne K (.ref CN) (.ref CB) = some false)
    (C_xm_BadName_BadText : PySem.W.exmOne K (.ref CN) (.ref CX) = some false)
    (C_xm_BadNumber : PySem.W.exmOne K (.ref CB) (.ref CB) = some true)
    (C_xm_BadNumber_BadText : PySem.W.exmOne K (.ref CB) (.ref CX) = some false)
    (C_xm_BadText : PySem.W.exmOne K (.ref CX) (.ref CX) = some true)
    (C_xm_DuplicateName : PySem.W.exmOne K (.ref CD) (.ref CD) = some true)
    (C_xm_DuplicateName_BadName : PySem.W.exmOne K (.ref CD) (.ref CN) = some false)
    (C_xm_DuplicateName_BadNumber : PySem.W.exmOne K (.ref CD) (.ref CB) = some false)
    (C_xm_DuplicateName_BadText : PySem.W.exmOne K (.ref CD) (.ref CX) = some false)
    (C_xm_Ring : PySem.W.exmOne K (.ref CG) (.ref CG) = some true)
    (C_xm_Ring_BadName : PySem.W.exmOne K (.ref CG) (.ref CN) = some false)
    (C_xm_Ring_BadNumber : PySem.W.exmOne K (.ref CG) (.ref CB) = some false)
    (C_xm_Ring_BadText : PySem.W.exmOne K (.ref CG) (.ref CX) = some false)
    (C_xm_Ring_DuplicateName : PySem.W.exmOne K (.ref CG) (.ref CD) = some false)
    (C_xm_Ring_UnknownName : PySem.W.exmOne K (.ref CG) (.ref CU) = some false)
    (C_xm_UnknownName : PySem.W.exmOne K (.ref CU) (.ref CU) = some true)
    (C_xm_UnknownName_BadName : PySem.W.exmOne K (.ref CU) (.ref CN) = some false)
    (C_xm_UnknownName_BadNumber : PySem.W.exmOne K (.ref CU) (.ref CB) = some false)
    (C_xm_UnknownName_BadText : PySem.W.exmOne K (.ref CU) (.ref CX) = some false)
    (C_xm_UnknownName_DuplicateName : PySem.W.exmOne K (.ref CU) (.ref CD) = some false)
    (C_xn_BadName_name : PySem.W.findIn K (.ref CN) "name" = some none)
    (C_xn_BadNumber_n : PySem.W.findIn K (.ref CB) "n" = some none)
    (C_xn_BadText_at : PySem.W.findIn K (.ref CX) "at" = some none)
    (C_xn_DuplicateName_name : PySem.W.findIn K (.ref CD) "name" = some none)
    (C_xn_Ring_names : PySem.W.findIn K (.ref CG) "names" = some none)
    (C_xn_UnknownName_name : PySem.W.findIn K (.ref CU) "name" = some none) :
    FnOk P w K mg base (L2.CX P w) 7 f fd ["_law_which", "_law_text_here", "_law_names_here", "_law_pairs_here"] (spTold K) := by
  refine fnOk_mk F sc__law_told (fun vs H Q E h => h.1) (fun cdv A outer s H vs Q E hr h => ?_)
  obtain ⟨_, w', z, b, c, rfl, h⟩ := h
  refine ⟨_, pss_cons (z_tryAll (i := 5) rfl rfl sc__law_told.nd rfl rfl takes0 (fun W pn xe tk po => pss_one (ps_if (pt_cmpR op_eq (pv 0) pe_int (nomark _)) (pss_one (ps_set (i := 4) sc__law_told.nd rfl (Or.inl rfl) (z_cmethC (pe_glob (v := .ref CO) rfl C_gOrder rfl) C_k_Order_read hr (fun σ => passAt tk σ) (pa_cons (pv 1) pa_nil)))) (pss_one (ps_set (i := 4) sc__law_told.nd rfl (Or.inl rfl) (z_makeC C_i_Order hr (fun σ => passAt tk σ) (pa_cons (pv 2) (pa_cons (pv 3) pa_nil))))))) (.cons ⟨rfl, by decide, .inl C_gBadText⟩ (fun a oe cls d pn hz hf => pss_one (ps_ret (pe_lst (pa_cons pe_str (pa_cons (pe_xf C_xf_BadText C_xn_BadText_at hz hf (pv 5)) pa_nil))))) (.cons ⟨rfl, by decide, .inl C_gBadNumber⟩ (fun a oe cls d pn hz hf => pss_one (ps_ret (pe_lst (pa_cons pe_str (pa_cons (pe_xf C_xf_BadNumber C_xn_BadNumber_n hz hf (pv 5)) pa_nil))))) (.cons ⟨rfl, by decide, .inl C_gBadName⟩ (fun a oe cls d pn hz hf => pss_one (ps_ret (pe_lst (pa_cons pe_str (pa_cons (pe_xf C_xf_BadName C_xn_BadName_name hz hf (pv 5)) pa_nil))))) (.cons ⟨rfl, by decide, .inl C_gDuplicateName⟩ (fun a oe cls d pn hz hf => pss_one (ps_ret (pe_lst (pa_cons pe_str (pa_cons (pe_xf C_xf_DuplicateName C_xn_DuplicateName_name hz hf (pv 5)) pa_nil))))) (.cons ⟨rfl, by decide, .inl C_gUnknownName⟩ (fun a oe cls d pn hz hf => pss_one (ps_ret (pe_lst (pa_cons pe_str (pa_cons (pe_xf C_xf_UnknownName C_xn_UnknownName_name hz hf (pv 5)) pa_nil))))) (.cons ⟨rfl, by decide, .inl C_gRing⟩ (fun a oe cls d pn hz hf => pss_one (ps_ret (pe_lst (pa_cons pe_str (pa_cons (pe_xf C_xf_Ring C_xn_Ring_names hz hf (pv 5)) pa_nil))))) .nil)))))))
    (pss_one (ps_ret (pe_lst (pa_cons (pe_fld (pv 4) rfl) (pa_cons (z_meth0C (pv 4) C_c_Order.toCls C_m_Order_pairs hr passN) pa_nil))))), ?_⟩
  try dsimp only [cxOf]
  walk_at "rd"
  rcases h with ⟨rfl, oz, k⟩ | ⟨rfl, zs, E0, hb, hc, h60, hl, hE, hR, k⟩
  · refine i_dec (fun _ => ?_) (fun g0 => absurd rfl g0)
    walk_at "rd"
    refine ⟨rfl, ?_⟩
    walk_at "rd"
    refine ⟨rfl, z, rfl, oz, fun hd parts ep => ⟨fun hw => ?_, fun hw => ⟨fun j p0 hj hn hal => ?_, fun ha => ?_⟩⟩⟩
    · intro d H' s e
      refine i_was C_xm_BadText fun a ha => ?_
      walk_at "rd"
      refine i_xf1 e ?_
      walk_at "rd"
      refine i_lst1 (Nat.le_of_ble_eq_true rfl) fun p H2 hp s2 e3 o2 => ?_
      refine k p H2 (s.trans s2) ?_
      unfold dueR
      rw [ep]
      show Dp K H2 (.ref p) (if _ then _ else _)
      rw [hw, if_neg (by decide)]
      exact .lst (.of e3) (.cons (.str _) (.cons (.int _) .nil))
    · intro d H' s e
      refine i_was C_xm_BadText fun a ha => ?_
      walk_at "rd"
      refine i_xf1 e ?_
      walk_at "rd"
      refine i_lst1 (Nat.le_of_ble_eq_true rfl) fun p H2 hp s2 e3 o2 => ?_
      refine k p H2 (s.trans s2) ?_
      unfold dueR
      rw [ep]
      show Dp K H2 (.ref p) (if _ then _ else _)
      rw [hw, if_pos rfl, find_some hj hn hal]
      exact .lst (.of e3) (.cons (.str _) (.cons (.int _) .nil))
    · have hdu : dueR z = dueOf (Txt.split hd (Str.ofString " ")) (parts.filterMap pP) := by
        unfold dueR
        rw [ep]
        show (if _ then _ else _) = _
        have fn : (parts.findIdx? fun p => (pP p).isNone) = none := by
          rw [List.findIdx?_eq_none_iff]
          intro q hq
          have := ha q hq
          cases e : pP q with
          | none => rw [e] at this; cases this
          | some v => rfl
        rw [hw, if_pos rfl, fn]
      rw [hdu] at k
      generalize Txt.split hd (Str.ofString " ") = zs at *
      generalize parts.filterMap pP = E0 at *
      refine ⟨fun g d H' s e => ?_, fun g x z hz d H' s e => ?_, fun g g2 z hz d H' s e => ?_, fun g g2 g3 g4 d q H' s e e2 => ?_, fun g g2 g3 g4 p H' hp s io => ?_⟩
      · refine i_wasNo C_xm_BadNumber_BadText (i_was C_xm_BadNumber fun a ha => ?_)
        walk_at "rd"
        refine i_xf1 e ?_
        walk_at "rd"
        refine i_lst1 (Nat.le_of_ble_eq_true rfl) fun p H2 hp s2 e3 o2 => ?_
        refine k p H2 (s.trans s2) ?_
        unfold dueOf
        rw [if_pos g]
        exact .lst (.of e3) (.cons (.str _) (.cons (.int _) .nil))
      · cases x
        · refine i_wasNo C_xm_BadName_BadText (i_wasNo C_xm_BadName_BadNumber (i_was C_xm_BadName fun a ha => ?_))
          walk_at "rd"
          refine i_xf1 e ?_
          walk_at "rd"
          refine i_lst1 (Nat.le_of_ble_eq_true rfl) fun p H2 hp s2 e3 o2 => ?_
          refine k p H2 (s.trans s2) ?_
          unfold dueOf
          rw [if_neg (not_not_intro g), hz]
          exact .lst (.of e3) (.cons (.str _) (.cons (.str _) .nil))
        · refine i_wasNo C_xm_DuplicateName_BadText (i_wasNo C_xm_DuplicateName_BadNumber (i_wasNo C_xm_DuplicateName_BadName (i_was C_xm_DuplicateName fun a ha => ?_)))
          walk_at "rd"
          refine i_xf1 e ?_
          walk_at "rd"
          refine i_lst1 (Nat.le_of_ble_eq_true rfl) fun p H2 hp s2 e3 o2 => ?_
          refine k p H2 (s.trans s2) ?_
          unfold dueOf
          rw [if_neg (not_not_intro g), hz]
          exact .lst (.of e3) (.cons (.str _) (.cons (.str _) .nil))
      · refine i_wasNo C_xm_UnknownName_BadText (i_wasNo C_xm_UnknownName_BadNumber (i_wasNo C_xm_UnknownName_BadName (i_wasNo C_xm_UnknownName_DuplicateName (i_was C_xm_UnknownName fun a ha => ?_))))
        walk_at "rd"
        refine i_xf1 e ?_
        walk_at "rd"
        refine i_lst1 (Nat.le_of_ble_eq_true rfl) fun p H2 hp s2 e3 o2 => ?_
        refine k p H2 (s.trans s2) ?_
        unfold dueOf
        rw [if_neg (not_not_intro g), g2]
        show Dp K H2 (.ref p) (match missE zs E0 with | some z => _ | none => _)
        rw [hz]
        exact .lst (.of e3) (.cons (.str _) (.cons (.str _) .nil))
      · refine i_wasNo C_xm_Ring_BadText (i_wasNo C_xm_Ring_BadNumber (i_wasNo C_xm_Ring_BadName (i_wasNo C_xm_Ring_DuplicateName (i_wasNo C_xm_Ring_UnknownName (i_was C_xm_Ring fun a ha => ?_)))))
        walk_at "rd"
        refine i_xf1 e ?_
        walk_at "rd"
        refine i_lst1 (Nat.le_of_ble_eq_true rfl) fun p H2 hp s2 e3 o2 => ?_
        refine k p H2 (s.trans s2) ?_
        unfold dueOf
        rw [if_neg (not_not_intro g), g2]
        show Dp K H2 (.ref p) (match missE zs E0 with | some z => _ | none => _)
        rw [g3]
        show Dp K H2 (.ref p) (if _ then _ else _)
        rw [if_pos g4]
        exact .lst (.of e3) (.cons (.str _) (.cons (.lst (.of (s2 _ _ e2)) (dp_strs _)) .nil))
      · walk_at "rd"
        obtain ⟨dx, t, d, e1, et, _, hl8, _, hnl⟩ := id io
        refine i_fld1 e1 C_c_Order.toCls C_na_Order_names rf_names ?_
        walk_at "rd"
        refine i_meth1 e1 (ro_no (by decide +kernel) (by decide +kernel)) ?_
        walk_at "rd"
        refine ⟨rfl, p, _, _, rfl, io, fun r H4 hr s4 hP => ?_⟩
        obtain ⟨qs, eqs, tqs⟩ := hP
        walk_at "rd"
        refine i_lst1 (Nat.le_of_ble_eq_true rfl) fun p2 H5 hp2 s5 e5 o5 => ?_
        refine k p2 H5 ((s.trans s4).trans s5) ?_
        unfold dueOf
        rw [if_neg (not_not_intro g), g2]
        show Dp K H5 (.ref p2) (match missE zs E0 with | some z => _ | none => _)
        rw [g3]
        show Dp K H5 (.ref p2) (if _ then _ else _)
        rw [if_neg (not_not_intro g4)]
        exact .lst (.of e5) (.cons (.tup (.of (s5 _ _ (s4 _ _ et))) (dp_strs _)) (.cons (.lst (.of (s5 _ _ eqs)) (tqs.mono s5).dp) .nil))
  · refine i_dec (fun g0 => absurd g0 (by decide)) (fun _ => ?_)
    walk_at "rd"
    refine i_newG hb hc h60 (fun y hy => ⟨by have := (hl y hy).1; omega, (hl y hy).rw (by decide)⟩) hE (fun e he => ⟨(hR e he).1.rw (by decide), (hR e he).2.rw (by decide)⟩) (fun g d H' s e => ?_) (fun g x z hz d H' s e => ?_) (fun g g2 z hz d H' s e => ?_) (fun g g2 g3 g4 d q H' s e e2 => ?_) (fun g g2 g3 g4 p H' hp s io => ?_)
    · refine i_wasNo C_xm_BadNumber_BadText (i_was C_xm_BadNumber fun a ha => ?_)
      walk_at "rd"
      refine i_xf1 e ?_
      walk_at "rd"
      refine i_lst1 (Nat.le_of_ble_eq_true rfl) fun p H2 hp s2 e3 o2 => ?_
      refine k p H2 (s.trans s2) ?_
      unfold dueOf
      rw [if_pos g]
      exact .lst (.of e3) (.cons (.str _) (.cons (.int _) .nil))
    · cases x
      · refine i_wasNo C_xm_BadName_BadText (i_wasNo C_xm_BadName_BadNumber (i_was C_xm_BadName fun a ha => ?_))
        walk_at "rd"
        refine i_xf1 e ?_
        walk_at "rd"
        refine i_lst1 (Nat.le_of_ble_eq_true rfl) fun p H2 hp s2 e3 o2 => ?_
        refine k p H2 (s.trans s2) ?_
        unfold dueOf
        rw [if_neg (not_not_intro g), hz]
        exact .lst (.of e3) (.cons (.str _) (.cons (.str _) .nil))
      · refine i_wasNo C_xm_DuplicateName_BadText (i_wasNo C_xm_DuplicateName_BadNumber (i_wasNo C_xm_DuplicateName_BadName (i_was C_xm_DuplicateName fun a ha => ?_)))
        walk_at "rd"
        refine i_xf1 e ?_
        walk_at "rd"
        refine i_lst1 (Nat.le_of_ble_eq_true rfl) fun p H2 hp s2 e3 o2 => ?_
        refine k p H2 (s.trans s2) ?_
        unfold dueOf
        rw [if_neg (not_not_intro g), hz]
        exact .lst (.of e3) (.cons (.str _) (.cons (.str _) .nil))
    · refine i_wasNo C_xm_UnknownName_BadText (i_wasNo C_xm_UnknownName_BadNumber (i_wasNo C_xm_UnknownName_BadName (i_wasNo C_xm_UnknownName_DuplicateName (i_was C_xm_UnknownName fun a ha => ?_))))
      walk_at "rd"
      refine i_xf1 e ?_
      walk_at "rd"
      refine i_lst1 (Nat.le_of_ble_eq_true rfl) fun p H2 hp s2 e3 o2 => ?_
      refine k p H2 (s.trans s2) ?_
      unfold dueOf
      rw [if_neg (not_not_intro g), g2]
      show Dp K H2 (.ref p) (match missE zs E0 with | some z => _ | none => _)
      rw [hz]
      exact .lst (.of e3) (.cons (.str _) (.cons (.str _) .nil))
    · refine i_wasNo C_xm_Ring_BadText (i_wasNo C_xm_Ring_BadNumber (i_wasNo C_xm_Ring_BadName (i_wasNo C_xm_Ring_DuplicateName (i_wasNo C_xm_Ring_UnknownName (i_was C_xm_Ring fun a ha => ?_)))))
      walk_at "rd"
      refine i_xf1 e ?_
      walk_at "rd"
      refine i_lst1 (Nat.le_of_ble_eq_true rfl) fun p H2 hp s2 e3 o2 => ?_
      refine k p H2 (s.trans s2) ?_
      unfold dueOf
      rw [if_neg (not_not_intro g), g2]
      show Dp K H2 (.ref p) (match missE zs E0 with | some z => _ | none => _)
      rw [g3]
      show Dp K H2 (.ref p) (if _ then _ else _)
      rw [if_pos g4]
      exact .lst (.of e3) (.cons (.str _) (.cons (.lst (.of (s2 _ _ e2)) (dp_strs _)) .nil))
    · walk_at "rd"
      obtain ⟨dx, t, d, e1, et, _, hl8, _, hnl⟩ := id io
      refine i_fld1 e1 C_c_Order.toCls C_na_Order_names rf_names ?_
      walk_at "rd"
      refine i_meth1 e1 (ro_no (by decide +kernel) (by decide +kernel)) ?_
      walk_at "rd"
      refine ⟨rfl, p, _, _, rfl, io, fun r H4 hr s4 hP => ?_⟩
      obtain ⟨qs, eqs, tqs⟩ := hP
      walk_at "rd"
      refine i_lst1 (Nat.le_of_ble_eq_true rfl) fun p2 H5 hp2 s5 e5 o5 => ?_
      refine k p2 H5 ((s.trans s4).trans s5) ?_
      unfold dueOf
      rw [if_neg (not_not_intro g), g2]
      show Dp K H5 (.ref p2) (match missE zs E0 with | some z => _ | none => _)
      rw [g3]
      show Dp K H5 (.ref p2) (if _ then _ else _)
      rw [if_neg (not_not_intro g4)]
      exact .lst (.of e5) (.cons (.tup (.of (s5 _ _ (s4 _ _ et))) (dp_strs _)) (.cons (.lst (.of (s5 _ _ eqs)) (tqs.mono s5).dp) .nil))

def spDue (K : PySem.W.Frag) : Sp := fun vs H Q _ => vs.length = 1 ∧ ∃ (z : Str), vs = [.str z] ∧ okT 20000 z ∧ ∀ p H', Same H H' → Dp K H' (.ref p) (dueR z) → Q (.ref p) H'
abbrev s__law_due : Stmt := top 33
theorem sc__law_due : FnScope ["_law_text_here", "_law_parts", "_law_names_here", "_law_name", "_law_pairs_here", "_law_at", "_law_words"] ["_law_text_here"] (defScope s__law_due) := ⟨rfl, rfl, rfl, by decide +kernel, rfl, by decide +kernel, by decide +kernel⟩
theorem ok__law_due {P : Program} {w : World} {K : PySem.W.Frag} {mg : Str → Option Value} {base : Heap} {f : Addr} {fd : FuncData} (F : L2.Fun K "_law_due" "_law_due" s__law_due f fd)
    (C_b_all : mg "all" = none)
    (C_b_len : mg "len" = none)
    (C_b_range : mg "range" = none)
    (C_f_law_is_word : Cal P w K mg base "_law_is_word" 1 spWord)
    (C_f_law_told : Cal P w K mg base "_law_told" 7 (spTold K)) :
    FnOk P w K mg base (L2.CX P w) 8 f fd ["_law_text_here"] (spDue K) := by
  refine fnOk_mk F sc__law_due (fun vs H Q E h => h.1) (fun cdv A outer s H vs Q E hr h => ?_)
  obtain ⟨_, z, rfl, oz, k⟩ := h
  have sp1 := oz.split (y := Str.ofString "; ") (by decide +kernel) (by decide +kernel)
  obtain ⟨hd, parts, ep⟩ : ∃ hd parts, Txt.split z (Str.ofString "; ") = hd :: parts := by
    cases e : Txt.split z (Str.ofString "; ") with
    | nil => rw [e] at sp1; exact absurd sp1.2.1 (by simp)
    | cons a b => exact ⟨a, b, rfl⟩
  have dR : dueR z = if (Txt.split hd (Str.ofString " ")).all wordB = true then (match parts.findIdx? fun p => (pP p).isNone with
      | some j => dueT (1 + (j : Nat))
      | none => dueOf (Txt.split hd (Str.ofString " ")) (parts.filterMap pP)) else dueT 0 := by
    unfold dueR
    rw [ep] <;> rfl
  rw [ep] at sp1
  have ohd := sp1.1 hd List.mem_cons_self
  have lp : parts.length ≤ 20000 := by
    have := sp1.2.2
    rw [List.length_cons] at this
    omega
  have sp2 := ohd.split (y := Str.ofString " ") (by decide +kernel) (by decide +kernel)
  refine ⟨_, pss_cons (ps_set (i := 1) sc__law_due.nd rfl (Or.inl rfl) (pe_bm PySem.F.plainAttrs_str PySem.F.slot_str_split PySem.F.type_str_split mt_split (pv 0) (pa_cons pe_str pa_nil)))
    (pss_cons (ps_set (i := 2) sc__law_due.nd rfl (Or.inl rfl) (pe_bm PySem.F.plainAttrs_str PySem.F.slot_str_split PySem.F.type_str_split mt_split (pe_ix ix_list (pv 1) pe_int (fun _ _ => rfl)) (pa_cons pe_str pa_nil)))
    (pss_cons (ps_if (pt_not (pt_val (pe_callB (k_all rfl (K := K) rfl) (by rfl) C_b_all (by decide +kernel) (pa_cons (pe_lc (own := [("_law_name", 3)]) (by rfl) sc__law_due.nd (pi_any (K := K) rfl (pv 2)) (blkOk_by (N := ["_law_text_here", "_law_parts", "_law_names_here", "_law_name", "_law_pairs_here", "_law_at", "_law_words"]) (sc := defScope s__law_due) (by decide +kernel)) (fun _ _ _ _ _ => pg_name (i := 3) sc__law_due.nd rfl (Or.inl rfl)) (fun _ _ _ _ _ => pts_nil) (fun _ _ _ _ _ => z_callC C_f_law_is_word hr passN (pa_cons (pv 3) pa_nil))) pa_nil)))) (pss_one (ps_ret (pe_lst (pa_cons pe_str (pa_cons pe_int pa_nil))))) (pss_nil))
    (pss_cons (ps_set (i := 4) sc__law_due.nd rfl (Or.inl rfl) (pe_lst pa_nil))
    (pss_cons (ps_for (passes_of rfl) rfl (pi_range2 (by rfl) C_b_range (pa_cons pe_int (pa_cons (pe_callB (k_len (K := K) rfl) (by rfl) C_b_len (by decide +kernel) (pa_cons (pv 1) pa_nil)) pa_nil))) (pg_name (i := 5) sc__law_due.nd rfl (Or.inl rfl)) (pss_cons (ps_set (i := 6) sc__law_due.nd rfl (Or.inl rfl) (pe_bm PySem.F.plainAttrs_str PySem.F.slot_str_split PySem.F.type_str_split mt_split (pe_ix ix_list (pv 1) (pv 5) (fun _ _ => rfl)) (pa_cons pe_str pa_nil)))
    (pss_cons (ps_if (PW.pt (pw_or (pt_cmpR op_ne (pe_callB (k_len (K := K) rfl) (by rfl) C_b_len (by decide +kernel) (pa_cons (pv 6) pa_nil)) pe_int (nomark _)) (pw_or (pt_not (pt_val (z_callC C_f_law_is_word hr passN (pa_cons (pe_ix ix_list (pv 6) pe_int (fun _ _ => rfl)) pa_nil)))) (pw_or1 (pt_not (pt_val (z_callC C_f_law_is_word hr passN (pa_cons (pe_ix ix_list (pv 6) pe_int (fun _ _ => rfl)) pa_nil)))))))) (pss_one (ps_ret (pe_lst (pa_cons pe_str (pa_cons (pv 5) pa_nil))))) (pss_nil))
    (pss_one (ps_expr (pe_bm PySem.F.plainAttrs_list PySem.F.slot_list_append PySem.F.type_list_append mt_append (pv 4) (pa_cons (pe_tup (pa_cons (pe_ix ix_list (pv 6) pe_int (fun _ _ => rfl)) (pa_cons (pe_ix ix_list (pv 6) pe_int (fun _ _ => rfl)) pa_nil))) pa_nil)))))))
    (pss_one (ps_ret (z_callC C_f_law_told hr passN (pa_cons pe_int (pa_cons pe_str (pa_cons (pv 2) (pa_cons (pv 4) pa_nil))))))))))), ?_⟩
  try dsimp only [cxOf]
  walk_at "rd"
  refine ⟨rfl, ?_⟩
  walk_at "rd"
  refine i_split (by decide +kernel) (by have := oz.1; omega) fun p1 H1 hp1 s1 e1 o1 => ?_
  rw [ep] at e1
  walk_at "rd"
  refine i_ix0 (.of e1) ?_
  refine ⟨rfl, ?_⟩
  walk_at "rd"
  refine i_split (by decide +kernel) (by have := ohd.1; omega) fun p2 H2 hp2 s2 e2 o2 => ?_
  walk_at "rd"
  generalize hns : Txt.split hd (Str.ofString " ") = ns at *
  refine i_lcA (H0 := H2) (fun i ys H' => Same H2 H' ∧ ys = ((ns.take i).map wordB).map V.bl) (SqA.l e2) (Same.refl _) (fun D H' hD s e ho => ⟨s, rfl⟩) (fun i ys H1 p => p.1) ?_ ?_
  · rintro i x D ys H3 hD hx eD ⟨s3, rfl⟩
    obtain ⟨y, hy, rfl⟩ := strs_at hx
    have lt := (List.getElem?_eq_some_iff.mp hy).1
    walk_at "rd"
    refine ⟨by with_unfolding_all rfl, ?_⟩
    walk_at "rd"
    refine ⟨rfl, y, rfl, fun H4 s4 => ?_⟩
    refine i_lcE (s4 _ _ eD) ?_ fun H5 e5 o5 => ⟨fun c o ec => ?_, ?_⟩
    · rw [List.length_map, List.length_map, List.length_take]
      have := sp2.2.2
      omega
    · rw [o5 c (ne_of_none ec hD)]
      exact s4 _ _ (s3 _ _ ec)
    · rw [take_snoc hy, List.map_append, List.map_append]
      rfl
  rintro D ys H3 hD eD ⟨s3, rfl⟩
  rw [List.length_map, List.take_length] at eD
  walk_at "rd"
  refine i_all eD ?_
  rw [List.all_map]
  have t3 := (s1.trans s2).trans s3
  cases hw : ns.all wordB with
  | false =>
    have hw' : ns.all (id ∘ wordB) = false := hw
    rw [hw']
    walk_at "rd"
    refine i_lst1 (Nat.le_of_ble_eq_true rfl) fun p H4 hp s4 e4 o4 => ?_
    walk_at "rd"
    refine k p H4 (t3.trans s4) ?_
    rw [dR, hw, if_neg (by decide)]
    exact .lst (.of e4) (.cons (.str _) (.cons (.int _) .nil))
  | true =>
    have hw' : ns.all (id ∘ wordB) = true := hw
    rw [hw']
    rw [hw, if_pos rfl] at dR
    walk_at "rd"
    refine i_lst1 (Nat.le_of_ble_eq_true rfl) fun q H4 hq s4 e4 o4 => ?_
    walk_at "rd"
    have t4 := t3.trans s4
    have nq : H q = none := same_noneV t3 hq
    have e14 := s4 _ _ (s3 _ _ (s2 _ _ e1))
    have e24 := s4 _ _ (s3 _ _ e2)
    refine i_lenL (.of e14) ?_
    rw [List.length_map, List.length_cons]
    walk_at "rd"
    have p1q : p1 ≠ q := fun z => by rw [← z, s3 _ _ (s2 _ _ e1)] at hq; cases hq
    have p2q : p2 ≠ q := fun z => by rw [← z, s3 _ _ e2] at hq; cases hq
    have sam : ∀ {H' : Hp}, But q H4 H' → Same H H' := fun {H'} bt c o e => bt c o (ne_of_none e nq) (t4 _ _ e)
    refine i_forR2 (l := 1) (n := parts.length + 1) rfl (by omega) (by omega) (by omega) (fun i σ H' => (∃ v5 v6, σ = [some (.str z), some (.ref p1), some (.ref p2), none, some (.ref q), v5, v6]) ∧ But q H4 H' ∧ LPr H' q ((parts.take (i - 1)).filterMap pP) ∧ ∀ x ∈ parts.take (i - 1), (pP x).isSome = true) ⟨⟨_, _, rfl⟩, .refl _ _, ⟨[], e4, .nil⟩, fun x hx => absurd hx (by simp)⟩ ?_ ?_
    · rintro i σ H6 hi1 hi2 ⟨⟨v5, v6, rfl⟩, bt6, lp6, al6⟩
      obtain ⟨j, rfl⟩ : ∃ j, i = j + 1 := ⟨i - 1, by omega⟩
      have ltj : j < parts.length := by omega
      have hpi : parts[j]? = some parts[j] := by simp [ltj]
      generalize hpj : parts[j] = p at *
      rw [Nat.add_sub_cancel] at lp6 al6
      walk_at "rd"
      refine i_ixL (k := j + 1) (v := .str p) (.of (bt6 _ _ p1q e14)) (by rw [List.getElem?_map, List.getElem?_cons_succ, hpi]; rfl) ?_
      refine ⟨rfl, ?_⟩
      walk_at "rd"
      have op := sp1.1 p (List.mem_cons_of_mem _ (List.mem_of_getElem? hpi))
      have t6 := sam bt6
      refine i_split (by decide +kernel) (by have := op.1; omega) fun p8 H8 hp8 s8 e8 o8 => ?_
      walk_at "rd"
      have t8 := t6.trans s8
      have bad : ∀ {H9 : Hp}, Same H8 H9 → pP p = none → rLst [.str "text", .int ((j + 1 : Nat) : Int)] H9 Q := fun {H9} s9 hn => by
        refine i_lst1 (Nat.le_of_ble_eq_true rfl) fun p H10 hp s10 e10 o10 => ?_
        refine k p H10 ((t8.trans s9).trans s10) ?_
        rw [dR, find_some hpi hn al6]
        have ej : ((j + 1 : Nat) : Int) = 1 + (j : Nat) := by omega
        rw [ej] at e10
        exact .lst (.of e10) (.cons (.str _) (.cons (.int _) .nil))
      refine i_lenL (.of e8) ?_
      rw [List.length_map]
      walk_at "rd"
      refine i_ndec (fun g => ?_) (fun g => ?_)
      · walk_at "rd"
        exact bad (Same.refl _) (pP_len fun h => g (by omega))
      · obtain ⟨a, b, hab⟩ : ∃ a b, Txt.split p (Str.ofString " < ") = [a, b] := by
          match hs : Txt.split p (Str.ofString " < "), (show (Txt.split p (Str.ofString " < ")).length = 2 by omega) with
          | [a, b], _ => exact ⟨a, b, rfl⟩
        rw [hab] at e8
        have hpp := pP_two hab
        walk_at "rd"
        refine i_ix0 (.of e8) ?_
        walk_at "rd"
        refine ⟨rfl, a, rfl, fun H9 s9 => ?_⟩
        cases wa : wordB a with
        | false =>
          refine ⟨_, rfl, ?_⟩
          rw [if_pos (by rfl)]
          walk_at "rd"
          exact bad s9 (by rw [hpp]; simp [wa])
        | true =>
          refine ⟨_, rfl, ?_⟩
          rw [if_neg (by decide)]
          walk_at "rd"
          refine i_ix1 (.of (s9 _ _ e8)) ?_
          walk_at "rd"
          refine ⟨rfl, b, rfl, fun H10 s10 => ?_⟩
          have s810 := s9.trans s10
          cases wb : wordB b with
          | false =>
            refine ⟨_, rfl, ?_⟩
            rw [if_pos (by rfl)]
            walk_at "rd"
            exact bad s810 (by rw [hpp]; simp [wb])
          | true =>
            have hpe : pP p = some (a, b) := by rw [hpp]; simp [wa, wb]
            refine ⟨_, rfl, ?_⟩
            rw [if_neg (by decide)]
            obtain ⟨qs, eqs, tqs⟩ := id lp6
            have s710 := s8.trans s810
            walk_at "rd"
            refine ⟨tyL (s710 _ _ eqs), ?_⟩
            walk_at "rd"
            have e9 := s810 _ _ e8
            refine i_ix0 (.of e9) ?_
            walk_at "rd"
            refine i_ix1 (.of e9) ?_
            walk_at "rd"
            refine i_tup1 (by show 2 ≤ 100000; decide) fun u H11 hu s11 e11 o11 => ?_
            walk_at "rd"
            have eq11 := s11 _ _ (s710 _ _ eqs)
            have lq : qs.length = ((parts.take j).filterMap pP).length := tqs.1
            have lf : ((parts.take j).filterMap pP).length ≤ j := by
              have h1 := List.length_filterMap_le pP (parts.take j)
              rw [List.length_take] at h1
              omega
            refine i_app eq11 (by rw [List.length_map]; omega) fun H12 e12 o12 => ?_
            walk_at "rd"
            have s711 := s710.trans s11
            have etk : parts.take (j + 1 + 1 - 1) = parts.take j ++ [p] := by rw [Nat.add_sub_cancel]; exact take_snoc hpi
            refine ⟨⟨_, _, rfl⟩, fun c o hc ec => ?_, ⟨qs ++ [u], ?_, ?_⟩, fun x hx => ?_⟩
            · rw [o12 c hc]
              exact s711 _ _ (bt6 c o hc ec)
            · rw [e12, List.map_append]
              rfl
            · rw [etk, List.filterMap_append]
              have e1 : [p].filterMap pP = [(a, b)] := by simp [List.filterMap, hpe]
              rw [e1]
              exact ((tqs.mono s711).snoc e11).keep (lst_keep eq11 o12)
            · rw [etk] at hx
              rcases List.mem_append.mp hx with hx | hx
              · exact al6 x hx
              · rw [List.mem_singleton.mp hx, hpe]
                rfl
    · rintro σ H6 ⟨⟨v5, v6, rfl⟩, bt6, lp6, al6⟩
      rw [Nat.add_sub_cancel, List.take_length] at lp6 al6
      walk_at "rd"
      have fn : (parts.findIdx? fun p => (pP p).isNone) = none := by
        rw [List.findIdx?_eq_none_iff]
        intro q hq
        have := al6 q hq
        cases e : pP q with
        | none => rw [e] at this; cases this
        | some v => rfl
      rw [fn] at dR
      have t6 := sam bt6
      have pr : ∀ e ∈ parts.filterMap pP, okT 20000 e.1 ∧ okT 20000 e.2 := fun e he => by
        obtain ⟨p, hp, hpe⟩ := List.mem_filterMap.mp he
        have h1 := ((sp1.1 p (List.mem_cons_of_mem _ hp)).split (y := Str.ofString " < ") (by decide +kernel) (by decide +kernel)).1
        rw [(pP_some hpe).1] at h1
        exact ⟨h1 _ (by simp), h1 _ (by simp)⟩
      refine ⟨rfl, 1, _, p2, q, rfl, .inr ⟨rfl, ns, parts.filterMap pP, .l (bt6 _ _ p2q e24), lp6.a, by have := sp2.2.2; omega, sp2.1, by have := List.length_filterMap_le pP parts; omega, pr, fun p H' s d => k p H' (t6.trans s) ?_⟩⟩
      rw [dR]
      exact d
/-! ### how long the pieces are together -/
theorem pre_len {S l : List Nat} (h : TL.pre S l = true) : S.length ≤ l.length := by
  unfold TL.pre at h
  have e : l.take S.length = S := beq_iff_eq.mp h
  have := congrArg List.length e
  rw [List.length_take] at this
  omega
theorem spl_sum {S : List Nat} (hS : 1 ≤ S.length) : ∀ (xs : List Nat) (k : Nat) (acc : List Nat), k ≤ xs.length → ((TL.spl S k acc xs).map List.length).sum + ((TL.spl S k acc xs).length - 1) * S.length + k ≤ acc.length + xs.length
  | [], k, acc, hk => by
    have : k = 0 := by simpa using hk
    subst this
    rw [TL.spl_nil]
    simp
  | c :: r, 0, acc, _ => by
    rw [TL.spl]
    split
    · rename_i h
      have hl := pre_len h
      rw [List.length_cons] at hl
      have ih := spl_sum hS r (S.length - 1) [] (by omega)
      have cn := (spl_cnt S r (S.length - 1) []).1
      rw [List.map_cons, List.sum_cons, List.length_cons, List.length_cons, Nat.add_sub_cancel]
      rw [List.length_nil] at ih
      have e : (TL.spl S (S.length - 1) [] r).length * S.length = ((TL.spl S (S.length - 1) [] r).length - 1) * S.length + S.length := by
        conv => lhs; rw [show (TL.spl S (S.length - 1) [] r).length = ((TL.spl S (S.length - 1) [] r).length - 1) + 1 by omega]
        rw [Nat.succ_mul]
      omega
    · have ih := spl_sum hS r 0 (acc ++ [c]) (Nat.zero_le _)
      rw [List.length_append, List.length_singleton] at ih
      rw [List.length_cons]
      omega
  | c :: r, k + 1, acc, hk => by
    rw [TL.spl]
    rw [List.length_cons] at hk
    have ih := spl_sum hS r k acc (by omega)
    rw [List.length_cons]
    omega
/-- a list of words: its length as it stands in a text -/
def wid (s : Nat) (ws : List Str) : Nat := (ws.map (·.length)).sum + ws.length * s
theorem split_wid {z y : Str} (hy : TL.tl y ≠ []) (hk : y.cps.all (· < 256) = true) : wid y.length (Txt.split z y) ≤ z.length + y.length := by
  have e := TL.split_spl z y hy (TL.kind_ok hk)
  have ly := TL.len_tl y
  have lz := TL.len_tl z
  have hS : 1 ≤ (TL.tl y).length := by
    cases h : TL.tl y with
    | nil => exact absurd h hy
    | cons a b => simp
  have h1 := spl_sum hS (TL.tl z) 0 [] (Nat.zero_le _)
  have h2 := (spl_cnt (TL.tl y) (TL.tl z) 0 []).1
  rw [← e] at h1 h2
  rw [List.map_map, List.length_map] at h1
  rw [List.length_map] at h2
  have e2 : ((Txt.split z y).map (List.length ∘ TL.tl)).sum = ((Txt.split z y).map (·.length)).sum := by
    congr 1
  unfold wid
  rw [e2, List.length_nil] at h1
  have e3 : (Txt.split z y).length * y.length = ((Txt.split z y).length - 1) * y.length + y.length := by
    conv => lhs; rw [show (Txt.split z y).length = ((Txt.split z y).length - 1) + 1 by omega]
    rw [Nat.succ_mul]
  have e4 : (TL.tl y).length = y.length := by omega
  rw [e4] at h1
  omega
theorem join_wid (y : Str) (ws : List Str) : (Txt.join y ws).length ≤ wid y.length ws := by
  have h1 := joinL_le (TL.tl y) (ws.map TL.tl)
  have e : (ws.map TL.tl).map List.length = ws.map (·.length) := by
    rw [List.map_map]
    refine List.map_congr_left fun z _ => ?_
    exact (TL.len_tl z).symm
  rw [e, List.length_map, ← TL.tl_join, ← TL.join_eq, ← TL.len_tl, ← TL.len_tl] at h1
  exact h1
def plain (z : Str) : Prop := ∀ c ∈ TL.tl z, c < 128
def MARKS : List Str := ["; ", " ", " < "]
theorem marks_ok : ∀ m ∈ MARKS, TL.tl m ≠ [] ∧ m.cps.all (· < 256) = true ∧ (m.length == 0) = false ∧ m.length ≤ 3 ∧ plain m := by
  have h : MARKS.all (fun m => !((TL.tl m).isEmpty) && m.cps.all (· < 256) && !(m.length == 0) && decide (m.length ≤ 3) && (TL.tl m).all (fun c => decide (c < 128))) = true := by decide +kernel
  intro m hm
  have := List.all_eq_true.mp h m hm
  simp only [Bool.and_eq_true, decide_eq_true_eq, Bool.not_eq_true'] at this
  obtain ⟨⟨⟨⟨h1, h2⟩, h3⟩, h4⟩, h5⟩ := this
  exact ⟨(fun e => by rw [e] at h1; cases h1), h2, h3, h4, fun c hc => of_decide_eq_true (List.all_eq_true.mp h5 c hc)⟩
def MENU15 : List Str := ["", "a", "zz", "<", "a < b", "a<b", "X", "a < b < c", ";", "abcdefghi", "1a", " a", "c < c"]
theorem menu15_ok : ∀ m ∈ MENU15, m.length ≤ 9 ∧ plain m := by
  have h : MENU15.all (fun m => decide (m.length ≤ 9) && (TL.tl m).all (fun c => decide (c < 128))) = true := by decide +kernel
  intro m hm
  have := List.all_eq_true.mp h m hm
  simp only [Bool.and_eq_true, decide_eq_true_eq] at this
  exact ⟨this.1, fun c hc => of_decide_eq_true (List.all_eq_true.mp this.2 c hc)⟩
theorem wid_app (s : Nat) (a b : List Str) : wid s (a ++ b) = wid s a + wid s b := by
  unfold wid
  rw [List.map_append, List.sum_append, List.length_append, Nat.add_mul]
  omega
theorem wid_cons (s : Nat) (a : Str) (b : List Str) : wid s (a :: b) = a.length + s + wid s b := by
  unfold wid
  rw [List.map_cons, List.sum_cons, List.length_cons, Nat.succ_mul]
  omega
theorem wid_cut (s : Nat) (ws : List Str) (j : Nat) : wid s (ws.take j) + wid s (ws.drop j) = wid s ws := by
  rw [← wid_app, List.take_append_drop]
theorem wid_drop (s : Nat) (ws : List Str) (j : Nat) : wid s (ws.drop (j + 1)) ≤ wid s (ws.drop j) := by
  rcases Nat.lt_or_ge j ws.length with h | h
  · rw [List.drop_eq_getElem_cons h, wid_cons]
    omega
  · rw [List.drop_of_length_le h, List.drop_of_length_le (by omega)]
    exact Nat.le_refl _
theorem wid_rev (s : Nat) (ws : List Str) : wid s ws.reverse = wid s ws := by
  unfold wid
  rw [List.map_reverse, List.sum_reverse, List.length_reverse]
theorem join_plain {y : Str} {ws : List Str} (hy : plain y) (hw : ∀ w ∈ ws, plain w) : plain (Txt.join y ws) := by
  unfold plain
  rw [TL.join_eq, TL.tl_join]
  have : ∀ (l : List (List Nat)), (∀ p ∈ l, ∀ c ∈ p, c < 128) → ∀ c ∈ TL.joinL (TL.tl y) l, c < 128 := by
    intro l
    induction l with
    | nil => intro _ c hc; cases hc
    | cons p l ih =>
      intro hp c hc
      cases l with
      | nil => exact hp p List.mem_cons_self c (by simpa [TL.joinL] using hc)
      | cons q r =>
        have hc' : c ∈ p ++ (TL.tl y ++ TL.joinL (TL.tl y) (q :: r)) := hc
        rcases List.mem_append.mp hc' with h | h
        · exact hp p List.mem_cons_self c h
        · rcases List.mem_append.mp h with h | h
          · exact hy c h
          · exact ih (fun z hz => hp z (List.mem_cons_of_mem _ hz)) c h
  refine this _ fun p hp => ?_
  obtain ⟨w, hw', rfl⟩ := List.mem_map.mp hp
  exact hw w hw'
theorem sz8' {l : Int} (h : l.natAbs ≤ 200) : ZR.Sz 8000 l := ZR.Sz.mono (n := 10) (Nat.lt_of_le_of_lt h (by decide +kernel)) (by decide)
def spChanged : Sp := fun vs H Q _ => vs.length = 2 ∧ ∃ (p : Addr) (z : Str) (n : Nat), vs = [.ref p, .str z] ∧ Pool H p ∧ okT n z ∧ n ≤ 9900 ∧ ∀ y H', okT (2 * n + 12) y → But p H H' → Pool H' p → Q (.str y) H'
theorem cut_midV (xs : List V) (i j : Nat) (hi : i ≤ xs.length) (hj : i ≤ j) : cutV xs (some (i : Int)) (some (j : Int)) = (xs.drop i).take (j - i) := by
  unfold cutV
  rw [HT.sIx_nat, HT.sIx_nat, Nat.min_eq_left hi]
  rcases Nat.le_total j xs.length with h | h
  · rw [Nat.min_eq_left h]
  · rw [Nat.min_eq_right h, List.take_of_length_le (by rw [List.length_drop]; omega), List.take_of_length_le (by rw [List.length_drop]; omega)]
theorem cut_fromV (xs : List V) (j : Nat) : cutV xs (some (j : Int)) none = xs.drop j := by
  unfold cutV
  rw [HT.sIx_none, HT.sIx_nat]
  rcases Nat.le_total j xs.length with h | h
  · rw [Nat.min_eq_left h, List.take_of_length_le (by rw [List.length_drop]; omega)]
  · rw [Nat.min_eq_right h, List.drop_length, List.drop_of_length_le h]
    simp
abbrev s__law_changed : Stmt := top 34
theorem sc__law_changed : FnScope ["_law_pool_here", "_law_text_here", "_law_mark", "_law_words", "_law_at", "_law_which", "_law_menu"] ["_law_pool_here", "_law_text_here"] (defScope s__law_changed) := ⟨rfl, rfl, rfl, by decide +kernel, rfl, by decide +kernel, by decide +kernel⟩
theorem ok__law_changed {P : Program} {w : World} {K : PySem.W.Frag} {mg : Str → Option Value} {base : Heap} {f : Addr} {fd : FuncData} (F : L2.Fun K "_law_changed" "_law_changed" s__law_changed f fd)
    (C_b_len : mg "len" = none)
    (C_f_law_take : Cal P w K mg base "_law_take" 1 spTake) :
    FnOk P w K mg base (L2.CX P w) 2 f fd ["_law_pool_here", "_law_text_here"] spChanged := by
  refine fnOk_mk F sc__law_changed (fun vs H Q E h => h.1) (fun cdv A outer s H vs Q E hr h => ?_)
  obtain ⟨_, p, z, n, rfl, po, oz, hn, k⟩ := h
  refine ⟨_, pss_cons (ps_set (i := 2) sc__law_changed.nd rfl (Or.inl rfl) (pe_ix ix_list (pe_lst (pa_cons pe_str (pa_cons pe_str (pa_cons pe_str pa_nil)))) (z_callC C_f_law_take hr passN (pa_cons (pv 0) (pa_cons pe_int pa_nil))) (fun _ _ => rfl)))
    (pss_cons (ps_set (i := 3) sc__law_changed.nd rfl (Or.inl rfl) (pe_bm PySem.F.plainAttrs_str PySem.F.slot_str_split PySem.F.type_str_split mt_split (pv 1) (pa_cons (pv 2) pa_nil)))
    (pss_cons (ps_set (i := 4) sc__law_changed.nd rfl (Or.inl rfl) (z_callC C_f_law_take hr passN (pa_cons (pv 0) (pa_cons (pe_callB (k_len (K := K) rfl) (by rfl) C_b_len (by decide +kernel) (pa_cons (pv 3) pa_nil)) pa_nil))))
    (pss_cons (ps_set (i := 5) sc__law_changed.nd rfl (Or.inl rfl) (z_callC C_f_law_take hr passN (pa_cons (pv 0) (pa_cons pe_int pa_nil))))
    (pss_cons (ps_if (pt_cmpR op_eq (pv 5) pe_int (nomark _)) (pss_one (ps_set (i := 3) sc__law_changed.nd rfl (Or.inl rfl) (pe_op op_cat (pe_slice sl_list (pv 3) po_none (po_some (pv 4))) (pe_slice sl_list (pv 3) (po_some (pe_op op_add (pv 4) pe_int)) po_none)))) (pss_nil))
    (pss_cons (ps_if (pt_cmpR op_eq (pv 5) pe_int (nomark _)) (pss_one (ps_set (i := 3) sc__law_changed.nd rfl (Or.inl rfl) (pe_op op_cat (pe_op op_cat (pe_slice sl_list (pv 3) po_none (po_some (pv 4))) (pe_lst (pa_cons (pe_ix ix_list (pv 3) (pv 4) (fun _ _ => rfl)) pa_nil))) (pe_slice sl_list (pv 3) (po_some (pv 4)) po_none)))) (pss_nil))
    (pss_cons (ps_if (pt_cmpR op_eq (pv 5) pe_int (nomark _)) (pss_one (ps_set (i := 3) sc__law_changed.nd rfl (Or.inl rfl) (pe_op op_cat (pe_op op_cat (pe_slice sl_list (pv 3) po_none (po_some (pv 4))) (pe_revL (pe_slice sl_list (pv 3) (po_some (pv 4)) (po_some (pe_op op_add (pv 4) pe_int))))) (pe_slice sl_list (pv 3) (po_some (pe_op op_add (pv 4) pe_int)) po_none)))) (pss_nil))
    (pss_cons (ps_if (pt_cmpR op_eq (pv 5) pe_int (nomark _)) (pss_cons (ps_set (i := 6) sc__law_changed.nd rfl (Or.inl rfl) (pe_lst (pa_cons pe_str (pa_cons pe_str (pa_cons pe_str (pa_cons pe_str (pa_cons pe_str (pa_cons pe_str (pa_cons pe_str (pa_cons pe_str (pa_cons pe_str (pa_cons pe_str (pa_cons pe_str (pa_cons pe_str (pa_cons pe_str pa_nil)))))))))))))))
    (pss_one (ps_asg (pe_ix ix_list (pv 6) (z_callC C_f_law_take hr passN (pa_cons (pv 0) (pa_cons pe_int pa_nil))) (fun _ _ => rfl)) (pg_sub (pv 3) (pv 4) set_list)))) (pss_nil))
    (pss_cons (ps_if (pt_cmpR op_lt (pv 5) pe_int (nomark _)) (pss_one (ps_ret (pe_bm PySem.F.plainAttrs_str PySem.F.slot_str_join PySem.F.type_str_join mt_join (pv 2) (pa_cons (pv 3) pa_nil)))) (pss_nil))
    (pss_cons (ps_set (i := 4) sc__law_changed.nd rfl (Or.inl rfl) (z_callC C_f_law_take hr passN (pa_cons (pv 0) (pa_cons (pe_op op_add (pe_callB call_len_str (by rfl) C_b_len (by decide +kernel) (pa_cons (pv 1) pa_nil)) pe_int) pa_nil))))
    (pss_one (ps_ret (pe_op op_add_str (pe_op op_add_str (pe_slice sl_str (pv 1) po_none (po_some (pv 4))) (pe_ix ix_str pe_str (z_callC C_f_law_take hr passN (pa_cons (pv 0) (pa_cons pe_int pa_nil))) (fun _ _ => rfl))) (pe_slice sl_str (pv 1) (po_some (pv 4)) po_none))))))))))))), ?_⟩
  try dsimp only [cxOf]
  walk_at "rd"
  refine i_lst1 (Nat.le_of_ble_eq_true rfl) fun l1 H1 hl1 s1 e1 o1 => ?_
  walk_at "rd"
  have l1p : l1 ≠ p := fun z => by obtain ⟨c, k, f, e⟩ := po; rw [← z, hl1] at e; cases e
  have po1 : Pool H1 p := let ⟨c, k, f, e⟩ := po; ⟨c, k, f, s1 _ _ e⟩
  refine i_take po1 (by decide) (sz8 (by decide)) fun m H2 m0 m1 o2 po2 => ?_
  obtain ⟨m, rfl⟩ : ∃ j : Nat, m = (j : Int) := ⟨m.toNat, by omega⟩
  have bt2 : But p H H2 := fun b o hb e => by rw [o2 b hb]; exact s1 _ _ e
  have e2 : H2 l1 = some (.lst (MARKS.map V.str)) := by rw [o2 _ l1p]; exact e1
  have lm : m < MARKS.length := by show m < 3; omega
  obtain ⟨mne, mk, ml0, ml3, mp⟩ := marks_ok _ (List.getElem_mem lm)
  refine i_ixL (v := .str MARKS[m]) (.of e2) (by rw [List.getElem?_map, List.getElem?_eq_getElem lm]; rfl) ?_
  generalize MARKS[m] = mark at *
  walk_at "rd"
  refine ⟨rfl, ?_⟩
  walk_at "rd"
  have sp := oz.split mne mk
  have sw := split_wid (z := z) mne mk
  refine i_split ml0 (by have := oz.1; omega) fun w H3 hw s3 e3 o3 => ?_
  generalize Txt.split z mark = ws at *
  have bt3 : But p H H3 := bt2.trans (.of s3)
  walk_at "rd"
  refine i_lenL (.of e3) ?_
  rw [List.length_map]
  walk_at "rd"
  have po3 : Pool H3 p := let ⟨c, k, f, e⟩ := po2; ⟨c, k, f, s3 _ _ e⟩
  have wp : w ≠ p := fun z => by obtain ⟨c, k, f, e⟩ := po2; rw [← z, hw] at e; cases e
  refine i_take po3 (by omega) (ZR.Sz.mono (n := 15) (Nat.lt_of_le_of_lt (show ((ws.length : Nat) : Int).natAbs ≤ 20001 by omega) (by decide +kernel)) (by decide)) fun at' H4 a0 a1 o4 po4 => ?_
  obtain ⟨j, rfl⟩ : ∃ j : Nat, at' = (j : Int) := ⟨at'.toNat, by omega⟩
  have bt4 : But p H H4 := fun b o hb e => by rw [o4 b hb]; exact bt3 b o hb e
  have e4 : H4 w = some (.lst (ws.map V.str)) := by rw [o4 _ wp]; exact e3
  walk_at "rd"
  refine i_take po4 (by decide) (sz8 (by decide)) fun wh H5 w0 w1 o5 po5 => ?_
  obtain ⟨wh, rfl⟩ : ∃ j : Nat, wh = (j : Int) := ⟨wh.toNat, by omega⟩
  have bt5 : But p H H5 := fun b o hb e => by rw [o5 b hb]; exact bt4 b o hb e
  have e5 : H5 w = some (.lst (ws.map V.str)) := by rw [o5 _ wp]; exact e4
  have pw : ∀ y ∈ ws, plain y := fun y hy => (sp.1 y hy).2
  have jl : j < ws.length := by omega
  walk_at "rd"
  have fin : ∀ (w' : Addr) (ws' : List Str) (H' : Hp), But p H H' → Pool H' p → H' w' = some (.lst (ws'.map V.str)) → (∀ y ∈ ws', plain y) → wid mark.length ws' ≤ 2 * n + 12 →
      ∃ a q, ∃ ys : List Str, V.str mark = .str a ∧ [V.ref w'] = [.ref q] ∧ (SqL K H' q (ys.map V.str) ∨ SqT K H' q (ys.map V.str)) ∧ (ys.map (·.length)).sum + ys.length * a.length ≤ 16777216 ∧ Q (.str (Txt.join a ys)) H' := fun w' ws' H' bt po e pl wd => by
    refine ⟨mark, w', ws', rfl, rfl, .inl (.of e), ?_, k _ H' ⟨Nat.le_trans (join_wid _ _) wd, join_plain mp pl⟩ bt po⟩
    have : (ws'.map (·.length)).sum + ws'.length * mark.length = wid mark.length ws' := rfl
    omega
  have wz := oz.1
  have six : wh = 0 ∨ wh = 1 ∨ wh = 2 ∨ wh = 3 ∨ 4 ≤ wh := by omega
  have btP : ∀ {H6 : Hp}, Same H5 H6 → But p H H6 ∧ Pool H6 p := fun {H6} s => ⟨bt5.trans (.of s), let ⟨c, k, f, e⟩ := po5; ⟨c, k, f, s _ _ e⟩⟩
  have sl1 : ∀ {P : VK} {H6 : Hp} (i : Nat), Same H5 H6 → (∀ q H7, H6 q = none → Same H6 H7 → H7 q = some (.lst ((ws.take i).map V.str)) → P (.ref q) H7) → rSlL K (.ref w) none (some (i : Int)) H6 P := fun {P H6} i s h => by
    refine ⟨w, _, rfl, .of (s _ _ e5), fun q hq => ?_⟩
    rw [cut_to, ← List.map_take]
    exact h q _ hq (same_new hq) upd_same
  have sl2 : ∀ {P : VK} {H6 : Hp} (i : Nat), Same H5 H6 → (∀ q H7, H6 q = none → Same H6 H7 → H7 q = some (.lst ((ws.drop i).map V.str)) → P (.ref q) H7) → rSlL K (.ref w) (some (i : Int)) none H6 P := fun {P H6} i s h => by
    refine ⟨w, _, rfl, .of (s _ _ e5), fun q hq => ?_⟩
    rw [cut_fromV, ← List.map_drop]
    exact h q _ hq (same_new hq) upd_same
  rcases six with rfl | rfl | rfl | rfl | w4
  · rw [if_pos (by rfl)]
    walk_at "rd"
    refine sl1 j (Same.refl _) fun q1 H6 hq1 s6 e6 => ?_
    walk_at "rd"
    have ej : (j : Int) + 1 = ((j + 1 : Nat) : Int) := by omega
    rw [ej]
    refine sl2 (j + 1) s6 fun q2 H7 hq2 s7 e7 => ?_
    walk_at "rd"
    refine i_cat (s7 _ _ e6) e7 (by rw [List.length_map, List.length_map, List.length_take, List.length_drop]; omega) fun q3 H8 hq3 s8 e8 o8 => ?_
    rw [← List.map_append] at e8
    walk_at "rd"
    rw [if_neg (by decide)]
    walk_at "rd"
    rw [if_neg (by decide)]
    walk_at "rd"
    rw [if_neg (by decide)]
    walk_at "rd"
    rw [if_pos (by rfl)]
    walk_at "rd"
    refine ⟨rfl, ?_⟩
    walk_at "rd"
    obtain ⟨b8, p8⟩ := btP ((s6.trans s7).trans s8)
    have d1 := wid_cut mark.length ws j
    have d2 := wid_drop mark.length ws j
    exact fin q3 _ H8 b8 p8 e8 (fun y hy => (List.mem_append.mp hy).elim (fun h => pw y (List.mem_of_mem_take h)) fun h => pw y (List.mem_of_mem_drop h)) (by rw [wid_app]; omega)
  · rw [if_neg (by decide)]
    walk_at "rd"
    rw [if_pos (by rfl)]
    walk_at "rd"
    refine sl1 j (Same.refl _) fun q1 H6 hq1 s6 e6 => ?_
    walk_at "rd"
    refine i_ixL (k := j) (v := .str ws[j]) (.of (s6 _ _ e5)) (by rw [List.getElem?_map, List.getElem?_eq_getElem jl]; rfl) ?_
    walk_at "rd"
    refine i_lst1 (Nat.le_of_ble_eq_true rfl) fun q2 H7 hq2 s7 e7 o7 => ?_
    walk_at "rd"
    refine i_cat (s7 _ _ e6) e7 (by rw [List.length_map, List.length_take]; show _ + 1 ≤ _; omega) fun q3 H8 hq3 s8 e8 o8 => ?_
    walk_at "rd"
    have s68 := (s6.trans s7).trans s8
    refine sl2 j s68 fun q4 H9 hq4 s9 e9 => ?_
    walk_at "rd"
    refine i_cat (s9 _ _ e8) e9 (by rw [List.length_append, List.length_map, List.length_map, List.length_take, List.length_drop]; show _ + 1 + _ ≤ _; omega) fun q5 H10 hq5 s10 e10 o10 => ?_
    have e10' : H10 q5 = some (.lst ((ws.take j ++ [ws[j]] ++ ws.drop j).map V.str)) := by rw [e10, List.map_append, List.map_append]; rfl
    walk_at "rd"
    rw [if_neg (by decide)]
    walk_at "rd"
    rw [if_neg (by decide)]
    walk_at "rd"
    rw [if_pos (by rfl)]
    walk_at "rd"
    refine ⟨rfl, ?_⟩
    walk_at "rd"
    obtain ⟨b8, p8⟩ := btP ((s68.trans s9).trans s10)
    have d1 := wid_cut mark.length ws j
    have lw := (sp.1 ws[j] (List.getElem_mem jl)).1
    have d3 := wid_cons mark.length ws[j] []
    have d4 : wid mark.length ([] : List Str) = 0 := by simp [wid]
    exact fin q5 _ H10 b8 p8 e10' (fun y hy => (List.mem_append.mp hy).elim (fun h => (List.mem_append.mp h).elim (fun h => pw y (List.mem_of_mem_take h)) fun h => by rw [List.mem_singleton.mp h]; exact pw _ (List.getElem_mem jl)) fun h => pw y (List.mem_of_mem_drop h)) (by rw [wid_app, wid_app]; omega)
  · rw [if_neg (by decide)]
    walk_at "rd"
    rw [if_neg (by decide)]
    walk_at "rd"
    rw [if_pos (by rfl)]
    walk_at "rd"
    refine sl1 j (Same.refl _) fun q1 H6 hq1 s6 e6 => ?_
    walk_at "rd"
    have ej : (j : Int) + 2 = ((j + 2 : Nat) : Int) := by omega
    rw [ej]
    refine ⟨w, _, rfl, .of (s6 _ _ e5), fun q2 hq2 => ?_⟩
    rw [cut_midV _ j (j + 2) (by rw [List.length_map]; omega) (by omega), ← List.map_drop, ← List.map_take, Nat.add_sub_cancel_left]
    have s7 : Same H6 (upd H6 q2 (.lst (((ws.drop j).take 2).map V.str))) := same_new hq2
    have e7 : (upd H6 q2 (.lst (((ws.drop j).take 2).map V.str))) q2 = some (.lst (((ws.drop j).take 2).map V.str)) := upd_same
    generalize (upd H6 q2 (.lst (((ws.drop j).take 2).map V.str))) = H7 at *
    walk_at "rd"
    refine i_revL1 (.of e7) fun q3 H8 hq3 s8 e8 o8 => ?_
    rw [← List.map_reverse] at e8
    walk_at "rd"
    refine i_cat (s8 _ _ (s7 _ _ e6)) e8 (by rw [List.length_map, List.length_map, List.length_reverse, List.length_take, List.length_take]; omega) fun q4 H9 hq4 s9 e9 o9 => ?_
    walk_at "rd"
    rw [ej]
    have s69 := ((s6.trans s7).trans s8).trans s9
    refine sl2 (j + 2) s69 fun q5 H10 hq5 s10 e10 => ?_
    walk_at "rd"
    refine i_cat (s10 _ _ e9) e10 (by simp only [List.length_append, List.length_map, List.length_reverse, List.length_take, List.length_drop]; omega) fun q6 H11 hq6 s11 e11 o11 => ?_
    have e11' : H11 q6 = some (.lst ((ws.take j ++ ((ws.drop j).take 2).reverse ++ ws.drop (j + 2)).map V.str)) := by rw [e11, List.map_append, List.map_append]
    walk_at "rd"
    rw [if_neg (by decide)]
    walk_at "rd"
    rw [if_pos (by rfl)]
    walk_at "rd"
    refine ⟨rfl, ?_⟩
    walk_at "rd"
    obtain ⟨b8, p8⟩ := btP ((s69.trans s10).trans s11)
    have d1 := wid_cut mark.length ws j
    have d2 := wid_cut mark.length (ws.drop j) 2
    rw [List.drop_drop] at d2
    refine fin q6 _ H11 b8 p8 e11' (fun y hy => (List.mem_append.mp hy).elim (fun h => (List.mem_append.mp h).elim (fun h => pw y (List.mem_of_mem_take h)) fun h => pw y (List.mem_of_mem_drop (List.mem_of_mem_take (List.mem_reverse.mp h)))) fun h => pw y (List.mem_of_mem_drop h)) ?_
    rw [wid_app, wid_app, wid_rev]
    omega
  · rw [if_neg (by decide)]
    walk_at "rd"
    rw [if_neg (by decide)]
    walk_at "rd"
    rw [if_neg (by decide)]
    walk_at "rd"
    rw [if_pos (by rfl)]
    walk_at "rd"
    refine i_lst1 (Nat.le_of_ble_eq_true rfl) fun l6 H6 hl6 s6 e6 o6 => ?_
    walk_at "rd"
    have l6p : l6 ≠ p := fun z => by obtain ⟨c, k, f, e⟩ := po5; rw [← z, hl6] at e; cases e
    refine i_take (btP s6).2 (by decide) (sz8' (by decide)) fun r H7 r0 r1 o7 po7 => ?_
    obtain ⟨r, rfl⟩ : ∃ i : Nat, r = (i : Int) := ⟨r.toNat, by omega⟩
    have e7 : H7 l6 = some (.lst (MENU15.map V.str)) := by rw [o7 _ l6p]; exact e6
    have lr : r < MENU15.length := by show r < 13; omega
    obtain ⟨g1, g2⟩ := menu15_ok _ (List.getElem_mem lr)
    refine i_ixL (v := .str MENU15[r]) (.of e7) (by rw [List.getElem?_map, List.getElem?_eq_getElem lr]; rfl) ?_
    generalize MENU15[r] = nw at *
    walk_at "rd"
    have ew7 : H7 w = some (.lst (ws.map V.str)) := by rw [o7 _ wp]; exact s6 _ _ e5
    refine i_setL (ys := (ws.set j nw).map V.str) ew7 (ixN_n (by rw [List.length_map]; exact jl)) (by rw [List.map_set]) fun H8 e8 o8 => ?_
    walk_at "rd"
    have Hw : H w = none := by
      cases e : H w with
      | none => rfl
      | some o => rw [bt2 _ _ wp e] at hw; cases hw
    have b8 : But p H H8 := fun b o hb e => by
      rw [o8 b (ne_of_none e Hw), o7 b hb]
      exact s6 _ _ (bt5 b o hb e)
    have p8 : Pool H8 p := let ⟨c, k, f, e⟩ := po7; ⟨c, k, f, by rw [o8 p (Ne.symm wp)]; exact e⟩
    rw [if_pos (by rfl)]
    walk_at "rd"
    refine ⟨rfl, ?_⟩
    walk_at "rd"
    have es : ws.set j nw = ws.take j ++ nw :: ws.drop (j + 1) := List.set_eq_take_append_cons_drop.trans (by rw [if_pos jl])
    have d1 := wid_cut mark.length ws j
    have d2 : wid mark.length (ws.drop j) = ws[j].length + mark.length + wid mark.length (ws.drop (j + 1)) := by rw [List.drop_eq_getElem_cons jl, wid_cons]
    refine fin w _ H8 b8 p8 e8 (fun y hy => ?_) ?_
    · rw [es] at hy
      rcases List.mem_append.mp hy with h | h
      · exact pw y (List.mem_of_mem_take h)
      · rcases List.mem_cons.mp h with rfl | h
        · exact g2
        · exact pw y (List.mem_of_mem_drop h)
    · rw [es, wid_app, wid_cons]
      omega
  · have g0 : ∀ k : Int, k < 4 → ¬ (decide (((wh : Nat) : Int) = k) = true) := fun k hk h => by
      have := of_decide_eq_true h
      omega
    rw [if_neg (g0 0 (by decide))]
    walk_at "rd"
    rw [if_neg (g0 1 (by decide))]
    walk_at "rd"
    rw [if_neg (g0 2 (by decide))]
    walk_at "rd"
    rw [if_neg (g0 3 (by decide))]
    walk_at "rd"
    rw [if_neg (fun h => by have := of_decide_eq_true h; omega)]
    walk_at "rd"
    refine ⟨z, rfl, by rw [sizeLine_eq]; omega, ?_⟩
    walk_at "rd"
    refine i_take po5 (by omega) (ZR.Sz.mono (n := 15) (Nat.lt_of_le_of_lt (show (((z.length : Nat) : Int) + 1).natAbs ≤ 20001 by omega) (by decide +kernel)) (by decide)) fun x H6 x0 x1 o6 po6 => ?_
    obtain ⟨x, rfl⟩ : ∃ i : Nat, x = (i : Int) := ⟨x.toNat, by omega⟩
    walk_at "rd"
    refine i_slS (by omega) ?_
    walk_at "rd"
    refine i_take po6 (by decide) (sz8' (by decide)) fun y H7 y0 y1 o7 po7 => ?_
    obtain ⟨y, rfl⟩ : ∃ i : Nat, y = (i : Int) := ⟨y.toNat, by omega⟩
    have sg : (TL.tl (Str.ofString " ;<~aX")).length = 6 := by decide +kernel
    have sg2 : ∀ c ∈ TL.tl (Str.ofString " ;<~aX"), c < 128 := by decide +kernel
    have ly : y < (TL.tl (Str.ofString " ;<~aX")).length := by omega
    refine i_ixS (k := y) (c := (TL.tl (Str.ofString " ;<~aX"))[y]) (by decide +kernel) (List.getElem?_eq_getElem ly) ?_
    have cg := sg2 _ (List.getElem_mem ly)
    generalize (TL.tl (Str.ofString " ;<~aX"))[y] = cc at *
    have cl : ∀ lo hi, (cutS z lo hi).length ≤ z.length := fun lo hi => cutS_length z lo hi
    have l1 := cl none (some (x : Int))
    have l2 := cl (some (x : Int)) none
    have l3 : Str.length ⟨#[cc]⟩ = 1 := rfl
    walk_at "rb"
    refine ⟨_, _, rfl, rfl, by rw [l3, sizeLine_eq]; omega, ?_⟩
    walk_at "rb"
    refine i_slS (by omega) ?_
    walk_at "rb"
    refine ⟨_, _, rfl, rfl, by rw [Str.length_append, l3, sizeLine_eq]; omega, ?_⟩
    have cp : ∀ lo hi, plain (cutS z lo hi) := fun lo hi c hc => by
      have : c ∈ TL.tl z := by
        have h1 : c ∈ (z.cps.toList.drop (HT.sIx z.length 0 lo)).take (HT.sIx z.length z.length hi - HT.sIx z.length 0 lo) := by
          simpa [TL.tl, cutS] using hc
        exact List.mem_of_mem_drop (List.mem_of_mem_take h1)
      exact oz.2 c this
    walk_at "rb"
    refine k _ H7 ⟨?_, fun c hc => ?_⟩ (fun b o hb e => by rw [o7 b hb, o6 b hb]; exact bt5 b o hb e) po7
    · rw [Str.length_append, Str.length_append, l3]
      omega
    · rw [TL.tl_append, TL.tl_append] at hc
      rcases List.mem_append.mp hc with h | h
      · rcases List.mem_append.mp h with h | h
        · exact cp _ _ c h
        · have : c = cc := by simpa [TL.tl] using h
          rw [this]
          exact cg
      · exact cp _ _ c h
/-! ### a text is read back -/
theorem name_plain {z : Str} (h : nameB z = true) : ∀ c ∈ TL.tl z, (97 ≤ c ∧ c ≤ 122) ∨ (48 ≤ c ∧ c ≤ 57) := by
  unfold nameB nameL at h
  rw [Bool.and_eq_true, Bool.and_eq_true] at h
  intro c hc
  have := List.all_eq_true.mp h.2.2 c hc
  unfold let_ ZS.dig at this
  simp at this
  omega
theorem name_word {z : Str} (h : nameB z = true) : wordB z = true := by
  have hc := name_plain h
  have hne : z ≠ Str.ofString "" := fun e => by
    rw [e] at h
    revert h
    decide +kernel
  unfold wordB
  rw [decide_eq_false hne]
  have h1 : ∀ c : Nat, c < 48 ∨ (57 < c ∧ c < 97) → ¬ c ∈ z.cps.toList := fun c hl hm => by
    have := hc c hm
    omega
  have a1 := h1 32 (by decide)
  have a2 := h1 59 (by decide)
  have a3 := h1 60 (by decide)
  have e : ([32, 59, 60] : List Nat).any (fun c => decide (c ∈ z.cps.toList)) = false := by
    show (decide (32 ∈ z.cps.toList) || (decide (59 ∈ z.cps.toList) || (decide (60 ∈ z.cps.toList) || false))) = false
    rw [decide_eq_false a1, decide_eq_false a2, decide_eq_false a3]
    rfl
  rw [e]
  rfl
theorem join_tl (y : Str) (ws : List Str) : TL.tl (Txt.join y ws) = TL.joinL (TL.tl y) (ws.map TL.tl) := by
  rw [TL.join_eq, TL.tl_join]
theorem join_two (y a b : Str) : Txt.join y [a, b] = a ++ y ++ b := by
  refine TL.ext_tl ?_
  rw [join_tl, TL.tl_append, TL.tl_append]
  show TL.tl a ++ (TL.tl y ++ TL.tl b) = _
  rw [List.append_assoc]
theorem pP_eT {e : Str × Str} (h1 : nameB e.1 = true) (h2 : nameB e.2 = true) : pP (eT e) = some e := by
  have hs : Txt.split (eT e) (Str.ofString " < ") = [e.1, e.2] := by
    have ej : eT e = Txt.join (Str.ofString " < ") [e.1, e.2] := (join_two _ _ _).symm
    rw [ej]
    refine TL.split_join (s := 32) (S := [60, 32]) (by decide +kernel) (by decide +kernel) (by simp) fun p hp hm => ?_
    rcases List.mem_cons.mp hp with rfl | hp
    · have := name_plain h1 32 hm
      omega
    · rw [List.mem_singleton.mp hp] at hm
      have := name_plain h2 32 hm
      omega
  rw [pP_two hs]
  simp [name_word h1, name_word h2]
theorem names_split {zs : List Str} (h0 : zs ≠ []) (h : ∀ z ∈ zs, nameB z = true) : Txt.split (Txt.join (Str.ofString " ") zs) (Str.ofString " ") = zs :=
  TL.split_join (s := 32) (S := []) (by decide +kernel) (by decide +kernel) h0 fun p hp hm => by
    have := name_plain (h p hp) 32 hm
    omega
theorem joinL_mem {S : List Nat} : ∀ (l : List (List Nat)) (c : Nat), c ∈ TL.joinL S l → (∃ p ∈ l, c ∈ p) ∨ c ∈ S
  | [], c, h => by cases h
  | [p], c, h => .inl ⟨p, List.mem_cons_self, by simpa [TL.joinL] using h⟩
  | p :: q :: r, c, h => by
    have h' : c ∈ p ++ (S ++ TL.joinL S (q :: r)) := h
    rcases List.mem_append.mp h' with h | h
    · exact .inl ⟨p, List.mem_cons_self, h⟩
    · rcases List.mem_append.mp h with h | h
      · exact .inr h
      · rcases joinL_mem (q :: r) c h with ⟨x, hx, hc⟩ | h
        · exact .inl ⟨x, List.mem_cons_of_mem _ hx, hc⟩
        · exact .inr h
theorem txt_split {zs : List Str} {E : List (Str × Str)} (h : ∀ z ∈ zs, nameB z = true) (hE : ∀ e ∈ E, nameB e.1 = true ∧ nameB e.2 = true) :
    Txt.split (txtP zs E) (Str.ofString "; ") = Txt.join (Str.ofString " ") zs :: E.map eT := by
  refine TL.split_join (s := 59) (S := [32]) (by decide +kernel) (by decide +kernel) (by simp) fun p hp hm => ?_
  rcases List.mem_cons.mp hp with rfl | hp
  · rw [join_tl] at hm
    rcases joinL_mem _ _ hm with ⟨x, hx, hc⟩ | h2
    · obtain ⟨z, hz, rfl⟩ := List.mem_map.mp hx
      have := name_plain (h z hz) 59 hc
      omega
    · revert h2
      decide +kernel
  · obtain ⟨e, he, rfl⟩ := List.mem_map.mp hp
    obtain ⟨n1, n2⟩ := hE e he
    unfold eT at hm
    rw [TL.tl_append, TL.tl_append] at hm
    rcases List.mem_append.mp hm with hm | hm
    · rcases List.mem_append.mp hm with hm | hm
      · have := name_plain n1 59 hm
        omega
      · revert hm
        decide +kernel
    · have := name_plain n2 59 hm
      omega
theorem txt_pairs {E : List (Str × Str)} (hE : ∀ e ∈ E, nameB e.1 = true ∧ nameB e.2 = true) : (E.map eT).filterMap pP = E ∧ ∀ q ∈ E.map eT, (pP q).isSome = true := by
  constructor
  · rw [List.filterMap_map]
    have key : ∀ l : List (Str × Str), (∀ e ∈ l, nameB e.1 = true ∧ nameB e.2 = true) → l.filterMap (pP ∘ eT) = l := by
      intro l
      induction l with
      | nil => intro _; rfl
      | cons e l ih =>
        intro h
        have he := h e List.mem_cons_self
        have : (pP ∘ eT) e = some e := pP_eT he.1 he.2
        rw [List.filterMap_cons_some this, ih fun x hx => h x (List.mem_cons_of_mem _ hx)]
    exact key E hE
  · intro q hq
    obtain ⟨e, he, rfl⟩ := List.mem_map.mp hq
    rw [pP_eT (hE e he).1 (hE e he).2]
    rfl
/-- what read asks of such a text -/
theorem dueR_txt {zs : List Str} {E : List (Str × Str)} (h0 : zs ≠ []) (h : ∀ z ∈ zs, nameB z = true) (hE : ∀ e ∈ E, nameB e.1 = true ∧ nameB e.2 = true) : dueR (txtP zs E) = dueOf zs E := by
  obtain ⟨t1, t2⟩ := txt_pairs hE
  unfold dueR
  rw [txt_split h hE]
  show (if (Txt.split (Txt.join (Str.ofString " ") zs) (Str.ofString " ")).all wordB = true then _ else _) = _
  have fn : ((E.map eT).findIdx? fun p => (pP p).isNone) = none := by
    rw [List.findIdx?_eq_none_iff]
    intro q hq
    have := t2 q hq
    cases e : pP q with
    | none => rw [e] at this; cases this
    | some v => rfl
  rw [names_split h0 h, if_pos (List.all_eq_true.mpr fun z hz => name_word (h z hz)), fn, t1]
theorem wide_cl {N : List Str} {E : List (Str × Str)} (hN : N.Nodup) (hE : ∀ p ∈ E, p.1 ∈ N ∧ p.2 ∈ N) (ha : OM.Anti E) : OM.cl (E.reverse ++ OM.cvs N (OM.cl E)) = OM.cl E := by
  refine OM.cl_congr (fun p hp => ?_) (fun p hp => ?_)
  · rcases List.mem_append.mp hp with h | h
    · exact OM.Rch.one (List.mem_reverse.mp h)
    · obtain ⟨_, _, r, _⟩ := OM.mem_prs.mp (List.mem_filter.mp h).1
      exact OM.cl_iff.mp r
  · exact OM.Rch.one (List.mem_append_left _ (List.mem_reverse.mpr hp))
theorem anti_cl {E F : List (Str × Str)} (h : OM.cl F = OM.cl E) (ha : OM.Anti E) : OM.Anti F := fun a b k1 k2 => by
  have e1 := OM.cl_iff.mpr k1
  have e2 := OM.cl_iff.mpr k2
  rw [h] at e1 e2
  exact ha a b (OM.cl_iff.mp e1) (OM.cl_iff.mp e2)
theorem rings_nil {N : List Str} {E : List (Str × Str)} (h : OM.Anti E) : rings N (OM.cl E) = [] := by
  unfold rings
  rw [List.filter_eq_nil_iff]
  intro n hn hf
  unfold fR at hf
  obtain ⟨m, hm, h2⟩ := List.any_eq_true.mp hf
  obtain ⟨_, _, r, ne⟩ := OM.mem_prs.mp (of_decide_eq_true h2)
  exact ne (h _ _ (OM.cl_iff.mp r) (OM.cl_iff.mp (OM.mem_ab.mp hm).2))
theorem nmF_good : ∀ (zs seen : List Str), (∀ z ∈ zs, nameB z = true) → (seen ++ zs).Nodup → nmF seen zs = none := by
  intro zs
  induction zs with
  | nil => intro seen _ _; rfl
  | cons z zs ih =>
    intro seen h1 h2
    rw [nmF_cons, if_neg (by rw [h1 z List.mem_cons_self]; decide), if_neg fun h => (List.nodup_append.mp h2).2.2 z h z List.mem_cons_self rfl]
    exact ih _ (fun w hw => h1 w (List.mem_cons_of_mem _ hw)) (by simpa using h2)
theorem missE_good {ks : List Str} {E : List (Str × Str)} (h : ∀ e ∈ E, e.1 ∈ ks ∧ e.2 ∈ ks) : missE ks E = none := by
  unfold missE
  rw [List.find?_eq_none]
  intro x hx
  obtain ⟨p, hp, hx⟩ := List.mem_flatMap.mp hx
  obtain ⟨h1, h2⟩ := h p hp
  simp at hx
  rcases hx with rfl | rfl
  · simp [h1]
  · simp [h2]
/-- all ways out of Order(zs, E) where nothing is wrong -/
theorem outG_good {CO CB CN CD CU CG : Addr} {zs : List Str} {E : List (Str × Str)} {H : Hp} {Q : VK} {X : XK} (h1 : 1 ≤ zs.length) (h8 : zs.length ≤ 8) (hn : ∀ z ∈ zs, nameB z = true) (hd : zs.Nodup) (hE : ∀ e ∈ E, e.1 ∈ zs ∧ e.2 ∈ zs) (hA : OM.Anti E)
    (k : ∀ p H', H p = none → Same H H' → IsO CO H' p (srt zs) (OM.cl E) → Q (.ref p) H') : OutG CO CB CN CD CU CG zs E H Q X where
  kB := fun g => absurd ⟨h1, h8⟩ g
  kF := fun _ b z h => by rw [nmF_good zs [] hn (by simpa using hd)] at h; cases h
  kU := fun _ _ z h => by rw [missE_good hE] at h; cases h
  kR := fun _ _ _ h => absurd (rings_nil hA) h
  kO := fun _ _ _ _ => k
theorem names_wide {N : List Str} {E : List (Str × Str)} (hE : ∀ p ∈ E, p.1 ∈ N ∧ p.2 ∈ N) {M : List Str} (hM : ∀ m ∈ M, m ∈ N) : ∀ p ∈ E.reverse ++ OM.cvs M (OM.cl E), p.1 ∈ N ∧ p.2 ∈ N := by
  intro p hp
  rcases List.mem_append.mp hp with h | h
  · exact hE p (List.mem_reverse.mp h)
  · obtain ⟨x, y, _, _⟩ := OM.mem_prs.mp (List.mem_filter.mp h).1
    exact ⟨hM _ x, hM _ y⟩
theorem cvs_len {N : List Str} {R : Str → Str → Bool} (h : N.length ≤ 8) : (OM.cvs N R).length ≤ 64 := by
  unfold OM.cvs
  refine Nat.le_trans (List.length_filter_le _ _) (Nat.le_trans prs_len ?_)
  exact Nat.le_trans (Nat.mul_le_mul h h) (by decide)
theorem cvs_mem {N : List Str} {R : Str → Str → Bool} {e : Str × Str} (h : e ∈ OM.cvs N R) : e.1 ∈ N ∧ e.2 ∈ N ∧ e.1 ≠ e.2 := by
  obtain ⟨x, y, _, ne⟩ := OM.mem_prs.mp (List.mem_filter.mp h).1
  exact ⟨x, y, ne⟩
theorem menu_eT : ∀ a ∈ MENU, ∀ b ∈ MENU, (eT (a, b)).length ≤ 19 ∧ (a ≠ b → (eT (a, b)).length ≤ 14) := by
  have h : MENU.all (fun a => MENU.all fun b => decide ((eT (a, b)).length ≤ 19) && (decide (a = b) || decide ((eT (a, b)).length ≤ 14))) = true := by decide +kernel
  intro a ha b hb
  have h2 := List.all_eq_true.mp (List.all_eq_true.mp h a ha) b hb
  simp only [Bool.and_eq_true, Bool.or_eq_true, decide_eq_true_eq] at h2
  exact ⟨h2.1, fun ne => h2.2.resolve_left ne⟩
theorem wid_le {s m : Nat} : ∀ {ws : List Str}, (∀ w ∈ ws, w.length ≤ m) → wid s ws ≤ ws.length * (m + s)
  | [], _ => by simp [wid]
  | w :: ws, h => by
    have h1 := h w List.mem_cons_self
    have h2 := wid_le (s := s) fun x hx => h x (List.mem_cons_of_mem w hx)
    rw [wid_cons, List.length_cons, Nat.add_mul]
    omega
theorem txt_len {zs : List Str} {A B : List (Str × Str)} (h8 : zs.length ≤ 8) (hz : ∀ z ∈ zs, z ∈ MENU) (hA : A.length ≤ 64) (hB : B.length ≤ 64) (mA : ∀ e ∈ A, e.1 ∈ MENU ∧ e.2 ∈ MENU) (mB : ∀ e ∈ B, e.1 ∈ MENU ∧ e.2 ∈ MENU ∧ e.1 ≠ e.2) : (txtP zs (A ++ B)).length ≤ 2442 := by
  unfold txtP
  refine Nat.le_trans (join_wid _ _) ?_
  have e2 : (Str.ofString "; ").length = 2 := by decide +kernel
  have e1 : (Str.ofString " ").length = 1 := by decide +kernel
  rw [e2, wid_cons, List.map_append, wid_app]
  have h1 := join_wid (Str.ofString " ") zs
  rw [e1] at h1
  have h2 : wid 1 zs ≤ zs.length * (8 + 1) := wid_le fun z h => nameB_len (MENU_ok z (hz z h))
  have h3 : wid 2 (A.map eT) ≤ (A.map eT).length * (19 + 2) := wid_le fun z h => by
    obtain ⟨e, he, rfl⟩ := List.mem_map.mp h
    exact (menu_eT _ (mA e he).1 _ (mA e he).2).1
  have h4 : wid 2 (B.map eT) ≤ (B.map eT).length * (14 + 2) := wid_le fun z h => by
    obtain ⟨e, he, rfl⟩ := List.mem_map.mp h
    exact (menu_eT _ (mB e he).1 _ (mB e he).2.1).2 (mB e he).2.2
  rw [List.length_map] at h3 h4
  omega
theorem txt_sign {zs : List Str} {E : List (Str × Str)} (hz : ∀ z ∈ zs, nameB z = true) (hE : ∀ e ∈ E, nameB e.1 = true ∧ nameB e.2 = true) : ∀ c ∈ TL.tl (txtP zs E), c < 128 := by
  have nm : ∀ z, nameB z = true → ∀ c ∈ TL.tl z, c < 128 := fun z h c hc => by
    have := name_plain h c hc
    omega
  have ss : ∀ s : Str, (TL.tl s).all (· < 128) = true → ∀ c ∈ TL.tl s, c < 128 := fun s h c hc => of_decide_eq_true (List.all_eq_true.mp h c hc)
  intro c hc
  unfold txtP at hc
  rw [join_tl] at hc
  rcases joinL_mem _ _ hc with ⟨p, hp, hc⟩ | hc
  · obtain ⟨w, hw, rfl⟩ := List.mem_map.mp hp
    rcases List.mem_cons.mp hw with rfl | hw
    · rw [join_tl] at hc
      rcases joinL_mem _ _ hc with ⟨p, hp, hc⟩ | hc
      · obtain ⟨w, hw, rfl⟩ := List.mem_map.mp hp
        exact nm _ (hz _ hw) _ hc
      · exact ss _ (by decide +kernel) _ hc
    · obtain ⟨e, he, rfl⟩ := List.mem_map.mp hw
      unfold eT at hc
      rw [TL.tl_append, TL.tl_append] at hc
      rcases List.mem_append.mp hc with hc | hc
      · rcases List.mem_append.mp hc with hc | hc
        · exact nm _ (hE _ he).1 _ hc
        · exact ss _ (by decide +kernel) _ hc
      · exact nm _ (hE _ he).2 _ hc
  · exact ss _ (by decide +kernel) _ hc
theorem i_OstrX {CO a : Addr} {H : Hp} {Q : VK} {N : List Str} {R : Str → Str → Bool} (ha : IsO CO H a N R) (h : ∀ H', Same H H' → Q (.str (txtP N (OM.cvs N R))) H') : rStrOwn CO (spOStrX CO) [.ref a] H Q := by
  obtain ⟨dx, t, d, e1, _⟩ := id ha
  exact ⟨a, dx, _, rfl, e1, rfl, a, N, R, rfl, ha, fun H' s => ⟨_, rfl, h H' s⟩⟩
theorem i_Oeq {K : PySem.W.Frag} {CO a b : Addr} {H : Hp} {Q : VK} {N M : List Str} {R S : Str → Str → Bool} (ha : IsO CO H a N R) (hb : IsO CO H b M S) (h : ∀ H', Same H H' → Q (.bl (decide (N = M) && N.all fun n => decide (OM.ab N R n = OM.ab M S n))) H') : rOwnC K CO (spOEq K CO) (.ref a) (.ref b) H Q := by
  obtain ⟨dx, t, d, e1, _⟩ := id ha
  obtain ⟨dy, t2, d2, e2, _⟩ := id hb
  exact ⟨a, dx, _, _, rfl, e1, .ins e2, self_first, rfl, a, N, R, _, rfl, ha, .inl ⟨b, M, S, rfl, hb, h⟩⟩
mutual
theorem dpMono {K : PySem.W.Frag} {H H' : Hp} (s : Same H H') : ∀ {v : V} {d : PyData}, Dp K H v d → Dp K H' v d
  | _, _, .non => .non
  | _, _, .bl b => .bl b
  | _, _, .int i => .int i
  | _, _, .str x => .str x
  | _, _, .lst h hs => .lst (s.seq h) (dpMonoAll s hs)
  | _, _, .tup h hs => .tup (Same_seqT s h) (dpMonoAll s hs)
theorem dpMonoAll {K : PySem.W.Frag} {H H' : Hp} (s : Same H H') : ∀ {vs : List V} {ds : List PyData}, DpAll K H vs ds → DpAll K H' vs ds
  | _, _, .nil => .nil
  | _, _, .cons h hs => .cons (dpMono s h) (dpMonoAll s hs)
end
def Lay (n : Nat) (d : PyData) : Prop := d.canLay0 = true ∧ d.depth ≤ n
theorem lay_all {n : Nat} : ∀ {ds : List PyData}, (∀ d ∈ ds, Lay n d) → PyData.canLayAll0 ds = true ∧ PyData.depthAll ds ≤ n
  | [], _ => ⟨rfl, Nat.zero_le _⟩
  | d :: ds, h => by
    obtain ⟨h1, h2⟩ := h d List.mem_cons_self
    obtain ⟨h3, h4⟩ := lay_all fun e he => h e (List.mem_cons_of_mem _ he)
    refine ⟨?_, ?_⟩
    · unfold PyData.canLayAll0
      rw [h1, h3]
      rfl
    · unfold PyData.depthAll
      omega
theorem lay_list {n : Nat} {ds : List PyData} (h : ∀ d ∈ ds, Lay n d) : Lay (n + 1) (.list ds) := by
  obtain ⟨h1, h2⟩ := lay_all h
  exact ⟨by unfold PyData.canLay0; exact h1, by unfold PyData.depth; omega⟩
theorem lay_tup {n : Nat} {ds : List PyData} (h : ∀ d ∈ ds, Lay n d) : Lay (n + 1) (.tuple ds) := by
  obtain ⟨h1, h2⟩ := lay_all h
  exact ⟨by unfold PyData.canLay0; exact h1, by unfold PyData.depth; omega⟩
theorem Lay.mono {n m : Nat} {d : PyData} (h : Lay n d) (l : n ≤ m) : Lay m d := ⟨h.1, Nat.le_trans h.2 l⟩
theorem Lay.shaped {n : Nat} {d : PyData} (h : Lay n d) (hn : n ≤ 64) : SeqAt.shaped d = true := by
  unfold SeqAt.shaped
  rw [h.1, decide_eq_true (Nat.le_trans h.2 hn)]
  rfl
theorem lay_int (n : Int) : Lay 0 (.int n) := ⟨rfl, Nat.le_refl _⟩
theorem lay_str {z : Str} (h : PyData.strOk z = true) : Lay 0 (.str z) := ⟨by unfold PyData.canLay0; exact h, Nat.le_refl _⟩
mutual
theorem eqv_refl : ∀ d : PyData, d.canLay0 = true → PyData.eqv d d = true
  | .none, _ => rfl
  | .bool a, _ => by show (a == a) = true; simp
  | .int a, _ => by show (a == a) = true; simp
  | .str a, _ => by show (a == a) = true; simp
  | .list xs, h => by
    unfold PyData.canLay0 at h
    show PyData.eqvAll xs xs = true
    exact eqv_reflAll xs h
  | .tuple xs, h => by
    unfold PyData.canLay0 at h
    show PyData.eqvAll xs xs = true
    exact eqv_reflAll xs h
  | .dict _, h => by unfold PyData.canLay0 at h; cases h
theorem eqv_reflAll : ∀ ds : List PyData, PyData.canLayAll0 ds = true → PyData.eqvAll ds ds = true
  | [], _ => rfl
  | d :: ds, h => by
    unfold PyData.canLayAll0 at h
    rw [Bool.and_eq_true] at h
    show (PyData.eqv d d && PyData.eqvAll ds ds) = true
    rw [eqv_refl d h.1, eqv_reflAll ds h.2]
    rfl
end
theorem strOk_plain {z : Str} (h : ∀ c ∈ TL.tl z, c < 128) : PyData.strOk z = true := by
  unfold PyData.strOk
  rw [← Array.all_toList, List.all_eq_true]
  intro c hc
  exact decide_eq_true (Nat.lt_trans (h c hc) (by decide))
theorem nmF_in : ∀ (zs seen : List Str) (b : Bool) (z : Str), nmF seen zs = some (b, z) → z ∈ zs := by
  intro zs
  induction zs with
  | nil => intro seen b z h; cases h
  | cons y zs ih =>
    intro seen b z h
    rw [nmF_cons] at h
    split at h
    · cases h; exact List.mem_cons_self
    · split at h
      · cases h; exact List.mem_cons_self
      · exact List.mem_cons_of_mem _ (ih _ _ _ h)
theorem lay_two {a b : PyData} (h : Lay 0 a) (k : Lay 0 b) : Lay 1 (.list [a, b]) := lay_list fun d hd => by
  rcases List.mem_cons.mp hd with rfl | hd
  · exact h
  · rw [List.mem_singleton.mp hd]; exact k
theorem lay_strs {zs : List Str} (h : ∀ z ∈ zs, ∀ c ∈ TL.tl z, c < 128) : ∀ d ∈ zs.map PyData.str, Lay 0 d := fun d hd => by
  obtain ⟨z, hz, rfl⟩ := List.mem_map.mp hd
  exact lay_str (strOk_plain (h z hz))
theorem lay_prs {E : List (Str × Str)} (h : ∀ e ∈ E, (∀ c ∈ TL.tl e.1, c < 128) ∧ ∀ c ∈ TL.tl e.2, c < 128) : ∀ d ∈ dPr E, Lay 1 d := fun d hd => by
  obtain ⟨e, he, rfl⟩ := List.mem_map.mp hd
  refine lay_tup fun d hd => ?_
  rcases List.mem_cons.mp hd with rfl | hd
  · exact lay_str (strOk_plain (h e he).1)
  · rw [List.mem_singleton.mp hd]; exact lay_str (strOk_plain (h e he).2)
theorem lay_dueOf {zs : List Str} {E : List (Str × Str)} (hz : ∀ z ∈ zs, ∀ c ∈ TL.tl z, c < 128) (hE : ∀ e ∈ E, (∀ c ∈ TL.tl e.1, c < 128) ∧ ∀ c ∈ TL.tl e.2, c < 128) : Lay 3 (dueOf zs E) := by
  have st : ∀ s : Str, PyData.strOk s = true → Lay 0 (.str s) := fun s h => lay_str h
  unfold dueOf
  split
  · exact (lay_two (st _ (by decide +kernel)) (lay_int _)).mono (by decide)
  · split
    · rename_i h
      exact (lay_two (st _ (by decide +kernel)) (lay_str (strOk_plain (hz _ (nmF_in _ _ _ _ h))))).mono (by decide)
    · rename_i h
      exact (lay_two (st _ (by decide +kernel)) (lay_str (strOk_plain (hz _ (nmF_in _ _ _ _ h))))).mono (by decide)
    · split
      · rename_i z h
        unfold missE at h
        have hm := List.mem_of_find?_eq_some h
        obtain ⟨p, hp, hx⟩ := List.mem_flatMap.mp hm
        refine (lay_two (st _ (by decide +kernel)) (lay_str (strOk_plain ?_))).mono (by decide)
        simp at hx
        rcases hx with rfl | rfl
        · exact (hE p hp).1
        · exact (hE p hp).2
      · split
        · refine lay_list fun d hd => ?_
          rcases List.mem_cons.mp hd with rfl | hd
          · exact (st _ (by decide +kernel)).mono (by decide)
          · rw [List.mem_singleton.mp hd]
            exact (lay_list (lay_strs fun z h => hz z (mem_srt.mp (List.mem_filter.mp h).1))).mono (by decide)
        · refine lay_list fun d hd => ?_
          rcases List.mem_cons.mp hd with rfl | hd
          · exact (lay_tup (lay_strs fun z h => hz z (mem_srt.mp h))).mono (by decide)
          · rw [List.mem_singleton.mp hd]
            refine lay_list (lay_prs fun e he => ?_)
            obtain ⟨x, y, _, _⟩ := OM.mem_prs.mp he
            exact ⟨hz _ (mem_srt.mp x), hz _ (mem_srt.mp y)⟩
theorem i_neDR {K : PySem.W.Frag} {p q : Addr} {H : Hp} {Q : VK} {n : Nat} {d : PyData} (hd : Lay n d) (hn : n ≤ 64) (h1 : Dp K H (.ref p) d) (h2 : Dp K H (.ref q) d) (h : Q (.bl false) H) : rNeD K (.ref p) (.ref q) H Q := by
  refine ⟨_, _, h1, h2, hd.shaped hn, hd.shaped hn, ?_⟩
  rw [eqv_refl d hd.1]
  exact h
theorem lay_dueT (n : Int) : Lay 3 (dueT n) := (lay_two (lay_str (by decide +kernel)) (lay_int _)).mono (by decide)
theorem lay_dueR {n : Nat} {z : Str} (h : okT n z) : Lay 3 (dueR z) := by
  have sp := h.split (y := Str.ofString "; ") (by decide +kernel) (by decide +kernel)
  unfold dueR
  split
  · exact lay_dueT _
  · rename_i hd parts e
    rw [e] at sp
    have oh := (sp.1 hd List.mem_cons_self)
    have sw := oh.split (y := Str.ofString " ") (by decide +kernel) (by decide +kernel)
    split
    · split
      · exact lay_dueT _
      · refine lay_dueOf (fun w hw => (sw.1 w hw).2) fun q hq => ?_
        obtain ⟨p, hp, hpe⟩ := List.mem_filterMap.mp hq
        have s2 := ((sp.1 p (List.mem_cons_of_mem _ hp)).split (y := Str.ofString " < ") (by decide +kernel) (by decide +kernel)).1
        rw [(pP_some hpe).1] at s2
        exact ⟨(s2 _ List.mem_cons_self).2, (s2 _ (List.mem_cons_of_mem _ List.mem_cons_self)).2⟩
    · exact lay_dueT _
theorem Pool.mono {H H' : Hp} {p : Addr} (s : Same H H') (h : Pool H p) : Pool H' p := let ⟨c, k, f, e⟩ := h; ⟨c, k, f, s _ _ e⟩
def okB : Nat → Nat
  | 0 => 2442
  | 1 => 4896
  | 2 => 9804
  | _ => 19620
theorem okB_step {j : Nat} (h : j < 3) : 2 * okB j + 12 = okB (j + 1) ∧ okB j ≤ 9900 := by
  have : j = 0 ∨ j = 1 ∨ j = 2 := by omega
  rcases this with rfl | rfl | rfl <;> decide
theorem okB_top (j : Nat) : okB j ≤ 20000 := by
  unfold okB
  split <;> decide
theorem But.of' {a : Addr} {H H' : Hp} (o : ∀ b, b ≠ a → H' b = H b) : But a H H' := fun x y hx e => by rw [o x hx]; exact e
theorem dueR_empty : dueR "" = dueT 0 := by
  have e1 : Txt.split "" (Str.ofString "; ") = [Str.ofString ""] := by decide +kernel
  have e2 : Txt.split "" (Str.ofString " ") = [Str.ofString ""] := by decide +kernel
  have e3 : ([("" : Str)].all wordB) = false := by decide +kernel
  unfold dueR
  rw [e1]
  show (if (Txt.split "" (Str.ofString " ")).all wordB = true then _ else _) = _
  rw [e2, e3]
  rfl

theorem nW {z : Str} (h : nameB z = true) : RW z := okT.rw (n := 8) ⟨nameB_len h, fun c hc => by have := name_plain h c hc; omega⟩ (by decide)
theorem i_newGd {K : PySem.W.Frag} {CO CB CN CD CU CG b c : Addr} {H : Hp} {Q : VK} {X : XK} {zs : List Str} {E : List (Str × Str)} (hb : SqA K H b (zs.map V.str)) (hc : PrA K H c E) (h1 : 1 ≤ zs.length) (h8 : zs.length ≤ 8) (hn : ∀ z ∈ zs, nameB z = true) (hd : zs.Nodup) (hE : ∀ e ∈ E, e.1 ∈ zs ∧ e.2 ∈ zs) (hl : E.length ≤ 1000) (hA : OM.Anti E)
    (k : ∀ p H', H p = none → Same H H' → IsO CO H' p (srt zs) (OM.cl E) → Q (.ref p) H') : rNew CO (spOInitG K CO CB CN CD CU CG) [.ref b, .ref c] H Q X := by
  have G : OutG CO CB CN CD CU CG zs E H Q X := outG_good h1 h8 hn hd hE hA k
  exact i_newG hb hc (by omega) (fun z hz => ⟨Nat.le_trans (nameB_len (hn z hz)) (by decide), nW (hn z hz)⟩) (by omega) (fun e he => ⟨nW (hn _ (hE e he).1), nW (hn _ (hE e he).2)⟩) G.kB G.kF G.kU G.kR G.kO
theorem i_readT {CO CB CN CD CU CG CX : Addr} {H : Hp} {Q : VK} {X : XK} {zs : List Str} {E : List (Str × Str)} (h1 : 1 ≤ zs.length) (h8 : zs.length ≤ 8) (hn : ∀ z ∈ zs, nameB z = true) (hd : zs.Nodup) (hE : ∀ e ∈ E, e.1 ∈ zs ∧ e.2 ∈ zs) (hA : OM.Anti E) (ok : okT 20000 (txtP zs E))
    (k : ∀ p H', H p = none → Same H H' → IsO CO H' p (srt zs) (OM.cl E) → Q (.ref p) H') : spRead CO CB CN CD CU CG CX [.ref CO, .str (txtP zs E)] H Q X := by
  have nE : ∀ e ∈ E, nameB e.1 = true ∧ nameB e.2 = true := fun e he => ⟨hn _ (hE e he).1, hn _ (hE e he).2⟩
  refine ⟨rfl, _, rfl, ok, fun hd' parts e => ?_⟩
  rw [txt_split hn nE] at e
  cases e
  rw [names_split (fun z => by rw [z] at h1; exact absurd h1 (by decide)) hn]
  refine ⟨fun h => ?_, fun _ => ⟨fun j p hp hn _ => ?_, fun _ => ?_⟩⟩
  · have := List.all_eq_true.mpr fun z hz => name_word (hn z hz)
    rw [h] at this
    cases this
  · have := (txt_pairs nE).2 p (List.mem_of_getElem? hp)
    rw [hn] at this
    cases this
  · rw [(txt_pairs nE).1]
    exact outG_good h1 h8 hn hd hE hA k
theorem oeq_refl {N : List Str} {R : Str → Str → Bool} : (decide (N = N) && N.all fun n => decide (OM.ab N R n = OM.ab N R n)) = true := by simp
theorem TPr.rev {H : Hp} {qs : List Addr} {E : List (Str × Str)} (h : TPr H qs E) : TPr H qs.reverse E.reverse := by
  refine ⟨by rw [List.length_reverse, List.length_reverse, h.1], fun i q e hq he => ?_⟩
  have hi : i < qs.length := by rw [← List.length_reverse]; exact (List.getElem?_eq_some_iff.mp hq).1
  rw [List.getElem?_reverse hi] at hq
  rw [List.getElem?_reverse (by rw [← h.1]; exact hi), ← h.1] at he
  exact h.2 _ q e hq he
theorem TPr.app {H : Hp} {qs rs : List Addr} {E F : List (Str × Str)} (h : TPr H qs E) (k : TPr H rs F) : TPr H (qs ++ rs) (E ++ F) := by
  refine ⟨by rw [List.length_append, List.length_append, h.1, k.1], fun i q e hq he => ?_⟩
  rw [List.getElem?_append] at hq he
  rw [← h.1] at he
  split at hq
  · rename_i hi
    rw [if_pos hi] at he
    exact h.2 _ q e hq he
  · rename_i hi
    rw [if_neg hi] at he
    exact k.2 _ q e hq he
theorem i_cmS {C : Addr} {sp : Sp} {E : L2.St → XK} {ta : TE} {t : TA} {σ : L2.St} {H : Hp} {Q : VK} (h : ta σ H fun x H1 => x = .ref C ∧ t σ H1 fun vs H2 => sp (.ref C :: vs) H2 Q (E σ)) : tCMethS C sp E ta t σ H Q := h
def spLaw (K : PySem.W.Frag) : Sp := fun vs H Q _ => vs.length = 1 ∧ ∃ (a : Addr) (ns : List Int), vs = [.ref a] ∧ SqL K H a (ns.map V.int) ∧ ns.length ≤ 63 ∧ ∀ H', Q (.bl true) H'
abbrev s_law : Stmt := top 35
theorem sc_law : FnScope ["_law_script", "_law_pool_here", "_law_names_here", "_law_pairs_here", "_law_covers_here", "_law_order", "_law_wide", "_law_cell_here", "_law_text_here", "_law_count"] ["_law_script"] (defScope s_law) := ⟨rfl, rfl, rfl, by decide +kernel, rfl, by decide +kernel, by decide +kernel⟩
theorem ok_law {P : Program} {w : World} {K : PySem.W.Frag} {mg : Str → Option Value} {base : Heap} {CB CD CG CN CO CU CX : Addr} {f : Addr} {fd : FuncData} (F : L2.Fun K "law" "law" s_law f fd)
    (C_b_list : mg "list" = none)
    (C_b_range : mg "range" = none)
    (C_b_sorted : mg "sorted" = none)
    (C_b_str : mg "str" = none)
    (C_c_Order : ClO K CO)
    (C_f_law_above : Cal P w K mg base "_law_above" 1 (spAbove K))
    (C_f_law_cell : Cal P w K mg base "_law_cell" 1 (spCell K))
    (C_f_law_changed : Cal P w K mg base "_law_changed" 2 spChanged)
    (C_f_law_covers : Cal P w K mg base "_law_covers" 1 (spLCov K))
    (C_f_law_due : Cal P w K mg base "_law_due" 8 (spDue K))
    (C_f_law_names : Cal P w K mg base "_law_names" 2 spNames)
    (C_f_law_pairs : Cal P w K mg base "_law_pairs" 2 spLPairs)
    (C_f_law_pool : Cal P w K mg base "_law_pool" 1 spPool)
    (C_f_law_take : Cal P w K mg base "_law_take" 1 spTake)
    (C_f_law_text : Cal P w K mg base "_law_text" 1 (spText K))
    (C_f_law_told : Cal P w K mg base "_law_told" 7 (spTold K))
    (C_gOrder : mg "Order" = some (.ref CO))
    (C_i_Order : CalI P w K mg base "Order" CO 4 (spOInitG K CO CB CN CD CU CG))
    (C_k_Order_read : CalK P w K mg base CO "read" 6 (spRead CO CB CN CD CU CG CX))
    (C_m_Order_pairs : CalM P w K mg base CO "pairs" 1 (spPairs CO))
    (C_na_Order__above : NoAttr K CO "_above")
    (C_na_Order_names : NoAttr K CO "names")
    (C_o_Order_eq : CalO P w K mg base CO "__eq__" 1 (spOEq K CO))
    (C_o_Order_str : CalO P w K mg base CO "__str__" 3 (spOStrX CO)) :
    FnOk P w K mg base (L2.CX P w) 9 f fd ["_law_script"] (spLaw K) := by
  refine fnOk_mk F sc_law (fun vs H Q E h => h.1) (fun cdv A outer s H vs Q E hr h => ?_)
  obtain ⟨_, a, ns, rfl, ha, hns, k⟩ := h
  refine ⟨_, pss_cons (ps_set (i := 1) sc_law.nd rfl (Or.inl rfl) (z_callC C_f_law_pool hr passN (pa_cons (z_callC C_f_law_cell hr passN (pa_cons (pv 0) (pa_cons pe_int pa_nil))) pa_nil)))
    (pss_cons (ps_set (i := 2) sc_law.nd rfl (Or.inl rfl) (z_callC C_f_law_names hr passN (pa_cons (pv 1) (pa_cons (pe_op op_add pe_int (z_callC C_f_law_take hr passN (pa_cons (pv 1) (pa_cons pe_int pa_nil)))) pa_nil))))
    (pss_cons (ps_set (i := 3) sc_law.nd rfl (Or.inl rfl) (z_callC C_f_law_pairs hr passN (pa_cons (z_callC C_f_law_pool hr passN (pa_cons (z_callC C_f_law_cell hr passN (pa_cons (pv 0) (pa_cons pe_int pa_nil))) pa_nil)) (pa_cons (pv 2) pa_nil))))
    (pss_cons (ps_set (i := 4) sc_law.nd rfl (Or.inl rfl) (z_callC C_f_law_covers hr passN (pa_cons (pv 2) (pa_cons (z_callC C_f_law_above hr passN (pa_cons (pv 2) (pa_cons (pv 3) pa_nil))) pa_nil))))
    (pss_cons (ps_set (i := 5) sc_law.nd rfl (Or.inl rfl) (z_makeC C_i_Order hr passN (pa_cons (pv 2) (pa_cons (pv 3) pa_nil))))
    (pss_cons (ps_if (PW.pt (pw_or (pt_cmpR op_ne (pe_callTy (z_strO C_o_Order_str hr) (by rfl) C_b_str (by decide +kernel) (pa_cons (pv 5) pa_nil)) (z_callC C_f_law_text hr passN (pa_cons (pe_callB (k_sort (K := K) rfl) (by rfl) C_b_sorted (by decide +kernel) (pa_cons (pv 2) pa_nil)) (pa_cons (pv 4) pa_nil))) (nomark _)) (pw_or1 (pt_not (pt_cmpR (z_eqO C_o_Order_eq hr) (z_cmethC (pe_glob (v := .ref CO) rfl C_gOrder rfl) C_k_Order_read hr passN (pa_cons (pe_callTy (z_strO C_o_Order_str hr) (by rfl) C_b_str (by decide +kernel) (pa_cons (pv 5) pa_nil)) pa_nil)) (pv 5) (nomark _)))))) (pss_one (ps_ret pe_bl)) (pss_nil))
    (pss_cons (ps_set (i := 6) sc_law.nd rfl (Or.inl rfl) (z_callC C_f_law_text hr passN (pa_cons (pv 2) (pa_cons (pe_op op_cat (pe_revL (pv 3)) (pv 4)) pa_nil))))
    (pss_cons (ps_if (PW.pt (pw_or (pt_not (pt_cmpR (z_eqO C_o_Order_eq hr) (z_cmethC (pe_glob (v := .ref CO) rfl C_gOrder rfl) C_k_Order_read hr passN (pa_cons (pv 6) pa_nil)) (pv 5) (nomark _))) (pw_or1 (pt_cmpR (k_neD (K := K) rfl hr.units) (z_callC C_f_law_due hr passN (pa_cons (pv 6) pa_nil)) (pe_lst (pa_cons (pe_fld (pv 5) rfl) (pa_cons (z_meth0C (pv 5) C_c_Order.toCls C_m_Order_pairs hr passN) pa_nil))) (nomark _))))) (pss_one (ps_ret pe_bl)) (pss_nil))
    (pss_cons (ps_for (passes_of rfl) rfl (pi_any (K := K) rfl (pe_op op_cat (pe_lst (pa_cons (z_callC C_f_law_cell hr passN (pa_cons (pv 0) (pa_cons pe_int pa_nil))) pa_nil)) (pe_callTy (k_listA (K := K) rfl) (by rfl) C_b_list (by decide +kernel) (pa_cons (pe_slice sl_list (pv 0) (po_some pe_int) (po_some pe_int)) pa_nil)))) (pg_name (i := 7) sc_law.nd rfl (Or.inl rfl)) (pss_cons (ps_set (i := 1) sc_law.nd rfl (Or.inl rfl) (z_callC C_f_law_pool hr passN (pa_cons (pv 7) pa_nil)))
    (pss_cons (ps_set (i := 8) sc_law.nd rfl (Or.inl rfl) (pe_ix ix_list (pe_lst (pa_cons (pv 6) (pa_cons (pe_callTy (z_strO C_o_Order_str hr) (by rfl) C_b_str (by decide +kernel) (pa_cons (pv 5) pa_nil)) pa_nil))) (z_callC C_f_law_take hr passN (pa_cons (pv 1) (pa_cons pe_int pa_nil))) (fun _ _ => rfl)))
    (pss_cons (ps_for (passes_of rfl) rfl (pi_range1 (by rfl) C_b_range (pa_cons (pe_op op_add pe_int (z_callC C_f_law_take hr passN (pa_cons (pv 1) (pa_cons pe_int pa_nil)))) pa_nil)) (pg_name (i := 9) sc_law.nd rfl (Or.inl rfl)) (pss_one (ps_set (i := 8) sc_law.nd rfl (Or.inl rfl) (z_callC C_f_law_changed hr passN (pa_cons (pv 1) (pa_cons (pv 8) pa_nil))))))
    (pss_one (ps_if (pt_cmpR (k_neD (K := K) rfl hr.units) (z_callC C_f_law_told hr passN (pa_cons pe_int (pa_cons (pv 8) (pa_cons (pe_lst pa_nil) (pa_cons (pe_lst pa_nil) pa_nil))))) (z_callC C_f_law_due hr passN (pa_cons (pv 8) pa_nil)) (nomark _)) (pss_one (ps_ret pe_bl)) (pss_nil)))))))
    (pss_one (ps_ret (pe_cmpR (k_eqD (K := K) rfl hr.units) (z_callC C_f_law_told hr passN (pa_cons pe_int (pa_cons pe_str (pa_cons (pe_lst pa_nil) (pa_cons (pe_lst pa_nil) pa_nil))))) (pe_lst (pa_cons pe_str (pa_cons pe_int pa_nil))) (nomark _)))))))))))), ?_⟩
  try dsimp only [cxOf]
  walk_at "rd"
  refine i_cell ha fun c0 => ?_
  walk_at "rd"
  refine i_pool fun p H1 hp s1 o1 po1 => ?_
  walk_at "rd"
  refine i_take po1 (by decide) (ZR.Sz.mono (n := 10) (show (8 : Int).natAbs < 2 ^ 10 by decide) (by decide)) fun r H2 r0 r1 o2 po2 => ?_
  walk_at "rd"
  obtain ⟨n, rfl⟩ : ∃ n : Nat, r = (n : Int) := ⟨r.toNat, by omega⟩
  have bt2 : But p H1 H2 := fun x o hx e => by rw [o2 x hx]; exact e
  refine ⟨rfl, p, 1 + n, rfl, po2, by omega, fun q H3 zs hq bt3 po3 eq hzn hnd hM => ?_⟩
  have hok : ∀ z ∈ zs, nameB z = true := fun z hz => MENU_ok z (hM z hz)
  have t3 : Same H H3 := (bt2.trans bt3).same hp s1
  walk_at "rd"
  refine i_cell (t3.seq ha) fun c1 => ?_
  walk_at "rd"
  refine i_pool fun p2 H4 hp2 s4 o4 po4 => ?_
  walk_at "rd"
  refine ⟨rfl, p2, q, zs, rfl, po4, (fun z => by rw [z] at eq; rw [eq] at hp2; cases hp2), s4 _ _ eq, by omega, hnd, fun qE H5 E hqE bt5 po5 lE hE hE64 hA => ?_⟩
  have t5 : Same H3 H5 := bt5.same hp2 s4
  walk_at "rd"
  refine ⟨rfl, q, qE, zs, E, rfl, SqA.l (t5 _ _ eq), lE.a, by omega, hnd, hE, fun d H6 hd s6 lt => ?_⟩
  walk_at "rd"
  refine ⟨rfl, q, d, zs, _, _, rfl, SqA.l (s6 _ _ (t5 _ _ eq)), lt, tbl_of (by omega) hnd hok hE, fun qc H7 hqc s7 lc => ?_⟩
  walk_at "rd"
  have eq7 := s7 _ _ (s6 _ _ (t5 _ _ eq))
  have lE7 := (lE.mono s6).mono s7
  have nE : ∀ e ∈ E, nameB e.1 = true ∧ nameB e.2 = true := fun e he => ⟨hok _ (hE e he).1, hok _ (hE e he).2⟩
  refine i_newGd (SqA.l eq7) lE7.a (by omega) (by omega) hok hnd hE (by omega) hA fun x H8 hx s8 io => ?_
  walk_at "rd"
  refine i_OstrX io fun H9 s9 => ?_
  walk_at "rd"
  refine i_sort (SqA.l (s9 _ _ (s8 _ _ eq7))) (by omega) fun l10 H10 hl s10 o10 e10 => ?_
  walk_at "rd"
  have szN : (srt zs).length ≤ 8 := by rw [(srt_perm zs).length_eq]; omega
  have sz1 : 1 ≤ (srt zs).length := by rw [(srt_perm zs).length_eq]; omega
  have sok : ∀ z ∈ srt zs, nameB z = true := fun z h => hok z (mem_srt.mp h)
  have sM : ∀ z ∈ srt zs, z ∈ MENU := fun z h => hM z (mem_srt.mp h)
  have snd := srt_nodup hnd
  have hEs : ∀ e ∈ E, e.1 ∈ srt zs ∧ e.2 ∈ srt zs := fun e he => ⟨mem_srt.mpr (hE e he).1, mem_srt.mpr (hE e he).2⟩
  have cvM : ∀ e ∈ OM.cvs (srt zs) (OM.cl E), e.1 ∈ srt zs ∧ e.2 ∈ srt zs := fun e he => ⟨(cvs_mem he).1, (cvs_mem he).2.1⟩
  have cvL := cvs_len (N := srt zs) (R := OM.cl E) szN
  have cvn : ∀ e ∈ OM.cvs (srt zs) (OM.cl E), nameB e.1 = true ∧ nameB e.2 = true := fun e he => ⟨sok _ (cvM e he).1, sok _ (cvM e he).2⟩
  have hcl : OM.cl (OM.cvs (srt zs) (OM.cl E)) = OM.cl E := OM.cvs_cl snd hEs hA
  have ok1 : okT 2442 (txtP (srt zs) (OM.cvs (srt zs) (OM.cl E))) := ⟨txt_len (A := []) szN sM (by decide) cvL (fun _ h => by cases h) fun e he => ⟨sM _ (cvM e he).1, sM _ (cvM e he).2, (cvs_mem he).2.2⟩, txt_sign sok cvn⟩
  have t810 := s9.trans s10
  refine ⟨rfl, l10, qc, srt zs, _, rfl, SqA.l e10, (lc.mono s8).mono t810, szN, fun z h => nameB_len (sok z h), by omega, fun e he => ⟨nameB_len (cvn e he).1, nameB_len (cvn e he).2⟩, fun H11 s11 => ?_⟩
  walk_at "rd"
  rw [if_neg (by simp)]
  walk_at "rd"
  have io11 := io.mono (t810.trans s11)
  refine i_cmS ?_
  walk_at "rd"
  refine ⟨rfl, ?_⟩
  walk_at "rd"
  refine i_OstrX io11 fun H12 s12 => ?_
  walk_at "rd"
  refine i_readT sz1 szN sok snd cvM (anti_cl hcl hA) ⟨Nat.le_trans ok1.1 (by decide), ok1.2⟩ fun x2 H13 hx2 s13 io2 => ?_
  rw [hcl, srt_of_pw (srt_pw zs)] at io2
  walk_at "rd"
  have io13 := io11.mono (s12.trans s13)
  refine i_Oeq io2 io13 fun H14 s14 => ?_
  rw [oeq_refl]
  walk_at "rd"
  obtain ⟨qs, eE, tpE⟩ := lE7
  obtain ⟨rs, eC, tpC⟩ := lc
  have t814 : Same H8 H14 := (t810.trans s11).trans ((s12.trans s13).trans s14)
  have t714 := s8.trans t814
  have lq : qs.length ≤ 64 := by rw [tpE.1]; exact hE64
  have lr : rs.length ≤ 64 := by rw [tpC.1]; exact cvL
  refine i_revL1 (.of (t714 _ _ eE)) fun l15 H15 hl15 s15 e15 o15 => ?_
  rw [← List.map_reverse] at e15
  walk_at "rd"
  refine i_cat e15 (s15 _ _ (t714 _ _ eC)) (by rw [List.length_map, List.length_map, List.length_reverse]; omega) fun l16 H16 hl16 s16 e16 o16 => ?_
  rw [← List.map_append] at e16
  have t716 := t714.trans (s15.trans s16)
  have lw : LPr H16 l16 (E.reverse ++ OM.cvs (srt zs) (OM.cl E)) := ⟨_, e16, (tpE.rev.mono t716).app (tpC.mono t716)⟩
  have hW : ∀ e ∈ E.reverse ++ OM.cvs (srt zs) (OM.cl E), e.1 ∈ zs ∧ e.2 ∈ zs := names_wide hE fun m h => mem_srt.mp h
  have nW2 : ∀ e ∈ E.reverse ++ OM.cvs (srt zs) (OM.cl E), nameB e.1 = true ∧ nameB e.2 = true := fun e he => ⟨hok _ (hW e he).1, hok _ (hW e he).2⟩
  have wcl : OM.cl (E.reverse ++ OM.cvs (srt zs) (OM.cl E)) = OM.cl E := wide_cl snd hEs hA
  have lenW : (E.reverse ++ OM.cvs (srt zs) (OM.cl E)).length ≤ 128 := by rw [List.length_append, List.length_reverse]; omega
  have h8z : zs.length ≤ 8 := by omega
  have h1z : 1 ≤ zs.length := by omega
  have ok2 : okT 2442 (txtP zs (E.reverse ++ OM.cvs (srt zs) (OM.cl E))) := ⟨txt_len h8z hM (by rw [List.length_reverse]; exact hE64) cvL (fun e he => ⟨hM _ (hE e (List.mem_reverse.mp he)).1, hM _ (hE e (List.mem_reverse.mp he)).2⟩) fun e he => ⟨sM _ (cvM e he).1, sM _ (cvM e he).2, (cvs_mem he).2.2⟩, txt_sign hok nW2⟩
  walk_at "rd"
  refine ⟨rfl, q, l16, zs, _, rfl, SqA.l (t716 _ _ eq7), lw, h8z, fun z h => nameB_len (hok z h), by omega, fun e he => ⟨nameB_len (nW2 e he).1, nameB_len (nW2 e he).2⟩, fun H17 s17 => ?_⟩
  walk_at "rd"
  have io17 := io13.mono ((s14.trans (s15.trans s16)).trans s17)
  refine i_cmS ?_
  walk_at "rd"
  refine ⟨rfl, ?_⟩
  walk_at "rd"
  refine i_readT h1z h8z hok hnd hW (anti_cl wcl hA) ⟨Nat.le_trans ok2.1 (by decide), ok2.2⟩ fun x3 H18 hx3 s18 io3 => ?_
  rw [wcl] at io3
  walk_at "rd"
  have io18 := io17.mono s18
  refine i_Oeq io3 io18 fun H19 s19 => ?_
  rw [oeq_refl]
  walk_at "rd"
  refine ⟨rfl, _, rfl, ⟨Nat.le_trans ok2.1 (by decide), ok2.2⟩, fun pd H20 s20 dp => ?_⟩
  rw [dueR_txt (fun z => by rw [z] at h1z; exact absurd h1z (by decide)) hok nW2] at dp
  walk_at "rd"
  have io20 := io18.mono (s19.trans s20)
  obtain ⟨dx, t, dd, e1, et, _, _, _, _⟩ := id io20
  refine i_fld1 e1 C_c_Order.toCls C_na_Order_names rf_names ?_
  walk_at "rd"
  refine i_meth1 e1 (ro_no (by decide +kernel) (by decide +kernel)) ?_
  walk_at "rd"
  refine ⟨rfl, x, _, _, rfl, io20, fun r21 H21 hr21 s21 hP => ?_⟩
  obtain ⟨ps, eps, tps⟩ := hP
  walk_at "rd"
  refine i_lst1 (Nat.le_of_ble_eq_true rfl) fun p22 H22 hp22 s22 e22 o22 => ?_
  have dp2 : Dp K H22 (.ref p22) (.list [.tuple ((srt zs).map .str), .list (dPr (OM.prs (srt zs) (OM.cl E)))]) := .lst (.of e22) (.cons (.tup (.of (s22 _ _ (s21 _ _ et))) (dp_strs _)) (.cons (.lst (.of (s22 _ _ eps)) (tps.mono s22).dp) .nil))
  walk_at "rd"
  have dW : dueOf zs (E.reverse ++ OM.cvs (srt zs) (OM.cl E)) = .list [.tuple ((srt zs).map .str), .list (dPr (OM.prs (srt zs) (OM.cl E)))] := by
    unfold dueOf
    rw [if_neg (not_not_intro ⟨h1z, h8z⟩), nmF_good zs [] hok (by simpa using hnd)]
    show (match missE zs _ with | some z => _ | none => _) = _
    rw [missE_good hW]
    show (if _ then _ else _) = _
    rw [if_neg (not_not_intro (rings_nil (anti_cl wcl hA))), wcl]
  have nS : ∀ z, nameB z = true → ∀ c ∈ TL.tl z, c < 128 := fun z h c hc => by
    have := name_plain h c hc
    omega
  refine i_neDR (lay_dueOf (fun z h => nS z (hok z h)) fun e he => ⟨nS _ (nW2 e he).1, nS _ (nW2 e he).2⟩) (by decide) (dpMono (s21.trans s22) dp) (by rw [dW]; exact dp2) ?_
  walk_at "rd"
  have t22 : Same H H22 := t3.trans (t5.trans (s6.trans (s7.trans (t716.trans (s17.trans (s18.trans (s19.trans (s20.trans (s21.trans s22)))))))))
  refine i_cell (t22.seq ha) fun c2 => ?_
  walk_at "rd"
  refine i_lst1 (Nat.le_of_ble_eq_true rfl) fun p23 H23 hp23 s23 e23 o23 => ?_
  walk_at "rd"
  refine i_slL (s23.seq (t22.seq ha)) rfl fun p24 H24 hp24 s24 e24 o24 => ?_
  walk_at "rd"
  refine i_listA (SqA.l e24) fun p25 H25 hp25 s25 e25 o25 => ?_
  walk_at "rd"
  have cutI : ∀ v ∈ cutV (ns.map V.int) (some 3) (some 7), ∃ c : Int, v = .int c := fun v hv => by
    unfold cutV at hv
    have := List.mem_of_mem_drop (List.mem_of_mem_take hv)
    obtain ⟨c, _, rfl⟩ := List.mem_map.mp this
    exact ⟨c, rfl⟩
  have cutL : (cutV (ns.map V.int) (some 3) (some 7)).length ≤ 63 := by
    unfold cutV
    rw [List.length_take, List.length_drop, List.length_map]
    omega
  refine i_cat (s25 _ _ (s24 _ _ e23)) e25 (by simp only [List.length_singleton]; omega) fun p26 H26 hp26 s26 e26 o26 => ?_
  have t2226 := s23.trans (s24.trans (s25.trans s26))
  have io26 := io20.mono (s21.trans (s22.trans t2226))
  have itI : ∀ v ∈ ([V.int c2] ++ cutV (ns.map V.int) (some 3) (some 7)), ∃ c : Int, v = .int c := fun v hv => by
    rcases List.mem_append.mp hv with h | h
    · rw [List.mem_singleton.mp h]; exact ⟨_, rfl⟩
    · exact cutI v h
  walk_at "rd"
  refine i_forA (H0 := H26) (fun i σ H' => ∃ v1 v7 v8 v9, σ = [some (.ref a), v1, some (.ref q), some (.ref qE), some (.ref qc), some (.ref x), some (.str (txtP zs (E.reverse ++ OM.cvs (srt zs) (OM.cl E)))), v7, v8, v9] ∧ Same H26 H') (SqA.l e26) ⟨_, _, _, _, rfl, Same.refl _⟩ (fun i σ H' h => by obtain ⟨_, _, _, _, _, s⟩ := h; exact s) ?_ ?_
  · rintro i y σ H27 hy ⟨v1, v7, v8, v9, rfl, s27⟩
    obtain ⟨c, rfl⟩ := itI y (List.mem_of_getElem? hy)
    walk_at "rd"
    refine i_pool fun pp H28 hp28 s28 o28 po28 => ?_
    walk_at "rd"
    have io28 := io26.mono (s27.trans s28)
    refine i_OstrX io28 fun H29 s29 => ?_
    walk_at "rd"
    refine i_lst1 (Nat.le_of_ble_eq_true rfl) fun p30 H30 hp30 s30 e30 o30 => ?_
    walk_at "rd"
    refine i_take (po28.mono (s29.trans s30)) (by decide) (ZR.Sz.mono (n := 10) (show (2 : Int).natAbs < 2 ^ 10 by decide) (by decide)) fun r H31 r0 r1 o31 po31 => ?_
    obtain ⟨m, rfl⟩ : ∃ m : Nat, r = (m : Int) := ⟨r.toNat, by omega⟩
    obtain ⟨tx, etx, okx⟩ : ∃ tx, ([V.str (txtP zs (E.reverse ++ OM.cvs (srt zs) (OM.cl E))), V.str (txtP (srt zs) (OM.cvs (srt zs) (OM.cl E)))] : List V)[m]? = some (.str tx) ∧ okT 2442 tx := by
      have : m = 0 ∨ m = 1 := by omega
      rcases this with rfl | rfl
      · exact ⟨_, rfl, ok2⟩
      · exact ⟨_, rfl, ok1⟩
    have n30 : p30 ≠ pp := fun z => by
      obtain ⟨_, _, _, e⟩ := po28
      rw [z, s29 _ _ e] at hp30
      cases hp30
    refine i_ixL (k := m) (.of (by rw [o31 _ n30]; exact e30)) etx ?_
    walk_at "rd"
    refine i_take po31 (by decide) (ZR.Sz.mono (n := 10) (show (3 : Int).natAbs < 2 ^ 10 by decide) (by decide)) fun r2 H32 r20 r21' o32 po32 => ?_
    obtain ⟨m2, rfl⟩ : ∃ m : Nat, r2 = (m : Int) := ⟨r2.toNat, by omega⟩
    walk_at "rd"
    refine i_forR (n := 1 + m2) (by omega) (by omega) (fun j σ H' => ∃ (z : Str) (w9 : Option V), σ = [some (.ref a), some (.ref pp), some (.ref q), some (.ref qE), some (.ref qc), some (.ref x), some (.str (txtP zs (E.reverse ++ OM.cvs (srt zs) (OM.cl E)))), some (.int c), some (.str z), w9] ∧ okT (okB j) z ∧ But pp H32 H' ∧ Pool H' pp) ⟨tx, v9, rfl, okx, .of (Same.refl _), po32⟩ ?_ ?_
    · rintro j σ H33 hj ⟨z, w9, rfl, oz, bt, po⟩
      walk_at "rd"
      have st := okB_step (j := j) (by omega)
      refine ⟨rfl, pp, z, okB j, rfl, po, oz, st.2, fun y H34 oy bt2 po2 => ?_⟩
      rw [st.1] at oy
      walk_at "rd"
      exact ⟨y, _, rfl, oy, bt.trans bt2, po2⟩
    · rintro σ H33 ⟨z, w9, rfl, oz, bt, po⟩
      have oz2 : okT 20000 z := ⟨Nat.le_trans oz.1 (okB_top _), oz.2⟩
      have b33 : But pp H27 H33 := (((But.of (s28.trans (s29.trans s30))).trans (But.of' o31)).trans (But.of' o32)).trans bt
      have s33 : Same H26 H33 := s27.trans (b33.same hp28 (Same.refl _))
      walk_at "rd"
      refine i_lst1 (Nat.le_of_ble_eq_true rfl) fun l34 H34 hl34 s34 e34 o34 => ?_
      walk_at "rd"
      refine i_lst1 (Nat.le_of_ble_eq_true rfl) fun l35 H35 hl35 s35 e35 o35 => ?_
      walk_at "rd"
      refine ⟨rfl, 0, z, l34, l35, rfl, .inl ⟨rfl, oz2, fun t36 H36 s36 d36 => ?_⟩⟩
      walk_at "rd"
      refine ⟨rfl, z, rfl, oz2, fun t37 H37 s37 d37 => ?_⟩
      walk_at "rd"
      refine i_neDR (lay_dueR oz2) (by decide) (dpMono s37 d36) d37 ?_
      walk_at "rd"
      exact ⟨_, _, _, _, rfl, s33.trans (s34.trans (s35.trans (s36.trans s37)))⟩
  · rintro σ H27 ⟨v1, v7, v8, v9, rfl, s27⟩
    walk_at "rd"
    refine i_lst1 (Nat.le_of_ble_eq_true rfl) fun l34 H34 hl34 s34 e34 o34 => ?_
    walk_at "rd"
    refine i_lst1 (Nat.le_of_ble_eq_true rfl) fun l35 H35 hl35 s35 e35 o35 => ?_
    walk_at "rd"
    have oE : okT 20000 "" := ⟨by decide, by decide +kernel⟩
    refine ⟨rfl, 0, "", l34, l35, rfl, .inl ⟨rfl, oE, fun t36 H36 s36 d36 => ?_⟩⟩
    rw [dueR_empty] at d36
    walk_at "rd"
    refine i_lst1 (Nat.le_of_ble_eq_true rfl) fun l37 H37 hl37 s37 e37 o37 => ?_
    have d37 : Dp K H37 (.ref l37) (dueT 0) := .lst (.of e37) (.cons (.str _) (.cons (.int _) .nil))
    refine ⟨_, _, dpMono s37 d36, d37, (lay_dueT 0).shaped (by decide), (lay_dueT 0).shaped (by decide), ?_⟩
    rw [eqv_refl _ (lay_dueT 0).1]
    walk_at "rd"
    exact k _
theorem mk_law {K : PySem.W.Frag} {H : Hp} {a : Addr} {ns : List Int} (hS : SqL K H a (ns.map V.int)) (hl : ns.length ≤ 63) : spLaw K [.ref a] H (fun v _ => v = .bl true) fun _ _ _ => False := ⟨rfl, a, ns, rfl, hS, hl, fun _ => rfl⟩
theorem all_mk {P : Program} {w : World} {K : PySem.W.Frag} {h : Heap} {mg : Str → Option Value} {fa : Addr} (X : K.In h) (G : h.Ns mainGlobals mg) (hfa : mg "law" = some (.ref fa))
    {CX : Addr}
    {CO : Addr}
    {CB : Addr}
    {CN : Addr}
    {CD : Addr}
    {CU : Addr}
    {CG : Addr}
    {CT : Addr}
    {nm_BadText : Str}
    {q_BadText : Str}
    {N_BadText : Addr}
    {bs_BadText : List Value}
    {sn_BadText : List Str}
    {sub_BadText : List Value}
    {ab_BadText : Bool}
    {col_BadText : Option Bool}
    {dd_BadText : Option Addr}
    {m0_BadText : Option Value}
    {m1_BadText : Option Value}
    {m2_BadText : Option Value}
    {m3_BadText : Option Value}
    {m5_BadText : Option Value}
    {nm_BadNumber : Str}
    {q_BadNumber : Str}
    {N_BadNumber : Addr}
    {bs_BadNumber : List Value}
    {sn_BadNumber : List Str}
    {sub_BadNumber : List Value}
    {ab_BadNumber : Bool}
    {col_BadNumber : Option Bool}
    {dd_BadNumber : Option Addr}
    {m0_BadNumber : Option Value}
    {m1_BadNumber : Option Value}
    {m2_BadNumber : Option Value}
    {m3_BadNumber : Option Value}
    {m5_BadNumber : Option Value}
    {nm_BadName : Str}
    {q_BadName : Str}
    {N_BadName : Addr}
    {bs_BadName : List Value}
    {sn_BadName : List Str}
    {sub_BadName : List Value}
    {ab_BadName : Bool}
    {col_BadName : Option Bool}
    {dd_BadName : Option Addr}
    {m0_BadName : Option Value}
    {m1_BadName : Option Value}
    {m2_BadName : Option Value}
    {m3_BadName : Option Value}
    {m5_BadName : Option Value}
    {nm_DuplicateName : Str}
    {q_DuplicateName : Str}
    {N_DuplicateName : Addr}
    {bs_DuplicateName : List Value}
    {sn_DuplicateName : List Str}
    {sub_DuplicateName : List Value}
    {ab_DuplicateName : Bool}
    {col_DuplicateName : Option Bool}
    {dd_DuplicateName : Option Addr}
    {m0_DuplicateName : Option Value}
    {m1_DuplicateName : Option Value}
    {m2_DuplicateName : Option Value}
    {m3_DuplicateName : Option Value}
    {m5_DuplicateName : Option Value}
    {nm_UnknownName : Str}
    {q_UnknownName : Str}
    {N_UnknownName : Addr}
    {bs_UnknownName : List Value}
    {sn_UnknownName : List Str}
    {sub_UnknownName : List Value}
    {ab_UnknownName : Bool}
    {col_UnknownName : Option Bool}
    {dd_UnknownName : Option Addr}
    {m0_UnknownName : Option Value}
    {m1_UnknownName : Option Value}
    {m2_UnknownName : Option Value}
    {m3_UnknownName : Option Value}
    {m5_UnknownName : Option Value}
    {nm_Ring : Str}
    {q_Ring : Str}
    {N_Ring : Addr}
    {bs_Ring : List Value}
    {sn_Ring : List Str}
    {sub_Ring : List Value}
    {ab_Ring : Bool}
    {col_Ring : Option Bool}
    {dd_Ring : Option Addr}
    {m0_Ring : Option Value}
    {m1_Ring : Option Value}
    {m2_Ring : Option Value}
    {m3_Ring : Option Value}
    {m5_Ring : Option Value}
    {f0 : Addr} {od0 an0 : Option Addr} {sl0 : Array (Option Value)} {oc0 kV0 dc0 pm0 cd0 ct0 : Value}
    {f1 : Addr} {od1 an1 : Option Addr} {sl1 : Array (Option Value)} {oc1 kV1 dc1 pm1 cd1 ct1 : Value}
    {f2 : Addr} {od2 an2 : Option Addr} {sl2 : Array (Option Value)} {oc2 kV2 dc2 pm2 cd2 ct2 : Value}
    {f3 : Addr} {od3 an3 : Option Addr} {sl3 : Array (Option Value)} {oc3 kV3 dc3 pm3 cd3 ct3 : Value}
    {f4 : Addr} {od4 an4 : Option Addr} {sl4 : Array (Option Value)} {oc4 kV4 dc4 pm4 cd4 ct4 : Value}
    {f5 : Addr} {od5 an5 : Option Addr} {sl5 : Array (Option Value)} {oc5 kV5 dc5 pm5 cd5 ct5 : Value}
    {f6 : Addr} {od6 an6 : Option Addr} {sl6 : Array (Option Value)} {oc6 kV6 dc6 pm6 cd6 ct6 : Value}
    {f7 : Addr} {od7 an7 : Option Addr} {sl7 : Array (Option Value)} {oc7 kV7 dc7 pm7 cd7 ct7 : Value}
    {f8 : Addr} {od8 an8 : Option Addr} {sl8 : Array (Option Value)} {oc8 kV8 dc8 pm8 cd8 ct8 : Value}
    {f9 : Addr} {od9 an9 : Option Addr} {sl9 : Array (Option Value)} {oc9 kV9 dc9 pm9 cd9 ct9 : Value}
    {f10 : Addr} {od10 an10 : Option Addr} {sl10 : Array (Option Value)} {oc10 kV10 dc10 pm10 cd10 ct10 : Value}
    {f11 : Addr} {od11 an11 : Option Addr} {sl11 : Array (Option Value)} {oc11 kV11 dc11 pm11 cd11 ct11 : Value}
    {f12 : Addr} {od12 an12 : Option Addr} {sl12 : Array (Option Value)} {oc12 kV12 dc12 pm12 cd12 ct12 : Value}
    {f13 : Addr} {od13 an13 : Option Addr} {sl13 : Array (Option Value)} {oc13 kV13 dc13 pm13 cd13 ct13 : Value}
    {f14 : Addr} {od14 an14 : Option Addr} {sl14 : Array (Option Value)} {oc14 kV14 dc14 pm14 cd14 ct14 : Value}
    {f15 : Addr} {od15 an15 : Option Addr} {sl15 : Array (Option Value)} {oc15 kV15 dc15 pm15 cd15 ct15 : Value}
    {f16 : Addr} {od16 an16 : Option Addr} {sl16 : Array (Option Value)} {oc16 kV16 dc16 pm16 cd16 ct16 : Value}
    {f17 : Addr} {od17 an17 : Option Addr} {sl17 : Array (Option Value)} {oc17 kV17 dc17 pm17 cd17 ct17 : Value}
    {f18 : Addr} {od18 an18 : Option Addr} {sl18 : Array (Option Value)} {oc18 kV18 dc18 pm18 cd18 ct18 : Value}
    {f19 : Addr} {od19 an19 : Option Addr} {sl19 : Array (Option Value)} {oc19 kV19 dc19 pm19 cd19 ct19 : Value}
    {f20 : Addr} {od20 an20 : Option Addr} {sl20 : Array (Option Value)} {oc20 kV20 dc20 pm20 cd20 ct20 : Value}
    {f21 : Addr} {od21 an21 : Option Addr} {sl21 : Array (Option Value)} {oc21 kV21 dc21 pm21 cd21 ct21 : Value}
    {f22 : Addr} {od22 an22 : Option Addr} {sl22 : Array (Option Value)} {oc22 kV22 dc22 pm22 cd22 ct22 : Value}
    {f23 : Addr} {od23 an23 : Option Addr} {sl23 : Array (Option Value)} {oc23 kV23 dc23 pm23 cd23 ct23 : Value}
    {f24 : Addr} {od24 an24 : Option Addr} {sl24 : Array (Option Value)} {oc24 kV24 dc24 pm24 cd24 ct24 : Value}
    {p24 : Addr} {rs24 : List Value}
    {f25 : Addr} {od25 an25 : Option Addr} {sl25 : Array (Option Value)} {oc25 kV25 dc25 pm25 cd25 ct25 : Value}
    {f26 : Addr} {od26 an26 : Option Addr} {sl26 : Array (Option Value)} {oc26 kV26 dc26 pm26 cd26 ct26 : Value}
    {f27 : Addr} {od27 an27 : Option Addr} {sl27 : Array (Option Value)} {oc27 kV27 dc27 pm27 cd27 ct27 : Value}
    {f28 : Addr} {od28 an28 : Option Addr} {sl28 : Array (Option Value)} {oc28 kV28 dc28 pm28 cd28 ct28 : Value}
    {f29 : Addr} {od29 an29 : Option Addr} {sl29 : Array (Option Value)} {oc29 kV29 dc29 pm29 cd29 ct29 : Value}
    {f30 : Addr} {od30 an30 : Option Addr} {sl30 : Array (Option Value)} {oc30 kV30 dc30 pm30 cd30 ct30 : Value}
    {f31 : Addr} {od31 an31 : Option Addr} {sl31 : Array (Option Value)} {oc31 kV31 dc31 pm31 cd31 ct31 : Value}
    {f32 : Addr} {od32 an32 : Option Addr} {sl32 : Array (Option Value)} {oc32 kV32 dc32 pm32 cd32 ct32 : Value}
    {f33 : Addr} {od33 an33 : Option Addr} {sl33 : Array (Option Value)} {oc33 kV33 dc33 pm33 cd33 ct33 : Value}
    {tk_DIGITS : Tok}
    {tk_LETTERS : Tok}
    {tk_MOST_NAMES : Tok}
    {tk_MOST_SIGNS : Tok}
    (aC_BadText : PySem.W.nsIn K mainGlobals "BadText" = some (some (.ref CX)))
    (aC_Order : PySem.W.nsIn K mainGlobals "Order" = some (some (.ref CO)))
    (aC_BadNumber : PySem.W.nsIn K mainGlobals "BadNumber" = some (some (.ref CB)))
    (aC_BadName : PySem.W.nsIn K mainGlobals "BadName" = some (some (.ref CN)))
    (aC_DuplicateName : PySem.W.nsIn K mainGlobals "DuplicateName" = some (some (.ref CD)))
    (aC_UnknownName : PySem.W.nsIn K mainGlobals "UnknownName" = some (some (.ref CU)))
    (aC_Ring : PySem.W.nsIn K mainGlobals "Ring" = some (some (.ref CG)))
    (aC_ThrowError : PySem.W.nsIn K mainGlobals "ThrowError" = some (some (.ref CT)))
    (pg_Order : PySem.W.plainGet K CO Str.empty = true)
    (hd_Order : PySem.W.hasDictIn K CO = true)
    (po_Order : PySem.W.plainOver K CO = true)
    (sa_Order : PySem.W.findIn K (.ref CO) "__setattr__" = some (some (.builtin "object.__setattr__")))
    (ha_Order : PySem.W.findIn K (.ref CO) "__class__" = some (some (.builtin "object.__class__")))
    (hm_Order : PySem.W.mroIn K CO (.type "object") = some true)
    (mk_Order : PySem.W.makesIn K CO = true)
    (kc_Order : PySem.W.keepIn K (.ref CO) = true)
    (sf_Order : PySem.W.selfFirst K CO = true)
    (iC_Order : PySem.W.isClsIn K CO = true)
    (tC_Order : PySem.W.typeIn K (.ref CO) = some (.type "type"))
    (hn : PySem.W.specialIn K (.builtin "object.__class__") "__get__" = some (some (.builtin "getset_descriptor.__get__")))
    (htk : PySem.W.takesIn K (.builtin "object.__class__") = some true)
    (xL_BadText : K.lookup CX = some (excClassObj nm_BadText q_BadText CX N_BadText bs_BadText [.ref CT, .type "ValueError", .type "Exception", .type "BaseException", .type "object"] true sn_BadText sub_BadText ab_BadText col_BadText dd_BadText m0_BadText m1_BadText m2_BadText m3_BadText m5_BadText "ValueError.__new__"))
    (sa_BadText : PySem.W.findIn K (.ref CX) "__setattr__" = some (some (.builtin "object.__setattr__")))
    (ga_BadText : PySem.W.findIn K (.ref CX) "__getattribute__" = some (some (.builtin "BaseException.__getattribute__")))
    (gg_BadText : PySem.W.findIn K (.ref CX) "__getattr__" = some none)
    (kC_BadText : PySem.W.keepIn K (.ref CX) = true)
    (eC_BadText : PySem.W.subIn K (.ref CX) (.type "BaseException") = some true)
    (tC_BadText : PySem.W.typeIn K (.ref CX) = some (.type "type"))
    (hC_BadText : PySem.W.hasDictIn K CX = true)
    (iC_BadText : PySem.W.isClsIn K CX = true)
    (sC_BadText : PySem.W.subIn K (.ref CX) (.ref CX) = some true)
    (xL_BadNumber : K.lookup CB = some (excClassObj nm_BadNumber q_BadNumber CB N_BadNumber bs_BadNumber [.ref CT, .type "ValueError", .type "Exception", .type "BaseException", .type "object"] true sn_BadNumber sub_BadNumber ab_BadNumber col_BadNumber dd_BadNumber m0_BadNumber m1_BadNumber m2_BadNumber m3_BadNumber m5_BadNumber "ValueError.__new__"))
    (sa_BadNumber : PySem.W.findIn K (.ref CB) "__setattr__" = some (some (.builtin "object.__setattr__")))
    (ga_BadNumber : PySem.W.findIn K (.ref CB) "__getattribute__" = some (some (.builtin "BaseException.__getattribute__")))
    (gg_BadNumber : PySem.W.findIn K (.ref CB) "__getattr__" = some none)
    (kC_BadNumber : PySem.W.keepIn K (.ref CB) = true)
    (eC_BadNumber : PySem.W.subIn K (.ref CB) (.type "BaseException") = some true)
    (tC_BadNumber : PySem.W.typeIn K (.ref CB) = some (.type "type"))
    (hC_BadNumber : PySem.W.hasDictIn K CB = true)
    (iC_BadNumber : PySem.W.isClsIn K CB = true)
    (sC_BadNumber : PySem.W.subIn K (.ref CB) (.ref CB) = some true)
    (xL_BadName : K.lookup CN = some (excClassObj nm_BadName q_BadName CN N_BadName bs_BadName [.ref CT, .type "ValueError", .type "Exception", .type "BaseException", .type "object"] true sn_BadName sub_BadName ab_BadName col_BadName dd_BadName m0_BadName m1_BadName m2_BadName m3_BadName m5_BadName "ValueError.__new__"))
    (sa_BadName : PySem.W.findIn K (.ref CN) "__setattr__" = some (some (.builtin "object.__setattr__")))
    (ga_BadName : PySem.W.findIn K (.ref CN) "__getattribute__" = some (some (.builtin "BaseException.__getattribute__")))
    (gg_BadName : PySem.W.findIn K (.ref CN) "__getattr__" = some none)
    (kC_BadName : PySem.W.keepIn K (.ref CN) = true)
    (eC_BadName : PySem.W.subIn K (.ref CN) (.type "BaseException") = some true)
    (tC_BadName : PySem.W.typeIn K (.ref CN) = some (.type "type"))
    (hC_BadName : PySem.W.hasDictIn K CN = true)
    (iC_BadName : PySem.W.isClsIn K CN = true)
    (sC_BadName : PySem.W.subIn K (.ref CN) (.ref CN) = some true)
    (xL_DuplicateName : K.lookup CD = some (excClassObj nm_DuplicateName q_DuplicateName CD N_DuplicateName bs_DuplicateName [.ref CT, .type "ValueError", .type "Exception", .type "BaseException", .type "object"] true sn_DuplicateName sub_DuplicateName ab_DuplicateName col_DuplicateName dd_DuplicateName m0_DuplicateName m1_DuplicateName m2_DuplicateName m3_DuplicateName m5_DuplicateName "ValueError.__new__"))
    (sa_DuplicateName : PySem.W.findIn K (.ref CD) "__setattr__" = some (some (.builtin "object.__setattr__")))
    (ga_DuplicateName : PySem.W.findIn K (.ref CD) "__getattribute__" = some (some (.builtin "BaseException.__getattribute__")))
    (gg_DuplicateName : PySem.W.findIn K (.ref CD) "__getattr__" = some none)
    (kC_DuplicateName : PySem.W.keepIn K (.ref CD) = true)
    (eC_DuplicateName : PySem.W.subIn K (.ref CD) (.type "BaseException") = some true)
    (tC_DuplicateName : PySem.W.typeIn K (.ref CD) = some (.type "type"))
    (hC_DuplicateName : PySem.W.hasDictIn K CD = true)
    (iC_DuplicateName : PySem.W.isClsIn K CD = true)
    (sC_DuplicateName : PySem.W.subIn K (.ref CD) (.ref CD) = some true)
    (xL_UnknownName : K.lookup CU = some (excClassObj nm_UnknownName q_UnknownName CU N_UnknownName bs_UnknownName [.ref CT, .type "ValueError", .type "Exception", .type "BaseException", .type "object"] true sn_UnknownName sub_UnknownName ab_UnknownName col_UnknownName dd_UnknownName m0_UnknownName m1_UnknownName m2_UnknownName m3_UnknownName m5_UnknownName "ValueError.__new__"))
    (sa_UnknownName : PySem.W.findIn K (.ref CU) "__setattr__" = some (some (.builtin "object.__setattr__")))
    (ga_UnknownName : PySem.W.findIn K (.ref CU) "__getattribute__" = some (some (.builtin "BaseException.__getattribute__")))
    (gg_UnknownName : PySem.W.findIn K (.ref CU) "__getattr__" = some none)
    (kC_UnknownName : PySem.W.keepIn K (.ref CU) = true)
    (eC_UnknownName : PySem.W.subIn K (.ref CU) (.type "BaseException") = some true)
    (tC_UnknownName : PySem.W.typeIn K (.ref CU) = some (.type "type"))
    (hC_UnknownName : PySem.W.hasDictIn K CU = true)
    (iC_UnknownName : PySem.W.isClsIn K CU = true)
    (sC_UnknownName : PySem.W.subIn K (.ref CU) (.ref CU) = some true)
    (xL_Ring : K.lookup CG = some (excClassObj nm_Ring q_Ring CG N_Ring bs_Ring [.ref CT, .type "ValueError", .type "Exception", .type "BaseException", .type "object"] true sn_Ring sub_Ring ab_Ring col_Ring dd_Ring m0_Ring m1_Ring m2_Ring m3_Ring m5_Ring "ValueError.__new__"))
    (sa_Ring : PySem.W.findIn K (.ref CG) "__setattr__" = some (some (.builtin "object.__setattr__")))
    (ga_Ring : PySem.W.findIn K (.ref CG) "__getattribute__" = some (some (.builtin "BaseException.__getattribute__")))
    (gg_Ring : PySem.W.findIn K (.ref CG) "__getattr__" = some none)
    (kC_Ring : PySem.W.keepIn K (.ref CG) = true)
    (eC_Ring : PySem.W.subIn K (.ref CG) (.type "BaseException") = some true)
    (tC_Ring : PySem.W.typeIn K (.ref CG) = some (.type "type"))
    (hC_Ring : PySem.W.hasDictIn K CG = true)
    (iC_Ring : PySem.W.isClsIn K CG = true)
    (sC_Ring : PySem.W.subIn K (.ref CG) (.ref CG) = some true)
    (rd_Order : PySem.W.readsIn K CO (.type "type") = true)
    (rg_Order : PySem.W.specialIn K (.ref CO) "__getattribute__" = some (some (.builtin "type.__getattribute__")))
    (rd_ThrowError : PySem.W.readsIn K CT (.type "type") = true)
    (rg_ThrowError : PySem.W.specialIn K (.ref CT) "__getattribute__" = some (some (.builtin "type.__getattribute__")))
    (rv_ThrowError : PySem.W.findCls K (.ref CT) (.type "type") "__init__" = some (.val (.builtin "ValueError.__init__")))
    (a0 : PySem.W.nsIn K mainGlobals "_shown" = some (some (.ref f0)))
    (l0 : K.lookup f0 = some ⟨oc0, od0, .func (PySem.W.fnOf "_shown" "_shown" (defArgs s__shown) (defBody s__shown) (defScope s__shown) .none kV0 dc0 pm0 an0 cd0 ct0), sl0⟩)
    (c0 : PySem.W.codeIn K cd0 "_shown" = true)
    (k0 : PySem.W.keepIn K (.ref f0) = true)
    (a1 : PySem.W.findIn K (.ref CX) "__init__" = some (some (.ref f1)))
    (t1 : PySem.W.typeIn K (.ref f1) = some (.type "function"))
    (l1 : K.lookup f1 = some ⟨oc1, od1, .func (PySem.W.fnOf "__init__" "BadText.__init__" (defArgs s_BadText___init__) (defBody s_BadText___init__) (defScope s_BadText___init__) .none kV1 dc1 pm1 an1 cd1 ct1), sl1⟩)
    (c1 : PySem.W.codeIn K cd1 "BadText.__init__" = true)
    (k1 : PySem.W.keepIn K (.ref f1) = true)
    (a2 : PySem.W.findIn K (.ref CB) "__init__" = some (some (.ref f2)))
    (t2 : PySem.W.typeIn K (.ref f2) = some (.type "function"))
    (l2 : K.lookup f2 = some ⟨oc2, od2, .func (PySem.W.fnOf "__init__" "BadNumber.__init__" (defArgs s_BadNumber___init__) (defBody s_BadNumber___init__) (defScope s_BadNumber___init__) .none kV2 dc2 pm2 an2 cd2 ct2), sl2⟩)
    (c2 : PySem.W.codeIn K cd2 "BadNumber.__init__" = true)
    (k2 : PySem.W.keepIn K (.ref f2) = true)
    (a3 : PySem.W.findIn K (.ref CN) "__init__" = some (some (.ref f3)))
    (t3 : PySem.W.typeIn K (.ref f3) = some (.type "function"))
    (l3 : K.lookup f3 = some ⟨oc3, od3, .func (PySem.W.fnOf "__init__" "BadName.__init__" (defArgs s_BadName___init__) (defBody s_BadName___init__) (defScope s_BadName___init__) .none kV3 dc3 pm3 an3 cd3 ct3), sl3⟩)
    (c3 : PySem.W.codeIn K cd3 "BadName.__init__" = true)
    (k3 : PySem.W.keepIn K (.ref f3) = true)
    (a4 : PySem.W.findIn K (.ref CD) "__init__" = some (some (.ref f4)))
    (t4 : PySem.W.typeIn K (.ref f4) = some (.type "function"))
    (l4 : K.lookup f4 = some ⟨oc4, od4, .func (PySem.W.fnOf "__init__" "DuplicateName.__init__" (defArgs s_DuplicateName___init__) (defBody s_DuplicateName___init__) (defScope s_DuplicateName___init__) .none kV4 dc4 pm4 an4 cd4 ct4), sl4⟩)
    (c4 : PySem.W.codeIn K cd4 "DuplicateName.__init__" = true)
    (k4 : PySem.W.keepIn K (.ref f4) = true)
    (a5 : PySem.W.findIn K (.ref CU) "__init__" = some (some (.ref f5)))
    (t5 : PySem.W.typeIn K (.ref f5) = some (.type "function"))
    (l5 : K.lookup f5 = some ⟨oc5, od5, .func (PySem.W.fnOf "__init__" "UnknownName.__init__" (defArgs s_UnknownName___init__) (defBody s_UnknownName___init__) (defScope s_UnknownName___init__) .none kV5 dc5 pm5 an5 cd5 ct5), sl5⟩)
    (c5 : PySem.W.codeIn K cd5 "UnknownName.__init__" = true)
    (k5 : PySem.W.keepIn K (.ref f5) = true)
    (a6 : PySem.W.findIn K (.ref CG) "__init__" = some (some (.ref f6)))
    (t6 : PySem.W.typeIn K (.ref f6) = some (.type "function"))
    (l6 : K.lookup f6 = some ⟨oc6, od6, .func (PySem.W.fnOf "__init__" "Ring.__init__" (defArgs s_Ring___init__) (defBody s_Ring___init__) (defScope s_Ring___init__) .none kV6 dc6 pm6 an6 cd6 ct6), sl6⟩)
    (c6 : PySem.W.codeIn K cd6 "Ring.__init__" = true)
    (k6 : PySem.W.keepIn K (.ref f6) = true)
    (a7 : PySem.W.nsIn K mainGlobals "is_name" = some (some (.ref f7)))
    (l7 : K.lookup f7 = some ⟨oc7, od7, .func (PySem.W.fnOf "is_name" "is_name" (defArgs s_is_name) (defBody s_is_name) (defScope s_is_name) .none kV7 dc7 pm7 an7 cd7 ct7), sl7⟩)
    (c7 : PySem.W.codeIn K cd7 "is_name" = true)
    (k7 : PySem.W.keepIn K (.ref f7) = true)
    (a8 : PySem.W.nsIn K mainGlobals "check_names" = some (some (.ref f8)))
    (l8 : K.lookup f8 = some ⟨oc8, od8, .func (PySem.W.fnOf "check_names" "check_names" (defArgs s_check_names) (defBody s_check_names) (defScope s_check_names) .none kV8 dc8 pm8 an8 cd8 ct8), sl8⟩)
    (c8 : PySem.W.codeIn K cd8 "check_names" = true)
    (k8 : PySem.W.keepIn K (.ref f8) = true)
    (a9 : PySem.W.nsIn K mainGlobals "check_among" = some (some (.ref f9)))
    (l9 : K.lookup f9 = some ⟨oc9, od9, .func (PySem.W.fnOf "check_among" "check_among" (defArgs s_check_among) (defBody s_check_among) (defScope s_check_among) .none kV9 dc9 pm9 an9 cd9 ct9), sl9⟩)
    (c9 : PySem.W.codeIn K cd9 "check_among" = true)
    (k9 : PySem.W.keepIn K (.ref f9) = true)
    (a10 : PySem.W.nsIn K mainGlobals "_law_covers" = some (some (.ref f10)))
    (l10 : K.lookup f10 = some ⟨oc10, od10, .func (PySem.W.fnOf "_law_covers" "_law_covers" (defArgs s__law_covers) (defBody s__law_covers) (defScope s__law_covers) .none kV10 dc10 pm10 an10 cd10 ct10), sl10⟩)
    (c10 : PySem.W.codeIn K cd10 "_law_covers" = true)
    (k10 : PySem.W.keepIn K (.ref f10) = true)
    (a11 : PySem.W.nsIn K mainGlobals "_law_changed" = some (some (.ref f11)))
    (l11 : K.lookup f11 = some ⟨oc11, od11, .func (PySem.W.fnOf "_law_changed" "_law_changed" (defArgs s__law_changed) (defBody s__law_changed) (defScope s__law_changed) .none kV11 dc11 pm11 an11 cd11 ct11), sl11⟩)
    (c11 : PySem.W.codeIn K cd11 "_law_changed" = true)
    (k11 : PySem.W.keepIn K (.ref f11) = true)
    (a12 : PySem.W.nsIn K mainGlobals "_law_text" = some (some (.ref f12)))
    (l12 : K.lookup f12 = some ⟨oc12, od12, .func (PySem.W.fnOf "_law_text" "_law_text" (defArgs s__law_text) (defBody s__law_text) (defScope s__law_text) .none kV12 dc12 pm12 an12 cd12 ct12), sl12⟩)
    (c12 : PySem.W.codeIn K cd12 "_law_text" = true)
    (k12 : PySem.W.keepIn K (.ref f12) = true)
    (a13 : PySem.W.nsIn K mainGlobals "_are_words" = some (some (.ref f13)))
    (l13 : K.lookup f13 = some ⟨oc13, od13, .func (PySem.W.fnOf "_are_words" "_are_words" (defArgs s__are_words) (defBody s__are_words) (defScope s__are_words) .none kV13 dc13 pm13 an13 cd13 ct13), sl13⟩)
    (c13 : PySem.W.codeIn K cd13 "_are_words" = true)
    (k13 : PySem.W.keepIn K (.ref f13) = true)
    (a14 : PySem.W.nsIn K mainGlobals "_law_is_word" = some (some (.ref f14)))
    (l14 : K.lookup f14 = some ⟨oc14, od14, .func (PySem.W.fnOf "_law_is_word" "_law_is_word" (defArgs s__law_is_word) (defBody s__law_is_word) (defScope s__law_is_word) .none kV14 dc14 pm14 an14 cd14 ct14), sl14⟩)
    (c14 : PySem.W.codeIn K cd14 "_law_is_word" = true)
    (k14 : PySem.W.keepIn K (.ref f14) = true)
    (a15 : PySem.W.nsIn K mainGlobals "_closure" = some (some (.ref f15)))
    (l15 : K.lookup f15 = some ⟨oc15, od15, .func (PySem.W.fnOf "_closure" "_closure" (defArgs s__closure) (defBody s__closure) (defScope s__closure) .none kV15 dc15 pm15 an15 cd15 ct15), sl15⟩)
    (c15 : PySem.W.codeIn K cd15 "_closure" = true)
    (k15 : PySem.W.keepIn K (.ref f15) = true)
    (a16 : PySem.W.findIn K (.ref CO) "pairs" = some (some (.ref f16)))
    (i16 : PySem.W.isFn K (.ref f16) = true)
    (l16 : K.lookup f16 = some ⟨oc16, od16, .func (PySem.W.fnOf "pairs" "Order.pairs" (defArgs s_Order_pairs) (defBody s_Order_pairs) (defScope s_Order_pairs) .none kV16 dc16 pm16 an16 cd16 ct16), sl16⟩)
    (c16 : PySem.W.codeIn K cd16 "Order.pairs" = true)
    (k16 : PySem.W.keepIn K (.ref f16) = true)
    (a17 : PySem.W.findIn K (.ref CO) "_between" = some (some (.ref f17)))
    (i17 : PySem.W.isFn K (.ref f17) = true)
    (l17 : K.lookup f17 = some ⟨oc17, od17, .func (PySem.W.fnOf "_between" "Order._between" (defArgs s_Order__between) (defBody s_Order__between) (defScope s_Order__between) .none kV17 dc17 pm17 an17 cd17 ct17), sl17⟩)
    (c17 : PySem.W.codeIn K cd17 "Order._between" = true)
    (k17 : PySem.W.keepIn K (.ref f17) = true)
    (a18 : PySem.W.findIn K (.ref CO) "covers" = some (some (.ref f18)))
    (i18 : PySem.W.isFn K (.ref f18) = true)
    (l18 : K.lookup f18 = some ⟨oc18, od18, .func (PySem.W.fnOf "covers" "Order.covers" (defArgs s_Order_covers) (defBody s_Order_covers) (defScope s_Order_covers) .none kV18 dc18 pm18 an18 cd18 ct18), sl18⟩)
    (c18 : PySem.W.codeIn K cd18 "Order.covers" = true)
    (k18 : PySem.W.keepIn K (.ref f18) = true)
    (a19 : PySem.W.findIn K (.ref CO) "__eq__" = some (some (.ref f19)))
    (i19 : PySem.W.isFn K (.ref f19) = true)
    (l19 : K.lookup f19 = some ⟨oc19, od19, .func (PySem.W.fnOf "__eq__" "Order.__eq__" (defArgs s_Order___eq__) (defBody s_Order___eq__) (defScope s_Order___eq__) .none kV19 dc19 pm19 an19 cd19 ct19), sl19⟩)
    (c19 : PySem.W.codeIn K cd19 "Order.__eq__" = true)
    (k19 : PySem.W.keepIn K (.ref f19) = true)
    (a20 : PySem.W.findIn K (.ref CO) "__str__" = some (some (.ref f20)))
    (i20 : PySem.W.isFn K (.ref f20) = true)
    (l20 : K.lookup f20 = some ⟨oc20, od20, .func (PySem.W.fnOf "__str__" "Order.__str__" (defArgs s_Order___str__) (defBody s_Order___str__) (defScope s_Order___str__) .none kV20 dc20 pm20 an20 cd20 ct20), sl20⟩)
    (c20 : PySem.W.codeIn K cd20 "Order.__str__" = true)
    (k20 : PySem.W.keepIn K (.ref f20) = true)
    (a21 : PySem.W.findIn K (.ref CO) "__init__" = some (some (.ref f21)))
    (i21 : PySem.W.isFn K (.ref f21) = true)
    (l21 : K.lookup f21 = some ⟨oc21, od21, .func (PySem.W.fnOf "__init__" "Order.__init__" (defArgs s_Order___init__) (defBody s_Order___init__) (defScope s_Order___init__) .none kV21 dc21 pm21 an21 cd21 ct21), sl21⟩)
    (c21 : PySem.W.codeIn K cd21 "Order.__init__" = true)
    (k21 : PySem.W.keepIn K (.ref f21) = true)
    (a22 : PySem.W.findIn K (.ref CO) "__len__" = some (some (.ref f22)))
    (i22 : PySem.W.isFn K (.ref f22) = true)
    (l22 : K.lookup f22 = some ⟨oc22, od22, .func (PySem.W.fnOf "__len__" "Order.__len__" (defArgs s_Order___len__) (defBody s_Order___len__) (defScope s_Order___len__) .none kV22 dc22 pm22 an22 cd22 ct22), sl22⟩)
    (c22 : PySem.W.codeIn K cd22 "Order.__len__" = true)
    (k22 : PySem.W.keepIn K (.ref f22) = true)
    (a23 : PySem.W.findIn K (.ref CO) "__iter__" = some (some (.ref f23)))
    (i23 : PySem.W.isFn K (.ref f23) = true)
    (l23 : K.lookup f23 = some ⟨oc23, od23, .func (PySem.W.fnOf "__iter__" "Order.__iter__" (defArgs s_Order___iter__) (defBody s_Order___iter__) (defScope s_Order___iter__) .none kV23 dc23 pm23 an23 cd23 ct23), sl23⟩)
    (c23 : PySem.W.codeIn K cd23 "Order.__iter__" = true)
    (k23 : PySem.W.keepIn K (.ref f23) = true)
    (a24 : PySem.W.findCls K (.ref CO) (.type "type") "read" = some (.get (.builtin "classmethod.__get__") (.ref p24) .none (.ref CO)))
    (r24 : PySem.W.recIn K p24 "classmethod" = some (.ref f24 :: rs24))
    (i24 : PySem.W.fnIn K f24 = true)
    (l24 : K.lookup f24 = some ⟨oc24, od24, .func (PySem.W.fnOf "read" "Order.read" (defArgs s_Order_read) (defBody s_Order_read) (defScope s_Order_read) .none kV24 dc24 pm24 an24 cd24 ct24), sl24⟩)
    (c24 : PySem.W.codeIn K cd24 "Order.read" = true)
    (k24 : PySem.W.keepIn K (.ref f24) = true)
    (a25 : PySem.W.nsIn K mainGlobals "_law_pool" = some (some (.ref f25)))
    (l25 : K.lookup f25 = some ⟨oc25, od25, .func (PySem.W.fnOf "_law_pool" "_law_pool" (defArgs s__law_pool) (defBody s__law_pool) (defScope s__law_pool) .none kV25 dc25 pm25 an25 cd25 ct25), sl25⟩)
    (c25 : PySem.W.codeIn K cd25 "_law_pool" = true)
    (k25 : PySem.W.keepIn K (.ref f25) = true)
    (a26 : PySem.W.nsIn K mainGlobals "_law_take" = some (some (.ref f26)))
    (l26 : K.lookup f26 = some ⟨oc26, od26, .func (PySem.W.fnOf "_law_take" "_law_take" (defArgs s__law_take) (defBody s__law_take) (defScope s__law_take) .none kV26 dc26 pm26 an26 cd26 ct26), sl26⟩)
    (c26 : PySem.W.codeIn K cd26 "_law_take" = true)
    (k26 : PySem.W.keepIn K (.ref f26) = true)
    (a27 : PySem.W.nsIn K mainGlobals "_law_cell" = some (some (.ref f27)))
    (l27 : K.lookup f27 = some ⟨oc27, od27, .func (PySem.W.fnOf "_law_cell" "_law_cell" (defArgs s__law_cell) (defBody s__law_cell) (defScope s__law_cell) .none kV27 dc27 pm27 an27 cd27 ct27), sl27⟩)
    (c27 : PySem.W.codeIn K cd27 "_law_cell" = true)
    (k27 : PySem.W.keepIn K (.ref f27) = true)
    (a28 : PySem.W.nsIn K mainGlobals "_law_names" = some (some (.ref f28)))
    (l28 : K.lookup f28 = some ⟨oc28, od28, .func (PySem.W.fnOf "_law_names" "_law_names" (defArgs s__law_names) (defBody s__law_names) (defScope s__law_names) .none kV28 dc28 pm28 an28 cd28 ct28), sl28⟩)
    (c28 : PySem.W.codeIn K cd28 "_law_names" = true)
    (k28 : PySem.W.keepIn K (.ref f28) = true)
    (a29 : PySem.W.nsIn K mainGlobals "_law_pairs" = some (some (.ref f29)))
    (l29 : K.lookup f29 = some ⟨oc29, od29, .func (PySem.W.fnOf "_law_pairs" "_law_pairs" (defArgs s__law_pairs) (defBody s__law_pairs) (defScope s__law_pairs) .none kV29 dc29 pm29 an29 cd29 ct29), sl29⟩)
    (c29 : PySem.W.codeIn K cd29 "_law_pairs" = true)
    (k29 : PySem.W.keepIn K (.ref f29) = true)
    (a30 : PySem.W.nsIn K mainGlobals "_law_above" = some (some (.ref f30)))
    (l30 : K.lookup f30 = some ⟨oc30, od30, .func (PySem.W.fnOf "_law_above" "_law_above" (defArgs s__law_above) (defBody s__law_above) (defScope s__law_above) .none kV30 dc30 pm30 an30 cd30 ct30), sl30⟩)
    (c30 : PySem.W.codeIn K cd30 "_law_above" = true)
    (k30 : PySem.W.keepIn K (.ref f30) = true)
    (a31 : PySem.W.nsIn K mainGlobals "_law_told" = some (some (.ref f31)))
    (l31 : K.lookup f31 = some ⟨oc31, od31, .func (PySem.W.fnOf "_law_told" "_law_told" (defArgs s__law_told) (defBody s__law_told) (defScope s__law_told) .none kV31 dc31 pm31 an31 cd31 ct31), sl31⟩)
    (c31 : PySem.W.codeIn K cd31 "_law_told" = true)
    (k31 : PySem.W.keepIn K (.ref f31) = true)
    (a32 : PySem.W.nsIn K mainGlobals "_law_due" = some (some (.ref f32)))
    (l32 : K.lookup f32 = some ⟨oc32, od32, .func (PySem.W.fnOf "_law_due" "_law_due" (defArgs s__law_due) (defBody s__law_due) (defScope s__law_due) .none kV32 dc32 pm32 an32 cd32 ct32), sl32⟩)
    (c32 : PySem.W.codeIn K cd32 "_law_due" = true)
    (k32 : PySem.W.keepIn K (.ref f32) = true)
    (a33 : PySem.W.nsIn K mainGlobals "law" = some (some (.ref f33)))
    (l33 : K.lookup f33 = some ⟨oc33, od33, .func (PySem.W.fnOf "law" "law" (defArgs s_law) (defBody s_law) (defScope s_law) .none kV33 dc33 pm33 an33 cd33 ct33), sl33⟩)
    (c33 : PySem.W.codeIn K cd33 "law" = true)
    (k33 : PySem.W.keepIn K (.ref f33) = true)
    (z_all : PySem.W.nsIn K mainGlobals "all" = some none)
    (z_any : PySem.W.nsIn K mainGlobals "any" = some none)
    (z_enumerate : PySem.W.nsIn K mainGlobals "enumerate" = some none)
    (z_int : PySem.W.nsIn K mainGlobals "int" = some none)
    (z_isinstance : PySem.W.nsIn K mainGlobals "isinstance" = some none)
    (z_iter : PySem.W.nsIn K mainGlobals "iter" = some none)
    (z_len : PySem.W.nsIn K mainGlobals "len" = some none)
    (z_list : PySem.W.nsIn K mainGlobals "list" = some none)
    (z_range : PySem.W.nsIn K mainGlobals "range" = some none)
    (z_sorted : PySem.W.nsIn K mainGlobals "sorted" = some none)
    (z_str : PySem.W.nsIn K mainGlobals "str" = some none)
    (z_tuple : PySem.W.nsIn K mainGlobals "tuple" = some none)
    (g_DIGITS : PySem.W.nsIn K mainGlobals "DIGITS" = some (some (.str "0123456789" tk_DIGITS)))
    (g_LETTERS : PySem.W.nsIn K mainGlobals "LETTERS" = some (some (.str "abcdefghijklmnopqrstuvwxyz" tk_LETTERS)))
    (g_MOST_NAMES : PySem.W.nsIn K mainGlobals "MOST_NAMES" = some (some (.int 8 tk_MOST_NAMES)))
    (g_MOST_SIGNS : PySem.W.nsIn K mainGlobals "MOST_SIGNS" = some (some (.int 8 tk_MOST_SIGNS)))
    (w_na_Order__above : PySem.W.findIn K (.ref CO) "_above" = some none)
    (w_na_Order_names : PySem.W.findIn K (.ref CO) "names" = some none)
    (w_xm_BadName_BadNumber : PySem.W.subIn K (.ref CN) (.ref CB) = some false)
    (w_xm_BadName_BadText : PySem.W.subIn K (.ref CN) (.ref CX) = some false)
    (w_xm_BadNumber_BadText : PySem.W.subIn K (.ref CB) (.ref CX) = some false)
    (w_xm_DuplicateName_BadName : PySem.W.subIn K (.ref CD) (.ref CN) = some false)
    (w_xm_DuplicateName_BadNumber : PySem.W.subIn K (.ref CD) (.ref CB) = some false)
    (w_xm_DuplicateName_BadText : PySem.W.subIn K (.ref CD) (.ref CX) = some false)
    (w_xm_Ring_BadName : PySem.W.subIn K (.ref CG) (.ref CN) = some false)
    (w_xm_Ring_BadNumber : PySem.W.subIn K (.ref CG) (.ref CB) = some false)
    (w_xm_Ring_BadText : PySem.W.subIn K (.ref CG) (.ref CX) = some false)
    (w_xm_Ring_DuplicateName : PySem.W.subIn K (.ref CG) (.ref CD) = some false)
    (w_xm_Ring_UnknownName : PySem.W.subIn K (.ref CG) (.ref CU) = some false)
    (w_xm_UnknownName_BadName : PySem.W.subIn K (.ref CU) (.ref CN) = some false)
    (w_xm_UnknownName_BadNumber : PySem.W.subIn K (.ref CU) (.ref CB) = some false)
    (w_xm_UnknownName_BadText : PySem.W.subIn K (.ref CU) (.ref CX) = some false)
    (w_xm_UnknownName_DuplicateName : PySem.W.subIn K (.ref CU) (.ref CD) = some false)
    (w_xn_BadName_name : PySem.W.findIn K (.ref CN) "name" = some none)
    (w_xn_BadNumber_n : PySem.W.findIn K (.ref CB) "n" = some none)
    (w_xn_BadText_at : PySem.W.findIn K (.ref CX) "at" = some none)
    (w_xn_DuplicateName_name : PySem.W.findIn K (.ref CD) "name" = some none)
    (w_xn_Ring_names : PySem.W.findIn K (.ref CG) "names" = some none)
    (w_xn_UnknownName_name : PySem.W.findIn K (.ref CU) "name" = some none)
    : ∃ fd : FuncData, (∀ (s : Shared) (v : Value), BindsTo s fd ⟨[v], []⟩ [("_law_script", v)]) ∧ ∀ base : Heap, K.In base → base.Ns mainGlobals mg → FnOk P w K mg base (L2.CX P w) 9 fa fd ["_law_script"] (spLaw K) := by
  have e := hfa.symm.trans (PySem.W.mg_of X G a33)
  cases e
  have F0 := fun_mk (st := s__shown) l0 c0 k0
  have b0 := F0.binds (ps := ["n"]) fun _ _ _ _ _ _ us hl => match us, hl with | [_], _ => rfl
  have F1 := fun_mk (st := s_BadText___init__) l1 c1 k1
  have b1 := F1.binds (ps := ["self", "at"]) fun _ _ _ _ _ _ us hl => match us, hl with | [_, _], _ => rfl
  have F2 := fun_mk (st := s_BadNumber___init__) l2 c2 k2
  have b2 := F2.binds (ps := ["self", "n"]) fun _ _ _ _ _ _ us hl => match us, hl with | [_, _], _ => rfl
  have F3 := fun_mk (st := s_BadName___init__) l3 c3 k3
  have b3 := F3.binds (ps := ["self", "name"]) fun _ _ _ _ _ _ us hl => match us, hl with | [_, _], _ => rfl
  have F4 := fun_mk (st := s_DuplicateName___init__) l4 c4 k4
  have b4 := F4.binds (ps := ["self", "name"]) fun _ _ _ _ _ _ us hl => match us, hl with | [_, _], _ => rfl
  have F5 := fun_mk (st := s_UnknownName___init__) l5 c5 k5
  have b5 := F5.binds (ps := ["self", "name"]) fun _ _ _ _ _ _ us hl => match us, hl with | [_, _], _ => rfl
  have F6 := fun_mk (st := s_Ring___init__) l6 c6 k6
  have b6 := F6.binds (ps := ["self", "names"]) fun _ _ _ _ _ _ us hl => match us, hl with | [_, _], _ => rfl
  have F7 := fun_mk (st := s_is_name) l7 c7 k7
  have b7 := F7.binds (ps := ["text"]) fun _ _ _ _ _ _ us hl => match us, hl with | [_], _ => rfl
  have F8 := fun_mk (st := s_check_names) l8 c8 k8
  have b8 := F8.binds (ps := ["names"]) fun _ _ _ _ _ _ us hl => match us, hl with | [_], _ => rfl
  have F9 := fun_mk (st := s_check_among) l9 c9 k9
  have b9 := F9.binds (ps := ["known", "names"]) fun _ _ _ _ _ _ us hl => match us, hl with | [_, _], _ => rfl
  have F10 := fun_mk (st := s__law_covers) l10 c10 k10
  have b10 := F10.binds (ps := ["_law_names_here", "_law_above_here"]) fun _ _ _ _ _ _ us hl => match us, hl with | [_, _], _ => rfl
  have F11 := fun_mk (st := s__law_changed) l11 c11 k11
  have b11 := F11.binds (ps := ["_law_pool_here", "_law_text_here"]) fun _ _ _ _ _ _ us hl => match us, hl with | [_, _], _ => rfl
  have F12 := fun_mk (st := s__law_text) l12 c12 k12
  have b12 := F12.binds (ps := ["_law_names_here", "_law_pairs_here"]) fun _ _ _ _ _ _ us hl => match us, hl with | [_, _], _ => rfl
  have F13 := fun_mk (st := s__are_words) l13 c13 k13
  have b13 := F13.binds (ps := ["words"]) fun _ _ _ _ _ _ us hl => match us, hl with | [_], _ => rfl
  have F14 := fun_mk (st := s__law_is_word) l14 c14 k14
  have b14 := F14.binds (ps := ["_law_text_here"]) fun _ _ _ _ _ _ us hl => match us, hl with | [_], _ => rfl
  have F15 := fun_mk (st := s__closure) l15 c15 k15
  have b15 := F15.binds (ps := ["names", "pairs"]) fun _ _ _ _ _ _ us hl => match us, hl with | [_, _], _ => rfl
  have F16 := fun_mk (st := s_Order_pairs) l16 c16 k16
  have b16 := F16.binds (ps := ["self"]) fun _ _ _ _ _ _ us hl => match us, hl with | [_], _ => rfl
  have F17 := fun_mk (st := s_Order__between) l17 c17 k17
  have b17 := F17.binds (ps := ["self", "low", "high"]) fun _ _ _ _ _ _ us hl => match us, hl with | [_, _, _], _ => rfl
  have F18 := fun_mk (st := s_Order_covers) l18 c18 k18
  have b18 := F18.binds (ps := ["self"]) fun _ _ _ _ _ _ us hl => match us, hl with | [_], _ => rfl
  have F19 := fun_mk (st := s_Order___eq__) l19 c19 k19
  have b19 := F19.binds (ps := ["self", "other"]) fun _ _ _ _ _ _ us hl => match us, hl with | [_, _], _ => rfl
  have F20 := fun_mk (st := s_Order___str__) l20 c20 k20
  have b20 := F20.binds (ps := ["self"]) fun _ _ _ _ _ _ us hl => match us, hl with | [_], _ => rfl
  have F21 := fun_mk (st := s_Order___init__) l21 c21 k21
  have b21 := F21.binds (ps := ["self", "names", "pairs"]) fun _ _ _ _ _ _ us hl => match us, hl with | [_, _, _], _ => rfl
  have F22 := fun_mk (st := s_Order___len__) l22 c22 k22
  have b22 := F22.binds (ps := ["self"]) fun _ _ _ _ _ _ us hl => match us, hl with | [_], _ => rfl
  have F23 := fun_mk (st := s_Order___iter__) l23 c23 k23
  have b23 := F23.binds (ps := ["self"]) fun _ _ _ _ _ _ us hl => match us, hl with | [_], _ => rfl
  have F24 := fun_mk (st := s_Order_read) l24 c24 k24
  have b24 := F24.binds (ps := ["cls", "text"]) fun _ _ _ _ _ _ us hl => match us, hl with | [_, _], _ => rfl
  have F25 := fun_mk (st := s__law_pool) l25 c25 k25
  have b25 := F25.binds (ps := ["_law_cell_here"]) fun _ _ _ _ _ _ us hl => match us, hl with | [_], _ => rfl
  have F26 := fun_mk (st := s__law_take) l26 c26 k26
  have b26 := F26.binds (ps := ["_law_pool_here", "_law_limit"]) fun _ _ _ _ _ _ us hl => match us, hl with | [_, _], _ => rfl
  have F27 := fun_mk (st := s__law_cell) l27 c27 k27
  have b27 := F27.binds (ps := ["_law_script", "_law_k"]) fun _ _ _ _ _ _ us hl => match us, hl with | [_, _], _ => rfl
  have F28 := fun_mk (st := s__law_names) l28 c28 k28
  have b28 := F28.binds (ps := ["_law_pool_here", "_law_many"]) fun _ _ _ _ _ _ us hl => match us, hl with | [_, _], _ => rfl
  have F29 := fun_mk (st := s__law_pairs) l29 c29 k29
  have b29 := F29.binds (ps := ["_law_pool_here", "_law_names_here"]) fun _ _ _ _ _ _ us hl => match us, hl with | [_, _], _ => rfl
  have F30 := fun_mk (st := s__law_above) l30 c30 k30
  have b30 := F30.binds (ps := ["_law_names_here", "_law_pairs_here"]) fun _ _ _ _ _ _ us hl => match us, hl with | [_, _], _ => rfl
  have F31 := fun_mk (st := s__law_told) l31 c31 k31
  have b31 := F31.binds (ps := ["_law_which", "_law_text_here", "_law_names_here", "_law_pairs_here"]) fun _ _ _ _ _ _ us hl => match us, hl with | [_, _, _, _], _ => rfl
  have F32 := fun_mk (st := s__law_due) l32 c32 k32
  have b32 := F32.binds (ps := ["_law_text_here"]) fun _ _ _ _ _ _ us hl => match us, hl with | [_], _ => rfl
  have F33 := fun_mk (st := s_law) l33 c33 k33
  refine ⟨PySem.W.fnOf "law" "law" (defArgs s_law) (defBody s_law) (defScope s_law) .none kV33 dc33 pm33 an33 cd33 ct33, fun s v => .of_eq rfl, fun base _ _ => ?_⟩
  have C_b_all := PySem.W.mg_none_of X G z_all
  have C_b_any := PySem.W.mg_none_of X G z_any
  have C_b_enumerate := PySem.W.mg_none_of X G z_enumerate
  have C_b_int := PySem.W.mg_none_of X G z_int
  have C_b_isinstance := PySem.W.mg_none_of X G z_isinstance
  have C_b_iter := PySem.W.mg_none_of X G z_iter
  have C_b_len := PySem.W.mg_none_of X G z_len
  have C_b_list := PySem.W.mg_none_of X G z_list
  have C_b_range := PySem.W.mg_none_of X G z_range
  have C_b_sorted := PySem.W.mg_none_of X G z_sorted
  have C_b_str := PySem.W.mg_none_of X G z_str
  have C_b_tuple := PySem.W.mg_none_of X G z_tuple
  have C_c_Order : ClO K CO := ⟨⟨pg_Order, hd_Order, po_Order, sa_Order⟩, ha_Order, hn, htk, hm_Order⟩
  have C_gBadName := PySem.W.mg_of X G aC_BadName
  have C_gBadNumber := PySem.W.mg_of X G aC_BadNumber
  have C_gBadText := PySem.W.mg_of X G aC_BadText
  have C_gDuplicateName := PySem.W.mg_of X G aC_DuplicateName
  have C_gOrder := PySem.W.mg_of X G aC_Order
  have C_gRing := PySem.W.mg_of X G aC_Ring
  have C_gUnknownName := PySem.W.mg_of X G aC_UnknownName
  have C_ki_Order_Order : PySem.W.kitOne K (.ref CO) (.ref CO) = some true := kit_self
  have C_n_DIGITS := PySem.W.mg_of X G g_DIGITS
  have C_n_LETTERS := PySem.W.mg_of X G g_LETTERS
  have C_n_MOST_NAMES := PySem.W.mg_of X G g_MOST_NAMES
  have C_n_MOST_SIGNS := PySem.W.mg_of X G g_MOST_SIGNS
  have C_na_Order__above : NoAttr K CO "_above" := w_na_Order__above
  have C_na_Order_names : NoAttr K CO "names" := w_na_Order_names
  have C_ox_BadName : OexC K CN := ⟨⟨_, _, _, _, _, _, _, _, _, _, _, _, _, _, _, xL_BadName, refs_ve _⟩, sa_BadName, eC_BadName, tC_BadName, kC_BadName⟩
  have C_ox_BadNumber : OexC K CB := ⟨⟨_, _, _, _, _, _, _, _, _, _, _, _, _, _, _, xL_BadNumber, refs_ve _⟩, sa_BadNumber, eC_BadNumber, tC_BadNumber, kC_BadNumber⟩
  have C_ox_BadText : OexC K CX := ⟨⟨_, _, _, _, _, _, _, _, _, _, _, _, _, _, _, xL_BadText, refs_ve _⟩, sa_BadText, eC_BadText, tC_BadText, kC_BadText⟩
  have C_ox_DuplicateName : OexC K CD := ⟨⟨_, _, _, _, _, _, _, _, _, _, _, _, _, _, _, xL_DuplicateName, refs_ve _⟩, sa_DuplicateName, eC_DuplicateName, tC_DuplicateName, kC_DuplicateName⟩
  have C_ox_Ring : OexC K CG := ⟨⟨_, _, _, _, _, _, _, _, _, _, _, _, _, _, _, xL_Ring, refs_ve _⟩, sa_Ring, eC_Ring, tC_Ring, kC_Ring⟩
  have C_ox_UnknownName : OexC K CU := ⟨⟨_, _, _, _, _, _, _, _, _, _, _, _, _, _, _, xL_UnknownName, refs_ve _⟩, sa_UnknownName, eC_UnknownName, tC_UnknownName, kC_UnknownName⟩
  have C_t_ThrowError : CalT K mg "ThrowError" := mk_calT X G aC_ThrowError ⟨rd_ThrowError, rg_ThrowError⟩ rv_ThrowError
  have C_xf_BadName : XfC K CN := ⟨ga_BadName, gg_BadName, eC_BadName, hC_BadName⟩
  have C_xf_BadNumber : XfC K CB := ⟨ga_BadNumber, gg_BadNumber, eC_BadNumber, hC_BadNumber⟩
  have C_xf_BadText : XfC K CX := ⟨ga_BadText, gg_BadText, eC_BadText, hC_BadText⟩
  have C_xf_DuplicateName : XfC K CD := ⟨ga_DuplicateName, gg_DuplicateName, eC_DuplicateName, hC_DuplicateName⟩
  have C_xf_Ring : XfC K CG := ⟨ga_Ring, gg_Ring, eC_Ring, hC_Ring⟩
  have C_xf_UnknownName : XfC K CU := ⟨ga_UnknownName, gg_UnknownName, eC_UnknownName, hC_UnknownName⟩
  have C_xm_BadName : PySem.W.exmOne K (.ref CN) (.ref CN) = some true := exm_in eC_BadName iC_BadName tC_BadName sC_BadName
  have C_xm_BadName_BadNumber : PySem.W.exmOne K (.ref CN) (.ref CB) = some false := exm_in eC_BadNumber iC_BadNumber tC_BadNumber w_xm_BadName_BadNumber
  have C_xm_BadName_BadText : PySem.W.exmOne K (.ref CN) (.ref CX) = some false := exm_in eC_BadText iC_BadText tC_BadText w_xm_BadName_BadText
  have C_xm_BadNumber : PySem.W.exmOne K (.ref CB) (.ref CB) = some true := exm_in eC_BadNumber iC_BadNumber tC_BadNumber sC_BadNumber
  have C_xm_BadNumber_BadText : PySem.W.exmOne K (.ref CB) (.ref CX) = some false := exm_in eC_BadText iC_BadText tC_BadText w_xm_BadNumber_BadText
  have C_xm_BadText : PySem.W.exmOne K (.ref CX) (.ref CX) = some true := exm_in eC_BadText iC_BadText tC_BadText sC_BadText
  have C_xm_DuplicateName : PySem.W.exmOne K (.ref CD) (.ref CD) = some true := exm_in eC_DuplicateName iC_DuplicateName tC_DuplicateName sC_DuplicateName
  have C_xm_DuplicateName_BadName : PySem.W.exmOne K (.ref CD) (.ref CN) = some false := exm_in eC_BadName iC_BadName tC_BadName w_xm_DuplicateName_BadName
  have C_xm_DuplicateName_BadNumber : PySem.W.exmOne K (.ref CD) (.ref CB) = some false := exm_in eC_BadNumber iC_BadNumber tC_BadNumber w_xm_DuplicateName_BadNumber
  have C_xm_DuplicateName_BadText : PySem.W.exmOne K (.ref CD) (.ref CX) = some false := exm_in eC_BadText iC_BadText tC_BadText w_xm_DuplicateName_BadText
  have C_xm_Ring : PySem.W.exmOne K (.ref CG) (.ref CG) = some true := exm_in eC_Ring iC_Ring tC_Ring sC_Ring
  have C_xm_Ring_BadName : PySem.W.exmOne K (.ref CG) (.ref CN) = some false := exm_in eC_BadName iC_BadName tC_BadName w_xm_Ring_BadName
  have C_xm_Ring_BadNumber : PySem.W.exmOne K (.ref CG) (.ref CB) = some false := exm_in eC_BadNumber iC_BadNumber tC_BadNumber w_xm_Ring_BadNumber
  have C_xm_Ring_BadText : PySem.W.exmOne K (.ref CG) (.ref CX) = some false := exm_in eC_BadText iC_BadText tC_BadText w_xm_Ring_BadText
  have C_xm_Ring_DuplicateName : PySem.W.exmOne K (.ref CG) (.ref CD) = some false := exm_in eC_DuplicateName iC_DuplicateName tC_DuplicateName w_xm_Ring_DuplicateName
  have C_xm_Ring_UnknownName : PySem.W.exmOne K (.ref CG) (.ref CU) = some false := exm_in eC_UnknownName iC_UnknownName tC_UnknownName w_xm_Ring_UnknownName
  have C_xm_UnknownName : PySem.W.exmOne K (.ref CU) (.ref CU) = some true := exm_in eC_UnknownName iC_UnknownName tC_UnknownName sC_UnknownName
  have C_xm_UnknownName_BadName : PySem.W.exmOne K (.ref CU) (.ref CN) = some false := exm_in eC_BadName iC_BadName tC_BadName w_xm_UnknownName_BadName
  have C_xm_UnknownName_BadNumber : PySem.W.exmOne K (.ref CU) (.ref CB) = some false := exm_in eC_BadNumber iC_BadNumber tC_BadNumber w_xm_UnknownName_BadNumber
  have C_xm_UnknownName_BadText : PySem.W.exmOne K (.ref CU) (.ref CX) = some false := exm_in eC_BadText iC_BadText tC_BadText w_xm_UnknownName_BadText
  have C_xm_UnknownName_DuplicateName : PySem.W.exmOne K (.ref CU) (.ref CD) = some false := exm_in eC_DuplicateName iC_DuplicateName tC_DuplicateName w_xm_UnknownName_DuplicateName
  have C_xn_BadName_name : PySem.W.findIn K (.ref CN) "name" = some none := w_xn_BadName_name
  have C_xn_BadNumber_n : PySem.W.findIn K (.ref CB) "n" = some none := w_xn_BadNumber_n
  have C_xn_BadText_at : PySem.W.findIn K (.ref CX) "at" = some none := w_xn_BadText_at
  have C_xn_DuplicateName_name : PySem.W.findIn K (.ref CD) "name" = some none := w_xn_DuplicateName_name
  have C_xn_Ring_names : PySem.W.findIn K (.ref CG) "names" = some none := w_xn_Ring_names
  have C_xn_UnknownName_name : PySem.W.findIn K (.ref CU) "name" = some none := w_xn_UnknownName_name
  have G__shown : FnOk P w K mg base (L2.CX P w) 1 f0 _ _ spShown := ok__shown F0 C_b_int C_b_isinstance C_b_str
  have C_f_shown : Cal P w K mg base "_shown" 1 spShown := mk_cal X G a0 k0 G__shown b0
  have G_BadName___init__ : FnOk P w K mg base (L2.CX P w) 1 f3 _ _ (spX1 K CN "name" GStW) := ok_BadName___init__ F3 C_ox_BadName C_t_ThrowError C_xn_BadName_name
  have C_x_BadName : CalX P w K mg base "BadName" CN 1 ["self", "name"] (spX1 K CN "name" GStW) := mk_calX X G aC_BadName C_ox_BadName a3 t3 G_BadName___init__ b3
  have G_DuplicateName___init__ : FnOk P w K mg base (L2.CX P w) 1 f4 _ _ (spX1 K CD "name" GStW) := ok_DuplicateName___init__ F4 C_ox_DuplicateName C_t_ThrowError C_xn_DuplicateName_name
  have C_x_DuplicateName : CalX P w K mg base "DuplicateName" CD 1 ["self", "name"] (spX1 K CD "name" GStW) := mk_calX X G aC_DuplicateName C_ox_DuplicateName a4 t4 G_DuplicateName___init__ b4
  have G_UnknownName___init__ : FnOk P w K mg base (L2.CX P w) 1 f5 _ _ (spX1 K CU "name" GStW) := ok_UnknownName___init__ F5 C_ox_UnknownName C_t_ThrowError C_xn_UnknownName_name
  have C_x_UnknownName : CalX P w K mg base "UnknownName" CU 1 ["self", "name"] (spX1 K CU "name" GStW) := mk_calX X G aC_UnknownName C_ox_UnknownName a5 t5 G_UnknownName___init__ b5
  have G_Ring___init__ : FnOk P w K mg base (L2.CX P w) 1 f6 _ _ (spXR K CG) := ok_Ring___init__ F6 C_b_list C_ox_Ring C_t_ThrowError C_xf_Ring C_xn_Ring_names
  have C_x_Ring : CalX P w K mg base "Ring" CG 1 ["self", "names"] (spXR K CG) := mk_calX X G aC_Ring C_ox_Ring a6 t6 G_Ring___init__ b6
  have G_is_name : FnOk P w K mg base (L2.CX P w) 1 f7 _ _ spIsName := ok_is_name F7 C_b_all C_b_len C_n_DIGITS C_n_LETTERS C_n_MOST_SIGNS
  have C_f_is_name : Cal P w K mg base "is_name" 1 spIsName := mk_cal X G a7 k7 G_is_name b7
  have G__law_covers : FnOk P w K mg base (L2.CX P w) 1 f10 _ _ (spLCov K) := ok__law_covers F10 C_b_sorted
  have C_f_law_covers : Cal P w K mg base "_law_covers" 1 (spLCov K) := mk_cal X G a10 k10 G__law_covers b10
  have G__law_text : FnOk P w K mg base (L2.CX P w) 1 f12 _ _ (spText K) := ok__law_text F12
  have C_f_law_text : Cal P w K mg base "_law_text" 1 (spText K) := mk_cal X G a12 k12 G__law_text b12
  have G__are_words : FnOk P w K mg base (L2.CX P w) 1 f13 _ _ (spWords K) := ok__are_words F13 C_b_all C_b_any
  have C_f_are_words : Cal P w K mg base "_are_words" 1 (spWords K) := mk_cal X G a13 k13 G__are_words b13
  have G__law_is_word : FnOk P w K mg base (L2.CX P w) 1 f14 _ _ spWord := ok__law_is_word F14 C_b_any
  have C_f_law_is_word : Cal P w K mg base "_law_is_word" 1 spWord := mk_cal X G a14 k14 G__law_is_word b14
  have G__closure : FnOk P w K mg base (L2.CX P w) 1 f15 _ _ (spClosure K) := ok__closure F15 C_b_sorted C_b_tuple
  have C_f_closure : Cal P w K mg base "_closure" 1 (spClosure K) := mk_cal X G a15 k15 G__closure b15
  have G_Order_pairs : FnOk P w K mg base (L2.CX P w) 1 f16 _ _ (spPairs CO) := ok_Order_pairs F16 C_c_Order C_na_Order__above C_na_Order_names
  have C_m_Order_pairs : CalM P w K mg base CO "pairs" 1 (spPairs CO) := mk_calM ⟨a16, i16, k16⟩ G_Order_pairs b16
  have G_Order__between : FnOk P w K mg base (L2.CX P w) 1 f17 _ _ (spBtw CO) := ok_Order__between F17 C_c_Order C_na_Order__above C_na_Order_names
  have C_m_Order__between : CalM P w K mg base CO "_between" 1 (spBtw CO) := mk_calM ⟨a17, i17, k17⟩ G_Order__between b17
  have G_Order___eq__ : FnOk P w K mg base (L2.CX P w) 1 f19 _ _ (spOEq K CO) := ok_Order___eq__ F19 C_b_isinstance C_c_Order C_gOrder C_ki_Order_Order C_na_Order__above C_na_Order_names
  have C_o_Order_eq : CalO P w K mg base CO "__eq__" 1 (spOEq K CO) := mk_calO a19 i19 sf_Order G_Order___eq__ b19
  have G_Order___len__ : FnOk P w K mg base (L2.CX P w) 1 f22 _ _ (spOLen CO) := ok_Order___len__ F22 C_b_len C_c_Order C_na_Order__above C_na_Order_names
  have G_Order___iter__ : FnOk P w K mg base (L2.CX P w) 1 f23 _ _ (spOIter CO) := ok_Order___iter__ F23 C_b_iter C_c_Order C_na_Order__above C_na_Order_names
  have G__law_pool : FnOk P w K mg base (L2.CX P w) 1 f25 _ _ spPool := ok__law_pool F25
  have C_f_law_pool : Cal P w K mg base "_law_pool" 1 spPool := mk_cal X G a25 k25 G__law_pool b25
  have G__law_take : FnOk P w K mg base (L2.CX P w) 1 f26 _ _ spTake := ok__law_take F26 C_b_int
  have C_f_law_take : Cal P w K mg base "_law_take" 1 spTake := mk_cal X G a26 k26 G__law_take b26
  have G__law_cell : FnOk P w K mg base (L2.CX P w) 1 f27 _ _ (spCell K) := ok__law_cell F27 C_b_len
  have C_f_law_cell : Cal P w K mg base "_law_cell" 1 (spCell K) := mk_cal X G a27 k27 G__law_cell b27
  have G__law_above : FnOk P w K mg base (L2.CX P w) 1 f30 _ _ (spAbove K) := ok__law_above F30 C_b_len C_b_range
  have C_f_law_above : Cal P w K mg base "_law_above" 1 (spAbove K) := mk_cal X G a30 k30 G__law_above b30
  have G_BadText___init__ : FnOk P w K mg base (L2.CX P w) 2 f1 _ _ (spX1 K CX "at" GInt) := ok_BadText___init__ F1 C_f_shown C_ox_BadText C_t_ThrowError C_xn_BadText_at
  have C_x_BadText : CalX P w K mg base "BadText" CX 2 ["self", "at"] (spX1 K CX "at" GInt) := mk_calX X G aC_BadText C_ox_BadText a1 t1 G_BadText___init__ b1
  have G_BadNumber___init__ : FnOk P w K mg base (L2.CX P w) 2 f2 _ _ (spX1 K CB "n" GInt) := ok_BadNumber___init__ F2 C_f_shown C_ox_BadNumber C_t_ThrowError C_xn_BadNumber_n
  have C_x_BadNumber : CalX P w K mg base "BadNumber" CB 2 ["self", "n"] (spX1 K CB "n" GInt) := mk_calX X G aC_BadNumber C_ox_BadNumber a2 t2 G_BadNumber___init__ b2
  have G__law_changed : FnOk P w K mg base (L2.CX P w) 2 f11 _ _ spChanged := ok__law_changed F11 C_b_len C_f_law_take
  have C_f_law_changed : Cal P w K mg base "_law_changed" 2 spChanged := mk_cal X G a11 k11 G__law_changed b11
  have G_Order_covers : FnOk P w K mg base (L2.CX P w) 2 f18 _ _ (spCovers CO) := ok_Order_covers F18 C_b_len C_c_Order C_m_Order__between C_m_Order_pairs C_na_Order__above C_na_Order_names
  have C_m_Order_covers : CalM P w K mg base CO "covers" 2 (spCovers CO) := mk_calM ⟨a18, i18, k18⟩ G_Order_covers b18
  have G__law_names : FnOk P w K mg base (L2.CX P w) 2 f28 _ _ spNames := ok__law_names F28 C_b_len C_b_range C_f_law_take
  have C_f_law_names : Cal P w K mg base "_law_names" 2 spNames := mk_cal X G a28 k28 G__law_names b28
  have G__law_pairs : FnOk P w K mg base (L2.CX P w) 2 f29 _ _ spLPairs := ok__law_pairs F29 C_b_len C_b_list C_b_range C_f_law_take
  have C_f_law_pairs : Cal P w K mg base "_law_pairs" 2 spLPairs := mk_cal X G a29 k29 G__law_pairs b29
  have G_check_names : FnOk P w K mg base (L2.CX P w) 3 f8 _ _ (spCheckG K CN CD) := ok_check_names F8 C_b_enumerate C_f_is_name C_x_BadName C_x_DuplicateName
  have C_f_check_names : Cal P w K mg base "check_names" 3 (spCheckG K CN CD) := mk_cal X G a8 k8 G_check_names b8
  have G_check_among : FnOk P w K mg base (L2.CX P w) 3 f9 _ _ (spAmW K CU) := ok_check_among F9 C_x_UnknownName
  have C_f_check_among : Cal P w K mg base "check_among" 3 (spAmW K CU) := mk_cal X G a9 k9 G_check_among b9
  have G_Order___str__ : FnOk P w K mg base (L2.CX P w) 3 f20 _ _ (spOStrX CO) := ok_Order___str__ F20 C_c_Order C_m_Order_covers C_na_Order__above C_na_Order_names
  have C_o_Order_str : CalO P w K mg base CO "__str__" 3 (spOStrX CO) := mk_calO a20 i20 sf_Order G_Order___str__ b20
  have G_Order___init__ : FnOk P w K mg base (L2.CX P w) 4 f21 _ _ (spOInitG K CO CB CN CD CU CG) := ok_Order___init__ F21 C_b_any C_b_len C_b_sorted C_b_tuple C_c_Order C_f_check_among C_f_check_names C_f_closure C_m_Order_pairs C_n_MOST_NAMES C_na_Order__above C_na_Order_names C_x_BadNumber C_x_Ring
  have C_i_Order : CalI P w K mg base "Order" CO 4 (spOInitG K CO CB CN CD CU CG) := mk_calI X G aC_Order ⟨mk_Order, a21, i21, kc_Order⟩ G_Order___init__ b21
  have G_Order_read : FnOk P w K mg base (L2.CX P w) 6 f24 _ _ (spRead CO CB CN CD CU CG CX) := ok_Order_read F24 C_b_enumerate C_b_len C_f_are_words C_i_Order C_x_BadText
  have C_k_Order_read : CalK P w K mg base CO "read" 6 (spRead CO CB CN CD CU CG CX) := mk_calK ⟨rd_Order, rg_Order⟩ ⟨a24, ⟨_, r24⟩, i24⟩ G_Order_read b24
  have G__law_told : FnOk P w K mg base (L2.CX P w) 7 f31 _ _ (spTold K) := ok__law_told F31 C_c_Order C_gBadName C_gBadNumber C_gBadText C_gDuplicateName C_gOrder C_gRing C_gUnknownName C_i_Order C_k_Order_read C_m_Order_pairs C_na_Order__above C_na_Order_names C_xf_BadName C_xf_BadNumber C_xf_BadText C_xf_DuplicateName C_xf_Ring C_xf_UnknownName C_xm_BadName C_xm_BadName_BadNumber C_xm_BadName_BadText C_xm_BadNumber C_xm_BadNumber_BadText C_xm_BadText C_xm_DuplicateName C_xm_DuplicateName_BadName C_xm_DuplicateName_BadNumber C_xm_DuplicateName_BadText C_xm_Ring C_xm_Ring_BadName C_xm_Ring_BadNumber C_xm_Ring_BadText C_xm_Ring_DuplicateName C_xm_Ring_UnknownName C_xm_UnknownName C_xm_UnknownName_BadName C_xm_UnknownName_BadNumber C_xm_UnknownName_BadText C_xm_UnknownName_DuplicateName C_xn_BadName_name C_xn_BadNumber_n C_xn_BadText_at C_xn_DuplicateName_name C_xn_Ring_names C_xn_UnknownName_name
  have C_f_law_told : Cal P w K mg base "_law_told" 7 (spTold K) := mk_cal X G a31 k31 G__law_told b31
  have G__law_due : FnOk P w K mg base (L2.CX P w) 8 f32 _ _ (spDue K) := ok__law_due F32 C_b_all C_b_len C_b_range C_f_law_is_word C_f_law_told
  have C_f_law_due : Cal P w K mg base "_law_due" 8 (spDue K) := mk_cal X G a32 k32 G__law_due b32
  exact ok_law F33 C_b_list C_b_range C_b_sorted C_b_str C_c_Order C_f_law_above C_f_law_cell C_f_law_changed C_f_law_covers C_f_law_due C_f_law_names C_f_law_pairs C_f_law_pool C_f_law_take C_f_law_text C_f_law_told C_gOrder C_i_Order C_k_Order_read C_m_Order_pairs C_na_Order__above C_na_Order_names C_o_Order_eq C_o_Order_str
theorem walk {l : PySem.W.OpenLaw} {q : Program} {loose : List Str} {XP : (Str → Option Value) → Heap → Prop} {YP : World → Heap → Prop} {d : DefRec} {K : Params → PySem.W.Frag} (hn : l.most = some 63) (hdf : d.params.defaults = [])
    (hY : ∀ (w : World) (h : Heap), YP w h → (K w.params).In h)
    (F : ∀ (w : World) (mg : Str → Option Value) (fa : Addr) (h : Heap), (K w.params).In h → h.Ns mainGlobals mg → mg d.name = some (.ref fa) →
      ∃ fd : FuncData, (∀ (s : Shared) (u : Value), BindsTo s fd ⟨[u], []⟩ [("_law_script", u)]) ∧ ∀ base : Heap, (K w.params).In base → base.Ns mainGlobals mg → FnOk l.prog w (K w.params) mg base (L2.CX l.prog w) 9 fa fd ["_law_script"] (spLaw (K w.params))) :
    PySem.W.WalkO q loose XP YP l.row.toRowW d [] (fun f vs => PySem.call f vs) :=
  L2.walk_of (n := 63) (k := 9) (x := "_law_script") (CX := fun w => L2.CX l.prog w) (sp := fun w => spLaw (K w.params)) hn (by decide) hdf ⟨rfl, by decide, by decide⟩ hY F (fun _ _ a ns hl _ hS => mk_law hS hl) fun _ _ _ _ _ z => cxN z
end Z

open PySem PySem.W PyProof.Rows in
set_option maxRecDepth 100000 in
set_option maxHeartbeats 0 in
theorem PySem.Challenge.cw_onethrow_k15_texts_of_orders_holds : PySem.Challenge.rw_onethrow_k15_texts_of_orders.Holds := by
  w_on; o_law; k_head; (case hw => w_witness2)
  k_fill
  refine Z.walk (l := PySem.Challenge.rw_onethrow_k15_texts_of_orders) rfl rfl (fun w h Y => PySem.W.kIn_of Y) ?F
  case F =>
    intro w mg fa h KX G hmg
    refine' Z.all_mk KX G hmg ?aC_BadText ?aC_Order ?aC_BadNumber ?aC_BadName ?aC_DuplicateName ?aC_UnknownName ?aC_Ring ?aC_ThrowError ?pg_Order ?hd_Order ?po_Order ?sa_Order ?ha_Order ?hm_Order ?mk_Order ?kc_Order ?sf_Order ?iC_Order ?tC_Order ?hn ?htk ?xL_BadText ?sa_BadText ?ga_BadText ?gg_BadText ?kC_BadText ?eC_BadText ?tC_BadText ?hC_BadText ?iC_BadText ?sC_BadText ?xL_BadNumber ?sa_BadNumber ?ga_BadNumber ?gg_BadNumber ?kC_BadNumber ?eC_BadNumber ?tC_BadNumber ?hC_BadNumber ?iC_BadNumber ?sC_BadNumber ?xL_BadName ?sa_BadName ?ga_BadName ?gg_BadName ?kC_BadName ?eC_BadName ?tC_BadName ?hC_BadName ?iC_BadName ?sC_BadName ?xL_DuplicateName ?sa_DuplicateName ?ga_DuplicateName ?gg_DuplicateName ?kC_DuplicateName ?eC_DuplicateName ?tC_DuplicateName ?hC_DuplicateName ?iC_DuplicateName ?sC_DuplicateName ?xL_UnknownName ?sa_UnknownName ?ga_UnknownName ?gg_UnknownName ?kC_UnknownName ?eC_UnknownName ?tC_UnknownName ?hC_UnknownName ?iC_UnknownName ?sC_UnknownName ?xL_Ring ?sa_Ring ?ga_Ring ?gg_Ring ?kC_Ring ?eC_Ring ?tC_Ring ?hC_Ring ?iC_Ring ?sC_Ring ?rd_Order ?rg_Order ?rd_ThrowError ?rg_ThrowError ?rv_ThrowError ?a0 ?l0 ?c0 ?k0 ?a1 ?t1 ?l1 ?c1 ?k1 ?a2 ?t2 ?l2 ?c2 ?k2 ?a3 ?t3 ?l3 ?c3 ?k3 ?a4 ?t4 ?l4 ?c4 ?k4 ?a5 ?t5 ?l5 ?c5 ?k5 ?a6 ?t6 ?l6 ?c6 ?k6 ?a7 ?l7 ?c7 ?k7 ?a8 ?l8 ?c8 ?k8 ?a9 ?l9 ?c9 ?k9 ?a10 ?l10 ?c10 ?k10 ?a11 ?l11 ?c11 ?k11 ?a12 ?l12 ?c12 ?k12 ?a13 ?l13 ?c13 ?k13 ?a14 ?l14 ?c14 ?k14 ?a15 ?l15 ?c15 ?k15 ?a16 ?i16 ?l16 ?c16 ?k16 ?a17 ?i17 ?l17 ?c17 ?k17 ?a18 ?i18 ?l18 ?c18 ?k18 ?a19 ?i19 ?l19 ?c19 ?k19 ?a20 ?i20 ?l20 ?c20 ?k20 ?a21 ?i21 ?l21 ?c21 ?k21 ?a22 ?i22 ?l22 ?c22 ?k22 ?a23 ?i23 ?l23 ?c23 ?k23 ?a24 ?r24 ?i24 ?l24 ?c24 ?k24 ?a25 ?l25 ?c25 ?k25 ?a26 ?l26 ?c26 ?k26 ?a27 ?l27 ?c27 ?k27 ?a28 ?l28 ?c28 ?k28 ?a29 ?l29 ?c29 ?k29 ?a30 ?l30 ?c30 ?k30 ?a31 ?l31 ?c31 ?k31 ?a32 ?l32 ?c32 ?k32 ?a33 ?l33 ?c33 ?k33 ?z_all ?z_any ?z_enumerate ?z_int ?z_isinstance ?z_iter ?z_len ?z_list ?z_range ?z_sorted ?z_str ?z_tuple ?g_DIGITS ?g_LETTERS ?g_MOST_NAMES ?g_MOST_SIGNS ?w_na_Order__above ?w_na_Order_names ?w_xm_BadName_BadNumber ?w_xm_BadName_BadText ?w_xm_BadNumber_BadText ?w_xm_DuplicateName_BadName ?w_xm_DuplicateName_BadNumber ?w_xm_DuplicateName_BadText ?w_xm_Ring_BadName ?w_xm_Ring_BadNumber ?w_xm_Ring_BadText ?w_xm_Ring_DuplicateName ?w_xm_Ring_UnknownName ?w_xm_UnknownName_BadName ?w_xm_UnknownName_BadNumber ?w_xm_UnknownName_BadText ?w_xm_UnknownName_DuplicateName ?w_xn_BadName_name ?w_xn_BadNumber_n ?w_xn_BadText_at ?w_xn_DuplicateName_name ?w_xn_Ring_names ?w_xn_UnknownName_name
    (case aC_BadText => k_is)
    (case aC_Order => k_is)
    (case aC_BadNumber => k_is)
    (case aC_BadName => k_is)
    (case aC_DuplicateName => k_is)
    (case aC_UnknownName => k_is)
    (case aC_Ring => k_is)
    (case aC_ThrowError => k_is)
    (case pg_Order => k_is)
    (case hd_Order => k_is)
    (case po_Order => k_is)
    (case sa_Order => k_is)
    (case ha_Order => k_is)
    (case hm_Order => k_is)
    (case mk_Order => k_is)
    (case kc_Order => k_is)
    (case sf_Order => k_is)
    (case iC_Order => k_is)
    (case tC_Order => k_is)
    (case hn => k_is)
    (case htk => k_is)
    (case xL_BadText => k_is)
    (case sa_BadText => k_is)
    (case ga_BadText => k_is)
    (case gg_BadText => k_is)
    (case kC_BadText => k_is)
    (case eC_BadText => k_is)
    (case tC_BadText => k_is)
    (case hC_BadText => k_is)
    (case iC_BadText => k_is)
    (case sC_BadText => k_is)
    (case xL_BadNumber => k_is)
    (case sa_BadNumber => k_is)
    (case ga_BadNumber => k_is)
    (case gg_BadNumber => k_is)
    (case kC_BadNumber => k_is)
    (case eC_BadNumber => k_is)
    (case tC_BadNumber => k_is)
    (case hC_BadNumber => k_is)
    (case iC_BadNumber => k_is)
    (case sC_BadNumber => k_is)
    (case xL_BadName => k_is)
    (case sa_BadName => k_is)
    (case ga_BadName => k_is)
    (case gg_BadName => k_is)
    (case kC_BadName => k_is)
    (case eC_BadName => k_is)
    (case tC_BadName => k_is)
    (case hC_BadName => k_is)
    (case iC_BadName => k_is)
    (case sC_BadName => k_is)
    (case xL_DuplicateName => k_is)
    (case sa_DuplicateName => k_is)
    (case ga_DuplicateName => k_is)
    (case gg_DuplicateName => k_is)
    (case kC_DuplicateName => k_is)
    (case eC_DuplicateName => k_is)
    (case tC_DuplicateName => k_is)
    (case hC_DuplicateName => k_is)
    (case iC_DuplicateName => k_is)
    (case sC_DuplicateName => k_is)
    (case xL_UnknownName => k_is)
    (case sa_UnknownName => k_is)
    (case ga_UnknownName => k_is)
    (case gg_UnknownName => k_is)
    (case kC_UnknownName => k_is)
    (case eC_UnknownName => k_is)
    (case tC_UnknownName => k_is)
    (case hC_UnknownName => k_is)
    (case iC_UnknownName => k_is)
    (case sC_UnknownName => k_is)
    (case xL_Ring => k_is)
    (case sa_Ring => k_is)
    (case ga_Ring => k_is)
    (case gg_Ring => k_is)
    (case kC_Ring => k_is)
    (case eC_Ring => k_is)
    (case tC_Ring => k_is)
    (case hC_Ring => k_is)
    (case iC_Ring => k_is)
    (case sC_Ring => k_is)
    (case rd_Order => k_is)
    (case rg_Order => k_is)
    (case rd_ThrowError => k_is)
    (case rg_ThrowError => k_is)
    (case rv_ThrowError => k_is)
    (case a0 => k_is)
    (case l0 => k_is)
    (case c0 => k_is)
    (case k0 => k_is)
    (case a1 => k_is)
    (case t1 => k_is)
    (case l1 => k_is)
    (case c1 => k_is)
    (case k1 => k_is)
    (case a2 => k_is)
    (case t2 => k_is)
    (case l2 => k_is)
    (case c2 => k_is)
    (case k2 => k_is)
    (case a3 => k_is)
    (case t3 => k_is)
    (case l3 => k_is)
    (case c3 => k_is)
    (case k3 => k_is)
    (case a4 => k_is)
    (case t4 => k_is)
    (case l4 => k_is)
    (case c4 => k_is)
    (case k4 => k_is)
    (case a5 => k_is)
    (case t5 => k_is)
    (case l5 => k_is)
    (case c5 => k_is)
    (case k5 => k_is)
    (case a6 => k_is)
    (case t6 => k_is)
    (case l6 => k_is)
    (case c6 => k_is)
    (case k6 => k_is)
    (case a7 => k_is)
    (case l7 => k_is)
    (case c7 => k_is)
    (case k7 => k_is)
    (case a8 => k_is)
    (case l8 => k_is)
    (case c8 => k_is)
    (case k8 => k_is)
    (case a9 => k_is)
    (case l9 => k_is)
    (case c9 => k_is)
    (case k9 => k_is)
    (case a10 => k_is)
    (case l10 => k_is)
    (case c10 => k_is)
    (case k10 => k_is)
    (case a11 => k_is)
    (case l11 => k_is)
    (case c11 => k_is)
    (case k11 => k_is)
    (case a12 => k_is)
    (case l12 => k_is)
    (case c12 => k_is)
    (case k12 => k_is)
    (case a13 => k_is)
    (case l13 => k_is)
    (case c13 => k_is)
    (case k13 => k_is)
    (case a14 => k_is)
    (case l14 => k_is)
    (case c14 => k_is)
    (case k14 => k_is)
    (case a15 => k_is)
    (case l15 => k_is)
    (case c15 => k_is)
    (case k15 => k_is)
    (case a16 => k_is)
    (case i16 => k_is)
    (case l16 => k_is)
    (case c16 => k_is)
    (case k16 => k_is)
    (case a17 => k_is)
    (case i17 => k_is)
    (case l17 => k_is)
    (case c17 => k_is)
    (case k17 => k_is)
    (case a18 => k_is)
    (case i18 => k_is)
    (case l18 => k_is)
    (case c18 => k_is)
    (case k18 => k_is)
    (case a19 => k_is)
    (case i19 => k_is)
    (case l19 => k_is)
    (case c19 => k_is)
    (case k19 => k_is)
    (case a20 => k_is)
    (case i20 => k_is)
    (case l20 => k_is)
    (case c20 => k_is)
    (case k20 => k_is)
    (case a21 => k_is)
    (case i21 => k_is)
    (case l21 => k_is)
    (case c21 => k_is)
    (case k21 => k_is)
    (case a22 => k_is)
    (case i22 => k_is)
    (case l22 => k_is)
    (case c22 => k_is)
    (case k22 => k_is)
    (case a23 => k_is)
    (case i23 => k_is)
    (case l23 => k_is)
    (case c23 => k_is)
    (case k23 => k_is)
    (case a24 => k_is)
    (case r24 => k_is)
    (case i24 => k_is)
    (case l24 => k_is)
    (case c24 => k_is)
    (case k24 => k_is)
    (case a25 => k_is)
    (case l25 => k_is)
    (case c25 => k_is)
    (case k25 => k_is)
    (case a26 => k_is)
    (case l26 => k_is)
    (case c26 => k_is)
    (case k26 => k_is)
    (case a27 => k_is)
    (case l27 => k_is)
    (case c27 => k_is)
    (case k27 => k_is)
    (case a28 => k_is)
    (case l28 => k_is)
    (case c28 => k_is)
    (case k28 => k_is)
    (case a29 => k_is)
    (case l29 => k_is)
    (case c29 => k_is)
    (case k29 => k_is)
    (case a30 => k_is)
    (case l30 => k_is)
    (case c30 => k_is)
    (case k30 => k_is)
    (case a31 => k_is)
    (case l31 => k_is)
    (case c31 => k_is)
    (case k31 => k_is)
    (case a32 => k_is)
    (case l32 => k_is)
    (case c32 => k_is)
    (case k32 => k_is)
    (case a33 => k_is)
    (case l33 => k_is)
    (case c33 => k_is)
    (case k33 => k_is)
    (case z_all => k_is)
    (case z_any => k_is)
    (case z_enumerate => k_is)
    (case z_int => k_is)
    (case z_isinstance => k_is)
    (case z_iter => k_is)
    (case z_len => k_is)
    (case z_list => k_is)
    (case z_range => k_is)
    (case z_sorted => k_is)
    (case z_str => k_is)
    (case z_tuple => k_is)
    (case g_DIGITS => k_is)
    (case g_LETTERS => k_is)
    (case g_MOST_NAMES => k_is)
    (case g_MOST_SIGNS => k_is)
    (case w_na_Order__above => k_is)
    (case w_na_Order_names => k_is)
    (case w_xm_BadName_BadNumber => k_is)
    (case w_xm_BadName_BadText => k_is)
    (case w_xm_BadNumber_BadText => k_is)
    (case w_xm_DuplicateName_BadName => k_is)
    (case w_xm_DuplicateName_BadNumber => k_is)
    (case w_xm_DuplicateName_BadText => k_is)
    (case w_xm_Ring_BadName => k_is)
    (case w_xm_Ring_BadNumber => k_is)
    (case w_xm_Ring_BadText => k_is)
    (case w_xm_Ring_DuplicateName => k_is)
    (case w_xm_Ring_UnknownName => k_is)
    (case w_xm_UnknownName_BadName => k_is)
    (case w_xm_UnknownName_BadNumber => k_is)
    (case w_xm_UnknownName_BadText => k_is)
    (case w_xm_UnknownName_DuplicateName => k_is)
    (case w_xn_BadName_name => k_is)
    (case w_xn_BadNumber_n => k_is)
    (case w_xn_BadText_at => k_is)
    (case w_xn_DuplicateName_name => k_is)
    (case w_xn_Ring_names => k_is)
    (case w_xn_UnknownName_name => k_is)

