import PyProof.Rows.All
import Wide.All
import OpenK.AllK
import Wide.FinOn
import HandS.ForMost
import HandS.ForExc
import HandS.More
import HandS.Star
import HandS.ClsMeth
import HandS.Wide
import HandS.Gcd
import HandS.ExcInit
import HandS.ExcField
import HandS.IsInst
import HandS.OwnEq
import HandS.FStr
import HandS.WideBits
import KE.IntBitsLaws
import PySem.Challenge.RW_onethrow_k11_ratios
set_option linter.all false
namespace ZR
theorem fdiv_exact {a d : Int} (hd : d ≠ 0) (h : d ∣ a) : a.fdiv d = a / d := by
  obtain ⟨k, rfl⟩ := h
  rw [Int.mul_comm, Int.mul_fdiv_cancel _ hd, Int.mul_ediv_cancel _ hd]
/-- the divisor: the greatest common one, with the sign of b -/
def sg (t b : Int) : Int := if b < 0 then -((Nat.gcd t.natAbs b.natAbs : Nat) : Int) else ((Nat.gcd t.natAbs b.natAbs : Nat) : Int)
theorem gcd_ne (t : Int) {b : Int} (hb : b ≠ 0) : ((Nat.gcd t.natAbs b.natAbs : Nat) : Int) ≠ 0 := by
  have : 0 < Nat.gcd t.natAbs b.natAbs := Nat.gcd_pos_of_pos_right _ (by omega)
  omega
theorem sg_ne (t : Int) {b : Int} (hb : b ≠ 0) : sg t b ≠ 0 := by
  have := gcd_ne t hb
  unfold sg
  split <;> omega
theorem sg_le (t b : Int) (hb : b ≠ 0) : (sg t b).natAbs ≤ b.natAbs := by
  have : Nat.gcd t.natAbs b.natAbs ≤ b.natAbs := Nat.gcd_le_right _ (by omega)
  unfold sg
  split <;> omega
theorem dvd_t (t b : Int) : ((Nat.gcd t.natAbs b.natAbs : Nat) : Int) ∣ t := Int.ofNat_dvd_left.mpr (Nat.gcd_dvd_left _ _)
theorem dvd_b (t b : Int) : ((Nat.gcd t.natAbs b.natAbs : Nat) : Int) ∣ b := Int.ofNat_dvd_left.mpr (Nat.gcd_dvd_right _ _)
theorem norm_num (t b : Int) (hb : b ≠ 0) : t.fdiv (sg t b) = ((t : Rat) / (b : Rat)).num := by
  rw [← Rat.divInt_eq_div, Rat.num_divInt]
  have hg := gcd_ne t hb
  have e : b.gcd t = Nat.gcd t.natAbs b.natAbs := by rw [Int.gcd_comm]; rfl
  have d1 := dvd_t t b
  rw [e]
  unfold sg
  split
  · rename_i h
    rw [fdiv_exact (by omega) (Int.neg_dvd.mpr d1), Int.sign_eq_neg_one_of_neg h, Int.ediv_neg]
    obtain ⟨k, hk⟩ := d1
    generalize ((Nat.gcd t.natAbs b.natAbs : Nat) : Int) = g at *
    subst hk
    rw [Int.mul_ediv_cancel_left _ hg, show -1 * (g * k) = g * (-k) by grind, Int.mul_ediv_cancel_left _ hg]
  · rename_i h
    rw [fdiv_exact hg d1, Int.sign_eq_one_of_pos (by omega), Int.one_mul]
theorem norm_den (t b : Int) (hb : b ≠ 0) : b.fdiv (sg t b) = ((((t : Rat) / (b : Rat)).den : Nat) : Int) := by
  rw [← Rat.divInt_eq_div, Rat.den_divInt, if_neg hb]
  have hg := gcd_ne t hb
  have e : b.gcd t = Nat.gcd t.natAbs b.natAbs := by rw [Int.gcd_comm]; rfl
  have d1 := dvd_b t b
  rw [e, Int.natCast_ediv]
  unfold sg
  split
  · rename_i h
    rw [fdiv_exact (by omega) (Int.neg_dvd.mpr d1), Int.ediv_neg]
    have e2 : ((b.natAbs : Nat) : Int) = -b := by omega
    rw [e2]
    obtain ⟨k, hk⟩ := d1
    generalize ((Nat.gcd t.natAbs b.natAbs : Nat) : Int) = g at *
    subst hk
    rw [Int.mul_ediv_cancel_left _ hg, show -(g * k) = g * (-k) by grind, Int.mul_ediv_cancel_left _ hg]
  · rename_i h
    have e2 : ((b.natAbs : Nat) : Int) = b := by omega
    rw [e2, fdiv_exact hg d1]
theorem num_le (t b : Int) : ((t : Rat) / (b : Rat)).num.natAbs ≤ t.natAbs := by
  rw [← Rat.divInt_eq_div, Rat.num_divInt, Int.natAbs_ediv_of_dvd, Int.natAbs_mul]
  · rcases Int.lt_trichotomy b 0 with h | h | h
    · rw [Int.sign_eq_neg_one_of_neg h]; simp; exact Nat.div_le_self _ _
    · subst h; simp
    · rw [Int.sign_eq_one_of_pos h]; simp; exact Nat.div_le_self _ _
  · exact Int.dvd_mul_of_dvd_right (Int.gcd_dvd_right ..)
theorem den_le (t b : Int) (hb : b ≠ 0) : ((t : Rat) / (b : Rat)).den ≤ b.natAbs := by
  rw [← Rat.divInt_eq_div, Rat.den_divInt, if_neg hb]
  exact Nat.div_le_self _ _
theorem r_self (p : Rat) : ((p.num : Int) : Rat) / (((p.den : Nat) : Int) : Rat) = p := by
  rw [← Rat.divInt_eq_div, Rat.num_divInt_den]
theorem r_add (p q : Rat) : ((p.num * q.den + q.num * p.den : Int) : Rat) / ((p.den * q.den : Int) : Rat) = p + q := by
  rw [← Rat.divInt_eq_div, Rat.add_def', ← Rat.divInt_ofNat]; simp
theorem r_sub (p q : Rat) : ((p.num * q.den - q.num * p.den : Int) : Rat) / ((p.den * q.den : Int) : Rat) = p - q := by
  rw [← Rat.divInt_eq_div, Rat.sub_def', ← Rat.divInt_ofNat]; simp
theorem r_mul (p q : Rat) : ((p.num * q.num : Int) : Rat) / ((p.den * q.den : Int) : Rat) = p * q := by
  rw [← Rat.divInt_eq_div, Rat.mul_def', ← Rat.divInt_ofNat]; simp
theorem r_neg (p : Rat) : ((-p.num : Int) : Rat) / (((p.den : Nat) : Int) : Rat) = -p := by
  rw [← Rat.divInt_eq_div, ← Rat.neg_divInt, Rat.num_divInt_den]
theorem ci {b : Int} (hb : b ≠ 0) : (b : Rat) ≠ 0 := by simpa using hb
theorem num_ne {q : Rat} (h : q ≠ 0) : q.num ≠ 0 := by simpa using h
theorem r_div (p q : Rat) (h : q.num ≠ 0) : ((p.num * q.den : Int) : Rat) / ((p.den * q.num : Int) : Rat) = p / q := by
  have hq : (q.num : Rat) ≠ 0 := ci h
  have d1 : ((p.den : Int) : Rat) ≠ 0 := ci (by have := p.den_nz; omega)
  have d2 : ((q.den : Int) : Rat) ≠ 0 := ci (by have := q.den_nz; omega)
  have e1 := r_self p
  have e2 := r_self q
  have : p / q = (((p.num : Int) : Rat) / (((p.den : Nat) : Int) : Rat)) / (((q.num : Int) : Rat) / (((q.den : Nat) : Int) : Rat)) := by rw [e1, e2]
  rw [this, Rat.intCast_mul, Rat.intCast_mul]
  grind
/-! fractions of ints -/
theorem f_add (a b c d : Int) (hb : b ≠ 0) (hd : d ≠ 0) : ((a * d + c * b : Int) : Rat) / ((b * d : Int) : Rat) = (a : Rat) / b + (c : Rat) / d := by
  have := ci hb
  have := ci hd
  rw [Rat.intCast_add, Rat.intCast_mul, Rat.intCast_mul, Rat.intCast_mul]
  grind
theorem f_sub (a b c d : Int) (hb : b ≠ 0) (hd : d ≠ 0) : ((a * d - c * b : Int) : Rat) / ((b * d : Int) : Rat) = (a : Rat) / b - (c : Rat) / d := by
  have := ci hb
  have := ci hd
  rw [Rat.intCast_sub, Rat.intCast_mul, Rat.intCast_mul, Rat.intCast_mul]
  grind
theorem f_mul (a b c d : Int) (hb : b ≠ 0) (hd : d ≠ 0) : ((a * c : Int) : Rat) / ((b * d : Int) : Rat) = (a : Rat) / b * ((c : Rat) / d) := by
  have := ci hb
  have := ci hd
  rw [Rat.intCast_mul, Rat.intCast_mul]
  grind
theorem f_neg (a b : Int) (hb : b ≠ 0) : ((-a : Int) : Rat) / (b : Rat) = -((a : Rat) / b) := by
  have := ci hb
  rw [Rat.intCast_neg]
  grind
theorem f_div (a b c d : Int) (hb : b ≠ 0) (hc : c ≠ 0) (hd : d ≠ 0) : ((a * d : Int) : Rat) / ((b * c : Int) : Rat) = (a : Rat) / b / ((c : Rat) / d) := by
  have := ci hb
  have := ci hc
  have := ci hd
  rw [Rat.intCast_mul, Rat.intCast_mul]
  grind
theorem f_neg3 (a b : Int) (hb : b ≠ 0) : ((-3 * a : Int) : Rat) / ((-3 * b : Int) : Rat) = (a : Rat) / b := by
  have := ci hb
  rw [Rat.intCast_mul, Rat.intCast_mul]
  grind
theorem f_zero (a b : Int) (hb : b ≠ 0) : ((a : Rat) / b = 0) ↔ a = 0 := by
  have := ci hb
  constructor
  · intro h
    have : (a : Rat) = 0 := by grind
    simpa using this
  · rintro rfl
    rw [Rat.div_def]
    simp
theorem num_zero (q : Rat) : q.num = 0 ↔ q = 0 := by simp
theorem f_eq (a b c d : Int) (hb : b ≠ 0) (hd : d ≠ 0) : ((a : Rat) / b = (c : Rat) / d) ↔ a * d = c * b := by
  have := ci hb
  have := ci hd
  constructor
  · intro h
    have : (a : Rat) * d = (c : Rat) * b := by grind
    rw [← Rat.intCast_mul, ← Rat.intCast_mul] at this
    exact Rat.intCast_inj.mp this
  · intro h
    have : (a : Rat) * d = (c : Rat) * b := by rw [← Rat.intCast_mul, ← Rat.intCast_mul, h]
    grind
theorem f_lt (a b c d : Int) (hb : b ≠ 0) (hd : d ≠ 0) : ((a * d - c * b) * b * d < 0) ↔ ((a : Rat) / b < (c : Rat) / d) := by
  have hb' := ci hb
  have hd' := ci hd
  have e : (((a * d - c * b) * b * d : Int) : Rat) = ((a : Rat) / b - (c : Rat) / d) * ((b : Rat) * d) * ((b : Rat) * d) := by
    rw [Rat.intCast_mul, Rat.intCast_mul, Rat.intCast_sub, Rat.intCast_mul, Rat.intCast_mul]
    grind
  have sq : 0 < ((b : Rat) * d) * ((b : Rat) * d) := by
    have h0 : (b : Rat) * d ≠ 0 := by grind
    have tri : (b : Rat) * d < 0 ∨ 0 < (b : Rat) * d := by grind
    rcases tri with h | h
    · have := Rat.mul_pos (Rat.neg_lt_neg h) (Rat.neg_lt_neg h)
      grind
    · exact Rat.mul_pos h h
  rw [← Rat.intCast_neg_iff, e, Rat.mul_assoc, Rat.mul_neg_iff_of_pos_right sq]
  constructor <;> intro h <;> grind
theorem lt_nd (p q : Rat) : (p.num * q.den < q.num * p.den) ↔ p < q := (Rat.lt_iff p q).symm
theorem eq_nd (p q : Rat) : (p.num = q.num ∧ (p.den : Int) = (q.den : Int)) ↔ p = q := by
  constructor
  · rintro ⟨h1, h2⟩
    exact Rat.ext h1 (by omega)
  · rintro rfl
    exact ⟨rfl, rfl⟩
/-! sizes -/
/-- both terms below 2 ^ n -/
structure Bd (n : Nat) (q : Rat) : Prop where
  num : q.num.natAbs < 2 ^ n
  den : q.den < 2 ^ n
def Sz (n : Nat) (i : Int) : Prop := i.natAbs < 2 ^ n
theorem sz0 {n : Nat} : Sz n 0 := Nat.two_pow_pos n
theorem sz1 {n : Nat} (h : n ≠ 0) : Sz n 1 := Nat.one_lt_two_pow h
theorem sz_of {n : Nat} {i : Int} (h : decide (i.natAbs < 2 ^ n) = true) : Sz n i := by
  unfold Sz
  exact of_decide_eq_true h
theorem Sz.mono {n m : Nat} {i : Int} (h : Sz n i) (hm : n ≤ m) : Sz m i := Nat.lt_of_lt_of_le h (Nat.pow_le_pow_right (by decide) hm)
theorem Bd.mono {n m : Nat} {q : Rat} (h : Bd n q) (hm : n ≤ m) : Bd m q :=
  ⟨Nat.lt_of_lt_of_le h.num (Nat.pow_le_pow_right (by decide) hm), Nat.lt_of_lt_of_le h.den (Nat.pow_le_pow_right (by decide) hm)⟩
theorem Sz.mul {n m : Nat} {i j : Int} (h : Sz n i) (h' : Sz m j) : Sz (n + m) (i * j) := by
  unfold Sz at *
  rw [Int.natAbs_mul, Nat.pow_add]
  exact Nat.mul_lt_mul_of_lt_of_lt h h'
theorem Sz.add {n : Nat} {i j : Int} (h : Sz n i) (h' : Sz n j) : Sz (n + 1) (i + j) := by
  unfold Sz at *
  rw [Nat.pow_succ]
  have := Int.natAbs_add_le i j
  omega
theorem Sz.sub {n : Nat} {i j : Int} (h : Sz n i) (h' : Sz n j) : Sz (n + 1) (i - j) := by
  unfold Sz at *
  rw [Nat.pow_succ]
  have := Int.natAbs_sub_le i j
  omega
theorem Sz.neg {n : Nat} {i : Int} (h : Sz n i) : Sz n (-i) := by
  unfold Sz at *
  rw [Int.natAbs_neg]
  exact h
theorem Bd.n {n : Nat} {q : Rat} (h : Bd n q) : Sz n q.num := h.num
theorem Bd.d {n : Nat} {q : Rat} (h : Bd n q) : Sz n (q.den : Int) := by
  have := h.den
  show ((q.den : Int)).natAbs < 2 ^ n
  simpa using this
theorem Bd.of {n : Nat} {t b : Int} (h : Sz n t) (h' : Sz n b) (hb : b ≠ 0) : Bd n ((t : Rat) / (b : Rat)) :=
  ⟨Nat.lt_of_le_of_lt (num_le t b) h, Nat.lt_of_le_of_lt (den_le t b hb) h'⟩
theorem den_ne (p : Rat) : (p.den : Int) ≠ 0 := by have := p.den_nz; omega
theorem Bd.add {n : Nat} {p q : Rat} (h : Bd n p) (h' : Bd n q) : Bd (n + n + 1) (p + q) := by
  rw [← r_add]
  refine .of ((h.n.mul h'.d).add (h'.n.mul h.d)) ((h.d.mul h'.d).mono (by omega)) ?_
  exact Int.mul_ne_zero (den_ne p) (den_ne q)
theorem Bd.sub {n : Nat} {p q : Rat} (h : Bd n p) (h' : Bd n q) : Bd (n + n + 1) (p - q) := by
  rw [← r_sub]
  refine .of ((h.n.mul h'.d).sub (h'.n.mul h.d)) ((h.d.mul h'.d).mono (by omega)) ?_
  exact Int.mul_ne_zero (den_ne p) (den_ne q)
theorem Bd.mul {n : Nat} {p q : Rat} (h : Bd n p) (h' : Bd n q) : Bd (n + n + 1) (p * q) := by
  rw [← r_mul]
  refine .of ((h.n.mul h'.n).mono (by omega)) ((h.d.mul h'.d).mono (by omega)) ?_
  exact Int.mul_ne_zero (den_ne p) (den_ne q)
theorem Bd.neg {n : Nat} {p : Rat} (h : Bd n p) : Bd n (-p) := ⟨by rw [Rat.neg_num, Int.natAbs_neg]; exact h.num, by rw [Rat.neg_den]; exact h.den⟩
/-! Euclid, as the law does it -/
theorem euclid_step {f s : Int} (hf : 0 ≤ f) (hs : 0 < s) : Nat.gcd s.natAbs (f % s).natAbs = Nat.gcd f.natAbs s.natAbs := by
  have e : (f % s).natAbs = f.natAbs % s.natAbs := by
    obtain ⟨a, rfl⟩ := Int.eq_ofNat_of_zero_le hf
    obtain ⟨b, rfl⟩ := Int.eq_ofNat_of_zero_le (Int.le_of_lt hs)
    rfl
  rw [e, Nat.gcd_comm s.natAbs, ← Nat.gcd_rec, Nat.gcd_comm]
end ZR

set_option Elab.async false
set_option linter.all false
set_option maxRecDepth 100000
set_option maxHeartbeats 4000000
/-! general rules of our own -/
namespace Z
open PySem PySem.Spec PyProof.Rows L2

/-- nothing is let out -/
abbrev EN : L2.St → XK := fun _ _ _ _ => False
theorem cxN {P : Program} {w : World} {outer : List Env} {H : Hp} {s s' : Shared} {e : Value} (h : L2.CX P w outer H s (fun _ _ _ => False) e s') : False := by
  obtain ⟨_, _, _, _, _, _, _, _, _, _, _, _, z⟩ := h
  exact z
theorem passN {X : Cx} : ∀ σ, PassesAt (L2.CX X.prog X.w) X σ (EN σ) := fun σ pins H s e s' _ h => by
  obtain ⟨_, _, _, _, _, _, _, _, _, _, _, _, z⟩ := h
  exact z.elim

section
variable {X : Cx} {CX : CXT} {k : Nat} {f C g : Addr} {sp : Sp} {E : L2.St → XK} {x m : Str} {p pos apos : Pos} {e o : Expr} {es : List Expr} {ta te : TE} {t : TA}

theorem runR {pins : List (Addr × Obj)} {σ : L2.St} {H : Hp} {s : Shared} {Q : VK} {us : List Value} {vs : List V}
    (F : FnR X.prog X.w X.K X.mg X.base CX k f sp) (hr : Room k X.A) (hx : ∀ σ, PassesAt CX X σ (E σ)) (I : Inv X pins σ H s)
    (r : Vals vs us) (h : sp vs H Q (E σ)) : wpAny (model X.prog X.w) X.A (call (.ref f) us) (EP X pins σ Q) X.xe s := by
  refine wpAny_call (codeAny_mono (F X.A X.stack s H us vs Q (E σ) hr I.env0 r h) fun q s' hq => ?_)
  rcases q with e | fl
  · exact hx σ pins H s e s' I hq
  · rcases fl with _ | _ | _ | u
    · exact False.elim hq
    · exact False.elim hq
    · exact False.elim hq
    · exact I.after hq

/-- f(e, ..) -/
theorem z_call (F : FnR X.prog X.w X.K X.mg X.base CX k f sp) (hr : Room k X.A) (hm : X.mg x = some (.ref f)) (hk : PySem.W.keepIn X.K (.ref f) = true)
    (hx : ∀ σ, PassesAt CX X σ (E σ)) (ha : PA X (e :: es) t) (hg : Gl X x := by rfl) (hdb : (x == ("__debug__" : Str)) = false := by decide)
    (he : starEach (e :: es) X.env = (false, eval e X.env) :: starEach es X.env := by rfl)
    (hpl : (backTo pos (starEach es X.env)).any (·.1) = false := by rfl) : PE X (.Call (.Name x p) (e :: es) [] pos) (tCallS sp E t) := by
  constructor
  intro pins s σ H Q I h
  apply wpAny_Call_Name_kw
  apply ld_glob I hg hm _ hdb
  apply PySem.W.callWith_K (h₀ := X.base) I.ok.mod.kin hk _ he hpl
  refine thn (ha.run pos pins s σ H _ I h) fun us s1 hh => ?_
  obtain ⟨vs, H1, I1, r, q⟩ := hh
  exact ⟨I1.kIn, runR F hr hx I1 r q⟩
theorem z_call0 (F : FnR X.prog X.w X.K X.mg X.base CX k f sp) (hr : Room k X.A) (hm : X.mg x = some (.ref f)) (hk : PySem.W.keepIn X.K (.ref f) = true)
    (hx : ∀ σ, PassesAt CX X σ (E σ)) (hg : Gl X x := by rfl) (hdb : (x == ("__debug__" : Str)) = false := by decide) :
    PE X (.Call (.Name x p) [] [] pos) (tCallS sp E tNil) := by
  constructor
  intro pins s σ H Q I h
  apply wpAny_Call_Name_kw
  apply ld_glob I hg hm _ hdb
  exact PySem.W.callWith_K0 I.kIn hk (runR (us := []) F hr hx I .nil h)

/-- o.m(e, ..) -/
def tMethS (C : Addr) (m : Str) (sp : Sp) (E : L2.St → XK) (ta : TE) (t : TA) : TE := fun σ H Q => ta σ H fun x H1 =>
  ∃ a dx fs, x = .ref a ∧ H1 a = some (.ins C dx fs) ∧ fs.lookup m = none ∧ t σ H1 fun vs H2 => sp (x :: vs) H2 Q (E σ)
theorem z_meth {pl : Sem Bool} (he : PE X o ta) (c : Cls X.K C) (hm : Meth X.K C m f) (F : FnR X.prog X.w X.K X.mg X.base CX k f sp) (hr : Room k X.A)
    (hx : ∀ σ, PassesAt CX X σ (E σ)) (ha : PA X (e :: es) t)
    (hst : starEach (e :: es) X.env = (false, eval e X.env) :: starEach es X.env := by rfl)
    (hpl : (backTo pos (starEach es X.env)).any (·.1) = false := by rfl)
    (ht : eval (.Call (.Attribute o m apos) (e :: es) [] pos) X.env = (do
      let ov ← eval o X.env
      standAt apos.atName
      let (f, first) ← holding [ov] (getMethod ov m pl)
      callWith pos f first (backTo pos (starEach (e :: es) X.env)) (backToKw pos (keywordEach [] X.env))) := by rfl) :
    PE X (.Call (.Attribute o m apos) (e :: es) [] pos) (tMethS C m sp E ta t) := by
  constructor
  intro pins s σ H Q I h
  refine PySem.W.methodCall_KW (pl := pl) (thn (he.run pins s σ H _ I h) fun u s1 hh => ?_) ht
  obtain ⟨x, H1, I1, rx, a, dx, fs, ex, ea, l, q⟩ := hh
  subst ex
  obtain rfl : u = Value.ref a := rx
  apply getmeth_ok I1 ea c hm l
  apply PySem.W.callWith_K (first := [.ref a]) (h₀ := X.base) I.ok.mod.kin hm.kp _ hst hpl
  refine thn (ha.run pos pins s1 σ H1 _ I1 q) fun us s2 hh => ?_
  obtain ⟨vs, H2, I2, r, q2⟩ := hh
  exact ⟨I2.kIn, runR (us := .ref a :: us) (vs := .ref a :: vs) F hr hx I2 (.cons rfl r) q2⟩
theorem z_meth0 {pl : Sem Bool} (he : PE X o ta) (c : Cls X.K C) (hm : Meth X.K C m f) (F : FnR X.prog X.w X.K X.mg X.base CX k f sp) (hr : Room k X.A)
    (hx : ∀ σ, PassesAt CX X σ (E σ))
    (ht : eval (.Call (.Attribute o m apos) [] [] pos) X.env = (do
      let ov ← eval o X.env
      standAt apos.atName
      let (f, first) ← holding [ov] (getMethod ov m pl)
      callWith pos f first (backTo pos (starEach [] X.env)) (backToKw pos (keywordEach [] X.env))) := by rfl) :
    PE X (.Call (.Attribute o m apos) [] [] pos) (tMethS C m sp E ta tNil) := by
  constructor
  intro pins s σ H Q I h
  refine PySem.W.methodCall_KW (pl := pl) (thn (he.run pins s σ H _ I h) fun u s1 hh => ?_) ht
  obtain ⟨x, H1, I1, rx, a, dx, fs, ex, ea, l, q⟩ := hh
  subst ex
  obtain rfl : u = Value.ref a := rx
  apply getmeth_ok I1 ea c hm l
  exact PySem.W.callWith_K0 (first := [.ref a]) I1.kIn hm.kp (runR (us := [.ref a]) (vs := [.ref a]) F hr hx I1 (.cons rfl .nil) q)

/-- C(e, ..) -/
def tMakeS (C : Addr) (sp : Sp) (E : L2.St → XK) (t : TA) : TE := fun σ H Q => t σ H fun vs H1 => ∀ x dx, H1 x = Option.none → H1 dx = Option.none → dx ≠ x →
  sp (V.ref x :: vs) (upd (upd H1 dx (.own x)) x (.ins C dx [])) (fun v H2 => v = .non ∧ Q (.ref x) H2)
    (fun cls d H2 => E σ cls d H2)
theorem runMake {pins : List (Addr × Obj)} {σ : L2.St} {H : Hp} {s : Shared} {Q : VK} {us : List Value} {vs : List V} (M : Mk X.K C f)
    (F : FnR X.prog X.w X.K X.mg X.base CX k f sp) (hr : Room (k + 1) X.A) (hx : ∀ σ, PassesAt CX X σ (E σ)) (I : Inv X pins σ H s) (r : Vals vs us)
    (h : ∀ x dx, H x = Option.none → H dx = Option.none → dx ≠ x →
      sp (V.ref x :: vs) (upd (upd H dx (.own x)) x (.ins C dx [])) (fun v H2 => v = .non ∧ Q (.ref x) H2) (E σ)) :
    wpAny (model X.prog X.w) X.A (call (.ref C) us) (EP X pins σ Q) X.xe s := by
  have hq := h (s.heap.objs.size + 1) s.heap.objs.size (I.hok.fresh (Nat.le_succ _)) (I.hok.fresh (Nat.le_refl _)) (Nat.ne_of_lt (Nat.lt_succ_self _))
  have I2 := Inv.made (C := C) I
  have r2 : Vals (V.ref (s.heap.objs.size + 1) :: vs) (Value.ref (s.heap.objs.size + 1) :: us) := .cons rfl r
  refine wpAny_call (make_map (f := f) I.kIn M.makes M.init (beq_iff_eq.mp M.fn) (codeAny_mono (F _ X.stack _ _ _ _ _ (E σ)
    (hr.make C us []) (I2.env0.make C us []) r2 hq) fun q s' hq' => ?_))
  rcases q with e | fl
  · exact hx σ pins _ _ e s' I2 hq'
  · rcases fl with _ | _ | _ | u
    · exact False.elim hq'
    · exact False.elim hq'
    · exact False.elim hq'
    · obtain ⟨v, H', I3, rv, ev, q3⟩ := I2.after hq'
      subst ev
      exact ⟨rv, ⟨V.ref (s.heap.objs.size + 1), H', I3, rfl, q3⟩⟩
theorem z_make (M : Mk X.K C f) (F : FnR X.prog X.w X.K X.mg X.base CX k f sp) (hr : Room (k + 1) X.A) (hm : X.mg x = some (.ref C))
    (hx : ∀ σ, PassesAt CX X σ (E σ)) (ha : PA X (e :: es) t) (hg : Gl X x := by rfl) (hdb : (x == ("__debug__" : Str)) = false := by decide)
    (he : starEach (e :: es) X.env = (false, eval e X.env) :: starEach es X.env := by rfl)
    (hpl : (backTo pos (starEach es X.env)).any (·.1) = false := by rfl) : PE X (.Call (.Name x p) (e :: es) [] pos) (tMakeS C sp E t) := by
  constructor
  intro pins s σ H Q I h
  apply wpAny_Call_Name_kw
  apply ld_glob I hg hm _ hdb
  apply PySem.W.callWith_K (h₀ := X.base) I.ok.mod.kin M.kp _ he hpl
  refine thn (ha.run pos pins s σ H _ I h) fun us s1 hh => ?_
  obtain ⟨vs, H1, I1, r, q⟩ := hh
  exact ⟨I1.kIn, runMake M F hr hx I1 r q⟩
end
end Z

set_option Elab.async false
set_option linter.all false
set_option maxRecDepth 100000
set_option maxHeartbeats 4000000
namespace Z
open PySem PySem.Spec PyProof.Rows L2

/-- a special method of an own class -/
structure Spc (K : PySem.W.Frag) (C : Addr) (n : Str) (f : Addr) : Prop where
  at_ : PySem.W.findIn K (.ref C) n = some (some (.ref f))
  fn : PySem.W.isFn K (.ref f) = true

section
variable {X : Cx} {k : Nat} {f C g : Addr} {sp : Sp}

theorem instAt {pins : List (Addr × Obj)} {σ : L2.St} {H : Hp} {s : Shared} {a dx : Addr} {fs : List (Str × V)} (I : Inv X pins σ H s)
    (e : H a = some (.ins C dx fs)) : ∃ ox od, PySem.W.InstAt s.heap a ox C od := by
  obtain ⟨mA, O, _⟩ := ins_get I.hok e
  obtain ⟨od, J, _⟩ := O.look
  exact ⟨_, _, J⟩
theorem cmpBack {A : Around} {E : Value → Shared → Prop} {pins : List (Addr × Obj)} {σ : L2.St} {Q : VK} {f : Addr} {us : List Value} {s : Shared}
    (h : wpAny (model X.prog X.w) A (call (.ref f) us) (EP X pins σ Q) E s) :
    wpAny (model X.prog X.w) A (call (.ref f) us) (PySem.W.CmpBack (EP X pins σ Q)) E s := by
  refine wpAny_mono h (fun v s' hv => ?_) fun _ _ z => z
  have hne : v ≠ .notImplemented := by
    rintro rfl
    obtain ⟨x, H', _, r, _⟩ := hv
    cases x
    case int => obtain ⟨t, q⟩ := r; cases q
    case str => obtain ⟨t, q⟩ := r; cases q
    case byt => obtain ⟨t, q⟩ := r; cases q
    case flt => obtain ⟨t, q⟩ := r; cases q
    all_goals cases r
  cases v
  case notImplemented => exact absurd rfl hne
  all_goals exact hv

/-- a op b, both instances of the class at C that has the operator's def -/
def rOwn (C : Addr) (sp : Sp) : R2 := fun x y H Q => ∃ a b dx dy fs gs, x = .ref a ∧ y = .ref b ∧ H a = some (.ins C dx fs) ∧ H b = some (.ins C dy gs) ∧
  sp [x, y] H Q (fun _ _ _ => False)
theorem op_own {op : Operator} (F : FnR X.prog X.w X.K X.mg X.base (L2.CX X.prog X.w) k f sp) (hr : Room k X.A)
    (hf : PySem.W.selfFirst X.K C = true) (S : Spc X.K C (PySem.dunder op.info.2) f) : OpR X (binaryOp op) (rOwn C sp) := by
  intro pins s σ H x y v u Q I rx ry h
  obtain ⟨a, b, dx, dy, fs, gs, rfl, rfl, ea, eb, h⟩ := h
  obtain rfl : v = Value.ref a := rx
  obtain rfl : u = Value.ref b := ry
  obtain ⟨ox, od, Ja⟩ := instAt I ea
  obtain ⟨oy, oe, Jb⟩ := instAt I eb
  obtain ⟨m, fr⟩ := I.fr
  apply PySem.W.binop_K fr I.ok.mod.kin Ja Jb.type hf S.at_ S.fn
  exact cmpBack (runR (us := [.ref a, .ref b]) (vs := [.ref a, .ref b]) (E := EN) F hr passN I (.cons rfl (.cons rfl .nil)) h)
/-- -a -/
def rOwn1 (C : Addr) (sp : Sp) : V → Hp → VK → Prop := fun x H Q => ∃ a dx fs, x = .ref a ∧ H a = some (.ins C dx fs) ∧ sp [x] H Q (fun _ _ _ => False)
theorem un_own (F : FnR X.prog X.w X.K X.mg X.base (L2.CX X.prog X.w) k f sp) (hr : Room k X.A) (S : Spc X.K C "__neg__" f) :
    UnR X (unaryOp .USub) (rOwn1 C sp) := by
  intro pins s σ H x v Q I rx h
  obtain ⟨a, dx, fs, rfl, ea, h⟩ := h
  obtain rfl : v = Value.ref a := rx
  obtain ⟨ox, od, Ja⟩ := instAt I ea
  obtain ⟨m, fr⟩ := I.fr
  apply PySem.W.ksp_neg fr I.ok.mod.kin Ja S.at_ S.fn
  exact runR (us := [.ref a]) (vs := [.ref a]) (E := EN) F hr passN I (.cons rfl .nil) h

/-! ### == and != by an own __eq__ -/
/-- the class of a value, as the other side of == -/
inductive Side (K : PySem.W.Frag) (C : Addr) (H : Hp) : V → Value → Prop where
  | ins {b dy : Addr} {gs : List (Str × V)} (e : H b = some (.ins C dy gs)) : Side K C H (.ref b) (.ref C)
  | lst {b : Addr} {xs : List V} (e : H b = some (.lst xs)) : Side K C H (.ref b) (.type "list")
  | int (i : Int) : Side K C H (.int i) (.type "int")
  | str (z : Str) : Side K C H (.str z) (.type "str")
theorem Side.look {K : PySem.W.Frag} {pins : List (Addr × Obj)} {σ : L2.St} {H : Hp} {s : Shared} {y : V} {u t : Value} (S : Side X.K C H y t) (I : Inv X pins σ H s) (r : RelV y u) :
    PySem.W.Looks (model X.prog X.w) s.heap (typeOf u) t := by
  cases S with
  | @ins b dy gs e =>
    obtain rfl : u = Value.ref b := r
    obtain ⟨ox, od, J⟩ := instAt I e
    exact J.type
  | @lst b xs e =>
    obtain rfl : u = Value.ref b := r
    obtain ⟨_, its, n, _, h1⟩ := (show ObjOk X.prog X.w H s.heap b (.lst xs) from I.hok b _ e)
    intro A Q E s' k q
    exact wpAny_typeOf_ref (k _ _ h1) q
  | int i =>
    obtain ⟨t, rfl⟩ := r
    exact PySem.W.Looks.of_pure rfl
  | str z =>
    obtain ⟨t, rfl⟩ := r
    exact PySem.W.Looks.of_pure rfl

def rOwnC (K : PySem.W.Frag) (C : Addr) (sp : Sp) : R2 := fun x y H Q => ∃ a dx fs t, x = .ref a ∧ H a = some (.ins C dx fs) ∧ Side K C H y t ∧ PySem.W.notFirst K C t = true ∧
  sp [x, y] H Q (fun _ _ _ => False)
theorem op_eqOwn (F : FnR X.prog X.w X.K X.mg X.base (L2.CX X.prog X.w) k f sp) (hr : Room k X.A) (S : Spc X.K C "__eq__" f) :
    OpR X (compareOp .Eq) (rOwnC X.K C sp) := by
  intro pins s σ H x y v u Q I rx ry h
  obtain ⟨a, dx, fs, t, rfl, ea, sd, hn, h⟩ := h
  obtain rfl : v = Value.ref a := rx
  obtain ⟨ox, od, Ja⟩ := instAt I ea
  obtain ⟨m, fr⟩ := I.fr
  have hu := hr.units0
  apply PySem.W.cmp_K (op := .Eq) hu fr I.ok.mod.kin Ja (sd.look (K := X.K) I ry) hn S.at_ S.fn
  exact cmpBack (runR (us := [.ref a, u]) (vs := [.ref a, y]) (E := EN) F hr passN I (.cons rfl (.cons ry .nil)) h)

/-- what the class says of != : it is left to object -/
structure NeC (K : PySem.W.Frag) (C : Addr) : Prop where
  at_ : PySem.W.findIn K (.ref C) "__ne__" = some (some (.builtin "object.__ne__"))
  ob : PySem.W.subIn K (.ref C) (.type "object") = some true
theorem objNe {A : Around} {E : Value → Shared → Prop} {s : Shared} {K : PySem.W.Frag} {a : Addr} {ox : Obj} {od : Option Obj} {b : Value} {Q : Fin → Shared → Prop} {prog : Program} {w : World}
    (hk : K.In s.heap) (J : PySem.W.InstAt s.heap a ox C od) (S : Spc K C "__eq__" f) (hu : A.units < cLine)
    (h : wpAny (model prog w) A (call (.ref f) [.ref a, b]) (fun v s' => ∃ r, v = .bool r ∧ Q (.done (.ret (.bool (!r)))) s') E s) :
    wpAny (model prog w) A (Builtin.«object.__ne__» ⟨[.ref a, b], []⟩) Q E s := by
  have one : wpAny (model prog w) A (callSpecialIfBound? (.ref a) (Str.ofString "__eq__") [b]) (fun o s' => ∃ r, o = some (.bool r) ∧ Q (.done (.ret (.bool (!r)))) s') E s := by
    refine PySem.W.ifBound_K hk J S.at_ S.fn (wpAny_mono h (fun v s' hv => ?_) fun _ _ z => z)
    obtain ⟨r, rfl, q⟩ := hv
    exact ⟨r, rfl, q⟩
  unfold Builtin.«object.__ne__»
  repeat (first
    | with_reducible refine wpAny_cRoomFor hu ?_
    | (refine wpAny_bind (m := callSpecialIfBound? (.ref a) (Str.ofString "__eq__") [b]) (wpAny_mono one (fun o s' hv => by
          obtain ⟨r, rfl, q⟩ := hv
          repeat (first | exact q | exact wpAny_pure q | exact wpAny_truthy_bool q | (refine wpAny_bind (m := truthy (.bool _)) (wpAny_truthy_bool ?_)) | wp_step)) fun _ _ z => z))
    | wp_step)
theorem neTry {A : Around} {E : Value → Shared → Prop} {s : Shared} {K : PySem.W.Frag} {a : Addr} {ox : Obj} {od : Option Obj} {b : Value} {Q : Value → Shared → Prop} {prog : Program} {w : World}
    (hk : K.In s.heap) (J : PySem.W.InstAt s.heap a ox C od) (S : Spc K C "__eq__" f) (N : NeC K C) (hu : A.in1.units < cLine)
    (h : wpAny (model prog w) A.in1 (call (.ref f) [.ref a, b]) (fun v s' => ∃ r, v = .bool r ∧ Q (.bool (!r)) s') E s) :
    wpAny (model prog w) A (tryCompare (.ref a) "__ne__" b) (fun o s' => ∃ v, o = some v ∧ Q v s') E s := by
  have sub : PySem.W.Looks (model prog w) s.heap (isInstance (.ref a) (.type "object")) true := J.type.andThen (PySem.W.looks_subIn hk N.ob)
  have body : wpAny (model prog w) A (call (.builtin "object.__ne__") [.ref a, b]) (fun v s' => ∃ r, v = .bool r ∧ Q (.bool r) s') E s := by
    refine wpAny_call (codeAny_call_builtin PySem.F.cmp_object.ne.plain PySem.F.cmpEntry_ne (PySem.W.check_slot PySem.F.cmpKind_ne PySem.F.cmpSplit_ne sub (PySem.F.cmpArgs_ne _ _) ?_))
    refine objNe (A := A.in1) hk J S hu (wpAny_mono h (fun v s' hv => ?_) fun _ _ z => z)
    obtain ⟨r, rfl, q⟩ := hv
    exact ⟨r, rfl, ⟨!r, rfl, q⟩⟩
  unfold tryCompare callSpecialIfBound? bindSpecialIfBound?
  have fin : wpAny (model prog w) A (call (.builtin "object.__ne__") ([.ref a] ++ [b]) >>= fun v => pure (some v)) (fun o s' => ∃ v, o = some v ∧ v ≠ .notImplemented ∧ Q v s') E s := by
    refine wpAny_bind (wpAny_mono body (fun v s' hv => ?_) fun _ _ z => z)
    obtain ⟨r, rfl, q⟩ := hv
    exact wpAny_pure ⟨_, rfl, (fun z => nomatch z), q⟩
  have fin2 : wpAny (model prog w) A (callSpecialIfBound? (.ref a) "__ne__" [b]) (fun o s' => ∃ v, o = some v ∧ v ≠ .notImplemented ∧ Q v s') E s := by
    simp only [callSpecialIfBound?, bindSpecialIfBound?]
    refine wpAny_holding (wpAny_bind (wpAny_bind (wpAny_bind (J.type.here ((PySem.W.looks_findIn hk N.at_).here ?_)))))
    simp only [PySem.F.cmp_object.ne.bind]
    refine wpAny_bind (wpAny_askSetting (wpAny_ite ?_))
    split
    · exact wpAny_bind (wpAny_pure (wpAny_pure fin))
    · exact wpAny_tryCatch (wpAny_bind (wpAny_pure (wpAny_pure fin)))
  show wpAny _ _ (tryCompare _ _ _) _ _ _
  unfold tryCompare
  refine wpAny_bind (wpAny_mono fin2 (fun o s' hv => ?_) fun _ _ z => z)
  obtain ⟨v, rfl, hne, q⟩ := hv
  cases v
  case notImplemented => exact absurd rfl hne
  all_goals exact wpAny_pure ⟨_, rfl, q⟩
theorem richNe {A : Around} {E : Value → Shared → Prop} {s : Shared} {K : PySem.W.Frag} {a : Addr} {ox : Obj} {od : Option Obj} {b t : Value} {Q : Value → Shared → Prop} {prog : Program} {w : World}
    (hk : K.In s.heap) (J : PySem.W.InstAt s.heap a ox C od) (S : Spc K C "__eq__" f) (N : NeC K C) (hu : A.units < cLine) (hu1 : A.in1.units < cLine)
    (lt : PySem.W.Looks (model prog w) s.heap (typeOf b) t) (hn : PySem.W.notFirst K C t = true)
    (h : wpAny (model prog w) A.in1 (call (.ref f) [.ref a, b]) (fun v s' => ∃ r, v = .bool r ∧ Q (.bool (!r)) s') E s) :
    wpAny (model prog w) A (richCompare .NotEq (.ref a) b) Q E s := by
  have one := neTry hk J S N hu1 h
  unfold richCompare
  simp only [oneThing_ref]
  refine wpAny_holding (wpAny_bind (wpAny_cRoomFor hu ?_))
  rw [cmpInfo_NotEq]
  dsimp only
  refine wpAny_bind (J.type.here (wpAny_bind (lt.here ?_)))
  split
  · rename_i q
    have e : PySem.W.subIn K t (.ref C) = some false := by
      rcases Bool.or_eq_true_iff.mp hn with e | e
      · rw [beq_iff_eq.mp e] at q
        simp at q
      · exact beq_iff_eq.mp e
    refine wpAny_bind ((PySem.W.looks_subIn hk e).here ?_)
    simp only [Bool.false_eq_true, if_false]
    refine wpAny_bind (wpAny_mono one (fun o s' z => ?_) fun _ _ z => z)
    obtain ⟨v, rfl, q⟩ := z
    exact wpAny_pure q
  · refine wpAny_bind (wpAny_pure ?_)
    simp only [Bool.false_eq_true, if_false]
    refine wpAny_bind (wpAny_mono one (fun o s' z => ?_) fun _ _ z => z)
    obtain ⟨v, rfl, q⟩ := z
    exact wpAny_pure q
/-- what the own == hands back is a bool: Q of the other one -/
theorem op_neOwn (F : FnR X.prog X.w X.K X.mg X.base (L2.CX X.prog X.w) k f sp) (hr : Room (k + 1) X.A) (S : Spc X.K C "__eq__" f) (N : NeC X.K C) :
    OpR X (compareOp .NotEq) (fun x y H Q => ∃ a dx fs t, x = .ref a ∧ H a = some (.ins C dx fs) ∧ Side X.K C H y t ∧ PySem.W.notFirst X.K C t = true ∧
      sp [x, y] H (fun v H' => ∃ r, v = .bl r ∧ Q (.bl (!r)) H') (fun _ _ _ => False)) := by
  intro pins s σ H x y v u Q I rx ry h
  obtain ⟨a, dx, fs, t, rfl, ea, sd, hn, h⟩ := h
  obtain rfl : v = Value.ref a := rx
  obtain ⟨ox, od, Ja⟩ := instAt I ea
  have hr1 : Room k X.A.in1 := hr.in1
  apply richNe (t := t) I.kIn Ja S N hr.units0 hr1.units0 (sd.look (K := X.K) I ry) hn
  refine wpAny_call (codeAny_mono (F X.A.in1 X.stack s H [.ref a, u] [.ref a, y] _ (fun _ _ _ => False) hr1 I.env0.in1 (.cons rfl (.cons ry .nil)) h) fun q s' hq => ?_)
  rcases q with e | fl
  · exact (cxN hq).elim
  · rcases fl with _ | _ | _ | u'
    · exact False.elim hq
    · exact False.elim hq
    · exact False.elim hq
    · obtain ⟨v', H', J', rv, r, ev, q⟩ := I.after hq
      subst ev
      obtain rfl : u' = Value.bool r := rv
      exact ⟨r, rfl, ⟨.bl (!r), H', J', rfl, q⟩⟩
end
end Z

set_option Elab.async false
set_option linter.all false
set_option maxRecDepth 100000
set_option maxHeartbeats 4000000
namespace Z
open PySem PySem.Spec PyProof.Rows L2
section
variable {prog : Program} {w : World} {A : Around} {E : Value → Shared → Prop} {s : Shared}
/-- bool(x), by the truth of x -/
theorem newBool {x : Value} {R : Result → Shared → Prop} (h : wpAny (model prog w) A.in1 (truthy x) (fun b s' => R (.ok (.ret (.bool b))) s') (fun e s' => R (.error e) s') s) :
    wpAny (model prog w) A.in1 (Builtin.«bool.__new__» ⟨[.type "bool", x], []⟩)
      (fun fin s' => match fin with | .done f => R (.ok f) s' | .again c' => c'.quiet = true ∧ codeAny (model prog w) A c' R s') (fun e s' => R (.error e) s') s := by
  have f1 := F.conv_sub_bool
  obtain ⟨hp, g, d, tk, os⟩ := s
  unfold Builtin.«bool.__new__»
  repeat (any_goals (first | assumption | (refine wpAny_bind (m := truthy x) (wpAny_mono h (fun b s' q => ?_) fun _ _ z => z)) | wp_step))
  all_goals first | exact q | exact ⟨_, rfl, q⟩ | skip
theorem callBool {x : Value} {Q : Value → Shared → Prop} (h : wpAny (model prog w) A.in1.in1 (truthy x) (fun b s' => Q (.bool b) s') E s) :
    wpAny (model prog w) A (call (.type "bool") [x]) Q E s := by
  have ft := F.called_bool
  obtain ⟨c, tl, hmro⟩ := ft.mro
  have hmade := ft.made
  have hsub := ft.sub
  have h1 := ft.notType
  have h2 := ft.canCreate
  have hct := F.typeCall_bool_1 x
  apply wpAny_call
  apply codeAny_of_tree
  show wpAny _ _ (callAny (.type "bool") _) _ _ _
  have quiet := Code.quiet_builtin (id := "type.__call__") ⟨[.type "bool", x], []⟩ (by decide +kernel)
  refine wpAny_pure ⟨quiet, ?_⟩
  apply codeAny_builtin F.entry_type_call
  rw [Around.under_plain (weight_type_call_type "bool" [x] []) (units_type_call_type "bool" [x] [])]
  repeat (any_goals (first | assumption | wp_step))
  have body := newBool (A := A.in1) (R := wants (fun o s₁ => s₁.TypeIs o "bool" ∧ Q o s₁) E) (wpAny_mono h (fun b s' q => ⟨rfl, q⟩) fun _ _ z => z)
  refine codeAny_mono (codeAny_call_builtin ft.plain F.entry_bool_new (wpAny_of_eq (F.newCall_bool_1 x) body)) fun r s₁ hr => ?_
  rcases r with e | fl
  · exact hr
  rcases fl with _ | _ | _ | obj
  · exact False.elim hr
  · exact False.elim hr
  · exact False.elim hr
  obtain ⟨hT, hq⟩ := hr
  have hli := ft.init.lookup
  have hbi := ft.init.bind obj
  repeat (any_goals (first | assumption | wp_step))
  have last := object_init_meets (self := obj) (rest := [x]) hli hmade F.newNe_bool prog w A.in1 (wants (fun r s₂ => r = .none ∧ Q obj s₂) E) s₁ ⟨hT, rfl, hq⟩
  refine codeAny_mono (codeAny_call_builtin ft.init.plain F.entry_object_init (ft.init.check _ _ _ _ _ _ _ _ hT (F.args_object_init_2 obj x) last)) fun r₂ s₂ hr₂ => ?_
  rcases r₂ with e | fl
  · exact hr₂
  rcases fl with _ | _ | _ | r
  · exact False.elim hr₂
  · exact False.elim hr₂
  · exact False.elim hr₂
  obtain ⟨rfl, hq⟩ := hr₂
  repeat (any_goals (first | assumption | wp_step))
end
section
variable {X : Cx} {k : Nat} {f C : Addr} {sp : Sp}
/-- bool(x), x an instance with its own __bool__ -/
def rBoolOwn (C : Addr) (sp : Sp) : List V → Hp → VK → Prop := fun xs H Q => ∃ a dx fs, xs = [.ref a] ∧ H a = some (.ins C dx fs) ∧
  sp [.ref a] H (fun v H' => ∃ r, v = .bl r ∧ Q (.bl r) H') (fun _ _ _ => False)
theorem call_boolOwn (F : FnR X.prog X.w X.K X.mg X.base (L2.CX X.prog X.w) k f sp) (hr : Room (k + 2) X.A) (S : Spc X.K C "__bool__" f) :
    CallR X (.type "bool") (rBoolOwn C sp) := by
  intro pins s σ H xs us Q I r h
  obtain ⟨a, dx, fs, rfl, ea, h⟩ := h
  obtain rfl := Vals.ref1 r
  obtain ⟨ox, od, Ja⟩ := instAt I ea
  obtain ⟨m, fr⟩ := I.fr
  have hr1 : Room k X.A.in1.in1 := (hr.in1).in1
  apply callBool
  apply PySem.W.truthy_K fr I.ok.mod.kin Ja S.at_ S.fn
  refine wpAny_call (codeAny_mono (F X.A.in1.in1 X.stack s H [.ref a] [.ref a] _ (fun _ _ _ => False) hr1 I.env0.in1.in1 (.cons rfl .nil) h) fun q s' hq => ?_)
  rcases q with e | fl
  · exact (cxN hq).elim
  rcases fl with _ | _ | _ | u'
  · exact False.elim hq
  · exact False.elim hq
  · exact False.elim hq
  obtain ⟨v', H', J', rv, r, ev, q⟩ := I.after hq
  subst ev
  obtain rfl : u' = Value.bool r := rv
  exact ⟨.bl r, H', J', rfl, q⟩
end
end Z

set_option Elab.async false
set_option linter.all false
set_option maxRecDepth 100000
set_option maxHeartbeats 4000000
/-! readings, one step at a time -/
namespace Z
open PySem PySem.Spec PyProof.Rows L2
section
variable {X : Cx} {K : PySem.W.Frag} {σ σ' : L2.St} {H H1 : Hp} {D : Ends} {t u : TS} {te ta tb tc : TE} {tt tu : TT} {tr : TA} {g : TG} {Q : VK} {QB : Bool → Hp → Prop} {QA : List V → Hp → Prop} {QS : L2.St → Hp → Prop} {v x y : V} {i j : Nat} {A B : Prop}

theorem i_seq (h : t { D with nx := u D } σ H) : tSeq t u D σ H := h
theorem i_next (h : D.nx σ H) : tNext D σ H := h
theorem i_asg (h : te σ H (fun x H1 => g x σ H1 D.nx)) : tAsg te g D σ H := h
theorem i_gname (e : σ.set i (some v) = σ') (h : QS σ' H) : gName i v σ H QS := by
  subst e
  exact h
theorem i_ret (h : te σ H D.rt) : tRet te D σ H := h
theorem i_retN (h : D.rt .non H) : tRetN D σ H := h
theorem i_drop (h : te σ H (fun _ H1 => D.nx σ H1)) : tDrop te D σ H := h
theorem i_ifs (h : tt σ H (fun b H1 => if b = true then t D σ H1 else u D σ H1)) : tIfS tt t u D σ H := h
theorem i_test (h : te σ H (fun x H1 => ∃ k, x = .bl k ∧ QB k H1)) : tTest te σ H QB := h
theorem i_B (h : te σ H (fun x H1 => ∃ k, x = .bl k ∧ QB k H1)) : tB te σ H QB := h
theorem i_bl {b : Bool} (h : QB b H) : ∃ k, V.bl b = .bl k ∧ QB k H := ⟨b, rfl, h⟩
theorem i_bl' {b : Bool} {P : Bool → Prop} (h : P b) : ∃ k, V.bl b = .bl k ∧ P k := ⟨b, rfl, h⟩
theorem i_and (h : tt σ H (fun c H1 => if c = true then tu σ H1 QB else QB false H1)) : tAnd tt tu σ H QB := h
theorem i_or (h : tt σ H (fun c H1 => if c = true then QB true H1 else tu σ H1 QB)) : tOr tt tu σ H QB := h
theorem i_not (h : tt σ H (fun c H1 => QB (!c) H1)) : tNot tt σ H QB := h
theorem i_andV (h : ta σ H (fun x H1 => ∃ c, x = .bl c ∧ if c = true then tb σ H1 Q else Q (.bl false) H1)) : tAndV ta tb σ H Q := h
theorem i_orV (h : ta σ H (fun x H1 => ∃ c, x = .bl c ∧ if c = true then Q (.bl true) H1 else tb σ H1 Q)) : tOrV ta tb σ H Q := h
theorem i_notV (h : ta σ H (fun x H1 => ∃ c, x = .bl c ∧ Q (.bl (!c)) H1)) : tNotV ta σ H Q := h
theorem i_ifx (h : tt σ H (fun c H1 => if c = true then ta σ H1 Q else tb σ H1 Q)) : tIf tt ta tb σ H Q := h
theorem i_dec {p : Prop} [Decidable p] (h1 : p → A) (h2 : ¬p → B) : if decide p = true then A else B := by
  by_cases hp : p
  · rw [if_pos (decide_eq_true hp)]
    exact h1 hp
  · rw [if_neg (by simpa using hp)]
    exact h2 hp
theorem i_ndec {p : Prop} [Decidable p] (h1 : ¬p → A) (h2 : p → B) : if (!decide p) = true then A else B := by
  by_cases hp : p
  · rw [if_neg (by simpa using hp)]
    exact h2 hp
  · rw [if_pos (by simpa using hp)]
    exact h1 hp
theorem i_bool {b : Bool} (h1 : b = true → A) (h2 : b = false → B) : if b = true then A else B := by
  cases b
  · exact h2 rfl
  · exact h1 rfl
theorem i_tt (h : A) : if true = true then A else B := h
theorem i_ff (h : B) : if false = true then A else B := h
theorem i_nt (h : B) : if (!true) = true then A else B := h
theorem i_nf (h : A) : if (!false) = true then A else B := h
/-! values -/
theorem i_var (e : σ[i]? = some (some v)) (h : Q v H) : tVar i σ H Q := ⟨v, e, h⟩
theorem i_c (h : Q v H) : tC v σ H Q := h
theorem i_op {r : R2} (h : ta σ H (fun x H1 => tb σ H1 (fun y H2 => r x y H2 Q))) : tOp r ta tb σ H Q := h
theorem i_un {r : V → Hp → VK → Prop} (h : ta σ H (fun x H1 => r x H1 Q)) : tUn r ta σ H Q := h
theorem i_cons (h : te σ H (fun x H1 => tr σ H1 (fun xs H2 => QA (x :: xs) H2))) : tCons te tr σ H QA := h
theorem i_nil (h : QA [] H) : tNil σ H QA := h
theorem i_cb {r : List V → Hp → VK → Prop} (h : tr σ H (fun vs H1 => r vs H1 Q)) : tCB r tr σ H Q := h
theorem i_call {sp : Sp} {E : L2.St → XK} (h : tr σ H (fun vs H1 => sp vs H1 Q (E σ))) : tCallS sp E tr σ H Q := h
theorem sz_small {n : Nat} (h : n ≤ 100000) : n ≤ sizeLine := Nat.le_trans h (by decide)
/-- a new list, a new tuple: from here on the heap is another letter -/
theorem i_lst (h : tr σ H (fun xs H1 => xs.length ≤ 100000 ∧ ∀ p H2, H1 p = none → Same H1 H2 → H2 p = some (.lst xs) → (∀ b, b ≠ p → H2 b = H1 b) → Q (.ref p) H2))
    (mono : ∀ Q Q' : List V → Hp → Prop, (∀ xs H, Q xs H → Q' xs H) → tr σ H Q → tr σ H Q') : tLst tr σ H Q := by
  refine mono _ _ (fun xs H1 q => ?_) h
  exact ⟨sz_small q.1, fun p hp => q.2 p _ hp (fun b o e => by rw [upd_ne (ne_of_none e hp)]; exact e) upd_same (fun b hb => upd_ne hb)⟩
/-- what comes behind the items of a display -/
def rLst (xs : List V) (H1 : Hp) (Q : VK) : Prop := xs.length ≤ sizeLine ∧ ∀ p, H1 p = none → Q (.ref p) (upd H1 p (.lst xs))
def rTup (xs : List V) (H1 : Hp) (Q : VK) : Prop := xs.length ≤ sizeLine ∧ ∀ p, H1 p = none → Q (.ref p) (upd H1 p (.tup xs))
theorem i_lst0 (h : tr σ H (fun xs H1 => rLst xs H1 Q)) : tLst tr σ H Q := h
theorem i_tup0 (h : tr σ H (fun xs H1 => rTup xs H1 Q)) : tTup tr σ H Q := h
theorem i_lst1 {xs : List V} (hl : xs.length ≤ 100000) (h : ∀ p H2, H p = none → Same H H2 → H2 p = some (.lst xs) → (∀ b, b ≠ p → H2 b = H b) → Q (.ref p) H2) : rLst xs H Q :=
  ⟨sz_small hl, fun p hp => h p _ hp (fun b o e => by rw [upd_ne (ne_of_none e hp)]; exact e) upd_same (fun b hb => upd_ne hb)⟩
theorem i_tup1 {xs : List V} (hl : xs.length ≤ 100000) (h : ∀ p H2, H p = none → Same H H2 → H2 p = some (.tup xs) → (∀ b, b ≠ p → H2 b = H b) → Q (.ref p) H2) : rTup xs H Q :=
  ⟨sz_small hl, fun p hp => h p _ hp (fun b o e => by rw [upd_ne (ne_of_none e hp)]; exact e) upd_same (fun b hb => upd_ne hb)⟩
/-! attributes -/
def rFld (K : PySem.W.Frag) (f : Str) (x : V) (H1 : Hp) (Q : VK) : Prop := ∃ a C dx fs v, x = .ref a ∧ H1 a = some (.ins C dx fs) ∧ Cls K C ∧ NoAttr K C f ∧ fs.lookup f = some v ∧ Q v H1
theorem i_fld0 {f : Str} (h : ta σ H (fun x H1 => rFld K f x H1 Q)) : tFld K ta f σ H Q := h
theorem i_fld1 {f : Str} {a C dx : Addr} {fs : List (Str × V)} (e : H a = some (.ins C dx fs)) (c : Cls K C) (n : NoAttr K C f) (l : fs.lookup f = some v) (h : Q v H) : rFld K f (.ref a) H Q := ⟨a, C, dx, fs, v, rfl, e, c, n, l, h⟩
def rPut (K : PySem.W.Frag) (f : Str) (y x : V) (H2 : Hp) (Q : Hp → Prop) : Prop := ∃ a C dx fs, x = .ref a ∧ H2 a = some (.ins C dx fs) ∧ Cls K C ∧ NoAttr K C f ∧ fs.length < 1000 ∧ Q (upd H2 a (.ins C dx (putF f y fs)))
theorem i_put0 {f : Str} {tv : TE} (h : tv σ H (fun y H1 => ta σ H1 (fun x H2 => rPut K f y x H2 (fun H3 => D.nx σ H3)))) : sFld K ta tv f D σ H := h
theorem i_put1 {f : Str} {a C dx : Addr} {fs gs : List (Str × V)} {P : Hp → Prop} (e : H a = some (.ins C dx fs)) (c : Cls K C) (n : NoAttr K C f) (l : fs.length < 100) (w : putF f y fs = gs)
    (h : ∀ H2, H2 a = some (.ins C dx gs) → (∀ b, b ≠ a → H2 b = H b) → P H2) : rPut K f y (.ref a) H P :=
  ⟨a, C, dx, fs, rfl, e, c, n, by omega, by rw [w]; exact h _ upd_same (fun b hb => upd_ne hb)⟩
/-! methods, new instances -/
def rMeth (C : Addr) (m : Str) (x : V) (H1 : Hp) (P : Prop) : Prop := ∃ a dx fs, x = .ref a ∧ H1 a = some (.ins C dx fs) ∧ fs.lookup m = none ∧ P
theorem i_meth {C : Addr} {m : Str} {sp : Sp} {E : L2.St → XK} (h : ta σ H (fun x H1 => rMeth C m x H1 (tr σ H1 (fun vs H2 => sp (x :: vs) H2 Q (E σ))))) : tMethS C m sp E ta tr σ H Q := h
theorem i_meth1 {C a dx : Addr} {m : Str} {fs : List (Str × V)} {P : Prop} (e : H a = some (.ins C dx fs)) (l : fs.lookup m = none) (h : P) : rMeth C m (.ref a) H P := ⟨a, dx, fs, rfl, e, l, h⟩
def rNew (C : Addr) (sp : Sp) (vs : List V) (H1 : Hp) (Q : VK) (E : XK) : Prop := ∀ x dx, H1 x = Option.none → H1 dx = Option.none → dx ≠ x →
  sp (V.ref x :: vs) (upd (upd H1 dx (.own x)) x (.ins C dx [])) (fun v H2 => v = .non ∧ Q (.ref x) H2) (fun cls d H2 => E cls d H2)
theorem i_make {C : Addr} {sp : Sp} {E : L2.St → XK} (h : tr σ H (fun vs H1 => rNew C sp vs H1 Q (E σ))) : tMakeS C sp E tr σ H Q := h
/-! ints -/
theorem i_rI0 {f : Int → Int → V} {a b : Int} (h : Q (f a b) H) : rI0 f (.int a) (.int b) H Q := ⟨a, b, rfl, rfl, h⟩
theorem i_rI {C : Int → Int → Prop} {f : Int → Int → V} {a b : Int} (c : C a b) (h : Q (f a b) H) : rI C f (.int a) (.int b) H Q := ⟨a, b, rfl, rfl, c, h⟩
theorem i_rU {f : Int → V} {a : Int} (h : Q (f a) H) : rU f (.int a) H Q := ⟨a, rfl, h⟩
theorem i_eqI {a b : Int} (h : Q (.bl (decide (a = b))) H) : rEq (.int a) (.int b) H Q := ⟨rfl, by
  have e : decide (V.int a = V.int b) = decide (a = b) := by by_cases h : a = b <;> simp [h]
  rw [e]
  exact h⟩
theorem i_neI {a b : Int} (h : Q (.bl (!decide (a = b))) H) : rNe (.int a) (.int b) H Q := ⟨rfl, by
  have e : decide (V.int a = V.int b) = decide (a = b) := by by_cases h : a = b <;> simp [h]
  rw [e]
  exact h⟩
theorem i_eqB {a b : Bool} (h : Q (.bl (a == b)) H) : rEq (.bl a) (.bl b) H Q := ⟨rfl, by
  have e : decide (V.bl a = V.bl b) = (a == b) := by cases a <;> cases b <;> rfl
  rw [e]
  exact h⟩
theorem i_neB {a b : Bool} (h : Q (.bl (a != b)) H) : rNe (.bl a) (.bl b) H Q := ⟨rfl, by
  have e : (!decide (V.bl a = V.bl b)) = (a != b) := by cases a <;> cases b <;> rfl
  rw [e]
  exact h⟩
theorem i_eqS {a b : Str} (h : Q (.bl (decide (a = b))) H) : rEq (.str a) (.str b) H Q := ⟨rfl, by
  have e : decide (V.str a = V.str b) = decide (a = b) := by by_cases h : a = b <;> simp [h]
  rw [e]
  exact h⟩
theorem i_neS {a b : Str} (h : Q (.bl (!decide (a = b))) H) : rNe (.str a) (.str b) H Q := ⟨rfl, by
  have e : decide (V.str a = V.str b) = decide (a = b) := by by_cases h : a = b <;> simp [h]
  rw [e]
  exact h⟩
/-- // by a divisor of either sign -/
def CDivZ (_ j : Int) : Prop := j ≠ 0 ∧ j.natAbs.log2 < 9000
theorem op_fdivZ : OpR X (binaryOp .FloorDiv) (rI CDivZ fun i j => .int (i.fdiv j)) := opI fun i j _ _ _ _ _ hc q => floordiv_int hc.1 q (.inl (PyProof.noPylong_of_log2 hc.2))
theorem cdivZ {i j : Int} {n : Nat} (h : j ≠ 0) (s : ZR.Sz n j) (h0 : 0 < n := by decide) (h9 : n ≤ 9000 := by decide) : CDivZ i j := ⟨h, Nat.lt_of_lt_of_le (PySem.Flt.log2_lt_of h0 s) h9⟩
theorem cmulW {i j : Int} {n m : Nat} (s : ZR.Sz n i) (s' : ZR.Sz m j) (h0 : 0 < n := by decide) (h1 : 0 < m := by decide) (h : n + m ≤ 1000000 := by decide) : CMulW i j := wide_mul s s' h0 h1 h
/-! lists and tuples by place -/
theorem i_ixL {p : Addr} {xs : List V} {k : Nat} (s : SqL K H p xs) (e : xs[k]? = some v) (h : Q v H) : rIxL K (.ref p) (.int (k : Nat)) H Q := ⟨p, xs, _, v, rfl, rfl, s, atI_nat e, h⟩
theorem i_gcd {a b : Int} (h : Q (.int ((Nat.gcd a.natAbs b.natAbs : Nat) : Int)) H) : rGcd [.int a, .int b] H Q := ⟨a, b, rfl, h⟩
end
end Z

set_option Elab.async false
set_option linter.all false
set_option maxRecDepth 100000
set_option maxHeartbeats 4000000
/-! what is known of the text's defs, in short -/
namespace Z
open PySem PySem.Spec PyProof.Rows L2
section
variable (P : Program) (w : World) (K : PySem.W.Frag) (mg : Str → Option Value) (base : Heap)
/-- a def of the module -/
def Cal (x : Str) (k : Nat) (sp : Sp) : Prop := ∃ f, mg x = some (.ref f) ∧ PySem.W.keepIn K (.ref f) = true ∧ FnR P w K mg base (L2.CX P w) k f sp
/-- a method of the class at C -/
def CalM (C : Addr) (m : Str) (k : Nat) (sp : Sp) : Prop := ∃ f, Meth K C m f ∧ FnR P w K mg base (L2.CX P w) k f sp
/-- a class and its __init__ -/
def CalI (x : Str) (C : Addr) (k : Nat) (sp : Sp) : Prop := mg x = some (.ref C) ∧ ∃ f, Mk K C f ∧ FnR P w K mg base (L2.CX P w) k f sp
/-- an operator's def -/
def CalO (C : Addr) (n : Str) (k : Nat) (sp : Sp) : Prop := ∃ f, Spc K C n f ∧ PySem.W.selfFirst K C = true ∧ FnR P w K mg base (L2.CX P w) k f sp
/-- a classmethod -/
def CalK (C : Addr) (m : Str) (k : Nat) (sp : Sp) : Prop := ∃ mc p g, ClX.CRead K C mc ∧ ClX.CMet K C mc m p g ∧ FnR P w K mg base (L2.CX P w) k g sp
/-- an error class with its own __init__ -/
def CalX (x : Str) (C : Addr) (k : Nat) (ps : List Str) (sp : Sp) : Prop := mg x = some (.ref C) ∧ OexC K C ∧ ∃ fI fd, PySem.W.findIn K (.ref C) "__init__" = some (some (.ref fI)) ∧
  PySem.W.typeIn K (.ref fI) = some (.type "function") ∧ FnOk P w K mg base (L2.CX P w) k fI fd ps sp ∧ Binds K fd ps []
/-- the errors' common class, of which __init__ is called by name -/
def CalT (x : Str) : Prop := ∃ T mc, mg x = some (.ref T) ∧ ClX.CRead K T mc ∧ PySem.W.findCls K (.ref T) mc "__init__" = some (.val (.builtin "ValueError.__init__"))
end
section
variable {X : Cx} {k j : Nat} {C : Addr} {sp : Sp} {E : L2.St → XK} {x m : Str} {p pos apos : Pos} {e o : Expr} {es : List Expr} {ta te : TE} {t : TA}
theorem z_callC (c : Cal X.prog X.w X.K X.mg X.base x k sp) (hr : Room j X.A) (hx : ∀ σ, PassesAt (L2.CX X.prog X.w) X σ (E σ)) (ha : PA X (e :: es) t) (hj : k ≤ j := by decide) (hg : Gl X x := by rfl)
    (hdb : (x == ("__debug__" : Str)) = false := by decide) (he : starEach (e :: es) X.env = (false, eval e X.env) :: starEach es X.env := by rfl)
    (hpl : (backTo pos (starEach es X.env)).any (·.1) = false := by rfl) : PE X (.Call (.Name x p) (e :: es) [] pos) (tCallS sp E t) := by
  obtain ⟨f, hm, hk, F⟩ := c
  exact z_call F (hr.mono hj) hm hk hx ha hg hdb he hpl
theorem z_call0C (c : Cal X.prog X.w X.K X.mg X.base x k sp) (hr : Room j X.A) (hx : ∀ σ, PassesAt (L2.CX X.prog X.w) X σ (E σ)) (hj : k ≤ j := by decide) (hg : Gl X x := by rfl)
    (hdb : (x == ("__debug__" : Str)) = false := by decide) : PE X (.Call (.Name x p) [] [] pos) (tCallS sp E tNil) := by
  obtain ⟨f, hm, hk, F⟩ := c
  exact z_call0 F (hr.mono hj) hm hk hx hg hdb
theorem z_makeC (c : CalI X.prog X.w X.K X.mg X.base x C k sp) (hr : Room j X.A) (hx : ∀ σ, PassesAt (L2.CX X.prog X.w) X σ (E σ)) (ha : PA X (e :: es) t) (hj : k + 1 ≤ j := by decide) (hg : Gl X x := by rfl)
    (hdb : (x == ("__debug__" : Str)) = false := by decide) (he : starEach (e :: es) X.env = (false, eval e X.env) :: starEach es X.env := by rfl)
    (hpl : (backTo pos (starEach es X.env)).any (·.1) = false := by rfl) : PE X (.Call (.Name x p) (e :: es) [] pos) (tMakeS C sp E t) := by
  obtain ⟨hm, f, M, F⟩ := c
  exact z_make M F (hr.mono hj) hm hx ha hg hdb he hpl
/-- cls(e, ..), cls a local name that holds the class -/
def tMakeL (i : Nat) (C : Addr) (sp : Sp) (E : L2.St → XK) (t : TA) : TE := fun σ H Q => σ[i]? = some (some (.ref C)) ∧ tMakeS C sp E t σ H Q
theorem z_makeL {i : Nat} {y : Str} (c : CalI X.prog X.w X.K X.mg X.base y C k sp) (hr : Room j X.A) (hx : ∀ σ, PassesAt (L2.CX X.prog X.w) X σ (E σ)) (ha : PA X (e :: es) t) (hj : k + 1 ≤ j := by decide)
    (hN : X.N[i]? = some x := by rfl) (hv : Vis X.env.scope x := by first | exact Or.inl rfl | exact Or.inr (Or.inl rfl) | exact Or.inr (Or.inr rfl))
    (hdb : (x == ("__debug__" : Str)) = false := by decide) (hcd : (x == ("__classdict__" : Str)) = false := by decide)
    (he : starEach (e :: es) X.env = (false, eval e X.env) :: starEach es X.env := by rfl)
    (hpl : (backTo pos (starEach es X.env)).any (·.1) = false := by rfl) : PE X (.Call (.Name x p) (e :: es) [] pos) (tMakeL i C sp E t) := by
  obtain ⟨hm, f, M, F⟩ := c
  constructor
  intro pins s σ H Q I h
  obtain ⟨hs, h⟩ := h
  apply wpAny_Call_Name_kw
  refine thn ((pe_var (pos := p) (i := i) hN hv hdb hcd).run pins s σ H (fun v H1 => v = .ref C ∧ H1 = H) I ⟨.ref C, hs, rfl, rfl⟩) fun u s1 hh => ?_
  obtain ⟨v, H1, I1, r1, ev, eH⟩ := hh
  subst ev
  rw [eH] at I1
  obtain rfl : u = Value.ref C := r1
  apply PySem.W.callWith_K (h₀ := X.base) I.ok.mod.kin M.kp _ he hpl
  refine thn (ha.run pos pins s1 σ H _ I1 h) fun us s2 hh => ?_
  obtain ⟨vs, H2, I2, r, q⟩ := hh
  exact ⟨I2.kIn, runMake M F (hr.mono hj) hx I2 r q⟩
theorem z_methC {pl : Sem Bool} (he : PE X o ta) (c : Cls X.K C) (d : CalM X.prog X.w X.K X.mg X.base C m k sp) (hr : Room j X.A) (hx : ∀ σ, PassesAt (L2.CX X.prog X.w) X σ (E σ)) (ha : PA X (e :: es) t) (hj : k ≤ j := by decide)
    (hst : starEach (e :: es) X.env = (false, eval e X.env) :: starEach es X.env := by rfl)
    (hpl : (backTo pos (starEach es X.env)).any (·.1) = false := by rfl)
    (ht : eval (.Call (.Attribute o m apos) (e :: es) [] pos) X.env = (do
      let ov ← eval o X.env
      standAt apos.atName
      let (f, first) ← holding [ov] (getMethod ov m pl)
      callWith pos f first (backTo pos (starEach (e :: es) X.env)) (backToKw pos (keywordEach [] X.env))) := by rfl) :
    PE X (.Call (.Attribute o m apos) (e :: es) [] pos) (tMethS C m sp E ta t) := by
  obtain ⟨f, hm, F⟩ := d
  exact z_meth he c hm F (hr.mono hj) hx ha hst hpl ht
theorem z_meth0C {pl : Sem Bool} (he : PE X o ta) (c : Cls X.K C) (d : CalM X.prog X.w X.K X.mg X.base C m k sp) (hr : Room j X.A) (hx : ∀ σ, PassesAt (L2.CX X.prog X.w) X σ (E σ)) (hj : k ≤ j := by decide)
    (ht : eval (.Call (.Attribute o m apos) [] [] pos) X.env = (do
      let ov ← eval o X.env
      standAt apos.atName
      let (f, first) ← holding [ov] (getMethod ov m pl)
      callWith pos f first (backTo pos (starEach [] X.env)) (backToKw pos (keywordEach [] X.env))) := by rfl) :
    PE X (.Call (.Attribute o m apos) [] [] pos) (tMethS C m sp E ta tNil) := by
  obtain ⟨f, hm, F⟩ := d
  exact z_meth0 he c hm F (hr.mono hj) hx ht
/-- C.m(e, ..), m a classmethod -/
def tCMethS (C : Addr) (sp : Sp) (E : L2.St → XK) (ta : TE) (t : TA) : TE := fun σ H Q => ta σ H fun x H1 => x = .ref C ∧ t σ H1 fun vs H2 => sp (.ref C :: vs) H2 Q (E σ)
theorem z_cmethC {pl : Sem Bool} (ho : PE X o ta) (d : CalK X.prog X.w X.K X.mg X.base C m k sp) (hr : Room j X.A) (hx : ∀ σ, PassesAt (L2.CX X.prog X.w) X σ (E σ)) (ha : PA X (e :: es) t) (hj : k ≤ j := by decide)
    (hst : starEach (e :: es) X.env = (false, eval e X.env) :: starEach es X.env := by rfl)
    (hpl : (backTo pos (starEach es X.env)).any (·.1) = false := by rfl)
    (ht : eval (.Call (.Attribute o m apos) (e :: es) [] pos) X.env = (do
      let ov ← eval o X.env
      standAt apos.atName
      let (f, first) ← holding [ov] (getMethod ov m pl)
      callWith pos f first (backTo pos (starEach (e :: es) X.env)) (backToKw pos (keywordEach [] X.env))) := by rfl) :
    PE X (.Call (.Attribute o m apos) (e :: es) [] pos) (tCMethS C sp E ta t) := by
  obtain ⟨mc, pp, g, r, c, F⟩ := d
  constructor
  intro pins s σ H Q I h
  refine PySem.W.methodCall_KW (pl := pl) (thn (ho.run pins s σ H _ I h) fun u s1 hh => ?_) ht
  obtain ⟨x, H1, I1, rx, ex, q⟩ := hh
  subst ex
  obtain rfl : u = Value.ref C := rx
  apply ClX.getmethcm_ok I1 r c
  intro s2 I2
  apply ClX.callwith_cm I2 (ClX.base_none I1 (Nat.le_refl _)) c.fi _ hst hpl
  refine thn (ha.run pos _ s2 σ H1 _ I2 q) fun us s3 hh => ?_
  obtain ⟨vs, H2, I3, rv, q2⟩ := hh
  refine ⟨⟨ClX.pin_at I3, I3.kIn⟩, ?_⟩
  have z : wpAny (model X.prog X.w) X.A (call (.ref s1.heap.objs.size) us) (EP X ((s1.heap.objs.size, PySem.W.methodObj (.ref g) (.ref C)) :: pins) σ Q) X.xe s3 := by
    refine wpAny_call (PySem.W.method_call (ClX.pin_at I3) ?_)
    refine codeAny_mono (F X.A X.stack s3 H2 (.ref C :: us) (.ref C :: vs) Q (E σ) (hr.mono hj) I3.env0 (.cons rfl rv) q2) fun a s' hq => ?_
    rcases a with er | fl
    · exact hx σ _ H2 s3 er s' I3 hq
    · rcases fl with _ | _ | _ | v
      · exact False.elim hq
      · exact False.elim hq
      · exact False.elim hq
      · exact I3.after hq
  exact thn z fun _ _ y => ClX.unpinE y
/-! operators -/
theorem z_op {op : Operator} {nm : Str} (c : CalO X.prog X.w X.K X.mg X.base C nm k sp) (hr : Room j X.A) (hj : k ≤ j := by decide) (hn : nm = PySem.dunder op.info.2 := by rfl) : OpR X (binaryOp op) (rOwn C sp) := by
  obtain ⟨f, S, sf, F⟩ := c
  exact op_own F (hr.mono hj) sf (by rw [← hn]; exact S)
theorem z_neg (c : CalO X.prog X.w X.K X.mg X.base C "__neg__" k sp) (hr : Room j X.A) (hj : k ≤ j := by decide) : UnR X (unaryOp .USub) (rOwn1 C sp) := by
  obtain ⟨f, S, sf, F⟩ := c
  exact un_own F (hr.mono hj) S
theorem z_eqO (c : CalO X.prog X.w X.K X.mg X.base C "__eq__" k sp) (hr : Room j X.A) (hj : k ≤ j := by decide) : OpR X (compareOp .Eq) (rOwnC X.K C sp) := by
  obtain ⟨f, S, sf, F⟩ := c
  exact op_eqOwn F (hr.mono hj) S
def rOwnN (K : PySem.W.Frag) (C : Addr) (sp : Sp) : R2 := fun x y H Q => ∃ a dx fs t, x = .ref a ∧ H a = some (.ins C dx fs) ∧ Side K C H y t ∧ PySem.W.notFirst K C t = true ∧
      sp [x, y] H (fun v H' => ∃ r, v = .bl r ∧ Q (.bl (!r)) H') (fun _ _ _ => False)
theorem z_neO (c : CalO X.prog X.w X.K X.mg X.base C "__eq__" k sp) (n : NeC X.K C) (hr : Room j X.A) (hj : k + 1 ≤ j := by decide) : OpR X (compareOp .NotEq) (rOwnN X.K C sp) := by
  obtain ⟨f, S, sf, F⟩ := c
  exact op_neOwn F (hr.mono hj) S n
theorem z_bool (c : CalO X.prog X.w X.K X.mg X.base C "__bool__" k sp) (hr : Room j X.A) (hj : k + 2 ≤ j := by decide) : CallR X (.type "bool") (rBoolOwn C sp) := by
  obtain ⟨f, S, sf, F⟩ := c
  exact call_boolOwn F (hr.mono hj) S
/-! errors -/
theorem z_mkX {ps : List Str} (c : CalX X.prog X.w X.K X.mg X.base x C k ps sp) (hr : Room j X.A) (ha : PA X (e :: es) t) (hj : k + 1 ≤ j := by decide) (hg : Gl X x := by rfl)
    (hdb : (x == ("__debug__" : Str)) = false := by decide) (he : starEach (e :: es) X.env = (false, eval e X.env) :: starEach es X.env := by rfl)
    (hpl : (backTo pos (starEach es X.env)).any (·.1) = false := by rfl) : PMk X (.Call (.Name x p) (e :: es) [] pos) (tMkO C sp [] t) := by
  obtain ⟨hm, T, fI, fd, iC, tI, F, b⟩ := c
  exact pmk_oex T iC tI F (hr.mono hj) b .nil passL hg hm ha hdb he hpl
/-- ThrowError.__init__(self, ..) -/
theorem z_tinit {p1 p2 : Pos} {pl : Sem Bool} (hg : Gl X x) (c : CalT X.K X.mg x) (ha : PA X (e :: es) t)
    (hc : eval (.Call (.Attribute (.Name x p1) "__init__" p2) (e :: es) [] pos) X.env = (do
      let ov ← eval (.Name x p1) X.env
      standAt p2.atName
      let (f, first) ← holding [ov] (getMethod ov "__init__" pl)
      callWith pos f first (backTo pos (starEach (e :: es) X.env)) (backToKw pos (keywordEach [] X.env))) := by rfl)
    (hdb : (x == ("__debug__" : Str)) = false := by decide) (he : starEach (e :: es) X.env = (false, eval e X.env) :: starEach es X.env := by rfl)
    (hpl : (backTo pos (starEach es X.env)).any (·.1) = false := by rfl) :
    PE X (.Call (.Attribute (.Name x p1) "__init__" p2) (e :: es) [] pos) (tVeI X.K t) := by
  obtain ⟨T, mc, hm, r, vV⟩ := c
  constructor
  intro pins s σ H Q I h
  refine PySem.W.methodCall_KW (ld_glob I hg hm ?_ hdb) hc
  apply PySem.W.method_cls I.kIn r.ga
  apply PySem.W.cls_value I.kIn r.rd vV (by decide +kernel)
  show wpAny _ _ (callWith pos (Value.builtin "ValueError.__init__") [] (backTo pos (starEach (e :: es) X.env)) []) _ _ _
  refine PyProof.Rows.callWith_method1 (thn (ha.run pos pins _ σ H _ (I.tok _) h) fun us s1 hh => ?_) he hpl
  obtain ⟨vs, H1, I1, r1, a, C, ws, ev, hl, T', ea, q⟩ := hh
  subst ev
  cases r1 with
  | @cons _ u0 _ ur ra rw' =>
    obtain rfl : u0 = Value.ref a := ra
    have hlen : ur.length ≤ sizeLine := by
      rw [← Paired.length rw', sizeLine_eq]
      omega
    exact oinit_ok T' I1 ea hlen fun s' J => ⟨.non, H1, J, rfl, q⟩
end
/-! a def by its body -/
section
variable {P : Program} {w : World} {K : PySem.W.Frag} {mg : Str → Option Value} {base : Heap}
theorem fnOk_mk {x qual : Str} {st : Stmt} {f : Addr} {fd : FuncData} {N ps : List Str} {k : Nat} {sp : Sp} (F : L2.Fun K x qual st f fd) (S : FnScope N ps (defScope st)) (len : ∀ vs H Q E, sp vs H Q E → vs.length = ps.length)
    (hbody : ∀ (cdv : Value) (A : Around) (outer : List Env) (s : Shared) (H : Hp) (vs : List V) (Q : VK) (E : XK), Room k (A.deeper (envOfC qual (defScope st) s.heap.objs.size f cdv)) → sp vs H Q E →
      ∃ t, PSs (cxOf (L2.CX P w) P w K mg base N qual (defScope st) f cdv A outer s H E) (defBody st) t ∧ t { nx := fun _ H' => Q .non H', rt := Q } (start N vs) H) : FnOk P w K mg base (L2.CX P w) (k + 1) f fd ps sp :=
  F.okX S len hbody
theorem fnR_of {f : Addr} {fd : FuncData} {ps : List Str} {k : Nat} {sp : Sp} (F : FnOk P w K mg base (L2.CX P w) k f fd ps sp) (b : Binds K fd ps []) : FnR P w K mg base (L2.CX P w) k f sp := by
  have h := F.raw b .nil
  refine h.imp fun vs H Q E q => ?_
  rw [List.append_nil]
  exact q
end
end Z

set_option Elab.async false
set_option linter.all false
set_option maxRecDepth 100000
set_option maxHeartbeats 4000000
/-! in, not in over a list, by an own == -/
namespace Z
open PySem PySem.Spec PyProof.Rows L2
section
open PySem.SeqAt AutoSeq1 MeetsSeq MeetsSeq2 MeetsSeq3 SeqRoads2
variable {prog : Program} {w : World} {A : Around} {R : Result → Shared → Prop}
/-- turn i: the list stands, and == of its i-th item and x says r -/
def LookI (prog : Program) (w : World) (A : Around) (R : Result → Shared → Prop) (l : Addr) (x : Value) (N : Nat) (I : Nat → Shared → Prop) : Prop :=
  ∀ i s, I i s → ∃ (its : Array Value) (n : Nat), s.heap.get? l = some { cls := .type "list", data := .seq its n } ∧ its.size = N ∧
    ∀ h1 : i < its.size, wpAny (model prog w) A.in1 (eqBool its[i] x) (fun r s' => if r = true then R (.ok (.ret (.bool true))) s' else I (i + 1) s') (fun e s' => R (.error e) s') s
theorem lookLoop (l : Addr) (x : Value) (N : Nat) (I : Nat → Shared → Prop) (hl : LookI prog w A R l x N I)
    (fin : ∀ s, I N s → R (.ok (.ret (.bool false))) s) (k : Nat) : ∀ i : Nat, N - i = k → i ≤ N → ∀ s, I i s →
      wpAny (model prog w) A.in1 (Builtin.«list.__contains__.loop» ⟨[.ref l, x, rawInt i], []⟩) (GQ.FinOf prog w A R) (fun e s' => R (.error e) s') s := by
  induction k with
  | zero =>
    intro i hk hi s h
    obtain ⟨its, n, e1, e2, _⟩ := hl _ _ h
    have hN : i = N := by omega
    have last : R (.ok (.ret (.bool false))) s := fin s (hN ▸ h)
    obtain ⟨hp, g, d, tk, os⟩ := s
    wp_walk using wpAny_loadPart' e1
    have out : its[((i : Nat) : Int).toNat]? = none := by simp; omega
    rw [out]
    wp_walk
    exact last
  | succ k ih =>
    intro i hk hi s h
    obtain ⟨its, n, e1, e2, turn⟩ := hl _ _ h
    have lt : i < its.size := by omega
    have one := turn lt
    obtain ⟨hp, g, d, tk, os⟩ := s
    wp_walk using wpAny_loadPart' e1
    have at_ : its[((i : Nat) : Int).toNat]? = some its[i] := by simp [lt]
    have nx : ((i : Int) + 1) = ((i + 1 : Nat) : Int) := by omega
    rw [at_]
    refine wpAny_bind (wpAny_mono one (fun r s2 q => ?_) fun _ _ z => z)
    cases r with
    | true =>
      rw [if_pos rfl] at q
      wp_walk
      exact q
    | false =>
      rw [if_neg Bool.false_ne_true] at q
      have rec_ := ih (i + 1) (by omega) (by omega) s2 q
      obtain ⟨hp2, g2, d2, tk2, os2⟩ := s2
      wp_walk
      rw [nx]
      refine ⟨plainId_quiet plain_contains_loop _, codeAny_builtin entry_contains_loop ?_⟩
      rw [Around.under_plainId plain_contains_loop _]
      exact rec_
theorem lookList {E : Value → Shared → Prop} {s : Shared} {Q : Value → Shared → Prop} (l : Addr) (x : Value) (N : Nat) (I : Nat → Shared → Prop) (hl : LookI prog w A (wants Q E) l x N I)
    (fin : ∀ s, I N s → Q (.bool false) s) (h : I 0 s) : wpAny (model prog w) A (call (.builtin "list.__contains__") [.ref l, x]) Q E s := by
  obtain ⟨its, n, e1, e2, _⟩ := hl _ _ h
  refine GQ.call_here F.slot_list_contains ⟨_, e1, rfl⟩ F.entry_list_contains (F.args_list_contains_2 _ _) ?_
  have go := lookLoop (A := A) (R := wants Q E) l x N I hl (fun s q => fin s q) _ 0 rfl (Nat.zero_le _) s h
  obtain ⟨hp, g, d, tk, os⟩ := s
  wp_walk using wpAny_loadPart' e1
  refine ⟨plainId_quiet plain_contains_loop _, codeAny_builtin entry_contains_loop ?_⟩
  rw [Around.under_plainId plain_contains_loop _]
  exact go
end
section
variable {X : Cx} {k : Nat} {C : Addr} {sp : Sp}
/-- what == of two instances says here: some bool, and the objects stand -/
def EqSome (C : Addr) (sp : Sp) (H : Hp) (y x : V) : Prop := ∀ H', Same H H' → ∃ a dx fs b dy gs, y = .ref a ∧ x = .ref b ∧ H' a = some (.ins C dx fs) ∧ H' b = some (.ins C dy gs) ∧
  sp [y, x] H' (fun v H2 => (∃ r, v = .bl r) ∧ Same H' H2) (fun _ _ _ => False)
/-- x in xs, where x itself stands in xs -/
def rInO (C : Addr) (sp : Sp) (b : Bool) : R2 := fun x y H Q => ∃ p xs, y = .ref p ∧ H p = some (.lst xs) ∧ x ∈ xs ∧ (∀ z ∈ xs, EqSome C sp H z x) ∧ ∀ H', Same H H' → Q (.bl b) H'
theorem inO_run (c : CalO X.prog X.w X.K X.mg X.base C "__eq__" k sp) (hr : Room (k + 2) X.A) {pins : List (Addr × Obj)} {s : Shared} {σ : L2.St} {H : Hp} {x : V} {u : Value} {p : Addr} {xs : List V} (I : Inv X pins σ H s)
    (rx : RelV x u) (hp : H p = some (.lst xs)) (hx : x ∈ xs) (hz : ∀ z ∈ xs, EqSome C sp H z x) :
    wpAny (model X.prog X.w) X.A (call (.builtin "list.__contains__") [.ref p, u]) (fun v s' => v = .bool true ∧ ∃ H', Inv X pins σ H' s' ∧ Same H H') X.xe s := by
  obtain ⟨f, S, sf, F⟩ := c
  have hr1 : Room k X.A.in1 := hr.in1.mono (Nat.le_succ k)
  obtain ⟨j, hj⟩ := List.mem_iff_getElem?.mp hx
  refine lookList p u xs.length (fun i s' => (∃ H', Inv X pins σ H' s' ∧ Same H H') ∧ i ≤ j) (fun i s' hi => ?_) (fun s' hi => ?_) ⟨⟨H, I, Same.refl H⟩, Nat.zero_le _⟩
  · obtain ⟨⟨H', I', sm⟩, ij⟩ := hi
    obtain ⟨_, its, n, rv, e⟩ := (show ObjOk X.prog X.w H' s'.heap p (.lst xs) from I'.hok p _ (sm _ _ hp))
    refine ⟨its.toArray, n, e, by rw [List.size_toArray, ← rv.length], fun h1 => ?_⟩
    have h1' : i < xs.length := by rw [rv.length]; simpa using h1
    obtain ⟨v, hv, rz⟩ := rv.get (List.getElem?_eq_getElem h1')
    have ev : its.toArray[i] = v := by
      have h2 : i < its.length := by simpa using h1
      rw [List.getElem?_eq_getElem h2] at hv
      simpa using Option.some.inj hv
    rw [ev]
    obtain ⟨a, dx, fs, b, dy, gs, ey, ex, ha, hb, hsp⟩ := hz _ (List.getElem_mem h1') H' sm
    rw [ey] at rz
    subst ex
    obtain rfl : v = Value.ref a := rz
    obtain rfl : u = Value.ref b := rx
    by_cases hab : a = b
    · subst hab
      exact SeqAt.EqAt.same (A := X.A.in1) (s := s') (.ref a) X.prog X.w _ _ (by
        rw [if_pos rfl]
        exact ⟨rfl, H', I', sm⟩)
    · have ij' : i ≠ j := by
        rintro rfl
        rw [List.getElem?_eq_getElem h1', ey] at hj
        cases hj
        exact hab rfl
      refine GQ.eqBool_refG hab ?_
      obtain ⟨ox, od, Ja⟩ := instAt I' ha
      obtain ⟨oy, oe, Jb⟩ := instAt I' hb
      obtain ⟨m, fr⟩ := I'.fr
      apply PySem.W.cmp_K (op := .Eq) (tb := .ref C) hr1.units0 fr I'.ok.mod.kin Ja Jb.type (by simp [PySem.W.notFirst]) S.at_ S.fn
      refine wpAny_call (codeAny_mono (F X.A.in1 X.stack s' H' [.ref a, .ref b] [.ref a, .ref b] _ (fun _ _ _ => False) hr1 I'.env0.in1 (.cons rfl (.cons rfl .nil)) (by rw [ey] at hsp; exact hsp)) fun q s2 hq => ?_)
      rcases q with e | fl
      · exact (cxN hq).elim
      rcases fl with _ | _ | _ | u'
      · exact False.elim hq
      · exact False.elim hq
      · exact False.elim hq
      obtain ⟨v', H2, I2, rv', ⟨r, er⟩, sm2⟩ := I'.after hq
      subst er
      obtain rfl : u' = Value.bool r := rv'
      refine ⟨r, rfl, ?_⟩
      cases r with
      | true => exact ⟨rfl, H2, I2, sm.trans sm2⟩
      | false => exact ⟨⟨H2, I2, sm.trans sm2⟩, by omega⟩
  · have := (List.getElem?_eq_some_iff.mp hj).1
    omega
theorem z_inO (c : CalO X.prog X.w X.K X.mg X.base C "__eq__" k sp) {j : Nat} (hr : Room j X.A) (hj : k + 2 ≤ j := by decide) : OpR X (compareOp .In) (rInO C sp true) := by
  intro pins s σ H x y v u Q I rx ry h
  obtain ⟨p, xs, rfl, hp, hx, hz, q⟩ := h
  obtain rfl : u = Value.ref p := ry
  obtain ⟨_, its, n, _, e⟩ := (show ObjOk X.prog X.w H s.heap p (.lst xs) from I.hok p _ hp)
  show wpAny _ X.A (do return Value.bool (← contains (.ref p) v)) _ _ s
  refine wpAny_bind (wpAny_contains_slot ⟨_, e, rfl⟩ F.slot_list_contains (wpAny_mono (inO_run c (hr.mono hj) I rx hp hx hz) (fun r s' hv => ?_) fun _ _ z => z))
  obtain ⟨rfl, H', I', sm⟩ := hv
  exact wpAny_truthy_bool (wpAny_pure ⟨.bl true, H', I', rfl, q H' sm⟩)
theorem z_notInO (c : CalO X.prog X.w X.K X.mg X.base C "__eq__" k sp) {j : Nat} (hr : Room j X.A) (hj : k + 2 ≤ j := by decide) : OpR X (compareOp .NotIn) (rInO C sp false) := by
  intro pins s σ H x y v u Q I rx ry h
  obtain ⟨p, xs, rfl, hp, hx, hz, q⟩ := h
  obtain rfl : u = Value.ref p := ry
  obtain ⟨_, its, n, _, e⟩ := (show ObjOk X.prog X.w H s.heap p (.lst xs) from I.hok p _ hp)
  show wpAny _ X.A (do return Value.bool (!(← contains (.ref p) v))) _ _ s
  refine wpAny_bind (wpAny_contains_slot ⟨_, e, rfl⟩ F.slot_list_contains (wpAny_mono (inO_run c (hr.mono hj) I rx hp hx hz) (fun r s' hv => ?_) fun _ _ z => z))
  obtain ⟨rfl, H', I', sm⟩ := hv
  exact wpAny_truthy_bool (wpAny_pure ⟨.bl false, H', I', rfl, q H' sm⟩)
/-- xs != ys, two lists of the very same objects -/
def rNeL : R2 := fun x y H Q => ∃ a b xs, x = .ref a ∧ y = .ref b ∧ H a = some (.lst xs) ∧ H b = some (.lst xs) ∧ (∀ z ∈ xs, ∃ p, z = .ref p) ∧ Q (.bl false) H
theorem z_neL (hu : X.A.units < cLine) : OpR X (compareOp .NotEq) rNeL := by
  intro pins s σ H x y v u Q I rx ry h
  obtain ⟨a, b, xs, rfl, rfl, ha, hb, hz, q⟩ := h
  obtain rfl : v = Value.ref a := rx
  obtain rfl : u = Value.ref b := ry
  obtain ⟨_, its, n, rv, e⟩ := (show ObjOk X.prog X.w H s.heap a (.lst xs) from I.hok a _ ha)
  obtain ⟨_, its2, n2, rv2, e2⟩ := (show ObjOk X.prog X.w H s.heap b (.lst xs) from I.hok b _ hb)
  have same : ∀ {zs : List V} {us vs : List Value}, (∀ z ∈ zs, ∃ p, z = .ref p) → Vals zs us → Vals zs vs → us = vs := by
    intro zs
    induction zs with
    | nil =>
      intro us vs _ r1 r2
      cases r1; cases r2; rfl
    | cons z zs ih =>
      intro us vs hz r1 r2
      cases r1 with
      | cons a1 t1 =>
        cases r2 with
        | cons a2 t2 =>
          obtain ⟨p, ep⟩ := hz z (by simp)
          subst ep
          cases a1; cases a2
          rw [ih (fun z h => hz z (by simp [h])) t1 t2]
  obtain rfl := same hz rv rv2
  show wpAny _ X.A (richCompare .NotEq _ _) _ _ s
  refine SeqAt.RcNeAt.lists (e := fun _ => true) ⟨_, e, rfl, n, rfl⟩ ⟨_, e2, rfl, n2, rfl⟩ rfl hu (fun j h1 h2 => SeqAt.EqAt.same _) X.prog X.w _ _ ?_
  refine ⟨.bl false, H, I, ?_, q⟩
  have : (List.range its.toArray.size).all (fun _ => true) = true := by simp
  rw [this]
  rfl
end
end Z

set_option Elab.async false
set_option linter.all false
set_option maxRecDepth 100000
set_option maxHeartbeats 4000000
/-! ratios: what stands for them, and what their defs promise -/
namespace Z
open PySem PySem.Spec PyProof.Rows L2
/-- an own class whose instances are asked by isinstance -/
structure ClO (K : PySem.W.Frag) (C : Addr) : Prop extends Cls K C where
  ha : PySem.W.findIn K (.ref C) "__class__" = some (some (.builtin "object.__class__"))
  hn : PySem.W.specialIn K (.builtin "object.__class__") "__get__" = some (some (.builtin "getset_descriptor.__get__"))
  htk : PySem.W.takesIn K (.builtin "object.__class__") = some true
  hm : PySem.W.mroIn K C (.type "object") = some true
theorem ClO.ty {K : PySem.W.Frag} {C a dx : Addr} {H : Hp} {fs : List (Str × V)} (c : ClO K C) (e : H a = some (.ins C dx fs)) : TyX K H (.ref a) (.ref C) := .base (.ins e c.toCls c.ha c.hn c.htk c.hm)
theorem Same.at {H H' : Hp} {a : Addr} {o : HO} (s : Same H H') (e : H a = some o) : H' a = some o := s a o e
theorem Same.of_ne {H H' : Hp} {p : Addr} (hp : H p = none) (h : ∀ b, b ≠ p → H' b = H b) : Same H H' := fun b o e => (h b (ne_of_none e hp)).trans e

/-! ### an error with one attribute, made and raised -/
def rMkO (C : Addr) (sp : Sp) (vs : List V) (H1 : Hp) (Q : XK) : Prop := vs.length ≤ 1000 ∧ ∀ a, H1 a = none → sp (.ref a :: (vs ++ [])) (upd H1 a (exo a C none))
  (fun v H2 => v = .non ∧ ∃ (d : Addr) (fs : List (Str × V)), H2 a = some (exo a C (some d)) ∧ H2 d = some (exd d fs) ∧ H1 d = none ∧ Q (.ref C) (some d) (upd (del H2 a) d (.xd fs))) (fun _ _ _ => False)
theorem i_mkO {C : Addr} {sp : Sp} {ta : TA} {σ : L2.St} {H : Hp} {Q : XK} (h : ta σ H (fun vs H1 => rMkO C sp vs H1 Q)) : tMkO C sp [] ta σ H Q := h
/-- __init__ keeps the one argument under the name f -/
def spX1 (K : PySem.W.Frag) (C : Addr) (f : Str) (G : V → Hp → Prop) : Sp := fun vs H Q _ => vs.length = 2 ∧ ∃ a v, vs = [.ref a, v] ∧ H a = some (exo a C none) ∧ G v H ∧
  ∀ dx H1, H dx = none → dx ≠ a → Same H H1 → H1 dx = none → Q .non (upd (upd H1 dx (exd dx [(f, v)])) a (exo a C (some dx)))
theorem i_mkX1 {K : PySem.W.Frag} {C : Addr} {f : Str} {G : V → Hp → Prop} {v : V} {H : Hp} {Q : XK} (g : ∀ H', Same H H' → G v H') (h : ∀ d H', H d = none → Same H H' → H' d = some (.xd [(f, v)]) → Q (.ref C) (some d) H') :
    rMkO C (spX1 K C f G) [v] H Q := by
  refine ⟨by show 1 ≤ 1000; decide, fun a ha => ?_⟩
  have s0 : Same H (upd H a (exo a C none)) := fun b o e => by rw [upd_ne (ne_of_none e ha)]; exact e
  refine ⟨rfl, a, v, rfl, upd_same, g _ s0, fun dx H1 hd hne sm hd1 => ?_⟩
  have hdH : H dx = none := by rw [upd_ne hne] at hd; exact hd
  refine ⟨rfl, dx, [(f, v)], upd_same, by rw [upd_ne hne, upd_same], hdH, h dx _ hdH (fun b o e => ?_) upd_same⟩
  have nb : b ≠ dx := ne_of_none e hdH
  have na : b ≠ a := ne_of_none e ha
  rw [upd_ne nb, del_ne na, upd_ne na, upd_ne nb]
  exact sm b o (s0 b o e)

/-! ### f-strings, by parts -/
def rFmt (x : V) (H1 : Hp) (Q : VK) : Prop := (∃ y : Str, x = .str y ∧ y.length ≤ sizeLine ∧ Q (.str y) H1) ∨ ∃ i : Int, x = .int i ∧ i.natAbs.log2 < 1920 ∧ Q (.str (toString i)) H1
theorem i_fmt {te : TE} {σ : L2.St} {H : Hp} {Q : VK} (h : te σ H (fun x H1 => rFmt x H1 Q)) : tFmt te σ H Q := h
theorem i_fmtS {y : Str} {H : Hp} {Q : VK} (l : y.length ≤ sizeLine) (h : Q (.str y) H) : rFmt (.str y) H Q := .inl ⟨y, rfl, l, h⟩

/-! ### ratios -/
def rf (q : Rat) : List (Str × V) := [("top", .int q.num), ("bottom", .int (q.den : Int))]
def IsR (CR : Addr) (H : Hp) (a : Addr) (q : Rat) : Prop := ∃ dx, H a = some (.ins CR dx (rf q))
theorem IsR.mono {CR a : Addr} {H H' : Hp} {q : Rat} (s : Same H H') (h : IsR CR H a q) : IsR CR H' a q := let ⟨dx, e⟩ := h; ⟨dx, s _ _ e⟩
theorem rf_top (q : Rat) : (rf q).lookup ("top" : Str) = some (V.int q.num) := by unfold rf; simp [List.lookup]
theorem rf_bot (q : Rat) : (rf q).lookup ("bottom" : Str) = some (V.int (q.den : Int)) := by
  have h : (("bottom" : Str) == "top") = false := by decide +kernel
  unfold rf
  simp [List.lookup, h]
theorem rf_no {m : Str} (q : Rat) (h1 : (m == ("top" : Str)) = false) (h2 : (m == ("bottom" : Str)) = false) : (rf q).lookup m = none := by
  unfold rf
  simp [List.lookup, h1, h2]
theorem rf_put1 (v : V) : putF "top" v [] = [(("top" : Str), v)] := rfl
theorem rf_put2 (v u : V) : putF "bottom" v [(("top" : Str), u)] = [(("top" : Str), u), (("bottom" : Str), v)] := by
  show (if ("top" : Str) = "bottom" then _ else (("top" : Str), u) :: putF "bottom" v []) = _
  rw [if_neg (by decide +kernel)]
  rfl
theorem i_top {K : PySem.W.Frag} {CR a : Addr} {H : Hp} {q : Rat} {Q : VK} (h : IsR CR H a q) (c : ClO K CR) (n : NoAttr K CR "top") (k : Q (.int q.num) H) : rFld K "top" (.ref a) H Q :=
  let ⟨_, e⟩ := h; i_fld1 e c.toCls n (rf_top q) k
theorem i_bot {K : PySem.W.Frag} {CR a : Addr} {H : Hp} {q : Rat} {Q : VK} (h : IsR CR H a q) (c : ClO K CR) (n : NoAttr K CR "bottom") (k : Q (.int (q.den : Int)) H) : rFld K "bottom" (.ref a) H Q :=
  let ⟨_, e⟩ := h; i_fld1 e c.toCls n (rf_bot q) k

/-- the error of a bottom 0 -/
def EBad (CB : Addr) (n : Int) (H : Hp) (E : XK) : Prop := ∀ d H', Same H H' → H' d = some (.xd [("n", .int n)]) → E (.ref CB) (some d) H'
def spRInit (CR CB : Addr) : Sp := fun vs H Q E => vs.length = 3 ∧ ∃ a t b, vs = [.ref a, .int t, .int b] ∧ (∃ dx, H a = some (.ins CR dx [])) ∧ (b = 0 ∨ ZR.Sz 8000 b) ∧
  (b = 0 → EBad CB 0 H E) ∧ (b ≠ 0 → ∀ H', IsR CR H' a ((t : Rat) / (b : Rat)) → (∀ x, x ≠ a → H' x = H x) → Q .non H')
/-- Ratio(t, b) with b other than 0 -/
theorem i_newR {CR CB : Addr} {t b : Int} {H : Hp} {Q : VK} {E : XK} (hb : b ≠ 0) (hz : ZR.Sz 8000 b) (h : ∀ p H', H p = none → Same H H' → IsR CR H' p ((t : Rat) / (b : Rat)) → Q (.ref p) H') :
    rNew CR (spRInit CR CB) [.int t, .int b] H Q E := by
  intro x dx hx hdx hne
  refine ⟨rfl, x, t, b, rfl, ⟨dx, upd_same⟩, .inr hz, fun h0 => absurd h0 hb, fun _ H' hr hs => ⟨rfl, h x H' hx (fun c o e => ?_) hr⟩⟩
  have n1 : c ≠ x := ne_of_none e hx
  rw [hs c n1, upd_ne n1, upd_ne (ne_of_none e hdx)]
  exact e
/-- Ratio(t, 0) -/
theorem i_newR0 {CR CB : Addr} {t : Int} {H : Hp} {Q : VK} {E : XK} (h : EBad CB 0 H E) : rNew CR (spRInit CR CB) [.int t, .int 0] H Q E := by
  intro x dx hx hdx hne
  refine ⟨rfl, x, t, 0, rfl, ⟨dx, upd_same⟩, .inl rfl, fun _ d H' s e => h d H' (fun c o e => s c o ?_) e, fun h0 => absurd rfl h0⟩
  rw [upd_ne (ne_of_none e hx), upd_ne (ne_of_none e hdx)]
  exact e
/-- a def of two ratios that hands back a new one -/
def spR2 (CR : Addr) (f : Rat → Rat → Rat) : Sp := fun vs H Q _ => vs.length = 2 ∧ ∃ a b p q, vs = [.ref a, .ref b] ∧ IsR CR H a p ∧ IsR CR H b q ∧ ZR.Bd 2000 p ∧ ZR.Bd 2000 q ∧
  ∀ c H', H c = none → Same H H' → IsR CR H' c (f p q) → Q (.ref c) H'
def spR1 (CR : Addr) (f : Rat → Rat) : Sp := fun vs H Q _ => vs.length = 1 ∧ ∃ a p, vs = [.ref a] ∧ IsR CR H a p ∧ ZR.Bd 2000 p ∧
  ∀ c H', H c = none → Same H H' → IsR CR H' c (f p) → Q (.ref c) H'
/-- the other side of ==: another ratio, or no ratio -/
def spREq (K : PySem.W.Frag) (CR : Addr) : Sp := fun vs H Q _ => vs.length = 2 ∧ ∃ a p y, vs = [.ref a, y] ∧ IsR CR H a p ∧
  ((∃ b q, y = .ref b ∧ IsR CR H b q ∧ ∀ H', Same H H' → Q (.bl (decide (p = q))) H') ∨
   (∃ t, TyX K H y t ∧ PySem.W.kitOne K t (.ref CR) = some false ∧ ∀ H', Same H H' → Q (.bl false) H'))
def spRBool (CR : Addr) : Sp := fun vs H Q _ => vs.length = 1 ∧ ∃ a p, vs = [.ref a] ∧ IsR CR H a p ∧ ∀ H', Same H H' → Q (.bl (decide (p ≠ 0))) H'
def spRUnder (CR : Addr) : Sp := fun vs H Q _ => vs.length = 2 ∧ ∃ a b p q, vs = [.ref a, .ref b] ∧ IsR CR H a p ∧ IsR CR H b q ∧ ZR.Bd 2000 p ∧ ZR.Bd 2000 q ∧
  ∀ H', Same H H' → Q (.bl (decide (p < q))) H'
def spRQuot (CR CB : Addr) : Sp := fun vs H Q E => vs.length = 2 ∧ ∃ a b p q, vs = [.ref a, .ref b] ∧ IsR CR H a p ∧ IsR CR H b q ∧ ZR.Bd 2000 p ∧ ZR.Bd 2000 q ∧
  (q = 0 → EBad CB 0 H E) ∧ (q ≠ 0 → ∀ c H', H c = none → Same H H' → IsR CR H' c (p / q) → Q (.ref c) H')
def spRWhole (CR : Addr) : Sp := fun vs H Q _ => vs.length = 2 ∧ ∃ n, vs = [.ref CR, .int n] ∧ ∀ c H', H c = none → Same H H' → IsR CR H' c (n : Rat) → Q (.ref c) H'
theorem bd0 {n : Nat} (h : n ≠ 0) : ZR.Bd n 0 := ⟨Nat.two_pow_pos n, Nat.one_lt_two_pow h⟩
section
variable {K : PySem.W.Frag} {CR CB a b : Addr} {p q : Rat} {H : Hp} {Q : VK} {E : XK} {f : Rat → Rat → Rat} {f1 : Rat → Rat}
theorem i_R2 (ha : IsR CR H a p) (hb : IsR CR H b q) (bp : ZR.Bd 2000 p) (bq : ZR.Bd 2000 q) (h : ∀ c H', H c = none → Same H H' → IsR CR H' c (f p q) → Q (.ref c) H') : rOwn CR (spR2 CR f) (.ref a) (.ref b) H Q := by
  obtain ⟨dx, e1⟩ := id ha
  obtain ⟨dy, e2⟩ := id hb
  exact ⟨a, b, dx, dy, _, _, rfl, rfl, e1, e2, rfl, a, b, p, q, rfl, ha, hb, bp, bq, h⟩
theorem i_R1 (ha : IsR CR H a p) (bp : ZR.Bd 2000 p) (h : ∀ c H', H c = none → Same H H' → IsR CR H' c (f1 p) → Q (.ref c) H') : rOwn1 CR (spR1 CR f1) (.ref a) H Q := by
  obtain ⟨dx, e1⟩ := id ha
  exact ⟨a, dx, _, rfl, e1, rfl, a, p, rfl, ha, bp, h⟩
theorem self_first : PySem.W.notFirst K CR (.ref CR) = true := by simp [PySem.W.notFirst]
theorem i_Req (ha : IsR CR H a p) (hb : IsR CR H b q) (h : ∀ H', Same H H' → Q (.bl (decide (p = q))) H') : rOwnC K CR (spREq K CR) (.ref a) (.ref b) H Q := by
  obtain ⟨dx, e1⟩ := id ha
  obtain ⟨dy, e2⟩ := id hb
  exact ⟨a, dx, _, _, rfl, e1, .ins e2, self_first, rfl, a, p, _, rfl, ha, .inl ⟨b, q, rfl, hb, h⟩⟩
theorem i_Rne (ha : IsR CR H a p) (hb : IsR CR H b q) (h : ∀ H', Same H H' → Q (.bl (!decide (p = q))) H') : rOwnN K CR (spREq K CR) (.ref a) (.ref b) H Q := by
  obtain ⟨dx, e1⟩ := id ha
  obtain ⟨dy, e2⟩ := id hb
  exact ⟨a, dx, _, _, rfl, e1, .ins e2, self_first, rfl, a, p, _, rfl, ha, .inl ⟨b, q, rfl, hb, fun H' s => ⟨_, rfl, h H' s⟩⟩⟩
theorem i_ReqI {i : Int} (ha : IsR CR H a p) (hk : PySem.W.kitOne K (.type "int") (.ref CR) = some false) (hn : PySem.W.notFirst K CR (.type "int") = true) (h : ∀ H', Same H H' → Q (.bl false) H') : rOwnC K CR (spREq K CR) (.ref a) (.int i) H Q := by
  obtain ⟨dx, e1⟩ := id ha
  exact ⟨a, dx, _, _, rfl, e1, .int i, hn, rfl, a, p, _, rfl, ha, .inr ⟨_, .base (.int i), hk, h⟩⟩
theorem i_ReqS {z : Str} (ha : IsR CR H a p) (hk : PySem.W.kitOne K (.type "str") (.ref CR) = some false) (hn : PySem.W.notFirst K CR (.type "str") = true) (h : ∀ H', Same H H' → Q (.bl false) H') : rOwnC K CR (spREq K CR) (.ref a) (.str z) H Q := by
  obtain ⟨dx, e1⟩ := id ha
  exact ⟨a, dx, _, _, rfl, e1, .str z, hn, rfl, a, p, _, rfl, ha, .inr ⟨_, .base (.str z), hk, h⟩⟩
theorem i_Rbool (ha : IsR CR H a p) (h : ∀ H', Same H H' → Q (.bl (decide (p ≠ 0))) H') : rBoolOwn CR (spRBool CR) [.ref a] H Q := by
  obtain ⟨dx, e1⟩ := id ha
  exact ⟨a, dx, _, rfl, e1, rfl, a, p, rfl, ha, fun H' s => ⟨_, rfl, h H' s⟩⟩
theorem i_under0 {P : Prop} (ha : IsR CR H a p) (h : P) : rMeth CR "under" (.ref a) H P := let ⟨_, e⟩ := ha; i_meth1 e (rf_no p (by decide +kernel) (by decide +kernel)) h
theorem i_quot0 {P : Prop} (ha : IsR CR H a p) (h : P) : rMeth CR "quotient" (.ref a) H P := let ⟨_, e⟩ := ha; i_meth1 e (rf_no p (by decide +kernel) (by decide +kernel)) h
theorem i_under (ha : IsR CR H a p) (hb : IsR CR H b q) (bp : ZR.Bd 2000 p) (bq : ZR.Bd 2000 q) (h : ∀ H', Same H H' → Q (.bl (decide (p < q))) H') : spRUnder CR [.ref a, .ref b] H Q E :=
  ⟨rfl, a, b, p, q, rfl, ha, hb, bp, bq, h⟩
theorem i_quot (ha : IsR CR H a p) (hb : IsR CR H b q) (bp : ZR.Bd 2000 p) (bq : ZR.Bd 2000 q) (h0 : q ≠ 0) (h : ∀ c H', H c = none → Same H H' → IsR CR H' c (p / q) → Q (.ref c) H') : spRQuot CR CB [.ref a, .ref b] H Q E :=
  ⟨rfl, a, b, p, q, rfl, ha, hb, bp, bq, fun z => absurd z h0, fun _ => h⟩
theorem i_quot00 (ha : IsR CR H a p) (hb : IsR CR H b 0) (bp : ZR.Bd 2000 p) (h : EBad CB 0 H E) : spRQuot CR CB [.ref a, .ref b] H Q E :=
  ⟨rfl, a, b, p, 0, rfl, ha, hb, bp, bd0 (by decide), fun _ => h, fun z => absurd rfl z⟩
theorem i_whole {n : Int} (h : ∀ c H', H c = none → Same H H' → IsR CR H' c (n : Rat) → Q (.ref c) H') : spRWhole CR [.ref CR, .int n] H Q E := ⟨rfl, n, rfl, h⟩
end
/-! ### the law's own helpers -/
def Pool (H : Hp) (p : Addr) : Prop := ∃ (c k : Int) (f : Bool), H p = some (.lst [V.int c, V.int k, V.bl f])
def spPool : Sp := fun vs H Q _ => vs.length = 1 ∧ ∃ c, vs = [.int c] ∧ ∀ p H', H p = none → Same H H' → (∀ b, b ≠ p → H' b = H b) → Pool H' p → Q (.ref p) H'
def spTake : Sp := fun vs H Q _ => vs.length = 2 ∧ ∃ p l, vs = [.ref p, .int l] ∧ Pool H p ∧ 0 < l ∧ ZR.Sz 8000 l ∧ ∀ r H', 0 ≤ r → r < l → (∀ b, b ≠ p → H' b = H b) → Pool H' p → Q (.int r) H'
def spCell (K : PySem.W.Frag) : Sp := fun vs H Q _ => vs.length = 2 ∧ ∃ (a : Addr) (ns : List Int) (k : Nat), vs = [.ref a, .int k] ∧ SqL K H a (ns.map V.int) ∧ ∀ i, Q (.int i) H
section
variable {K : PySem.W.Frag} {p a : Addr} {H : Hp} {Q : VK} {E : XK}
theorem i_pool {c : Int} (h : ∀ p H', H p = none → Same H H' → (∀ b, b ≠ p → H' b = H b) → Pool H' p → Q (.ref p) H') : spPool [.int c] H Q E := ⟨rfl, c, rfl, h⟩
theorem i_take {l : Int} (hp : Pool H p) (h0 : 0 < l) (hz : ZR.Sz 8000 l) (h : ∀ r H', 0 ≤ r → r < l → (∀ b, b ≠ p → H' b = H b) → Pool H' p → Q (.int r) H') : spTake [.ref p, .int l] H Q E := ⟨rfl, p, l, rfl, hp, h0, hz, h⟩
theorem i_cell {ns : List Int} {k : Nat} (hs : SqL K H a (ns.map V.int)) (h : ∀ i, Q (.int i) H) : spCell K [.ref a, .int k] H Q E := ⟨rfl, a, ns, k, rfl, hs, h⟩
end
/-! ### lists of ints compared -/
theorem dp_ints {K : PySem.W.Frag} {H : Hp} : ∀ ns : List Int, DpAll K H (ns.map V.int) (ns.map PyData.int)
  | [] => .nil
  | n :: ns => .cons (.int n) (dp_ints ns)
theorem eqv_ints : ∀ ns ms : List Int, PyData.eqvAll (ns.map PyData.int) (ms.map PyData.int) = decide (ns = ms)
  | [], [] => rfl
  | [], _ :: _ => rfl
  | _ :: _, [] => rfl
  | n :: ns, m :: ms => by
    show (PyData.eqv (.int n) (.int m) && PyData.eqvAll _ _) = _
    rw [eqv_ints ns ms]
    show ((n == m) && _) = _
    by_cases h1 : n = m <;> by_cases h2 : ns = ms <;> simp [h1, h2]
theorem lay_ints : ∀ ns : List Int, PyData.canLayAll0 (ns.map PyData.int) = true
  | [] => rfl
  | n :: ns => by
    show (PyData.canLay0 (.int n) && PyData.canLayAll0 _) = true
    rw [lay_ints ns]
    rfl
end Z

set_option Elab.async false
set_option linter.all false
set_option maxRecDepth 100000
set_option maxHeartbeats 4000000
/-! more readings -/
namespace Z
open PySem PySem.Spec PyProof.Rows L2
section
variable {X : Cx} {K : PySem.W.Frag} {σ σ' : L2.St} {H H1 : Hp} {D : Ends} {t u : TS} {te ta tb tc to : TE} {tt tu : TT} {tr : TA} {g : TG} {gs : TGs} {Q : VK} {QB : Bool → Hp → Prop} {QA : List V → Hp → Prop} {QS : L2.St → Hp → Prop} {QH : Hp → Prop} {v w x y : V} {i j : Nat} {A B : Prop} {b : Bool}
theorem i_isiT {tv : Value} {s : String} (ty : TyX K H x tv) (hk : PySem.W.kitOne K tv (.type s) = some b) (h : Q (.bl b) H) : rIsi K [x, .ty s] H Q := ⟨x, _, tv, _, b, rfl, .ty s, ty, hk, h⟩
theorem i_isiO {tv : Value} {C : Addr} (ty : TyX K H x tv) (hk : PySem.W.kitOne K tv (.ref C) = some b) (h : Q (.bl b) H) : rIsi K [x, .ref C] H Q := ⟨x, _, tv, _, b, rfl, .own C, ty, hk, h⟩
theorem tyInt (n : Int) : TyX K H (.int n) (.type "int") := .base (.int n)
theorem tyStr (z : Str) : TyX K H (.str z) (.type "str") := .base (.str z)
def rBits (x : V) (H1 : Hp) (Q : VK) : Prop := ∃ i : Int, x = .int i ∧ Q (.int (Builtin.Int.intBits i : Nat)) H1
theorem i_bits {n : Int} (h : Q (.int (Builtin.Int.intBits n : Nat)) H) : rBits (.int n) H Q := ⟨n, rfl, h⟩
theorem i_bits0 (h : to σ H (fun x H1 => rBits x H1 Q)) : tBits to σ H Q := h
theorem i_jsC {ts : List TE} {acc : Str} {QJ : Str → Hp → Prop} (h : te σ H (fun x H1 => ∃ y : Str, x = .str y ∧ (acc ++ y).length ≤ sizeLine ∧ tJs ts (acc ++ y) σ H1 QJ)) : tJs (te :: ts) acc σ H QJ := h
theorem i_jsN {acc : Str} {QJ : Str → Hp → Prop} (h : QJ acc H) : tJs [] acc σ H QJ := h
theorem Same_seqT {H H' : Hp} {a : Addr} {xs : List V} (e : Same H H') (h : SqT K H a xs) : SqT K H' a xs := by
  rcases h with (h | ⟨o, h⟩) | h
  · exact .inl (.inl (e _ _ h))
  · exact .inl (.inr ⟨o, e _ _ h⟩)
  · exact .inr h
/-! loops -/
def rFor (it : It) (g : TG) (tb : TS) (D : Ends) (σ : L2.St) (H1 : Hp) : Prop := ∃ W : Nat → Nat → L2.St → Hp → Prop, (∃ m, W 0 m σ H1) ∧ ∀ i m σ H, W i m σ H →
  (it.stop i H ∧ D.nx σ H) ∨ (it.go i H ∧ ∃ N : L2.St → Hp → Prop, (∀ σ' H', N σ' H' → ∃ m', m' < m ∧ W (i + 1) m' σ' H') ∧ ∀ x H', it.yld i H x H' → g x σ H' fun σ2 H2 => tb { D with nx := N, ct := N, bk := D.nx } σ2 H2)
def rForL (K : PySem.W.Frag) (g : TG) (tb : TS) (D : Ends) (σ : L2.St) (x : V) (H1 : Hp) : Prop := ∃ a, x = .ref a ∧ (∃ xs, SqL K H1 a xs) ∧ rFor (Itl K a) g tb D σ H1
def rForT (K : PySem.W.Frag) (g : TG) (tb : TS) (D : Ends) (σ : L2.St) (x : V) (H1 : Hp) : Prop := ∃ a, x = .ref a ∧ (∃ xs, SqT K H1 a xs) ∧ rFor (Itt K a) g tb D σ H1
def rForR (g : TG) (tb : TS) (D : Ends) (σ : L2.St) (vs : List V) (H1 : Hp) : Prop := ∃ j : Int, vs = [.int j] ∧ -(2 ^ 62) ≤ j ∧ j < 2 ^ 62 ∧ rFor (Itr 0 j.toNat) g tb D σ H1
theorem i_forL0 {tl : TE} {tb : TS} (h : tl σ H (fun x H1 => rForL K g tb D σ x H1)) : tFor (iList K tl) g tb D σ H := h
theorem i_forT0 {tl : TE} {tb : TS} (h : tl σ H (fun x H1 => rForT K g tb D σ x H1)) : tFor (iTup K tl) g tb D σ H := h
theorem i_forR0 {tb : TS} (h : tr σ H (fun vs H1 => rForR g tb D σ vs H1)) : tFor (iRng1 tr) g tb D σ H := h
theorem i_forL {a : Addr} {xs : List V} {tb : TS} (Pv : Nat → L2.St → Hp → Prop) (s : SqL K H a xs) (h0 : Pv 0 σ H) (hl : ∀ i σ H, i ≤ xs.length → Pv i σ H → SqL K H a xs)
    (hs : ∀ i x σ H, xs[i]? = some x → Pv i σ H → g x σ H fun σ2 H2 => tb { D with nx := Pv (i + 1), ct := Pv (i + 1), bk := D.nx } σ2 H2) (hd : ∀ σ H, Pv xs.length σ H → D.nx σ H) : rForL K g tb D σ (.ref a) H :=
  ⟨a, rfl, ⟨xs, s⟩, for_list Pv h0 hl hs hd⟩
theorem i_forT {a : Addr} {xs : List V} {tb : TS} (Pv : Nat → L2.St → Hp → Prop) (s : SqT K H a xs) (h0 : Pv 0 σ H) (hl : ∀ i σ H, i ≤ xs.length → Pv i σ H → SqT K H a xs)
    (hs : ∀ i x σ H, xs[i]? = some x → Pv i σ H → g x σ H fun σ2 H2 => tb { D with nx := Pv (i + 1), ct := Pv (i + 1), bk := D.nx } σ2 H2) (hd : ∀ σ H, Pv xs.length σ H → D.nx σ H) : rForT K g tb D σ (.ref a) H := by
  refine ⟨a, rfl, ⟨xs, s⟩, fun i m σ H => m = xs.length - i ∧ i ≤ xs.length ∧ Pv i σ H, ⟨xs.length, by simp, Nat.zero_le _, h0⟩, ?_⟩
  rintro i m σ H ⟨rfl, hi, p⟩
  have q := hl i σ H hi p
  by_cases hlt : i < xs.length
  · refine .inr ⟨⟨xs, xs[i], q, by simp [hlt]⟩, Pv (i + 1), fun σ' H' p' => ⟨xs.length - (i + 1), by omega, rfl, hlt, p'⟩, fun x H' y => ?_⟩
    obtain ⟨e, y⟩ := y
    subst e
    exact hs i x σ _ (y xs q) p
  · have e : i = xs.length := by omega
    subst e
    exact .inl ⟨⟨xs, q, Nat.le_refl _⟩, hd σ H p⟩
theorem i_forR {n : Nat} {k : Int} {tb : TS} (hk : k = (n : Int)) (hn : n < 1000000) (Pv : Nat → L2.St → Hp → Prop) (h0 : Pv 0 σ H)
    (hs : ∀ i σ H, i < n → Pv i σ H → g (.int (i : Nat)) σ H fun σ2 H2 => tb { D with nx := Pv (i + 1), ct := Pv (i + 1), bk := D.nx } σ2 H2) (hd : ∀ σ H, Pv n σ H → D.nx σ H) : rForR g tb D σ [.int k] H := by
  refine ⟨k, rfl, by omega, by omega, ?_⟩
  have e : k.toNat = n := by omega
  rw [e]
  refine for_range Pv h0 (fun i σ H hi p => ?_) hd
  rw [Int.zero_add]
  exact hs i σ H hi p
/-! comprehensions over lists -/
def rLcL (K : PySem.W.Frag) (g : TG) (tt : TT) (te : TE) (vs : List Nat) (σ : L2.St) (Q : VK) (x : V) (H1 : Hp) : Prop := ∃ a, x = .ref a ∧ (∃ xs, SqL K H1 a xs) ∧ ∀ D, H1 D = none → ∃ W : Nat → Nat → Hp → Prop, (∃ m, W 0 m (upd H1 D (.lst []))) ∧ ∀ i m H, W i m H →
  ((Itl K a).stop i H ∧ Q (.ref D) H) ∨ ((Itl K a).go i H ∧ ∃ Nx : Hp → Prop, (∀ H', Nx H' → ∃ m', m' < m ∧ W (i + 1) m' H') ∧ ∀ x H', (Itl K a).yld i H x H' → g x (wipe σ vs) H' fun σ2 H2 => wipe σ2 vs = wipe σ vs ∧ tt σ2 H2 fun b H3 =>
    if b = true then te σ2 H3 fun y H4 => ∃ acc, H4 D = some (.lst acc) ∧ acc.length < sizeLine ∧ Nx (upd H4 D (.lst (acc ++ [y]))) else Nx H3)
theorem i_lcL0 {tl : TE} {vs : List Nat} (h : tl σ H (fun x H1 => rLcL K g tt te vs σ Q x H1)) : tLc (iList K tl) g tt te vs σ H Q := h
theorem i_yes (h : QB true H) : tYes σ H QB := h
def LcS (D : Addr) (Pv : Nat → List V → Hp → Prop) (i : Nat) (H : Hp) : Prop := ∃ ys, H D = some (.lst ys) ∧ Pv i ys H
def rLcE (D : Addr) (Pv : Nat → List V → Hp → Prop) (i : Nat) (y : V) (H4 : Hp) : Prop := ∃ acc, H4 D = some (.lst acc) ∧ acc.length < sizeLine ∧ LcS D Pv (i + 1) (upd H4 D (.lst (acc ++ [y])))
theorem i_lcE {D : Addr} {Pv : Nat → List V → Hp → Prop} {ys : List V} (e : H D = some (.lst ys)) (l : ys.length < 100000) (h : ∀ H5, H5 D = some (.lst (ys ++ [y])) → (∀ c, c ≠ D → H5 c = H c) → Pv (i + 1) (ys ++ [y]) H5) : rLcE D Pv i y H :=
  ⟨ys, e, Nat.lt_of_lt_of_le l (by decide), ys ++ [y], upd_same, h _ upd_same (fun c hc => upd_ne hc)⟩
/-- the results so far stand in D (a new list), Pv tells the rest -/
theorem i_lcL {a : Addr} {xs : List V} {vs : List Nat} (Pv : Nat → List V → Hp → Prop) (s : SqL K H a xs) (h0 : ∀ D H', H D = none → Same H H' → H' D = some (.lst []) → (∀ b, b ≠ D → H' b = H b) → Pv 0 [] H')
    (hl : ∀ i ys H, Pv i ys H → SqL K H a xs)
    (hs : ∀ i x D ys H1, H D = none → xs[i]? = some x → H1 D = some (.lst ys) → Pv i ys H1 → g x (wipe σ vs) H1 fun σ2 H2 => wipe σ2 vs = wipe σ vs ∧ tt σ2 H2 fun b H3 => if b = true then te σ2 H3 fun y H4 => rLcE D Pv i y H4 else LcS D Pv (i + 1) H3)
    (hd : ∀ D ys H1, H D = none → H1 D = some (.lst ys) → Pv xs.length ys H1 → Q (.ref D) H1) : rLcL K g tt te vs σ Q (.ref a) H := by
  refine ⟨a, rfl, ⟨xs, s⟩, fun D hD => ?_⟩
  refine lc_list (xs := xs) (LcS D Pv) ?_ ?_ ?_ ?_
  · exact ⟨[], upd_same, h0 D _ hD (fun b o e => by rw [upd_ne (ne_of_none e hD)]; exact e) upd_same (fun b hb => upd_ne hb)⟩
  · rintro i H' _ ⟨ys, _, p⟩
    exact hl i ys H' p
  · rintro i x H' hi ⟨ys, hD', p⟩
    exact hs i x D ys H' hD hi hD' p
  · rintro H' ⟨ys, hD', p⟩
    exact hd D ys H' hD hD' p
theorem i_wipe {A B : Prop} (a : A) (b : B) : A ∧ B := ⟨a, b⟩
/-! targets, stores -/
theorem i_gsub {ti : TE} {r : V → V → V → Hp → (Hp → Prop) → Prop} (h : to σ H (fun o H1 => ti σ H1 (fun i H2 => r o i v H2 (fun H3 => QS σ H3)))) : gSub to ti r v σ H QS := h
theorem i_setL {p : Addr} {xs ys : List V} {k : Int} {j : Nat} (e : H p = some (.lst xs)) (hj : ixN xs.length k = some j) (w : xs.set j v = ys) (h : ∀ H2, H2 p = some (.lst ys) → (∀ b, b ≠ p → H2 b = H b) → QH H2) : rSetL (.ref p) (.int k) v H QH :=
  ⟨p, xs, k, j, rfl, rfl, e, hj, h _ (by rw [w]; exact upd_same) (fun b hb => upd_ne hb)⟩
theorem i_par (h : tr σ H (fun vs H1 => ∃ v w, vs = [v, w] ∧ D.nx ((σ.set i (some v)).set j (some w)) H1)) : tPar i j tr D σ H := h
theorem i_par1 {P : V → V → Prop} (h : P v w) : ∃ v' w', [v, w] = [v', w'] ∧ P v' w' := ⟨v, w, rfl, h⟩
theorem i_glst {a : Addr} {xs : List V} {n : Nat} (s : SqL K H a xs) (hn : xs.length = n) (h : gs xs σ H QS) : gLst K n gs (.ref a) σ H QS := ⟨a, xs, rfl, s, hn, h⟩
theorem i_gtup {a : Addr} {xs : List V} {n : Nat} (s : SqT K H a xs) (hn : xs.length = n) (h : gs xs σ H QS) : gTup K n gs (.ref a) σ H QS := ⟨a, xs, rfl, s, hn, h⟩
theorem i_gc {vs : List V} (h : g v σ H (fun σ' H' => gs vs σ' H' QS)) : gCons g gs (v :: vs) σ H QS := ⟨v, vs, rfl, h⟩
theorem i_gn (h : QS σ H) : gNil [] σ H QS := ⟨rfl, h⟩
/-! methods of lists -/
theorem i_bm {T : String} {r : V → List V → Hp → VK → Prop} (h : to σ H (fun x H1 => tyV K T x H1 ∧ tr σ H1 (fun xs H2 => r x xs H2 Q))) : tBM K T r to tr σ H Q := h
theorem tyL {p : Addr} {xs : List V} (e : H p = some (.lst xs)) : tyV K "list" (.ref p) H := Or.inl ⟨rfl, _, SqL.of e⟩
theorem i_app {p : Addr} {xs : List V} (e : H p = some (.lst xs)) (l : xs.length < 100000) (h : ∀ H2, H2 p = some (.lst (xs ++ [y])) → (∀ b, b ≠ p → H2 b = H b) → Q .non H2) : rAppend (.ref p) [y] H Q :=
  ⟨p, xs, y, rfl, rfl, e, Nat.lt_of_lt_of_le l (by decide), h _ upd_same (fun b hb => upd_ne hb)⟩
/-! errors' __init__ -/
def rVeI (K : PySem.W.Frag) (vs : List V) (H1 : Hp) (Q : VK) : Prop := ∃ (a C : Addr) (ws : List V), vs = .ref a :: ws ∧ ws.length ≤ 1000 ∧ OexC K C ∧ H1 a = some (exo a C none) ∧ Q .non H1
theorem i_tve (h : tr σ H (fun vs H1 => rVeI K vs H1 Q)) : tVeI K tr σ H Q := h
theorem i_tve1 {a C : Addr} {ws : List V} (T : OexC K C) (e : H a = some (exo a C none)) (l : ws.length ≤ 1000) (h : Q .non H) : rVeI K (.ref a :: ws) H Q := ⟨a, C, ws, rfl, l, T, e, h⟩
def rOst (K : PySem.W.Frag) (f : Str) (y x : V) (H2 : Hp) (P : Hp → Prop) : Prop := ∃ a C : Addr, x = .ref a ∧ OexC K C ∧ PySem.W.findIn K (.ref C) f = some none ∧
  ((H2 a = some (exo a C none) ∧ ∀ dx, H2 dx = none → dx ≠ a → P (upd (upd H2 dx (exd dx [(f, y)])) a (exo a C (some dx)))) ∨
    ∃ (dx : Addr) (fs : List (Str × V)), H2 a = some (exo a C (some dx)) ∧ H2 dx = some (exd dx fs) ∧ fs.length ≤ 900 ∧ P (upd H2 dx (exd dx ((f, y) :: fs))))
theorem i_ost {f : Str} (h : te σ H (fun y H1 => to σ H1 (fun x H2 => rOst K f y x H2 (fun H3 => D.nx σ H3)))) : tOst K f to te D σ H := h
theorem i_ost1 {f : Str} {a C : Addr} (T : OexC K C) (n : PySem.W.findIn K (.ref C) f = some none) (e : H a = some (exo a C none)) (h : ∀ dx, H dx = none → dx ≠ a → QH (upd (upd H dx (exd dx [(f, y)])) a (exo a C (some dx)))) : rOst K f y (.ref a) H QH :=
  ⟨a, C, rfl, T, n, .inl ⟨e, h⟩⟩
theorem i_fmtI {n : Int} (l : ZR.Sz 1900 n) (h : Q (.str (toString n)) H) : rFmt (.int n) H Q := .inr ⟨n, rfl, PySem.Flt.log2_lt_of (by decide) (l.mono (by decide)), h⟩
theorem i_js1 {ts : List TE} {acc z : Str} {QJ : Str → Hp → Prop} (l : (acc ++ z).length ≤ sizeLine) (h : tJs ts (acc ++ z) σ H QJ) : ∃ y : Str, V.str z = .str y ∧ (acc ++ y).length ≤ sizeLine ∧ tJs ts (acc ++ y) σ H QJ := ⟨z, rfl, l, h⟩
theorem bits_small {n : Int} {k : Nat} (h : ZR.Sz k n) : ¬ ((k : Int) < (Builtin.Int.intBits n : Nat)) := by
  have := (intBits_le_iff (m := k) (x := n)).mpr h
  omega
theorem text_small {n : Int} (h : ZR.Sz 1900 n) : (Str.ofString (toString n)).length ≤ 1901 := by
  have := int_text_length_le10 (k := 1900) (a := n) (by decide) (Nat.lt_of_lt_of_le (show n.natAbs < 2 ^ 1900 from h) (Nat.pow_le_pow_left (by decide) 1900))
  rw [PySem.ofString_length]
  exact this
/-! items by written places -/
theorem i_ix0 {p : Addr} {x0 : V} {xs : List V} (s : SqL K H p (x0 :: xs)) (h : Q x0 H) : rIxL K (.ref p) (.int 0) H Q := i_ixL (k := 0) s rfl h
theorem i_ix1 {p : Addr} {x0 x1 : V} {xs : List V} (s : SqL K H p (x0 :: x1 :: xs)) (h : Q x1 H) : rIxL K (.ref p) (.int 1) H Q := i_ixL (k := 1) s rfl h
theorem i_ix2 {p : Addr} {x0 x1 x2 : V} {xs : List V} (s : SqL K H p (x0 :: x1 :: x2 :: xs)) (h : Q x2 H) : rIxL K (.ref p) (.int 2) H Q := i_ixL (k := 2) s rfl h
theorem i_ixT {p : Addr} {xs : List V} {k : Nat} (s : SqT K H p xs) (e : xs[k]? = some v) (h : Q v H) : rIxT K (.ref p) (.int (k : Nat)) H Q := ⟨p, xs, _, v, rfl, rfl, s, atI_nat e, h⟩
theorem i_ixT0 {p : Addr} {x0 : V} {xs : List V} (s : SqT K H p (x0 :: xs)) (h : Q x0 H) : rIxT K (.ref p) (.int 0) H Q := i_ixT (k := 0) s rfl h
theorem i_neLI {p q : Addr} {ns ms : List Int} (h1 : SqL K H p (ns.map V.int)) (h2 : SqL K H q (ms.map V.int)) (h : Q (.bl (!decide (ns = ms))) H) : rNeD K (.ref p) (.ref q) H Q := by
  refine ⟨_, _, .lst h1 (dp_ints ns), .lst h2 (dp_ints ms), ?_, ?_, ?_⟩
  · exact shp ns
  · exact shp ms
  · have e : PyData.eqv (.list (ns.map PyData.int)) (.list (ms.map PyData.int)) = decide (ns = ms) := by
      show PyData.eqvAll _ _ = _
      exact eqv_ints ns ms
    rw [e]
    exact h
where shp (ns : List Int) : SeqAt.shaped (.list (ns.map PyData.int)) = true := by
        unfold SeqAt.shaped
        have d : ∀ ns : List Int, PyData.depthAll (ns.map PyData.int) ≤ 1 := by
          intro ns
          induction ns with
          | nil => decide
          | cons n ns ih => simp [PyData.depthAll, PyData.depth] at *; omega
        have := d ns
        have l := lay_ints ns
        simp [PyData.depth, PyData.canLay0]
        exact ⟨l, by omega⟩
end
end Z
namespace Z
open PySem PySem.Spec PyProof.Rows L2
/-! the same rules where the written part stands by its own letter -/
section
variable {X : Cx} {K : PySem.W.Frag} {e : Expr} {te : TE} {f : Str} {pos : Pos}
theorem k_fld (hK : X.K = K) (he : PE X e te) (hb : attributeBase e f X.env (eval e X.env) = eval e X.env) : PE X (.Attribute e f pos) (tFld K te f) := by
  subst hK
  exact pe_fld he hb
theorem k_ixL (hK : X.K = K) : IxR X (rIxL K) := by
  subst hK
  exact ix_list
theorem k_ixT (hK : X.K = K) : IxR X (rIxT K) := by
  subst hK
  exact ix_tup
theorem k_lst {es : List Expr} {k n : Nat} {t : TGs} (hK : X.K = K) (hc : X.calm = true) (h : PGs X es t) (hn : (assignEach es X.env).length = n := by rfl) (hst : (assignEach es X.env).findIdx? (·.1) = none := by rfl) : PG X (.Tuple es k pos) (gLst K n t) := by
  subst hK
  exact pg_lst hc h hn hst
theorem k_tup {es : List Expr} {k n : Nat} {t : TGs} (hK : X.K = K) (hc : X.calm = true) (h : PGs X es t) (hn : (assignEach es X.env).length = n := by rfl) (hst : (assignEach es X.env).findIdx? (·.1) = none := by rfl) : PG X (.Tuple es k pos) (gTup K n t) := by
  subst hK
  exact pg_tup hc h hn hst
theorem k_list {tg l : Expr} {tl : TE} (hK : X.K = K) (hl : PE X l tl) : PI X tg l (iList K tl) := by
  subst hK
  exact pi_list hl
theorem k_tupI {tg l : Expr} {tl : TE} (hK : X.K = K) (hl : PE X l tl) : PI X tg l (iTup K tl) := by
  subst hK
  exact pi_tup hl
theorem k_eqO {C : Addr} {k j : Nat} {sp : Sp} (hK : X.K = K) (c : CalO X.prog X.w X.K X.mg X.base C "__eq__" k sp) (hr : Room j X.A) (hj : k ≤ j := by decide) : OpR X (compareOp .Eq) (rOwnC K C sp) := by
  subst hK
  exact z_eqO c hr hj
theorem k_neO {C : Addr} {k j : Nat} {sp : Sp} (hK : X.K = K) (c : CalO X.prog X.w X.K X.mg X.base C "__eq__" k sp) (n : NeC X.K C) (hr : Room j X.A) (hj : k + 1 ≤ j := by decide) : OpR X (compareOp .NotEq) (rOwnN K C sp) := by
  subst hK
  exact z_neO c n hr hj
theorem k_eqD (hK : X.K = K) (hu : X.A.units + 64 < cLine) : OpR X (compareOp .Eq) (rEqD K) := by
  subst hK
  exact op_eqD hu
theorem k_neD (hK : X.K = K) (hu : X.A.units + 64 < cLine) : OpR X (compareOp .NotEq) (rNeD K) := by
  subst hK
  exact op_neD hu
/-- len of a list or a tuple -/
def rLen (K : PySem.W.Frag) : List V → Hp → VK → Prop := fun xs H Q => ∃ p ys, xs = [.ref p] ∧ (SqL K H p ys ∨ SqT K H p ys) ∧ Q (.int ys.length) H
theorem k_len (hK : X.K = K) : CallR X (.builtin "len") (rLen K) := by
  subst hK
  exact call_len_seq
theorem i_lenL {p : Addr} {xs : List V} {H : Hp} {Q : VK} (s : SqL K H p xs) (h : Q (.int xs.length) H) : rLen K [.ref p] H Q := ⟨p, xs, rfl, .inl s, h⟩
theorem i_lenT {p : Addr} {xs : List V} {H : Hp} {Q : VK} (s : SqT K H p xs) (h : Q (.int xs.length) H) : rLen K [.ref p] H Q := ⟨p, xs, rfl, .inr s, h⟩
theorem k_isi (hK : X.K = K) : CallR X (.builtin "isinstance") (rIsi K) := by
  subst hK
  exact call_isi
end
section
variable {K : PySem.W.Frag} {σ : L2.St} {H : Hp} {D : Ends} {Q : VK} {te : TE}
theorem i_was {c cls : Value} {i : Nat} {ts : Addr → Value → Option Addr → TS} {Wout : WX} {d : Option Addr} (hx : PySem.W.exmOne K cls c = some true)
    (h : ∀ a, H a = none → ts a cls d { nx := fun σ' H' => D.nx (σ'.set i none) H', rt := D.rt, bk := fun σ' H' => D.bk (σ'.set i none) H', ct := fun σ' H' => D.ct (σ'.set i none) H' } (σ.set i (some (.ref a))) H) :
    wAs K c i ts Wout D cls d σ H := ⟨true, hx, fun _ => h, fun q => by cases q⟩
def rXf (a : Addr) (cls : Value) (d : Option Addr) (C : Addr) (f : Str) (x : V) (H1 : Hp) (Q : VK) : Prop := x = .ref a ∧ cls = .ref C ∧ ∃ (dd : Addr) (fs : List (Str × V)) (v : V), d = some dd ∧ H1 dd = some (.xd fs) ∧ fs.lookup f = some v ∧ Q v H1
theorem i_xf {a C : Addr} {cls : Value} {d : Option Addr} {f : Str} (h : te σ H (fun x H1 => rXf a cls d C f x H1 Q)) : tXf a cls d C f te σ H Q := h
theorem i_xf1 {a C dd : Addr} {f : Str} {v : V} (e : H dd = some (.xd [(f, v)])) (h : Q v H) : rXf a (.ref C) (some dd) C f (.ref a) H Q :=
  ⟨rfl, rfl, dd, _, v, rfl, e, by simp [List.lookup], h⟩
end
end Z
namespace Z
open PySem PySem.Spec PyProof.Rows L2
/-! facts put together -/
theorem exm_in {K : PySem.W.Frag} {C D : Addr} {b : Bool} (e : PySem.W.subIn K (.ref C) (.type "BaseException") = some true) (i : PySem.W.isClsIn K C = true) (ty : PySem.W.typeIn K (.ref C) = some (.type "type")) (s : PySem.W.subIn K (.ref D) (.ref C) = some b) :
    PySem.W.exmOne K (.ref D) (.ref C) = some b := by
  unfold PySem.W.exmOne
  rw [if_pos (by rw [e]; rfl)]
  unfold PySem.W.kitCls
  have hc : (PySem.W.clsIn K C).isSome = true := i
  show (if ((PySem.W.clsIn K C).isSome && PySem.W.typeIn K (.ref C) == some (.type "type")) = true then PySem.W.subIn K (.ref D) (.ref C) else none) = some b
  rw [if_pos, s]
  rw [hc, ty]
  simp
theorem refs_ve (T : Addr) : PySem.HandSPX.refsVE [.ref T, .type "ValueError", .type "Exception", .type "BaseException", .type "object"] = true := by
  show PySem.HandSPX.refsVE [.type "ValueError", .type "Exception", .type "BaseException", .type "object"] = true
  decide +kernel
theorem kit_self {K : PySem.W.Frag} {C : Addr} : PySem.W.kitOne K (.ref C) (.ref C) = some true := by
  unfold PySem.W.kitOne
  rw [if_pos (by simp)]
theorem kit_c {K : PySem.W.Frag} {C : Addr} {t : Value} {b : Bool} (i : PySem.W.isClsIn K C = true) (ty : PySem.W.typeIn K (.ref C) = some (.type "type")) (e : PySem.W.subIn K t (.ref C) = some b) (hne : (t == Value.ref C) = false) : PySem.W.kitOne K t (.ref C) = some b := by
  unfold PySem.W.kitOne
  rw [if_neg (by rw [hne]; simp)]
  unfold PySem.W.kitCls
  have hc : (PySem.W.clsIn K C).isSome = true := i
  show (if ((PySem.W.clsIn K C).isSome && PySem.W.typeIn K (.ref C) == some (.type "type")) = true then PySem.W.subIn K t (.ref C) else none) = some b
  rw [if_pos, e]
  rw [hc, ty]
  simp

section
variable {P : Program} {w : World} {K : PySem.W.Frag} {mg : Str → Option Value} {base h : Heap} {f C : Addr} {fd : FuncData} {ps : List Str} {x : Str} {k : Nat} {sp : Sp}
theorem mk_cal (X : K.In h) (G : h.Ns mainGlobals mg) (a : PySem.W.nsIn K mainGlobals x = some (some (.ref f))) (kk : PySem.W.keepIn K (.ref f) = true) (F : FnOk P w K mg base (L2.CX P w) k f fd ps sp) (b : Binds K fd ps []) : Cal P w K mg base x k sp :=
  ⟨f, PySem.W.mg_of X G a, kk, fnR_of F b⟩
theorem mk_calM (m : Meth K C x f) (F : FnOk P w K mg base (L2.CX P w) k f fd ps sp) (b : Binds K fd ps []) : CalM P w K mg base C x k sp := ⟨f, m, fnR_of F b⟩
theorem mk_calI (X : K.In h) (G : h.Ns mainGlobals mg) (a : PySem.W.nsIn K mainGlobals x = some (some (.ref C))) (m : Mk K C f) (F : FnOk P w K mg base (L2.CX P w) k f fd ps sp) (b : Binds K fd ps []) : CalI P w K mg base x C k sp :=
  ⟨PySem.W.mg_of X G a, f, m, fnR_of F b⟩
theorem mk_calO (a : PySem.W.findIn K (.ref C) x = some (some (.ref f))) (i : PySem.W.isFn K (.ref f) = true) (s : PySem.W.selfFirst K C = true) (F : FnOk P w K mg base (L2.CX P w) k f fd ps sp) (b : Binds K fd ps []) : CalO P w K mg base C x k sp :=
  ⟨f, ⟨a, i⟩, s, fnR_of F b⟩
theorem mk_calK {mc : Value} {p : Addr} (r : ClX.CRead K C mc) (m : ClX.CMet K C mc x p f) (F : FnOk P w K mg base (L2.CX P w) k f fd ps sp) (b : Binds K fd ps []) : CalK P w K mg base C x k sp := ⟨mc, p, f, r, m, fnR_of F b⟩
theorem mk_calX (X : K.In h) (G : h.Ns mainGlobals mg) (a : PySem.W.nsIn K mainGlobals x = some (some (.ref C))) (o : OexC K C) (i : PySem.W.findIn K (.ref C) "__init__" = some (some (.ref f))) (t : PySem.W.typeIn K (.ref f) = some (.type "function"))
    (F : FnOk P w K mg base (L2.CX P w) k f fd ps sp) (b : Binds K fd ps []) : CalX P w K mg base x C k ps sp := ⟨PySem.W.mg_of X G a, o, f, fd, i, t, F, b⟩
theorem mk_calT {mc : Value} (X : K.In h) (G : h.Ns mainGlobals mg) (a : PySem.W.nsIn K mainGlobals x = some (some (.ref C))) (r : ClX.CRead K C mc) (v : PySem.W.findCls K (.ref C) mc "__init__" = some (.val (.builtin "ValueError.__init__"))) : CalT K mg x :=
  ⟨C, mc, PySem.W.mg_of X G a, r, v⟩
end
end Z

set_option Elab.async false
set_option linter.all false
set_option maxRecDepth 100000
set_option maxHeartbeats 4000000
namespace Z
open PySem PySem.Spec PyProof.Rows L2
local macro_rules | `(tactic| walk_at "sm") => `(tactic| first | (with_reducible assumption) | ((with_reducible refine' IsR.mono ?s ?h); (case s => with_reducible assumption); (case h => walk_at "sm")) | ((with_reducible refine' Same.at ?s ?h); (case s => with_reducible assumption); (case h => walk_at "sm")) | ((with_reducible refine' Same.seq ?s ?h); (case s => with_reducible assumption); (case h => walk_at "sm")) | ((with_reducible refine' SqL.of ?h); (case h => walk_at "sm")))
local macro_rules | `(tactic| walk_at "cd") => `(tactic| first | assumption | exact cmulW (by assumption) (by assumption) | exact cmulW (ZR.Bd.n (by assumption)) (ZR.Bd.n (by assumption)) | exact cmulW (ZR.Bd.n (by assumption)) (ZR.Bd.d (by assumption)) | exact cmulW (ZR.Bd.d (by assumption)) (ZR.Bd.d (by assumption)) | exact cmulW (ZR.Bd.d (by assumption)) (ZR.Bd.n (by assumption)) | exact (by show (0 : Int) < _; decide) | exact .inr ⟨by decide, by decide⟩ | exact .inl ⟨by decide, by decide⟩ | exact ⟨by decide, by decide⟩ | exact ⟨by decide, by decide, by decide⟩)
local macro_rules | `(tactic| walk_at "r1") => `(tactic| first
  | (with_reducible first
  | refine i_seq ?_ | refine i_next ?_ | refine i_asg ?_ | refine i_gname (by with_unfolding_all rfl) ?_ | refine i_ret ?_ | refine i_retN ?_ | refine i_drop ?_ | refine i_ifs ?_ | refine i_test ?_ | refine i_B ?_
  | refine i_bl ?_ | refine i_bl' ?_ | refine i_and ?_ | refine i_or ?_ | refine i_not ?_ | refine i_andV ?_ | refine i_orV ?_ | refine i_notV ?_ | refine i_ifx ?_
  | refine i_tt ?_ | refine i_ff ?_ | refine i_nt ?_ | refine i_nf ?_
  | refine i_var (by with_unfolding_all rfl) ?_ | refine i_c ?_ | refine i_op ?_ | refine i_un ?_ | refine i_cons ?_ | refine i_nil ?_ | refine i_cb ?_ | refine i_call ?_ | refine i_lst0 ?_ | refine i_tup0 ?_
  | refine i_fld0 ?_ | refine i_put0 ?_ | refine i_meth ?_ | refine i_make ?_ | refine i_mkO ?_ | refine i_fmt ?_ | refine i_jsC ?_ | refine i_jsN ?_ | refine i_bits0 ?_ | refine i_bits ?_
  | refine i_xf ?_ | refine i_tve ?_ | refine i_ost ?_ | refine i_forL0 ?_ | refine i_forT0 ?_ | refine i_forR0 ?_ | refine i_lcL0 ?_ | refine i_yes ?_ | refine i_gsub ?_ | refine i_par ?_ | refine i_par1 ?_ | refine i_gc ?_ | refine i_gn ?_ | refine i_bm ?_
  | refine i_rI0 ?_ | refine i_rU ?_ | refine i_eqI ?_ | refine i_neI ?_ | refine i_eqB ?_ | refine i_neB ?_ | refine i_eqS ?_ | refine i_neS ?_ | refine i_gcd ?_)
  | ((with_reducible refine i_rI ?c ?_); (case c => walk_at "cd"))
  | walk_at "r2")
local macro_rules | `(tactic| walk_at "rd") => `(tactic| repeat walk_at "r1")
local macro_rules | `(tactic| walk_at "rb") => `(tactic| ((try dsimp only); repeat walk_at "r1"))

local macro_rules | `(tactic| walk_at "r2") => `(tactic| with_reducible first | refine i_top (by walk_at "sm") (by assumption) (by assumption) ?_ | refine i_bot (by walk_at "sm") (by assumption) (by assumption) ?_)
def top (i : Nat) : Stmt := PySem.Challenge.pw_onethrow_k11_ratios.main.body.getD i (.Pass ⟨0, 0, 0, 0⟩)
def spShown : Sp := fun vs H Q _ => vs.length = 1 ∧ ∃ n : Int, vs = [.int n] ∧ ZR.Sz 1000 n ∧ ∀ y : Str, y.length ≤ 2000 → Q (.str y) H
def GInt : V → Hp → Prop := fun v _ => ∃ n : Int, v = .int n ∧ ZR.Sz 1000 n
abbrev s__shown : Stmt := top 2
theorem sc__shown : FnScope ["n"] ["n"] (defScope s__shown) := ⟨rfl, rfl, rfl, by decide +kernel, rfl, by decide +kernel, by decide +kernel⟩
theorem ok__shown {P : Program} {w : World} {K : PySem.W.Frag} {mg : Str → Option Value} {base : Heap} {f : Addr} {fd : FuncData} (F : L2.Fun K "_shown" "_shown" s__shown f fd)
    (C_b_int : mg "int" = none)
    (C_b_isinstance : mg "isinstance" = none)
    (C_b_str : mg "str" = none) :
    FnOk P w K mg base (L2.CX P w) 1 f fd ["n"] spShown := by
  refine fnOk_mk F sc__shown (fun vs H Q E h => h.1) (fun cdv A outer s H vs Q E hr h => ?_)
  obtain ⟨_, n, rfl, hz, k⟩ := h
  refine ⟨_, pss_cons (ps_if (PW.pt (pw_and (pt_val (pe_callB call_isi (by rfl) C_b_isinstance (by decide +kernel) (pa_cons (pv 0) (pa_cons ((pe_bltn (v := .ty "int") rfl C_b_int (by decide +kernel) rfl)) pa_nil)))) (pw_and1 (pt_cmpR op_gt (pe_bits (pv 0)) pe_int (nomark _))))) (pss_one (ps_ret pe_str)) (pss_nil))
    (pss_one (ps_ret (pe_callTy call_str_int (by rfl) C_b_str (by decide +kernel) (pa_cons (pv 0) pa_nil)))), ?_⟩
  try dsimp only [cxOf]
  walk_at "rd"
  refine i_isiT (tyInt n) (b := true) (kit_ty (by decide +kernel)) ?_
  walk_at "rd"
  refine i_dec (fun h => absurd h (bits_small hz)) fun _ => ?_
  walk_at "rd"
  exact ⟨n, rfl, PySem.Flt.log2_lt_of (by decide) (hz.mono (by decide)), k _ (Nat.le_trans (text_small (hz.mono (by decide))) (by decide))⟩
abbrev s_BadNumber___init__ : Stmt := inClass (top 4) 0
theorem sc_BadNumber___init__ : FnScope ["self", "n"] ["self", "n"] (defScope s_BadNumber___init__) := ⟨rfl, rfl, rfl, by decide +kernel, rfl, by decide +kernel, by decide +kernel⟩
theorem ok_BadNumber___init__ {P : Program} {w : World} {K : PySem.W.Frag} {mg : Str → Option Value} {base : Heap} {CB : Addr} {f : Addr} {fd : FuncData} (F : L2.Fun K "__init__" "BadNumber.__init__" s_BadNumber___init__ f fd)
    (C_f_shown : Cal P w K mg base "_shown" 1 spShown)
    (C_ox_BadNumber : OexC K CB)
    (C_t_ThrowError : CalT K mg "ThrowError")
    (C_xn_BadNumber_n : PySem.W.findIn K (.ref CB) "n" = some none) :
    FnOk P w K mg base (L2.CX P w) 2 f fd ["self", "n"] (spX1 K CB "n" GInt) := by
  refine fnOk_mk F sc_BadNumber___init__ (fun vs H Q E h => h.1) (fun cdv A outer s H vs Q E hr h => ?_)
  obtain ⟨_, a, v, rfl, ha, g, k⟩ := h
  obtain ⟨n, rfl, hz⟩ := g
  refine ⟨_, pss_cons (ps_expr (z_tinit (by rfl) C_t_ThrowError (pa_cons (pv 0) (pa_cons (pe_joined (PJ.cons pe_str (PJ.cons (pe_fmt (z_callC C_f_shown hr passN (pa_cons (pv 1) pa_nil))) PJ.nil))) pa_nil))))
    (pss_one (ps_ost (pv 0) (pv 1))), ?_⟩
  try dsimp only [cxOf]
  walk_at "rd"
  refine i_js1 (by decide +kernel) ?_
  walk_at "rd"
  refine ⟨rfl, n, rfl, hz, fun y hy => ?_⟩
  refine i_fmtS (Nat.le_trans hy (by decide)) ?_
  refine i_js1 ?_ ?_
  · rw [Str.length_append, Str.length_append]
    have e : (Str.ofString "bad number: ").length = 12 := by decide +kernel
    have e0 : Str.empty.length = 0 := by decide +kernel
    rw [e, e0, sizeLine_eq]
    omega
  walk_at "rd"
  refine i_tve1 C_ox_BadNumber ha (by show 1 ≤ 1000; decide) ?_
  walk_at "rd"
  refine i_ost1 C_ox_BadNumber C_xn_BadNumber_n ha fun dx hd hn => ?_
  exact k dx H hd hn (Same.refl _) hd
abbrev s_Ratio___init__ : Stmt := inClass (top 13) 0
theorem sc_Ratio___init__ : FnScope ["self", "top", "bottom", "divisor"] ["self", "top", "bottom"] (defScope s_Ratio___init__) := ⟨rfl, rfl, rfl, by decide +kernel, rfl, by decide +kernel, by decide +kernel⟩
theorem ok_Ratio___init__ {P : Program} {w : World} {K : PySem.W.Frag} {mg : Str → Option Value} {base : Heap} {CB CR : Addr} {f : Addr} {fd : FuncData} (F : L2.Fun K "__init__" "Ratio.__init__" s_Ratio___init__ f fd)
    (C_c_Ratio : ClO K CR)
    (C_m_gcd : mg "gcd" = some (.builtin "math.gcd"))
    (C_na_Ratio_bottom : NoAttr K CR "bottom")
    (C_na_Ratio_top : NoAttr K CR "top")
    (C_x_BadNumber : CalX P w K mg base "BadNumber" CB 2 ["self", "n"] (spX1 K CB "n" GInt)) :
    FnOk P w K mg base (L2.CX P w) 4 f fd ["self", "top", "bottom"] (spRInit CR CB) := by
  refine fnOk_mk F sc_Ratio___init__ (fun vs H Q E h => h.1) (fun cdv A outer s H vs Q E hr h => ?_)
  obtain ⟨_, a, t, b, rfl, ⟨dx, ha⟩, hz, h0, h1⟩ := h
  have tail : ∀ p : Int, p ≠ 0 → p.natAbs.log2 < 9000 → p = ZR.sg t b → b ≠ 0 → tSeq (sFld K (tVar 0) (tOp (rI CDivZ fun i j => V.int (i.fdiv j)) (tVar 1) (tVar 3)) "top") (sFld K (tVar 0) (tOp (rI CDivZ fun i j => V.int (i.fdiv j)) (tVar 2) (tVar 3)) "bottom")
      { nx := fun x H' => Q V.non H', rt := Q } [some (V.ref a), some (V.int t), some (V.int b), some (V.int p)] H := by
    intro p p0 pz e hb
    have cd : CDivZ t p := ⟨p0, pz⟩
    have cd2 : CDivZ b p := ⟨p0, pz⟩
    walk_at "rd"
    refine i_put1 ha C_c_Ratio.toCls C_na_Ratio_top (by show 0 < 100; decide) (rf_put1 _) fun H2 e2 s2 => ?_
    walk_at "rd"
    refine i_put1 e2 C_c_Ratio.toCls C_na_Ratio_bottom (by show 1 < 100; decide) (rf_put2 _ _) fun H3 e3 s3 => ?_
    subst e
    rw [ZR.norm_num t b hb, ZR.norm_den t b hb] at e3
    exact h1 hb H3 ⟨dx, e3⟩ fun x hx => (s3 x hx).trans (s2 x hx)
  refine ⟨_, pss_cons (ps_if (pt_cmpR op_eq (pv 2) pe_int (nomark _)) (pss_one (ps_raise rfl (takes_of rfl rfl rfl rfl) (z_mkX C_x_BadNumber hr (pa_cons pe_int pa_nil)))) (pss_nil))
    (pss_cons (ps_set (i := 3) sc_Ratio___init__.nd rfl (Or.inl rfl) (pe_callBfun cr_gcd (by rfl) C_m_gcd (pa_cons (pv 1) (pa_cons (pv 2) pa_nil))))
    (pss_cons (ps_if (pt_cmpR op_lt (pv 2) pe_int (nomark _)) (pss_one (ps_set (i := 3) sc_Ratio___init__.nd rfl (Or.inl rfl) (pe_un un_neg (pv 3)))) (pss_nil))
    (pss_cons (ps_fld (pv 0) (pe_op op_fdivZ (pv 1) (pv 3)) rfl)
    (pss_one (ps_fld (pv 0) (pe_op op_fdivZ (pv 2) (pv 3)) rfl))))), ?_⟩
  try dsimp only [cxOf]
  walk_at "rd"
  refine i_dec (fun e => ?_) (fun e => ?_)
  · walk_at "rd"
    exact i_mkX1 (fun H' s => ⟨0, rfl, ZR.sz0⟩) fun d H' hd s e' => h0 e d H' s e'
  · walk_at "rd"
    have hb := (or_iff_right e).mp hz
    have gz : ((Nat.gcd t.natAbs b.natAbs : Nat) : Int).natAbs.log2 < 9000 := PySem.Flt.log2_lt_of (by decide) (show Nat.gcd t.natAbs b.natAbs < 2 ^ 9000 from Nat.lt_of_le_of_lt (Nat.gcd_le_right t.natAbs (show 0 < b.natAbs by omega)) (ZR.Sz.mono hb (by decide)))
    have g0 := ZR.gcd_ne t e
    refine i_dec (fun e1 => ?_) (fun e1 => ?_)
    · iterate 5 walk_at "r1"
      refine tail _ (by omega) (by rw [Int.natAbs_neg]; exact gz) (by unfold ZR.sg; rw [if_pos e1]) e
    · refine tail _ g0 gz (by unfold ZR.sg; rw [if_neg e1]) e
abbrev s_Ratio_whole : Stmt := inClass (top 13) 1
theorem sc_Ratio_whole : FnScope ["cls", "n"] ["cls", "n"] (defScope s_Ratio_whole) := ⟨rfl, rfl, rfl, by decide +kernel, rfl, by decide +kernel, by decide +kernel⟩
theorem ok_Ratio_whole {P : Program} {w : World} {K : PySem.W.Frag} {mg : Str → Option Value} {base : Heap} {CB CR : Addr} {f : Addr} {fd : FuncData} (F : L2.Fun K "whole" "Ratio.whole" s_Ratio_whole f fd)
    (C_i_Ratio : CalI P w K mg base "Ratio" CR 4 (spRInit CR CB)) :
    FnOk P w K mg base (L2.CX P w) 6 f fd ["cls", "n"] (spRWhole CR) := by
  refine fnOk_mk F sc_Ratio_whole (fun vs H Q E h => h.1) (fun cdv A outer s H vs Q E hr h => ?_)
  obtain ⟨_, n, rfl, k⟩ := h
  refine ⟨_, pss_one (ps_ret (z_makeL (i := 0) C_i_Ratio hr passN (pa_cons (pv 1) (pa_cons pe_int pa_nil)))), ?_⟩
  try dsimp only [cxOf]
  walk_at "rd"
  refine ⟨rfl, ?_⟩
  walk_at "rd"
  refine i_newR (by decide) (ZR.sz1 (by decide)) fun p H' hp s hr => k p H' hp s ?_
  have e : (n : Rat) / ((1 : Int) : Rat) = (n : Rat) := by
    have : ((1 : Int) : Rat) = 1 := rfl
    rw [this]
    grind
  rw [e] at hr
  exact hr
abbrev s_Ratio_quotient : Stmt := inClass (top 13) 3
theorem sc_Ratio_quotient : FnScope ["self", "other"] ["self", "other"] (defScope s_Ratio_quotient) := ⟨rfl, rfl, rfl, by decide +kernel, rfl, by decide +kernel, by decide +kernel⟩
theorem ok_Ratio_quotient {P : Program} {w : World} {K : PySem.W.Frag} {mg : Str → Option Value} {base : Heap} {CB CR : Addr} {f : Addr} {fd : FuncData} (F : L2.Fun K "quotient" "Ratio.quotient" s_Ratio_quotient f fd)
    (C_c_Ratio : ClO K CR)
    (C_i_Ratio : CalI P w K mg base "Ratio" CR 4 (spRInit CR CB))
    (C_na_Ratio_bottom : NoAttr K CR "bottom")
    (C_na_Ratio_top : NoAttr K CR "top")
    (C_x_BadNumber : CalX P w K mg base "BadNumber" CB 2 ["self", "n"] (spX1 K CB "n" GInt)) :
    FnOk P w K mg base (L2.CX P w) 6 f fd ["self", "other"] (spRQuot CR CB) := by
  refine fnOk_mk F sc_Ratio_quotient (fun vs H Q E h => h.1) (fun cdv A outer s H vs Q E hr h => ?_)
  obtain ⟨_, a, b, p, q, rfl, ha, hb, bp, bq, k0, k⟩ := h
  refine ⟨_, pss_cons (ps_if (pt_cmpR op_eq (pe_fld (pv 1) rfl) pe_int (nomark _)) (pss_one (ps_raise rfl (takes_of rfl rfl rfl rfl) (z_mkX C_x_BadNumber hr (pa_cons pe_int pa_nil)))) (pss_nil))
    (pss_one (ps_ret (z_makeC C_i_Ratio hr passN (pa_cons (pe_op op_mulW (pe_fld (pv 0) rfl) (pe_fld (pv 1) rfl)) (pa_cons (pe_op op_mulW (pe_fld (pv 0) rfl) (pe_fld (pv 1) rfl)) pa_nil))))), ?_⟩
  try dsimp only [cxOf]
  walk_at "rd"
  refine i_dec (fun e => ?_) (fun e => ?_)
  · walk_at "rd"
    exact i_mkX1 (fun H' s => ⟨0, rfl, ZR.sz0⟩) fun d H' hd s e' => k0 ((ZR.num_zero q).mp e) d H' s e'
  · walk_at "rd"
    refine i_newR (Int.mul_ne_zero (ZR.den_ne p) e) ((bp.d.mul bq.n).mono (by decide)) fun c H' hc s hr => k (fun z => e ((ZR.num_zero q).mpr z)) c H' hc s ?_
    rw [← ZR.r_div p q e]
    exact hr
abbrev s_Ratio_under : Stmt := inClass (top 13) 4
theorem sc_Ratio_under : FnScope ["self", "other"] ["self", "other"] (defScope s_Ratio_under) := ⟨rfl, rfl, rfl, by decide +kernel, rfl, by decide +kernel, by decide +kernel⟩
theorem ok_Ratio_under {P : Program} {w : World} {K : PySem.W.Frag} {mg : Str → Option Value} {base : Heap} {CR : Addr} {f : Addr} {fd : FuncData} (F : L2.Fun K "under" "Ratio.under" s_Ratio_under f fd)
    (C_c_Ratio : ClO K CR)
    (C_na_Ratio_bottom : NoAttr K CR "bottom")
    (C_na_Ratio_top : NoAttr K CR "top") :
    FnOk P w K mg base (L2.CX P w) 1 f fd ["self", "other"] (spRUnder CR) := by
  refine fnOk_mk F sc_Ratio_under (fun vs H Q E h => h.1) (fun cdv A outer s H vs Q E hr h => ?_)
  obtain ⟨_, a, b, p, q, rfl, ha, hb, bp, bq, k⟩ := h
  refine ⟨_, pss_one (ps_ret (pe_cmpR op_lt (pe_op op_mulW (pe_fld (pv 0) rfl) (pe_fld (pv 1) rfl)) (pe_op op_mulW (pe_fld (pv 1) rfl) (pe_fld (pv 0) rfl)) (nomark _))), ?_⟩
  try dsimp only [cxOf]
  walk_at "rd"
  have e : decide (p.num * (q.den : Int) < q.num * (p.den : Int)) = decide (p < q) := decide_eq_decide.mpr (ZR.lt_nd p q)
  rw [e]
  exact k H (Same.refl _)
abbrev s_Ratio___add__ : Stmt := inClass (top 13) 5
theorem sc_Ratio___add__ : FnScope ["self", "other"] ["self", "other"] (defScope s_Ratio___add__) := ⟨rfl, rfl, rfl, by decide +kernel, rfl, by decide +kernel, by decide +kernel⟩
theorem ok_Ratio___add__ {P : Program} {w : World} {K : PySem.W.Frag} {mg : Str → Option Value} {base : Heap} {CB CR : Addr} {f : Addr} {fd : FuncData} (F : L2.Fun K "__add__" "Ratio.__add__" s_Ratio___add__ f fd)
    (C_c_Ratio : ClO K CR)
    (C_i_Ratio : CalI P w K mg base "Ratio" CR 4 (spRInit CR CB))
    (C_na_Ratio_bottom : NoAttr K CR "bottom")
    (C_na_Ratio_top : NoAttr K CR "top") :
    FnOk P w K mg base (L2.CX P w) 6 f fd ["self", "other"] (spR2 CR (· + ·)) := by
  refine fnOk_mk F sc_Ratio___add__ (fun vs H Q E h => h.1) (fun cdv A outer s H vs Q E hr h => ?_)
  obtain ⟨_, a, b, p, q, rfl, ha, hb, bp, bq, k⟩ := h
  refine ⟨_, pss_one (ps_ret (z_makeC C_i_Ratio hr passN (pa_cons (pe_op op_add (pe_op op_mulW (pe_fld (pv 0) rfl) (pe_fld (pv 1) rfl)) (pe_op op_mulW (pe_fld (pv 1) rfl) (pe_fld (pv 0) rfl))) (pa_cons (pe_op op_mulW (pe_fld (pv 0) rfl) (pe_fld (pv 1) rfl)) pa_nil)))), ?_⟩
  try dsimp only [cxOf]
  walk_at "rd"
  refine i_newR (Int.mul_ne_zero (ZR.den_ne p) (ZR.den_ne q)) ((bp.d.mul bq.d).mono (by decide)) fun c H' hc s hr => k c H' hc s ?_
  show IsR CR H' c (p + q)
  rw [← ZR.r_add]
  exact hr
abbrev s_Ratio___sub__ : Stmt := inClass (top 13) 6
theorem sc_Ratio___sub__ : FnScope ["self", "other"] ["self", "other"] (defScope s_Ratio___sub__) := ⟨rfl, rfl, rfl, by decide +kernel, rfl, by decide +kernel, by decide +kernel⟩
theorem ok_Ratio___sub__ {P : Program} {w : World} {K : PySem.W.Frag} {mg : Str → Option Value} {base : Heap} {CB CR : Addr} {f : Addr} {fd : FuncData} (F : L2.Fun K "__sub__" "Ratio.__sub__" s_Ratio___sub__ f fd)
    (C_c_Ratio : ClO K CR)
    (C_i_Ratio : CalI P w K mg base "Ratio" CR 4 (spRInit CR CB))
    (C_na_Ratio_bottom : NoAttr K CR "bottom")
    (C_na_Ratio_top : NoAttr K CR "top") :
    FnOk P w K mg base (L2.CX P w) 6 f fd ["self", "other"] (spR2 CR (· - ·)) := by
  refine fnOk_mk F sc_Ratio___sub__ (fun vs H Q E h => h.1) (fun cdv A outer s H vs Q E hr h => ?_)
  obtain ⟨_, a, b, p, q, rfl, ha, hb, bp, bq, k⟩ := h
  refine ⟨_, pss_one (ps_ret (z_makeC C_i_Ratio hr passN (pa_cons (pe_op op_sub (pe_op op_mulW (pe_fld (pv 0) rfl) (pe_fld (pv 1) rfl)) (pe_op op_mulW (pe_fld (pv 1) rfl) (pe_fld (pv 0) rfl))) (pa_cons (pe_op op_mulW (pe_fld (pv 0) rfl) (pe_fld (pv 1) rfl)) pa_nil)))), ?_⟩
  try dsimp only [cxOf]
  walk_at "rd"
  refine i_newR (Int.mul_ne_zero (ZR.den_ne p) (ZR.den_ne q)) ((bp.d.mul bq.d).mono (by decide)) fun c H' hc s hr => k c H' hc s ?_
  show IsR CR H' c (p - q)
  rw [← ZR.r_sub]
  exact hr
abbrev s_Ratio___mul__ : Stmt := inClass (top 13) 7
theorem sc_Ratio___mul__ : FnScope ["self", "other"] ["self", "other"] (defScope s_Ratio___mul__) := ⟨rfl, rfl, rfl, by decide +kernel, rfl, by decide +kernel, by decide +kernel⟩
theorem ok_Ratio___mul__ {P : Program} {w : World} {K : PySem.W.Frag} {mg : Str → Option Value} {base : Heap} {CB CR : Addr} {f : Addr} {fd : FuncData} (F : L2.Fun K "__mul__" "Ratio.__mul__" s_Ratio___mul__ f fd)
    (C_c_Ratio : ClO K CR)
    (C_i_Ratio : CalI P w K mg base "Ratio" CR 4 (spRInit CR CB))
    (C_na_Ratio_bottom : NoAttr K CR "bottom")
    (C_na_Ratio_top : NoAttr K CR "top") :
    FnOk P w K mg base (L2.CX P w) 6 f fd ["self", "other"] (spR2 CR (· * ·)) := by
  refine fnOk_mk F sc_Ratio___mul__ (fun vs H Q E h => h.1) (fun cdv A outer s H vs Q E hr h => ?_)
  obtain ⟨_, a, b, p, q, rfl, ha, hb, bp, bq, k⟩ := h
  refine ⟨_, pss_one (ps_ret (z_makeC C_i_Ratio hr passN (pa_cons (pe_op op_mulW (pe_fld (pv 0) rfl) (pe_fld (pv 1) rfl)) (pa_cons (pe_op op_mulW (pe_fld (pv 0) rfl) (pe_fld (pv 1) rfl)) pa_nil)))), ?_⟩
  try dsimp only [cxOf]
  walk_at "rd"
  refine i_newR (Int.mul_ne_zero (ZR.den_ne p) (ZR.den_ne q)) ((bp.d.mul bq.d).mono (by decide)) fun c H' hc s hr => k c H' hc s ?_
  show IsR CR H' c (p * q)
  rw [← ZR.r_mul]
  exact hr
abbrev s_Ratio___neg__ : Stmt := inClass (top 13) 8
theorem sc_Ratio___neg__ : FnScope ["self"] ["self"] (defScope s_Ratio___neg__) := ⟨rfl, rfl, rfl, by decide +kernel, rfl, by decide +kernel, by decide +kernel⟩
theorem ok_Ratio___neg__ {P : Program} {w : World} {K : PySem.W.Frag} {mg : Str → Option Value} {base : Heap} {CB CR : Addr} {f : Addr} {fd : FuncData} (F : L2.Fun K "__neg__" "Ratio.__neg__" s_Ratio___neg__ f fd)
    (C_c_Ratio : ClO K CR)
    (C_i_Ratio : CalI P w K mg base "Ratio" CR 4 (spRInit CR CB))
    (C_na_Ratio_bottom : NoAttr K CR "bottom")
    (C_na_Ratio_top : NoAttr K CR "top") :
    FnOk P w K mg base (L2.CX P w) 6 f fd ["self"] (spR1 CR (- ·)) := by
  refine fnOk_mk F sc_Ratio___neg__ (fun vs H Q E h => h.1) (fun cdv A outer s H vs Q E hr h => ?_)
  obtain ⟨_, a, p, rfl, ha, bp, k⟩ := h
  refine ⟨_, pss_one (ps_ret (z_makeC C_i_Ratio hr passN (pa_cons (pe_un un_neg (pe_fld (pv 0) rfl)) (pa_cons (pe_fld (pv 0) rfl) pa_nil)))), ?_⟩
  try dsimp only [cxOf]
  walk_at "rd"
  refine i_newR (ZR.den_ne p) (bp.d.mono (by decide)) fun c H' hc s hr => k c H' hc s ?_
  show IsR CR H' c (-p)
  rw [← ZR.r_neg]
  exact hr
abbrev s_Ratio___eq__ : Stmt := inClass (top 13) 9
theorem sc_Ratio___eq__ : FnScope ["self", "other"] ["self", "other"] (defScope s_Ratio___eq__) := ⟨rfl, rfl, rfl, by decide +kernel, rfl, by decide +kernel, by decide +kernel⟩
theorem ok_Ratio___eq__ {P : Program} {w : World} {K : PySem.W.Frag} {mg : Str → Option Value} {base : Heap} {CR : Addr} {f : Addr} {fd : FuncData} (F : L2.Fun K "__eq__" "Ratio.__eq__" s_Ratio___eq__ f fd)
    (C_b_isinstance : mg "isinstance" = none)
    (C_c_Ratio : ClO K CR)
    (C_gRatio : mg "Ratio" = some (.ref CR))
    (C_ki_Ratio_Ratio : PySem.W.kitOne K (.ref CR) (.ref CR) = some true)
    (C_na_Ratio_bottom : NoAttr K CR "bottom")
    (C_na_Ratio_top : NoAttr K CR "top") :
    FnOk P w K mg base (L2.CX P w) 1 f fd ["self", "other"] (spREq K CR) := by
  refine fnOk_mk F sc_Ratio___eq__ (fun vs H Q E h => h.1) (fun cdv A outer s H vs Q E hr h => ?_)
  obtain ⟨_, a, p, y, rfl, ha, h⟩ := h
  refine ⟨_, pss_one (ps_ret (pe_and (pe_callB call_isi (by rfl) C_b_isinstance (by decide +kernel) (pa_cons (pv 1) (pa_cons ((pe_glob (v := .ref CR) rfl C_gRatio rfl)) pa_nil))) (pe_and (pe_cmpR op_eq (pe_fld (pv 0) rfl) (pe_fld (pv 1) rfl) (nomark _)) (pe_one (pe_cmpR op_eq (pe_fld (pv 0) rfl) (pe_fld (pv 1) rfl) (nomark _)))))), ?_⟩
  try dsimp only [cxOf]
  walk_at "rd"
  rcases h with ⟨b, q, rfl, hb, k⟩ | ⟨t, ty, hk, k⟩
  · obtain ⟨dy, e2⟩ := id hb
    refine i_isiO (C_c_Ratio.ty e2) (b := true) C_ki_Ratio_Ratio ?_
    walk_at "rd"
    have e : decide (p.num = q.num ∧ (p.den : Int) = (q.den : Int)) = decide (p = q) := decide_eq_decide.mpr (ZR.eq_nd p q)
    have k1 := k H (Same.refl _)
    rw [← e] at k1
    refine i_dec (fun n1 => ?_) (fun n1 => ?_)
    · walk_at "rd"
      simpa [n1] using k1
    · simpa [n1] using k1
  · refine i_isiO ty hk ?_
    walk_at "rd"
    exact k H (Same.refl _)
abbrev s_Ratio___bool__ : Stmt := inClass (top 13) 10
theorem sc_Ratio___bool__ : FnScope ["self"] ["self"] (defScope s_Ratio___bool__) := ⟨rfl, rfl, rfl, by decide +kernel, rfl, by decide +kernel, by decide +kernel⟩
theorem ok_Ratio___bool__ {P : Program} {w : World} {K : PySem.W.Frag} {mg : Str → Option Value} {base : Heap} {CR : Addr} {f : Addr} {fd : FuncData} (F : L2.Fun K "__bool__" "Ratio.__bool__" s_Ratio___bool__ f fd)
    (C_b_bool : mg "bool" = none)
    (C_c_Ratio : ClO K CR)
    (C_na_Ratio_bottom : NoAttr K CR "bottom")
    (C_na_Ratio_top : NoAttr K CR "top") :
    FnOk P w K mg base (L2.CX P w) 1 f fd ["self"] (spRBool CR) := by
  refine fnOk_mk F sc_Ratio___bool__ (fun vs H Q E h => h.1) (fun cdv A outer s H vs Q E hr h => ?_)
  obtain ⟨_, a, p, rfl, ha, k⟩ := h
  refine ⟨_, pss_one (ps_ret (pe_callTy call_bool1 (by rfl) C_b_bool (by decide +kernel) (pa_cons (pe_fld (pv 0) rfl) pa_nil))), ?_⟩
  try dsimp only [cxOf]
  walk_at "rd"
  refine .inl ⟨_, rfl, ?_⟩
  have e : (p.num != 0) = decide (p ≠ 0) := by
    by_cases z : p = 0
    · subst z; rfl
    · have := ZR.num_ne z
      simp [this, z]
  rw [e]
  exact k H (Same.refl _)
/-! ### what the law's helpers promise -/
def RsAt (CR : Addr) (H : Hp) (ps : List (Addr × Rat)) : Prop := ∀ x ∈ ps, IsR CR H x.1 x.2
def rfs (ps : List (Addr × Rat)) : List V := ps.map fun x => V.ref x.1
def sumR (ps : List (Addr × Rat)) : Rat := ps.foldl (fun s x => s + x.2) 0
theorem RsAt.mono {CR : Addr} {H H' : Hp} {ps : List (Addr × Rat)} (s : Same H H') (h : RsAt CR H ps) : RsAt CR H' ps := fun x hx => (h x hx).mono s
def spTotal (K : PySem.W.Frag) (CR : Addr) : Sp := fun vs H Q _ => vs.length = 1 ∧ ∃ (l : Addr) (ps : List (Addr × Rat)), vs = [.ref l] ∧ SqL K H l (rfs ps) ∧ ps.length ≤ 3 ∧ RsAt CR H ps ∧ (∀ x ∈ ps, ZR.Bd 100 x.2) ∧
  ∀ c H', H c = none → Same H H' → IsR CR H' c (sumR ps) → Q (.ref c) H'
def spGreatest (K : PySem.W.Frag) (CR : Addr) : Sp := fun vs H Q _ => vs.length = 1 ∧ ∃ (l : Addr) (p0 : Addr × Rat) (ps : List (Addr × Rat)), vs = [.ref l] ∧ SqL K H l (rfs (p0 :: ps)) ∧ RsAt CR H (p0 :: ps) ∧ (∀ x ∈ p0 :: ps, ZR.Bd 100 x.2) ∧
  ∀ x H', x ∈ p0 :: ps → (∀ y ∈ p0 :: ps, ¬ x.2 < y.2) → Same H H' → Q (.ref x.1) H'
def spGreatestT (K : PySem.W.Frag) (CR : Addr) : Sp := fun vs H Q _ => vs.length = 1 ∧ ∃ (l : Addr) (p0 : Addr × Rat) (ps : List (Addr × Rat)), vs = [.ref l] ∧ SqT K H l (rfs (p0 :: ps)) ∧ RsAt CR H (p0 :: ps) ∧ (∀ x ∈ p0 :: ps, ZR.Bd 100 x.2) ∧
  ∀ x H', x ∈ p0 :: ps → (∀ y ∈ p0 :: ps, ¬ x.2 < y.2) → Same H H' → Q (.ref x.1) H'
def spCommon : Sp := fun vs H Q _ => vs.length = 2 ∧ ∃ a b : Int, vs = [.int a, .int b] ∧ Q (.int ((Nat.gcd a.natAbs b.natAbs : Nat) : Int)) H
def spTerms : Sp := fun vs H Q _ => vs.length = 2 ∧ ∃ a b : Int, vs = [.int a, .int b] ∧ b ≠ 0 ∧ ZR.Sz 8000 b ∧
  ∀ p H', H p = none → Same H H' → H' p = some (.lst [V.int ((a : Rat) / (b : Rat)).num, V.int (((a : Rat) / (b : Rat)).den : Int)]) → Q (.ref p) H'
def spNumber : Sp := fun vs H Q _ => vs.length = 1 ∧ ∃ p, vs = [.ref p] ∧ Pool H p ∧ ∀ r H', ZR.Sz 100 r → (∀ b, b ≠ p → H' b = H b) → Pool H' p → Q (.int r) H'
def spIs (CR : Addr) : Sp := fun vs H Q _ => vs.length = 3 ∧ ∃ (t : Addr) (a b : Int), vs = [.ref t, .int a, .int b] ∧ IsR CR H t ((a : Rat) / (b : Rat)) ∧ b ≠ 0 ∧ ZR.Sz 1000 a ∧ ZR.Sz 1000 b ∧ ∀ H', Same H H' → Q (.bl true) H'
def spRefused (CR : Addr) : Sp := fun vs H Q _ => vs.length = 2 ∧ ∃ (k : Int) (r : Addr) (p : Rat), vs = [.int k, .ref r] ∧ IsR CR H r p ∧ ZR.Bd 2000 p ∧ ∀ H', Same H H' → Q (.bl true) H'
def spPair (K : PySem.W.Frag) (CR : Addr) : Sp := fun vs H Q _ => vs.length = 4 ∧ ∃ (f s l m : Addr) (a b c d : Int), vs = [.ref f, .ref s, .ref l, .ref m] ∧ IsR CR H f ((a : Rat) / (b : Rat)) ∧ IsR CR H s ((c : Rat) / (d : Rat)) ∧
  SqL K H l [V.int a, V.int b] ∧ SqL K H m [V.int c, V.int d] ∧ b ≠ 0 ∧ d ≠ 0 ∧ ZR.Sz 100 a ∧ ZR.Sz 100 b ∧ ZR.Sz 100 c ∧ ZR.Sz 100 d ∧ ∀ H', Same H H' → Q (.bl true) H'
def spList (CR : Addr) : Sp := fun vs H Q _ => vs.length = 3 ∧ ∃ (f s t : Addr) (p q r : Rat), vs = [.ref f, .ref s, .ref t] ∧ IsR CR H f p ∧ IsR CR H s q ∧ IsR CR H t r ∧ ZR.Bd 100 p ∧ ZR.Bd 100 q ∧ ZR.Bd 100 r ∧ ∀ H', Same H H' → Q (.bl true) H'
def spLaw (K : PySem.W.Frag) : Sp := fun vs H Q _ => vs.length = 1 ∧ ∃ (a : Addr) (ns : List Int), vs = [.ref a] ∧ SqL K H a (ns.map V.int) ∧ ∀ H', Q (.bl true) H'
section
variable {K : PySem.W.Frag} {CR CB a b c : Addr} {H : Hp} {Q : VK} {E : XK}
theorem i_common {i j : Int} (h : Q (.int ((Nat.gcd i.natAbs j.natAbs : Nat) : Int)) H) : spCommon [.int i, .int j] H Q E := ⟨rfl, i, j, rfl, h⟩
theorem i_terms {i j : Int} (h0 : j ≠ 0) (hz : ZR.Sz 8000 j) (h : ∀ p H', H p = none → Same H H' → H' p = some (.lst [V.int ((i : Rat) / (j : Rat)).num, V.int (((i : Rat) / (j : Rat)).den : Int)]) → Q (.ref p) H') : spTerms [.int i, .int j] H Q E := ⟨rfl, i, j, rfl, h0, hz, h⟩
theorem i_number (hp : Pool H a) (h : ∀ r H', ZR.Sz 100 r → (∀ b, b ≠ a → H' b = H b) → Pool H' a → Q (.int r) H') : spNumber [.ref a] H Q E := ⟨rfl, a, rfl, hp, h⟩
theorem i_is {i j : Int} {q : Rat} (hr : IsR CR H a q) (e : (i : Rat) / (j : Rat) = q) (h0 : j ≠ 0) (z1 : ZR.Sz 1000 i) (z2 : ZR.Sz 1000 j) (h : ∀ H', Same H H' → Q (.bl true) H') : spIs CR [.ref a, .int i, .int j] H Q E := by
  subst e
  exact ⟨rfl, a, i, j, rfl, hr, h0, z1, z2, h⟩
end
abbrev s_total : Stmt := top 14
theorem sc_total : FnScope ["ratios", "found", "ratio"] ["ratios"] (defScope s_total) := ⟨rfl, rfl, rfl, by decide +kernel, rfl, by decide +kernel, by decide +kernel⟩
theorem ok_total {P : Program} {w : World} {K : PySem.W.Frag} {mg : Str → Option Value} {base : Heap} {CR : Addr} {f : Addr} {fd : FuncData} (F : L2.Fun K "total" "total" s_total f fd)
    (C_gRatio : mg "Ratio" = some (.ref CR))
    (C_k_Ratio_whole : CalK P w K mg base CR "whole" 6 (spRWhole CR))
    (C_o_Ratio_add : CalO P w K mg base CR "__add__" 6 (spR2 CR (· + ·))) :
    FnOk P w K mg base (L2.CX P w) 7 f fd ["ratios"] (spTotal K CR) := by
  refine fnOk_mk F sc_total (fun vs H Q E h => h.1) (fun cdv A outer s H vs Q E hr h => ?_)
  obtain ⟨_, l, ps, rfl, hl, hlen, hr0, hb, k⟩ := h
  refine ⟨_, pss_cons (ps_set (i := 1) sc_total.nd rfl (Or.inl rfl) (z_cmethC (pe_glob (v := .ref CR) rfl C_gRatio rfl) C_k_Ratio_whole hr passN (pa_cons pe_int pa_nil)))
    (pss_cons (ps_for (passes_of rfl) rfl (k_list (K := K) rfl (pv 0)) (pg_name (i := 2) sc_total.nd rfl (Or.inl rfl)) (pss_one (ps_set (i := 1) sc_total.nd rfl (Or.inl rfl) (pe_op (z_op C_o_Ratio_add hr) (pv 1) (pv 2)))))
    (pss_one (ps_ret (pv 1)))), ?_⟩
  try dsimp only [cxOf]
  walk_at "rd"
  refine ⟨rfl, ?_⟩
  walk_at "rd"
  refine i_whole fun c H1 hc s1 hr1 => ?_
  walk_at "rd"
  refine i_forL (fun i σ H' => ∃ c v, σ = [some (.ref l), some (.ref c), v] ∧ Same H H' ∧ H c = none ∧ IsR CR H' c (sumR (ps.take i)) ∧ ZR.Bd (101 * 2 ^ i - 1) (sumR (ps.take i))) (s1.seq hl)
    ⟨c, none, rfl, s1, hc, hr1, bd0 (by decide)⟩ (fun i σ H' _ => fun ⟨_, _, _, s, _⟩ => s.seq hl) ?_ ?_
  · rintro i x σ H2 hi ⟨c2, v, rfl, s2, hc2, hr2, bd2⟩
    have hlt : i < ps.length := by
      have := (List.getElem?_eq_some_iff.mp hi).1
      unfold rfs at this
      simpa using this
    obtain rfl : x = V.ref ps[i].1 := by
      unfold rfs at hi
      simpa [hlt] using hi.symm
    have hm : ps[i] ∈ ps := List.getElem_mem hlt
    walk_at "rd"
    have h807 : 101 * 2 ^ i - 1 ≤ 807 := by
      have : i ≤ 3 := by omega
      have : (2 : Nat) ^ i ≤ 2 ^ 3 := Nat.pow_le_pow_right (by decide) this
      omega
    refine i_R2 hr2 ((hr0 _ hm).mono s2) (bd2.mono (by omega)) ((hb _ hm).mono (by decide)) fun d H3 hd s3 hr3 => ?_
    walk_at "rd"
    have e : sumR (ps.take (i + 1)) = sumR (ps.take i) + ps[i].2 := by
      unfold sumR
      rw [List.take_succ_eq_append_getElem hlt, List.foldl_append]
      rfl
    refine ⟨d, _, rfl, s2.trans s3, s2.free hd, ?_, ?_⟩
    · rw [e]
      exact hr3
    · rw [e]
      have hge : 100 ≤ 101 * 2 ^ i - 1 := by
        have := Nat.one_le_two_pow (n := i)
        omega
      have b3 := bd2.add ((hb _ hm).mono hge)
      have e2 : 101 * 2 ^ i - 1 + (101 * 2 ^ i - 1) + 1 = 101 * 2 ^ (i + 1) - 1 := by
        have := Nat.one_le_two_pow (n := i)
        rw [Nat.pow_succ]
        omega
      rw [e2] at b3
      exact b3
  · rintro σ H2 ⟨c2, v, rfl, s2, hc2, hr2, bd2⟩
    walk_at "rd"
    have e : ps.take (rfs ps).length = ps := by
      unfold rfs
      simp
    rw [e] at hr2
    exact k c2 H2 hc2 s2 hr2
theorem nlt_trans {x y z : Rat} (h : x < y) (g : ¬ x < z) : ¬ y < z := by grind
theorem take_succ_mem {ps : List (Addr × Rat)} {i : Nat} (hlt : i < ps.length) {y : Addr × Rat} (h : y ∈ ps.take (i + 1)) : y ∈ ps.take i ∨ y = ps[i] := by
  rw [List.take_succ_eq_append_getElem hlt] at h
  rcases List.mem_append.mp h with h | h
  · exact .inl h
  · exact .inr (List.mem_singleton.mp h)
abbrev s_greatest : Stmt := top 15
theorem sc_greatest : FnScope ["ratios", "best", "ratio"] ["ratios"] (defScope s_greatest) := ⟨rfl, rfl, rfl, by decide +kernel, rfl, by decide +kernel, by decide +kernel⟩
theorem ok_greatest {P : Program} {w : World} {K : PySem.W.Frag} {mg : Str → Option Value} {base : Heap} {CR : Addr} {f : Addr} {fd : FuncData} (F : L2.Fun K "greatest" "greatest" s_greatest f fd)
    (C_c_Ratio : ClO K CR)
    (C_m_Ratio_under : CalM P w K mg base CR "under" 1 (spRUnder CR)) :
    FnOk P w K mg base (L2.CX P w) 2 f fd ["ratios"] (spGreatest K CR) := by
  refine fnOk_mk F sc_greatest (fun vs H Q E h => h.1) (fun cdv A outer s H vs Q E hr h => ?_)
  obtain ⟨_, l, p0, ps', rfl, hl, hr0, hb, k⟩ := h
  generalize hps : p0 :: ps' = ps at hl hr0 hb k
  refine ⟨_, pss_cons (ps_set (i := 1) sc_greatest.nd rfl (Or.inl rfl) (pe_ix ix_list (pv 0) pe_int (fun _ _ => rfl)))
    (pss_cons (ps_for (passes_of rfl) rfl (k_list (K := K) rfl (pv 0)) (pg_name (i := 2) sc_greatest.nd rfl (Or.inl rfl)) (pss_one (ps_if (pt_val (z_methC (pv 1) C_c_Ratio.toCls C_m_Ratio_under hr passN (pa_cons (pv 2) pa_nil))) (pss_one (ps_set (i := 1) sc_greatest.nd rfl (Or.inl rfl) (pv 2))) (pss_nil))))
    (pss_one (ps_ret (pv 1)))), ?_⟩
  try dsimp only [cxOf]
  walk_at "rd"
  have h0 : p0 ∈ ps := by rw [← hps]; exact List.mem_cons_self
  have hl0 := hl
  rw [← hps] at hl0
  refine i_ix0 (x0 := V.ref p0.1) (xs := rfs ps') hl0 ?_
  walk_at "rd"
  refine i_forL (fun i σ H' => ∃ x v, σ = [some (.ref l), some (.ref x.1), v] ∧ Same H H' ∧ x ∈ ps ∧ ∀ y ∈ ps.take i, ¬ x.2 < y.2) hl
    ⟨p0, none, rfl, Same.refl _, h0, fun y hy => by simp at hy⟩ (fun i σ H' _ => fun ⟨_, _, _, s, _⟩ => s.seq hl) ?_ ?_
  · rintro i x σ H2 hi ⟨z, v, rfl, s2, hz, hn⟩
    have hlt : i < ps.length := by
      have := (List.getElem?_eq_some_iff.mp hi).1
      unfold rfs at this
      simpa using this
    obtain rfl : x = V.ref ps[i].1 := by
      unfold rfs at hi
      simpa [hlt] using hi.symm
    have hm : ps[i] ∈ ps := List.getElem_mem hlt
    walk_at "rd"
    refine i_under0 ((hr0 _ hz).mono s2) ?_
    walk_at "rd"
    refine i_under ((hr0 _ hz).mono s2) ((hr0 _ hm).mono s2) ((hb _ hz).mono (by decide)) ((hb _ hm).mono (by decide)) fun H3 s3 => ?_
    walk_at "rd"
    refine i_dec (fun e => ?_) (fun e => ?_)
    · walk_at "rd"
      refine ⟨ps[i], _, rfl, s2.trans s3, hm, fun y hy => ?_⟩
      rcases take_succ_mem hlt hy with h1 | rfl
      · exact nlt_trans e (hn y h1)
      · exact Rat.lt_irrefl
    · walk_at "rd"
      refine ⟨z, _, rfl, s2.trans s3, hz, fun y hy => ?_⟩
      rcases take_succ_mem hlt hy with h1 | rfl
      · exact hn y h1
      · exact e
  · rintro σ H2 ⟨z, v, rfl, s2, hz, hn⟩
    walk_at "rd"
    refine k z H2 hz (fun y hy => hn y ?_) s2
    have e : ps.take (rfs ps).length = ps := by
      unfold rfs
      simp
    rw [e]
    exact hy
theorem ok_greatest__T {P : Program} {w : World} {K : PySem.W.Frag} {mg : Str → Option Value} {base : Heap} {CR : Addr} {f : Addr} {fd : FuncData} (F : L2.Fun K "greatest" "greatest" s_greatest f fd)
    (C_c_Ratio : ClO K CR)
    (C_m_Ratio_under : CalM P w K mg base CR "under" 1 (spRUnder CR)) :
    FnOk P w K mg base (L2.CX P w) 2 f fd ["ratios"] (spGreatestT K CR) := by
  refine fnOk_mk F sc_greatest (fun vs H Q E h => h.1) (fun cdv A outer s H vs Q E hr h => ?_)
  obtain ⟨_, l, p0, ps', rfl, hl, hr0, hb, k⟩ := h
  generalize hps : p0 :: ps' = ps at hl hr0 hb k
  refine ⟨_, pss_cons (ps_set (i := 1) sc_greatest.nd rfl (Or.inl rfl) (pe_ix ix_tup (pv 0) pe_int (fun _ _ => rfl)))
    (pss_cons (ps_for (passes_of rfl) rfl (k_tupI (K := K) rfl (pv 0)) (pg_name (i := 2) sc_greatest.nd rfl (Or.inl rfl)) (pss_one (ps_if (pt_val (z_methC (pv 1) C_c_Ratio.toCls C_m_Ratio_under hr passN (pa_cons (pv 2) pa_nil))) (pss_one (ps_set (i := 1) sc_greatest.nd rfl (Or.inl rfl) (pv 2))) (pss_nil))))
    (pss_one (ps_ret (pv 1)))), ?_⟩
  try dsimp only [cxOf]
  walk_at "rd"
  have h0 : p0 ∈ ps := by rw [← hps]; exact List.mem_cons_self
  have hl0 := hl
  rw [← hps] at hl0
  refine i_ixT0 (x0 := V.ref p0.1) (xs := rfs ps') hl0 ?_
  walk_at "rd"
  refine i_forT (fun i σ H' => ∃ x v, σ = [some (.ref l), some (.ref x.1), v] ∧ Same H H' ∧ x ∈ ps ∧ ∀ y ∈ ps.take i, ¬ x.2 < y.2) hl
    ⟨p0, none, rfl, Same.refl _, h0, fun y hy => by simp at hy⟩ (fun i σ H' _ => fun ⟨_, _, _, s, _⟩ => Same_seqT s hl) ?_ ?_
  · rintro i x σ H2 hi ⟨z, v, rfl, s2, hz, hn⟩
    have hlt : i < ps.length := by
      have := (List.getElem?_eq_some_iff.mp hi).1
      unfold rfs at this
      simpa using this
    obtain rfl : x = V.ref ps[i].1 := by
      unfold rfs at hi
      simpa [hlt] using hi.symm
    have hm : ps[i] ∈ ps := List.getElem_mem hlt
    walk_at "rd"
    refine i_under0 ((hr0 _ hz).mono s2) ?_
    walk_at "rd"
    refine i_under ((hr0 _ hz).mono s2) ((hr0 _ hm).mono s2) ((hb _ hz).mono (by decide)) ((hb _ hm).mono (by decide)) fun H3 s3 => ?_
    walk_at "rd"
    refine i_dec (fun e => ?_) (fun e => ?_)
    · walk_at "rd"
      refine ⟨ps[i], _, rfl, s2.trans s3, hm, fun y hy => ?_⟩
      rcases take_succ_mem hlt hy with h1 | rfl
      · exact nlt_trans e (hn y h1)
      · exact Rat.lt_irrefl
    · walk_at "rd"
      refine ⟨z, _, rfl, s2.trans s3, hz, fun y hy => ?_⟩
      rcases take_succ_mem hlt hy with h1 | rfl
      · exact hn y h1
      · exact e
  · rintro σ H2 ⟨z, v, rfl, s2, hz, hn⟩
    walk_at "rd"
    refine k z H2 hz (fun y hy => hn y ?_) s2
    have e : ps.take (rfs ps).length = ps := by
      unfold rfs
      simp
    rw [e]
    exact hy
abbrev s__law_pool : Stmt := top 17
theorem sc__law_pool : FnScope ["_law_cell_here"] ["_law_cell_here"] (defScope s__law_pool) := ⟨rfl, rfl, rfl, by decide +kernel, rfl, by decide +kernel, by decide +kernel⟩
theorem ok__law_pool {P : Program} {w : World} {K : PySem.W.Frag} {mg : Str → Option Value} {base : Heap} {f : Addr} {fd : FuncData} (F : L2.Fun K "_law_pool" "_law_pool" s__law_pool f fd) :
    FnOk P w K mg base (L2.CX P w) 1 f fd ["_law_cell_here"] spPool := by
  refine fnOk_mk F sc__law_pool (fun vs H Q E h => h.1) (fun cdv A outer s H vs Q E hr h => ?_)
  obtain ⟨_, c, rfl, k⟩ := h
  refine ⟨_, pss_one (ps_ret (pe_lst (pa_cons (pv 0) (pa_cons pe_int (pa_cons (pe_cmpR op_ge (pv 0) (pe_op op_pow pe_int pe_int) (nomark _)) pa_nil))))), ?_⟩
  try dsimp only [cxOf]
  walk_at "rd"
  walk_at "rd"
  refine i_lst1 (Nat.le_of_ble_eq_true rfl) fun p H2 hp s e ho => ?_
  exact k p H2 hp s ho ⟨_, _, _, e⟩
abbrev s__law_cell : Stmt := top 19
theorem sc__law_cell : FnScope ["_law_script", "_law_k"] ["_law_script", "_law_k"] (defScope s__law_cell) := ⟨rfl, rfl, rfl, by decide +kernel, rfl, by decide +kernel, by decide +kernel⟩
theorem ok__law_cell {P : Program} {w : World} {K : PySem.W.Frag} {mg : Str → Option Value} {base : Heap} {f : Addr} {fd : FuncData} (F : L2.Fun K "_law_cell" "_law_cell" s__law_cell f fd)
    (C_b_len : mg "len" = none) :
    FnOk P w K mg base (L2.CX P w) 1 f fd ["_law_script", "_law_k"] (spCell K) := by
  refine fnOk_mk F sc__law_cell (fun vs H Q E h => h.1) (fun cdv A outer s H vs Q E hr h => ?_)
  obtain ⟨_, a, ns, i, rfl, hs, k⟩ := h
  refine ⟨_, pss_cons (ps_if (pt_cmpR op_lt (pv 1) (pe_callB (k_len (K := K) rfl) (by rfl) C_b_len (by decide +kernel) (pa_cons (pv 0) pa_nil)) (nomark _)) (pss_one (ps_ret (pe_ix ix_list (pv 0) (pv 1) (fun _ _ => rfl)))) (pss_nil))
    (pss_one (ps_ret pe_int)), ?_⟩
  try dsimp only [cxOf]
  walk_at "rd"
  refine ⟨a, _, rfl, .inl hs, ?_⟩
  walk_at "rd"
  refine i_dec (fun e => ?_) (fun e => ?_)
  · walk_at "rd"
    have hlt : i < ns.length := by
      rw [List.length_map] at e
      omega
    refine i_ixL hs (v := V.int ns[i]) (by simp [hlt]) ?_
    exact k _
  · walk_at "rd"
    exact k 0
abbrev s__law_common : Stmt := top 20
theorem sc__law_common : FnScope ["_law_a", "_law_b", "_law_first", "_law_second"] ["_law_a", "_law_b"] (defScope s__law_common) := ⟨rfl, rfl, rfl, by decide +kernel, rfl, by decide +kernel, by decide +kernel⟩
theorem ok__law_common {P : Program} {w : World} {K : PySem.W.Frag} {mg : Str → Option Value} {base : Heap} {f : Addr} {fd : FuncData} (F : L2.Fun K "_law_common" "_law_common" s__law_common f fd)
    (C_b_abs : mg "abs" = none) :
    FnOk P w K mg base (L2.CX P w) 1 f fd ["_law_a", "_law_b"] spCommon := by
  refine fnOk_mk F sc__law_common (fun vs H Q E h => h.1) (fun cdv A outer s H vs Q E hr h => ?_)
  obtain ⟨_, a, b, rfl, k⟩ := h
  refine ⟨_, pss_cons (ps_par (i := 2) (j := 3) (by rfl) sc__law_common.nd rfl rfl (by decide) rfl rfl (pa_cons (pe_callB call_abs (by rfl) C_b_abs (by decide +kernel) (pa_cons (pv 0) pa_nil)) (pa_cons (pe_callB call_abs (by rfl) C_b_abs (by decide +kernel) (pa_cons (pv 1) pa_nil)) pa_nil)) (by rfl))
    (pss_cons (ps_while (passes_of rfl) (pt_cmpR op_gt (pv 3) pe_int (nomark _)) (pss_one (ps_par (i := 2) (j := 3) (by rfl) sc__law_common.nd rfl rfl (by decide) rfl rfl (pa_cons (pv 3) (pa_cons (pe_op op_mod (pv 2) (pv 3)) pa_nil)) (by rfl))))
    (pss_one (ps_ret (pv 2)))), ?_⟩
  try dsimp only [cxOf]
  walk_at "rd"
  refine ⟨a, rfl, ?_⟩
  walk_at "rd"
  refine ⟨b, rfl, ?_⟩
  walk_at "rd"
  refine while_by (fun σ H' => ∃ f s : Int, σ = [some (.int a), some (.int b), some (.int f), some (.int s)] ∧ H' = H ∧ 0 ≤ f ∧ 0 ≤ s ∧ Nat.gcd f.natAbs s.natAbs = Nat.gcd a.natAbs b.natAbs)
    (fun σ _ => match σ with | [_, _, _, some (.int s)] => s.natAbs | _ => 0) ⟨_, _, rfl, rfl, ?_, ?_, ?_⟩ ?_ ?_
  · split <;> omega
  · split <;> omega
  · congr 1 <;> split <;> omega
  · rintro σ H2 ⟨f, s, rfl, rfl, hf, hs, hg⟩
    walk_at "rd"
    refine i_dec (fun e => ?_) (fun e => ?_)
    · iterate 9 walk_at "r1"
      refine ⟨_, _, rfl, ?_⟩
      refine ⟨⟨_, _, rfl, rfl, hs, Int.emod_nonneg _ (by omega), ?_⟩, ?_⟩
      · rw [ZR.euclid_step hf e]
        exact hg
      · show (f % s).natAbs < s.natAbs
        have := Int.emod_lt_of_pos f e
        have := Int.emod_nonneg f (show s ≠ 0 by omega)
        omega
    · have : s = 0 := by omega
      subst this
      walk_at "rd"
      have e2 : f = ((Nat.gcd a.natAbs b.natAbs : Nat) : Int) := by
        rw [← hg]
        simp
        omega
      rw [e2]
      exact k
  · intro σ H Q Q' kk h
    obtain ⟨y, e, q⟩ := h
    refine ⟨y, e, ?_⟩
    obtain ⟨i, j, ei, ej, q⟩ := q
    refine ⟨i, j, ei, ej, ?_⟩
    obtain ⟨c, ec, q⟩ := q
    exact ⟨c, ec, kk _ _ q⟩
abbrev s__law_take : Stmt := top 18
theorem sc__law_take : FnScope ["_law_pool_here", "_law_limit", "_law_drawn", "_law_mixed"] ["_law_pool_here", "_law_limit"] (defScope s__law_take) := ⟨rfl, rfl, rfl, by decide +kernel, rfl, by decide +kernel, by decide +kernel⟩
theorem ok__law_take {P : Program} {w : World} {K : PySem.W.Frag} {mg : Str → Option Value} {base : Heap} {f : Addr} {fd : FuncData} (F : L2.Fun K "_law_take" "_law_take" s__law_take f fd)
    (C_b_int : mg "int" = none) :
    FnOk P w K mg base (L2.CX P w) 1 f fd ["_law_pool_here", "_law_limit"] spTake := by
  refine fnOk_mk F sc__law_take (fun vs H Q E h => h.1) (fun cdv A outer s H vs Q E hr h => ?_)
  obtain ⟨_, p, l, rfl, ⟨c, k0, fl, hp⟩, h0, hz, k⟩ := h
  refine ⟨_, pss_cons (ps_asg (pe_op op_add (pe_ix ix_list (pv 0) pe_int (fun _ _ => rfl)) pe_int) (pg_sub (pv 0) pe_int set_list))
    (pss_cons (ps_if (pt_val (pe_ix ix_list (pv 0) pe_int (fun _ _ => rfl))) (pss_cons (ps_set (i := 2) sc__law_take.nd rfl (Or.inl rfl) (pe_op op_mod (pe_callTy call_int1 (by rfl) C_b_int (by decide +kernel) (pa_cons (pe_ix ix_list (pv 0) pe_int (fun _ _ => rfl)) pa_nil)) (pv 1)))
    (pss_cons (ps_asg (pe_op op_fdivZ (pe_callTy call_int1 (by rfl) C_b_int (by decide +kernel) (pa_cons (pe_ix ix_list (pv 0) pe_int (fun _ _ => rfl)) pa_nil)) (pv 1)) (pg_sub (pv 0) pe_int set_list))
    (pss_one (ps_ret (pv 2))))) (pss_nil))
    (pss_cons (ps_set (i := 3) sc__law_take.nd rfl (Or.inl rfl) (pe_op op_mod (pe_callTy call_int1 (by rfl) C_b_int (by decide +kernel) (pa_cons (pe_op op_add (pe_op op_add (pe_op op_mul (pe_ix ix_list (pv 0) pe_int (fun _ _ => rfl)) pe_int) (pe_op op_mul (pe_ix ix_list (pv 0) pe_int (fun _ _ => rfl)) pe_int)) pe_int) pa_nil)) pe_int))
    (pss_one (ps_ret (pe_op op_mod (pe_op op_fdivZ (pe_callTy call_int1 (by rfl) C_b_int (by decide +kernel) (pa_cons (pe_op op_mod (pe_op op_pow (pv 3) pe_int) pe_int) pa_nil)) pe_int) (pv 1)))))), ?_⟩
  try dsimp only [cxOf]
  walk_at "rd"
  refine i_ix1 (SqL.of hp) ?_
  walk_at "rd"
  refine i_setL (ys := [V.int c, V.int (k0 + 1), V.bl fl]) hp rfl rfl fun H2 e2 s2 => ?_
  have cl : ∀ i, CDivZ i l := fun i => cdivZ (by omega) hz
  walk_at "rd"
  refine i_ix2 (SqL.of e2) ?_
  walk_at "rd"
  cases fl
  · walk_at "rd"
    refine i_ix0 (SqL.of e2) ?_
    walk_at "rd"
    refine i_ix1 (SqL.of e2) ?_
    walk_at "rd"
    refine .inl ⟨_, rfl, ?_⟩
    walk_at "rd"
    refine i_rI ⟨by decide, by decide, ?_⟩ ?_
    · have h1 := Int.emod_lt_of_pos (c * 7919 + (k0 + 1) * 104729 + 13) (show (0 : Int) < 2147483647 by decide)
      have h2 := Int.emod_nonneg (c * 7919 + (k0 + 1) * 104729 + 13) (show (2147483647 : Int) ≠ 0 by decide)
      omega
    walk_at "rd"
    refine .inl ⟨_, rfl, ?_⟩
    walk_at "rd"
    exact k _ H2 (Int.emod_nonneg _ (by omega)) (Int.emod_lt_of_pos _ h0) s2 ⟨_, _, _, e2⟩
  · walk_at "rd"
    refine i_ix0 (SqL.of e2) ?_
    walk_at "rd"
    refine .inl ⟨_, rfl, ?_⟩
    walk_at "rd"
    refine i_ix0 (SqL.of e2) ?_
    walk_at "rd"
    refine .inl ⟨_, rfl, ?_⟩
    walk_at "rd"
    refine i_rI (cl _) ?_
    walk_at "rd"
    refine i_setL (ys := [V.int (c.fdiv l), V.int (k0 + 1), V.bl true]) e2 rfl rfl fun H3 e3 s3 => ?_
    walk_at "rd"
    exact k _ H3 (Int.emod_nonneg _ (by omega)) (Int.emod_lt_of_pos _ h0) (fun b hb => (s3 b hb).trans (s2 b hb)) ⟨_, _, _, e3⟩
abbrev s__law_terms : Stmt := top 21
theorem sc__law_terms : FnScope ["_law_a", "_law_b", "_law_part"] ["_law_a", "_law_b"] (defScope s__law_terms) := ⟨rfl, rfl, rfl, by decide +kernel, rfl, by decide +kernel, by decide +kernel⟩
theorem ok__law_terms {P : Program} {w : World} {K : PySem.W.Frag} {mg : Str → Option Value} {base : Heap} {f : Addr} {fd : FuncData} (F : L2.Fun K "_law_terms" "_law_terms" s__law_terms f fd)
    (C_f_law_common : Cal P w K mg base "_law_common" 1 spCommon) :
    FnOk P w K mg base (L2.CX P w) 2 f fd ["_law_a", "_law_b"] spTerms := by
  refine fnOk_mk F sc__law_terms (fun vs H Q E h => h.1) (fun cdv A outer s H vs Q E hr h => ?_)
  obtain ⟨_, a, b, rfl, hb, hz, k⟩ := h
  have gz : ((Nat.gcd a.natAbs b.natAbs : Nat) : Int).natAbs.log2 < 9000 := PySem.Flt.log2_lt_of (by decide) (show Nat.gcd a.natAbs b.natAbs < 2 ^ 9000 from Nat.lt_of_le_of_lt (Nat.gcd_le_right a.natAbs (show 0 < b.natAbs by omega)) (ZR.Sz.mono hz (by decide)))
  have g0 := ZR.gcd_ne a hb
  have tail : ∀ p : Int, p ≠ 0 → p.natAbs.log2 < 9000 → p = ZR.sg a b → tRet (tLst (tCons (tOp (rI CDivZ fun i j => V.int (i.fdiv j)) (tVar 0) (tVar 2)) (tCons (tOp (rI CDivZ fun i j => V.int (i.fdiv j)) (tVar 1) (tVar 2)) tNil)))
      { nx := fun x H' => Q V.non H', rt := Q } [some (V.int a), some (V.int b), some (V.int p)] H := by
    intro p p0 pz e
    have cd : CDivZ a p := ⟨p0, pz⟩
    have cd2 : CDivZ b p := ⟨p0, pz⟩
    walk_at "rd"
    refine i_lst1 (Nat.le_of_ble_eq_true rfl) fun q H2 hq s e2 ho => ?_
    subst e
    rw [ZR.norm_num a b hb, ZR.norm_den a b hb] at e2
    exact k q H2 hq s e2
  refine ⟨_, pss_cons (ps_set (i := 2) sc__law_terms.nd rfl (Or.inl rfl) (z_callC C_f_law_common hr passN (pa_cons (pv 0) (pa_cons (pv 1) pa_nil))))
    (pss_cons (ps_if (pt_cmpR op_lt (pv 1) pe_int (nomark _)) (pss_one (ps_set (i := 2) sc__law_terms.nd rfl (Or.inl rfl) (pe_un un_neg (pv 2)))) (pss_nil))
    (pss_one (ps_ret (pe_lst (pa_cons (pe_op op_fdivZ (pv 0) (pv 2)) (pa_cons (pe_op op_fdivZ (pv 1) (pv 2)) pa_nil)))))), ?_⟩
  try dsimp only [cxOf]
  walk_at "rd"
  refine i_common ?_
  walk_at "rd"
  refine i_dec (fun e1 => ?_) (fun e1 => ?_)
  · iterate 5 walk_at "r1"
    refine tail _ (by omega) (by rw [Int.natAbs_neg]; exact gz) (by unfold ZR.sg; rw [if_pos e1])
  · refine tail _ g0 gz (by unfold ZR.sg; rw [if_neg e1])
abbrev s__law_number : Stmt := top 22
theorem sc__law_number : FnScope ["_law_pool_here", "_law_which"] ["_law_pool_here"] (defScope s__law_number) := ⟨rfl, rfl, rfl, by decide +kernel, rfl, by decide +kernel, by decide +kernel⟩
theorem ok__law_number {P : Program} {w : World} {K : PySem.W.Frag} {mg : Str → Option Value} {base : Heap} {f : Addr} {fd : FuncData} (F : L2.Fun K "_law_number" "_law_number" s__law_number f fd)
    (C_f_law_take : Cal P w K mg base "_law_take" 1 spTake) :
    FnOk P w K mg base (L2.CX P w) 2 f fd ["_law_pool_here"] spNumber := by
  refine fnOk_mk F sc__law_number (fun vs H Q E h => h.1) (fun cdv A outer s H vs Q E hr h => ?_)
  obtain ⟨_, p, rfl, hp, k⟩ := h
  refine ⟨_, pss_cons (ps_set (i := 1) sc__law_number.nd rfl (Or.inl rfl) (z_callC C_f_law_take hr passN (pa_cons (pv 0) (pa_cons pe_int pa_nil))))
    (pss_cons (ps_if (pt_cmpR op_eq (pv 1) pe_int (nomark _)) (pss_one (ps_ret (pe_op op_sub (z_callC C_f_law_take hr passN (pa_cons (pv 0) (pa_cons (pe_op op_pow pe_int pe_int) pa_nil))) (pe_op op_pow pe_int pe_int)))) (pss_nil))
    (pss_cons (ps_if (pt_cmpR op_eq (pv 1) pe_int (nomark _)) (pss_one (ps_ret pe_int)) (pss_nil))
    (pss_one (ps_ret (pe_op op_sub (z_callC C_f_law_take hr passN (pa_cons (pv 0) (pa_cons pe_int pa_nil))) pe_int))))), ?_⟩
  try dsimp only [cxOf]
  walk_at "rd"
  refine i_take hp (by decide) (ZR.sz_of (by decide)) fun r H2 r0 r4 s2 hp2 => ?_
  walk_at "rd"
  refine i_dec (fun e => ?_) (fun e => ?_)
  · walk_at "rd"
    refine i_take hp2 (by decide) (ZR.sz_of (by decide)) fun r H3 r0 r4 s3 hp3 => ?_
    walk_at "rd"
    refine k _ H3 ?_ (fun b hb => (s3 b hb).trans (s2 b hb)) hp3
    have e1 : (10 : Int) ^ Int.toNat 30 = 1000000000000000000000000000000 := by decide
    have e2 : (10 : Int) ^ Int.toNat 29 = 100000000000000000000000000000 := by decide
    rw [e1] at r4
    rw [e2]
    unfold ZR.Sz
    have e3 : (2 : Nat) ^ 100 = 1267650600228229401496703205376 := by decide
    rw [e3]
    omega
  · walk_at "rd"
    refine i_dec (fun e => ?_) (fun e => ?_)
    · walk_at "rd"
      exact k _ H2 ZR.sz0 s2 hp2
    · walk_at "rd"
      refine i_take hp2 (by decide) (ZR.sz_of (by decide)) fun r H3 r0 r4 s3 hp3 => ?_
      walk_at "rd"
      refine k _ H3 ?_ (fun b hb => (s3 b hb).trans (s2 b hb)) hp3
      unfold ZR.Sz
      have e3 : (2 : Nat) ^ 100 = 1267650600228229401496703205376 := by decide
      rw [e3]
      omega
abbrev s__law_is : Stmt := top 23
theorem sc__law_is : FnScope ["_law_told", "_law_a", "_law_b", "_law_due"] ["_law_told", "_law_a", "_law_b"] (defScope s__law_is) := ⟨rfl, rfl, rfl, by decide +kernel, rfl, by decide +kernel, by decide +kernel⟩
theorem ok__law_is {P : Program} {w : World} {K : PySem.W.Frag} {mg : Str → Option Value} {base : Heap} {CB CR : Addr} {f : Addr} {fd : FuncData} (F : L2.Fun K "_law_is" "_law_is" s__law_is f fd)
    (C_b_bool : mg "bool" = none)
    (C_b_isinstance : mg "isinstance" = none)
    (C_c_Ratio : ClO K CR)
    (C_f_law_terms : Cal P w K mg base "_law_terms" 2 spTerms)
    (C_gRatio : mg "Ratio" = some (.ref CR))
    (C_i_Ratio : CalI P w K mg base "Ratio" CR 4 (spRInit CR CB))
    (C_ki_Ratio_Ratio : PySem.W.kitOne K (.ref CR) (.ref CR) = some true)
    (C_na_Ratio_bottom : NoAttr K CR "bottom")
    (C_na_Ratio_top : NoAttr K CR "top")
    (C_ne_Ratio : NeC K CR)
    (C_o_Ratio_bool : CalO P w K mg base CR "__bool__" 1 (spRBool CR))
    (C_o_Ratio_eq : CalO P w K mg base CR "__eq__" 1 (spREq K CR)) :
    FnOk P w K mg base (L2.CX P w) 6 f fd ["_law_told", "_law_a", "_law_b"] (spIs CR) := by
  refine fnOk_mk F sc__law_is (fun vs H Q E h => h.1) (fun cdv A outer s H vs Q E hr h => ?_)
  obtain ⟨_, t, a, b, rfl, ht, hb, za, zb, k⟩ := h
  refine ⟨_, pss_cons (ps_set (i := 3) sc__law_is.nd rfl (Or.inl rfl) (z_callC C_f_law_terms hr passN (pa_cons (pv 1) (pa_cons (pv 2) pa_nil))))
    (pss_cons (ps_if (PW.pt (pw_or (pt_not (pt_val (pe_callB call_isi (by rfl) C_b_isinstance (by decide +kernel) (pa_cons (pv 0) (pa_cons ((pe_glob (v := .ref CR) rfl C_gRatio rfl)) pa_nil))))) (pw_or1 (pt_cmpR (k_neD (K := K) rfl hr.units) (pe_lst (pa_cons (pe_fld (pv 0) rfl) (pa_cons (pe_fld (pv 0) rfl) pa_nil))) (pv 3) (nomark _))))) (pss_one (ps_ret pe_bl)) (pss_nil))
    (pss_cons (ps_if (pt_cmpR op_ne (pe_callTy (z_bool C_o_Ratio_bool hr) (by rfl) C_b_bool (by decide +kernel) (pa_cons (pv 0) pa_nil)) (pe_cmpR op_ne (pv 1) pe_int (nomark _)) (nomark _)) (pss_one (ps_ret pe_bl)) (pss_nil))
    (pss_cons (ps_if (pt_cmpR (z_neO C_o_Ratio_eq C_ne_Ratio hr) (pv 0) (z_makeC C_i_Ratio hr passN (pa_cons (pv 1) (pa_cons (pv 2) pa_nil))) (nomark _)) (pss_one (ps_ret pe_bl)) (pss_nil))
    (pss_cons (ps_if (pt_cmpR (z_neO C_o_Ratio_eq C_ne_Ratio hr) (pv 0) (z_makeC C_i_Ratio hr passN (pa_cons (pe_op op_mulW (pe_un un_neg pe_int) (pv 1)) (pa_cons (pe_op op_mulW (pe_un un_neg pe_int) (pv 2)) pa_nil))) (nomark _)) (pss_one (ps_ret pe_bl)) (pss_nil))
    (pss_one (ps_ret (pe_not (pe_callB call_isi (by rfl) C_b_isinstance (by decide +kernel) (pa_cons (pe_fld (pv 0) rfl) (pa_cons ((pe_bltn (v := .ty "bool") rfl C_b_bool (by decide +kernel) rfl)) pa_nil)))))))))), ?_⟩
  try dsimp only [cxOf]
  walk_at "rd"
  refine i_terms hb (zb.mono (by decide)) fun p H2 hp s2 e2 => ?_
  walk_at "rd"
  obtain ⟨dt, et⟩ := id (ht.mono s2)
  refine i_isiO (C_c_Ratio.ty et) (b := true) C_ki_Ratio_Ratio ?_
  walk_at "rd"
  refine i_lst1 (Nat.le_of_ble_eq_true rfl) fun p3 H3 hp3 s3 e3 ho3 => ?_
  walk_at "rd"
  refine i_neLI (ns := [((a : Rat) / (b : Rat)).num, (((a : Rat) / (b : Rat)).den : Int)]) (ms := [((a : Rat) / (b : Rat)).num, (((a : Rat) / (b : Rat)).den : Int)]) (SqL.of e3) (SqL.of (s3 _ _ e2)) ?_
  rw [decide_eq_true rfl]
  walk_at "rd"
  have ht3 := ht.mono (s2.trans s3)
  refine i_Rbool ht3 fun H4 s4 => ?_
  walk_at "rd"
  have eb : ((decide ((a : Rat) / (b : Rat) ≠ 0)) != (!decide (a = 0))) = false := by
    have h1 : ((a : Rat) / (b : Rat) ≠ 0) ↔ ¬ a = 0 := not_congr (ZR.f_zero a b hb)
    have h2 : decide ((a : Rat) / (b : Rat) ≠ 0) = !decide (a = 0) := by
      rw [← decide_not]
      exact decide_eq_decide.mpr h1
    rw [h2]
    simp
  rw [eb]
  walk_at "rd"
  refine i_newR hb (zb.mono (by decide)) fun q H5 hq s5 hr5 => ?_
  have ht5 := ht3.mono (s4.trans s5)
  refine i_Rne ht5 hr5 fun H6 s6 => ?_
  rw [decide_eq_true rfl]
  walk_at "rd"
  refine i_rI (cmulW (ZR.sz_of (n := 2) (by decide)) za) ?_
  walk_at "rd"
  refine i_rI (cmulW (ZR.sz_of (n := 2) (by decide)) zb) ?_
  walk_at "rd"
  refine i_newR (by omega) ?_ fun q7 H7 hq7 s7 hr7 => ?_
  · exact ((ZR.sz_of (n := 2) (by decide)).mul zb).mono (by decide)
  rw [ZR.f_neg3 a b hb] at hr7
  have ht7 := ht5.mono (s6.trans s7)
  refine i_Rne ht7 hr7 fun H8 s8 => ?_
  rw [decide_eq_true rfl]
  walk_at "rd"
  refine i_isiT (tyInt _) (b := false) (kit_ty (by decide +kernel)) ?_
  walk_at "rd"
  exact k H8 ((((((s2.trans s3).trans s4).trans s5).trans s6).trans s7).trans s8)
abbrev s__law_refused : Stmt := top 24
theorem sc__law_refused : FnScope ["_law_which", "_law_first", "e"] ["_law_which", "_law_first"] (defScope s__law_refused) := ⟨rfl, rfl, rfl, by decide +kernel, rfl, by decide +kernel, by decide +kernel⟩
theorem ok__law_refused {P : Program} {w : World} {K : PySem.W.Frag} {mg : Str → Option Value} {base : Heap} {CB CR : Addr} {f : Addr} {fd : FuncData} (F : L2.Fun K "_law_refused" "_law_refused" s__law_refused f fd)
    (C_c_Ratio : ClO K CR)
    (C_gBadNumber : mg "BadNumber" = some (.ref CB))
    (C_i_Ratio : CalI P w K mg base "Ratio" CR 4 (spRInit CR CB))
    (C_m_Ratio_quotient : CalM P w K mg base CR "quotient" 6 (spRQuot CR CB))
    (C_na_Ratio_top : NoAttr K CR "top")
    (C_xf_BadNumber : XfC K CB)
    (C_xm_BadNumber : PySem.W.exmOne K (.ref CB) (.ref CB) = some true)
    (C_xn_BadNumber_n : PySem.W.findIn K (.ref CB) "n" = some none) :
    FnOk P w K mg base (L2.CX P w) 7 f fd ["_law_which", "_law_first"] (spRefused CR) := by
  refine fnOk_mk F sc__law_refused (fun vs H Q E h => h.1) (fun cdv A outer s H vs Q E hr h => ?_)
  obtain ⟨_, i, r, p, rfl, hr0, bp, k⟩ := h
  refine ⟨_, pss_cons (ps_try_as (i := 2) rfl rfl sc__law_refused.nd rfl rfl ⟨rfl, by decide, .inl C_gBadNumber⟩ takes0 (fun W pn xe tk po => pss_one (ps_if (pt_cmpR op_eq (pv 0) pe_int (nomark _)) (pss_one (ps_expr (z_makeC C_i_Ratio hr (fun σ => passAt tk σ) (pa_cons (k_fld (K := K) rfl (pv 1) rfl) (pa_cons pe_int pa_nil))))) (pss_one (ps_expr (z_methC (pv 1) C_c_Ratio.toCls C_m_Ratio_quotient hr (fun σ => passAt tk σ) (pa_cons (z_makeC C_i_Ratio hr (fun σ => passAt tk σ) (pa_cons pe_int (pa_cons pe_int pa_nil))) pa_nil)))))) (fun a oe cls d pn hz hf => pss_one (ps_ret (pe_cmpR op_eq (pe_xf C_xf_BadNumber C_xn_BadNumber_n hz hf (pv 2)) pe_int (nomark _)))))
    (pss_one (ps_ret pe_bl)), ?_⟩
  try dsimp only [cxOf]
  walk_at "rd"
  have bad : ∀ H2 : Hp, Same H H2 → EBad CB 0 H2 (WE (wAs K (Value.ref CB) 2 (fun a cls d => tRet (tOp rEq (tXf a cls d CB "n" (tVar 2)) (tC (V.int 0)))) (fun _ _ _ _ => False)
      { nx := tRet (tC (V.bl false)) { nx := fun x H' => Q V.non H', rt := Q }, rt := Q }) [some (V.int i), some (V.ref r), none]) := by
    intro H2 s2 d H3 s3 e3
    refine i_was C_xm_BadNumber fun a ha => ?_
    walk_at "rd"
    refine i_xf1 e3 ?_
    walk_at "rd"
    rw [decide_eq_true rfl]
    exact k H3 (s2.trans s3)
  refine i_dec (fun e => ?_) (fun e => ?_)
  · walk_at "rd"
    exact i_newR0 (bad H (Same.refl _))
  · walk_at "rd"
    refine i_quot0 hr0 ?_
    walk_at "rd"
    refine i_newR (by decide) (ZR.sz_of (by decide +kernel)) fun q H2 hq s2 hr2 => ?_
    walk_at "rd"
    have e0 : ((0 : Int) : Rat) / ((5 : Int) : Rat) = 0 := (ZR.f_zero 0 5 (by decide)).mpr rfl
    rw [e0] at hr2
    exact i_quot00 (hr0.mono s2) hr2 bp (bad H2 s2)
abbrev s__law_pair_fits : Stmt := top 25
theorem sc__law_pair_fits : FnScope ["_law_first", "_law_second", "_law_one", "_law_other", "_law_a", "_law_b", "_law_c", "_law_d", "_law_less"] ["_law_first", "_law_second", "_law_one", "_law_other"] (defScope s__law_pair_fits) := ⟨rfl, rfl, rfl, by decide +kernel, rfl, by decide +kernel, by decide +kernel⟩
theorem ok__law_pair_fits {P : Program} {w : World} {K : PySem.W.Frag} {mg : Str → Option Value} {base : Heap} {CB CR : Addr} {f : Addr} {fd : FuncData} (F : L2.Fun K "_law_pair_fits" "_law_pair_fits" s__law_pair_fits f fd)
    (C_c_Ratio : ClO K CR)
    (C_f_law_is : Cal P w K mg base "_law_is" 6 (spIs CR))
    (C_m_Ratio_quotient : CalM P w K mg base CR "quotient" 6 (spRQuot CR CB))
    (C_m_Ratio_under : CalM P w K mg base CR "under" 1 (spRUnder CR))
    (C_o_Ratio_add : CalO P w K mg base CR "__add__" 6 (spR2 CR (· + ·)))
    (C_o_Ratio_eq : CalO P w K mg base CR "__eq__" 1 (spREq K CR))
    (C_o_Ratio_mul : CalO P w K mg base CR "__mul__" 6 (spR2 CR (· * ·)))
    (C_o_Ratio_neg : CalO P w K mg base CR "__neg__" 6 (spR1 CR (- ·)))
    (C_o_Ratio_sub : CalO P w K mg base CR "__sub__" 6 (spR2 CR (· - ·))) :
    FnOk P w K mg base (L2.CX P w) 7 f fd ["_law_first", "_law_second", "_law_one", "_law_other"] (spPair K CR) := by
  refine fnOk_mk F sc__law_pair_fits (fun vs H Q E h => h.1) (fun cdv A outer s H vs Q E hr h => ?_)
  obtain ⟨_, f1, s1, l, m, a, b, c, d, rfl, hf, hs, hl, hm, hb, hd, za, zb, zc, zd, k⟩ := h
  have bp := (ZR.Bd.of za zb hb).mono (show 100 ≤ 2000 by decide)
  have bq := (ZR.Bd.of zc zd hd).mono (show 100 ≤ 2000 by decide)
  have wa := za.mono (show 100 ≤ 1000 by decide)
  have wb := zb.mono (show 100 ≤ 1000 by decide)
  have hbd := Int.mul_ne_zero hb hd
  have zbd := (zb.mul zd).mono (show 100 + 100 ≤ 1000 by decide)
  have zad := za.mul zd
  have zcb := zc.mul zb
  have zadd := (zad.add zcb).mono (show 100 + 100 + 1 ≤ 1000 by decide)
  have zsub := (zad.sub zcb).mono (show 100 + 100 + 1 ≤ 1000 by decide)
  have zac := (za.mul zc).mono (show 100 + 100 ≤ 1000 by decide)
  refine ⟨_, pss_cons (ps_asg (pv 2) (k_lst (K := K) (n := 2) rfl rfl (pgs_cons (pg_name (i := 4) sc__law_pair_fits.nd rfl (Or.inl rfl)) (pgs_cons (pg_name (i := 5) sc__law_pair_fits.nd rfl (Or.inl rfl)) pgs_nil))))
    (pss_cons (ps_asg (pv 3) (k_lst (K := K) (n := 2) rfl rfl (pgs_cons (pg_name (i := 6) sc__law_pair_fits.nd rfl (Or.inl rfl)) (pgs_cons (pg_name (i := 7) sc__law_pair_fits.nd rfl (Or.inl rfl)) pgs_nil))))
    (pss_cons (ps_if (PW.pt (pw_or (pt_not (pt_val (z_callC C_f_law_is hr passN (pa_cons (pv 0) (pa_cons (pv 4) (pa_cons (pv 5) pa_nil)))))) (pw_or1 (pt_not (pt_val (z_callC C_f_law_is hr passN (pa_cons (pe_un (z_neg C_o_Ratio_neg hr) (pv 0)) (pa_cons (pe_un un_neg (pv 4)) (pa_cons (pv 5) pa_nil))))))))) (pss_one (ps_ret pe_bl)) (pss_nil))
    (pss_cons (ps_if (pt_not (pt_val (z_callC C_f_law_is hr passN (pa_cons (pe_op (z_op C_o_Ratio_add hr) (pv 0) (pv 1)) (pa_cons (pe_op op_add (pe_op op_mulW (pv 4) (pv 7)) (pe_op op_mulW (pv 6) (pv 5))) (pa_cons (pe_op op_mulW (pv 5) (pv 7)) pa_nil)))))) (pss_one (ps_ret pe_bl)) (pss_nil))
    (pss_cons (ps_if (pt_not (pt_val (z_callC C_f_law_is hr passN (pa_cons (pe_op (z_op C_o_Ratio_sub hr) (pv 0) (pv 1)) (pa_cons (pe_op op_sub (pe_op op_mulW (pv 4) (pv 7)) (pe_op op_mulW (pv 6) (pv 5))) (pa_cons (pe_op op_mulW (pv 5) (pv 7)) pa_nil)))))) (pss_one (ps_ret pe_bl)) (pss_nil))
    (pss_cons (ps_if (pt_not (pt_val (z_callC C_f_law_is hr passN (pa_cons (pe_op (z_op C_o_Ratio_mul hr) (pv 0) (pv 1)) (pa_cons (pe_op op_mulW (pv 4) (pv 6)) (pa_cons (pe_op op_mulW (pv 5) (pv 7)) pa_nil)))))) (pss_one (ps_ret pe_bl)) (pss_nil))
    (pss_cons (ps_if (PW.pt (pw_and (pt_cmpR op_ne (pv 6) pe_int (nomark _)) (pw_and1 (pt_not (pt_val (z_callC C_f_law_is hr passN (pa_cons (z_methC (pv 0) C_c_Ratio.toCls C_m_Ratio_quotient hr passN (pa_cons (pv 1) pa_nil)) (pa_cons (pe_op op_mulW (pv 4) (pv 7)) (pa_cons (pe_op op_mulW (pv 5) (pv 6)) pa_nil))))))))) (pss_one (ps_ret pe_bl)) (pss_nil))
    (pss_cons (ps_set (i := 8) sc__law_pair_fits.nd rfl (Or.inl rfl) (pe_cmpR op_lt (pe_op op_mulW (pe_op op_mulW (pe_op op_sub (pe_op op_mulW (pv 4) (pv 7)) (pe_op op_mulW (pv 6) (pv 5))) (pv 5)) (pv 7)) pe_int (nomark _)))
    (pss_cons (ps_if (PW.pt (pw_or (pt_cmpR op_ne (z_methC (pv 0) C_c_Ratio.toCls C_m_Ratio_under hr passN (pa_cons (pv 1) pa_nil)) (pv 8) (nomark _)) (pw_or1 (pt_val (z_methC (pv 0) C_c_Ratio.toCls C_m_Ratio_under hr passN (pa_cons (pv 0) pa_nil)))))) (pss_one (ps_ret pe_bl)) (pss_nil))
    (pss_one (ps_ret (pe_cmpR op_eq (pe_cmpR (z_eqO C_o_Ratio_eq hr) (pv 0) (pv 1) (nomark _)) (pe_cmpR op_eq (pe_op op_mulW (pv 4) (pv 7)) (pe_op op_mulW (pv 6) (pv 5)) (nomark _)) (nomark _)))))))))))), ?_⟩
  try dsimp only [cxOf]
  walk_at "rd"
  refine i_glst hl rfl ?_
  walk_at "rd"
  refine i_glst hm rfl ?_
  walk_at "rd"
  refine i_is hf rfl hb wa wb fun H2 s2 => ?_
  walk_at "rd"
  refine i_R1 (hf.mono s2) bp fun r3 H3 hr3 s3 e3 => ?_
  walk_at "rd"
  refine i_is e3 (ZR.f_neg a b hb) hb wa.neg wb fun H4 s4 => ?_
  walk_at "rd"
  have t4 := (s2.trans s3).trans s4
  refine i_R2 (hf.mono t4) (hs.mono t4) bp bq fun r5 H5 hr5 s5 e5 => ?_
  walk_at "rd"
  refine i_is e5 (ZR.f_add a b c d hb hd) hbd zadd zbd fun H6 s6 => ?_
  walk_at "rd"
  have t6 := (t4.trans s5).trans s6
  refine i_R2 (hf.mono t6) (hs.mono t6) bp bq fun r7 H7 hr7 s7 e7 => ?_
  walk_at "rd"
  refine i_is e7 (ZR.f_sub a b c d hb hd) hbd zsub zbd fun H8 s8 => ?_
  walk_at "rd"
  have t8 := (t6.trans s7).trans s8
  refine i_R2 (hf.mono t8) (hs.mono t8) bp bq fun r9 H9 hr9 s9 e9 => ?_
  walk_at "rd"
  refine i_is e9 (ZR.f_mul a b c d hb hd) hbd zac zbd fun H10 s10 => ?_
  walk_at "rd"
  have t10 := (t8.trans s9).trans s10
  have tail : ∀ H11, Same H H11 → tSeq (tAsg (tOp (rI0 fun i j => V.bl (decide (i < j)))
      (tOp (rI CMulW fun i j => V.int (i * j)) (tOp (rI CMulW fun i j => V.int (i * j)) (tOp (rI0 fun i j => V.int (i - j)) (tOp (rI CMulW fun i j => V.int (i * j)) (tVar 4) (tVar 7)) (tOp (rI CMulW fun i j => V.int (i * j)) (tVar 6) (tVar 5))) (tVar 5)) (tVar 7)) (tC (V.int 0))) (gName 8))
    (tSeq (tIfS (tOr (tTest (tOp rNe (tMethS CR "under" (spRUnder CR) EN (tVar 0) (tCons (tVar 1) tNil)) (tVar 8))) (tB (tMethS CR "under" (spRUnder CR) EN (tVar 0) (tCons (tVar 0) tNil)))) (tRet (tC (V.bl false))) tNext)
      (tRet (tOp rEq (tOp (rOwnC K CR (spREq K CR)) (tVar 0) (tVar 1)) (tOp rEq (tOp (rI CMulW fun i j => V.int (i * j)) (tVar 4) (tVar 7)) (tOp (rI CMulW fun i j => V.int (i * j)) (tVar 6) (tVar 5))))))
    { nx := fun x H' => Q V.non H', rt := Q } [some (V.ref f1), some (V.ref s1), some (V.ref l), some (V.ref m), some (V.int a), some (V.int b), some (V.int c), some (V.int d), none] H11 := by
    intro H11 t11
    have z3 := zsub.mul zb
    walk_at "rd"
    refine i_under0 (hf.mono t11) ?_
    walk_at "rd"
    refine i_under (hf.mono t11) (hs.mono t11) bp bq fun H12 s12 => ?_
    walk_at "rd"
    have el : decide ((a * d - c * b) * b * d < 0) = decide ((a : Rat) / (b : Rat) < (c : Rat) / (d : Rat)) := decide_eq_decide.mpr (ZR.f_lt a b c d hb hd)
    rw [el, bne_self_eq_false]
    walk_at "rd"
    have t12 := t11.trans s12
    refine i_under0 (hf.mono t12) ?_
    walk_at "rd"
    refine i_under (hf.mono t12) (hf.mono t12) bp bp fun H13 s13 => ?_
    rw [decide_eq_false (Rat.lt_irrefl)]
    walk_at "rd"
    have t13 := t12.trans s13
    refine i_Req (hf.mono t13) (hs.mono t13) fun H14 s14 => ?_
    walk_at "rd"
    have ee : decide ((a : Rat) / (b : Rat) = (c : Rat) / (d : Rat)) = decide (a * d = c * b) := decide_eq_decide.mpr (ZR.f_eq a b c d hb hd)
    rw [ee, beq_self_eq_true]
    exact k H14 (t13.trans s14)
  refine i_ndec (fun e => ?_) (fun e => ?_)
  · walk_at "rd"
    have q0 : (c : Rat) / (d : Rat) ≠ 0 := fun z => e ((ZR.f_zero c d hd).mp z)
    refine i_quot0 (hf.mono t10) ?_
    walk_at "rd"
    refine i_quot (hf.mono t10) (hs.mono t10) bp bq q0 fun r11 H11 hr11 s11 e11 => ?_
    walk_at "rd"
    have zbc := zb.mul zc
    refine i_is e11 (ZR.f_div a b c d hb e hd) (Int.mul_ne_zero hb e) (zad.mono (show 100 + 100 ≤ 1000 by decide)) (zbc.mono (show 100 + 100 ≤ 1000 by decide)) fun H12 s12 => ?_
    iterate 2 walk_at "r1"
    exact tail H12 ((t10.trans s11).trans s12)
  · iterate 3 walk_at "r1"
    exact tail H10 t10
theorem i_total {K : PySem.W.Frag} {CR l : Addr} {H : Hp} {Q : VK} {E : XK} {ps : List (Addr × Rat)} (hl : SqL K H l (rfs ps)) (hlen : ps.length ≤ 3) (hr : RsAt CR H ps) (hb : ∀ x ∈ ps, ZR.Bd 100 x.2)
    (k : ∀ c H', H c = none → Same H H' → IsR CR H' c (sumR ps) → Q (.ref c) H') : spTotal K CR [.ref l] H Q E := ⟨rfl, l, ps, rfl, hl, hlen, hr, hb, k⟩
theorem i_greatest {K : PySem.W.Frag} {CR l : Addr} {H : Hp} {Q : VK} {E : XK} {p0 : Addr × Rat} {ps : List (Addr × Rat)} (hl : SqL K H l (rfs (p0 :: ps))) (hr : RsAt CR H (p0 :: ps)) (hb : ∀ x ∈ p0 :: ps, ZR.Bd 100 x.2)
    (k : ∀ x H', x ∈ p0 :: ps → (∀ y ∈ p0 :: ps, ¬ x.2 < y.2) → Same H H' → Q (.ref x.1) H') : spGreatest K CR [.ref l] H Q E := ⟨rfl, l, p0, ps, rfl, hl, hr, hb, k⟩
theorem i_greatestT {K : PySem.W.Frag} {CR l : Addr} {H : Hp} {Q : VK} {E : XK} {p0 : Addr × Rat} {ps : List (Addr × Rat)} (hl : SqT K H l (rfs (p0 :: ps))) (hr : RsAt CR H (p0 :: ps)) (hb : ∀ x ∈ p0 :: ps, ZR.Bd 100 x.2)
    (k : ∀ x H', x ∈ p0 :: ps → (∀ y ∈ p0 :: ps, ¬ x.2 < y.2) → Same H H' → Q (.ref x.1) H') : spGreatestT K CR [.ref l] H Q E := ⟨rfl, l, p0, ps, rfl, hl, hr, hb, k⟩
theorem i_inR {K : PySem.W.Frag} {CR L : Addr} {H : Hp} {Q : VK} {b : Bool} {ps : List (Addr × Rat)} {x : Addr × Rat} (e : H L = some (.lst (rfs ps))) (hr : RsAt CR H ps) (hx : x ∈ ps) (h : ∀ H', Same H H' → Q (.bl b) H') : rInO CR (spREq K CR) b (.ref x.1) (.ref L) H Q := by
  refine ⟨L, rfs ps, rfl, e, List.mem_map.mpr ⟨x, hx, rfl⟩, fun z hz => ?_, h⟩
  obtain ⟨y, hy, rfl⟩ := List.mem_map.mp hz
  intro H' s
  have ey := (hr y hy).mono s
  have ex := (hr x hx).mono s
  obtain ⟨dy, e1⟩ := id ey
  obtain ⟨dx, e2⟩ := id ex
  exact ⟨y.1, dy, _, x.1, dx, _, rfl, rfl, e1, e2, rfl, y.1, y.2, _, rfl, ey, .inl ⟨x.1, x.2, rfl, ex, fun H2 s2 => ⟨⟨_, rfl⟩, s2⟩⟩⟩
theorem i_any {K : PySem.W.Frag} {D : Addr} {H : Hp} {Q : VK} {n : Nat} (e : H D = some (.lst (List.replicate n (V.bl false)))) (h : Q (.bl false) H) : rAny K [.ref D] H Q := by
  refine ⟨D, List.replicate n false, rfl, ?_, ?_⟩
  · rw [List.map_replicate]
    exact SqL.of e
  · have z : (List.replicate n false).any id = false := by simp
    rw [z]
    exact h
abbrev s__law_list_fits : Stmt := top 26
theorem sc__law_list_fits : FnScope ["_law_first", "_law_second", "_law_third", "_law_row", "_law_best", "_law_ratio"] ["_law_first", "_law_second", "_law_third"] (defScope s__law_list_fits) := ⟨rfl, rfl, rfl, by decide +kernel, rfl, by decide +kernel, by decide +kernel⟩
theorem ok__law_list_fits {P : Program} {w : World} {K : PySem.W.Frag} {mg : Str → Option Value} {base : Heap} {CR : Addr} {f : Addr} {fd : FuncData} (F : L2.Fun K "_law_list_fits" "_law_list_fits" s__law_list_fits f fd)
    (C_b_any : mg "any" = none)
    (C_c_Ratio : ClO K CR)
    (C_f_greatest : Cal P w K mg base "greatest" 2 (spGreatest K CR))
    (C_f_total : Cal P w K mg base "total" 7 (spTotal K CR))
    (C_m_Ratio_under : CalM P w K mg base CR "under" 1 (spRUnder CR))
    (C_o_Ratio_add : CalO P w K mg base CR "__add__" 6 (spR2 CR (· + ·)))
    (C_o_Ratio_eq : CalO P w K mg base CR "__eq__" 1 (spREq K CR))
    (C_o_Ratio_mul : CalO P w K mg base CR "__mul__" 6 (spR2 CR (· * ·))) :
    FnOk P w K mg base (L2.CX P w) 8 f fd ["_law_first", "_law_second", "_law_third"] (spList CR) := by
  refine fnOk_mk F sc__law_list_fits (fun vs H Q E h => h.1) (fun cdv A outer s H vs Q E hr h => ?_)
  obtain ⟨_, f1, s1, t1, p, q, r, rfl, hf, hs, ht, bp, bq, br, k⟩ := h
  have up : ∀ {z : Rat} {n : Nat}, ZR.Bd n z → n ≤ 2000 → ZR.Bd 2000 z := fun b h => b.mono h
  refine ⟨_, pss_cons (ps_set (i := 3) sc__law_list_fits.nd rfl (Or.inl rfl) (pe_lst (pa_cons (pv 0) (pa_cons (pv 1) (pa_cons (pv 2) pa_nil)))))
    (pss_cons (ps_set (i := 4) sc__law_list_fits.nd rfl (Or.inr rfl) (z_callC C_f_greatest hr passN (pa_cons (pv 3) pa_nil)))
    (pss_cons (ps_if (pt_not (pt_cmpR (z_eqO C_o_Ratio_eq hr) (z_callC C_f_total hr passN (pa_cons (pv 3) pa_nil)) (pe_op (z_op C_o_Ratio_add hr) (pe_op (z_op C_o_Ratio_add hr) (pv 2) (pv 1)) (pv 0)) (nomark _))) (pss_one (ps_ret pe_bl)) (pss_nil))
    (pss_cons (ps_if (PW.pt (pw_or (pt_cmpR (z_neL hr.units0) (pv 3) (pe_lst (pa_cons (pv 0) (pa_cons (pv 1) (pa_cons (pv 2) pa_nil)))) (nomark _)) (pw_or1 (pt_cmpR (z_notInO C_o_Ratio_eq hr) (pv 4) (pv 3) rfl)))) (pss_one (ps_ret pe_bl)) (pss_nil))
    (pss_cons (ps_if (pt_val (pe_callB (cr_any rfl) (by rfl) C_b_any (by decide +kernel) (pa_cons (pe_lc (own := [("_law_ratio", 5)]) (by rfl) sc__law_list_fits.nd (k_list (K := K) rfl (pv 3)) (blkOk_by (N := ["_law_first", "_law_second", "_law_third", "_law_row", "_law_best", "_law_ratio"]) (sc := defScope s__law_list_fits) (by decide +kernel)) (fun _ _ _ _ _ => pg_name (i := 5) sc__law_list_fits.nd rfl (Or.inl rfl)) (fun _ _ _ _ _ => pts_nil) (fun _ _ _ _ _ => z_methC (pv 4) C_c_Ratio.toCls C_m_Ratio_under hr passN (pa_cons (pv 5) pa_nil))) pa_nil))) (pss_one (ps_ret pe_bl)) (pss_nil))
    (pss_one (ps_ret (pe_cmpR (z_eqO C_o_Ratio_eq hr) (pe_op (z_op C_o_Ratio_mul hr) (pe_op (z_op C_o_Ratio_add hr) (pv 0) (pv 1)) (pv 2)) (pe_op (z_op C_o_Ratio_add hr) (pe_op (z_op C_o_Ratio_mul hr) (pv 0) (pv 2)) (pe_op (z_op C_o_Ratio_mul hr) (pv 1) (pv 2))) (nomark _)))))))), ?_⟩
  try dsimp only [cxOf]
  walk_at "rd"
  refine i_lst1 (Nat.le_of_ble_eq_true rfl) fun L H2 hL s2 eL ho => ?_
  walk_at "rd"
  have hall : RsAt CR H [(f1, p), (s1, q), (t1, r)] := by
    intro x hx
    simp at hx
    rcases hx with rfl | rfl | rfl
    · exact hf
    · exact hs
    · exact ht
  have ball : ∀ x ∈ [(f1, p), (s1, q), (t1, r)], ZR.Bd 100 x.2 := by
    intro x hx
    simp at hx
    rcases hx with rfl | rfl | rfl
    · exact bp
    · exact bq
    · exact br
  refine i_greatest (p0 := (f1, p)) (ps := [(s1, q), (t1, r)]) (SqL.of eL) (hall.mono s2) ball fun x H3 hx hmax s3 => ?_
  walk_at "rd"
  have t3 := s2.trans s3
  refine i_total (ps := [(f1, p), (s1, q), (t1, r)]) (SqL.of (s3 _ _ eL)) (Nat.le_refl 3) (hall.mono t3) ball fun c4 H4 hc4 s4 e4 => ?_
  walk_at "rd"
  have t4 := t3.trans s4
  refine i_R2 (ht.mono t4) (hs.mono t4) (up br (by decide)) (up bq (by decide)) fun c5 H5 hc5 s5 e5 => ?_
  walk_at "rd"
  have t5 := t4.trans s5
  refine i_R2 e5 (hf.mono t5) (up (br.add bq) (by decide)) (up bp (by decide)) fun c6 H6 hc6 s6 e6 => ?_
  have t6 := t5.trans s6
  refine i_Req (e4.mono (s5.trans s6)) e6 fun H7 s7 => ?_
  have es : sumR [(f1, p), (s1, q), (t1, r)] = r + q + p := by
    show 0 + p + q + r = r + q + p
    grind
  rw [decide_eq_true es]
  walk_at "rd"
  have t7 := t6.trans s7
  refine i_lst1 (Nat.le_of_ble_eq_true rfl) fun L8 H8 hL8 s8 eL8 ho8 => ?_
  have t8 := t7.trans s8
  have eL' := ((((s3.trans s4).trans s5).trans s6).trans s7).trans s8
  refine ⟨L, L8, _, rfl, rfl, eL' _ _ eL, eL8, by simp, ?_⟩
  walk_at "rd"
  refine i_inR (ps := [(f1, p), (s1, q), (t1, r)]) (eL' _ _ eL) (hall.mono t8) hx fun H9 s9 => ?_
  walk_at "rd"
  have t9 := t8.trans s9
  have eL9 := s9 _ _ (eL' _ _ eL)
  refine i_lcL (xs := rfs [(f1, p), (s1, q), (t1, r)]) (fun i ys H' => Same H9 H' ∧ ys = List.replicate i (V.bl false)) (SqL.of eL9) (fun D H' hD s' e' ho' => ⟨s', rfl⟩) (fun i ys H' h => h.1.seq (SqL.of eL9)) ?_ ?_
  · intro i y D ys H10 hD hi eD hP
    obtain ⟨s10, rfl⟩ := hP
    have t10 := t9.trans s10
    have hy := List.mem_of_getElem? hi
    obtain ⟨y, hm, rfl⟩ := List.mem_map.mp hy
    walk_at "rd"
    refine ⟨by with_unfolding_all rfl, ?_⟩
    walk_at "rd"
    refine i_under0 ((hall x hx).mono t10) ?_
    walk_at "rd"
    refine i_under ((hall x hx).mono t10) ((hall y hm).mono t10) (up (ball x hx) (by decide)) (up (ball y hm) (by decide)) fun H11 s11 => ?_
    rw [decide_eq_false (hmax y hm)]
    have hlt := (List.getElem?_eq_some_iff.mp hi).1
    refine i_lcE (s11 _ _ eD) ?_ fun H12 e12 ho12 => ⟨?_, ?_⟩
    · rw [List.length_replicate]
      exact Nat.lt_trans hlt (by show 3 < 100000; decide)
    · intro b o e
      have nb : b ≠ D := ne_of_none e hD
      exact (ho12 b nb).trans (s11 _ _ (s10 _ _ e))
    · rw [List.replicate_succ']
  · intro D ys H10 hD eD hP
    obtain ⟨s10, rfl⟩ := hP
    have t10 := t9.trans s10
    walk_at "rd"
    refine i_any eD ?_
    walk_at "rd"
    refine i_R2 (hf.mono t10) (hs.mono t10) (up bp (by decide)) (up bq (by decide)) fun c11 H11 hc11 s11 e11 => ?_
    walk_at "rd"
    have t11 := t10.trans s11
    refine i_R2 e11 (ht.mono t11) (up (bp.add bq) (by decide)) (up br (by decide)) fun c12 H12 hc12 s12 e12 => ?_
    walk_at "rd"
    have t12 := t11.trans s12
    refine i_R2 (hf.mono t12) (ht.mono t12) (up bp (by decide)) (up br (by decide)) fun c13 H13 hc13 s13 e13 => ?_
    walk_at "rd"
    have t13 := t12.trans s13
    refine i_R2 (hs.mono t13) (ht.mono t13) (up bq (by decide)) (up br (by decide)) fun c14 H14 hc14 s14 e14 => ?_
    walk_at "rd"
    have t14 := t13.trans s14
    refine i_R2 (e13.mono s14) e14 (up (bp.mul br) (by decide)) (up (bq.mul br) (by decide)) fun c15 H15 hc15 s15 e15 => ?_
    have t15 := t14.trans s15
    refine i_Req (e12.mono ((s13.trans s14).trans s15)) e15 fun H16 s16 => ?_
    rw [decide_eq_true (show (p + q) * r = p * r + q * r from Rat.add_mul ..)]
    exact k H16 (t15.trans s16)
theorem i_pair {K : PySem.W.Frag} {CR : Addr} {H : Hp} {Q : VK} {E : XK} {f s l m : Addr} {a b c d : Int} {p q : Rat} (hf : IsR CR H f p) (hs : IsR CR H s q) (ep : (a : Rat) / (b : Rat) = p) (eq : (c : Rat) / (d : Rat) = q)
    (hl : SqL K H l [V.int a, V.int b]) (hm : SqL K H m [V.int c, V.int d]) (hb : b ≠ 0) (hd : d ≠ 0) (za : ZR.Sz 100 a) (zb : ZR.Sz 100 b) (zc : ZR.Sz 100 c) (zd : ZR.Sz 100 d) (k : ∀ H', Same H H' → Q (.bl true) H') :
    spPair K CR [.ref f, .ref s, .ref l, .ref m] H Q E := by
  subst ep eq
  exact ⟨rfl, f, s, l, m, a, b, c, d, rfl, hf, hs, hl, hm, hb, hd, za, zb, zc, zd, k⟩
theorem i_listf {CR : Addr} {H : Hp} {Q : VK} {E : XK} {f s t : Addr} {p q r : Rat} (hf : IsR CR H f p) (hs : IsR CR H s q) (ht : IsR CR H t r) (bp : ZR.Bd 100 p) (bq : ZR.Bd 100 q) (br : ZR.Bd 100 r) (k : ∀ H', Same H H' → Q (.bl true) H') :
    spList CR [.ref f, .ref s, .ref t] H Q E := ⟨rfl, f, s, t, p, q, r, rfl, hf, hs, ht, bp, bq, br, k⟩
theorem i_refused {CR : Addr} {H : Hp} {Q : VK} {E : XK} {i : Int} {f : Addr} {p : Rat} (hf : IsR CR H f p) (bp : ZR.Bd 2000 p) (k : ∀ H', Same H H' → Q (.bl true) H') : spRefused CR [.int i, .ref f] H Q E := ⟨rfl, i, f, p, rfl, hf, bp, k⟩
/-- a row: where it stands, its two numbers -/
structure Rw where
  at_ : Addr
  a : Int
  b : Int
def Rw.q (r : Rw) : Rat := (r.a : Rat) / (r.b : Rat)
structure Rw.Ok (H : Hp) (r : Rw) : Prop where
  e : H r.at_ = some (.lst [V.int r.a, V.int r.b])
  b0 : r.b ≠ 0
  za : ZR.Sz 100 r.a
  zb : ZR.Sz 100 r.b
theorem Rw.Ok.mono {H H' : Hp} {r : Rw} (s : Same H H') (h : r.Ok H) : r.Ok H' := ⟨s _ _ h.e, h.b0, h.za, h.zb⟩
theorem Rw.Ok.bd {H : Hp} {r : Rw} (h : r.Ok H) : ZR.Bd 100 r.q := ZR.Bd.of h.za h.zb h.b0
theorem three {α : Type} {l : List α} (h : l.length = 3) : ∃ a b c, l = [a, b, c] := by
  match l, h with
  | [a, b, c], _ => exact ⟨a, b, c, rfl⟩
abbrev s_law : Stmt := top 27
theorem sc_law : FnScope ["_law_script", "_law_rows", "_law_k", "_law_pool_here", "_law_a", "_law_b", "_law_first", "_law_second", "_law_third", "_law_turn"] ["_law_script"] (defScope s_law) := ⟨rfl, rfl, rfl, by decide +kernel, rfl, by decide +kernel, by decide +kernel⟩
theorem ok_law {P : Program} {w : World} {K : PySem.W.Frag} {mg : Str → Option Value} {base : Heap} {CB CR : Addr} {f : Addr} {fd : FuncData} (F : L2.Fun K "law" "law" s_law f fd)
    (C_b_int : mg "int" = none)
    (C_b_range : mg "range" = none)
    (C_f_greatest__T : Cal P w K mg base "greatest" 2 (spGreatestT K CR))
    (C_f_law_cell : Cal P w K mg base "_law_cell" 1 (spCell K))
    (C_f_law_list_fits : Cal P w K mg base "_law_list_fits" 8 (spList CR))
    (C_f_law_number : Cal P w K mg base "_law_number" 2 spNumber)
    (C_f_law_pair_fits : Cal P w K mg base "_law_pair_fits" 7 (spPair K CR))
    (C_f_law_pool : Cal P w K mg base "_law_pool" 1 spPool)
    (C_f_law_refused : Cal P w K mg base "_law_refused" 7 (spRefused CR))
    (C_f_total : Cal P w K mg base "total" 7 (spTotal K CR))
    (C_gRatio : mg "Ratio" = some (.ref CR))
    (C_i_Ratio : CalI P w K mg base "Ratio" CR 4 (spRInit CR CB))
    (C_k_Ratio_whole : CalK P w K mg base CR "whole" 6 (spRWhole CR))
    (C_ki_int_Ratio : PySem.W.kitOne K (.type "int") (.ref CR) = some false)
    (C_ki_str_Ratio : PySem.W.kitOne K (.type "str") (.ref CR) = some false)
    (C_nf_int_Ratio : PySem.W.notFirst K CR (.type "int") = true)
    (C_nf_str_Ratio : PySem.W.notFirst K CR (.type "str") = true)
    (C_o_Ratio_eq : CalO P w K mg base CR "__eq__" 1 (spREq K CR)) :
    FnOk P w K mg base (L2.CX P w) 9 f fd ["_law_script"] (spLaw K) := by
  refine fnOk_mk F sc_law (fun vs H Q E h => h.1) (fun cdv A outer s H vs Q E hr h => ?_)
  obtain ⟨_, a, ns, rfl, ha, k⟩ := h
  refine ⟨_, pss_cons (ps_set (i := 1) sc_law.nd rfl (Or.inl rfl) (pe_lst pa_nil))
    (pss_cons (ps_for (passes_of rfl) rfl (pi_range1 (by rfl) C_b_range (pa_cons pe_int pa_nil)) (pg_name (i := 2) sc_law.nd rfl (Or.inl rfl)) (pss_cons (ps_set (i := 3) sc_law.nd rfl (Or.inl rfl) (z_callC C_f_law_pool hr passN (pa_cons (z_callC C_f_law_cell hr passN (pa_cons (pv 0) (pa_cons (pv 2) pa_nil))) pa_nil)))
    (pss_cons (ps_par (i := 4) (j := 5) (by rfl) sc_law.nd rfl rfl (by decide) rfl rfl (pa_cons (z_callC C_f_law_number hr passN (pa_cons (pv 3) pa_nil)) (pa_cons (z_callC C_f_law_number hr passN (pa_cons (pv 3) pa_nil)) pa_nil)) (by rfl))
    (pss_one (ps_expr (pe_bm PySem.F.plainAttrs_list PySem.F.slot_list_append PySem.F.type_list_append mt_append (pv 1) (pa_cons (pe_lst (pa_cons (pv 4) (pa_cons (pe_op op_add (pv 5) (pe_callTy call_int1 (by rfl) C_b_int (by decide +kernel) (pa_cons (pe_cmpR op_eq (pv 5) pe_int (nomark _)) pa_nil))) pa_nil))) pa_nil)))))))
    (pss_cons (ps_asg (pe_lc (own := [("_law_a", 4), ("_law_b", 5)]) (by rfl) sc_law.nd (k_list (K := K) rfl (pv 1)) (blkOk_by (N := ["_law_script", "_law_rows", "_law_k", "_law_pool_here", "_law_a", "_law_b", "_law_first", "_law_second", "_law_third", "_law_turn"]) (sc := defScope s_law) (by decide +kernel)) (fun _ _ _ _ _ => k_lst (K := K) (n := 2) rfl rfl (pgs_cons (pg_name (i := 4) sc_law.nd rfl (Or.inl rfl)) (pgs_cons (pg_name (i := 5) sc_law.nd rfl (Or.inl rfl)) pgs_nil))) (fun _ _ _ _ _ => pts_nil) (fun _ _ _ _ _ => z_makeC C_i_Ratio hr passN (pa_cons (pv 4) (pa_cons (pv 5) pa_nil)))) (k_lst (K := K) (n := 3) rfl rfl (pgs_cons (pg_name (i := 6) sc_law.nd rfl (Or.inl rfl)) (pgs_cons (pg_name (i := 7) sc_law.nd rfl (Or.inl rfl)) (pgs_cons (pg_name (i := 8) sc_law.nd rfl (Or.inl rfl)) pgs_nil)))))
    (pss_cons (ps_for (passes_of rfl) rfl (pi_range1 (by rfl) C_b_range (pa_cons pe_int pa_nil)) (pg_name (i := 9) sc_law.nd rfl (Or.inl rfl)) (pss_cons (ps_if (pt_not (pt_val (z_callC C_f_law_pair_fits hr passN (pa_cons (pv 6) (pa_cons (pv 7) (pa_cons (pe_ix ix_list (pv 1) pe_int (fun _ _ => rfl)) (pa_cons (pe_ix ix_list (pv 1) pe_int (fun _ _ => rfl)) pa_nil))))))) (pss_one (ps_ret pe_bl)) (pss_nil))
    (pss_cons (ps_if (pt_not (pt_val (z_callC C_f_law_pair_fits hr passN (pa_cons (pv 8) (pa_cons (pv 6) (pa_cons (pe_ix ix_list (pv 1) pe_int (fun _ _ => rfl)) (pa_cons (pe_ix ix_list (pv 1) pe_int (fun _ _ => rfl)) pa_nil))))))) (pss_one (ps_ret pe_bl)) (pss_nil))
    (pss_one (ps_if (pt_not (pt_val (z_callC C_f_law_list_fits hr passN (pa_cons (pv 6) (pa_cons (pv 7) (pa_cons (pv 8) pa_nil)))))) (pss_one (ps_ret pe_bl)) (pss_nil))))))
    (pss_cons (ps_if (PW.pt (pw_or (pt_not (pt_cmpR (z_eqO C_o_Ratio_eq hr) (z_callC C_f_total hr passN (pa_cons (pe_lst pa_nil) pa_nil)) (z_cmethC (pe_glob (v := .ref CR) rfl C_gRatio rfl) C_k_Ratio_whole hr passN (pa_cons pe_int pa_nil)) (nomark _))) (pw_or1 (pt_not (pt_cmpR (z_eqO C_o_Ratio_eq hr) (z_cmethC (pe_glob (v := .ref CR) rfl C_gRatio rfl) C_k_Ratio_whole hr passN (pa_cons (pe_ix ix_list (pe_ix ix_list (pv 1) pe_int (fun _ _ => rfl)) pe_int (fun _ _ => rfl)) pa_nil)) (z_makeC C_i_Ratio hr passN (pa_cons (pe_ix ix_list (pe_ix ix_list (pv 1) pe_int (fun _ _ => rfl)) pe_int (fun _ _ => rfl)) (pa_cons pe_int pa_nil))) (nomark _)))))) (pss_one (ps_ret pe_bl)) (pss_nil))
    (pss_cons (ps_if (PW.pt (pw_or (pt_cmpR (z_eqO C_o_Ratio_eq hr) (z_makeC C_i_Ratio hr passN (pa_cons pe_int (pa_cons pe_int pa_nil))) pe_int (nomark _)) (pw_or1 (pt_cmpR (z_eqO C_o_Ratio_eq hr) (z_makeC C_i_Ratio hr passN (pa_cons pe_int (pa_cons pe_int pa_nil))) pe_str (nomark _))))) (pss_one (ps_ret pe_bl)) (pss_nil))
    (pss_one (ps_ret (pe_and (z_callC C_f_law_refused hr passN (pa_cons pe_int (pa_cons (pv 6) pa_nil))) (pe_and (z_callC C_f_law_refused hr passN (pa_cons pe_int (pa_cons (pv 6) pa_nil))) (pe_one (pe_cmpR (z_eqO C_o_Ratio_eq hr) (z_callC C_f_greatest__T hr passN (pa_cons (pe_tup (pa_cons (pv 7) pa_nil)) pa_nil)) (pv 7) (nomark _)))))))))))), ?_⟩
  try dsimp only [cxOf]
  walk_at "rd"
  refine i_lst1 (Nat.le_of_ble_eq_true rfl) fun L H1 hL s1 eL ho => ?_
  walk_at "rd"
  refine i_forR (n := 3) rfl (by decide) (fun i σ H' => ∃ (rl : List Rw) (v2 v3 v4 v5 : Option V), σ = [some (.ref a), some (.ref L), v2, v3, v4, v5, none, none, none, none] ∧ Same H H' ∧ rl.length = i ∧ H' L = some (.lst (rl.map fun r => V.ref r.at_)) ∧ ∀ r ∈ rl, r.Ok H')
    ⟨[], none, none, none, none, rfl, s1, rfl, eL, fun r hr => by cases hr⟩ ?_ ?_
  · rintro i σ H2 hi ⟨rl, v2, v3, v4, v5, rfl, s2, hlen, eL2, hrl⟩
    walk_at "rd"
    refine i_cell (s2.seq ha) fun c => ?_
    walk_at "rd"
    refine i_pool fun p H3 hp s3 ho3 hp3 => ?_
    walk_at "rd"
    refine i_number hp3 fun x H4 zx ho4 hp4 => ?_
    walk_at "rd"
    refine i_number hp4 fun y H5 zy ho5 hp5 => ?_
    walk_at "rd"
    have nLp : L ≠ p := ne_of_none eL2 hp
    have eL5 : H5 L = some (.lst (rl.map fun r => V.ref r.at_)) := by rw [ho5 L nLp, ho4 L nLp]; exact s3 _ _ eL2
    refine ⟨tyL eL5, ?_⟩
    walk_at "rd"
    refine .inr ⟨_, rfl, ?_⟩
    walk_at "rd"
    refine i_lst1 (Nat.le_of_ble_eq_true rfl) fun r H6 hr s6 er ho6 => ?_
    walk_at "rd"
    have eL6 := s6 _ _ eL5
    refine i_app eL6 (by rw [List.length_map]; omega) fun H7 e7 ho7 => ?_
    have nrL : r ≠ L := fun q => by rw [q, eL5] at hr; cases hr
    have old : ∀ b o, H2 b = some o → b ≠ L → H7 b = some o := by
      intro b o e nb
      have nbp : b ≠ p := ne_of_none e hp
      have e5 : H5 b = some o := by rw [ho5 b nbp, ho4 b nbp]; exact s3 _ _ e
      rw [ho7 b nb]
      exact s6 _ _ e5
    refine ⟨rl ++ [⟨r, x, y + if decide (y = 0) = true then 1 else 0⟩], _, _, _, _, rfl, ?_, ?_, ?_, ?_⟩
    · intro b o e
      exact old b o (s2 _ _ e) (ne_of_none e hL)
    · rw [List.length_append, hlen]
      rfl
    · rw [e7, List.map_append]
      rfl
    · intro w hw
      rcases List.mem_append.mp hw with hw | hw
      · have o := hrl w hw
        refine ⟨old _ _ o.e fun q => ?_, o.b0, o.za, o.zb⟩
        have e := o.e
        rw [q, eL2] at e
        injection e with e
        injection e with e
        cases rl with
        | nil => cases e
        | cons r0 rl =>
          injection e with e1 e2
          cases e1
      · obtain rfl := List.mem_singleton.mp hw
        refine ⟨?_, ?_, zx, ?_⟩
        · show H7 r = _
          rw [ho7 r nrL]
          exact er
        · show (y + if decide (y = 0) = true then 1 else 0) ≠ 0
          by_cases h : y = 0 <;> simp [h]
        · show ZR.Sz 100 (y + if decide (y = 0) = true then 1 else 0)
          by_cases h : y = 0
          · simp [h]
            exact ZR.sz1 (by decide)
          · simp [h]
            exact zy
  · rintro σ H2 ⟨rl, v2, v3, v4, v5, rfl, s2, hlen, eL2, hrl⟩
    walk_at "rd"
    obtain ⟨r0, r1, r2, rfl⟩ := three hlen
    have o0 := hrl r0 (by simp)
    have o1 := hrl r1 (by simp)
    have o2 := hrl r2 (by simp)
    refine i_lcL (xs := [V.ref r0.at_, V.ref r1.at_, V.ref r2.at_]) (fun i ys H' => Same H2 H' ∧ ∃ ps : List (Addr × Rat), ys = rfs ps ∧ ps.map (·.2) = ([r0, r1, r2].take i).map Rw.q ∧ RsAt CR H' ps) (SqL.of eL2) (fun D H' hD s' e' ho' => ⟨s', [], rfl, rfl, fun x hx => by cases hx⟩) (fun i ys H' h => h.1.seq (SqL.of eL2)) ?_ ?_
    · intro i y D ys H10 hD hi eD hP
      obtain ⟨s10, ps, rfl, hps, hrs⟩ := hP
      have hlt := (List.getElem?_eq_some_iff.mp hi).1
      have hlt3 : i < 3 := hlt
      obtain ⟨rw_, hrw, hmem, hy⟩ : ∃ rw_ : Rw, [r0, r1, r2][i]? = some rw_ ∧ rw_ ∈ [r0, r1, r2] ∧ y = V.ref rw_.at_ := by
        have e : [V.ref r0.at_, V.ref r1.at_, V.ref r2.at_] = [r0, r1, r2].map fun r => V.ref r.at_ := rfl
        rw [e, List.getElem?_map] at hi
        cases e2 : [r0, r1, r2][i]? with
        | none => rw [e2] at hi; cases hi
        | some z =>
          rw [e2] at hi
          exact ⟨z, rfl, List.mem_of_getElem? e2, (Option.some.inj hi).symm⟩
      subst hy
      have ow := (hrl rw_ hmem).mono s10
      refine i_glst (SqL.of ow.e) rfl ?_
      walk_at "rd"
      refine ⟨by with_unfolding_all rfl, ?_⟩
      walk_at "rd"
      refine i_newR ow.b0 (ow.zb.mono (by decide)) fun c H11 hc s11 e11 => ?_
      have hle : (rfs ps).length = i := by
        have := congrArg List.length hps
        simp at this
        unfold rfs
        simp
        omega
      refine i_lcE (s11 _ _ eD) (by rw [hle]; omega) fun H12 e12 ho12 => ?_
      have keep : ∀ b o, b ≠ D → H11 b = some o → H12 b = some o := fun b o nb e => (ho12 b nb).trans e
      refine ⟨fun b o e => keep b o (ne_of_none e hD) (s11 _ _ (s10 _ _ e)), ps ++ [(c, rw_.q)], ?_, ?_, ?_⟩
      · unfold rfs
        rw [List.map_append]
        rfl
      · rw [List.map_append, hps, List.take_add_one, hrw, List.map_append]
        rfl
      · intro x hx
        have ncD : ∀ {x : Addr} {q : Rat}, IsR CR H11 x q → IsR CR H12 x q := by
          rintro x q ⟨dx, e⟩
          refine ⟨dx, keep _ _ (fun z => ?_) e⟩
          rw [z, s11 _ _ eD] at e
          cases e
        rcases List.mem_append.mp hx with hx | hx
        · exact ncD ((hrs x hx).mono s11)
        · obtain rfl := List.mem_singleton.mp hx
          exact ncD e11
    · intro D ys H10 hD eD hP
      obtain ⟨s10, ps, rfl, hps, hrs⟩ := hP
      obtain ⟨x0, x1, x2, rfl⟩ : ∃ a b c, ps = [a, b, c] := three (by
        have := congrArg List.length hps
        rw [List.length_map] at this
        exact this)
      have hps2 : [x0.2, x1.2, x2.2] = [r0.q, r1.q, r2.q] := hps
      injection hps2 with q0 hps2
      injection hps2 with q1 hps2
      injection hps2 with q2 hps2
      have i0 : IsR CR H10 x0.1 r0.q := q0 ▸ hrs x0 (by simp)
      have i1 : IsR CR H10 x1.1 r1.q := q1 ▸ hrs x1 (by simp)
      have i2 : IsR CR H10 x2.1 r2.q := q2 ▸ hrs x2 (by simp)
      have t10 := s2.trans s10
      have eL10 := s10 _ _ eL2
      walk_at "rd"
      refine i_glst (xs := [V.ref x0.1, V.ref x1.1, V.ref x2.1]) (SqL.of eD) rfl ?_
      walk_at "rd"
      have hi0 : SqL K H10 L [V.ref r0.at_, V.ref r1.at_, V.ref r2.at_] := SqL.of eL10
      refine i_forR (n := 2) rfl (by decide) (fun i σ H' => ∃ v9 : Option V, σ = [some (.ref a), some (.ref L), v2, v3, v4, v5, some (.ref x0.1), some (.ref x1.1), some (.ref x2.1), v9] ∧ Same H10 H') ⟨none, rfl, Same.refl _⟩ ?_ ?_
      · rintro i σ H11 hi ⟨v9, rfl, s11⟩
        walk_at "rd"
        refine i_ix0 (s11.seq hi0) ?_
        walk_at "rd"
        refine i_ix1 (s11.seq hi0) ?_
        walk_at "rd"
        have u := s10.trans s11
        refine i_pair (i0.mono s11) (i1.mono s11) rfl rfl (SqL.of (o0.mono u).e) (SqL.of (o1.mono u).e) o0.b0 o1.b0 o0.za o0.zb o1.za o1.zb fun H12 s12 => ?_
        walk_at "rd"
        have t12 := s11.trans s12
        refine i_ix2 (t12.seq hi0) ?_
        walk_at "rd"
        refine i_ix0 (t12.seq hi0) ?_
        walk_at "rd"
        have u12 := s10.trans t12
        refine i_pair (i2.mono t12) (i0.mono t12) rfl rfl (SqL.of (o2.mono u12).e) (SqL.of (o0.mono u12).e) o2.b0 o0.b0 o2.za o2.zb o0.za o0.zb fun H13 s13 => ?_
        walk_at "rd"
        have t13 := t12.trans s13
        refine i_listf (i0.mono t13) (i1.mono t13) (i2.mono t13) o0.bd o1.bd o2.bd fun H14 s14 => ?_
        walk_at "rd"
        exact ⟨_, rfl, t13.trans s14⟩
      · rintro σ H11 ⟨v9, rfl, s11⟩
        walk_at "rd"
        refine i_lst1 (Nat.le_of_ble_eq_true rfl) fun M H12 hM s12 eM hoM => ?_
        walk_at "rd"
        refine i_total (ps := []) (SqL.of eM) (by decide) (fun x hx => by cases hx) (fun x hx => by cases hx) fun c13 H13 hc13 s13 e13 => ?_
        walk_at "rd"
        refine ⟨rfl, ?_⟩
        walk_at "rd"
        refine i_whole fun c14 H14 hc14 s14 e14 => ?_
        walk_at "rd"
        refine i_Req (e13.mono s14) e14 fun H15 s15 => ?_
        rw [decide_eq_true (show sumR [] = ((0 : Int) : Rat) from rfl)]
        walk_at "rd"
        have t15 := (((s11.trans s12).trans s13).trans s14).trans s15
        refine ⟨rfl, ?_⟩
        walk_at "rd"
        refine i_ix0 (t15.seq hi0) ?_
        walk_at "rd"
        have r0e : ∀ {H' : Hp}, Same H10 H' → SqL K H' r0.at_ [V.int r0.a, V.int r0.b] := fun s => SqL.of (o0.mono (s10.trans s)).e
        refine i_ix0 (r0e t15) ?_
        walk_at "rd"
        refine i_whole fun c16 H16 hc16 s16 e16 => ?_
        walk_at "rd"
        have t16 := t15.trans s16
        refine i_ix0 (t16.seq hi0) ?_
        walk_at "rd"
        refine i_ix0 (r0e t16) ?_
        walk_at "rd"
        refine i_newR (by decide) (ZR.sz1 (by decide)) fun c17 H17 hc17 s17 e17 => ?_
        refine i_Req (e16.mono s17) e17 fun H18 s18 => ?_
        have e1 : (r0.a : Rat) = (r0.a : Rat) / ((1 : Int) : Rat) := by
          have : ((1 : Int) : Rat) = 1 := rfl
          rw [this]
          grind
        rw [decide_eq_true e1]
        walk_at "rd"
        have t18 := (t16.trans s17).trans s18
        refine i_newR (by decide) (ZR.sz1 (by decide)) fun c19 H19 hc19 s19 e19 => ?_
        walk_at "rd"
        refine i_ReqI e19 C_ki_int_Ratio C_nf_int_Ratio fun H20 s20 => ?_
        walk_at "rd"
        refine i_newR (by decide) (ZR.sz_of (by decide +kernel)) fun c21 H21 hc21 s21 e21 => ?_
        walk_at "rd"
        refine i_ReqS e21 C_ki_str_Ratio C_nf_str_Ratio fun H22 s22 => ?_
        walk_at "rd"
        have t22 := (((t18.trans s19).trans s20).trans s21).trans s22
        refine i_refused (i0.mono t22) (o0.bd.mono (by decide)) fun H23 s23 => ?_
        walk_at "rd"
        have t23 := t22.trans s23
        refine i_refused (i0.mono t23) (o0.bd.mono (by decide)) fun H24 s24 => ?_
        walk_at "rd"
        have t24 := t23.trans s24
        refine i_tup1 (Nat.le_of_ble_eq_true rfl) fun T H25 hT s25 eT hoT => ?_
        walk_at "rd"
        have t25 := t24.trans s25
        refine i_greatestT (p0 := (x1.1, r1.q)) (ps := []) (SqT.of eT) (fun x hx => ?_) (fun x hx => ?_) fun x H26 hx hmx s26 => ?_
        · obtain rfl := List.mem_singleton.mp hx
          exact i1.mono t25
        · obtain rfl := List.mem_singleton.mp hx
          exact o1.bd
        obtain rfl := List.mem_singleton.mp hx
        walk_at "rd"
        have t26 := t25.trans s26
        refine i_Req (i1.mono t26) (i1.mono t26) fun H27 s27 => ?_
        rw [decide_eq_true rfl]
        walk_at "rd"
        exact k H27
theorem mk_law {K : PySem.W.Frag} {H : Hp} {a : Addr} {ns : List Int} (hS : SqL K H a (ns.map V.int)) (hl : ns.length ≤ 63) : spLaw K [.ref a] H (fun v _ => v = .bl true) fun _ _ _ => False := ⟨rfl, a, ns, rfl, hS, fun _ => rfl⟩
theorem all_mk {P : Program} {w : World} {K : PySem.W.Frag} {h : Heap} {mg : Str → Option Value} {fa : Addr} (X : K.In h) (G : h.Ns mainGlobals mg) (hfa : mg "law" = some (.ref fa))
    {CR : Addr}
    {CB : Addr}
    {CT : Addr}
    {nm_BadNumber : Str}
    {q_BadNumber : Str}
    {N_BadNumber : Addr}
    {bs_BadNumber : List Value}
    {sn_BadNumber : List Str}
    {sub_BadNumber : List Value}
    {ab_BadNumber : Bool}
    {col_BadNumber : Option Bool}
    {dd_BadNumber : Option Addr}
    {m0_BadNumber : Option Value}
    {m1_BadNumber : Option Value}
    {m2_BadNumber : Option Value}
    {m3_BadNumber : Option Value}
    {m5_BadNumber : Option Value}
    {f0 : Addr} {od0 an0 : Option Addr} {sl0 : Array (Option Value)} {oc0 kV0 dc0 pm0 cd0 ct0 : Value}
    {f1 : Addr} {od1 an1 : Option Addr} {sl1 : Array (Option Value)} {oc1 kV1 dc1 pm1 cd1 ct1 : Value}
    {f2 : Addr} {od2 an2 : Option Addr} {sl2 : Array (Option Value)} {oc2 kV2 dc2 pm2 cd2 ct2 : Value}
    {f3 : Addr} {od3 an3 : Option Addr} {sl3 : Array (Option Value)} {oc3 kV3 dc3 pm3 cd3 ct3 : Value}
    {p3 : Addr} {rs3 : List Value}
    {f4 : Addr} {od4 an4 : Option Addr} {sl4 : Array (Option Value)} {oc4 kV4 dc4 pm4 cd4 ct4 : Value}
    {f5 : Addr} {od5 an5 : Option Addr} {sl5 : Array (Option Value)} {oc5 kV5 dc5 pm5 cd5 ct5 : Value}
    {f6 : Addr} {od6 an6 : Option Addr} {sl6 : Array (Option Value)} {oc6 kV6 dc6 pm6 cd6 ct6 : Value}
    {f7 : Addr} {od7 an7 : Option Addr} {sl7 : Array (Option Value)} {oc7 kV7 dc7 pm7 cd7 ct7 : Value}
    {f8 : Addr} {od8 an8 : Option Addr} {sl8 : Array (Option Value)} {oc8 kV8 dc8 pm8 cd8 ct8 : Value}
    {f9 : Addr} {od9 an9 : Option Addr} {sl9 : Array (Option Value)} {oc9 kV9 dc9 pm9 cd9 ct9 : Value}
    {f10 : Addr} {od10 an10 : Option Addr} {sl10 : Array (Option Value)} {oc10 kV10 dc10 pm10 cd10 ct10 : Value}
    {f11 : Addr} {od11 an11 : Option Addr} {sl11 : Array (Option Value)} {oc11 kV11 dc11 pm11 cd11 ct11 : Value}
    {f12 : Addr} {od12 an12 : Option Addr} {sl12 : Array (Option Value)} {oc12 kV12 dc12 pm12 cd12 ct12 : Value}
    {f13 : Addr} {od13 an13 : Option Addr} {sl13 : Array (Option Value)} {oc13 kV13 dc13 pm13 cd13 ct13 : Value}
    {f14 : Addr} {od14 an14 : Option Addr} {sl14 : Array (Option Value)} {oc14 kV14 dc14 pm14 cd14 ct14 : Value}
    {f15 : Addr} {od15 an15 : Option Addr} {sl15 : Array (Option Value)} {oc15 kV15 dc15 pm15 cd15 ct15 : Value}
    {f16 : Addr} {od16 an16 : Option Addr} {sl16 : Array (Option Value)} {oc16 kV16 dc16 pm16 cd16 ct16 : Value}
    {f17 : Addr} {od17 an17 : Option Addr} {sl17 : Array (Option Value)} {oc17 kV17 dc17 pm17 cd17 ct17 : Value}
    {f18 : Addr} {od18 an18 : Option Addr} {sl18 : Array (Option Value)} {oc18 kV18 dc18 pm18 cd18 ct18 : Value}
    {f19 : Addr} {od19 an19 : Option Addr} {sl19 : Array (Option Value)} {oc19 kV19 dc19 pm19 cd19 ct19 : Value}
    {f20 : Addr} {od20 an20 : Option Addr} {sl20 : Array (Option Value)} {oc20 kV20 dc20 pm20 cd20 ct20 : Value}
    {f21 : Addr} {od21 an21 : Option Addr} {sl21 : Array (Option Value)} {oc21 kV21 dc21 pm21 cd21 ct21 : Value}
    {f22 : Addr} {od22 an22 : Option Addr} {sl22 : Array (Option Value)} {oc22 kV22 dc22 pm22 cd22 ct22 : Value}
    {f23 : Addr} {od23 an23 : Option Addr} {sl23 : Array (Option Value)} {oc23 kV23 dc23 pm23 cd23 ct23 : Value}
    {f24 : Addr} {od24 an24 : Option Addr} {sl24 : Array (Option Value)} {oc24 kV24 dc24 pm24 cd24 ct24 : Value}
    (aC_Ratio : PySem.W.nsIn K mainGlobals "Ratio" = some (some (.ref CR)))
    (aC_BadNumber : PySem.W.nsIn K mainGlobals "BadNumber" = some (some (.ref CB)))
    (aC_ThrowError : PySem.W.nsIn K mainGlobals "ThrowError" = some (some (.ref CT)))
    (pg_Ratio : PySem.W.plainGet K CR Str.empty = true)
    (hd_Ratio : PySem.W.hasDictIn K CR = true)
    (po_Ratio : PySem.W.plainOver K CR = true)
    (sa_Ratio : PySem.W.findIn K (.ref CR) "__setattr__" = some (some (.builtin "object.__setattr__")))
    (ha_Ratio : PySem.W.findIn K (.ref CR) "__class__" = some (some (.builtin "object.__class__")))
    (hm_Ratio : PySem.W.mroIn K CR (.type "object") = some true)
    (mk_Ratio : PySem.W.makesIn K CR = true)
    (kc_Ratio : PySem.W.keepIn K (.ref CR) = true)
    (sf_Ratio : PySem.W.selfFirst K CR = true)
    (iC_Ratio : PySem.W.isClsIn K CR = true)
    (tC_Ratio : PySem.W.typeIn K (.ref CR) = some (.type "type"))
    (ne_Ratio : PySem.W.findIn K (.ref CR) "__ne__" = some (some (.builtin "object.__ne__")))
    (ob_Ratio : PySem.W.subIn K (.ref CR) (.type "object") = some true)
    (hn : PySem.W.specialIn K (.builtin "object.__class__") "__get__" = some (some (.builtin "getset_descriptor.__get__")))
    (htk : PySem.W.takesIn K (.builtin "object.__class__") = some true)
    (xL_BadNumber : K.lookup CB = some (excClassObj nm_BadNumber q_BadNumber CB N_BadNumber bs_BadNumber [.ref CT, .type "ValueError", .type "Exception", .type "BaseException", .type "object"] true sn_BadNumber sub_BadNumber ab_BadNumber col_BadNumber dd_BadNumber m0_BadNumber m1_BadNumber m2_BadNumber m3_BadNumber m5_BadNumber "ValueError.__new__"))
    (sa_BadNumber : PySem.W.findIn K (.ref CB) "__setattr__" = some (some (.builtin "object.__setattr__")))
    (ga_BadNumber : PySem.W.findIn K (.ref CB) "__getattribute__" = some (some (.builtin "BaseException.__getattribute__")))
    (gg_BadNumber : PySem.W.findIn K (.ref CB) "__getattr__" = some none)
    (kC_BadNumber : PySem.W.keepIn K (.ref CB) = true)
    (eC_BadNumber : PySem.W.subIn K (.ref CB) (.type "BaseException") = some true)
    (tC_BadNumber : PySem.W.typeIn K (.ref CB) = some (.type "type"))
    (hC_BadNumber : PySem.W.hasDictIn K CB = true)
    (iC_BadNumber : PySem.W.isClsIn K CB = true)
    (sC_BadNumber : PySem.W.subIn K (.ref CB) (.ref CB) = some true)
    (rd_Ratio : PySem.W.readsIn K CR (.type "type") = true)
    (rg_Ratio : PySem.W.specialIn K (.ref CR) "__getattribute__" = some (some (.builtin "type.__getattribute__")))
    (rd_ThrowError : PySem.W.readsIn K CT (.type "type") = true)
    (rg_ThrowError : PySem.W.specialIn K (.ref CT) "__getattribute__" = some (some (.builtin "type.__getattribute__")))
    (rv_ThrowError : PySem.W.findCls K (.ref CT) (.type "type") "__init__" = some (.val (.builtin "ValueError.__init__")))
    (a0 : PySem.W.nsIn K mainGlobals "_shown" = some (some (.ref f0)))
    (l0 : K.lookup f0 = some ⟨oc0, od0, .func (PySem.W.fnOf "_shown" "_shown" (defArgs s__shown) (defBody s__shown) (defScope s__shown) .none kV0 dc0 pm0 an0 cd0 ct0), sl0⟩)
    (c0 : PySem.W.codeIn K cd0 "_shown" = true)
    (k0 : PySem.W.keepIn K (.ref f0) = true)
    (a1 : PySem.W.findIn K (.ref CB) "__init__" = some (some (.ref f1)))
    (t1 : PySem.W.typeIn K (.ref f1) = some (.type "function"))
    (l1 : K.lookup f1 = some ⟨oc1, od1, .func (PySem.W.fnOf "__init__" "BadNumber.__init__" (defArgs s_BadNumber___init__) (defBody s_BadNumber___init__) (defScope s_BadNumber___init__) .none kV1 dc1 pm1 an1 cd1 ct1), sl1⟩)
    (c1 : PySem.W.codeIn K cd1 "BadNumber.__init__" = true)
    (k1 : PySem.W.keepIn K (.ref f1) = true)
    (a2 : PySem.W.findIn K (.ref CR) "__init__" = some (some (.ref f2)))
    (i2 : PySem.W.isFn K (.ref f2) = true)
    (l2 : K.lookup f2 = some ⟨oc2, od2, .func (PySem.W.fnOf "__init__" "Ratio.__init__" (defArgs s_Ratio___init__) (defBody s_Ratio___init__) (defScope s_Ratio___init__) .none kV2 dc2 pm2 an2 cd2 ct2), sl2⟩)
    (c2 : PySem.W.codeIn K cd2 "Ratio.__init__" = true)
    (k2 : PySem.W.keepIn K (.ref f2) = true)
    (a3 : PySem.W.findCls K (.ref CR) (.type "type") "whole" = some (.get (.builtin "classmethod.__get__") (.ref p3) .none (.ref CR)))
    (r3 : PySem.W.recIn K p3 "classmethod" = some (.ref f3 :: rs3))
    (i3 : PySem.W.fnIn K f3 = true)
    (l3 : K.lookup f3 = some ⟨oc3, od3, .func (PySem.W.fnOf "whole" "Ratio.whole" (defArgs s_Ratio_whole) (defBody s_Ratio_whole) (defScope s_Ratio_whole) .none kV3 dc3 pm3 an3 cd3 ct3), sl3⟩)
    (c3 : PySem.W.codeIn K cd3 "Ratio.whole" = true)
    (k3 : PySem.W.keepIn K (.ref f3) = true)
    (a4 : PySem.W.findIn K (.ref CR) "quotient" = some (some (.ref f4)))
    (i4 : PySem.W.isFn K (.ref f4) = true)
    (l4 : K.lookup f4 = some ⟨oc4, od4, .func (PySem.W.fnOf "quotient" "Ratio.quotient" (defArgs s_Ratio_quotient) (defBody s_Ratio_quotient) (defScope s_Ratio_quotient) .none kV4 dc4 pm4 an4 cd4 ct4), sl4⟩)
    (c4 : PySem.W.codeIn K cd4 "Ratio.quotient" = true)
    (k4 : PySem.W.keepIn K (.ref f4) = true)
    (a5 : PySem.W.findIn K (.ref CR) "under" = some (some (.ref f5)))
    (i5 : PySem.W.isFn K (.ref f5) = true)
    (l5 : K.lookup f5 = some ⟨oc5, od5, .func (PySem.W.fnOf "under" "Ratio.under" (defArgs s_Ratio_under) (defBody s_Ratio_under) (defScope s_Ratio_under) .none kV5 dc5 pm5 an5 cd5 ct5), sl5⟩)
    (c5 : PySem.W.codeIn K cd5 "Ratio.under" = true)
    (k5 : PySem.W.keepIn K (.ref f5) = true)
    (a6 : PySem.W.findIn K (.ref CR) "__add__" = some (some (.ref f6)))
    (i6 : PySem.W.isFn K (.ref f6) = true)
    (l6 : K.lookup f6 = some ⟨oc6, od6, .func (PySem.W.fnOf "__add__" "Ratio.__add__" (defArgs s_Ratio___add__) (defBody s_Ratio___add__) (defScope s_Ratio___add__) .none kV6 dc6 pm6 an6 cd6 ct6), sl6⟩)
    (c6 : PySem.W.codeIn K cd6 "Ratio.__add__" = true)
    (k6 : PySem.W.keepIn K (.ref f6) = true)
    (a7 : PySem.W.findIn K (.ref CR) "__sub__" = some (some (.ref f7)))
    (i7 : PySem.W.isFn K (.ref f7) = true)
    (l7 : K.lookup f7 = some ⟨oc7, od7, .func (PySem.W.fnOf "__sub__" "Ratio.__sub__" (defArgs s_Ratio___sub__) (defBody s_Ratio___sub__) (defScope s_Ratio___sub__) .none kV7 dc7 pm7 an7 cd7 ct7), sl7⟩)
    (c7 : PySem.W.codeIn K cd7 "Ratio.__sub__" = true)
    (k7 : PySem.W.keepIn K (.ref f7) = true)
    (a8 : PySem.W.findIn K (.ref CR) "__mul__" = some (some (.ref f8)))
    (i8 : PySem.W.isFn K (.ref f8) = true)
    (l8 : K.lookup f8 = some ⟨oc8, od8, .func (PySem.W.fnOf "__mul__" "Ratio.__mul__" (defArgs s_Ratio___mul__) (defBody s_Ratio___mul__) (defScope s_Ratio___mul__) .none kV8 dc8 pm8 an8 cd8 ct8), sl8⟩)
    (c8 : PySem.W.codeIn K cd8 "Ratio.__mul__" = true)
    (k8 : PySem.W.keepIn K (.ref f8) = true)
    (a9 : PySem.W.findIn K (.ref CR) "__neg__" = some (some (.ref f9)))
    (i9 : PySem.W.isFn K (.ref f9) = true)
    (l9 : K.lookup f9 = some ⟨oc9, od9, .func (PySem.W.fnOf "__neg__" "Ratio.__neg__" (defArgs s_Ratio___neg__) (defBody s_Ratio___neg__) (defScope s_Ratio___neg__) .none kV9 dc9 pm9 an9 cd9 ct9), sl9⟩)
    (c9 : PySem.W.codeIn K cd9 "Ratio.__neg__" = true)
    (k9 : PySem.W.keepIn K (.ref f9) = true)
    (a10 : PySem.W.findIn K (.ref CR) "__eq__" = some (some (.ref f10)))
    (i10 : PySem.W.isFn K (.ref f10) = true)
    (l10 : K.lookup f10 = some ⟨oc10, od10, .func (PySem.W.fnOf "__eq__" "Ratio.__eq__" (defArgs s_Ratio___eq__) (defBody s_Ratio___eq__) (defScope s_Ratio___eq__) .none kV10 dc10 pm10 an10 cd10 ct10), sl10⟩)
    (c10 : PySem.W.codeIn K cd10 "Ratio.__eq__" = true)
    (k10 : PySem.W.keepIn K (.ref f10) = true)
    (a11 : PySem.W.findIn K (.ref CR) "__bool__" = some (some (.ref f11)))
    (i11 : PySem.W.isFn K (.ref f11) = true)
    (l11 : K.lookup f11 = some ⟨oc11, od11, .func (PySem.W.fnOf "__bool__" "Ratio.__bool__" (defArgs s_Ratio___bool__) (defBody s_Ratio___bool__) (defScope s_Ratio___bool__) .none kV11 dc11 pm11 an11 cd11 ct11), sl11⟩)
    (c11 : PySem.W.codeIn K cd11 "Ratio.__bool__" = true)
    (k11 : PySem.W.keepIn K (.ref f11) = true)
    (a12 : PySem.W.nsIn K mainGlobals "total" = some (some (.ref f12)))
    (l12 : K.lookup f12 = some ⟨oc12, od12, .func (PySem.W.fnOf "total" "total" (defArgs s_total) (defBody s_total) (defScope s_total) .none kV12 dc12 pm12 an12 cd12 ct12), sl12⟩)
    (c12 : PySem.W.codeIn K cd12 "total" = true)
    (k12 : PySem.W.keepIn K (.ref f12) = true)
    (a13 : PySem.W.nsIn K mainGlobals "greatest" = some (some (.ref f13)))
    (l13 : K.lookup f13 = some ⟨oc13, od13, .func (PySem.W.fnOf "greatest" "greatest" (defArgs s_greatest) (defBody s_greatest) (defScope s_greatest) .none kV13 dc13 pm13 an13 cd13 ct13), sl13⟩)
    (c13 : PySem.W.codeIn K cd13 "greatest" = true)
    (k13 : PySem.W.keepIn K (.ref f13) = true)
    (a14 : PySem.W.nsIn K mainGlobals "_law_pool" = some (some (.ref f14)))
    (l14 : K.lookup f14 = some ⟨oc14, od14, .func (PySem.W.fnOf "_law_pool" "_law_pool" (defArgs s__law_pool) (defBody s__law_pool) (defScope s__law_pool) .none kV14 dc14 pm14 an14 cd14 ct14), sl14⟩)
    (c14 : PySem.W.codeIn K cd14 "_law_pool" = true)
    (k14 : PySem.W.keepIn K (.ref f14) = true)
    (a15 : PySem.W.nsIn K mainGlobals "_law_take" = some (some (.ref f15)))
    (l15 : K.lookup f15 = some ⟨oc15, od15, .func (PySem.W.fnOf "_law_take" "_law_take" (defArgs s__law_take) (defBody s__law_take) (defScope s__law_take) .none kV15 dc15 pm15 an15 cd15 ct15), sl15⟩)
    (c15 : PySem.W.codeIn K cd15 "_law_take" = true)
    (k15 : PySem.W.keepIn K (.ref f15) = true)
    (a16 : PySem.W.nsIn K mainGlobals "_law_cell" = some (some (.ref f16)))
    (l16 : K.lookup f16 = some ⟨oc16, od16, .func (PySem.W.fnOf "_law_cell" "_law_cell" (defArgs s__law_cell) (defBody s__law_cell) (defScope s__law_cell) .none kV16 dc16 pm16 an16 cd16 ct16), sl16⟩)
    (c16 : PySem.W.codeIn K cd16 "_law_cell" = true)
    (k16 : PySem.W.keepIn K (.ref f16) = true)
    (a17 : PySem.W.nsIn K mainGlobals "_law_common" = some (some (.ref f17)))
    (l17 : K.lookup f17 = some ⟨oc17, od17, .func (PySem.W.fnOf "_law_common" "_law_common" (defArgs s__law_common) (defBody s__law_common) (defScope s__law_common) .none kV17 dc17 pm17 an17 cd17 ct17), sl17⟩)
    (c17 : PySem.W.codeIn K cd17 "_law_common" = true)
    (k17 : PySem.W.keepIn K (.ref f17) = true)
    (a18 : PySem.W.nsIn K mainGlobals "_law_terms" = some (some (.ref f18)))
    (l18 : K.lookup f18 = some ⟨oc18, od18, .func (PySem.W.fnOf "_law_terms" "_law_terms" (defArgs s__law_terms) (defBody s__law_terms) (defScope s__law_terms) .none kV18 dc18 pm18 an18 cd18 ct18), sl18⟩)
    (c18 : PySem.W.codeIn K cd18 "_law_terms" = true)
    (k18 : PySem.W.keepIn K (.ref f18) = true)
    (a19 : PySem.W.nsIn K mainGlobals "_law_number" = some (some (.ref f19)))
    (l19 : K.lookup f19 = some ⟨oc19, od19, .func (PySem.W.fnOf "_law_number" "_law_number" (defArgs s__law_number) (defBody s__law_number) (defScope s__law_number) .none kV19 dc19 pm19 an19 cd19 ct19), sl19⟩)
    (c19 : PySem.W.codeIn K cd19 "_law_number" = true)
    (k19 : PySem.W.keepIn K (.ref f19) = true)
    (a20 : PySem.W.nsIn K mainGlobals "_law_is" = some (some (.ref f20)))
    (l20 : K.lookup f20 = some ⟨oc20, od20, .func (PySem.W.fnOf "_law_is" "_law_is" (defArgs s__law_is) (defBody s__law_is) (defScope s__law_is) .none kV20 dc20 pm20 an20 cd20 ct20), sl20⟩)
    (c20 : PySem.W.codeIn K cd20 "_law_is" = true)
    (k20 : PySem.W.keepIn K (.ref f20) = true)
    (a21 : PySem.W.nsIn K mainGlobals "_law_refused" = some (some (.ref f21)))
    (l21 : K.lookup f21 = some ⟨oc21, od21, .func (PySem.W.fnOf "_law_refused" "_law_refused" (defArgs s__law_refused) (defBody s__law_refused) (defScope s__law_refused) .none kV21 dc21 pm21 an21 cd21 ct21), sl21⟩)
    (c21 : PySem.W.codeIn K cd21 "_law_refused" = true)
    (k21 : PySem.W.keepIn K (.ref f21) = true)
    (a22 : PySem.W.nsIn K mainGlobals "_law_pair_fits" = some (some (.ref f22)))
    (l22 : K.lookup f22 = some ⟨oc22, od22, .func (PySem.W.fnOf "_law_pair_fits" "_law_pair_fits" (defArgs s__law_pair_fits) (defBody s__law_pair_fits) (defScope s__law_pair_fits) .none kV22 dc22 pm22 an22 cd22 ct22), sl22⟩)
    (c22 : PySem.W.codeIn K cd22 "_law_pair_fits" = true)
    (k22 : PySem.W.keepIn K (.ref f22) = true)
    (a23 : PySem.W.nsIn K mainGlobals "_law_list_fits" = some (some (.ref f23)))
    (l23 : K.lookup f23 = some ⟨oc23, od23, .func (PySem.W.fnOf "_law_list_fits" "_law_list_fits" (defArgs s__law_list_fits) (defBody s__law_list_fits) (defScope s__law_list_fits) .none kV23 dc23 pm23 an23 cd23 ct23), sl23⟩)
    (c23 : PySem.W.codeIn K cd23 "_law_list_fits" = true)
    (k23 : PySem.W.keepIn K (.ref f23) = true)
    (a24 : PySem.W.nsIn K mainGlobals "law" = some (some (.ref f24)))
    (l24 : K.lookup f24 = some ⟨oc24, od24, .func (PySem.W.fnOf "law" "law" (defArgs s_law) (defBody s_law) (defScope s_law) .none kV24 dc24 pm24 an24 cd24 ct24), sl24⟩)
    (c24 : PySem.W.codeIn K cd24 "law" = true)
    (k24 : PySem.W.keepIn K (.ref f24) = true)
    (z_abs : PySem.W.nsIn K mainGlobals "abs" = some none)
    (z_any : PySem.W.nsIn K mainGlobals "any" = some none)
    (z_bool : PySem.W.nsIn K mainGlobals "bool" = some none)
    (z_int : PySem.W.nsIn K mainGlobals "int" = some none)
    (z_isinstance : PySem.W.nsIn K mainGlobals "isinstance" = some none)
    (z_len : PySem.W.nsIn K mainGlobals "len" = some none)
    (z_range : PySem.W.nsIn K mainGlobals "range" = some none)
    (z_str : PySem.W.nsIn K mainGlobals "str" = some none)
    (w_ki_int_Ratio : PySem.W.subIn K (.type "int") (.ref CR) = some false)
    (w_ki_str_Ratio : PySem.W.subIn K (.type "str") (.ref CR) = some false)
    (z_gcd : PySem.W.nsIn K mainGlobals "gcd" = some (some (.builtin "math.gcd")))
    (w_na_Ratio_bottom : PySem.W.findIn K (.ref CR) "bottom" = some none)
    (w_na_Ratio_top : PySem.W.findIn K (.ref CR) "top" = some none)
    (w_nf_int_Ratio : PySem.W.notFirst K CR (.type "int") = true)
    (w_nf_str_Ratio : PySem.W.notFirst K CR (.type "str") = true)
    (w_xn_BadNumber_n : PySem.W.findIn K (.ref CB) "n" = some none)
    : ∃ fd : FuncData, (∀ (s : Shared) (v : Value), BindsTo s fd ⟨[v], []⟩ [("_law_script", v)]) ∧ ∀ base : Heap, K.In base → base.Ns mainGlobals mg → FnOk P w K mg base (L2.CX P w) 9 fa fd ["_law_script"] (spLaw K) := by
  have e := hfa.symm.trans (PySem.W.mg_of X G a24)
  cases e
  have F0 := fun_mk (st := s__shown) l0 c0 k0
  have b0 := F0.binds (ps := ["n"]) fun _ _ _ _ _ _ us hl => match us, hl with | [_], _ => rfl
  have F1 := fun_mk (st := s_BadNumber___init__) l1 c1 k1
  have b1 := F1.binds (ps := ["self", "n"]) fun _ _ _ _ _ _ us hl => match us, hl with | [_, _], _ => rfl
  have F2 := fun_mk (st := s_Ratio___init__) l2 c2 k2
  have b2 := F2.binds (ps := ["self", "top", "bottom"]) fun _ _ _ _ _ _ us hl => match us, hl with | [_, _, _], _ => rfl
  have F3 := fun_mk (st := s_Ratio_whole) l3 c3 k3
  have b3 := F3.binds (ps := ["cls", "n"]) fun _ _ _ _ _ _ us hl => match us, hl with | [_, _], _ => rfl
  have F4 := fun_mk (st := s_Ratio_quotient) l4 c4 k4
  have b4 := F4.binds (ps := ["self", "other"]) fun _ _ _ _ _ _ us hl => match us, hl with | [_, _], _ => rfl
  have F5 := fun_mk (st := s_Ratio_under) l5 c5 k5
  have b5 := F5.binds (ps := ["self", "other"]) fun _ _ _ _ _ _ us hl => match us, hl with | [_, _], _ => rfl
  have F6 := fun_mk (st := s_Ratio___add__) l6 c6 k6
  have b6 := F6.binds (ps := ["self", "other"]) fun _ _ _ _ _ _ us hl => match us, hl with | [_, _], _ => rfl
  have F7 := fun_mk (st := s_Ratio___sub__) l7 c7 k7
  have b7 := F7.binds (ps := ["self", "other"]) fun _ _ _ _ _ _ us hl => match us, hl with | [_, _], _ => rfl
  have F8 := fun_mk (st := s_Ratio___mul__) l8 c8 k8
  have b8 := F8.binds (ps := ["self", "other"]) fun _ _ _ _ _ _ us hl => match us, hl with | [_, _], _ => rfl
  have F9 := fun_mk (st := s_Ratio___neg__) l9 c9 k9
  have b9 := F9.binds (ps := ["self"]) fun _ _ _ _ _ _ us hl => match us, hl with | [_], _ => rfl
  have F10 := fun_mk (st := s_Ratio___eq__) l10 c10 k10
  have b10 := F10.binds (ps := ["self", "other"]) fun _ _ _ _ _ _ us hl => match us, hl with | [_, _], _ => rfl
  have F11 := fun_mk (st := s_Ratio___bool__) l11 c11 k11
  have b11 := F11.binds (ps := ["self"]) fun _ _ _ _ _ _ us hl => match us, hl with | [_], _ => rfl
  have F12 := fun_mk (st := s_total) l12 c12 k12
  have b12 := F12.binds (ps := ["ratios"]) fun _ _ _ _ _ _ us hl => match us, hl with | [_], _ => rfl
  have F13 := fun_mk (st := s_greatest) l13 c13 k13
  have b13 := F13.binds (ps := ["ratios"]) fun _ _ _ _ _ _ us hl => match us, hl with | [_], _ => rfl
  have F14 := fun_mk (st := s__law_pool) l14 c14 k14
  have b14 := F14.binds (ps := ["_law_cell_here"]) fun _ _ _ _ _ _ us hl => match us, hl with | [_], _ => rfl
  have F15 := fun_mk (st := s__law_take) l15 c15 k15
  have b15 := F15.binds (ps := ["_law_pool_here", "_law_limit"]) fun _ _ _ _ _ _ us hl => match us, hl with | [_, _], _ => rfl
  have F16 := fun_mk (st := s__law_cell) l16 c16 k16
  have b16 := F16.binds (ps := ["_law_script", "_law_k"]) fun _ _ _ _ _ _ us hl => match us, hl with | [_, _], _ => rfl
  have F17 := fun_mk (st := s__law_common) l17 c17 k17
  have b17 := F17.binds (ps := ["_law_a", "_law_b"]) fun _ _ _ _ _ _ us hl => match us, hl with | [_, _], _ => rfl
  have F18 := fun_mk (st := s__law_terms) l18 c18 k18
  have b18 := F18.binds (ps := ["_law_a", "_law_b"]) fun _ _ _ _ _ _ us hl => match us, hl with | [_, _], _ => rfl
  have F19 := fun_mk (st := s__law_number) l19 c19 k19
  have b19 := F19.binds (ps := ["_law_pool_here"]) fun _ _ _ _ _ _ us hl => match us, hl with | [_], _ => rfl
  have F20 := fun_mk (st := s__law_is) l20 c20 k20
  have b20 := F20.binds (ps := ["_law_told", "_law_a", "_law_b"]) fun _ _ _ _ _ _ us hl => match us, hl with | [_, _, _], _ => rfl
  have F21 := fun_mk (st := s__law_refused) l21 c21 k21
  have b21 := F21.binds (ps := ["_law_which", "_law_first"]) fun _ _ _ _ _ _ us hl => match us, hl with | [_, _], _ => rfl
  have F22 := fun_mk (st := s__law_pair_fits) l22 c22 k22
  have b22 := F22.binds (ps := ["_law_first", "_law_second", "_law_one", "_law_other"]) fun _ _ _ _ _ _ us hl => match us, hl with | [_, _, _, _], _ => rfl
  have F23 := fun_mk (st := s__law_list_fits) l23 c23 k23
  have b23 := F23.binds (ps := ["_law_first", "_law_second", "_law_third"]) fun _ _ _ _ _ _ us hl => match us, hl with | [_, _, _], _ => rfl
  have F24 := fun_mk (st := s_law) l24 c24 k24
  refine ⟨PySem.W.fnOf "law" "law" (defArgs s_law) (defBody s_law) (defScope s_law) .none kV24 dc24 pm24 an24 cd24 ct24, fun s v => .of_eq rfl, fun base _ _ => ?_⟩
  have C_b_abs := PySem.W.mg_none_of X G z_abs
  have C_b_any := PySem.W.mg_none_of X G z_any
  have C_b_bool := PySem.W.mg_none_of X G z_bool
  have C_b_int := PySem.W.mg_none_of X G z_int
  have C_b_isinstance := PySem.W.mg_none_of X G z_isinstance
  have C_b_len := PySem.W.mg_none_of X G z_len
  have C_b_range := PySem.W.mg_none_of X G z_range
  have C_b_str := PySem.W.mg_none_of X G z_str
  have C_c_Ratio : ClO K CR := ⟨⟨pg_Ratio, hd_Ratio, po_Ratio, sa_Ratio⟩, ha_Ratio, hn, htk, hm_Ratio⟩
  have C_gBadNumber := PySem.W.mg_of X G aC_BadNumber
  have C_gRatio := PySem.W.mg_of X G aC_Ratio
  have C_ki_Ratio_Ratio : PySem.W.kitOne K (.ref CR) (.ref CR) = some true := kit_self
  have C_ki_int_Ratio : PySem.W.kitOne K (.type "int") (.ref CR) = some false := kit_c iC_Ratio tC_Ratio w_ki_int_Ratio rfl
  have C_ki_str_Ratio : PySem.W.kitOne K (.type "str") (.ref CR) = some false := kit_c iC_Ratio tC_Ratio w_ki_str_Ratio rfl
  have C_m_gcd := PySem.W.mg_of X G z_gcd
  have C_na_Ratio_bottom : NoAttr K CR "bottom" := w_na_Ratio_bottom
  have C_na_Ratio_top : NoAttr K CR "top" := w_na_Ratio_top
  have C_ne_Ratio : NeC K CR := ⟨ne_Ratio, ob_Ratio⟩
  have C_nf_int_Ratio : PySem.W.notFirst K CR (.type "int") = true := w_nf_int_Ratio
  have C_nf_str_Ratio : PySem.W.notFirst K CR (.type "str") = true := w_nf_str_Ratio
  have C_ox_BadNumber : OexC K CB := ⟨⟨_, _, _, _, _, _, _, _, _, _, _, _, _, _, _, xL_BadNumber, refs_ve _⟩, sa_BadNumber, eC_BadNumber, tC_BadNumber, kC_BadNumber⟩
  have C_t_ThrowError : CalT K mg "ThrowError" := mk_calT X G aC_ThrowError ⟨rd_ThrowError, rg_ThrowError⟩ rv_ThrowError
  have C_xf_BadNumber : XfC K CB := ⟨ga_BadNumber, gg_BadNumber, eC_BadNumber, hC_BadNumber⟩
  have C_xm_BadNumber : PySem.W.exmOne K (.ref CB) (.ref CB) = some true := exm_in eC_BadNumber iC_BadNumber tC_BadNumber sC_BadNumber
  have C_xn_BadNumber_n : PySem.W.findIn K (.ref CB) "n" = some none := w_xn_BadNumber_n
  have G__shown : FnOk P w K mg base (L2.CX P w) 1 f0 _ _ spShown := ok__shown F0 C_b_int C_b_isinstance C_b_str
  have C_f_shown : Cal P w K mg base "_shown" 1 spShown := mk_cal X G a0 k0 G__shown b0
  have G_Ratio_under : FnOk P w K mg base (L2.CX P w) 1 f5 _ _ (spRUnder CR) := ok_Ratio_under F5 C_c_Ratio C_na_Ratio_bottom C_na_Ratio_top
  have C_m_Ratio_under : CalM P w K mg base CR "under" 1 (spRUnder CR) := mk_calM ⟨a5, i5, k5⟩ G_Ratio_under b5
  have G_Ratio___eq__ : FnOk P w K mg base (L2.CX P w) 1 f10 _ _ (spREq K CR) := ok_Ratio___eq__ F10 C_b_isinstance C_c_Ratio C_gRatio C_ki_Ratio_Ratio C_na_Ratio_bottom C_na_Ratio_top
  have C_o_Ratio_eq : CalO P w K mg base CR "__eq__" 1 (spREq K CR) := mk_calO a10 i10 sf_Ratio G_Ratio___eq__ b10
  have G_Ratio___bool__ : FnOk P w K mg base (L2.CX P w) 1 f11 _ _ (spRBool CR) := ok_Ratio___bool__ F11 C_b_bool C_c_Ratio C_na_Ratio_bottom C_na_Ratio_top
  have C_o_Ratio_bool : CalO P w K mg base CR "__bool__" 1 (spRBool CR) := mk_calO a11 i11 sf_Ratio G_Ratio___bool__ b11
  have G__law_pool : FnOk P w K mg base (L2.CX P w) 1 f14 _ _ spPool := ok__law_pool F14
  have C_f_law_pool : Cal P w K mg base "_law_pool" 1 spPool := mk_cal X G a14 k14 G__law_pool b14
  have G__law_take : FnOk P w K mg base (L2.CX P w) 1 f15 _ _ spTake := ok__law_take F15 C_b_int
  have C_f_law_take : Cal P w K mg base "_law_take" 1 spTake := mk_cal X G a15 k15 G__law_take b15
  have G__law_cell : FnOk P w K mg base (L2.CX P w) 1 f16 _ _ (spCell K) := ok__law_cell F16 C_b_len
  have C_f_law_cell : Cal P w K mg base "_law_cell" 1 (spCell K) := mk_cal X G a16 k16 G__law_cell b16
  have G__law_common : FnOk P w K mg base (L2.CX P w) 1 f17 _ _ spCommon := ok__law_common F17 C_b_abs
  have C_f_law_common : Cal P w K mg base "_law_common" 1 spCommon := mk_cal X G a17 k17 G__law_common b17
  have G_BadNumber___init__ : FnOk P w K mg base (L2.CX P w) 2 f1 _ _ (spX1 K CB "n" GInt) := ok_BadNumber___init__ F1 C_f_shown C_ox_BadNumber C_t_ThrowError C_xn_BadNumber_n
  have C_x_BadNumber : CalX P w K mg base "BadNumber" CB 2 ["self", "n"] (spX1 K CB "n" GInt) := mk_calX X G aC_BadNumber C_ox_BadNumber a1 t1 G_BadNumber___init__ b1
  have G_greatest : FnOk P w K mg base (L2.CX P w) 2 f13 _ _ (spGreatest K CR) := ok_greatest F13 C_c_Ratio C_m_Ratio_under
  have C_f_greatest : Cal P w K mg base "greatest" 2 (spGreatest K CR) := mk_cal X G a13 k13 G_greatest b13
  have G_greatest__T : FnOk P w K mg base (L2.CX P w) 2 f13 _ _ (spGreatestT K CR) := ok_greatest__T F13 C_c_Ratio C_m_Ratio_under
  have C_f_greatest__T : Cal P w K mg base "greatest" 2 (spGreatestT K CR) := mk_cal X G a13 k13 G_greatest__T b13
  have G__law_terms : FnOk P w K mg base (L2.CX P w) 2 f18 _ _ spTerms := ok__law_terms F18 C_f_law_common
  have C_f_law_terms : Cal P w K mg base "_law_terms" 2 spTerms := mk_cal X G a18 k18 G__law_terms b18
  have G__law_number : FnOk P w K mg base (L2.CX P w) 2 f19 _ _ spNumber := ok__law_number F19 C_f_law_take
  have C_f_law_number : Cal P w K mg base "_law_number" 2 spNumber := mk_cal X G a19 k19 G__law_number b19
  have G_Ratio___init__ : FnOk P w K mg base (L2.CX P w) 4 f2 _ _ (spRInit CR CB) := ok_Ratio___init__ F2 C_c_Ratio C_m_gcd C_na_Ratio_bottom C_na_Ratio_top C_x_BadNumber
  have C_i_Ratio : CalI P w K mg base "Ratio" CR 4 (spRInit CR CB) := mk_calI X G aC_Ratio ⟨mk_Ratio, a2, i2, kc_Ratio⟩ G_Ratio___init__ b2
  have G_Ratio_whole : FnOk P w K mg base (L2.CX P w) 6 f3 _ _ (spRWhole CR) := ok_Ratio_whole F3 C_i_Ratio
  have C_k_Ratio_whole : CalK P w K mg base CR "whole" 6 (spRWhole CR) := mk_calK ⟨rd_Ratio, rg_Ratio⟩ ⟨a3, ⟨_, r3⟩, i3⟩ G_Ratio_whole b3
  have G_Ratio_quotient : FnOk P w K mg base (L2.CX P w) 6 f4 _ _ (spRQuot CR CB) := ok_Ratio_quotient F4 C_c_Ratio C_i_Ratio C_na_Ratio_bottom C_na_Ratio_top C_x_BadNumber
  have C_m_Ratio_quotient : CalM P w K mg base CR "quotient" 6 (spRQuot CR CB) := mk_calM ⟨a4, i4, k4⟩ G_Ratio_quotient b4
  have G_Ratio___add__ : FnOk P w K mg base (L2.CX P w) 6 f6 _ _ (spR2 CR (· + ·)) := ok_Ratio___add__ F6 C_c_Ratio C_i_Ratio C_na_Ratio_bottom C_na_Ratio_top
  have C_o_Ratio_add : CalO P w K mg base CR "__add__" 6 (spR2 CR (· + ·)) := mk_calO a6 i6 sf_Ratio G_Ratio___add__ b6
  have G_Ratio___sub__ : FnOk P w K mg base (L2.CX P w) 6 f7 _ _ (spR2 CR (· - ·)) := ok_Ratio___sub__ F7 C_c_Ratio C_i_Ratio C_na_Ratio_bottom C_na_Ratio_top
  have C_o_Ratio_sub : CalO P w K mg base CR "__sub__" 6 (spR2 CR (· - ·)) := mk_calO a7 i7 sf_Ratio G_Ratio___sub__ b7
  have G_Ratio___mul__ : FnOk P w K mg base (L2.CX P w) 6 f8 _ _ (spR2 CR (· * ·)) := ok_Ratio___mul__ F8 C_c_Ratio C_i_Ratio C_na_Ratio_bottom C_na_Ratio_top
  have C_o_Ratio_mul : CalO P w K mg base CR "__mul__" 6 (spR2 CR (· * ·)) := mk_calO a8 i8 sf_Ratio G_Ratio___mul__ b8
  have G_Ratio___neg__ : FnOk P w K mg base (L2.CX P w) 6 f9 _ _ (spR1 CR (- ·)) := ok_Ratio___neg__ F9 C_c_Ratio C_i_Ratio C_na_Ratio_bottom C_na_Ratio_top
  have C_o_Ratio_neg : CalO P w K mg base CR "__neg__" 6 (spR1 CR (- ·)) := mk_calO a9 i9 sf_Ratio G_Ratio___neg__ b9
  have G__law_is : FnOk P w K mg base (L2.CX P w) 6 f20 _ _ (spIs CR) := ok__law_is F20 C_b_bool C_b_isinstance C_c_Ratio C_f_law_terms C_gRatio C_i_Ratio C_ki_Ratio_Ratio C_na_Ratio_bottom C_na_Ratio_top C_ne_Ratio C_o_Ratio_bool C_o_Ratio_eq
  have C_f_law_is : Cal P w K mg base "_law_is" 6 (spIs CR) := mk_cal X G a20 k20 G__law_is b20
  have G_total : FnOk P w K mg base (L2.CX P w) 7 f12 _ _ (spTotal K CR) := ok_total F12 C_gRatio C_k_Ratio_whole C_o_Ratio_add
  have C_f_total : Cal P w K mg base "total" 7 (spTotal K CR) := mk_cal X G a12 k12 G_total b12
  have G__law_refused : FnOk P w K mg base (L2.CX P w) 7 f21 _ _ (spRefused CR) := ok__law_refused F21 C_c_Ratio C_gBadNumber C_i_Ratio C_m_Ratio_quotient C_na_Ratio_top C_xf_BadNumber C_xm_BadNumber C_xn_BadNumber_n
  have C_f_law_refused : Cal P w K mg base "_law_refused" 7 (spRefused CR) := mk_cal X G a21 k21 G__law_refused b21
  have G__law_pair_fits : FnOk P w K mg base (L2.CX P w) 7 f22 _ _ (spPair K CR) := ok__law_pair_fits F22 C_c_Ratio C_f_law_is C_m_Ratio_quotient C_m_Ratio_under C_o_Ratio_add C_o_Ratio_eq C_o_Ratio_mul C_o_Ratio_neg C_o_Ratio_sub
  have C_f_law_pair_fits : Cal P w K mg base "_law_pair_fits" 7 (spPair K CR) := mk_cal X G a22 k22 G__law_pair_fits b22
  have G__law_list_fits : FnOk P w K mg base (L2.CX P w) 8 f23 _ _ (spList CR) := ok__law_list_fits F23 C_b_any C_c_Ratio C_f_greatest C_f_total C_m_Ratio_under C_o_Ratio_add C_o_Ratio_eq C_o_Ratio_mul
  have C_f_law_list_fits : Cal P w K mg base "_law_list_fits" 8 (spList CR) := mk_cal X G a23 k23 G__law_list_fits b23
  exact ok_law F24 C_b_int C_b_range C_f_greatest__T C_f_law_cell C_f_law_list_fits C_f_law_number C_f_law_pair_fits C_f_law_pool C_f_law_refused C_f_total C_gRatio C_i_Ratio C_k_Ratio_whole C_ki_int_Ratio C_ki_str_Ratio C_nf_int_Ratio C_nf_str_Ratio C_o_Ratio_eq
theorem walk {l : PySem.W.OpenLaw} {q : Program} {loose : List Str} {XP : (Str → Option Value) → Heap → Prop} {YP : World → Heap → Prop} {d : DefRec} {K : Params → PySem.W.Frag} (hn : l.most = some 63) (hdf : d.params.defaults = [])
    (hY : ∀ (w : World) (h : Heap), YP w h → (K w.params).In h)
    (F : ∀ (w : World) (mg : Str → Option Value) (fa : Addr) (h : Heap), (K w.params).In h → h.Ns mainGlobals mg → mg d.name = some (.ref fa) →
      ∃ fd : FuncData, (∀ (s : Shared) (u : Value), BindsTo s fd ⟨[u], []⟩ [("_law_script", u)]) ∧ ∀ base : Heap, (K w.params).In base → base.Ns mainGlobals mg → FnOk l.prog w (K w.params) mg base (L2.CX l.prog w) 9 fa fd ["_law_script"] (spLaw (K w.params))) :
    PySem.W.WalkO q loose XP YP l.row.toRowW d [] (fun f vs => PySem.call f vs) :=
  L2.walk_of (n := 63) (k := 9) (x := "_law_script") (CX := fun w => L2.CX l.prog w) (sp := fun w => spLaw (K w.params)) hn (by decide) hdf ⟨rfl, by decide, by decide⟩ hY F (fun _ _ a ns hl _ hS => mk_law hS hl) fun _ _ _ _ _ z => cxN z
end Z

open PySem PySem.W PyProof.Rows in
set_option maxRecDepth 100000 in
set_option maxHeartbeats 0 in
theorem PySem.Challenge.cw_onethrow_k11_ratios_holds : PySem.Challenge.rw_onethrow_k11_ratios.Holds := by
  w_on; o_law; k_head; (case hw => w_witness2)
  k_fill
  refine Z.walk (l := PySem.Challenge.rw_onethrow_k11_ratios) rfl rfl (fun w h Y => PySem.W.kIn_of Y) ?F
  case F =>
    intro w mg fa h KX G hmg
    refine' Z.all_mk KX G hmg ?aC_Ratio ?aC_BadNumber ?aC_ThrowError ?pg_Ratio ?hd_Ratio ?po_Ratio ?sa_Ratio ?ha_Ratio ?hm_Ratio ?mk_Ratio ?kc_Ratio ?sf_Ratio ?iC_Ratio ?tC_Ratio ?ne_Ratio ?ob_Ratio ?hn ?htk ?xL_BadNumber ?sa_BadNumber ?ga_BadNumber ?gg_BadNumber ?kC_BadNumber ?eC_BadNumber ?tC_BadNumber ?hC_BadNumber ?iC_BadNumber ?sC_BadNumber ?rd_Ratio ?rg_Ratio ?rd_ThrowError ?rg_ThrowError ?rv_ThrowError ?a0 ?l0 ?c0 ?k0 ?a1 ?t1 ?l1 ?c1 ?k1 ?a2 ?i2 ?l2 ?c2 ?k2 ?a3 ?r3 ?i3 ?l3 ?c3 ?k3 ?a4 ?i4 ?l4 ?c4 ?k4 ?a5 ?i5 ?l5 ?c5 ?k5 ?a6 ?i6 ?l6 ?c6 ?k6 ?a7 ?i7 ?l7 ?c7 ?k7 ?a8 ?i8 ?l8 ?c8 ?k8 ?a9 ?i9 ?l9 ?c9 ?k9 ?a10 ?i10 ?l10 ?c10 ?k10 ?a11 ?i11 ?l11 ?c11 ?k11 ?a12 ?l12 ?c12 ?k12 ?a13 ?l13 ?c13 ?k13 ?a14 ?l14 ?c14 ?k14 ?a15 ?l15 ?c15 ?k15 ?a16 ?l16 ?c16 ?k16 ?a17 ?l17 ?c17 ?k17 ?a18 ?l18 ?c18 ?k18 ?a19 ?l19 ?c19 ?k19 ?a20 ?l20 ?c20 ?k20 ?a21 ?l21 ?c21 ?k21 ?a22 ?l22 ?c22 ?k22 ?a23 ?l23 ?c23 ?k23 ?a24 ?l24 ?c24 ?k24 ?z_abs ?z_any ?z_bool ?z_int ?z_isinstance ?z_len ?z_range ?z_str ?w_ki_int_Ratio ?w_ki_str_Ratio ?z_gcd ?w_na_Ratio_bottom ?w_na_Ratio_top ?w_nf_int_Ratio ?w_nf_str_Ratio ?w_xn_BadNumber_n
    (case aC_Ratio => k_is)
    (case aC_BadNumber => k_is)
    (case aC_ThrowError => k_is)
    (case pg_Ratio => k_is)
    (case hd_Ratio => k_is)
    (case po_Ratio => k_is)
    (case sa_Ratio => k_is)
    (case ha_Ratio => k_is)
    (case hm_Ratio => k_is)
    (case mk_Ratio => k_is)
    (case kc_Ratio => k_is)
    (case sf_Ratio => k_is)
    (case iC_Ratio => k_is)
    (case tC_Ratio => k_is)
    (case ne_Ratio => k_is)
    (case ob_Ratio => k_is)
    (case hn => k_is)
    (case htk => k_is)
    (case xL_BadNumber => k_is)
    (case sa_BadNumber => k_is)
    (case ga_BadNumber => k_is)
    (case gg_BadNumber => k_is)
    (case kC_BadNumber => k_is)
    (case eC_BadNumber => k_is)
    (case tC_BadNumber => k_is)
    (case hC_BadNumber => k_is)
    (case iC_BadNumber => k_is)
    (case sC_BadNumber => k_is)
    (case rd_Ratio => k_is)
    (case rg_Ratio => k_is)
    (case rd_ThrowError => k_is)
    (case rg_ThrowError => k_is)
    (case rv_ThrowError => k_is)
    (case a0 => k_is)
    (case l0 => k_is)
    (case c0 => k_is)
    (case k0 => k_is)
    (case a1 => k_is)
    (case t1 => k_is)
    (case l1 => k_is)
    (case c1 => k_is)
    (case k1 => k_is)
    (case a2 => k_is)
    (case i2 => k_is)
    (case l2 => k_is)
    (case c2 => k_is)
    (case k2 => k_is)
    (case a3 => k_is)
    (case r3 => k_is)
    (case i3 => k_is)
    (case l3 => k_is)
    (case c3 => k_is)
    (case k3 => k_is)
    (case a4 => k_is)
    (case i4 => k_is)
    (case l4 => k_is)
    (case c4 => k_is)
    (case k4 => k_is)
    (case a5 => k_is)
    (case i5 => k_is)
    (case l5 => k_is)
    (case c5 => k_is)
    (case k5 => k_is)
    (case a6 => k_is)
    (case i6 => k_is)
    (case l6 => k_is)
    (case c6 => k_is)
    (case k6 => k_is)
    (case a7 => k_is)
    (case i7 => k_is)
    (case l7 => k_is)
    (case c7 => k_is)
    (case k7 => k_is)
    (case a8 => k_is)
    (case i8 => k_is)
    (case l8 => k_is)
    (case c8 => k_is)
    (case k8 => k_is)
    (case a9 => k_is)
    (case i9 => k_is)
    (case l9 => k_is)
    (case c9 => k_is)
    (case k9 => k_is)
    (case a10 => k_is)
    (case i10 => k_is)
    (case l10 => k_is)
    (case c10 => k_is)
    (case k10 => k_is)
    (case a11 => k_is)
    (case i11 => k_is)
    (case l11 => k_is)
    (case c11 => k_is)
    (case k11 => k_is)
    (case a12 => k_is)
    (case l12 => k_is)
    (case c12 => k_is)
    (case k12 => k_is)
    (case a13 => k_is)
    (case l13 => k_is)
    (case c13 => k_is)
    (case k13 => k_is)
    (case a14 => k_is)
    (case l14 => k_is)
    (case c14 => k_is)
    (case k14 => k_is)
    (case a15 => k_is)
    (case l15 => k_is)
    (case c15 => k_is)
    (case k15 => k_is)
    (case a16 => k_is)
    (case l16 => k_is)
    (case c16 => k_is)
    (case k16 => k_is)
    (case a17 => k_is)
    (case l17 => k_is)
    (case c17 => k_is)
    (case k17 => k_is)
    (case a18 => k_is)
    (case l18 => k_is)
    (case c18 => k_is)
    (case k18 => k_is)
    (case a19 => k_is)
    (case l19 => k_is)
    (case c19 => k_is)
    (case k19 => k_is)
    (case a20 => k_is)
    (case l20 => k_is)
    (case c20 => k_is)
    (case k20 => k_is)
    (case a21 => k_is)
    (case l21 => k_is)
    (case c21 => k_is)
    (case k21 => k_is)
    (case a22 => k_is)
    (case l22 => k_is)
    (case c22 => k_is)
    (case k22 => k_is)
    (case a23 => k_is)
    (case l23 => k_is)
    (case c23 => k_is)
    (case k23 => k_is)
    (case a24 => k_is)
    (case l24 => k_is)
    (case c24 => k_is)
    (case k24 => k_is)
    (case z_abs => k_is)
    (case z_any => k_is)
    (case z_bool => k_is)
    (case z_int => k_is)
    (case z_isinstance => k_is)
    (case z_len => k_is)
    (case z_range => k_is)
    (case z_str => k_is)
    (case w_ki_int_Ratio => k_is)
    (case w_ki_str_Ratio => k_is)
    (case z_gcd => k_is)
    (case w_na_Ratio_bottom => k_is)
    (case w_na_Ratio_top => k_is)
    (case w_nf_int_Ratio => k_is)
    (case w_nf_str_Ratio => k_is)
    (case w_xn_BadNumber_n => k_is)

