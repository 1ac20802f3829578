import PyProof.Rows.All
import Wide.All
import OpenK.AllK
import Wide.FinOn
import HandS.ForMost
import HandS.ForExc
import HandS.More
import HandS.Star
import HandS.ClsMeth
import HandS.Wide
import HandS.Gcd
import HandS.ExcInit
import HandS.ExcField
import HandS.IsInst
import HandS.OwnEq
import HandS.FStr
import HandS.WideBits
import KE.IntBitsLaws
import KE.KFmtOwn
import HandS.StrMore
import HandS.Style
import HandS.StrSplit
import HandS.OwnIter
import HandS.IterNext
import HandS.DictComp
import HandS.Deep
import HandS.DeepEq
import HandS.Conv
import HandS.SortOrd
import HandS.Walk
import HandS.TryMany
import HandS.FStrTup
import PyProof.ReprHeadsEmpty
import HandS.TupAny
import HandS.Records
import HandS.HotCalls
import KE.KExcIs
import HandS.ExcIs
import PyProof.FString5
import KE.KItemsList
import HandS.Zip0
import PyProof.CollectIter
import KE.KUnpack
import KE.GoesEnumKw
import HandS.SortKw
import HandS.Lambda
import PyProof.NeKinds
import KE.KDictList
import PyProof.SumAny
import HandS.Set
import HandS.SetFor
import HandS.Strs
import HandS.Finally
import HandS.Zip
import KE.KDictZip
import KE.GoesMore
import KE.GoesRaise
import PySem.Challenge.RW_onethrow_k36_maps_judged
set_option linter.all false
namespace ZR
theorem fdiv_exact {a d : Int} (hd : d ≠ 0) (h : d ∣ a) : a.fdiv d = a / d := by
  obtain ⟨k, rfl⟩ := h
  rw [Int.mul_comm, Int.mul_fdiv_cancel _ hd, Int.mul_ediv_cancel _ hd]
/-- the divisor: the greatest common one, with the sign of b -/
def sg (t b : Int) : Int := if b < 0 then -((Nat.gcd t.natAbs b.natAbs : Nat) : Int) else ((Nat.gcd t.natAbs b.natAbs : Nat) : Int)
theorem gcd_ne (t : Int) {b : Int} (hb : b ≠ 0) : ((Nat.gcd t.natAbs b.natAbs : Nat) : Int) ≠ 0 := by
  have : 0 < Nat.gcd t.natAbs b.natAbs := Nat.gcd_pos_of_pos_right _ (by omega)
  omega
theorem sg_ne (t : Int) {b : Int} (hb : b ≠ 0) : sg t b ≠ 0 := by
  have := gcd_ne t hb
  unfold sg
  split <;> omega
theorem sg_le (t b : Int) (hb : b ≠ 0) : (sg t b).natAbs ≤ b.natAbs := by
  have : Nat.gcd t.natAbs b.natAbs ≤ b.natAbs := Nat.gcd_le_right _ (by omega)
  unfold sg
  split <;> omega
theorem dvd_t (t b : Int) : ((Nat.gcd t.natAbs b.natAbs : Nat) : Int) ∣ t := Int.ofNat_dvd_left.mpr (Nat.gcd_dvd_left _ _)
theorem dvd_b (t b : Int) : ((Nat.gcd t.natAbs b.natAbs : Nat) : Int) ∣ b := Int.ofNat_dvd_left.mpr (Nat.gcd_dvd_right _ _)
theorem norm_num (t b : Int) (hb : b ≠ 0) : t.fdiv (sg t b) = ((t : Rat) / (b : Rat)).num := by
  rw [← Rat.divInt_eq_div, Rat.num_divInt]
  have hg := gcd_ne t hb
  have e : b.gcd t = Nat.gcd t.natAbs b.natAbs := by rw [Int.gcd_comm]; rfl
  have d1 := dvd_t t b
  rw [e]
  unfold sg
  split
  · rename_i h
    rw [fdiv_exact (by omega) (Int.neg_dvd.mpr d1), Int.sign_eq_neg_one_of_neg h, Int.ediv_neg]
    obtain ⟨k, hk⟩ := d1
    generalize ((Nat.gcd t.natAbs b.natAbs : Nat) : Int) = g at *
    subst hk
    rw [Int.mul_ediv_cancel_left _ hg, show -1 * (g * k) = g * (-k) by grind, Int.mul_ediv_cancel_left _ hg]
  · rename_i h
    rw [fdiv_exact hg d1, Int.sign_eq_one_of_pos (by omega), Int.one_mul]
theorem norm_den (t b : Int) (hb : b ≠ 0) : b.fdiv (sg t b) = ((((t : Rat) / (b : Rat)).den : Nat) : Int) := by
  rw [← Rat.divInt_eq_div, Rat.den_divInt, if_neg hb]
  have hg := gcd_ne t hb
  have e : b.gcd t = Nat.gcd t.natAbs b.natAbs := by rw [Int.gcd_comm]; rfl
  have d1 := dvd_b t b
  rw [e, Int.natCast_ediv]
  unfold sg
  split
  · rename_i h
    rw [fdiv_exact (by omega) (Int.neg_dvd.mpr d1), Int.ediv_neg]
    have e2 : ((b.natAbs : Nat) : Int) = -b := by omega
    rw [e2]
    obtain ⟨k, hk⟩ := d1
    generalize ((Nat.gcd t.natAbs b.natAbs : Nat) : Int) = g at *
    subst hk
    rw [Int.mul_ediv_cancel_left _ hg, show -(g * k) = g * (-k) by grind, Int.mul_ediv_cancel_left _ hg]
  · rename_i h
    have e2 : ((b.natAbs : Nat) : Int) = b := by omega
    rw [e2, fdiv_exact hg d1]
theorem num_le (t b : Int) : ((t : Rat) / (b : Rat)).num.natAbs ≤ t.natAbs := by
  rw [← Rat.divInt_eq_div, Rat.num_divInt, Int.natAbs_ediv_of_dvd, Int.natAbs_mul]
  · rcases Int.lt_trichotomy b 0 with h | h | h
    · rw [Int.sign_eq_neg_one_of_neg h]; simp; exact Nat.div_le_self _ _
    · subst h; simp
    · rw [Int.sign_eq_one_of_pos h]; simp; exact Nat.div_le_self _ _
  · exact Int.dvd_mul_of_dvd_right (Int.gcd_dvd_right ..)
theorem den_le (t b : Int) (hb : b ≠ 0) : ((t : Rat) / (b : Rat)).den ≤ b.natAbs := by
  rw [← Rat.divInt_eq_div, Rat.den_divInt, if_neg hb]
  exact Nat.div_le_self _ _
theorem r_self (p : Rat) : ((p.num : Int) : Rat) / (((p.den : Nat) : Int) : Rat) = p := by
  rw [← Rat.divInt_eq_div, Rat.num_divInt_den]
theorem r_add (p q : Rat) : ((p.num * q.den + q.num * p.den : Int) : Rat) / ((p.den * q.den : Int) : Rat) = p + q := by
  rw [← Rat.divInt_eq_div, Rat.add_def', ← Rat.divInt_ofNat]; simp
theorem r_sub (p q : Rat) : ((p.num * q.den - q.num * p.den : Int) : Rat) / ((p.den * q.den : Int) : Rat) = p - q := by
  rw [← Rat.divInt_eq_div, Rat.sub_def', ← Rat.divInt_ofNat]; simp
theorem r_mul (p q : Rat) : ((p.num * q.num : Int) : Rat) / ((p.den * q.den : Int) : Rat) = p * q := by
  rw [← Rat.divInt_eq_div, Rat.mul_def', ← Rat.divInt_ofNat]; simp
theorem r_neg (p : Rat) : ((-p.num : Int) : Rat) / (((p.den : Nat) : Int) : Rat) = -p := by
  rw [← Rat.divInt_eq_div, ← Rat.neg_divInt, Rat.num_divInt_den]
theorem ci {b : Int} (hb : b ≠ 0) : (b : Rat) ≠ 0 := by simpa using hb
theorem num_ne {q : Rat} (h : q ≠ 0) : q.num ≠ 0 := by simpa using h
theorem r_div (p q : Rat) (h : q.num ≠ 0) : ((p.num * q.den : Int) : Rat) / ((p.den * q.num : Int) : Rat) = p / q := by
  have hq : (q.num : Rat) ≠ 0 := ci h
  have d1 : ((p.den : Int) : Rat) ≠ 0 := ci (by have := p.den_nz; omega)
  have d2 : ((q.den : Int) : Rat) ≠ 0 := ci (by have := q.den_nz; omega)
  have e1 := r_self p
  have e2 := r_self q
  have : p / q = (((p.num : Int) : Rat) / (((p.den : Nat) : Int) : Rat)) / (((q.num : Int) : Rat) / (((q.den : Nat) : Int) : Rat)) := by rw [e1, e2]
  rw [this, Rat.intCast_mul, Rat.intCast_mul]
  grind
/-! fractions of ints -/
theorem f_add (a b c d : Int) (hb : b ≠ 0) (hd : d ≠ 0) : ((a * d + c * b : Int) : Rat) / ((b * d : Int) : Rat) = (a : Rat) / b + (c : Rat) / d := by
  have := ci hb
  have := ci hd
  rw [Rat.intCast_add, Rat.intCast_mul, Rat.intCast_mul, Rat.intCast_mul]
  grind
theorem f_sub (a b c d : Int) (hb : b ≠ 0) (hd : d ≠ 0) : ((a * d - c * b : Int) : Rat) / ((b * d : Int) : Rat) = (a : Rat) / b - (c : Rat) / d := by
  have := ci hb
  have := ci hd
  rw [Rat.intCast_sub, Rat.intCast_mul, Rat.intCast_mul, Rat.intCast_mul]
  grind
theorem f_mul (a b c d : Int) (hb : b ≠ 0) (hd : d ≠ 0) : ((a * c : Int) : Rat) / ((b * d : Int) : Rat) = (a : Rat) / b * ((c : Rat) / d) := by
  have := ci hb
  have := ci hd
  rw [Rat.intCast_mul, Rat.intCast_mul]
  grind
theorem f_neg (a b : Int) (hb : b ≠ 0) : ((-a : Int) : Rat) / (b : Rat) = -((a : Rat) / b) := by
  have := ci hb
  rw [Rat.intCast_neg]
  grind
theorem f_div (a b c d : Int) (hb : b ≠ 0) (hc : c ≠ 0) (hd : d ≠ 0) : ((a * d : Int) : Rat) / ((b * c : Int) : Rat) = (a : Rat) / b / ((c : Rat) / d) := by
  have := ci hb
  have := ci hc
  have := ci hd
  rw [Rat.intCast_mul, Rat.intCast_mul]
  grind
theorem f_neg3 (a b : Int) (hb : b ≠ 0) : ((-3 * a : Int) : Rat) / ((-3 * b : Int) : Rat) = (a : Rat) / b := by
  have := ci hb
  rw [Rat.intCast_mul, Rat.intCast_mul]
  grind
theorem f_zero (a b : Int) (hb : b ≠ 0) : ((a : Rat) / b = 0) ↔ a = 0 := by
  have := ci hb
  constructor
  · intro h
    have : (a : Rat) = 0 := by grind
    simpa using this
  · rintro rfl
    rw [Rat.div_def]
    simp
theorem num_zero (q : Rat) : q.num = 0 ↔ q = 0 := by simp
theorem f_eq (a b c d : Int) (hb : b ≠ 0) (hd : d ≠ 0) : ((a : Rat) / b = (c : Rat) / d) ↔ a * d = c * b := by
  have := ci hb
  have := ci hd
  constructor
  · intro h
    have : (a : Rat) * d = (c : Rat) * b := by grind
    rw [← Rat.intCast_mul, ← Rat.intCast_mul] at this
    exact Rat.intCast_inj.mp this
  · intro h
    have : (a : Rat) * d = (c : Rat) * b := by rw [← Rat.intCast_mul, ← Rat.intCast_mul, h]
    grind
theorem f_lt (a b c d : Int) (hb : b ≠ 0) (hd : d ≠ 0) : ((a * d - c * b) * b * d < 0) ↔ ((a : Rat) / b < (c : Rat) / d) := by
  have hb' := ci hb
  have hd' := ci hd
  have e : (((a * d - c * b) * b * d : Int) : Rat) = ((a : Rat) / b - (c : Rat) / d) * ((b : Rat) * d) * ((b : Rat) * d) := by
    rw [Rat.intCast_mul, Rat.intCast_mul, Rat.intCast_sub, Rat.intCast_mul, Rat.intCast_mul]
    grind
  have sq : 0 < ((b : Rat) * d) * ((b : Rat) * d) := by
    have h0 : (b : Rat) * d ≠ 0 := by grind
    have tri : (b : Rat) * d < 0 ∨ 0 < (b : Rat) * d := by grind
    rcases tri with h | h
    · have := Rat.mul_pos (Rat.neg_lt_neg h) (Rat.neg_lt_neg h)
      grind
    · exact Rat.mul_pos h h
  rw [← Rat.intCast_neg_iff, e, Rat.mul_assoc, Rat.mul_neg_iff_of_pos_right sq]
  constructor <;> intro h <;> grind
theorem lt_nd (p q : Rat) : (p.num * q.den < q.num * p.den) ↔ p < q := (Rat.lt_iff p q).symm
theorem eq_nd (p q : Rat) : (p.num = q.num ∧ (p.den : Int) = (q.den : Int)) ↔ p = q := by
  constructor
  · rintro ⟨h1, h2⟩
    exact Rat.ext h1 (by omega)
  · rintro rfl
    exact ⟨rfl, rfl⟩
/-! sizes -/
/-- both terms below 2 ^ n -/
structure Bd (n : Nat) (q : Rat) : Prop where
  num : q.num.natAbs < 2 ^ n
  den : q.den < 2 ^ n
def Sz (n : Nat) (i : Int) : Prop := i.natAbs < 2 ^ n
theorem sz0 {n : Nat} : Sz n 0 := Nat.two_pow_pos n
theorem sz1 {n : Nat} (h : n ≠ 0) : Sz n 1 := Nat.one_lt_two_pow h
theorem sz_of {n : Nat} {i : Int} (h : decide (i.natAbs < 2 ^ n) = true) : Sz n i := by
  unfold Sz
  exact of_decide_eq_true h
theorem Sz.mono {n m : Nat} {i : Int} (h : Sz n i) (hm : n ≤ m) : Sz m i := Nat.lt_of_lt_of_le h (Nat.pow_le_pow_right (by decide) hm)
theorem Bd.mono {n m : Nat} {q : Rat} (h : Bd n q) (hm : n ≤ m) : Bd m q :=
  ⟨Nat.lt_of_lt_of_le h.num (Nat.pow_le_pow_right (by decide) hm), Nat.lt_of_lt_of_le h.den (Nat.pow_le_pow_right (by decide) hm)⟩
theorem Sz.mul {n m : Nat} {i j : Int} (h : Sz n i) (h' : Sz m j) : Sz (n + m) (i * j) := by
  unfold Sz at *
  rw [Int.natAbs_mul, Nat.pow_add]
  exact Nat.mul_lt_mul_of_lt_of_lt h h'
theorem Sz.add {n : Nat} {i j : Int} (h : Sz n i) (h' : Sz n j) : Sz (n + 1) (i + j) := by
  unfold Sz at *
  rw [Nat.pow_succ]
  have := Int.natAbs_add_le i j
  omega
theorem Sz.sub {n : Nat} {i j : Int} (h : Sz n i) (h' : Sz n j) : Sz (n + 1) (i - j) := by
  unfold Sz at *
  rw [Nat.pow_succ]
  have := Int.natAbs_sub_le i j
  omega
theorem Sz.neg {n : Nat} {i : Int} (h : Sz n i) : Sz n (-i) := by
  unfold Sz at *
  rw [Int.natAbs_neg]
  exact h
theorem Bd.n {n : Nat} {q : Rat} (h : Bd n q) : Sz n q.num := h.num
theorem Bd.d {n : Nat} {q : Rat} (h : Bd n q) : Sz n (q.den : Int) := by
  have := h.den
  show ((q.den : Int)).natAbs < 2 ^ n
  simpa using this
theorem Bd.of {n : Nat} {t b : Int} (h : Sz n t) (h' : Sz n b) (hb : b ≠ 0) : Bd n ((t : Rat) / (b : Rat)) :=
  ⟨Nat.lt_of_le_of_lt (num_le t b) h, Nat.lt_of_le_of_lt (den_le t b hb) h'⟩
theorem den_ne (p : Rat) : (p.den : Int) ≠ 0 := by have := p.den_nz; omega
theorem Bd.add {n : Nat} {p q : Rat} (h : Bd n p) (h' : Bd n q) : Bd (n + n + 1) (p + q) := by
  rw [← r_add]
  refine .of ((h.n.mul h'.d).add (h'.n.mul h.d)) ((h.d.mul h'.d).mono (by omega)) ?_
  exact Int.mul_ne_zero (den_ne p) (den_ne q)
theorem Bd.sub {n : Nat} {p q : Rat} (h : Bd n p) (h' : Bd n q) : Bd (n + n + 1) (p - q) := by
  rw [← r_sub]
  refine .of ((h.n.mul h'.d).sub (h'.n.mul h.d)) ((h.d.mul h'.d).mono (by omega)) ?_
  exact Int.mul_ne_zero (den_ne p) (den_ne q)
theorem Bd.mul {n : Nat} {p q : Rat} (h : Bd n p) (h' : Bd n q) : Bd (n + n + 1) (p * q) := by
  rw [← r_mul]
  refine .of ((h.n.mul h'.n).mono (by omega)) ((h.d.mul h'.d).mono (by omega)) ?_
  exact Int.mul_ne_zero (den_ne p) (den_ne q)
theorem Bd.neg {n : Nat} {p : Rat} (h : Bd n p) : Bd n (-p) := ⟨by rw [Rat.neg_num, Int.natAbs_neg]; exact h.num, by rw [Rat.neg_den]; exact h.den⟩
/-! Euclid, as the law does it -/
theorem euclid_step {f s : Int} (hf : 0 ≤ f) (hs : 0 < s) : Nat.gcd s.natAbs (f % s).natAbs = Nat.gcd f.natAbs s.natAbs := by
  have e : (f % s).natAbs = f.natAbs % s.natAbs := by
    obtain ⟨a, rfl⟩ := Int.eq_ofNat_of_zero_le hf
    obtain ⟨b, rfl⟩ := Int.eq_ofNat_of_zero_le (Int.le_of_lt hs)
    rfl
  rw [e, Nat.gcd_comm s.natAbs, ← Nat.gcd_rec, Nat.gcd_comm]
end ZR

/-! shares dealt: the mathematics -/
namespace ZD
/-- a multiple of 1/D from 0 to M -/
structure Gd (D M : Nat) (q : Rat) : Prop where
  mul : ∃ n : Int, q * (D : Rat) = (n : Rat)
  lo : 0 ≤ q
  hi : q ≤ (M : Rat)
section
variable {D M D' M' : Nat} {p q : Rat}
theorem Gd.zero : Gd D M 0 := ⟨⟨0, by grind⟩, by grind, by exact_mod_cast Nat.zero_le M⟩
theorem Gd.sub (h : Gd D M p) (g : Gd D M q) (l : q ≤ p) : Gd D M (p - q) := by
  obtain ⟨n, hn⟩ := h.mul
  obtain ⟨m, hm⟩ := g.mul
  refine ⟨⟨n - m, ?_⟩, ?_, ?_⟩
  · rw [Rat.intCast_sub, ← hn, ← hm]; grind
  · grind
  · have := h.hi; have := g.lo; grind
theorem Gd.add (h : Gd D M p) (g : Gd D M' q) : Gd D (M + M') (p + q) := by
  obtain ⟨n, hn⟩ := h.mul
  obtain ⟨m, hm⟩ := g.mul
  refine ⟨⟨n + m, ?_⟩, ?_, ?_⟩
  · rw [Rat.intCast_add, ← hn, ← hm]; grind
  · have := h.lo; have := g.lo; grind
  · have := h.hi; have := g.hi
    rw [Rat.natCast_add]
    grind
theorem natR_mono {a b : Nat} (h : a ≤ b) : (a : Rat) ≤ (b : Rat) := Rat.natCast_le_natCast.mpr h
theorem Gd.mono (h : Gd D M q) (l : M ≤ M') : Gd D M' q := ⟨h.mul, h.lo, by have := h.hi; have := natR_mono l; grind⟩
theorem Gd.muls (h : Gd D M q) (k : Nat) : Gd (D * k) M q := by
  obtain ⟨n, hn⟩ := h.mul
  refine ⟨⟨n * k, ?_⟩, h.lo, h.hi⟩
  rw [Rat.natCast_mul, Rat.intCast_mul, ← hn]
  have : ((k : Int) : Rat) = (k : Rat) := rfl
  rw [this]
  grind
theorem Gd.muls' (h : Gd D M q) (k : Nat) : Gd (k * D) M q := by rw [Nat.mul_comm]; exact h.muls k
theorem Gd.bd (h : Gd D M q) {n : Nat} (hD : 0 < D) (l1 : D < 2 ^ n) (l2 : M * D < 2 ^ n) : ZR.Bd n q := by
  obtain ⟨z, hz⟩ := h.mul
  have hDi : ((D : Nat) : Int) ≠ 0 := by omega
  have hDr : (D : Rat) ≠ 0 := by
    have := ZR.ci hDi
    simpa using this
  have e : q = (z : Rat) / (((D : Nat) : Int) : Rat) := by
    rw [← hz]
    have : (((D : Nat) : Int) : Rat) = (D : Rat) := rfl
    rw [this]
    grind
  have z0 : 0 ≤ z := by
    have h1 : (0 : Rat) ≤ (z : Rat) := by
      rw [← hz]
      exact Rat.mul_nonneg h.lo (by have := natR_mono (Nat.zero_le D); exact_mod_cast this)
    exact_mod_cast h1
  have zM : z ≤ ((M * D : Nat) : Int) := by
    have h1 : (z : Rat) ≤ ((M * D : Nat) : Rat) := by
      rw [← hz, Rat.natCast_mul]
      exact Rat.mul_le_mul_of_nonneg_right h.hi (by have := natR_mono (Nat.zero_le D); exact_mod_cast this)
    exact_mod_cast h1
  rw [e]
  exact ZR.Bd.of (show z.natAbs < 2 ^ n by omega) (show ((D : Nat) : Int).natAbs < 2 ^ n by simpa using l1) hDi
end
section
variable {α : Type}
def sm (L : List (α × Rat)) : Rat := L.foldl (fun s x => s + x.2) 0
theorem fold_add : ∀ (L : List (α × Rat)) (a : Rat), L.foldl (fun s x => s + x.2) a = a + L.foldl (fun s x => s + x.2) 0
  | [], a => by simp; grind
  | x :: L, a => by
    rw [List.foldl_cons, List.foldl_cons, fold_add L, fold_add L (0 + x.2)]
    grind
theorem sm_nil : sm ([] : List (α × Rat)) = 0 := rfl
theorem sm_cons (x : α × Rat) (L : List (α × Rat)) : sm (x :: L) = x.2 + sm L := by
  show L.foldl _ (0 + x.2) = _
  rw [fold_add]
  unfold sm
  grind
theorem sm_snoc (L : List (α × Rat)) (x : α × Rat) : sm (L ++ [x]) = sm L + x.2 := by
  unfold sm
  rw [List.foldl_append]
  rfl
theorem sm_app (L R : List (α × Rat)) : sm (L ++ R) = sm L + sm R := by
  induction L with
  | nil => rw [List.nil_append, sm_nil]; grind
  | cons x L ih => rw [List.cons_append, sm_cons, sm_cons, ih]; grind
theorem sm_rev (L : List (α × Rat)) : sm L.reverse = sm L := by
  induction L with
  | nil => rfl
  | cons x L ih => rw [List.reverse_cons, sm_snoc, sm_cons, ih]; grind
theorem sm_pos {L : List (α × Rat)} (h : ∀ x ∈ L, 0 < x.2) : 0 ≤ sm L := by
  induction L with
  | nil => rw [sm_nil]; grind
  | cons x L ih =>
    rw [sm_cons]
    have := ih fun y hy => h y (List.mem_cons_of_mem _ hy)
    have := h x List.mem_cons_self
    grind
theorem sm_gd {D M : Nat} {L : List (α × Rat)} (h : ∀ x ∈ L, Gd D M x.2) : Gd D (L.length * M) (sm L) := by
  induction L with
  | nil => rw [sm_nil]; exact Gd.zero
  | cons x L ih =>
    rw [sm_cons, List.length_cons, Nat.succ_mul, Nat.add_comm]
    exact (h x List.mem_cons_self).add (ih fun y hy => h y (List.mem_cons_of_mem _ hy))
/-- what goes together -/
def deal : List (α × Rat) → List (α × Rat) → List (α × α × Rat)
  | (a, p) :: xs, (b, q) :: ys =>
    if p < q then (a, b, p) :: deal xs ((b, q - p) :: ys)
    else if p = q then (a, b, p) :: deal xs ys
    else (a, b, q) :: deal ((a, p - q) :: xs) ys
  | [], _ => []
  | _ :: _, [] => []
termination_by xs ys => xs.length + ys.length
theorem deal_nil (ys : List (α × Rat)) : deal [] ys = [] := by rw [deal]
theorem deal_nil' (xs : List (α × Rat)) : deal xs [] = [] := by
  cases xs with
  | nil => rw [deal]
  | cons x xs => rw [deal]
theorem deal_lt {a b : α} {p q : Rat} {xs ys : List (α × Rat)} (h : p < q) : deal ((a, p) :: xs) ((b, q) :: ys) = (a, b, p) :: deal xs ((b, q - p) :: ys) := by rw [deal, if_pos h]
theorem deal_eq {a b : α} {p : Rat} {xs ys : List (α × Rat)} : deal ((a, p) :: xs) ((b, p) :: ys) = (a, b, p) :: deal xs ys := by rw [deal, if_neg (by grind), if_pos rfl]
theorem deal_gt {a b : α} {p q : Rat} {xs ys : List (α × Rat)} (h : q < p) : deal ((a, p) :: xs) ((b, q) :: ys) = (a, b, q) :: deal ((a, p - q) :: xs) ys := by rw [deal, if_neg (by grind), if_neg (by grind)]
theorem deal_len : ∀ (n : Nat) (xs ys : List (α × Rat)), xs.length + ys.length ≤ n → (deal xs ys).length ≤ xs.length + ys.length - 1
  | _, [], ys, _ => by rw [deal_nil]; exact Nat.zero_le _
  | _, x :: xs, [], _ => by rw [deal_nil']; exact Nat.zero_le _
  | 0, x :: xs, y :: ys, h => by simp at h
  | n + 1, (a, p) :: xs, (b, q) :: ys, h => by
    simp only [List.length_cons] at h ⊢
    by_cases e1 : p < q
    · rw [deal_lt e1, List.length_cons]
      have := deal_len n xs ((b, q - p) :: ys) (by simp only [List.length_cons]; omega)
      simp only [List.length_cons] at this
      omega
    · by_cases e2 : p = q
      · subst e2
        rw [deal_eq, List.length_cons]
        have := deal_len n xs ys (by omega)
        omega
      · rw [deal_gt (by grind), List.length_cons]
        have := deal_len n ((a, p - q) :: xs) ys (by simp only [List.length_cons]; omega)
        simp only [List.length_cons] at this
        omega
end
end ZD

namespace ZD
theorem Gd.form {D M : Nat} {q : Rat} (h : Gd D M q) (hD : 0 < D) : ∃ z : Int, q = (z : Rat) / (((D : Nat) : Int) : Rat) ∧ 0 ≤ z ∧ z ≤ ((M * D : Nat) : Int) := by
  obtain ⟨z, hz⟩ := h.mul
  have hDi : ((D : Nat) : Int) ≠ 0 := by omega
  have hDr : (D : Rat) ≠ 0 := by
    have := ZR.ci hDi
    simpa using this
  have D0 : (0 : Rat) ≤ (D : Rat) := by have := natR_mono (Nat.zero_le D); exact_mod_cast this
  refine ⟨z, ?_, ?_, ?_⟩
  · rw [← hz]
    have : (((D : Nat) : Int) : Rat) = (D : Rat) := rfl
    rw [this]
    grind
  · have h1 : (0 : Rat) ≤ (z : Rat) := by
      rw [← hz]
      exact Rat.mul_nonneg h.lo D0
    exact_mod_cast h1
  · have h1 : (z : Rat) ≤ ((M * D : Nat) : Rat) := by
      rw [← hz, Rat.natCast_mul]
      exact Rat.mul_le_mul_of_nonneg_right h.hi D0
    exact_mod_cast h1
theorem Gd.den {D M : Nat} {q : Rat} (h : Gd D M q) (hD : 0 < D) : q.den ≤ D := by
  obtain ⟨z, e, _⟩ := h.form hD
  rw [e]
  have := ZR.den_le z ((D : Nat) : Int) (by omega)
  simpa using this
theorem Gd.num {D M : Nat} {q : Rat} (h : Gd D M q) (hD : 0 < D) : q.num.natAbs ≤ M * D := by
  obtain ⟨z, e, z0, z1⟩ := h.form hD
  rw [e]
  have := ZR.num_le z ((D : Nat) : Int)
  omega
theorem num_pos {S : Rat} (h : 0 < S) : 0 < S.num := by
  have := (ZR.lt_nd 0 S).mpr h
  simpa using this
theorem inv_form {S : Rat} (h : 0 < S) : S⁻¹ = ((S.den : Int) : Rat) / (S.num : Rat) := by
  have e := ZR.r_self S
  have n0 := num_pos h
  have hn : (S.num : Rat) ≠ 0 := ZR.ci (by omega)
  have hd : ((S.den : Int) : Rat) ≠ 0 := ZR.ci (by have := S.den_nz; omega)
  have hS : S ≠ 0 := by grind
  have e2 : (S.num : Rat) = S * ((S.den : Int) : Rat) := by
    conv => rhs; rw [← e]
    grind
  have e3 : S⁻¹ * (S.num : Rat) = ((S.den : Int) : Rat) := by
    rw [e2]
    grind
  rw [← e3]
  grind
theorem inv_nd {S : Rat} (h : 0 < S) : S⁻¹.num = (S.den : Int) ∧ (S⁻¹.den : Int) = S.num := by
  have n0 := num_pos h
  have sg1 : ZR.sg (S.den : Int) S.num = 1 := by
    unfold ZR.sg
    rw [if_neg (by omega)]
    have : Nat.gcd (S.den : Int).natAbs S.num.natAbs = 1 := by
      have := S.reduced
      rw [Nat.gcd_comm]
      simpa using this
    rw [this]
    rfl
  have h1 := ZR.norm_num (S.den : Int) S.num (by omega)
  have h2 := ZR.norm_den (S.den : Int) S.num (by omega)
  rw [sg1, ← inv_form h] at h1 h2
  exact ⟨by rw [← h1]; simp, by rw [← h2]; simp⟩
theorem gd_scaled {p W S : Rat} (hp : Gd 60 (10 ^ 12) p) (hW : Gd 60 (6 * 10 ^ 12) W) (h0 : 0 < S) (hS : Gd 60 (6 * 10 ^ 12) S) : Gd (3600 * S.num.natAbs) (2 ^ 90) (p * W * S⁻¹) := by
  obtain ⟨a, ha⟩ := hp.mul
  obtain ⟨b, hb⟩ := hW.mul
  have n0 := num_pos h0
  have hn : (S.num : Rat) ≠ 0 := ZR.ci (by omega)
  have e3 : S⁻¹ * (S.num : Rat) = ((S.den : Int) : Rat) := by
    rw [inv_form h0]
    grind
  have eN : ((S.num.natAbs : Nat) : Rat) = (S.num : Rat) := by
    have : ((S.num.natAbs : Nat) : Int) = S.num := by omega
    have h2 : (((S.num.natAbs : Nat) : Int) : Rat) = ((S.num.natAbs : Nat) : Rat) := rfl
    rw [← h2, this]
  have i0 : 0 ≤ S⁻¹ := by
    have nR : (0 : Rat) < (S.num : Rat) := by exact_mod_cast n0
    have dR : (0 : Rat) ≤ ((S.den : Int) : Rat) := by exact_mod_cast (show (0 : Int) ≤ (S.den : Int) by omega)
    refine Rat.not_lt.mp fun hlt => ?_
    have h1 : 0 < (-S⁻¹) * (S.num : Rat) := Rat.mul_pos (by grind) nR
    grind
  have pl := hp.lo
  have wl := hW.lo
  have pw : 0 ≤ p * W := Rat.mul_nonneg pl wl
  refine ⟨⟨a * b * (S.den : Int), ?_⟩, Rat.mul_nonneg pw i0, ?_⟩
  · rw [Rat.natCast_mul, eN, Rat.intCast_mul, Rat.intCast_mul, ← ha, ← hb, ← e3]
    have : ((3600 : Nat) : Rat) = ((60 : Nat) : Rat) * ((60 : Nat) : Rat) := by decide +kernel
    rw [this]
    grind
  · have il : S⁻¹ ≤ ((60 : Nat) : Rat) := by
      have h1 : (1 : Rat) ≤ (S.num : Rat) := by exact_mod_cast (show (1 : Int) ≤ S.num by omega)
      have h2 : S⁻¹ * 1 ≤ S⁻¹ * (S.num : Rat) := Rat.mul_le_mul_of_nonneg_left h1 i0
      rw [e3] at h2
      have h3 := hS.den (by decide)
      have h4 : ((S.den : Int) : Rat) ≤ ((60 : Nat) : Rat) := by exact_mod_cast natR_mono h3
      grind
    have h1 : p * W ≤ ((10 ^ 12 : Nat) : Rat) * ((6 * 10 ^ 12 : Nat) : Rat) := by
      have a1 : p * W ≤ ((10 ^ 12 : Nat) : Rat) * W := Rat.mul_le_mul_of_nonneg_right hp.hi wl
      have a2 : ((10 ^ 12 : Nat) : Rat) * W ≤ ((10 ^ 12 : Nat) : Rat) * ((6 * 10 ^ 12 : Nat) : Rat) := Rat.mul_le_mul_of_nonneg_left hW.hi (by decide +kernel)
      grind
    have h2 : p * W * S⁻¹ ≤ ((10 ^ 12 : Nat) : Rat) * ((6 * 10 ^ 12 : Nat) : Rat) * ((60 : Nat) : Rat) := by
      have a1 : p * W * S⁻¹ ≤ ((10 ^ 12 : Nat) : Rat) * ((6 * 10 ^ 12 : Nat) : Rat) * S⁻¹ := Rat.mul_le_mul_of_nonneg_right h1 i0
      have a2 : ((10 ^ 12 : Nat) : Rat) * ((6 * 10 ^ 12 : Nat) : Rat) * S⁻¹ ≤ ((10 ^ 12 : Nat) : Rat) * ((6 * 10 ^ 12 : Nat) : Rat) * ((60 : Nat) : Rat) := Rat.mul_le_mul_of_nonneg_left il (by decide +kernel)
      grind
    have h3 : ((10 ^ 12 : Nat) : Rat) * ((6 * 10 ^ 12 : Nat) : Rat) * ((60 : Nat) : Rat) ≤ ((2 ^ 90 : Nat) : Rat) := by decide +kernel
    grind
theorem sm_scale {α : Type} (c : Rat) : ∀ L : List (α × Rat), sm (L.map fun x => (x.1, x.2 * c)) = sm L * c
  | [] => by
    show (0 : Rat) = 0 * c
    grind
  | x :: L => by
    rw [List.map_cons, sm_cons, sm_cons, sm_scale c L]
    grind
theorem sm_gt {α : Type} {L : List (α × Rat)} (hn : L ≠ []) (h : ∀ x ∈ L, 0 < x.2) : 0 < sm L := by
  cases L with
  | nil => exact absurd rfl hn
  | cons x L =>
    rw [sm_cons]
    have h1 := h x List.mem_cons_self
    have h2 := sm_pos (L := L) fun y hy => h y (List.mem_cons_of_mem _ hy)
    grind
end ZD

set_option Elab.async false
set_option linter.all false
set_option maxRecDepth 100000
set_option maxHeartbeats 4000000
/-! general rules of our own -/
namespace Z
open PySem PySem.Spec PyProof.Rows L2

/-- nothing is let out -/
abbrev EN : L2.St → XK := fun _ _ _ _ => False
theorem cxN {P : Program} {w : World} {outer : List Env} {H : Hp} {s s' : Shared} {e : Value} (h : L2.CX P w outer H s (fun _ _ _ => False) e s') : False := by
  obtain ⟨_, _, _, _, _, _, _, _, _, _, _, _, z⟩ := h
  exact z
theorem passN {X : Cx} : ∀ σ, PassesAt (L2.CX X.prog X.w) X σ (EN σ) := fun σ pins H s e s' _ h => by
  obtain ⟨_, _, _, _, _, _, _, _, _, _, _, _, z⟩ := h
  exact z.elim

section
variable {X : Cx} {CX : CXT} {k : Nat} {f C g : Addr} {sp : Sp} {E : L2.St → XK} {x m : Str} {p pos apos : Pos} {e o : Expr} {es : List Expr} {ta te : TE} {t : TA}

theorem runR {pins : List (Addr × Obj)} {σ : L2.St} {H : Hp} {s : Shared} {Q : VK} {us : List Value} {vs : List V}
    (F : FnR X.prog X.w X.K X.mg X.base CX k f sp) (hr : Room k X.A) (hx : ∀ σ, PassesAt CX X σ (E σ)) (I : Inv X pins σ H s)
    (r : Vals vs us) (h : sp vs H Q (E σ)) : wpAny (model X.prog X.w) X.A (call (.ref f) us) (EP X pins σ Q) X.xe s := by
  refine wpAny_call (codeAny_mono (F X.A X.stack s H us vs Q (E σ) hr I.env0 r h) fun q s' hq => ?_)
  rcases q with e | fl
  · exact hx σ pins H s e s' I hq
  · rcases fl with _ | _ | _ | u
    · exact False.elim hq
    · exact False.elim hq
    · exact False.elim hq
    · exact I.after hq

/-- f(e, ..) -/
theorem z_call (F : FnR X.prog X.w X.K X.mg X.base CX k f sp) (hr : Room k X.A) (hm : X.mg x = some (.ref f)) (hk : PySem.W.keepIn X.K (.ref f) = true)
    (hx : ∀ σ, PassesAt CX X σ (E σ)) (ha : PA X (e :: es) t) (hg : Gl X x := by rfl) (hdb : (x == ("__debug__" : Str)) = false := by decide)
    (he : starEach (e :: es) X.env = (false, eval e X.env) :: starEach es X.env := by rfl)
    (hpl : (backTo pos (starEach es X.env)).any (·.1) = false := by rfl) : PE X (.Call (.Name x p) (e :: es) [] pos) (tCallS sp E t) := by
  constructor
  intro pins s σ H Q I h
  apply wpAny_Call_Name_kw
  apply ld_glob I hg hm _ hdb
  apply PySem.W.callWith_K (h₀ := X.base) I.ok.mod.kin hk _ he hpl
  refine thn (ha.run pos pins s σ H _ I h) fun us s1 hh => ?_
  obtain ⟨vs, H1, I1, r, q⟩ := hh
  exact ⟨I1.kIn, runR F hr hx I1 r q⟩
theorem z_call0 (F : FnR X.prog X.w X.K X.mg X.base CX k f sp) (hr : Room k X.A) (hm : X.mg x = some (.ref f)) (hk : PySem.W.keepIn X.K (.ref f) = true)
    (hx : ∀ σ, PassesAt CX X σ (E σ)) (hg : Gl X x := by rfl) (hdb : (x == ("__debug__" : Str)) = false := by decide) :
    PE X (.Call (.Name x p) [] [] pos) (tCallS sp E tNil) := by
  constructor
  intro pins s σ H Q I h
  apply wpAny_Call_Name_kw
  apply ld_glob I hg hm _ hdb
  exact PySem.W.callWith_K0 I.kIn hk (runR (us := []) F hr hx I .nil h)

/-- o.m(e, ..) -/
def tMethS (C : Addr) (m : Str) (sp : Sp) (E : L2.St → XK) (ta : TE) (t : TA) : TE := fun σ H Q => ta σ H fun x H1 =>
  ∃ a dx fs, x = .ref a ∧ H1 a = some (.ins C dx fs) ∧ fs.lookup m = none ∧ t σ H1 fun vs H2 => sp (x :: vs) H2 Q (E σ)
theorem z_meth {pl : Sem Bool} (he : PE X o ta) (c : Cls X.K C) (hm : Meth X.K C m f) (F : FnR X.prog X.w X.K X.mg X.base CX k f sp) (hr : Room k X.A)
    (hx : ∀ σ, PassesAt CX X σ (E σ)) (ha : PA X (e :: es) t)
    (hst : starEach (e :: es) X.env = (false, eval e X.env) :: starEach es X.env := by rfl)
    (hpl : (backTo pos (starEach es X.env)).any (·.1) = false := by rfl)
    (ht : eval (.Call (.Attribute o m apos) (e :: es) [] pos) X.env = (do
      let ov ← eval o X.env
      standAt apos.atName
      let (f, first) ← holding [ov] (getMethod ov m pl)
      callWith pos f first (backTo pos (starEach (e :: es) X.env)) (backToKw pos (keywordEach [] X.env))) := by rfl) :
    PE X (.Call (.Attribute o m apos) (e :: es) [] pos) (tMethS C m sp E ta t) := by
  constructor
  intro pins s σ H Q I h
  refine PySem.W.methodCall_KW (pl := pl) (thn (he.run pins s σ H _ I h) fun u s1 hh => ?_) ht
  obtain ⟨x, H1, I1, rx, a, dx, fs, ex, ea, l, q⟩ := hh
  subst ex
  obtain rfl : u = Value.ref a := rx
  apply getmeth_ok I1 ea c hm l
  apply PySem.W.callWith_K (first := [.ref a]) (h₀ := X.base) I.ok.mod.kin hm.kp _ hst hpl
  refine thn (ha.run pos pins s1 σ H1 _ I1 q) fun us s2 hh => ?_
  obtain ⟨vs, H2, I2, r, q2⟩ := hh
  exact ⟨I2.kIn, runR (us := .ref a :: us) (vs := .ref a :: vs) F hr hx I2 (.cons rfl r) q2⟩
theorem z_meth0 {pl : Sem Bool} (he : PE X o ta) (c : Cls X.K C) (hm : Meth X.K C m f) (F : FnR X.prog X.w X.K X.mg X.base CX k f sp) (hr : Room k X.A)
    (hx : ∀ σ, PassesAt CX X σ (E σ))
    (ht : eval (.Call (.Attribute o m apos) [] [] pos) X.env = (do
      let ov ← eval o X.env
      standAt apos.atName
      let (f, first) ← holding [ov] (getMethod ov m pl)
      callWith pos f first (backTo pos (starEach [] X.env)) (backToKw pos (keywordEach [] X.env))) := by rfl) :
    PE X (.Call (.Attribute o m apos) [] [] pos) (tMethS C m sp E ta tNil) := by
  constructor
  intro pins s σ H Q I h
  refine PySem.W.methodCall_KW (pl := pl) (thn (he.run pins s σ H _ I h) fun u s1 hh => ?_) ht
  obtain ⟨x, H1, I1, rx, a, dx, fs, ex, ea, l, q⟩ := hh
  subst ex
  obtain rfl : u = Value.ref a := rx
  apply getmeth_ok I1 ea c hm l
  exact PySem.W.callWith_K0 (first := [.ref a]) I1.kIn hm.kp (runR (us := [.ref a]) (vs := [.ref a]) F hr hx I1 (.cons rfl .nil) q)

/-- C(e, ..) -/
def tMakeS (C : Addr) (sp : Sp) (E : L2.St → XK) (t : TA) : TE := fun σ H Q => t σ H fun vs H1 => ∀ x dx, H1 x = Option.none → H1 dx = Option.none → dx ≠ x →
  sp (V.ref x :: vs) (upd (upd H1 dx (.own x)) x (.ins C dx [])) (fun v H2 => v = .non ∧ Q (.ref x) H2)
    (fun cls d H2 => E σ cls d H2)
theorem runMake {pins : List (Addr × Obj)} {σ : L2.St} {H : Hp} {s : Shared} {Q : VK} {us : List Value} {vs : List V} (M : Mk X.K C f)
    (F : FnR X.prog X.w X.K X.mg X.base CX k f sp) (hr : Room (k + 1) X.A) (hx : ∀ σ, PassesAt CX X σ (E σ)) (I : Inv X pins σ H s) (r : Vals vs us)
    (h : ∀ x dx, H x = Option.none → H dx = Option.none → dx ≠ x →
      sp (V.ref x :: vs) (upd (upd H dx (.own x)) x (.ins C dx [])) (fun v H2 => v = .non ∧ Q (.ref x) H2) (E σ)) :
    wpAny (model X.prog X.w) X.A (call (.ref C) us) (EP X pins σ Q) X.xe s := by
  have hq := h (s.heap.objs.size + 1) s.heap.objs.size (I.hok.fresh (Nat.le_succ _)) (I.hok.fresh (Nat.le_refl _)) (Nat.ne_of_lt (Nat.lt_succ_self _))
  have I2 := Inv.made (C := C) I
  have r2 : Vals (V.ref (s.heap.objs.size + 1) :: vs) (Value.ref (s.heap.objs.size + 1) :: us) := .cons rfl r
  refine wpAny_call (make_map (f := f) I.kIn M.makes M.init (beq_iff_eq.mp M.fn) (codeAny_mono (F _ X.stack _ _ _ _ _ (E σ)
    (hr.make C us []) (I2.env0.make C us []) r2 hq) fun q s' hq' => ?_))
  rcases q with e | fl
  · exact hx σ pins _ _ e s' I2 hq'
  · rcases fl with _ | _ | _ | u
    · exact False.elim hq'
    · exact False.elim hq'
    · exact False.elim hq'
    · obtain ⟨v, H', I3, rv, ev, q3⟩ := I2.after hq'
      subst ev
      exact ⟨rv, ⟨V.ref (s.heap.objs.size + 1), H', I3, rfl, q3⟩⟩
theorem z_make (M : Mk X.K C f) (F : FnR X.prog X.w X.K X.mg X.base CX k f sp) (hr : Room (k + 1) X.A) (hm : X.mg x = some (.ref C))
    (hx : ∀ σ, PassesAt CX X σ (E σ)) (ha : PA X (e :: es) t) (hg : Gl X x := by rfl) (hdb : (x == ("__debug__" : Str)) = false := by decide)
    (he : starEach (e :: es) X.env = (false, eval e X.env) :: starEach es X.env := by rfl)
    (hpl : (backTo pos (starEach es X.env)).any (·.1) = false := by rfl) : PE X (.Call (.Name x p) (e :: es) [] pos) (tMakeS C sp E t) := by
  constructor
  intro pins s σ H Q I h
  apply wpAny_Call_Name_kw
  apply ld_glob I hg hm _ hdb
  apply PySem.W.callWith_K (h₀ := X.base) I.ok.mod.kin M.kp _ he hpl
  refine thn (ha.run pos pins s σ H _ I h) fun us s1 hh => ?_
  obtain ⟨vs, H1, I1, r, q⟩ := hh
  exact ⟨I1.kIn, runMake M F hr hx I1 r q⟩
end
end Z

set_option Elab.async false
set_option linter.all false
set_option maxRecDepth 100000
set_option maxHeartbeats 4000000
namespace Z
open PySem PySem.Spec PyProof.Rows L2

/-- a special method of an own class -/
structure Spc (K : PySem.W.Frag) (C : Addr) (n : Str) (f : Addr) : Prop where
  at_ : PySem.W.findIn K (.ref C) n = some (some (.ref f))
  fn : PySem.W.isFn K (.ref f) = true

section
variable {X : Cx} {k : Nat} {f C g : Addr} {sp : Sp}

theorem instAt {pins : List (Addr × Obj)} {σ : L2.St} {H : Hp} {s : Shared} {a dx : Addr} {fs : List (Str × V)} (I : Inv X pins σ H s)
    (e : H a = some (.ins C dx fs)) : ∃ ox od, PySem.W.InstAt s.heap a ox C od := by
  obtain ⟨mA, O, _⟩ := ins_get I.hok e
  obtain ⟨od, J, _⟩ := O.look
  exact ⟨_, _, J⟩
theorem cmpBack {A : Around} {E : Value → Shared → Prop} {pins : List (Addr × Obj)} {σ : L2.St} {Q : VK} {f : Addr} {us : List Value} {s : Shared}
    (h : wpAny (model X.prog X.w) A (call (.ref f) us) (EP X pins σ Q) E s) :
    wpAny (model X.prog X.w) A (call (.ref f) us) (PySem.W.CmpBack (EP X pins σ Q)) E s := by
  refine wpAny_mono h (fun v s' hv => ?_) fun _ _ z => z
  have hne : v ≠ .notImplemented := by
    rintro rfl
    obtain ⟨x, H', _, r, _⟩ := hv
    cases x
    case int => obtain ⟨t, q⟩ := r; cases q
    case str => obtain ⟨t, q⟩ := r; cases q
    case byt => obtain ⟨t, q⟩ := r; cases q
    case flt => obtain ⟨t, q⟩ := r; cases q
    all_goals cases r
  cases v
  case notImplemented => exact absurd rfl hne
  all_goals exact hv

/-- a op b, both instances of the class at C that has the operator's def -/
def rOwn (C : Addr) (sp : Sp) : R2 := fun x y H Q => ∃ a b dx dy fs gs, x = .ref a ∧ y = .ref b ∧ H a = some (.ins C dx fs) ∧ H b = some (.ins C dy gs) ∧
  sp [x, y] H Q (fun _ _ _ => False)
theorem op_own {op : Operator} (F : FnR X.prog X.w X.K X.mg X.base (L2.CX X.prog X.w) k f sp) (hr : Room k X.A)
    (hf : PySem.W.selfFirst X.K C = true) (S : Spc X.K C (PySem.dunder op.info.2) f) : OpR X (binaryOp op) (rOwn C sp) := by
  intro pins s σ H x y v u Q I rx ry h
  obtain ⟨a, b, dx, dy, fs, gs, rfl, rfl, ea, eb, h⟩ := h
  obtain rfl : v = Value.ref a := rx
  obtain rfl : u = Value.ref b := ry
  obtain ⟨ox, od, Ja⟩ := instAt I ea
  obtain ⟨oy, oe, Jb⟩ := instAt I eb
  obtain ⟨m, fr⟩ := I.fr
  apply PySem.W.binop_K fr I.ok.mod.kin Ja Jb.type hf S.at_ S.fn
  exact cmpBack (runR (us := [.ref a, .ref b]) (vs := [.ref a, .ref b]) (E := EN) F hr passN I (.cons rfl (.cons rfl .nil)) h)
/-- -a -/
def rOwn1 (C : Addr) (sp : Sp) : V → Hp → VK → Prop := fun x H Q => ∃ a dx fs, x = .ref a ∧ H a = some (.ins C dx fs) ∧ sp [x] H Q (fun _ _ _ => False)
theorem un_own (F : FnR X.prog X.w X.K X.mg X.base (L2.CX X.prog X.w) k f sp) (hr : Room k X.A) (S : Spc X.K C "__neg__" f) :
    UnR X (unaryOp .USub) (rOwn1 C sp) := by
  intro pins s σ H x v Q I rx h
  obtain ⟨a, dx, fs, rfl, ea, h⟩ := h
  obtain rfl : v = Value.ref a := rx
  obtain ⟨ox, od, Ja⟩ := instAt I ea
  obtain ⟨m, fr⟩ := I.fr
  apply PySem.W.ksp_neg fr I.ok.mod.kin Ja S.at_ S.fn
  exact runR (us := [.ref a]) (vs := [.ref a]) (E := EN) F hr passN I (.cons rfl .nil) h

/-! ### == and != by an own __eq__ -/
/-- the class of a value, as the other side of == -/
inductive Side (K : PySem.W.Frag) (C : Addr) (H : Hp) : V → Value → Prop where
  | ins {b dy : Addr} {gs : List (Str × V)} (e : H b = some (.ins C dy gs)) : Side K C H (.ref b) (.ref C)
  | lst {b : Addr} {xs : List V} (e : H b = some (.lst xs)) : Side K C H (.ref b) (.type "list")
  | int (i : Int) : Side K C H (.int i) (.type "int")
  | str (z : Str) : Side K C H (.str z) (.type "str")
theorem Side.look {K : PySem.W.Frag} {pins : List (Addr × Obj)} {σ : L2.St} {H : Hp} {s : Shared} {y : V} {u t : Value} (S : Side X.K C H y t) (I : Inv X pins σ H s) (r : RelV y u) :
    PySem.W.Looks (model X.prog X.w) s.heap (typeOf u) t := by
  cases S with
  | @ins b dy gs e =>
    obtain rfl : u = Value.ref b := r
    obtain ⟨ox, od, J⟩ := instAt I e
    exact J.type
  | @lst b xs e =>
    obtain rfl : u = Value.ref b := r
    obtain ⟨_, its, n, _, h1⟩ := (show ObjOk X.prog X.w H s.heap b (.lst xs) from I.hok b _ e)
    intro A Q E s' k q
    exact wpAny_typeOf_ref (k _ _ h1) q
  | int i =>
    obtain ⟨t, rfl⟩ := r
    exact PySem.W.Looks.of_pure rfl
  | str z =>
    obtain ⟨t, rfl⟩ := r
    exact PySem.W.Looks.of_pure rfl

def rOwnC (K : PySem.W.Frag) (C : Addr) (sp : Sp) : R2 := fun x y H Q => ∃ a dx fs t, x = .ref a ∧ H a = some (.ins C dx fs) ∧ Side K C H y t ∧ PySem.W.notFirst K C t = true ∧
  sp [x, y] H Q (fun _ _ _ => False)
theorem op_eqOwn (F : FnR X.prog X.w X.K X.mg X.base (L2.CX X.prog X.w) k f sp) (hr : Room k X.A) (S : Spc X.K C "__eq__" f) :
    OpR X (compareOp .Eq) (rOwnC X.K C sp) := by
  intro pins s σ H x y v u Q I rx ry h
  obtain ⟨a, dx, fs, t, rfl, ea, sd, hn, h⟩ := h
  obtain rfl : v = Value.ref a := rx
  obtain ⟨ox, od, Ja⟩ := instAt I ea
  obtain ⟨m, fr⟩ := I.fr
  have hu := hr.units0
  apply PySem.W.cmp_K (op := .Eq) hu fr I.ok.mod.kin Ja (sd.look (K := X.K) I ry) hn S.at_ S.fn
  exact cmpBack (runR (us := [.ref a, u]) (vs := [.ref a, y]) (E := EN) F hr passN I (.cons rfl (.cons ry .nil)) h)

/-- what the class says of != : it is left to object -/
structure NeC (K : PySem.W.Frag) (C : Addr) : Prop where
  at_ : PySem.W.findIn K (.ref C) "__ne__" = some (some (.builtin "object.__ne__"))
  ob : PySem.W.subIn K (.ref C) (.type "object") = some true
theorem objNe {A : Around} {E : Value → Shared → Prop} {s : Shared} {K : PySem.W.Frag} {a : Addr} {ox : Obj} {od : Option Obj} {b : Value} {Q : Fin → Shared → Prop} {prog : Program} {w : World}
    (hk : K.In s.heap) (J : PySem.W.InstAt s.heap a ox C od) (S : Spc K C "__eq__" f) (hu : A.units < cLine)
    (h : wpAny (model prog w) A (call (.ref f) [.ref a, b]) (fun v s' => ∃ r, v = .bool r ∧ Q (.done (.ret (.bool (!r)))) s') E s) :
    wpAny (model prog w) A (Builtin.«object.__ne__» ⟨[.ref a, b], []⟩) Q E s := by
  have one : wpAny (model prog w) A (callSpecialIfBound? (.ref a) (Str.ofString "__eq__") [b]) (fun o s' => ∃ r, o = some (.bool r) ∧ Q (.done (.ret (.bool (!r)))) s') E s := by
    refine PySem.W.ifBound_K hk J S.at_ S.fn (wpAny_mono h (fun v s' hv => ?_) fun _ _ z => z)
    obtain ⟨r, rfl, q⟩ := hv
    exact ⟨r, rfl, q⟩
  unfold Builtin.«object.__ne__»
  repeat (first
    | with_reducible refine wpAny_cRoomFor hu ?_
    | (refine wpAny_bind (m := callSpecialIfBound? (.ref a) (Str.ofString "__eq__") [b]) (wpAny_mono one (fun o s' hv => by
          obtain ⟨r, rfl, q⟩ := hv
          repeat (first | exact q | exact wpAny_pure q | exact wpAny_truthy_bool q | (refine wpAny_bind (m := truthy (.bool _)) (wpAny_truthy_bool ?_)) | wp_step)) fun _ _ z => z))
    | wp_step)
theorem neTry {A : Around} {E : Value → Shared → Prop} {s : Shared} {K : PySem.W.Frag} {a : Addr} {ox : Obj} {od : Option Obj} {b : Value} {Q : Value → Shared → Prop} {prog : Program} {w : World}
    (hk : K.In s.heap) (J : PySem.W.InstAt s.heap a ox C od) (S : Spc K C "__eq__" f) (N : NeC K C) (hu : A.in1.units < cLine)
    (h : wpAny (model prog w) A.in1 (call (.ref f) [.ref a, b]) (fun v s' => ∃ r, v = .bool r ∧ Q (.bool (!r)) s') E s) :
    wpAny (model prog w) A (tryCompare (.ref a) "__ne__" b) (fun o s' => ∃ v, o = some v ∧ Q v s') E s := by
  have sub : PySem.W.Looks (model prog w) s.heap (isInstance (.ref a) (.type "object")) true := J.type.andThen (PySem.W.looks_subIn hk N.ob)
  have body : wpAny (model prog w) A (call (.builtin "object.__ne__") [.ref a, b]) (fun v s' => ∃ r, v = .bool r ∧ Q (.bool r) s') E s := by
    refine wpAny_call (codeAny_call_builtin PySem.F.cmp_object.ne.plain PySem.F.cmpEntry_ne (PySem.W.check_slot PySem.F.cmpKind_ne PySem.F.cmpSplit_ne sub (PySem.F.cmpArgs_ne _ _) ?_))
    refine objNe (A := A.in1) hk J S hu (wpAny_mono h (fun v s' hv => ?_) fun _ _ z => z)
    obtain ⟨r, rfl, q⟩ := hv
    exact ⟨r, rfl, ⟨!r, rfl, q⟩⟩
  unfold tryCompare callSpecialIfBound? bindSpecialIfBound?
  have fin : wpAny (model prog w) A (call (.builtin "object.__ne__") ([.ref a] ++ [b]) >>= fun v => pure (some v)) (fun o s' => ∃ v, o = some v ∧ v ≠ .notImplemented ∧ Q v s') E s := by
    refine wpAny_bind (wpAny_mono body (fun v s' hv => ?_) fun _ _ z => z)
    obtain ⟨r, rfl, q⟩ := hv
    exact wpAny_pure ⟨_, rfl, (fun z => nomatch z), q⟩
  have fin2 : wpAny (model prog w) A (callSpecialIfBound? (.ref a) "__ne__" [b]) (fun o s' => ∃ v, o = some v ∧ v ≠ .notImplemented ∧ Q v s') E s := by
    simp only [callSpecialIfBound?, bindSpecialIfBound?]
    refine wpAny_holding (wpAny_bind (wpAny_bind (wpAny_bind (J.type.here ((PySem.W.looks_findIn hk N.at_).here ?_)))))
    simp only [PySem.F.cmp_object.ne.bind]
    refine wpAny_bind (wpAny_askSetting (wpAny_ite ?_))
    split
    · exact wpAny_bind (wpAny_pure (wpAny_pure fin))
    · exact wpAny_tryCatch (wpAny_bind (wpAny_pure (wpAny_pure fin)))
  show wpAny _ _ (tryCompare _ _ _) _ _ _
  unfold tryCompare
  refine wpAny_bind (wpAny_mono fin2 (fun o s' hv => ?_) fun _ _ z => z)
  obtain ⟨v, rfl, hne, q⟩ := hv
  cases v
  case notImplemented => exact absurd rfl hne
  all_goals exact wpAny_pure ⟨_, rfl, q⟩
theorem richNe {A : Around} {E : Value → Shared → Prop} {s : Shared} {K : PySem.W.Frag} {a : Addr} {ox : Obj} {od : Option Obj} {b t : Value} {Q : Value → Shared → Prop} {prog : Program} {w : World}
    (hk : K.In s.heap) (J : PySem.W.InstAt s.heap a ox C od) (S : Spc K C "__eq__" f) (N : NeC K C) (hu : A.units < cLine) (hu1 : A.in1.units < cLine)
    (lt : PySem.W.Looks (model prog w) s.heap (typeOf b) t) (hn : PySem.W.notFirst K C t = true)
    (h : wpAny (model prog w) A.in1 (call (.ref f) [.ref a, b]) (fun v s' => ∃ r, v = .bool r ∧ Q (.bool (!r)) s') E s) :
    wpAny (model prog w) A (richCompare .NotEq (.ref a) b) Q E s := by
  have one := neTry hk J S N hu1 h
  unfold richCompare
  simp only [oneThing_ref]
  refine wpAny_holding (wpAny_bind (wpAny_cRoomFor hu ?_))
  rw [cmpInfo_NotEq]
  dsimp only
  refine wpAny_bind (J.type.here (wpAny_bind (lt.here ?_)))
  split
  · rename_i q
    have e : PySem.W.subIn K t (.ref C) = some false := by
      rcases Bool.or_eq_true_iff.mp hn with e | e
      · rw [beq_iff_eq.mp e] at q
        simp at q
      · exact beq_iff_eq.mp e
    refine wpAny_bind ((PySem.W.looks_subIn hk e).here ?_)
    simp only [Bool.false_eq_true, if_false]
    refine wpAny_bind (wpAny_mono one (fun o s' z => ?_) fun _ _ z => z)
    obtain ⟨v, rfl, q⟩ := z
    exact wpAny_pure q
  · refine wpAny_bind (wpAny_pure ?_)
    simp only [Bool.false_eq_true, if_false]
    refine wpAny_bind (wpAny_mono one (fun o s' z => ?_) fun _ _ z => z)
    obtain ⟨v, rfl, q⟩ := z
    exact wpAny_pure q
/-- what the own == hands back is a bool: Q of the other one -/
theorem op_neOwn (F : FnR X.prog X.w X.K X.mg X.base (L2.CX X.prog X.w) k f sp) (hr : Room (k + 1) X.A) (S : Spc X.K C "__eq__" f) (N : NeC X.K C) :
    OpR X (compareOp .NotEq) (fun x y H Q => ∃ a dx fs t, x = .ref a ∧ H a = some (.ins C dx fs) ∧ Side X.K C H y t ∧ PySem.W.notFirst X.K C t = true ∧
      sp [x, y] H (fun v H' => ∃ r, v = .bl r ∧ Q (.bl (!r)) H') (fun _ _ _ => False)) := by
  intro pins s σ H x y v u Q I rx ry h
  obtain ⟨a, dx, fs, t, rfl, ea, sd, hn, h⟩ := h
  obtain rfl : v = Value.ref a := rx
  obtain ⟨ox, od, Ja⟩ := instAt I ea
  have hr1 : Room k X.A.in1 := hr.in1
  apply richNe (t := t) I.kIn Ja S N hr.units0 hr1.units0 (sd.look (K := X.K) I ry) hn
  refine wpAny_call (codeAny_mono (F X.A.in1 X.stack s H [.ref a, u] [.ref a, y] _ (fun _ _ _ => False) hr1 I.env0.in1 (.cons rfl (.cons ry .nil)) h) fun q s' hq => ?_)
  rcases q with e | fl
  · exact (cxN hq).elim
  · rcases fl with _ | _ | _ | u'
    · exact False.elim hq
    · exact False.elim hq
    · exact False.elim hq
    · obtain ⟨v', H', J', rv, r, ev, q⟩ := I.after hq
      subst ev
      obtain rfl : u' = Value.bool r := rv
      exact ⟨r, rfl, ⟨.bl (!r), H', J', rfl, q⟩⟩
end
end Z

set_option Elab.async false
set_option linter.all false
set_option maxRecDepth 100000
set_option maxHeartbeats 4000000
namespace Z
open PySem PySem.Spec PyProof.Rows L2
section
variable {prog : Program} {w : World} {A : Around} {E : Value → Shared → Prop} {s : Shared}
/-- bool(x), by the truth of x -/
theorem newBool {x : Value} {R : Result → Shared → Prop} (h : wpAny (model prog w) A.in1 (truthy x) (fun b s' => R (.ok (.ret (.bool b))) s') (fun e s' => R (.error e) s') s) :
    wpAny (model prog w) A.in1 (Builtin.«bool.__new__» ⟨[.type "bool", x], []⟩)
      (fun fin s' => match fin with | .done f => R (.ok f) s' | .again c' => c'.quiet = true ∧ codeAny (model prog w) A c' R s') (fun e s' => R (.error e) s') s := by
  have f1 := F.conv_sub_bool
  obtain ⟨hp, g, d, tk, os⟩ := s
  unfold Builtin.«bool.__new__»
  repeat (any_goals (first | assumption | (refine wpAny_bind (m := truthy x) (wpAny_mono h (fun b s' q => ?_) fun _ _ z => z)) | wp_step))
  all_goals first | exact q | exact ⟨_, rfl, q⟩ | skip
theorem callBool {x : Value} {Q : Value → Shared → Prop} (h : wpAny (model prog w) A.in1.in1 (truthy x) (fun b s' => Q (.bool b) s') E s) :
    wpAny (model prog w) A (call (.type "bool") [x]) Q E s := by
  have ft := F.called_bool
  obtain ⟨c, tl, hmro⟩ := ft.mro
  have hmade := ft.made
  have hsub := ft.sub
  have h1 := ft.notType
  have h2 := ft.canCreate
  have hct := F.typeCall_bool_1 x
  apply wpAny_call
  apply codeAny_of_tree
  show wpAny _ _ (callAny (.type "bool") _) _ _ _
  have quiet := Code.quiet_builtin (id := "type.__call__") ⟨[.type "bool", x], []⟩ (by decide +kernel)
  refine wpAny_pure ⟨quiet, ?_⟩
  apply codeAny_builtin F.entry_type_call
  rw [Around.under_plain (weight_type_call_type "bool" [x] []) (units_type_call_type "bool" [x] [])]
  repeat (any_goals (first | assumption | wp_step))
  have body := newBool (A := A.in1) (R := wants (fun o s₁ => s₁.TypeIs o "bool" ∧ Q o s₁) E) (wpAny_mono h (fun b s' q => ⟨rfl, q⟩) fun _ _ z => z)
  refine codeAny_mono (codeAny_call_builtin ft.plain F.entry_bool_new (wpAny_of_eq (F.newCall_bool_1 x) body)) fun r s₁ hr => ?_
  rcases r with e | fl
  · exact hr
  rcases fl with _ | _ | _ | obj
  · exact False.elim hr
  · exact False.elim hr
  · exact False.elim hr
  obtain ⟨hT, hq⟩ := hr
  have hli := ft.init.lookup
  have hbi := ft.init.bind obj
  repeat (any_goals (first | assumption | wp_step))
  have last := object_init_meets (self := obj) (rest := [x]) hli hmade F.newNe_bool prog w A.in1 (wants (fun r s₂ => r = .none ∧ Q obj s₂) E) s₁ ⟨hT, rfl, hq⟩
  refine codeAny_mono (codeAny_call_builtin ft.init.plain F.entry_object_init (ft.init.check _ _ _ _ _ _ _ _ hT (F.args_object_init_2 obj x) last)) fun r₂ s₂ hr₂ => ?_
  rcases r₂ with e | fl
  · exact hr₂
  rcases fl with _ | _ | _ | r
  · exact False.elim hr₂
  · exact False.elim hr₂
  · exact False.elim hr₂
  obtain ⟨rfl, hq⟩ := hr₂
  repeat (any_goals (first | assumption | wp_step))
end
section
variable {X : Cx} {k : Nat} {f C : Addr} {sp : Sp}
/-- bool(x), x an instance with its own __bool__ -/
def rBoolOwn (C : Addr) (sp : Sp) : List V → Hp → VK → Prop := fun xs H Q => ∃ a dx fs, xs = [.ref a] ∧ H a = some (.ins C dx fs) ∧
  sp [.ref a] H (fun v H' => ∃ r, v = .bl r ∧ Q (.bl r) H') (fun _ _ _ => False)
theorem call_boolOwn (F : FnR X.prog X.w X.K X.mg X.base (L2.CX X.prog X.w) k f sp) (hr : Room (k + 2) X.A) (S : Spc X.K C "__bool__" f) :
    CallR X (.type "bool") (rBoolOwn C sp) := by
  intro pins s σ H xs us Q I r h
  obtain ⟨a, dx, fs, rfl, ea, h⟩ := h
  obtain rfl := Vals.ref1 r
  obtain ⟨ox, od, Ja⟩ := instAt I ea
  obtain ⟨m, fr⟩ := I.fr
  have hr1 : Room k X.A.in1.in1 := (hr.in1).in1
  apply callBool
  apply PySem.W.truthy_K fr I.ok.mod.kin Ja S.at_ S.fn
  refine wpAny_call (codeAny_mono (F X.A.in1.in1 X.stack s H [.ref a] [.ref a] _ (fun _ _ _ => False) hr1 I.env0.in1.in1 (.cons rfl .nil) h) fun q s' hq => ?_)
  rcases q with e | fl
  · exact (cxN hq).elim
  rcases fl with _ | _ | _ | u'
  · exact False.elim hq
  · exact False.elim hq
  · exact False.elim hq
  obtain ⟨v', H', J', rv, r, ev, q⟩ := I.after hq
  subst ev
  obtain rfl : u' = Value.bool r := rv
  exact ⟨.bl r, H', J', rfl, q⟩
end
end Z

set_option Elab.async false
set_option linter.all false
set_option maxRecDepth 100000
set_option maxHeartbeats 4000000
/-! readings, one step at a time -/
namespace Z
open PySem PySem.Spec PyProof.Rows L2
section
variable {X : Cx} {K : PySem.W.Frag} {σ σ' : L2.St} {H H1 : Hp} {D : Ends} {t u : TS} {te ta tb tc : TE} {tt tu : TT} {tr : TA} {g : TG} {Q : VK} {QB : Bool → Hp → Prop} {QA : List V → Hp → Prop} {QS : L2.St → Hp → Prop} {v x y : V} {i j : Nat} {A B : Prop}

theorem i_seq (h : t { D with nx := u D } σ H) : tSeq t u D σ H := h
theorem i_next (h : D.nx σ H) : tNext D σ H := h
theorem i_asg (h : te σ H (fun x H1 => g x σ H1 D.nx)) : tAsg te g D σ H := h
theorem i_gname (e : σ.set i (some v) = σ') (h : QS σ' H) : gName i v σ H QS := by
  subst e
  exact h
theorem i_ret (h : te σ H D.rt) : tRet te D σ H := h
theorem i_retN (h : D.rt .non H) : tRetN D σ H := h
theorem i_drop (h : te σ H (fun _ H1 => D.nx σ H1)) : tDrop te D σ H := h
theorem i_ifs (h : tt σ H (fun b H1 => if b = true then t D σ H1 else u D σ H1)) : tIfS tt t u D σ H := h
theorem i_test (h : te σ H (fun x H1 => ∃ k, x = .bl k ∧ QB k H1)) : tTest te σ H QB := h
theorem i_B (h : te σ H (fun x H1 => ∃ k, x = .bl k ∧ QB k H1)) : tB te σ H QB := h
theorem i_bl {b : Bool} (h : QB b H) : ∃ k, V.bl b = .bl k ∧ QB k H := ⟨b, rfl, h⟩
theorem i_bl' {b : Bool} {P : Bool → Prop} (h : P b) : ∃ k, V.bl b = .bl k ∧ P k := ⟨b, rfl, h⟩
theorem i_and (h : tt σ H (fun c H1 => if c = true then tu σ H1 QB else QB false H1)) : tAnd tt tu σ H QB := h
theorem i_or (h : tt σ H (fun c H1 => if c = true then QB true H1 else tu σ H1 QB)) : tOr tt tu σ H QB := h
theorem i_not (h : tt σ H (fun c H1 => QB (!c) H1)) : tNot tt σ H QB := h
theorem i_andV (h : ta σ H (fun x H1 => ∃ c, x = .bl c ∧ if c = true then tb σ H1 Q else Q (.bl false) H1)) : tAndV ta tb σ H Q := h
theorem i_orV (h : ta σ H (fun x H1 => ∃ c, x = .bl c ∧ if c = true then Q (.bl true) H1 else tb σ H1 Q)) : tOrV ta tb σ H Q := h
theorem i_notV (h : ta σ H (fun x H1 => ∃ c, x = .bl c ∧ Q (.bl (!c)) H1)) : tNotV ta σ H Q := h
theorem i_ifx (h : tt σ H (fun c H1 => if c = true then ta σ H1 Q else tb σ H1 Q)) : tIf tt ta tb σ H Q := h
theorem i_dec {p : Prop} [Decidable p] (h1 : p → A) (h2 : ¬p → B) : if decide p = true then A else B := by
  by_cases hp : p
  · rw [if_pos (decide_eq_true hp)]
    exact h1 hp
  · rw [if_neg (by simpa using hp)]
    exact h2 hp
theorem i_ndec {p : Prop} [Decidable p] (h1 : ¬p → A) (h2 : p → B) : if (!decide p) = true then A else B := by
  by_cases hp : p
  · rw [if_neg (by simpa using hp)]
    exact h2 hp
  · rw [if_pos (by simpa using hp)]
    exact h1 hp
theorem i_bool {b : Bool} (h1 : b = true → A) (h2 : b = false → B) : if b = true then A else B := by
  cases b
  · exact h2 rfl
  · exact h1 rfl
theorem i_tt (h : A) : if true = true then A else B := h
theorem i_ff (h : B) : if false = true then A else B := h
theorem i_nt (h : B) : if (!true) = true then A else B := h
theorem i_nf (h : A) : if (!false) = true then A else B := h
/-! values -/
theorem i_var (e : σ[i]? = some (some v)) (h : Q v H) : tVar i σ H Q := ⟨v, e, h⟩
theorem i_c (h : Q v H) : tC v σ H Q := h
theorem i_op {r : R2} (h : ta σ H (fun x H1 => tb σ H1 (fun y H2 => r x y H2 Q))) : tOp r ta tb σ H Q := h
theorem i_un {r : V → Hp → VK → Prop} (h : ta σ H (fun x H1 => r x H1 Q)) : tUn r ta σ H Q := h
theorem i_cons (h : te σ H (fun x H1 => tr σ H1 (fun xs H2 => QA (x :: xs) H2))) : tCons te tr σ H QA := h
theorem i_nil (h : QA [] H) : tNil σ H QA := h
theorem i_cb {r : List V → Hp → VK → Prop} (h : tr σ H (fun vs H1 => r vs H1 Q)) : tCB r tr σ H Q := h
theorem i_call {sp : Sp} {E : L2.St → XK} (h : tr σ H (fun vs H1 => sp vs H1 Q (E σ))) : tCallS sp E tr σ H Q := h
theorem sz_small {n : Nat} (h : n ≤ 100000) : n ≤ sizeLine := Nat.le_trans h (by decide)
/-- a new list, a new tuple: from here on the heap is another letter -/
theorem i_lst (h : tr σ H (fun xs H1 => xs.length ≤ 100000 ∧ ∀ p H2, H1 p = none → Same H1 H2 → H2 p = some (.lst xs) → (∀ b, b ≠ p → H2 b = H1 b) → Q (.ref p) H2))
    (mono : ∀ Q Q' : List V → Hp → Prop, (∀ xs H, Q xs H → Q' xs H) → tr σ H Q → tr σ H Q') : tLst tr σ H Q := by
  refine mono _ _ (fun xs H1 q => ?_) h
  exact ⟨sz_small q.1, fun p hp => q.2 p _ hp (fun b o e => by rw [upd_ne (ne_of_none e hp)]; exact e) upd_same (fun b hb => upd_ne hb)⟩
/-- what comes behind the items of a display -/
def rLst (xs : List V) (H1 : Hp) (Q : VK) : Prop := xs.length ≤ sizeLine ∧ ∀ p, H1 p = none → Q (.ref p) (upd H1 p (.lst xs))
def rTup (xs : List V) (H1 : Hp) (Q : VK) : Prop := xs.length ≤ sizeLine ∧ ∀ p, H1 p = none → Q (.ref p) (upd H1 p (.tup xs))
theorem i_lst0 (h : tr σ H (fun xs H1 => rLst xs H1 Q)) : tLst tr σ H Q := h
theorem i_tup0 (h : tr σ H (fun xs H1 => rTup xs H1 Q)) : tTup tr σ H Q := h
theorem i_lst1 {xs : List V} (hl : xs.length ≤ 100000) (h : ∀ p H2, H p = none → Same H H2 → H2 p = some (.lst xs) → (∀ b, b ≠ p → H2 b = H b) → Q (.ref p) H2) : rLst xs H Q :=
  ⟨sz_small hl, fun p hp => h p _ hp (fun b o e => by rw [upd_ne (ne_of_none e hp)]; exact e) upd_same (fun b hb => upd_ne hb)⟩
theorem i_tup1 {xs : List V} (hl : xs.length ≤ 100000) (h : ∀ p H2, H p = none → Same H H2 → H2 p = some (.tup xs) → (∀ b, b ≠ p → H2 b = H b) → Q (.ref p) H2) : rTup xs H Q :=
  ⟨sz_small hl, fun p hp => h p _ hp (fun b o e => by rw [upd_ne (ne_of_none e hp)]; exact e) upd_same (fun b hb => upd_ne hb)⟩
/-! attributes -/
def rFld (K : PySem.W.Frag) (f : Str) (x : V) (H1 : Hp) (Q : VK) : Prop := ∃ a C dx fs v, x = .ref a ∧ H1 a = some (.ins C dx fs) ∧ Cls K C ∧ NoAttr K C f ∧ fs.lookup f = some v ∧ Q v H1
theorem i_fld0 {f : Str} (h : ta σ H (fun x H1 => rFld K f x H1 Q)) : tFld K ta f σ H Q := h
theorem i_fld1 {f : Str} {a C dx : Addr} {fs : List (Str × V)} (e : H a = some (.ins C dx fs)) (c : Cls K C) (n : NoAttr K C f) (l : fs.lookup f = some v) (h : Q v H) : rFld K f (.ref a) H Q := ⟨a, C, dx, fs, v, rfl, e, c, n, l, h⟩
def rPut (K : PySem.W.Frag) (f : Str) (y x : V) (H2 : Hp) (Q : Hp → Prop) : Prop := ∃ a C dx fs, x = .ref a ∧ H2 a = some (.ins C dx fs) ∧ Cls K C ∧ NoAttr K C f ∧ fs.length < 1000 ∧ Q (upd H2 a (.ins C dx (putF f y fs)))
theorem i_put0 {f : Str} {tv : TE} (h : tv σ H (fun y H1 => ta σ H1 (fun x H2 => rPut K f y x H2 (fun H3 => D.nx σ H3)))) : sFld K ta tv f D σ H := h
theorem i_put1 {f : Str} {a C dx : Addr} {fs gs : List (Str × V)} {P : Hp → Prop} (e : H a = some (.ins C dx fs)) (c : Cls K C) (n : NoAttr K C f) (l : fs.length < 100) (w : putF f y fs = gs)
    (h : ∀ H2, H2 a = some (.ins C dx gs) → (∀ b, b ≠ a → H2 b = H b) → P H2) : rPut K f y (.ref a) H P :=
  ⟨a, C, dx, fs, rfl, e, c, n, by omega, by rw [w]; exact h _ upd_same (fun b hb => upd_ne hb)⟩
/-! methods, new instances -/
def rMeth (C : Addr) (m : Str) (x : V) (H1 : Hp) (P : Prop) : Prop := ∃ a dx fs, x = .ref a ∧ H1 a = some (.ins C dx fs) ∧ fs.lookup m = none ∧ P
theorem i_meth {C : Addr} {m : Str} {sp : Sp} {E : L2.St → XK} (h : ta σ H (fun x H1 => rMeth C m x H1 (tr σ H1 (fun vs H2 => sp (x :: vs) H2 Q (E σ))))) : tMethS C m sp E ta tr σ H Q := h
theorem i_meth1 {C a dx : Addr} {m : Str} {fs : List (Str × V)} {P : Prop} (e : H a = some (.ins C dx fs)) (l : fs.lookup m = none) (h : P) : rMeth C m (.ref a) H P := ⟨a, dx, fs, rfl, e, l, h⟩
def rNew (C : Addr) (sp : Sp) (vs : List V) (H1 : Hp) (Q : VK) (E : XK) : Prop := ∀ x dx, H1 x = Option.none → H1 dx = Option.none → dx ≠ x →
  sp (V.ref x :: vs) (upd (upd H1 dx (.own x)) x (.ins C dx [])) (fun v H2 => v = .non ∧ Q (.ref x) H2) (fun cls d H2 => E cls d H2)
theorem i_make {C : Addr} {sp : Sp} {E : L2.St → XK} (h : tr σ H (fun vs H1 => rNew C sp vs H1 Q (E σ))) : tMakeS C sp E tr σ H Q := h
/-! ints -/
theorem i_rI0 {f : Int → Int → V} {a b : Int} (h : Q (f a b) H) : rI0 f (.int a) (.int b) H Q := ⟨a, b, rfl, rfl, h⟩
theorem i_rI {C : Int → Int → Prop} {f : Int → Int → V} {a b : Int} (c : C a b) (h : Q (f a b) H) : rI C f (.int a) (.int b) H Q := ⟨a, b, rfl, rfl, c, h⟩
theorem i_rU {f : Int → V} {a : Int} (h : Q (f a) H) : rU f (.int a) H Q := ⟨a, rfl, h⟩
theorem i_eqI {a b : Int} (h : Q (.bl (decide (a = b))) H) : rEq (.int a) (.int b) H Q := ⟨rfl, by
  have e : decide (V.int a = V.int b) = decide (a = b) := by by_cases h : a = b <;> simp [h]
  rw [e]
  exact h⟩
theorem i_neI {a b : Int} (h : Q (.bl (!decide (a = b))) H) : rNe (.int a) (.int b) H Q := ⟨rfl, by
  have e : decide (V.int a = V.int b) = decide (a = b) := by by_cases h : a = b <;> simp [h]
  rw [e]
  exact h⟩
theorem i_eqB {a b : Bool} (h : Q (.bl (a == b)) H) : rEq (.bl a) (.bl b) H Q := ⟨rfl, by
  have e : decide (V.bl a = V.bl b) = (a == b) := by cases a <;> cases b <;> rfl
  rw [e]
  exact h⟩
theorem i_neB {a b : Bool} (h : Q (.bl (a != b)) H) : rNe (.bl a) (.bl b) H Q := ⟨rfl, by
  have e : (!decide (V.bl a = V.bl b)) = (a != b) := by cases a <;> cases b <;> rfl
  rw [e]
  exact h⟩
theorem i_eqS {a b : Str} (h : Q (.bl (decide (a = b))) H) : rEq (.str a) (.str b) H Q := ⟨rfl, by
  have e : decide (V.str a = V.str b) = decide (a = b) := by by_cases h : a = b <;> simp [h]
  rw [e]
  exact h⟩
theorem i_neS {a b : Str} (h : Q (.bl (!decide (a = b))) H) : rNe (.str a) (.str b) H Q := ⟨rfl, by
  have e : decide (V.str a = V.str b) = decide (a = b) := by by_cases h : a = b <;> simp [h]
  rw [e]
  exact h⟩
/-- // by a divisor of either sign -/
def CDivZ (_ j : Int) : Prop := j ≠ 0 ∧ j.natAbs.log2 < 9000
theorem op_fdivZ : OpR X (binaryOp .FloorDiv) (rI CDivZ fun i j => .int (i.fdiv j)) := opI fun i j _ _ _ _ _ hc q => floordiv_int hc.1 q (.inl (PyProof.noPylong_of_log2 hc.2))
theorem cdivZ {i j : Int} {n : Nat} (h : j ≠ 0) (s : ZR.Sz n j) (h0 : 0 < n := by decide) (h9 : n ≤ 9000 := by decide) : CDivZ i j := ⟨h, Nat.lt_of_lt_of_le (PySem.Flt.log2_lt_of h0 s) h9⟩
theorem cmulW {i j : Int} {n m : Nat} (s : ZR.Sz n i) (s' : ZR.Sz m j) (h0 : 0 < n := by decide) (h1 : 0 < m := by decide) (h : n + m ≤ 1000000 := by decide) : CMulW i j := wide_mul s s' h0 h1 h
/-! lists and tuples by place -/
theorem i_ixL {p : Addr} {xs : List V} {k : Nat} (s : SqL K H p xs) (e : xs[k]? = some v) (h : Q v H) : rIxL K (.ref p) (.int (k : Nat)) H Q := ⟨p, xs, _, v, rfl, rfl, s, atI_nat e, h⟩
theorem i_gcd {a b : Int} (h : Q (.int ((Nat.gcd a.natAbs b.natAbs : Nat) : Int)) H) : rGcd [.int a, .int b] H Q := ⟨a, b, rfl, h⟩
end
end Z

set_option Elab.async false
set_option linter.all false
set_option maxRecDepth 100000
set_option maxHeartbeats 4000000
/-! what is known of the text's defs, in short -/
namespace Z
open PySem PySem.Spec PyProof.Rows L2
section
variable (P : Program) (w : World) (K : PySem.W.Frag) (mg : Str → Option Value) (base : Heap)
/-- a def of the module -/
def Cal (x : Str) (k : Nat) (sp : Sp) : Prop := ∃ f, mg x = some (.ref f) ∧ PySem.W.keepIn K (.ref f) = true ∧ FnR P w K mg base (L2.CX P w) k f sp
/-- a method of the class at C -/
def CalM (C : Addr) (m : Str) (k : Nat) (sp : Sp) : Prop := ∃ f, Meth K C m f ∧ FnR P w K mg base (L2.CX P w) k f sp
/-- a class and its __init__ -/
def CalI (x : Str) (C : Addr) (k : Nat) (sp : Sp) : Prop := mg x = some (.ref C) ∧ ∃ f, Mk K C f ∧ FnR P w K mg base (L2.CX P w) k f sp
/-- an operator's def -/
def CalO (C : Addr) (n : Str) (k : Nat) (sp : Sp) : Prop := ∃ f, Spc K C n f ∧ PySem.W.selfFirst K C = true ∧ FnR P w K mg base (L2.CX P w) k f sp
/-- a classmethod -/
def CalK (C : Addr) (m : Str) (k : Nat) (sp : Sp) : Prop := ∃ mc p g, ClX.CRead K C mc ∧ ClX.CMet K C mc m p g ∧ FnR P w K mg base (L2.CX P w) k g sp
/-- an error class with its own __init__ -/
def CalX (x : Str) (C : Addr) (k : Nat) (ps : List Str) (sp : Sp) : Prop := mg x = some (.ref C) ∧ OexC K C ∧ ∃ fI fd, PySem.W.findIn K (.ref C) "__init__" = some (some (.ref fI)) ∧
  PySem.W.typeIn K (.ref fI) = some (.type "function") ∧ FnOk P w K mg base (L2.CX P w) k fI fd ps sp ∧ Binds K fd ps []
/-- the errors' common class, of which __init__ is called by name -/
def CalT (x : Str) : Prop := ∃ T mc, mg x = some (.ref T) ∧ ClX.CRead K T mc ∧ PySem.W.findCls K (.ref T) mc "__init__" = some (.val (.builtin "ValueError.__init__"))
end
section
variable {X : Cx} {k j : Nat} {C : Addr} {sp : Sp} {E : L2.St → XK} {x m : Str} {p pos apos : Pos} {e o : Expr} {es : List Expr} {ta te : TE} {t : TA}
theorem z_callC (c : Cal X.prog X.w X.K X.mg X.base x k sp) (hr : Room j X.A) (hx : ∀ σ, PassesAt (L2.CX X.prog X.w) X σ (E σ)) (ha : PA X (e :: es) t) (hj : k ≤ j := by decide) (hg : Gl X x := by rfl)
    (hdb : (x == ("__debug__" : Str)) = false := by decide) (he : starEach (e :: es) X.env = (false, eval e X.env) :: starEach es X.env := by rfl)
    (hpl : (backTo pos (starEach es X.env)).any (·.1) = false := by rfl) : PE X (.Call (.Name x p) (e :: es) [] pos) (tCallS sp E t) := by
  obtain ⟨f, hm, hk, F⟩ := c
  exact z_call F (hr.mono hj) hm hk hx ha hg hdb he hpl
theorem z_call0C (c : Cal X.prog X.w X.K X.mg X.base x k sp) (hr : Room j X.A) (hx : ∀ σ, PassesAt (L2.CX X.prog X.w) X σ (E σ)) (hj : k ≤ j := by decide) (hg : Gl X x := by rfl)
    (hdb : (x == ("__debug__" : Str)) = false := by decide) : PE X (.Call (.Name x p) [] [] pos) (tCallS sp E tNil) := by
  obtain ⟨f, hm, hk, F⟩ := c
  exact z_call0 F (hr.mono hj) hm hk hx hg hdb
theorem z_makeC (c : CalI X.prog X.w X.K X.mg X.base x C k sp) (hr : Room j X.A) (hx : ∀ σ, PassesAt (L2.CX X.prog X.w) X σ (E σ)) (ha : PA X (e :: es) t) (hj : k + 1 ≤ j := by decide) (hg : Gl X x := by rfl)
    (hdb : (x == ("__debug__" : Str)) = false := by decide) (he : starEach (e :: es) X.env = (false, eval e X.env) :: starEach es X.env := by rfl)
    (hpl : (backTo pos (starEach es X.env)).any (·.1) = false := by rfl) : PE X (.Call (.Name x p) (e :: es) [] pos) (tMakeS C sp E t) := by
  obtain ⟨hm, f, M, F⟩ := c
  exact z_make M F (hr.mono hj) hm hx ha hg hdb he hpl
/-- cls(e, ..), cls a local name that holds the class -/
def tMakeL (i : Nat) (C : Addr) (sp : Sp) (E : L2.St → XK) (t : TA) : TE := fun σ H Q => σ[i]? = some (some (.ref C)) ∧ tMakeS C sp E t σ H Q
theorem z_makeL {i : Nat} {y : Str} (c : CalI X.prog X.w X.K X.mg X.base y C k sp) (hr : Room j X.A) (hx : ∀ σ, PassesAt (L2.CX X.prog X.w) X σ (E σ)) (ha : PA X (e :: es) t) (hj : k + 1 ≤ j := by decide)
    (hN : X.N[i]? = some x := by rfl) (hv : Vis X.env.scope x := by first | exact Or.inl rfl | exact Or.inr (Or.inl rfl) | exact Or.inr (Or.inr rfl))
    (hdb : (x == ("__debug__" : Str)) = false := by decide) (hcd : (x == ("__classdict__" : Str)) = false := by decide)
    (he : starEach (e :: es) X.env = (false, eval e X.env) :: starEach es X.env := by rfl)
    (hpl : (backTo pos (starEach es X.env)).any (·.1) = false := by rfl) : PE X (.Call (.Name x p) (e :: es) [] pos) (tMakeL i C sp E t) := by
  obtain ⟨hm, f, M, F⟩ := c
  constructor
  intro pins s σ H Q I h
  obtain ⟨hs, h⟩ := h
  apply wpAny_Call_Name_kw
  refine thn ((pe_var (pos := p) (i := i) hN hv hdb hcd).run pins s σ H (fun v H1 => v = .ref C ∧ H1 = H) I ⟨.ref C, hs, rfl, rfl⟩) fun u s1 hh => ?_
  obtain ⟨v, H1, I1, r1, ev, eH⟩ := hh
  subst ev
  rw [eH] at I1
  obtain rfl : u = Value.ref C := r1
  apply PySem.W.callWith_K (h₀ := X.base) I.ok.mod.kin M.kp _ he hpl
  refine thn (ha.run pos pins s1 σ H _ I1 h) fun us s2 hh => ?_
  obtain ⟨vs, H2, I2, r, q⟩ := hh
  exact ⟨I2.kIn, runMake M F (hr.mono hj) hx I2 r q⟩
theorem z_methC {pl : Sem Bool} (he : PE X o ta) (c : Cls X.K C) (d : CalM X.prog X.w X.K X.mg X.base C m k sp) (hr : Room j X.A) (hx : ∀ σ, PassesAt (L2.CX X.prog X.w) X σ (E σ)) (ha : PA X (e :: es) t) (hj : k ≤ j := by decide)
    (hst : starEach (e :: es) X.env = (false, eval e X.env) :: starEach es X.env := by rfl)
    (hpl : (backTo pos (starEach es X.env)).any (·.1) = false := by rfl)
    (ht : eval (.Call (.Attribute o m apos) (e :: es) [] pos) X.env = (do
      let ov ← eval o X.env
      standAt apos.atName
      let (f, first) ← holding [ov] (getMethod ov m pl)
      callWith pos f first (backTo pos (starEach (e :: es) X.env)) (backToKw pos (keywordEach [] X.env))) := by rfl) :
    PE X (.Call (.Attribute o m apos) (e :: es) [] pos) (tMethS C m sp E ta t) := by
  obtain ⟨f, hm, F⟩ := d
  exact z_meth he c hm F (hr.mono hj) hx ha hst hpl ht
theorem z_meth0C {pl : Sem Bool} (he : PE X o ta) (c : Cls X.K C) (d : CalM X.prog X.w X.K X.mg X.base C m k sp) (hr : Room j X.A) (hx : ∀ σ, PassesAt (L2.CX X.prog X.w) X σ (E σ)) (hj : k ≤ j := by decide)
    (ht : eval (.Call (.Attribute o m apos) [] [] pos) X.env = (do
      let ov ← eval o X.env
      standAt apos.atName
      let (f, first) ← holding [ov] (getMethod ov m pl)
      callWith pos f first (backTo pos (starEach [] X.env)) (backToKw pos (keywordEach [] X.env))) := by rfl) :
    PE X (.Call (.Attribute o m apos) [] [] pos) (tMethS C m sp E ta tNil) := by
  obtain ⟨f, hm, F⟩ := d
  exact z_meth0 he c hm F (hr.mono hj) hx ht
/-- C.m(e, ..), m a classmethod -/
def tCMethS (C : Addr) (sp : Sp) (E : L2.St → XK) (ta : TE) (t : TA) : TE := fun σ H Q => ta σ H fun x H1 => x = .ref C ∧ t σ H1 fun vs H2 => sp (.ref C :: vs) H2 Q (E σ)
theorem z_cmethC {pl : Sem Bool} (ho : PE X o ta) (d : CalK X.prog X.w X.K X.mg X.base C m k sp) (hr : Room j X.A) (hx : ∀ σ, PassesAt (L2.CX X.prog X.w) X σ (E σ)) (ha : PA X (e :: es) t) (hj : k ≤ j := by decide)
    (hst : starEach (e :: es) X.env = (false, eval e X.env) :: starEach es X.env := by rfl)
    (hpl : (backTo pos (starEach es X.env)).any (·.1) = false := by rfl)
    (ht : eval (.Call (.Attribute o m apos) (e :: es) [] pos) X.env = (do
      let ov ← eval o X.env
      standAt apos.atName
      let (f, first) ← holding [ov] (getMethod ov m pl)
      callWith pos f first (backTo pos (starEach (e :: es) X.env)) (backToKw pos (keywordEach [] X.env))) := by rfl) :
    PE X (.Call (.Attribute o m apos) (e :: es) [] pos) (tCMethS C sp E ta t) := by
  obtain ⟨mc, pp, g, r, c, F⟩ := d
  constructor
  intro pins s σ H Q I h
  refine PySem.W.methodCall_KW (pl := pl) (thn (ho.run pins s σ H _ I h) fun u s1 hh => ?_) ht
  obtain ⟨x, H1, I1, rx, ex, q⟩ := hh
  subst ex
  obtain rfl : u = Value.ref C := rx
  apply ClX.getmethcm_ok I1 r c
  intro s2 I2
  apply ClX.callwith_cm I2 (ClX.base_none I1 (Nat.le_refl _)) c.fi _ hst hpl
  refine thn (ha.run pos _ s2 σ H1 _ I2 q) fun us s3 hh => ?_
  obtain ⟨vs, H2, I3, rv, q2⟩ := hh
  refine ⟨⟨ClX.pin_at I3, I3.kIn⟩, ?_⟩
  have z : wpAny (model X.prog X.w) X.A (call (.ref s1.heap.objs.size) us) (EP X ((s1.heap.objs.size, PySem.W.methodObj (.ref g) (.ref C)) :: pins) σ Q) X.xe s3 := by
    refine wpAny_call (PySem.W.method_call (ClX.pin_at I3) ?_)
    refine codeAny_mono (F X.A X.stack s3 H2 (.ref C :: us) (.ref C :: vs) Q (E σ) (hr.mono hj) I3.env0 (.cons rfl rv) q2) fun a s' hq => ?_
    rcases a with er | fl
    · exact hx σ _ H2 s3 er s' I3 hq
    · rcases fl with _ | _ | _ | v
      · exact False.elim hq
      · exact False.elim hq
      · exact False.elim hq
      · exact I3.after hq
  exact thn z fun _ _ y => ClX.unpinE y
/-! operators -/
theorem z_op {op : Operator} {nm : Str} (c : CalO X.prog X.w X.K X.mg X.base C nm k sp) (hr : Room j X.A) (hj : k ≤ j := by decide) (hn : nm = PySem.dunder op.info.2 := by rfl) : OpR X (binaryOp op) (rOwn C sp) := by
  obtain ⟨f, S, sf, F⟩ := c
  exact op_own F (hr.mono hj) sf (by rw [← hn]; exact S)
theorem z_neg (c : CalO X.prog X.w X.K X.mg X.base C "__neg__" k sp) (hr : Room j X.A) (hj : k ≤ j := by decide) : UnR X (unaryOp .USub) (rOwn1 C sp) := by
  obtain ⟨f, S, sf, F⟩ := c
  exact un_own F (hr.mono hj) S
theorem z_eqO (c : CalO X.prog X.w X.K X.mg X.base C "__eq__" k sp) (hr : Room j X.A) (hj : k ≤ j := by decide) : OpR X (compareOp .Eq) (rOwnC X.K C sp) := by
  obtain ⟨f, S, sf, F⟩ := c
  exact op_eqOwn F (hr.mono hj) S
def rOwnN (K : PySem.W.Frag) (C : Addr) (sp : Sp) : R2 := fun x y H Q => ∃ a dx fs t, x = .ref a ∧ H a = some (.ins C dx fs) ∧ Side K C H y t ∧ PySem.W.notFirst K C t = true ∧
      sp [x, y] H (fun v H' => ∃ r, v = .bl r ∧ Q (.bl (!r)) H') (fun _ _ _ => False)
theorem z_neO (c : CalO X.prog X.w X.K X.mg X.base C "__eq__" k sp) (n : NeC X.K C) (hr : Room j X.A) (hj : k + 1 ≤ j := by decide) : OpR X (compareOp .NotEq) (rOwnN X.K C sp) := by
  obtain ⟨f, S, sf, F⟩ := c
  exact op_neOwn F (hr.mono hj) S n
theorem z_bool (c : CalO X.prog X.w X.K X.mg X.base C "__bool__" k sp) (hr : Room j X.A) (hj : k + 2 ≤ j := by decide) : CallR X (.type "bool") (rBoolOwn C sp) := by
  obtain ⟨f, S, sf, F⟩ := c
  exact call_boolOwn F (hr.mono hj) S
/-! errors -/
theorem z_mkX {ps : List Str} (c : CalX X.prog X.w X.K X.mg X.base x C k ps sp) (hr : Room j X.A) (ha : PA X (e :: es) t) (hj : k + 1 ≤ j := by decide) (hg : Gl X x := by rfl)
    (hdb : (x == ("__debug__" : Str)) = false := by decide) (he : starEach (e :: es) X.env = (false, eval e X.env) :: starEach es X.env := by rfl)
    (hpl : (backTo pos (starEach es X.env)).any (·.1) = false := by rfl) : PMk X (.Call (.Name x p) (e :: es) [] pos) (tMkO C sp [] t) := by
  obtain ⟨hm, T, fI, fd, iC, tI, F, b⟩ := c
  exact pmk_oex T iC tI F (hr.mono hj) b .nil passL hg hm ha hdb he hpl
/-- ThrowError.__init__(self, ..) -/
theorem z_tinit {p1 p2 : Pos} {pl : Sem Bool} (hg : Gl X x) (c : CalT X.K X.mg x) (ha : PA X (e :: es) t)
    (hc : eval (.Call (.Attribute (.Name x p1) "__init__" p2) (e :: es) [] pos) X.env = (do
      let ov ← eval (.Name x p1) X.env
      standAt p2.atName
      let (f, first) ← holding [ov] (getMethod ov "__init__" pl)
      callWith pos f first (backTo pos (starEach (e :: es) X.env)) (backToKw pos (keywordEach [] X.env))) := by rfl)
    (hdb : (x == ("__debug__" : Str)) = false := by decide) (he : starEach (e :: es) X.env = (false, eval e X.env) :: starEach es X.env := by rfl)
    (hpl : (backTo pos (starEach es X.env)).any (·.1) = false := by rfl) :
    PE X (.Call (.Attribute (.Name x p1) "__init__" p2) (e :: es) [] pos) (tVeI X.K t) := by
  obtain ⟨T, mc, hm, r, vV⟩ := c
  constructor
  intro pins s σ H Q I h
  refine PySem.W.methodCall_KW (ld_glob I hg hm ?_ hdb) hc
  apply PySem.W.method_cls I.kIn r.ga
  apply PySem.W.cls_value I.kIn r.rd vV (by decide +kernel)
  show wpAny _ _ (callWith pos (Value.builtin "ValueError.__init__") [] (backTo pos (starEach (e :: es) X.env)) []) _ _ _
  refine PyProof.Rows.callWith_method1 (thn (ha.run pos pins _ σ H _ (I.tok _) h) fun us s1 hh => ?_) he hpl
  obtain ⟨vs, H1, I1, r1, a, C, ws, ev, hl, T', ea, q⟩ := hh
  subst ev
  cases r1 with
  | @cons _ u0 _ ur ra rw' =>
    obtain rfl : u0 = Value.ref a := ra
    have hlen : ur.length ≤ sizeLine := by
      rw [← Paired.length rw', sizeLine_eq]
      omega
    exact oinit_ok T' I1 ea hlen fun s' J => ⟨.non, H1, J, rfl, q⟩
end
/-! a def by its body -/
section
variable {P : Program} {w : World} {K : PySem.W.Frag} {mg : Str → Option Value} {base : Heap}
theorem fnOk_mk {x qual : Str} {st : Stmt} {f : Addr} {fd : FuncData} {N ps : List Str} {k : Nat} {sp : Sp} (F : L2.Fun K x qual st f fd) (S : FnScope N ps (defScope st)) (len : ∀ vs H Q E, sp vs H Q E → vs.length = ps.length)
    (hbody : ∀ (cdv : Value) (A : Around) (outer : List Env) (s : Shared) (H : Hp) (vs : List V) (Q : VK) (E : XK), Room k (A.deeper (envOfC qual (defScope st) s.heap.objs.size f cdv)) → sp vs H Q E →
      ∃ t, PSs (cxOf (L2.CX P w) P w K mg base N qual (defScope st) f cdv A outer s H E) (defBody st) t ∧ t { nx := fun _ H' => Q .non H', rt := Q } (start N vs) H) : FnOk P w K mg base (L2.CX P w) (k + 1) f fd ps sp :=
  F.okX S len hbody
theorem fnR_of {f : Addr} {fd : FuncData} {ps : List Str} {k : Nat} {sp : Sp} (F : FnOk P w K mg base (L2.CX P w) k f fd ps sp) (b : Binds K fd ps []) : FnR P w K mg base (L2.CX P w) k f sp := by
  have h := F.raw b .nil
  refine h.imp fun vs H Q E q => ?_
  rw [List.append_nil]
  exact q
end
end Z

set_option Elab.async false
set_option linter.all false
set_option maxRecDepth 100000
set_option maxHeartbeats 4000000
/-! in, not in over a list, by an own == -/
namespace Z
open PySem PySem.Spec PyProof.Rows L2
section
open PySem.SeqAt AutoSeq1 MeetsSeq MeetsSeq2 MeetsSeq3 SeqRoads2
variable {prog : Program} {w : World} {A : Around} {R : Result → Shared → Prop}
/-- turn i: the list stands, and == of its i-th item and x says r -/
def LookI (prog : Program) (w : World) (A : Around) (R : Result → Shared → Prop) (l : Addr) (x : Value) (N : Nat) (I : Nat → Shared → Prop) : Prop :=
  ∀ i s, I i s → ∃ (its : Array Value) (n : Nat), s.heap.get? l = some { cls := .type "list", data := .seq its n } ∧ its.size = N ∧
    ∀ h1 : i < its.size, wpAny (model prog w) A.in1 (eqBool its[i] x) (fun r s' => if r = true then R (.ok (.ret (.bool true))) s' else I (i + 1) s') (fun e s' => R (.error e) s') s
theorem lookLoop (l : Addr) (x : Value) (N : Nat) (I : Nat → Shared → Prop) (hl : LookI prog w A R l x N I)
    (fin : ∀ s, I N s → R (.ok (.ret (.bool false))) s) (k : Nat) : ∀ i : Nat, N - i = k → i ≤ N → ∀ s, I i s →
      wpAny (model prog w) A.in1 (Builtin.«list.__contains__.loop» ⟨[.ref l, x, rawInt i], []⟩) (GQ.FinOf prog w A R) (fun e s' => R (.error e) s') s := by
  induction k with
  | zero =>
    intro i hk hi s h
    obtain ⟨its, n, e1, e2, _⟩ := hl _ _ h
    have hN : i = N := by omega
    have last : R (.ok (.ret (.bool false))) s := fin s (hN ▸ h)
    obtain ⟨hp, g, d, tk, os⟩ := s
    wp_walk using wpAny_loadPart' e1
    have out : its[((i : Nat) : Int).toNat]? = none := by simp; omega
    rw [out]
    wp_walk
    exact last
  | succ k ih =>
    intro i hk hi s h
    obtain ⟨its, n, e1, e2, turn⟩ := hl _ _ h
    have lt : i < its.size := by omega
    have one := turn lt
    obtain ⟨hp, g, d, tk, os⟩ := s
    wp_walk using wpAny_loadPart' e1
    have at_ : its[((i : Nat) : Int).toNat]? = some its[i] := by simp [lt]
    have nx : ((i : Int) + 1) = ((i + 1 : Nat) : Int) := by omega
    rw [at_]
    refine wpAny_bind (wpAny_mono one (fun r s2 q => ?_) fun _ _ z => z)
    cases r with
    | true =>
      rw [if_pos rfl] at q
      wp_walk
      exact q
    | false =>
      rw [if_neg Bool.false_ne_true] at q
      have rec_ := ih (i + 1) (by omega) (by omega) s2 q
      obtain ⟨hp2, g2, d2, tk2, os2⟩ := s2
      wp_walk
      rw [nx]
      refine ⟨plainId_quiet plain_contains_loop _, codeAny_builtin entry_contains_loop ?_⟩
      rw [Around.under_plainId plain_contains_loop _]
      exact rec_
theorem lookList {E : Value → Shared → Prop} {s : Shared} {Q : Value → Shared → Prop} (l : Addr) (x : Value) (N : Nat) (I : Nat → Shared → Prop) (hl : LookI prog w A (wants Q E) l x N I)
    (fin : ∀ s, I N s → Q (.bool false) s) (h : I 0 s) : wpAny (model prog w) A (call (.builtin "list.__contains__") [.ref l, x]) Q E s := by
  obtain ⟨its, n, e1, e2, _⟩ := hl _ _ h
  refine GQ.call_here F.slot_list_contains ⟨_, e1, rfl⟩ F.entry_list_contains (F.args_list_contains_2 _ _) ?_
  have go := lookLoop (A := A) (R := wants Q E) l x N I hl (fun s q => fin s q) _ 0 rfl (Nat.zero_le _) s h
  obtain ⟨hp, g, d, tk, os⟩ := s
  wp_walk using wpAny_loadPart' e1
  refine ⟨plainId_quiet plain_contains_loop _, codeAny_builtin entry_contains_loop ?_⟩
  rw [Around.under_plainId plain_contains_loop _]
  exact go
end
section
variable {X : Cx} {k : Nat} {C : Addr} {sp : Sp}
/-- what == of two instances says here: some bool, and the objects stand -/
def EqSome (C : Addr) (sp : Sp) (H : Hp) (y x : V) : Prop := ∀ H', Same H H' → ∃ a dx fs b dy gs, y = .ref a ∧ x = .ref b ∧ H' a = some (.ins C dx fs) ∧ H' b = some (.ins C dy gs) ∧
  sp [y, x] H' (fun v H2 => (∃ r, v = .bl r) ∧ Same H' H2) (fun _ _ _ => False)
/-- x in xs, where x itself stands in xs -/
def rInO (C : Addr) (sp : Sp) (b : Bool) : R2 := fun x y H Q => ∃ p xs, y = .ref p ∧ H p = some (.lst xs) ∧ x ∈ xs ∧ (∀ z ∈ xs, EqSome C sp H z x) ∧ ∀ H', Same H H' → Q (.bl b) H'
theorem inO_run (c : CalO X.prog X.w X.K X.mg X.base C "__eq__" k sp) (hr : Room (k + 2) X.A) {pins : List (Addr × Obj)} {s : Shared} {σ : L2.St} {H : Hp} {x : V} {u : Value} {p : Addr} {xs : List V} (I : Inv X pins σ H s)
    (rx : RelV x u) (hp : H p = some (.lst xs)) (hx : x ∈ xs) (hz : ∀ z ∈ xs, EqSome C sp H z x) :
    wpAny (model X.prog X.w) X.A (call (.builtin "list.__contains__") [.ref p, u]) (fun v s' => v = .bool true ∧ ∃ H', Inv X pins σ H' s' ∧ Same H H') X.xe s := by
  obtain ⟨f, S, sf, F⟩ := c
  have hr1 : Room k X.A.in1 := hr.in1.mono (Nat.le_succ k)
  obtain ⟨j, hj⟩ := List.mem_iff_getElem?.mp hx
  refine lookList p u xs.length (fun i s' => (∃ H', Inv X pins σ H' s' ∧ Same H H') ∧ i ≤ j) (fun i s' hi => ?_) (fun s' hi => ?_) ⟨⟨H, I, Same.refl H⟩, Nat.zero_le _⟩
  · obtain ⟨⟨H', I', sm⟩, ij⟩ := hi
    obtain ⟨_, its, n, rv, e⟩ := (show ObjOk X.prog X.w H' s'.heap p (.lst xs) from I'.hok p _ (sm _ _ hp))
    refine ⟨its.toArray, n, e, by rw [List.size_toArray, ← rv.length], fun h1 => ?_⟩
    have h1' : i < xs.length := by rw [rv.length]; simpa using h1
    obtain ⟨v, hv, rz⟩ := rv.get (List.getElem?_eq_getElem h1')
    have ev : its.toArray[i] = v := by
      have h2 : i < its.length := by simpa using h1
      rw [List.getElem?_eq_getElem h2] at hv
      simpa using Option.some.inj hv
    rw [ev]
    obtain ⟨a, dx, fs, b, dy, gs, ey, ex, ha, hb, hsp⟩ := hz _ (List.getElem_mem h1') H' sm
    rw [ey] at rz
    subst ex
    obtain rfl : v = Value.ref a := rz
    obtain rfl : u = Value.ref b := rx
    by_cases hab : a = b
    · subst hab
      exact SeqAt.EqAt.same (A := X.A.in1) (s := s') (.ref a) X.prog X.w _ _ (by
        rw [if_pos rfl]
        exact ⟨rfl, H', I', sm⟩)
    · have ij' : i ≠ j := by
        rintro rfl
        rw [List.getElem?_eq_getElem h1', ey] at hj
        cases hj
        exact hab rfl
      refine GQ.eqBool_refG hab ?_
      obtain ⟨ox, od, Ja⟩ := instAt I' ha
      obtain ⟨oy, oe, Jb⟩ := instAt I' hb
      obtain ⟨m, fr⟩ := I'.fr
      apply PySem.W.cmp_K (op := .Eq) (tb := .ref C) hr1.units0 fr I'.ok.mod.kin Ja Jb.type (by simp [PySem.W.notFirst]) S.at_ S.fn
      refine wpAny_call (codeAny_mono (F X.A.in1 X.stack s' H' [.ref a, .ref b] [.ref a, .ref b] _ (fun _ _ _ => False) hr1 I'.env0.in1 (.cons rfl (.cons rfl .nil)) (by rw [ey] at hsp; exact hsp)) fun q s2 hq => ?_)
      rcases q with e | fl
      · exact (cxN hq).elim
      rcases fl with _ | _ | _ | u'
      · exact False.elim hq
      · exact False.elim hq
      · exact False.elim hq
      obtain ⟨v', H2, I2, rv', ⟨r, er⟩, sm2⟩ := I'.after hq
      subst er
      obtain rfl : u' = Value.bool r := rv'
      refine ⟨r, rfl, ?_⟩
      cases r with
      | true => exact ⟨rfl, H2, I2, sm.trans sm2⟩
      | false => exact ⟨⟨H2, I2, sm.trans sm2⟩, by omega⟩
  · have := (List.getElem?_eq_some_iff.mp hj).1
    omega
theorem z_inO (c : CalO X.prog X.w X.K X.mg X.base C "__eq__" k sp) {j : Nat} (hr : Room j X.A) (hj : k + 2 ≤ j := by decide) : OpR X (compareOp .In) (rInO C sp true) := by
  intro pins s σ H x y v u Q I rx ry h
  obtain ⟨p, xs, rfl, hp, hx, hz, q⟩ := h
  obtain rfl : u = Value.ref p := ry
  obtain ⟨_, its, n, _, e⟩ := (show ObjOk X.prog X.w H s.heap p (.lst xs) from I.hok p _ hp)
  show wpAny _ X.A (do return Value.bool (← contains (.ref p) v)) _ _ s
  refine wpAny_bind (wpAny_contains_slot ⟨_, e, rfl⟩ F.slot_list_contains (wpAny_mono (inO_run c (hr.mono hj) I rx hp hx hz) (fun r s' hv => ?_) fun _ _ z => z))
  obtain ⟨rfl, H', I', sm⟩ := hv
  exact wpAny_truthy_bool (wpAny_pure ⟨.bl true, H', I', rfl, q H' sm⟩)
theorem z_notInO (c : CalO X.prog X.w X.K X.mg X.base C "__eq__" k sp) {j : Nat} (hr : Room j X.A) (hj : k + 2 ≤ j := by decide) : OpR X (compareOp .NotIn) (rInO C sp false) := by
  intro pins s σ H x y v u Q I rx ry h
  obtain ⟨p, xs, rfl, hp, hx, hz, q⟩ := h
  obtain rfl : u = Value.ref p := ry
  obtain ⟨_, its, n, _, e⟩ := (show ObjOk X.prog X.w H s.heap p (.lst xs) from I.hok p _ hp)
  show wpAny _ X.A (do return Value.bool (!(← contains (.ref p) v))) _ _ s
  refine wpAny_bind (wpAny_contains_slot ⟨_, e, rfl⟩ F.slot_list_contains (wpAny_mono (inO_run c (hr.mono hj) I rx hp hx hz) (fun r s' hv => ?_) fun _ _ z => z))
  obtain ⟨rfl, H', I', sm⟩ := hv
  exact wpAny_truthy_bool (wpAny_pure ⟨.bl false, H', I', rfl, q H' sm⟩)
/-- xs != ys, two lists of the very same objects -/
def rNeL : R2 := fun x y H Q => ∃ a b xs, x = .ref a ∧ y = .ref b ∧ H a = some (.lst xs) ∧ H b = some (.lst xs) ∧ (∀ z ∈ xs, ∃ p, z = .ref p) ∧ Q (.bl false) H
theorem z_neL (hu : X.A.units < cLine) : OpR X (compareOp .NotEq) rNeL := by
  intro pins s σ H x y v u Q I rx ry h
  obtain ⟨a, b, xs, rfl, rfl, ha, hb, hz, q⟩ := h
  obtain rfl : v = Value.ref a := rx
  obtain rfl : u = Value.ref b := ry
  obtain ⟨_, its, n, rv, e⟩ := (show ObjOk X.prog X.w H s.heap a (.lst xs) from I.hok a _ ha)
  obtain ⟨_, its2, n2, rv2, e2⟩ := (show ObjOk X.prog X.w H s.heap b (.lst xs) from I.hok b _ hb)
  have same : ∀ {zs : List V} {us vs : List Value}, (∀ z ∈ zs, ∃ p, z = .ref p) → Vals zs us → Vals zs vs → us = vs := by
    intro zs
    induction zs with
    | nil =>
      intro us vs _ r1 r2
      cases r1; cases r2; rfl
    | cons z zs ih =>
      intro us vs hz r1 r2
      cases r1 with
      | cons a1 t1 =>
        cases r2 with
        | cons a2 t2 =>
          obtain ⟨p, ep⟩ := hz z (by simp)
          subst ep
          cases a1; cases a2
          rw [ih (fun z h => hz z (by simp [h])) t1 t2]
  obtain rfl := same hz rv rv2
  show wpAny _ X.A (richCompare .NotEq _ _) _ _ s
  refine SeqAt.RcNeAt.lists (e := fun _ => true) ⟨_, e, rfl, n, rfl⟩ ⟨_, e2, rfl, n2, rfl⟩ rfl hu (fun j h1 h2 => SeqAt.EqAt.same _) X.prog X.w _ _ ?_
  refine ⟨.bl false, H, I, ?_, q⟩
  have : (List.range its.toArray.size).all (fun _ => true) = true := by simp
  rw [this]
  rfl
end
end Z

set_option Elab.async false
set_option linter.all false
set_option maxRecDepth 100000
set_option maxHeartbeats 4000000
/-! ratios: what stands for them, and what their defs promise -/
namespace Z
open PySem PySem.Spec PyProof.Rows L2
/-- an own class whose instances are asked by isinstance -/
structure ClO (K : PySem.W.Frag) (C : Addr) : Prop extends Cls K C where
  ha : PySem.W.findIn K (.ref C) "__class__" = some (some (.builtin "object.__class__"))
  hn : PySem.W.specialIn K (.builtin "object.__class__") "__get__" = some (some (.builtin "getset_descriptor.__get__"))
  htk : PySem.W.takesIn K (.builtin "object.__class__") = some true
  hm : PySem.W.mroIn K C (.type "object") = some true
theorem ClO.ty {K : PySem.W.Frag} {C a dx : Addr} {H : Hp} {fs : List (Str × V)} (c : ClO K C) (e : H a = some (.ins C dx fs)) : TyX K H (.ref a) (.ref C) := .base (.ins e c.toCls c.ha c.hn c.htk c.hm)
theorem Same.at {H H' : Hp} {a : Addr} {o : HO} (s : Same H H') (e : H a = some o) : H' a = some o := s a o e
theorem Same.of_ne {H H' : Hp} {p : Addr} (hp : H p = none) (h : ∀ b, b ≠ p → H' b = H b) : Same H H' := fun b o e => (h b (ne_of_none e hp)).trans e

/-! ### an error with one attribute, made and raised -/
def rMkO (C : Addr) (sp : Sp) (vs : List V) (H1 : Hp) (Q : XK) : Prop := vs.length ≤ 1000 ∧ ∀ a, H1 a = none → sp (.ref a :: (vs ++ [])) (upd H1 a (exo a C none))
  (fun v H2 => v = .non ∧ ∃ (d : Addr) (fs : List (Str × V)), H2 a = some (exo a C (some d)) ∧ H2 d = some (exd d fs) ∧ H1 d = none ∧ Q (.ref C) (some d) (upd (del H2 a) d (.xd fs))) (fun _ _ _ => False)
theorem i_mkO {C : Addr} {sp : Sp} {ta : TA} {σ : L2.St} {H : Hp} {Q : XK} (h : ta σ H (fun vs H1 => rMkO C sp vs H1 Q)) : tMkO C sp [] ta σ H Q := h
/-- __init__ keeps the one argument under the name f -/
def spX1 (K : PySem.W.Frag) (C : Addr) (f : Str) (G : V → Hp → Prop) : Sp := fun vs H Q _ => vs.length = 2 ∧ ∃ a v, vs = [.ref a, v] ∧ H a = some (exo a C none) ∧ G v H ∧
  ∀ dx H1, H dx = none → dx ≠ a → Same H H1 → H1 dx = none → Q .non (upd (upd H1 dx (exd dx [(f, v)])) a (exo a C (some dx)))
theorem i_mkX1 {K : PySem.W.Frag} {C : Addr} {f : Str} {G : V → Hp → Prop} {v : V} {H : Hp} {Q : XK} (g : ∀ H', Same H H' → G v H') (h : ∀ d H', H d = none → Same H H' → H' d = some (.xd [(f, v)]) → Q (.ref C) (some d) H') :
    rMkO C (spX1 K C f G) [v] H Q := by
  refine ⟨by show 1 ≤ 1000; decide, fun a ha => ?_⟩
  have s0 : Same H (upd H a (exo a C none)) := fun b o e => by rw [upd_ne (ne_of_none e ha)]; exact e
  refine ⟨rfl, a, v, rfl, upd_same, g _ s0, fun dx H1 hd hne sm hd1 => ?_⟩
  have hdH : H dx = none := by rw [upd_ne hne] at hd; exact hd
  refine ⟨rfl, dx, [(f, v)], upd_same, by rw [upd_ne hne, upd_same], hdH, h dx _ hdH (fun b o e => ?_) upd_same⟩
  have nb : b ≠ dx := ne_of_none e hdH
  have na : b ≠ a := ne_of_none e ha
  rw [upd_ne nb, del_ne na, upd_ne na, upd_ne nb]
  exact sm b o (s0 b o e)

/-! ### f-strings, by parts -/
def rFmt (x : V) (H1 : Hp) (Q : VK) : Prop := (∃ y : Str, x = .str y ∧ y.length ≤ sizeLine ∧ Q (.str y) H1) ∨ ∃ i : Int, x = .int i ∧ i.natAbs.log2 < 1920 ∧ Q (.str (toString i)) H1
theorem i_fmt {te : TE} {σ : L2.St} {H : Hp} {Q : VK} (h : te σ H (fun x H1 => rFmt x H1 Q)) : tFmt te σ H Q := h
theorem i_fmtS {y : Str} {H : Hp} {Q : VK} (l : y.length ≤ sizeLine) (h : Q (.str y) H) : rFmt (.str y) H Q := .inl ⟨y, rfl, l, h⟩

/-! ### ratios -/
def rf (q : Rat) : List (Str × V) := [("top", .int q.num), ("bottom", .int (q.den : Int))]
def IsR (CR : Addr) (H : Hp) (a : Addr) (q : Rat) : Prop := ∃ dx, H a = some (.ins CR dx (rf q))
theorem IsR.mono {CR a : Addr} {H H' : Hp} {q : Rat} (s : Same H H') (h : IsR CR H a q) : IsR CR H' a q := let ⟨dx, e⟩ := h; ⟨dx, s _ _ e⟩
theorem rf_top (q : Rat) : (rf q).lookup ("top" : Str) = some (V.int q.num) := by unfold rf; simp [List.lookup]
theorem rf_bot (q : Rat) : (rf q).lookup ("bottom" : Str) = some (V.int (q.den : Int)) := by
  have h : (("bottom" : Str) == "top") = false := by decide +kernel
  unfold rf
  simp [List.lookup, h]
theorem rf_no {m : Str} (q : Rat) (h1 : (m == ("top" : Str)) = false) (h2 : (m == ("bottom" : Str)) = false) : (rf q).lookup m = none := by
  unfold rf
  simp [List.lookup, h1, h2]
theorem rf_put1 (v : V) : putF "top" v [] = [(("top" : Str), v)] := rfl
theorem rf_put2 (v u : V) : putF "bottom" v [(("top" : Str), u)] = [(("top" : Str), u), (("bottom" : Str), v)] := by
  show (if ("top" : Str) = "bottom" then _ else (("top" : Str), u) :: putF "bottom" v []) = _
  rw [if_neg (by decide +kernel)]
  rfl
theorem i_top {K : PySem.W.Frag} {CR a : Addr} {H : Hp} {q : Rat} {Q : VK} (h : IsR CR H a q) (c : ClO K CR) (n : NoAttr K CR "top") (k : Q (.int q.num) H) : rFld K "top" (.ref a) H Q :=
  let ⟨_, e⟩ := h; i_fld1 e c.toCls n (rf_top q) k
theorem i_bot {K : PySem.W.Frag} {CR a : Addr} {H : Hp} {q : Rat} {Q : VK} (h : IsR CR H a q) (c : ClO K CR) (n : NoAttr K CR "bottom") (k : Q (.int (q.den : Int)) H) : rFld K "bottom" (.ref a) H Q :=
  let ⟨_, e⟩ := h; i_fld1 e c.toCls n (rf_bot q) k

/-- the error of a bottom 0 -/
def EBad (CB : Addr) (n : Int) (H : Hp) (E : XK) : Prop := ∀ d H', Same H H' → H' d = some (.xd [("n", .int n)]) → E (.ref CB) (some d) H'
def spRInit (CR CB : Addr) : Sp := fun vs H Q E => vs.length = 3 ∧ ∃ a t b, vs = [.ref a, .int t, .int b] ∧ (∃ dx, H a = some (.ins CR dx [])) ∧ (b = 0 ∨ ZR.Sz 8000 b) ∧
  (b = 0 → EBad CB 0 H E) ∧ (b ≠ 0 → ∀ H', IsR CR H' a ((t : Rat) / (b : Rat)) → (∀ x, x ≠ a → H' x = H x) → Q .non H')
/-- Ratio(t, b) with b other than 0 -/
theorem i_newR {CR CB : Addr} {t b : Int} {H : Hp} {Q : VK} {E : XK} (hb : b ≠ 0) (hz : ZR.Sz 8000 b) (h : ∀ p H', H p = none → Same H H' → IsR CR H' p ((t : Rat) / (b : Rat)) → Q (.ref p) H') :
    rNew CR (spRInit CR CB) [.int t, .int b] H Q E := by
  intro x dx hx hdx hne
  refine ⟨rfl, x, t, b, rfl, ⟨dx, upd_same⟩, .inr hz, fun h0 => absurd h0 hb, fun _ H' hr hs => ⟨rfl, h x H' hx (fun c o e => ?_) hr⟩⟩
  have n1 : c ≠ x := ne_of_none e hx
  rw [hs c n1, upd_ne n1, upd_ne (ne_of_none e hdx)]
  exact e
/-- Ratio(t, 0) -/
theorem i_newR0 {CR CB : Addr} {t : Int} {H : Hp} {Q : VK} {E : XK} (h : EBad CB 0 H E) : rNew CR (spRInit CR CB) [.int t, .int 0] H Q E := by
  intro x dx hx hdx hne
  refine ⟨rfl, x, t, 0, rfl, ⟨dx, upd_same⟩, .inl rfl, fun _ d H' s e => h d H' (fun c o e => s c o ?_) e, fun h0 => absurd rfl h0⟩
  rw [upd_ne (ne_of_none e hx), upd_ne (ne_of_none e hdx)]
  exact e
/-- a def of two ratios that hands back a new one -/
def spR2 (CR : Addr) (f : Rat → Rat → Rat) : Sp := fun vs H Q _ => vs.length = 2 ∧ ∃ a b p q, vs = [.ref a, .ref b] ∧ IsR CR H a p ∧ IsR CR H b q ∧ ZR.Bd 2000 p ∧ ZR.Bd 2000 q ∧
  ∀ c H', H c = none → Same H H' → IsR CR H' c (f p q) → Q (.ref c) H'
def spR1 (CR : Addr) (f : Rat → Rat) : Sp := fun vs H Q _ => vs.length = 1 ∧ ∃ a p, vs = [.ref a] ∧ IsR CR H a p ∧ ZR.Bd 2000 p ∧
  ∀ c H', H c = none → Same H H' → IsR CR H' c (f p) → Q (.ref c) H'
/-- the other side of ==: another ratio, or no ratio -/
def spREq (K : PySem.W.Frag) (CR : Addr) : Sp := fun vs H Q _ => vs.length = 2 ∧ ∃ a p y, vs = [.ref a, y] ∧ IsR CR H a p ∧
  ((∃ b q, y = .ref b ∧ IsR CR H b q ∧ ∀ H', Same H H' → Q (.bl (decide (p = q))) H') ∨
   (∃ t, TyX K H y t ∧ PySem.W.kitOne K t (.ref CR) = some false ∧ ∀ H', Same H H' → Q (.bl false) H'))
def spRBool (CR : Addr) : Sp := fun vs H Q _ => vs.length = 1 ∧ ∃ a p, vs = [.ref a] ∧ IsR CR H a p ∧ ∀ H', Same H H' → Q (.bl (decide (p ≠ 0))) H'
def spRUnder (CR : Addr) : Sp := fun vs H Q _ => vs.length = 2 ∧ ∃ a b p q, vs = [.ref a, .ref b] ∧ IsR CR H a p ∧ IsR CR H b q ∧ ZR.Bd 2000 p ∧ ZR.Bd 2000 q ∧
  ∀ H', Same H H' → Q (.bl (decide (p < q))) H'
def spRQuot (CR CB : Addr) : Sp := fun vs H Q E => vs.length = 2 ∧ ∃ a b p q, vs = [.ref a, .ref b] ∧ IsR CR H a p ∧ IsR CR H b q ∧ ZR.Bd 2000 p ∧ ZR.Bd 2000 q ∧
  (q = 0 → EBad CB 0 H E) ∧ (q ≠ 0 → ∀ c H', H c = none → Same H H' → IsR CR H' c (p / q) → Q (.ref c) H')
def spRWhole (CR : Addr) : Sp := fun vs H Q _ => vs.length = 2 ∧ ∃ n, vs = [.ref CR, .int n] ∧ ∀ c H', H c = none → Same H H' → IsR CR H' c (n : Rat) → Q (.ref c) H'
theorem bd0 {n : Nat} (h : n ≠ 0) : ZR.Bd n 0 := ⟨Nat.two_pow_pos n, Nat.one_lt_two_pow h⟩
section
variable {K : PySem.W.Frag} {CR CB a b : Addr} {p q : Rat} {H : Hp} {Q : VK} {E : XK} {f : Rat → Rat → Rat} {f1 : Rat → Rat}
theorem i_R2 (ha : IsR CR H a p) (hb : IsR CR H b q) (bp : ZR.Bd 2000 p) (bq : ZR.Bd 2000 q) (h : ∀ c H', H c = none → Same H H' → IsR CR H' c (f p q) → Q (.ref c) H') : rOwn CR (spR2 CR f) (.ref a) (.ref b) H Q := by
  obtain ⟨dx, e1⟩ := id ha
  obtain ⟨dy, e2⟩ := id hb
  exact ⟨a, b, dx, dy, _, _, rfl, rfl, e1, e2, rfl, a, b, p, q, rfl, ha, hb, bp, bq, h⟩
theorem i_R1 (ha : IsR CR H a p) (bp : ZR.Bd 2000 p) (h : ∀ c H', H c = none → Same H H' → IsR CR H' c (f1 p) → Q (.ref c) H') : rOwn1 CR (spR1 CR f1) (.ref a) H Q := by
  obtain ⟨dx, e1⟩ := id ha
  exact ⟨a, dx, _, rfl, e1, rfl, a, p, rfl, ha, bp, h⟩
theorem self_first : PySem.W.notFirst K CR (.ref CR) = true := by simp [PySem.W.notFirst]
theorem i_Req (ha : IsR CR H a p) (hb : IsR CR H b q) (h : ∀ H', Same H H' → Q (.bl (decide (p = q))) H') : rOwnC K CR (spREq K CR) (.ref a) (.ref b) H Q := by
  obtain ⟨dx, e1⟩ := id ha
  obtain ⟨dy, e2⟩ := id hb
  exact ⟨a, dx, _, _, rfl, e1, .ins e2, self_first, rfl, a, p, _, rfl, ha, .inl ⟨b, q, rfl, hb, h⟩⟩
theorem i_Rne (ha : IsR CR H a p) (hb : IsR CR H b q) (h : ∀ H', Same H H' → Q (.bl (!decide (p = q))) H') : rOwnN K CR (spREq K CR) (.ref a) (.ref b) H Q := by
  obtain ⟨dx, e1⟩ := id ha
  obtain ⟨dy, e2⟩ := id hb
  exact ⟨a, dx, _, _, rfl, e1, .ins e2, self_first, rfl, a, p, _, rfl, ha, .inl ⟨b, q, rfl, hb, fun H' s => ⟨_, rfl, h H' s⟩⟩⟩
theorem i_ReqI {i : Int} (ha : IsR CR H a p) (hk : PySem.W.kitOne K (.type "int") (.ref CR) = some false) (hn : PySem.W.notFirst K CR (.type "int") = true) (h : ∀ H', Same H H' → Q (.bl false) H') : rOwnC K CR (spREq K CR) (.ref a) (.int i) H Q := by
  obtain ⟨dx, e1⟩ := id ha
  exact ⟨a, dx, _, _, rfl, e1, .int i, hn, rfl, a, p, _, rfl, ha, .inr ⟨_, .base (.int i), hk, h⟩⟩
theorem i_ReqS {z : Str} (ha : IsR CR H a p) (hk : PySem.W.kitOne K (.type "str") (.ref CR) = some false) (hn : PySem.W.notFirst K CR (.type "str") = true) (h : ∀ H', Same H H' → Q (.bl false) H') : rOwnC K CR (spREq K CR) (.ref a) (.str z) H Q := by
  obtain ⟨dx, e1⟩ := id ha
  exact ⟨a, dx, _, _, rfl, e1, .str z, hn, rfl, a, p, _, rfl, ha, .inr ⟨_, .base (.str z), hk, h⟩⟩
theorem i_Rbool (ha : IsR CR H a p) (h : ∀ H', Same H H' → Q (.bl (decide (p ≠ 0))) H') : rBoolOwn CR (spRBool CR) [.ref a] H Q := by
  obtain ⟨dx, e1⟩ := id ha
  exact ⟨a, dx, _, rfl, e1, rfl, a, p, rfl, ha, fun H' s => ⟨_, rfl, h H' s⟩⟩
theorem i_under0 {P : Prop} (ha : IsR CR H a p) (h : P) : rMeth CR "under" (.ref a) H P := let ⟨_, e⟩ := ha; i_meth1 e (rf_no p (by decide +kernel) (by decide +kernel)) h
theorem i_quot0 {P : Prop} (ha : IsR CR H a p) (h : P) : rMeth CR "quotient" (.ref a) H P := let ⟨_, e⟩ := ha; i_meth1 e (rf_no p (by decide +kernel) (by decide +kernel)) h
theorem i_under (ha : IsR CR H a p) (hb : IsR CR H b q) (bp : ZR.Bd 2000 p) (bq : ZR.Bd 2000 q) (h : ∀ H', Same H H' → Q (.bl (decide (p < q))) H') : spRUnder CR [.ref a, .ref b] H Q E :=
  ⟨rfl, a, b, p, q, rfl, ha, hb, bp, bq, h⟩
theorem i_quot (ha : IsR CR H a p) (hb : IsR CR H b q) (bp : ZR.Bd 2000 p) (bq : ZR.Bd 2000 q) (h0 : q ≠ 0) (h : ∀ c H', H c = none → Same H H' → IsR CR H' c (p / q) → Q (.ref c) H') : spRQuot CR CB [.ref a, .ref b] H Q E :=
  ⟨rfl, a, b, p, q, rfl, ha, hb, bp, bq, fun z => absurd z h0, fun _ => h⟩
theorem i_quot00 (ha : IsR CR H a p) (hb : IsR CR H b 0) (bp : ZR.Bd 2000 p) (h : EBad CB 0 H E) : spRQuot CR CB [.ref a, .ref b] H Q E :=
  ⟨rfl, a, b, p, 0, rfl, ha, hb, bp, bd0 (by decide), fun _ => h, fun z => absurd rfl z⟩
theorem i_whole {n : Int} (h : ∀ c H', H c = none → Same H H' → IsR CR H' c (n : Rat) → Q (.ref c) H') : spRWhole CR [.ref CR, .int n] H Q E := ⟨rfl, n, rfl, h⟩
end
/-! ### the law's own helpers -/
def Pool (H : Hp) (p : Addr) : Prop := ∃ (c k : Int) (f : Bool), H p = some (.lst [V.int c, V.int k, V.bl f])
def spPool : Sp := fun vs H Q _ => vs.length = 1 ∧ ∃ c, vs = [.int c] ∧ ∀ p H', H p = none → Same H H' → (∀ b, b ≠ p → H' b = H b) → Pool H' p → Q (.ref p) H'
def spTake : Sp := fun vs H Q _ => vs.length = 2 ∧ ∃ p l, vs = [.ref p, .int l] ∧ Pool H p ∧ 0 < l ∧ ZR.Sz 8000 l ∧ ∀ r H', 0 ≤ r → r < l → (∀ b, b ≠ p → H' b = H b) → Pool H' p → Q (.int r) H'
def spCell (K : PySem.W.Frag) : Sp := fun vs H Q _ => vs.length = 2 ∧ ∃ (a : Addr) (ns : List Int) (k : Nat), vs = [.ref a, .int k] ∧ SqL K H a (ns.map V.int) ∧ ∀ i, Q (.int i) H
section
variable {K : PySem.W.Frag} {p a : Addr} {H : Hp} {Q : VK} {E : XK}
theorem i_pool {c : Int} (h : ∀ p H', H p = none → Same H H' → (∀ b, b ≠ p → H' b = H b) → Pool H' p → Q (.ref p) H') : spPool [.int c] H Q E := ⟨rfl, c, rfl, h⟩
theorem i_take {l : Int} (hp : Pool H p) (h0 : 0 < l) (hz : ZR.Sz 8000 l) (h : ∀ r H', 0 ≤ r → r < l → (∀ b, b ≠ p → H' b = H b) → Pool H' p → Q (.int r) H') : spTake [.ref p, .int l] H Q E := ⟨rfl, p, l, rfl, hp, h0, hz, h⟩
theorem i_cell {ns : List Int} {k : Nat} (hs : SqL K H a (ns.map V.int)) (h : ∀ i, Q (.int i) H) : spCell K [.ref a, .int k] H Q E := ⟨rfl, a, ns, k, rfl, hs, h⟩
end
/-! ### lists of ints compared -/
theorem dp_ints {K : PySem.W.Frag} {H : Hp} : ∀ ns : List Int, DpAll K H (ns.map V.int) (ns.map PyData.int)
  | [] => .nil
  | n :: ns => .cons (.int n) (dp_ints ns)
theorem eqv_ints : ∀ ns ms : List Int, PyData.eqvAll (ns.map PyData.int) (ms.map PyData.int) = decide (ns = ms)
  | [], [] => rfl
  | [], _ :: _ => rfl
  | _ :: _, [] => rfl
  | n :: ns, m :: ms => by
    show (PyData.eqv (.int n) (.int m) && PyData.eqvAll _ _) = _
    rw [eqv_ints ns ms]
    show ((n == m) && _) = _
    by_cases h1 : n = m <;> by_cases h2 : ns = ms <;> simp [h1, h2]
theorem lay_ints : ∀ ns : List Int, PyData.canLayAll0 (ns.map PyData.int) = true
  | [] => rfl
  | n :: ns => by
    show (PyData.canLay0 (.int n) && PyData.canLayAll0 _) = true
    rw [lay_ints ns]
    rfl
end Z

set_option Elab.async false
set_option linter.all false
set_option maxRecDepth 100000
set_option maxHeartbeats 4000000
/-! more readings -/
namespace Z
open PySem PySem.Spec PyProof.Rows L2
section
variable {X : Cx} {K : PySem.W.Frag} {σ σ' : L2.St} {H H1 : Hp} {D : Ends} {t u : TS} {te ta tb tc to : TE} {tt tu : TT} {tr : TA} {g : TG} {gs : TGs} {Q : VK} {QB : Bool → Hp → Prop} {QA : List V → Hp → Prop} {QS : L2.St → Hp → Prop} {QH : Hp → Prop} {v w x y : V} {i j : Nat} {A B : Prop} {b : Bool}
theorem i_isiT {tv : Value} {s : String} (ty : TyX K H x tv) (hk : PySem.W.kitOne K tv (.type s) = some b) (h : Q (.bl b) H) : rIsi K [x, .ty s] H Q := ⟨x, _, tv, _, b, rfl, .ty s, ty, hk, h⟩
theorem i_isiO {tv : Value} {C : Addr} (ty : TyX K H x tv) (hk : PySem.W.kitOne K tv (.ref C) = some b) (h : Q (.bl b) H) : rIsi K [x, .ref C] H Q := ⟨x, _, tv, _, b, rfl, .own C, ty, hk, h⟩
theorem tyInt (n : Int) : TyX K H (.int n) (.type "int") := .base (.int n)
theorem tyStr (z : Str) : TyX K H (.str z) (.type "str") := .base (.str z)
def rBits (x : V) (H1 : Hp) (Q : VK) : Prop := ∃ i : Int, x = .int i ∧ Q (.int (Builtin.Int.intBits i : Nat)) H1
theorem i_bits {n : Int} (h : Q (.int (Builtin.Int.intBits n : Nat)) H) : rBits (.int n) H Q := ⟨n, rfl, h⟩
theorem i_bits0 (h : to σ H (fun x H1 => rBits x H1 Q)) : tBits to σ H Q := h
theorem i_jsC {ts : List TE} {acc : Str} {QJ : Str → Hp → Prop} (h : te σ H (fun x H1 => ∃ y : Str, x = .str y ∧ (acc ++ y).length ≤ sizeLine ∧ tJs ts (acc ++ y) σ H1 QJ)) : tJs (te :: ts) acc σ H QJ := h
theorem i_jsN {acc : Str} {QJ : Str → Hp → Prop} (h : QJ acc H) : tJs [] acc σ H QJ := h
theorem Same_seqT {H H' : Hp} {a : Addr} {xs : List V} (e : Same H H') (h : SqT K H a xs) : SqT K H' a xs := by
  rcases h with (h | ⟨o, h⟩) | h
  · exact .inl (.inl (e _ _ h))
  · exact .inl (.inr ⟨o, e _ _ h⟩)
  · exact .inr h
/-! loops -/
def rFor (it : It) (g : TG) (tb : TS) (D : Ends) (σ : L2.St) (H1 : Hp) : Prop := ∃ W : Nat → Nat → L2.St → Hp → Prop, (∃ m, W 0 m σ H1) ∧ ∀ i m σ H, W i m σ H →
  (it.stop i H ∧ D.nx σ H) ∨ (it.go i H ∧ ∃ N : L2.St → Hp → Prop, (∀ σ' H', N σ' H' → ∃ m', m' < m ∧ W (i + 1) m' σ' H') ∧ ∀ x H', it.yld i H x H' → g x σ H' fun σ2 H2 => tb { D with nx := N, ct := N, bk := D.nx } σ2 H2)
def rForL (K : PySem.W.Frag) (g : TG) (tb : TS) (D : Ends) (σ : L2.St) (x : V) (H1 : Hp) : Prop := ∃ a, x = .ref a ∧ (∃ xs, SqL K H1 a xs) ∧ rFor (Itl K a) g tb D σ H1
def rForT (K : PySem.W.Frag) (g : TG) (tb : TS) (D : Ends) (σ : L2.St) (x : V) (H1 : Hp) : Prop := ∃ a, x = .ref a ∧ (∃ xs, SqT K H1 a xs) ∧ rFor (Itt K a) g tb D σ H1
def rForR (g : TG) (tb : TS) (D : Ends) (σ : L2.St) (vs : List V) (H1 : Hp) : Prop := ∃ j : Int, vs = [.int j] ∧ -(2 ^ 62) ≤ j ∧ j < 2 ^ 62 ∧ rFor (Itr 0 j.toNat) g tb D σ H1
theorem i_forL0 {tl : TE} {tb : TS} (h : tl σ H (fun x H1 => rForL K g tb D σ x H1)) : tFor (iList K tl) g tb D σ H := h
theorem i_forT0 {tl : TE} {tb : TS} (h : tl σ H (fun x H1 => rForT K g tb D σ x H1)) : tFor (iTup K tl) g tb D σ H := h
theorem i_forR0 {tb : TS} (h : tr σ H (fun vs H1 => rForR g tb D σ vs H1)) : tFor (iRng1 tr) g tb D σ H := h
theorem i_forL {a : Addr} {xs : List V} {tb : TS} (Pv : Nat → L2.St → Hp → Prop) (s : SqL K H a xs) (h0 : Pv 0 σ H) (hl : ∀ i σ H, i ≤ xs.length → Pv i σ H → SqL K H a xs)
    (hs : ∀ i x σ H, xs[i]? = some x → Pv i σ H → g x σ H fun σ2 H2 => tb { D with nx := Pv (i + 1), ct := Pv (i + 1), bk := D.nx } σ2 H2) (hd : ∀ σ H, Pv xs.length σ H → D.nx σ H) : rForL K g tb D σ (.ref a) H :=
  ⟨a, rfl, ⟨xs, s⟩, for_list Pv h0 hl hs hd⟩
theorem i_forT {a : Addr} {xs : List V} {tb : TS} (Pv : Nat → L2.St → Hp → Prop) (s : SqT K H a xs) (h0 : Pv 0 σ H) (hl : ∀ i σ H, i ≤ xs.length → Pv i σ H → SqT K H a xs)
    (hs : ∀ i x σ H, xs[i]? = some x → Pv i σ H → g x σ H fun σ2 H2 => tb { D with nx := Pv (i + 1), ct := Pv (i + 1), bk := D.nx } σ2 H2) (hd : ∀ σ H, Pv xs.length σ H → D.nx σ H) : rForT K g tb D σ (.ref a) H := by
  refine ⟨a, rfl, ⟨xs, s⟩, fun i m σ H => m = xs.length - i ∧ i ≤ xs.length ∧ Pv i σ H, ⟨xs.length, by simp, Nat.zero_le _, h0⟩, ?_⟩
  rintro i m σ H ⟨rfl, hi, p⟩
  have q := hl i σ H hi p
  by_cases hlt : i < xs.length
  · refine .inr ⟨⟨xs, xs[i], q, by simp [hlt]⟩, Pv (i + 1), fun σ' H' p' => ⟨xs.length - (i + 1), by omega, rfl, hlt, p'⟩, fun x H' y => ?_⟩
    obtain ⟨e, y⟩ := y
    subst e
    exact hs i x σ _ (y xs q) p
  · have e : i = xs.length := by omega
    subst e
    exact .inl ⟨⟨xs, q, Nat.le_refl _⟩, hd σ H p⟩
theorem i_forR {n : Nat} {k : Int} {tb : TS} (hk : k = (n : Int)) (hn : n < 1000000) (Pv : Nat → L2.St → Hp → Prop) (h0 : Pv 0 σ H)
    (hs : ∀ i σ H, i < n → Pv i σ H → g (.int (i : Nat)) σ H fun σ2 H2 => tb { D with nx := Pv (i + 1), ct := Pv (i + 1), bk := D.nx } σ2 H2) (hd : ∀ σ H, Pv n σ H → D.nx σ H) : rForR g tb D σ [.int k] H := by
  refine ⟨k, rfl, by omega, by omega, ?_⟩
  have e : k.toNat = n := by omega
  rw [e]
  refine for_range Pv h0 (fun i σ H hi p => ?_) hd
  rw [Int.zero_add]
  exact hs i σ H hi p
/-! comprehensions over lists -/
def rLcL (K : PySem.W.Frag) (g : TG) (tt : TT) (te : TE) (vs : List Nat) (σ : L2.St) (Q : VK) (x : V) (H1 : Hp) : Prop := ∃ a, x = .ref a ∧ (∃ xs, SqL K H1 a xs) ∧ ∀ D, H1 D = none → ∃ W : Nat → Nat → Hp → Prop, (∃ m, W 0 m (upd H1 D (.lst []))) ∧ ∀ i m H, W i m H →
  ((Itl K a).stop i H ∧ Q (.ref D) H) ∨ ((Itl K a).go i H ∧ ∃ Nx : Hp → Prop, (∀ H', Nx H' → ∃ m', m' < m ∧ W (i + 1) m' H') ∧ ∀ x H', (Itl K a).yld i H x H' → g x (wipe σ vs) H' fun σ2 H2 => wipe σ2 vs = wipe σ vs ∧ tt σ2 H2 fun b H3 =>
    if b = true then te σ2 H3 fun y H4 => ∃ acc, H4 D = some (.lst acc) ∧ acc.length < sizeLine ∧ Nx (upd H4 D (.lst (acc ++ [y]))) else Nx H3)
theorem i_lcL0 {tl : TE} {vs : List Nat} (h : tl σ H (fun x H1 => rLcL K g tt te vs σ Q x H1)) : tLc (iList K tl) g tt te vs σ H Q := h
theorem i_yes (h : QB true H) : tYes σ H QB := h
def LcS (D : Addr) (Pv : Nat → List V → Hp → Prop) (i : Nat) (H : Hp) : Prop := ∃ ys, H D = some (.lst ys) ∧ Pv i ys H
def rLcE (D : Addr) (Pv : Nat → List V → Hp → Prop) (i : Nat) (y : V) (H4 : Hp) : Prop := ∃ acc, H4 D = some (.lst acc) ∧ acc.length < sizeLine ∧ LcS D Pv (i + 1) (upd H4 D (.lst (acc ++ [y])))
theorem i_lcE {D : Addr} {Pv : Nat → List V → Hp → Prop} {ys : List V} (e : H D = some (.lst ys)) (l : ys.length < 100000) (h : ∀ H5, H5 D = some (.lst (ys ++ [y])) → (∀ c, c ≠ D → H5 c = H c) → Pv (i + 1) (ys ++ [y]) H5) : rLcE D Pv i y H :=
  ⟨ys, e, Nat.lt_of_lt_of_le l (by decide), ys ++ [y], upd_same, h _ upd_same (fun c hc => upd_ne hc)⟩
/-- the results so far stand in D (a new list), Pv tells the rest -/
theorem i_lcL {a : Addr} {xs : List V} {vs : List Nat} (Pv : Nat → List V → Hp → Prop) (s : SqL K H a xs) (h0 : ∀ D H', H D = none → Same H H' → H' D = some (.lst []) → (∀ b, b ≠ D → H' b = H b) → Pv 0 [] H')
    (hl : ∀ i ys H, Pv i ys H → SqL K H a xs)
    (hs : ∀ i x D ys H1, H D = none → xs[i]? = some x → H1 D = some (.lst ys) → Pv i ys H1 → g x (wipe σ vs) H1 fun σ2 H2 => wipe σ2 vs = wipe σ vs ∧ tt σ2 H2 fun b H3 => if b = true then te σ2 H3 fun y H4 => rLcE D Pv i y H4 else LcS D Pv (i + 1) H3)
    (hd : ∀ D ys H1, H D = none → H1 D = some (.lst ys) → Pv xs.length ys H1 → Q (.ref D) H1) : rLcL K g tt te vs σ Q (.ref a) H := by
  refine ⟨a, rfl, ⟨xs, s⟩, fun D hD => ?_⟩
  refine lc_list (xs := xs) (LcS D Pv) ?_ ?_ ?_ ?_
  · exact ⟨[], upd_same, h0 D _ hD (fun b o e => by rw [upd_ne (ne_of_none e hD)]; exact e) upd_same (fun b hb => upd_ne hb)⟩
  · rintro i H' _ ⟨ys, _, p⟩
    exact hl i ys H' p
  · rintro i x H' hi ⟨ys, hD', p⟩
    exact hs i x D ys H' hD hi hD' p
  · rintro H' ⟨ys, hD', p⟩
    exact hd D ys H' hD hD' p
theorem i_wipe {A B : Prop} (a : A) (b : B) : A ∧ B := ⟨a, b⟩
/-! targets, stores -/
theorem i_gsub {ti : TE} {r : V → V → V → Hp → (Hp → Prop) → Prop} (h : to σ H (fun o H1 => ti σ H1 (fun i H2 => r o i v H2 (fun H3 => QS σ H3)))) : gSub to ti r v σ H QS := h
theorem i_setL {p : Addr} {xs ys : List V} {k : Int} {j : Nat} (e : H p = some (.lst xs)) (hj : ixN xs.length k = some j) (w : xs.set j v = ys) (h : ∀ H2, H2 p = some (.lst ys) → (∀ b, b ≠ p → H2 b = H b) → QH H2) : rSetL (.ref p) (.int k) v H QH :=
  ⟨p, xs, k, j, rfl, rfl, e, hj, h _ (by rw [w]; exact upd_same) (fun b hb => upd_ne hb)⟩
theorem i_par (h : tr σ H (fun vs H1 => ∃ v w, vs = [v, w] ∧ D.nx ((σ.set i (some v)).set j (some w)) H1)) : tPar i j tr D σ H := h
theorem i_par1 {P : V → V → Prop} (h : P v w) : ∃ v' w', [v, w] = [v', w'] ∧ P v' w' := ⟨v, w, rfl, h⟩
theorem i_glst {a : Addr} {xs : List V} {n : Nat} (s : SqL K H a xs) (hn : xs.length = n) (h : gs xs σ H QS) : gLst K n gs (.ref a) σ H QS := ⟨a, xs, rfl, s, hn, h⟩
theorem i_gtup {a : Addr} {xs : List V} {n : Nat} (s : SqT K H a xs) (hn : xs.length = n) (h : gs xs σ H QS) : gTup K n gs (.ref a) σ H QS := ⟨a, xs, rfl, s, hn, h⟩
theorem i_gc {vs : List V} (h : g v σ H (fun σ' H' => gs vs σ' H' QS)) : gCons g gs (v :: vs) σ H QS := ⟨v, vs, rfl, h⟩
theorem i_gn (h : QS σ H) : gNil [] σ H QS := ⟨rfl, h⟩
/-! methods of lists -/
theorem i_bm {T : String} {r : V → List V → Hp → VK → Prop} (h : to σ H (fun x H1 => tyV K T x H1 ∧ tr σ H1 (fun xs H2 => r x xs H2 Q))) : tBM K T r to tr σ H Q := h
theorem tyL {p : Addr} {xs : List V} (e : H p = some (.lst xs)) : tyV K "list" (.ref p) H := Or.inl ⟨rfl, _, SqL.of e⟩
theorem i_app {p : Addr} {xs : List V} (e : H p = some (.lst xs)) (l : xs.length < 100000) (h : ∀ H2, H2 p = some (.lst (xs ++ [y])) → (∀ b, b ≠ p → H2 b = H b) → Q .non H2) : rAppend (.ref p) [y] H Q :=
  ⟨p, xs, y, rfl, rfl, e, Nat.lt_of_lt_of_le l (by decide), h _ upd_same (fun b hb => upd_ne hb)⟩
/-! errors' __init__ -/
def rVeI (K : PySem.W.Frag) (vs : List V) (H1 : Hp) (Q : VK) : Prop := ∃ (a C : Addr) (ws : List V), vs = .ref a :: ws ∧ ws.length ≤ 1000 ∧ OexC K C ∧ H1 a = some (exo a C none) ∧ Q .non H1
theorem i_tve (h : tr σ H (fun vs H1 => rVeI K vs H1 Q)) : tVeI K tr σ H Q := h
theorem i_tve1 {a C : Addr} {ws : List V} (T : OexC K C) (e : H a = some (exo a C none)) (l : ws.length ≤ 1000) (h : Q .non H) : rVeI K (.ref a :: ws) H Q := ⟨a, C, ws, rfl, l, T, e, h⟩
def rOst (K : PySem.W.Frag) (f : Str) (y x : V) (H2 : Hp) (P : Hp → Prop) : Prop := ∃ a C : Addr, x = .ref a ∧ OexC K C ∧ PySem.W.findIn K (.ref C) f = some none ∧
  ((H2 a = some (exo a C none) ∧ ∀ dx, H2 dx = none → dx ≠ a → P (upd (upd H2 dx (exd dx [(f, y)])) a (exo a C (some dx)))) ∨
    ∃ (dx : Addr) (fs : List (Str × V)), H2 a = some (exo a C (some dx)) ∧ H2 dx = some (exd dx fs) ∧ fs.length ≤ 900 ∧ P (upd H2 dx (exd dx ((f, y) :: fs))))
theorem i_ost {f : Str} (h : te σ H (fun y H1 => to σ H1 (fun x H2 => rOst K f y x H2 (fun H3 => D.nx σ H3)))) : tOst K f to te D σ H := h
theorem i_ost1 {f : Str} {a C : Addr} (T : OexC K C) (n : PySem.W.findIn K (.ref C) f = some none) (e : H a = some (exo a C none)) (h : ∀ dx, H dx = none → dx ≠ a → QH (upd (upd H dx (exd dx [(f, y)])) a (exo a C (some dx)))) : rOst K f y (.ref a) H QH :=
  ⟨a, C, rfl, T, n, .inl ⟨e, h⟩⟩
theorem i_fmtI {n : Int} (l : ZR.Sz 1900 n) (h : Q (.str (toString n)) H) : rFmt (.int n) H Q := .inr ⟨n, rfl, PySem.Flt.log2_lt_of (by decide) (l.mono (by decide)), h⟩
theorem i_js1 {ts : List TE} {acc z : Str} {QJ : Str → Hp → Prop} (l : (acc ++ z).length ≤ sizeLine) (h : tJs ts (acc ++ z) σ H QJ) : ∃ y : Str, V.str z = .str y ∧ (acc ++ y).length ≤ sizeLine ∧ tJs ts (acc ++ y) σ H QJ := ⟨z, rfl, l, h⟩
theorem bits_small {n : Int} {k : Nat} (h : ZR.Sz k n) : ¬ ((k : Int) < (Builtin.Int.intBits n : Nat)) := by
  have := (intBits_le_iff (m := k) (x := n)).mpr h
  omega
theorem text_small {n : Int} (h : ZR.Sz 1900 n) : (Str.ofString (toString n)).length ≤ 1901 := by
  have := int_text_length_le10 (k := 1900) (a := n) (by decide) (Nat.lt_of_lt_of_le (show n.natAbs < 2 ^ 1900 from h) (Nat.pow_le_pow_left (by decide) 1900))
  rw [PySem.ofString_length]
  exact this
/-! items by written places -/
theorem i_ix0 {p : Addr} {x0 : V} {xs : List V} (s : SqL K H p (x0 :: xs)) (h : Q x0 H) : rIxL K (.ref p) (.int 0) H Q := i_ixL (k := 0) s rfl h
theorem i_ix1 {p : Addr} {x0 x1 : V} {xs : List V} (s : SqL K H p (x0 :: x1 :: xs)) (h : Q x1 H) : rIxL K (.ref p) (.int 1) H Q := i_ixL (k := 1) s rfl h
theorem i_ix2 {p : Addr} {x0 x1 x2 : V} {xs : List V} (s : SqL K H p (x0 :: x1 :: x2 :: xs)) (h : Q x2 H) : rIxL K (.ref p) (.int 2) H Q := i_ixL (k := 2) s rfl h
theorem i_ixT {p : Addr} {xs : List V} {k : Nat} (s : SqT K H p xs) (e : xs[k]? = some v) (h : Q v H) : rIxT K (.ref p) (.int (k : Nat)) H Q := ⟨p, xs, _, v, rfl, rfl, s, atI_nat e, h⟩
theorem i_ixT0 {p : Addr} {x0 : V} {xs : List V} (s : SqT K H p (x0 :: xs)) (h : Q x0 H) : rIxT K (.ref p) (.int 0) H Q := i_ixT (k := 0) s rfl h
theorem i_neLI {p q : Addr} {ns ms : List Int} (h1 : SqL K H p (ns.map V.int)) (h2 : SqL K H q (ms.map V.int)) (h : Q (.bl (!decide (ns = ms))) H) : rNeD K (.ref p) (.ref q) H Q := by
  refine ⟨_, _, .lst h1 (dp_ints ns), .lst h2 (dp_ints ms), ?_, ?_, ?_⟩
  · exact shp ns
  · exact shp ms
  · have e : PyData.eqv (.list (ns.map PyData.int)) (.list (ms.map PyData.int)) = decide (ns = ms) := by
      show PyData.eqvAll _ _ = _
      exact eqv_ints ns ms
    rw [e]
    exact h
where shp (ns : List Int) : SeqAt.shaped (.list (ns.map PyData.int)) = true := by
        unfold SeqAt.shaped
        have d : ∀ ns : List Int, PyData.depthAll (ns.map PyData.int) ≤ 1 := by
          intro ns
          induction ns with
          | nil => decide
          | cons n ns ih => simp [PyData.depthAll, PyData.depth] at *; omega
        have := d ns
        have l := lay_ints ns
        simp [PyData.depth, PyData.canLay0]
        exact ⟨l, by omega⟩
end
end Z
namespace Z
open PySem PySem.Spec PyProof.Rows L2
/-! the same rules where the written part stands by its own letter -/
section
variable {X : Cx} {K : PySem.W.Frag} {e : Expr} {te : TE} {f : Str} {pos : Pos}
theorem k_fld (hK : X.K = K) (he : PE X e te) (hb : attributeBase e f X.env (eval e X.env) = eval e X.env) : PE X (.Attribute e f pos) (tFld K te f) := by
  subst hK
  exact pe_fld he hb
theorem k_ixL (hK : X.K = K) : IxR X (rIxL K) := by
  subst hK
  exact ix_list
theorem k_ixT (hK : X.K = K) : IxR X (rIxT K) := by
  subst hK
  exact ix_tup
theorem k_lst {es : List Expr} {k n : Nat} {t : TGs} (hK : X.K = K) (hc : X.calm = true) (h : PGs X es t) (hn : (assignEach es X.env).length = n := by rfl) (hst : (assignEach es X.env).findIdx? (·.1) = none := by rfl) : PG X (.Tuple es k pos) (gLst K n t) := by
  subst hK
  exact pg_lst hc h hn hst
theorem k_tup {es : List Expr} {k n : Nat} {t : TGs} (hK : X.K = K) (hc : X.calm = true) (h : PGs X es t) (hn : (assignEach es X.env).length = n := by rfl) (hst : (assignEach es X.env).findIdx? (·.1) = none := by rfl) : PG X (.Tuple es k pos) (gTup K n t) := by
  subst hK
  exact pg_tup hc h hn hst
theorem k_list {tg l : Expr} {tl : TE} (hK : X.K = K) (hl : PE X l tl) : PI X tg l (iList K tl) := by
  subst hK
  exact pi_list hl
theorem k_tupI {tg l : Expr} {tl : TE} (hK : X.K = K) (hl : PE X l tl) : PI X tg l (iTup K tl) := by
  subst hK
  exact pi_tup hl
theorem k_eqO {C : Addr} {k j : Nat} {sp : Sp} (hK : X.K = K) (c : CalO X.prog X.w X.K X.mg X.base C "__eq__" k sp) (hr : Room j X.A) (hj : k ≤ j := by decide) : OpR X (compareOp .Eq) (rOwnC K C sp) := by
  subst hK
  exact z_eqO c hr hj
theorem k_neO {C : Addr} {k j : Nat} {sp : Sp} (hK : X.K = K) (c : CalO X.prog X.w X.K X.mg X.base C "__eq__" k sp) (n : NeC X.K C) (hr : Room j X.A) (hj : k + 1 ≤ j := by decide) : OpR X (compareOp .NotEq) (rOwnN K C sp) := by
  subst hK
  exact z_neO c n hr hj
theorem k_eqD (hK : X.K = K) (hu : X.A.units + 64 < cLine) : OpR X (compareOp .Eq) (rEqD K) := by
  subst hK
  exact op_eqD hu
theorem k_neD (hK : X.K = K) (hu : X.A.units + 64 < cLine) : OpR X (compareOp .NotEq) (rNeD K) := by
  subst hK
  exact op_neD hu
/-- len of a list or a tuple -/
def rLen (K : PySem.W.Frag) : List V → Hp → VK → Prop := fun xs H Q => ∃ p ys, xs = [.ref p] ∧ (SqL K H p ys ∨ SqT K H p ys) ∧ Q (.int ys.length) H
theorem k_len (hK : X.K = K) : CallR X (.builtin "len") (rLen K) := by
  subst hK
  exact call_len_seq
theorem i_lenL {p : Addr} {xs : List V} {H : Hp} {Q : VK} (s : SqL K H p xs) (h : Q (.int xs.length) H) : rLen K [.ref p] H Q := ⟨p, xs, rfl, .inl s, h⟩
theorem i_lenT {p : Addr} {xs : List V} {H : Hp} {Q : VK} (s : SqT K H p xs) (h : Q (.int xs.length) H) : rLen K [.ref p] H Q := ⟨p, xs, rfl, .inr s, h⟩
theorem k_isi (hK : X.K = K) : CallR X (.builtin "isinstance") (rIsi K) := by
  subst hK
  exact call_isi
end
section
variable {K : PySem.W.Frag} {σ : L2.St} {H : Hp} {D : Ends} {Q : VK} {te : TE}
theorem i_was {c cls : Value} {i : Nat} {ts : Addr → Value → Option Addr → TS} {Wout : WX} {d : Option Addr} (hx : PySem.W.exmOne K cls c = some true)
    (h : ∀ a, H a = none → ts a cls d { nx := fun σ' H' => D.nx (σ'.set i none) H', rt := D.rt, bk := fun σ' H' => D.bk (σ'.set i none) H', ct := fun σ' H' => D.ct (σ'.set i none) H' } (σ.set i (some (.ref a))) H) :
    wAs K c i ts Wout D cls d σ H := ⟨true, hx, fun _ => h, fun q => by cases q⟩
def rXf (a : Addr) (cls : Value) (d : Option Addr) (C : Addr) (f : Str) (x : V) (H1 : Hp) (Q : VK) : Prop := x = .ref a ∧ cls = .ref C ∧ ∃ (dd : Addr) (fs : List (Str × V)) (v : V), d = some dd ∧ H1 dd = some (.xd fs) ∧ fs.lookup f = some v ∧ Q v H1
theorem i_xf {a C : Addr} {cls : Value} {d : Option Addr} {f : Str} (h : te σ H (fun x H1 => rXf a cls d C f x H1 Q)) : tXf a cls d C f te σ H Q := h
theorem i_xf1 {a C dd : Addr} {f : Str} {v : V} (e : H dd = some (.xd [(f, v)])) (h : Q v H) : rXf a (.ref C) (some dd) C f (.ref a) H Q :=
  ⟨rfl, rfl, dd, _, v, rfl, e, by simp [List.lookup], h⟩
end
end Z
namespace Z
open PySem PySem.Spec PyProof.Rows L2
/-! facts put together -/
theorem exm_in {K : PySem.W.Frag} {C D : Addr} {b : Bool} (e : PySem.W.subIn K (.ref C) (.type "BaseException") = some true) (i : PySem.W.isClsIn K C = true) (ty : PySem.W.typeIn K (.ref C) = some (.type "type")) (s : PySem.W.subIn K (.ref D) (.ref C) = some b) :
    PySem.W.exmOne K (.ref D) (.ref C) = some b := by
  unfold PySem.W.exmOne
  rw [if_pos (by rw [e]; rfl)]
  unfold PySem.W.kitCls
  have hc : (PySem.W.clsIn K C).isSome = true := i
  show (if ((PySem.W.clsIn K C).isSome && PySem.W.typeIn K (.ref C) == some (.type "type")) = true then PySem.W.subIn K (.ref D) (.ref C) else none) = some b
  rw [if_pos, s]
  rw [hc, ty]
  simp
theorem refs_ve (T : Addr) : PySem.HandSPX.refsVE [.ref T, .type "ValueError", .type "Exception", .type "BaseException", .type "object"] = true := by
  show PySem.HandSPX.refsVE [.type "ValueError", .type "Exception", .type "BaseException", .type "object"] = true
  decide +kernel
theorem kit_self {K : PySem.W.Frag} {C : Addr} : PySem.W.kitOne K (.ref C) (.ref C) = some true := by
  unfold PySem.W.kitOne
  rw [if_pos (by simp)]
theorem kit_c {K : PySem.W.Frag} {C : Addr} {t : Value} {b : Bool} (i : PySem.W.isClsIn K C = true) (ty : PySem.W.typeIn K (.ref C) = some (.type "type")) (e : PySem.W.subIn K t (.ref C) = some b) (hne : (t == Value.ref C) = false) : PySem.W.kitOne K t (.ref C) = some b := by
  unfold PySem.W.kitOne
  rw [if_neg (by rw [hne]; simp)]
  unfold PySem.W.kitCls
  have hc : (PySem.W.clsIn K C).isSome = true := i
  show (if ((PySem.W.clsIn K C).isSome && PySem.W.typeIn K (.ref C) == some (.type "type")) = true then PySem.W.subIn K t (.ref C) else none) = some b
  rw [if_pos, e]
  rw [hc, ty]
  simp

section
variable {P : Program} {w : World} {K : PySem.W.Frag} {mg : Str → Option Value} {base h : Heap} {f C : Addr} {fd : FuncData} {ps : List Str} {x : Str} {k : Nat} {sp : Sp}
theorem mk_cal (X : K.In h) (G : h.Ns mainGlobals mg) (a : PySem.W.nsIn K mainGlobals x = some (some (.ref f))) (kk : PySem.W.keepIn K (.ref f) = true) (F : FnOk P w K mg base (L2.CX P w) k f fd ps sp) (b : Binds K fd ps []) : Cal P w K mg base x k sp :=
  ⟨f, PySem.W.mg_of X G a, kk, fnR_of F b⟩
theorem mk_calM (m : Meth K C x f) (F : FnOk P w K mg base (L2.CX P w) k f fd ps sp) (b : Binds K fd ps []) : CalM P w K mg base C x k sp := ⟨f, m, fnR_of F b⟩
theorem mk_calI (X : K.In h) (G : h.Ns mainGlobals mg) (a : PySem.W.nsIn K mainGlobals x = some (some (.ref C))) (m : Mk K C f) (F : FnOk P w K mg base (L2.CX P w) k f fd ps sp) (b : Binds K fd ps []) : CalI P w K mg base x C k sp :=
  ⟨PySem.W.mg_of X G a, f, m, fnR_of F b⟩
theorem mk_calO (a : PySem.W.findIn K (.ref C) x = some (some (.ref f))) (i : PySem.W.isFn K (.ref f) = true) (s : PySem.W.selfFirst K C = true) (F : FnOk P w K mg base (L2.CX P w) k f fd ps sp) (b : Binds K fd ps []) : CalO P w K mg base C x k sp :=
  ⟨f, ⟨a, i⟩, s, fnR_of F b⟩
theorem mk_calK {mc : Value} {p : Addr} (r : ClX.CRead K C mc) (m : ClX.CMet K C mc x p f) (F : FnOk P w K mg base (L2.CX P w) k f fd ps sp) (b : Binds K fd ps []) : CalK P w K mg base C x k sp := ⟨mc, p, f, r, m, fnR_of F b⟩
theorem mk_calX (X : K.In h) (G : h.Ns mainGlobals mg) (a : PySem.W.nsIn K mainGlobals x = some (some (.ref C))) (o : OexC K C) (i : PySem.W.findIn K (.ref C) "__init__" = some (some (.ref f))) (t : PySem.W.typeIn K (.ref f) = some (.type "function"))
    (F : FnOk P w K mg base (L2.CX P w) k f fd ps sp) (b : Binds K fd ps []) : CalX P w K mg base x C k ps sp := ⟨PySem.W.mg_of X G a, o, f, fd, i, t, F, b⟩
theorem mk_calT {mc : Value} (X : K.In h) (G : h.Ns mainGlobals mg) (a : PySem.W.nsIn K mainGlobals x = some (some (.ref C))) (r : ClX.CRead K C mc) (v : PySem.W.findCls K (.ref C) mc "__init__" = some (.val (.builtin "ValueError.__init__"))) : CalT K mg x :=
  ⟨C, mc, PySem.W.mg_of X G a, r, v⟩
end
end Z

set_option Elab.async false
set_option linter.all false
set_option maxRecDepth 100000
set_option maxHeartbeats 4000000
/-! texts: str(x) of own things, s * n, comprehensions over texts -/
namespace Z
open PySem PySem.Spec PyProof.Rows L2
section
variable {X : Cx} {k j : Nat} {f C : Addr} {sp : Sp}
def strO (Q : VK) : VK := fun v H' => ∃ z, v = .str z ∧ Q (.str z) H'
/-- str(x), x an instance with its own __str__ -/
def rStrOwn (C : Addr) (sp : Sp) : List V → Hp → VK → Prop := fun xs H Q => ∃ a dx fs, xs = [.ref a] ∧ H a = some (.ins C dx fs) ∧
  sp [.ref a] H (strO Q) (fun _ _ _ => False)
theorem call_strOwn (F : FnR X.prog X.w X.K X.mg X.base (L2.CX X.prog X.w) k f sp) (hr : Room (k + 2) X.A) (S : Spc X.K C "__str__" f) :
    CallR X (.type "str") (rStrOwn C sp) := by
  intro pins s σ H xs us Q I r h
  obtain ⟨a, dx, fs, rfl, ea, h⟩ := h
  obtain rfl := Vals.ref1 r
  obtain ⟨ox, od, Ja⟩ := instAt I ea
  have hr1 : Room k X.A.in1.in1 := (hr.in1).in1
  refine PySem.W.kso_call (f := f) hr1.units0 I.kIn Ja S.at_ S.fn ?_
  refine wpAny_call (codeAny_mono (F X.A.in1.in1 X.stack s H [.ref a] [.ref a] _ (fun _ _ _ => False) hr1 I.env0.in1.in1 (.cons rfl .nil) h) fun q s' hq => ?_)
  rcases q with e | fl
  · exact (cxN hq).elim
  rcases fl with _ | _ | _ | u'
  · exact False.elim hq
  · exact False.elim hq
  · exact False.elim hq
  obtain ⟨v', H', J', rv, z, ev, q⟩ := I.after hq
  subst ev
  obtain ⟨t, rfl⟩ := rv
  exact ⟨.str z, H', J', ⟨t, rfl⟩, q⟩
theorem z_strO (c : CalO X.prog X.w X.K X.mg X.base C "__str__" k sp) (hr : Room j X.A) (hj : k + 2 ≤ j := by decide) : CallR X (.type "str") (rStrOwn C sp) := by
  obtain ⟨f, S, sf, F⟩ := c
  exact call_strOwn F (hr.mono hj) S
/-- s * n -/
def rMulS : R2 := fun x y H Q => ∃ (z : Str) (n : Int), x = .str z ∧ y = .int n ∧ 2 ≤ n ∧ n ≤ 1000 ∧ z.length ≤ 1000 ∧ Q (.str (Txt.mul z n)) H
theorem op_mulS : OpR X (binaryOp .Mult) rMulS := by
  intro pins s σ H x y v u Q I rx ry h
  obtain ⟨z, n, rfl, rfl, h2, hn, hz, q⟩ := h
  obtain ⟨t, rfl⟩ := rx
  obtain ⟨u', rfl⟩ := ry
  have hlen : z.length * n.toNat ≤ 1000000 := by
    have : n.toNat ≤ 1000 := by omega
    exact Nat.le_trans (Nat.mul_le_mul hz this) (by decide)
  refine PySem.SB.mul ⟨?_, ?_, ?_⟩ fun t' k => ⟨.str _, H, I.tok _, ⟨_, rfl⟩, q⟩
  · rw [decide_eq_false (by omega), decide_eq_false (by omega)]
    rfl
  · intro _ _ hgt
    have : (2 ^ 63 - 1 : Int) / n ≥ 1000 := Int.le_ediv_of_mul_le (by omega) (by omega)
    omega
  · intro _ _
    unfold PySem.Builtin.Str.tooLong
    rw [sizeLine_eq]
    exact decide_eq_false (by omega)
theorem i_mulS {z : Str} {n : Int} {H : Hp} {Q : VK} (h2 : 2 ≤ n) (hn : n ≤ 1000) (hz : z.length ≤ 1000) (h : Q (.str (Txt.mul z n)) H) : rMulS (.str z) (.int n) H Q := ⟨z, n, rfl, rfl, h2, hn, hz, h⟩
end
/-! ### comprehensions over texts -/
section
variable {K : PySem.W.Frag} {σ : L2.St} {H : Hp} {D : Ends} {te : TE} {tt : TT} {g : TG} {Q : VK}
def rLcS (g : TG) (tt : TT) (te : TE) (vs : List Nat) (σ : L2.St) (Q : VK) (x : V) (H1 : Hp) : Prop := ∃ z, x = .str z ∧ ∀ D, H1 D = none → ∃ W : Nat → Nat → Hp → Prop, (∃ m, W 0 m (upd H1 D (.lst []))) ∧ ∀ i m H, W i m H →
  ((Its z).stop i H ∧ Q (.ref D) H) ∨ ((Its z).go i H ∧ ∃ Nx : Hp → Prop, (∀ H', Nx H' → ∃ m', m' < m ∧ W (i + 1) m' H') ∧ ∀ x H', (Its z).yld i H x H' → g x (wipe σ vs) H' fun σ2 H2 => wipe σ2 vs = wipe σ vs ∧ tt σ2 H2 fun b H3 =>
    if b = true then te σ2 H3 fun y H4 => ∃ acc, H4 D = some (.lst acc) ∧ acc.length < sizeLine ∧ Nx (upd H4 D (.lst (acc ++ [y]))) else Nx H3)
theorem i_lcS0 {tl : TE} {vs : List Nat} (h : tl σ H (fun x H1 => rLcS g tt te vs σ Q x H1)) : tLc (iStr tl) g tt te vs σ H Q := h
theorem i_lcS {z : Str} {vs : List Nat} (Pv : Nat → List V → Hp → Prop) (h0 : ∀ D H', H D = none → Same H H' → H' D = some (.lst []) → (∀ b, b ≠ D → H' b = H b) → Pv 0 [] H')
    (hs : ∀ i c D ys H1, H D = none → (TL.tl z)[i]? = some c → H1 D = some (.lst ys) → Pv i ys H1 → g (.str ⟨#[c]⟩) (wipe σ vs) H1 fun σ2 H2 => wipe σ2 vs = wipe σ vs ∧ tt σ2 H2 fun b H3 => if b = true then te σ2 H3 fun y H4 => rLcE D Pv i y H4 else LcS D Pv (i + 1) H3)
    (hd : ∀ D ys H1, H D = none → H1 D = some (.lst ys) → Pv (TL.tl z).length ys H1 → Q (.ref D) H1) : rLcS g tt te vs σ Q (.str z) H := by
  refine ⟨z, rfl, fun D hD => ?_⟩
  have hsz : z.cps.size = (TL.tl z).length := (Array.length_toList).symm
  refine ⟨fun i m H' => m = z.cps.size - i ∧ i ≤ z.cps.size ∧ LcS D Pv i H', ⟨z.cps.size, by simp, Nat.zero_le _, [], upd_same, h0 D _ hD (fun b o e => by rw [upd_ne (ne_of_none e hD)]; exact e) upd_same (fun b hb => upd_ne hb)⟩, ?_⟩
  rintro i m H' ⟨rfl, hi, ys, hD', p⟩
  by_cases hlt : i < z.cps.size
  · refine .inr ⟨hlt, LcS D Pv (i + 1), fun H'' p' => ⟨z.cps.size - (i + 1), by omega, rfl, hlt, p'⟩, fun x H'' y => ?_⟩
    obtain ⟨e, c, hc, rfl⟩ := y
    subst e
    refine hs i c D ys _ hD ?_ hD' p
    show z.cps.toList[i]? = some c
    rw [Array.getElem?_toList]
    exact hc
  · have e : i = z.cps.size := by omega
    refine .inl ⟨Nat.le_of_eq e.symm, hd D ys H' hD hD' ?_⟩
    rw [← hsz, ← e]
    exact p
end
end Z
namespace Z
open PySem PySem.Spec PyProof.Rows L2
section
variable {K : PySem.W.Frag} {σ : L2.St} {H : Hp} {D : Ends} {te ta tb tc : TE} {tlo thi : TO} {QO : Option Int → Hp → Prop} {Q : VK} {z : Str}
theorem i_chain {r r' : R2} (h : ta σ H (fun x H1 => tb σ H1 (fun y H2 => r x y H2 (fun v H3 => ∃ k, v = .bl k ∧ (if k = true then tc σ H3 (fun w' H4 => r' y w' H4 Q) else Q (.bl false) H3))))) : tChain r r' ta tb tc σ H Q := h
theorem i_sl {r : V → Option Int → Option Int → Hp → VK → Prop} (h : te σ H (fun x H1 => tlo σ H1 (fun l H2 => thi σ H2 (fun u H3 => r x l u H3 Q)))) : tSl r te tlo thi σ H Q := h
theorem i_noPart (h : QO none H) : tNoPart σ H QO := h
def rPart (x : V) (H1 : Hp) (QO : Option Int → Hp → Prop) : Prop := ∃ i, x = .int i ∧ QO (some i) H1
theorem i_part (h : te σ H (fun x H1 => rPart x H1 QO)) : tPart te σ H QO := h
theorem i_part1 {i : Int} (h : QO (some i) H) : rPart (.int i) H QO := ⟨i, rfl, h⟩
theorem i_slS {lo hi : Option Int} (hz : z.length ≤ 100000) (h : Q (.str (cutS z lo hi)) H) : rSlS (.str z) lo hi H Q := ⟨z, rfl, Nat.le_trans hz (by decide), h⟩
theorem i_slL {lo hi : Option Int} {a : Addr} {xs ys : List V} (s : SqL K H a xs) (e : cutV xs lo hi = ys) (h : ∀ p H', H p = none → Same H H' → H' p = some (.lst ys) → (∀ b, b ≠ p → H' b = H b) → Q (.ref p) H') : rSlL K (.ref a) lo hi H Q := by
  subst e
  exact ⟨a, xs, rfl, s, fun p hp => h p _ hp (fun b o e => by rw [upd_ne (ne_of_none e hp)]; exact e) upd_same (fun b hb => upd_ne hb)⟩
theorem i_ixS {k : Nat} {c : Nat} (hz : z.length ≤ 100000) (e : (TL.tl z)[k]? = some c) (h : Q (.str ⟨#[c]⟩) H) : rIxS (.str z) (.int (k : Nat)) H Q := ⟨z, _, c, rfl, rfl, Nat.le_trans hz (by decide), atI_nat e, h⟩
theorem i_ixS0 {c : Nat} {r : List Nat} (hz : z.length ≤ 100000) (e : TL.tl z = c :: r) (h : Q (.str ⟨#[c]⟩) H) : rIxS (.str z) (.int 0) H Q := i_ixS (k := 0) hz (by rw [e]; rfl) h
def rRevL (K : PySem.W.Frag) (x : V) (H1 : Hp) (Q : VK) : Prop := ∃ a xs, x = .ref a ∧ SqL K H1 a xs ∧ ∀ p, H1 p = none → Q (.ref p) (upd H1 p (.lst xs.reverse))
theorem i_revL (h : te σ H (fun x H1 => rRevL K x H1 Q)) : tRevL K te σ H Q := h
theorem i_revL1 {a : Addr} {xs : List V} (s : SqL K H a xs) (h : ∀ p H', H p = none → Same H H' → H' p = some (.lst xs.reverse) → (∀ b, b ≠ p → H' b = H b) → Q (.ref p) H') : rRevL K (.ref a) H Q :=
  ⟨a, xs, rfl, s, fun p hp => h p _ hp (fun b o e => by rw [upd_ne (ne_of_none e hp)]; exact e) upd_same (fun b hb => upd_ne hb)⟩
theorem tl_from (z : Str) (k : Nat) : TL.tl (cutS z (some (k : Int)) none) = (TL.tl z).drop k := by
  have hl := TL.len_tl z
  show ((TL.tl z).drop (HT.sIx z.length 0 (some (k : Int)))).take (HT.sIx z.length z.length none - HT.sIx z.length 0 (some (k : Int))) = _
  rw [HT.sIx_nat, HT.sIx_none, hl, List.take_of_length_le (by rw [List.length_drop]; omega)]
  by_cases h : k ≤ (TL.tl z).length
  · rw [Nat.min_eq_left h]
  · rw [Nat.min_eq_right (by omega), List.drop_length, List.drop_of_length_le (by omega)]
theorem tl_upto (z : Str) (k : Nat) : TL.tl (cutS z none (some (k : Int))) = (TL.tl z).take k := by
  have hl := TL.len_tl z
  show ((TL.tl z).drop (HT.sIx z.length 0 none)).take (HT.sIx z.length z.length (some (k : Int)) - HT.sIx z.length 0 none) = _
  rw [HT.sIx_nat, HT.sIx_none, hl, List.drop_zero, Nat.sub_zero, ← List.take_take, List.take_length]
end
end Z
namespace Z
open PySem PySem.Spec PyProof.Rows L2
section
variable {K : PySem.W.Frag} {H : Hp} {Q : VK}
theorem i_cat {l b : Addr} {xs zs : List V} (h1 : H l = some (.lst xs)) (h2 : H b = some (.lst zs)) (hl : xs.length + zs.length ≤ 100000) (h : ∀ p H', H p = none → Same H H' → H' p = some (.lst (xs ++ zs)) → (∀ b, b ≠ p → H' b = H b) → Q (.ref p) H') : rCat (.ref l) (.ref b) H Q :=
  ⟨l, b, xs, zs, rfl, rfl, h1, h2, Nat.le_trans hl (by decide), fun p hp => h p _ hp (fun b o e => by rw [upd_ne (ne_of_none e hp)]; exact e) upd_same (fun b hb => upd_ne hb)⟩
theorem i_newStrs {ys : List Str} (h : ∀ p H', H p = none → Same H H' → H' p = some (.lst (ys.map V.str)) → (∀ b, b ≠ p → H' b = H b) → Q (.ref p) H') : rNewStrs ys H Q :=
  fun p hp => h p _ hp (fun b o e => by rw [upd_ne (ne_of_none e hp)]; exact e) upd_same (fun b hb => upd_ne hb)
end
end Z
namespace Z
open PySem PySem.Spec PyProof.Rows L2
theorem ixN_n {n j : Nat} (hj : j < n) : ixN n (j : Int) = some j := by
  unfold ixN
  rw [if_pos (by omega), if_pos (by omega)]
  simp
/-! lists of ints and texts, the same ones -/
def sv : Int ⊕ Str → V
  | .inl i => .int i
  | .inr z => .str z
def sd : Int ⊕ Str → PyData
  | .inl i => .int i
  | .inr z => .str z
section
variable {K : PySem.W.Frag} {H : Hp} {Q : VK} {p q : Addr}
theorem dp_sv : ∀ ls : List (Int ⊕ Str), DpAll K H (ls.map sv) (ls.map sd)
  | [] => .nil
  | .inl i :: ls => .cons (.int i) (dp_sv ls)
  | .inr z :: ls => .cons (.str z) (dp_sv ls)
theorem eqv_sd : ∀ ls : List (Int ⊕ Str), PyData.eqvAll (ls.map sd) (ls.map sd) = true
  | [] => rfl
  | .inl i :: ls => by
    show (PyData.eqv (.int i) (.int i) && PyData.eqvAll _ _) = true
    rw [eqv_sd ls, Bool.and_true]
    show (i == i) = true
    simp
  | .inr z :: ls => by
    show (PyData.eqv (.str z) (.str z) && PyData.eqvAll _ _) = true
    rw [eqv_sd ls, Bool.and_true]
    show (z == z) = true
    simp
theorem shaped_sd (ls : List (Int ⊕ Str)) (hs : ∀ z, .inr z ∈ ls → PyData.strOk z = true) : SeqAt.shaped (.list (ls.map sd)) = true := by
  unfold SeqAt.shaped
  have d : ∀ ls : List (Int ⊕ Str), PyData.depthAll (ls.map sd) ≤ 1 := by
    intro ls
    induction ls with
    | nil => decide
    | cons n ns ih => cases n <;> simp [PyData.depthAll, PyData.depth, sd] at * <;> omega
  have l : ∀ ls : List (Int ⊕ Str), (∀ z, .inr z ∈ ls → PyData.strOk z = true) → PyData.canLayAll0 (ls.map sd) = true := by
    intro ls
    induction ls with
    | nil => intro _; rfl
    | cons n ns ih =>
      intro hs
      have ih2 := ih fun z hz => hs z (List.mem_cons_of_mem _ hz)
      cases n with
      | inl i =>
        simp [PyData.canLayAll0, PyData.canLay0, sd] at *
        exact ih2
      | inr z =>
        have := hs z List.mem_cons_self
        simp [PyData.canLayAll0, PyData.canLay0, sd] at *
        exact ⟨this, ih2⟩
  have := d ls
  simp [PyData.depth, PyData.canLay0]
  exact ⟨l ls hs, by omega⟩
theorem i_neSame {ls : List (Int ⊕ Str)} (hs : ∀ z, .inr z ∈ ls → PyData.strOk z = true) (h1 : H p = some (.lst (ls.map sv))) (h2 : H q = some (.lst (ls.map sv))) (h : Q (.bl false) H) : rNeD K (.ref p) (.ref q) H Q := by
  refine ⟨_, _, .lst (SqL.of h1) (dp_sv ls), .lst (SqL.of h2) (dp_sv ls), shaped_sd ls hs, shaped_sd ls hs, ?_⟩
  have e : PyData.eqv (.list (ls.map sd)) (.list (ls.map sd)) = true := eqv_sd ls
  rw [e]
  exact h
theorem i_eqSame {ls : List (Int ⊕ Str)} (hs : ∀ z, .inr z ∈ ls → PyData.strOk z = true) (h1 : H p = some (.lst (ls.map sv))) (h2 : H q = some (.lst (ls.map sv))) (h : Q (.bl true) H) : rEqD K (.ref p) (.ref q) H Q := by
  refine ⟨_, _, .lst (SqL.of h1) (dp_sv ls), .lst (SqL.of h2) (dp_sv ls), shaped_sd ls hs, shaped_sd ls hs, ?_⟩
  have e : PyData.eqv (.list (ls.map sd)) (.list (ls.map sd)) = true := eqv_sd ls
  rw [e]
  exact h
end
end Z
namespace Z
open PySem PySem.Spec PyProof.Rows L2
/-- what stands at the end of both branches -/
theorem i_cap {t u : TS} {c : Bool} {D : Ends} {σ : L2.St} {H : Hp} (P : L2.St → Hp → Prop) (hP : ∀ σ H, P σ H → D.nx σ H) (k : (∀ σ H, P σ H → D.nx σ H) → if c = true then t D σ H else u D σ H) : if c = true then t D σ H else u D σ H := k hP
end Z

set_option Elab.async false
set_option linter.all false
set_option maxRecDepth 100000
set_option maxHeartbeats 4000000
/-! texts of numbers, texts of ratios: the mathematics -/
namespace ZS
open PySem TL PySem.NumText
def dig (c : Nat) : Bool := decide (48 ≤ c ∧ c ≤ 57)
/-- the digits of a number from 1 on, at most thirty -/
def posL (l : List Nat) : Bool := decide (1 ≤ l.length ∧ l.length ≤ 30) && (!(l.head? == some 48) && l.all dig)
def sgnL (l : List Nat) : Bool := if l.head? = some 45 then posL l.tail else (decide (l = [48]) || posL l)
def iv (z : Str) : Int := (intText? z).getD 0
theorem posL_iff {l : List Nat} : posL l = true ↔ 1 ≤ l.length ∧ l.length ≤ 30 ∧ l.head? ≠ some 48 ∧ AllDigits l := by
  unfold posL AllDigits
  simp [dig, and_assoc]
theorem val_lt : ∀ (l : List Nat) (a : Nat), AllDigits l → l.foldl (fun acc c => acc * 10 + (c - 48)) a < (a + 1) * 10 ^ l.length
  | [], a, _ => by simp
  | c :: l, a, h => by
    rw [List.foldl_cons]
    have h1 := val_lt l (a * 10 + (c - 48)) h.tail
    have hc := h.head
    refine Nat.lt_of_lt_of_le h1 ?_
    rw [List.length_cons, Nat.pow_succ, Nat.mul_comm (10 ^ l.length) 10, ← Nat.mul_assoc]
    exact Nat.mul_le_mul_right _ (by omega)
theorem val_ge : ∀ (l : List Nat) (a : Nat), a ≤ l.foldl (fun acc c => acc * 10 + (c - 48)) a
  | [], a => Nat.le_refl _
  | c :: l, a => by
    rw [List.foldl_cons]
    exact Nat.le_trans (by omega) (val_ge l (a * 10 + (c - 48)))
theorem digits_lt {l : List Nat} (h : AllDigits l) (hl : l.length ≤ 30) : digitsVal l < 10 ^ 30 := by
  have := val_lt l 0 h
  unfold digitsVal
  rw [Nat.zero_add, Nat.one_mul] at this
  exact Nat.lt_of_lt_of_le this (Nat.pow_le_pow_right (by decide) hl)
theorem digits_pos {l : List Nat} (h : AllDigits l) (h1 : 1 ≤ l.length) (h0 : l.head? ≠ some 48) : 1 ≤ digitsVal l := by
  cases l with
  | nil => simp at h1
  | cons c l =>
    unfold digitsVal
    rw [List.foldl_cons]
    refine Nat.le_trans ?_ (val_ge l _)
    have := h.head
    simp at h0
    omega
theorem len_ne {l : List Nat} (h : 1 ≤ l.length) : l ≠ [] := by
  rintro rfl
  simp at h
theorem pos_int {z : Str} (h : posL (tl z) = true) : ∃ n : Nat, intText? z = some (n : Int) ∧ 1 ≤ n ∧ n < 10 ^ 30 ∧ z.length ≤ 30 := by
  obtain ⟨h1, h2, h3, h4⟩ := posL_iff.mp h
  have hl : z.length ≤ 30 := by rw [len_tl]; exact h2
  exact ⟨digitsVal (tl z), intText_digits h4 (len_ne h1) (by omega), digits_pos h4 h1 h3, digits_lt h4 h2, hl⟩
theorem sgn_cases {l : List Nat} (h : sgnL l = true) : (∃ r, l = 45 :: r ∧ posL r = true) ∨ l = [48] ∨ (posL l = true ∧ l.head? ≠ some 45) := by
  unfold sgnL at h
  by_cases e : l.head? = some 45
  · rw [if_pos e] at h
    cases l with
    | nil => simp at e
    | cons c r =>
      simp at e
      subst e
      exact .inl ⟨r, rfl, h⟩
  · rw [if_neg e] at h
    rcases Bool.or_eq_true_iff.mp h with h | h
    · exact .inr (.inl (of_decide_eq_true h))
    · exact .inr (.inr ⟨h, e⟩)
theorem sgn_int {z : Str} (h : sgnL (tl z) = true) : ∃ n : Int, intText? z = some n ∧ n.natAbs < 10 ^ 30 ∧ z.length ≤ 31 ∧ (1 ≤ n ↔ posL (tl z) = true) := by
  have hl := len_tl z
  rcases sgn_cases h with ⟨r, e, hp⟩ | e | ⟨hp, hne⟩
  · obtain ⟨h1, h2, h3, h4⟩ := posL_iff.mp hp
    have e2 : z.length = r.length + 1 := by rw [hl, e]; rfl
    refine ⟨_, intText_neg e h4 (len_ne h1) (by omega), ?_, by omega, ?_⟩
    · rw [Int.natAbs_neg]
      exact digits_lt h4 h2
    · constructor
      · intro hn
        have := digits_pos h4 h1 h3
        omega
      · intro hp2
        have := (posL_iff.mp hp2).2.2.2 45 (by rw [e]; exact List.mem_cons_self)
        omega
  · have ez : z.length = 1 := by rw [hl, e]; rfl
    have ed : AllDigits (tl z) := by
      rw [e]
      intro c hc
      obtain rfl := List.mem_singleton.mp hc
      decide
    refine ⟨_, intText_digits ed (by rw [show z.cps.toList = [48] from e]; simp) (by omega), ?_, by omega, ?_⟩
    · rw [show z.cps.toList = [48] from e]
      decide
    · rw [show z.cps.toList = [48] from e]
      constructor
      · intro hn
        exact absurd hn (by decide)
      · intro hp
        have := (posL_iff.mp (e ▸ hp)).2.2.1
        exact absurd rfl this
  · obtain ⟨n, hn, h1, h2, h3⟩ := pos_int hp
    exact ⟨n, hn, by omega, by omega, fun _ => hp, fun _ => by omega⟩
theorem iv_of {z : Str} {n : Int} (h : intText? z = some n) : iv z = n := by
  unfold iv
  rw [h]
  rfl
/-! ### the text of a number -/
def T (n : Int) : Str := Str.ofString (toString n)
theorem tl_pos (n : Nat) : tl (T (n : Int)) = numL n := tl_num n
theorem tl_neg {n : Nat} (h : 0 < n) : tl (T (-(n : Int))) = 45 :: numL n := by
  obtain ⟨m, rfl⟩ : ∃ m, n = m + 1 := ⟨n - 1, by omega⟩
  unfold T
  rw [tl_ofString]
  show ("-" ++ Nat.repr (m + 1)).toList.map Char.toNat = _
  rw [String.toList_append, List.map_append, Nat.toList_repr]
  rfl
theorem num_head : ∀ n : Nat, 1 ≤ n → (numL n).head? ≠ some 48 := by
  intro n
  induction n using Nat.strongRecOn with
  | ind n ih =>
    intro h
    by_cases h10 : n < 10
    · rw [numL_lt h10]
      simp
      omega
    · rw [numL_step (by omega)]
      have hne := numL_ne (n / 10)
      have := ih (n / 10) (by omega) (by omega)
      cases e : numL (n / 10) with
      | nil => exact absurd e hne
      | cons c r =>
        rw [e] at this
        simpa using this
theorem num_pos {n : Nat} (h : 1 ≤ n) (hn : n < 10 ^ 30) : posL (numL n) = true := by
  refine posL_iff.mpr ⟨?_, numL_len (by decide) hn, num_head n h, numL_digits n⟩
  have := numL_ne n
  cases e : numL n with
  | nil => exact absurd e this
  | cons c r => simp
theorem pos_head {l : List Nat} (h : posL l = true) : l.head? ≠ some 45 := by
  intro e
  cases l with
  | nil => simp at e
  | cons c r =>
    simp at e
    subst e
    have := (posL_iff.mp h).2.2.2.head
    omega
theorem T_sgn {n : Int} (h : n.natAbs < 10 ^ 30) : sgnL (tl (T n)) = true := by
  rcases Int.lt_trichotomy n 0 with hn | rfl | hn
  · obtain ⟨m, rfl⟩ : ∃ m : Nat, n = -(m : Int) := ⟨n.natAbs, by omega⟩
    rw [tl_neg (by omega)]
    show (if (45 :: numL m).head? = some 45 then posL (45 :: numL m).tail else _) = true
    rw [if_pos (show (45 :: numL m).head? = some 45 from rfl)]
    exact num_pos (by omega) (by omega)
  · decide +kernel
  · obtain ⟨m, rfl⟩ : ∃ m : Nat, n = (m : Int) := ⟨n.natAbs, by omega⟩
    rw [tl_pos]
    have hp := num_pos (n := m) (by omega) (by omega)
    unfold sgnL
    rw [if_neg (pos_head hp), hp]
    simp
theorem T_pos {n : Int} (h1 : 1 ≤ n) (h : n < 10 ^ 30) : posL (tl (T n)) = true := by
  obtain ⟨m, rfl⟩ : ∃ m : Nat, n = (m : Int) := ⟨n.natAbs, by omega⟩
  rw [tl_pos]
  exact num_pos (by omega) (by omega)
theorem T_int {n : Int} (h : n.natAbs < 10 ^ 30) : intText? (T n) = some n := by
  rcases Int.lt_trichotomy n 0 with hn | rfl | hn
  · obtain ⟨m, rfl⟩ : ∃ m : Nat, n = -(m : Int) := ⟨n.natAbs, by omega⟩
    have e := tl_neg (n := m) (by omega)
    have hl := numL_len (n := m) (k := 30) (by decide) (by omega)
    have h3 := intText_neg (x := T (-(m : Int))) e (numL_digits m) (numL_ne m) (by rw [len_tl, e, List.length_cons]; omega)
    rw [numL_val] at h3
    exact h3
  · decide +kernel
  · obtain ⟨m, rfl⟩ : ∃ m : Nat, n = (m : Int) := ⟨n.natAbs, by omega⟩
    have hl := numL_len (n := m) (k := 30) (by decide) (by omega)
    have h3 := intText_digits (x := T (m : Int)) (by rw [show (T (m : Int)).cps.toList = numL m from tl_pos m]; exact numL_digits m) (by rw [show (T (m : Int)).cps.toList = numL m from tl_pos m]; exact numL_ne m) (by rw [len_tl, tl_pos]; omega)
    rw [show (T (m : Int)).cps.toList = numL m from tl_pos m, numL_val] at h3
    exact h3
theorem T_free {n : Int} : 47 ∉ tl (T n) := by
  rcases Int.lt_or_le n 0 with hn | hn
  · obtain ⟨m, rfl⟩ : ∃ m : Nat, n = -(m : Int) := ⟨n.natAbs, by omega⟩
    rw [tl_neg (by omega)]
    intro h
    rcases List.mem_cons.mp h with h | h
    · exact absurd h (by decide)
    · exact numL_free (by decide) h
  · obtain ⟨m, rfl⟩ : ∃ m : Nat, n = (m : Int) := ⟨n.natAbs, by omega⟩
    rw [tl_pos]
    exact numL_free (by decide)
theorem T_len {n : Int} (h : n.natAbs < 10 ^ 30) : (T n).length ≤ 31 := by
  obtain ⟨_, _, _, h, _⟩ := sgn_int (T_sgn h)
  exact h
theorem T_neg {n : Int} (h : n < 0) : Str.ofString "-" ++ T (-n) = T n := by
  obtain ⟨m, rfl⟩ : ∃ m : Nat, n = -(m : Int) := ⟨n.natAbs, by omega⟩
  refine ext_tl ?_
  rw [tl_append, tl_neg (by omega), Int.neg_neg, tl_pos]
  rfl
/-! ### the stroke -/
abbrev slash : Str := Str.ofString "/"
theorem tl_slash : tl slash = [47] := by decide +kernel
theorem at_slash (z : Str) : (47 ∉ tl z ∧ Txt.partition z slash = (z, Str.empty, Str.empty) ∧ Txt.split z slash = [z]) ∨
    ∃ t b, z = t ++ slash ++ b ∧ 47 ∉ tl t ∧ Txt.partition z slash = (t, slash, b) ∧ Txt.split z slash = t :: Txt.split b slash := by
  have hk : ∀ x : Str, ¬ Builtin.Str.strKind x < Builtin.Str.strKind slash := fun x => kind_ok (by decide +kernel)
  have hne : tl slash ≠ [] := by rw [tl_slash]; simp
  by_cases h : 47 ∈ tl z
  · obtain ⟨as, bs, e, hn⟩ := List.eq_append_cons_of_mem h
    have ez : z = ⟨as.toArray⟩ ++ slash ++ ⟨bs.toArray⟩ := ext_tl (by rw [tl_append, tl_append, tl_slash]; show tl z = as ++ [47] ++ bs; rw [e]; simp)
    refine .inr ⟨⟨as.toArray⟩, ⟨bs.toArray⟩, ez, hn, ?_, ?_⟩
    · rw [ez]
      exact partition_app tl_slash hn
    · refine map_tl_inj ?_
      rw [List.map_cons, split_spl _ _ hne (hk _), split_spl _ _ hne (hk _), tl_slash, e, tl_mk]
      exact spl_part1 (S := []) (acc := []) hn
  · refine .inl ⟨h, partition_none tl_slash h, ?_⟩
    refine map_tl_inj ?_
    rw [split_spl _ _ hne (hk _), tl_slash, spl_last1 h]
    rfl
theorem split_ne (z : Str) : ∃ w ws, Txt.split z slash = w :: ws := by
  rcases at_slash z with ⟨_, _, e⟩ | ⟨t, b, _, _, _, e⟩
  · exact ⟨_, _, e⟩
  · exact ⟨_, _, e⟩
theorem pos_free {z : Str} (h : posL (tl z) = true) : 47 ∉ tl z := by
  intro hm
  have := (posL_iff.mp h).2.2.2 47 hm
  omega
/-- what read does: the place of the fault, or the two integers -/
def rdF (z : Str) : Int ⊕ (Int × Int) :=
  let p := Txt.partition z slash
  if sgnL (tl p.1) = true then (if p.2.1 = Str.empty then .inr (iv p.1, 1) else if posL (tl p.2.2) = true then .inr (iv p.1, iv p.2.2) else .inl 1) else .inl 0
theorem rdF_den {z : Str} {n d : Int} (h : rdF z = .inr (n, d)) : d ≠ 0 ∧ 1 ≤ d ∧ d < 10 ^ 30 ∧ n.natAbs < 10 ^ 30 := by
  unfold rdF at h
  by_cases h1 : sgnL (tl (Txt.partition z slash).1) = true
  · obtain ⟨m, hm, hb, _⟩ := sgn_int h1
    rw [if_pos h1] at h
    by_cases h2 : (Txt.partition z slash).2.1 = Str.empty
    · rw [if_pos h2] at h
      cases h
      rw [iv_of hm]
      exact ⟨by decide, by decide, by decide, hb⟩
    · rw [if_neg h2] at h
      by_cases h3 : posL (tl (Txt.partition z slash).2.2) = true
      · rw [if_pos h3] at h
        obtain ⟨k, hk, k1, k2, _⟩ := pos_int h3
        cases h
        rw [iv_of hm, iv_of hk]
        exact ⟨by omega, by omega, by omega, hb⟩
      · rw [if_neg h3] at h
        cases h
  · rw [if_neg h1] at h
    cases h
theorem slash_ne : slash ≠ Str.empty := by decide +kernel
theorem rd_T {n : Int} (h : n.natAbs < 10 ^ 30) : rdF (T n) = .inr (n, 1) := by
  unfold rdF
  rw [partition_none tl_slash T_free]
  show (if sgnL (tl (T n)) = true then (if Str.empty = Str.empty then Sum.inr (iv (T n), (1 : Int)) else _) else _) = _
  rw [if_pos (T_sgn h), if_pos (show Str.empty = Str.empty from rfl), iv_of (T_int h)]
theorem rd_TT {n d : Int} (h : n.natAbs < 10 ^ 30) (h1 : 1 ≤ d) (h2 : d < 10 ^ 30) : rdF (T n ++ slash ++ T d) = .inr (n, d) := by
  unfold rdF
  rw [partition_app tl_slash T_free]
  simp only []
  rw [if_pos (T_sgn h), if_neg slash_ne, if_pos (T_pos h1 h2), iv_of (T_int h), iv_of (T_int (by omega))]
theorem rd_nil : rdF Str.empty = .inl 0 := by decide +kernel
end ZS
namespace ZS
open PySem TL PySem.NumText
theorem starts_minus (z : Str) : Txt.startswith z (Str.ofString "-") = decide ((tl z).head? = some 45) := by
  have em : tl (Str.ofString "-") = [45] := by decide +kernel
  have el : (Str.ofString "-").length = 1 := by decide +kernel
  unfold Txt.startswith
  rw [StrLaws.subAt_eq, el, show (Str.ofString "-").cps.toList = [45] from em, len_tl, show z.cps.toList = tl z from rfl, List.drop_zero]
  cases tl z with
  | nil => rfl
  | cons c r =>
    show (decide (0 + 1 ≤ r.length + 1) && (([c] : List Nat) == [45])) = _
    rw [decide_eq_true (by omega), Bool.true_and]
    by_cases h : c = 45
    · subst h
      rfl
    · rw [decide_eq_false (by simpa using h)]
      simpa using h
end ZS
namespace ZS
open PySem TL
theorem join1 (y x : Str) : Txt.join y [x] = x := by
  refine ext_tl ?_
  rw [join_eq, tl_join]
  rfl
theorem join2 (y a b : Str) : Txt.join y [a, b] = a ++ y ++ b := by
  refine ext_tl ?_
  rw [join_eq, tl_join, tl_append, tl_append, List.append_assoc]
  rfl
end ZS
namespace ZS
open PySem TL PySem.NumText
/-- the law's own look: the digits d of the word l -/
def intB (d l : List Nat) : Bool := decide (1 ≤ d.length ∧ d.length ≤ 30) && (d.all dig && (!(d.head? == some 48) || decide (l = [48])))
theorem int_minus {l : List Nat} (h : l.head? = some 45) : sgnL l = intB l.tail l := by
  unfold sgnL intB posL
  rw [if_pos h]
  have : decide (l = [48]) = false := by
    refine decide_eq_false ?_
    rintro rfl
    simp at h
  rw [this, Bool.or_false]
  cases decide (1 ≤ l.tail.length ∧ l.tail.length ≤ 30) <;> cases l.tail.all dig <;> cases (l.tail.head? == some 48) <;> rfl
theorem int_plain {l : List Nat} (h : ¬ l.head? = some 45) : sgnL l = intB l l := by
  unfold sgnL intB posL
  rw [if_neg h]
  by_cases e : l = [48]
  · subst e
    rfl
  · rw [decide_eq_false e, Bool.false_or, Bool.or_false]
    cases decide (1 ≤ l.length ∧ l.length ≤ 30) <;> cases l.all dig <;> cases (l.head? == some 48) <;> rfl
theorem take1 {l : List Nat} : l.take 1 = [45] ↔ l.head? = some 45 := by
  cases l with
  | nil => simp
  | cons c r => simp
end ZS
namespace ZS
open PySem TL
theorem rd_plain {z : Str} (h : Txt.partition z slash = (z, Str.empty, Str.empty)) : rdF z = if sgnL (tl z) = true then .inr (iv z, 1) else .inl 0 := by
  unfold rdF
  rw [h]
  show (if sgnL (tl z) = true then (if Str.empty = Str.empty then Sum.inr (iv z, (1 : Int)) else _) else _) = _
  rw [if_pos (show Str.empty = Str.empty from rfl)]
theorem rd_two {z t b : Str} (h : Txt.partition z slash = (t, slash, b)) : rdF z = if sgnL (tl t) = true then (if posL (tl b) = true then .inr (iv t, iv b) else .inl 1) else .inl 0 := by
  unfold rdF
  rw [h]
  show (if sgnL (tl t) = true then (if slash = Str.empty then _ else if posL (tl b) = true then Sum.inr (iv t, iv b) else Sum.inl (1 : Int)) else _) = _
  rw [if_neg slash_ne]
end ZS
namespace ZS
open PySem TL
theorem joinL_len : ∀ l : List (List Nat), l ≠ [] → (joinL [47] l).length + 1 = (l.map List.length).sum + l.length
  | [], h => absurd rfl h
  | [p], _ => by simp [joinL]
  | p :: q :: r, _ => by
    have ih := joinL_len (q :: r) (by simp)
    show (p ++ ([47] ++ joinL [47] (q :: r))).length + 1 = _
    rw [List.length_append, List.length_append]
    simp only [List.map_cons, List.sum_cons, List.length_cons] at ih ⊢
    simp only [List.length_nil]
    omega
theorem join_len {ys : List Str} (h : ys ≠ []) : (Txt.join slash ys).length + 1 = (ys.map (·.length)).sum + ys.length := by
  have h1 := joinL_len (ys.map tl) (by simpa using h)
  have e : (ys.map tl).map List.length = ys.map (·.length) := by
    rw [List.map_map]
    refine List.map_congr_left fun z _ => ?_
    exact (len_tl z).symm
  rw [e, List.length_map] at h1
  rw [← h1, len_tl, join_eq, tl_join, tl_slash]
theorem sum_set : ∀ (l : List Nat) (i x : Nat), (l.set i x).sum ≤ l.sum + x
  | [], _, _ => by simp
  | a :: l, 0, x => by
    simp only [List.set_cons_zero, List.sum_cons]
    omega
  | a :: l, i + 1, x => by
    have := sum_set l i x
    simp only [List.set_cons_succ, List.sum_cons]
    omega
theorem split_sum (z : Str) : ((Txt.split z slash).map (·.length)).sum + (Txt.split z slash).length = z.length + 1 := by
  obtain ⟨w, ws, e⟩ := split_ne z
  rw [← join_len (by rw [e]; simp), join_eq, StrLaws.join_split]
theorem set_join (z m : Str) (j : Nat) : (((Txt.split z slash).set j m).map (·.length)).sum + ((Txt.split z slash).set j m).length ≤ z.length + 1 + m.length ∧ (Txt.join slash ((Txt.split z slash).set j m)).length ≤ z.length + m.length := by
  have h1 := split_sum z
  have h2 := sum_set ((Txt.split z slash).map (·.length)) j m.length
  have e : ((Txt.split z slash).set j m).map (·.length) = ((Txt.split z slash).map (·.length)).set j m.length := List.map_set
  obtain ⟨w, ws, ew⟩ := split_ne z
  have h3 := join_len (ys := (Txt.split z slash).set j m) (by
    intro h
    have := congrArg List.length h
    rw [List.length_set, ew] at this
    simp at this)
  rw [List.length_set, e] at *
  omega
end ZS

set_option linter.all false
namespace OM
variable {α : Type} [DecidableEq α]
inductive Rch (E : List (α × α)) : α → α → Prop
  | refl (a : α) : Rch E a a
  | step {a b c : α} : (a, b) ∈ E → Rch E b c → Rch E a c
theorem Rch.trans {E : List (α × α)} {a b c : α} (h : Rch E a b) (k : Rch E b c) : Rch E a c := by
  induction h with
  | refl => exact k
  | step e _ ih => exact .step e (ih k)
theorem Rch.one {E : List (α × α)} {a b : α} (h : (a, b) ∈ E) : Rch E a b := .step h (.refl _)
theorem Rch.mono {E F : List (α × α)} (hs : ∀ p ∈ E, Rch F p.1 p.2) {a b : α} (h : Rch E a b) : Rch F a b := by
  induction h with
  | refl => exact .refl _
  | step e _ ih => exact (hs _ e).trans ih
theorem Rch.mem {E : List (α × α)} {N : List α} (hE : ∀ p ∈ E, p.1 ∈ N ∧ p.2 ∈ N) {a b : α} (h : Rch E a b) : a = b ∨ (a ∈ N ∧ b ∈ N) := by
  induction h with
  | refl => exact .inl rfl
  | step e _ ih =>
    rcases ih with rfl | h
    · exact .inr (hE _ e)
    · exact .inr ⟨(hE _ e).1, h.2⟩
open Classical in
noncomputable def cl (E : List (α × α)) (a b : α) : Bool := decide (Rch E a b)
theorem cl_iff {E : List (α × α)} {a b : α} : cl E a b = true ↔ Rch E a b := by simp [cl]
theorem cl_false {E : List (α × α)} {a b : α} : cl E a b = false ↔ ¬ Rch E a b := by simp [cl]
theorem cl_refl (E : List (α × α)) (a : α) : cl E a a = true := cl_iff.mpr (.refl a)
theorem cl_trans {E : List (α × α)} {a b c : α} (h : cl E a b = true) (k : cl E b c = true) : cl E a c = true := cl_iff.mpr ((cl_iff.mp h).trans (cl_iff.mp k))
theorem cl_congr {E F : List (α × α)} (h : ∀ p ∈ E, Rch F p.1 p.2) (k : ∀ p ∈ F, Rch E p.1 p.2) : cl E = cl F := by
  funext a b
  rw [Bool.eq_iff_iff, cl_iff, cl_iff]
  exact ⟨Rch.mono h, Rch.mono k⟩
/-! ### Warshall -/
def wm (E : List (α × α)) : List α → α → α → Bool
  | [], a, b => decide (a = b) || decide ((a, b) ∈ E)
  | m :: ms, a, b => wm E ms a b || (wm E ms a m && wm E ms m b)
theorem wm_mono {E : List (α × α)} {m : α} {ms : List α} {a b : α} (h : wm E ms a b = true) : wm E (m :: ms) a b = true := by simp [wm, h]
theorem wm_base {E : List (α × α)} {a b : α} (h : wm E [] a b = true) : ∀ ms, wm E ms a b = true
  | [] => h
  | _ :: ms => wm_mono (wm_base h ms)
theorem wm_refl (E : List (α × α)) (ms : List α) (a : α) : wm E ms a a = true := wm_base (by simp [wm]) ms
theorem wm_edge {E : List (α × α)} {a b : α} (h : (a, b) ∈ E) (ms : List α) : wm E ms a b = true := wm_base (by simp [wm, h]) ms
theorem wm_trans {E : List (α × α)} : ∀ {ms : List α} {m a b : α}, m ∈ ms → wm E ms a m = true → wm E ms m b = true → wm E ms a b = true
  | m' :: ms, m, a, b, hm, h1, h2 => by
    simp only [wm, Bool.or_eq_true, Bool.and_eq_true] at h1 h2 ⊢
    by_cases e : m = m'
    · subst e
      have h1' : wm E ms a m = true := by rcases h1 with h | h; exact h; exact h.1
      have h2' : wm E ms m b = true := by rcases h2 with h | h; exact h; exact h.2
      exact .inr ⟨h1', h2'⟩
    · have hm : m ∈ ms := by
        rcases List.mem_cons.mp hm with h | h
        · exact absurd h e
        · exact h
      rcases h1 with h1 | ⟨h1, h1'⟩ <;> rcases h2 with h2 | ⟨h2, h2'⟩
      · exact .inl (wm_trans hm h1 h2)
      · exact .inr ⟨wm_trans hm h1 h2, h2'⟩
      · exact .inr ⟨h1, wm_trans hm h1' h2⟩
      · exact .inr ⟨h1, h2'⟩
theorem wm_rch {E : List (α × α)} : ∀ {ms : List α} {a b : α}, wm E ms a b = true → Rch E a b
  | [], a, b, h => by
    simp only [wm, Bool.or_eq_true, decide_eq_true_eq] at h
    rcases h with rfl | h
    · exact .refl _
    · exact .one h
  | m :: ms, a, b, h => by
    simp only [wm, Bool.or_eq_true, Bool.and_eq_true] at h
    rcases h with h | ⟨h, k⟩
    · exact wm_rch h
    · exact (wm_rch h).trans (wm_rch k)
theorem rch_wm {E : List (α × α)} {ms : List α} (hE : ∀ p ∈ E, p.2 ∈ ms) {a b : α} (h : Rch E a b) : wm E ms a b = true := by
  induction h with
  | refl => exact wm_refl _ _ _
  | step e _ ih => exact wm_trans (hE _ e) (wm_edge e ms) ih
theorem wm_cl {E : List (α × α)} {ms : List α} (hE : ∀ p ∈ E, p.2 ∈ ms) : wm E ms = cl E := by
  funext a b
  rw [Bool.eq_iff_iff, cl_iff]
  exact ⟨wm_rch, rch_wm hE⟩
/-! ### paths of a length -/
def Pth (E : List (α × α)) : Nat → α → α → Prop
  | 0, a, b => a = b
  | k + 1, a, b => a = b ∨ ∃ c, (a, c) ∈ E ∧ Pth E k c b
theorem Pth.refl (E : List (α × α)) : ∀ (k : Nat) (a : α), Pth E k a a
  | 0, _ => rfl
  | _ + 1, _ => .inl rfl
theorem Pth.succ {E : List (α × α)} : ∀ {k : Nat} {a b : α}, Pth E k a b → Pth E (k + 1) a b
  | 0, _, _, h => .inl h
  | k + 1, _, _, h => by
    rcases h with rfl | ⟨c, e, h⟩
    · exact .inl rfl
    · exact .inr ⟨c, e, h.succ⟩
theorem Pth.le {E : List (α × α)} {k j : Nat} (h : k ≤ j) {a b : α} (p : Pth E k a b) : Pth E j a b := by
  induction h with
  | refl => exact p
  | step _ ih => exact ih.succ
theorem rch_pth {E : List (α × α)} {a b : α} (h : Rch E a b) : ∃ k, Pth E k a b := by
  induction h with
  | refl => exact ⟨0, rfl⟩
  | step e _ ih => exact ⟨ih.choose + 1, .inr ⟨_, e, ih.choose_spec⟩⟩
theorem Pth.mem {E : List (α × α)} {N : List α} (hE : ∀ p ∈ E, p.1 ∈ N ∧ p.2 ∈ N) : ∀ {k : Nat} {a b : α}, Pth E k a b → b ∈ N → a ∈ N
  | 0, _, _, h, hb => h ▸ hb
  | k + 1, _, _, h, hb => by
    rcases h with rfl | ⟨c, e, _⟩
    · exact hb
    · exact (hE _ e).1
open Classical in
theorem stall {E : List (α × α)} {b : α} {k : Nat} (h : ∀ a, Pth E (k + 1) a b → Pth E k a b) : ∀ j a, Pth E j a b → Pth E k a b
  | 0, a, p => by
    cases p
    exact Pth.refl _ _ _
  | j + 1, a, p => by
    rcases p with rfl | ⟨c, e, p⟩
    · exact Pth.refl _ _ _
    · exact h a (.inr ⟨c, e, stall h j c p⟩)
theorem filter_sub_eq {p q : α → Bool} : ∀ {l : List α}, (∀ a ∈ l, p a = true → q a = true) → (l.filter q).length ≤ (l.filter p).length → ∀ a ∈ l, q a = true → p a = true
  | [], _, _, a, ha, _ => by cases ha
  | x :: l, hs, hl, a, ha, hq => by
    have hs' : ∀ a ∈ l, p a = true → q a = true := fun a h => hs a (List.mem_cons_of_mem _ h)
    have le : (l.filter p).length ≤ (l.filter q).length := by
      clear hl hq ha
      induction l with
      | nil => exact Nat.le_refl _
      | cons y l ih =>
        have ih := ih (fun a h => hs a (by
          rcases List.mem_cons.mp h with h | h
          · exact h ▸ List.mem_cons_self
          · exact List.mem_cons_of_mem _ (List.mem_cons_of_mem _ h))) fun a h => hs' a (List.mem_cons_of_mem _ h)
        have := hs' y List.mem_cons_self
        simp only [List.filter_cons]
        by_cases h1 : p y = true
        · rw [if_pos h1, if_pos (this h1)]
          simp; omega
        · rw [if_neg h1]
          split
          · simp; omega
          · exact ih
    have hx := hs x List.mem_cons_self
    simp only [List.filter_cons] at hl
    by_cases h1 : p x = true
    · rw [if_pos h1, if_pos (hx h1)] at hl
      rcases List.mem_cons.mp ha with h | h
      · exact h ▸ h1
      · exact filter_sub_eq hs' (by simpa using hl) a h hq
    · rw [if_neg h1] at hl
      by_cases h2 : q x = true
      · rw [if_pos h2] at hl
        simp at hl
        omega
      · rw [if_neg h2] at hl
        rcases List.mem_cons.mp ha with h | h
        · exact absurd (h ▸ hq) h2
        · exact filter_sub_eq hs' hl a h hq
open Classical in
theorem grows {E : List (α × α)} {N : List α} (hE : ∀ p ∈ E, p.1 ∈ N ∧ p.2 ∈ N) {b : α} (hb : b ∈ N) : ∀ k, (∀ a, Pth E (k + 1) a b → Pth E k a b) ∨ k + 1 ≤ (N.filter fun a => decide (Pth E k a b)).length
  | 0 => by
    right
    have : b ∈ N.filter fun a => decide (Pth E 0 a b) := List.mem_filter.mpr ⟨hb, by simp [Pth]⟩
    have := List.length_pos_of_mem this
    omega
  | k + 1 => by
    rcases grows hE hb k with h | h
    · exact .inl fun a p => (stall h _ a p).succ
    · by_cases q : k + 2 ≤ (N.filter fun a => decide (Pth E (k + 1) a b)).length
      · exact .inr q
      · left
        have st : ∀ a, Pth E (k + 1) a b → Pth E k a b := fun a p => by
          have := filter_sub_eq (l := N) (p := fun a => decide (Pth E k a b)) (q := fun a => decide (Pth E (k + 1) a b)) (fun a _ h => by simpa using (of_decide_eq_true h).succ) (by omega) a (p.mem hE hb) (by simpa using p)
          simpa using this
        exact fun a p => (stall st _ a p).succ
open Classical in
theorem rch_short {E : List (α × α)} {N : List α} (hE : ∀ p ∈ E, p.1 ∈ N ∧ p.2 ∈ N) {a b : α} (h : Rch E a b) : Pth E N.length a b := by
  rcases h.mem hE with rfl | ⟨_, hb⟩
  · exact Pth.refl _ _ _
  · obtain ⟨j, p⟩ := rch_pth h
    rcases grows hE hb N.length with q | q
    · exact stall q j a p
    · have := List.length_filter_le (fun a => decide (Pth E N.length a b)) N
      omega
/-! ### the law's own closure -/
def put (f : α → List α) (a : α) (l : List α) : α → List α := fun x => if x = a then l else f x
def turn1 (f : α → List α) (p : α × α) : α → List α := put f p.1 (f p.1 ++ (f p.2).filter fun x => !decide (x ∈ f p.1))
def turn (E : List (α × α)) (f : α → List α) : α → List α := E.foldl turn1 f
def turns (E : List (α × α)) : Nat → (α → List α) → α → List α
  | 0, f => f
  | n + 1, f => turns E n (turn E f)
theorem turn1_mono {f : α → List α} {p : α × α} {a b : α} (h : b ∈ f a) : b ∈ turn1 f p a := by
  unfold turn1 put
  split
  · rename_i e
    subst e
    exact List.mem_append_left _ h
  · exact h
theorem turn_mono {E : List (α × α)} : ∀ {f : α → List α} {a b : α}, b ∈ f a → b ∈ turn E f a := by
  induction E with
  | nil => exact fun h => h
  | cons p E ih => exact fun h => ih (turn1_mono h)
theorem turn_edge {E : List (α × α)} : ∀ {f : α → List α} {p : α × α} {b : α}, p ∈ E → b ∈ f p.2 → b ∈ turn E f p.1 := by
  induction E with
  | nil => intro f p b h; cases h
  | cons q E ih =>
    intro f p b h hb
    rcases List.mem_cons.mp h with rfl | h
    · show b ∈ turn E (turn1 f p) p.1
      refine turn_mono ?_
      unfold turn1 put
      rw [if_pos rfl]
      by_cases e : b ∈ f p.1
      · exact List.mem_append_left _ e
      · exact List.mem_append_right _ (List.mem_filter.mpr ⟨hb, by simp [e]⟩)
    · exact ih h (turn1_mono hb)
theorem turns_succ (E : List (α × α)) : ∀ (n : Nat) (f : α → List α), turns E (n + 1) f = turn E (turns E n f)
  | 0, _ => rfl
  | n + 1, f => turns_succ E n (turn E f)
theorem turns_pth {E : List (α × α)} : ∀ {k : Nat} {a b : α}, Pth E k a b → b ∈ turns E k (fun x => [x]) a
  | 0, a, b, h => by
    cases h
    exact List.mem_singleton.mpr rfl
  | k + 1, a, b, h => by
    rw [turns_succ]
    rcases h with rfl | ⟨c, e, h⟩
    · exact turn_mono (turns_pth (Pth.refl E k a))
    · exact turn_edge (p := (a, c)) e (turns_pth h)
theorem turn1_sound {E : List (α × α)} {f : α → List α} {p : α × α} (hp : p ∈ E) (h : ∀ a b, b ∈ f a → Rch E a b) : ∀ a b, b ∈ turn1 f p a → Rch E a b := by
  intro a b hb
  unfold turn1 put at hb
  split at hb
  · rename_i e
    subst e
    rcases List.mem_append.mp hb with hb | hb
    · exact h _ _ hb
    · exact .step hp (h _ _ (List.mem_filter.mp hb).1)
  · exact h _ _ hb
theorem turn_sound {E : List (α × α)} : ∀ {F : List (α × α)} {f : α → List α}, (∀ p ∈ F, p ∈ E) → (∀ a b, b ∈ f a → Rch E a b) → ∀ a b, b ∈ turn F f a → Rch E a b := by
  intro F
  induction F with
  | nil => exact fun _ h => h
  | cons p F ih => exact fun hs h => ih (fun q hq => hs q (List.mem_cons_of_mem _ hq)) (turn1_sound (hs p List.mem_cons_self) h)
theorem turns_sound {E : List (α × α)} : ∀ {k : Nat} {a b : α}, b ∈ turns E k (fun x => [x]) a → Rch E a b
  | 0, a, b, h => by
    rw [List.mem_singleton.mp h]
    exact .refl _
  | k + 1, a, b, h => by
    rw [turns_succ] at h
    exact turn_sound (fun _ h => h) (fun _ _ h => turns_sound h) a b h
theorem turn1_nodup {f : α → List α} {p : α × α} (h : ∀ a, (f a).Nodup) : ∀ a, (turn1 f p a).Nodup := by
  intro a
  unfold turn1 put
  split
  · refine List.nodup_append.mpr ⟨h _, (h _).filter _, ?_⟩
    intro x hx y hy e
    subst e
    have := (List.mem_filter.mp hy).2
    simp [hx] at this
  · exact h a
theorem turn_nodup : ∀ {F : List (α × α)} {f : α → List α}, (∀ a, (f a).Nodup) → ∀ a, (turn F f a).Nodup := by
  intro F
  induction F with
  | nil => exact fun h => h
  | cons p F ih => exact fun h => ih (turn1_nodup h)
theorem turns_nodup {E : List (α × α)} : ∀ {k : Nat} (a : α), (turns E k (fun x => [x]) a).Nodup
  | 0, a => by simp [turns]
  | k + 1, a => by
    rw [turns_succ]
    exact turn_nodup (fun a => turns_nodup a) a
/-- what the law's closure has -/
theorem turns_iff {E : List (α × α)} {N : List α} (hE : ∀ p ∈ E, p.1 ∈ N ∧ p.2 ∈ N) {a b : α} : b ∈ turns E N.length (fun x => [x]) a ↔ cl E a b = true := by
  rw [cl_iff]
  exact ⟨turns_sound, fun h => turns_pth (rch_short hE h)⟩
end OM

set_option linter.all false
namespace OM
variable {α : Type} [DecidableEq α]
/-! ### pairs and covers -/
def ab (N : List α) (R : α → α → Bool) (a : α) : List α := N.filter (R a)
def prs (N : List α) (R : α → α → Bool) : List (α × α) := N.flatMap fun a => ((ab N R a).filter fun b => !decide (a = b)).map fun b => (a, b)
def btw (N : List α) (R : α → α → Bool) (a b : α) : List α := (ab N R a).filter fun c => R c b
def cvs (N : List α) (R : α → α → Bool) : List (α × α) := (prs N R).filter fun p => decide ((btw N R p.1 p.2).length = 2)
theorem mem_ab {N : List α} {R : α → α → Bool} {a b : α} : b ∈ ab N R a ↔ b ∈ N ∧ R a b = true := List.mem_filter
theorem mem_prs {N : List α} {R : α → α → Bool} {a b : α} : (a, b) ∈ prs N R ↔ a ∈ N ∧ b ∈ N ∧ R a b = true ∧ a ≠ b := by
  simp only [prs, List.mem_flatMap, List.mem_map, List.mem_filter, Prod.mk.injEq, mem_ab]
  constructor
  · rintro ⟨x, hx, y, ⟨hy, hn⟩, rfl, rfl⟩
    exact ⟨hx, hy.1, hy.2, by simpa using hn⟩
  · rintro ⟨h1, h2, h3, h4⟩
    exact ⟨a, h1, b, ⟨⟨h2, h3⟩, by simpa using h4⟩, rfl, rfl⟩
theorem mem_btw {N : List α} {R : α → α → Bool} {a b c : α} : c ∈ btw N R a b ↔ c ∈ N ∧ R a c = true ∧ R c b = true := by
  simp only [btw, List.mem_filter, mem_ab, and_assoc]
theorem mem_cvs {N : List α} {R : α → α → Bool} {a b : α} : (a, b) ∈ cvs N R ↔ (a ∈ N ∧ b ∈ N ∧ R a b = true ∧ a ≠ b) ∧ (btw N R a b).length = 2 := by
  simp only [cvs, List.mem_filter, mem_prs, decide_eq_true_eq]
theorem nodup_two {l : List α} (h : l.Nodup) {a b : α} (ha : a ∈ l) (hb : b ∈ l) (ne : a ≠ b) : l.length = 2 + (l.filter fun c => !decide (c = a) && !decide (c = b)).length := by
  have one : ∀ {l : List α} {a : α}, l.Nodup → a ∈ l → l.length = 1 + (l.filter fun c => !decide (c = a)).length := by
    intro l a
    induction l with
    | nil => intro _ h; cases h
    | cons x l ih =>
      intro hn hm
      obtain ⟨h1, h2⟩ := List.nodup_cons.mp hn
      by_cases e : x = a
      · subst e
        have : l.filter (fun c => !decide (c = x)) = l := List.filter_eq_self.mpr fun c hc => by
          have : c ≠ x := fun e => h1 (e ▸ hc)
          simpa using this
        simp [this]
        omega
      · have hm : a ∈ l := by
          rcases List.mem_cons.mp hm with h | h
          · exact absurd h.symm e
          · exact h
        have := ih h2 hm
        simp [e]
        omega
  have h1 := one h ha
  have h2 := one (a := b) (h.filter fun c => !decide (c = a)) (List.mem_filter.mpr ⟨hb, by simpa using Ne.symm ne⟩)
  rw [List.filter_filter] at h2
  have e : (l.filter fun c => (!decide (c = b)) && !decide (c = a)) = l.filter fun c => !decide (c = a) && !decide (c = b) := by
    congr 1
    funext c
    exact Bool.and_comm _ _
  rw [e] at h2
  omega
theorem btw_two {N : List α} {R : α → α → Bool} (hN : N.Nodup) (hr : ∀ a, R a a = true) {a b : α} (ha : a ∈ N) (hb : b ∈ N) (h : R a b = true) (ne : a ≠ b) :
    (btw N R a b).length = 2 ↔ ∀ c ∈ N, R a c = true → R c b = true → c = a ∨ c = b := by
  have hn : (btw N R a b).Nodup := (hN.filter _).filter _
  have := nodup_two hn (mem_btw.mpr ⟨ha, hr a, h⟩) (mem_btw.mpr ⟨hb, h, hr b⟩) ne
  rw [this]
  constructor
  · intro e c hc h1 h2
    have z : ((btw N R a b).filter fun c => !decide (c = a) && !decide (c = b)) = [] := List.eq_nil_of_length_eq_zero (by omega)
    have := List.filter_eq_nil_iff.mp z c (mem_btw.mpr ⟨hc, h1, h2⟩)
    simp at this
    by_cases e : c = a
    · exact .inl e
    · exact .inr (this e)
  · intro k
    have z : ((btw N R a b).filter fun c => !decide (c = a) && !decide (c = b)) = [] := List.filter_eq_nil_iff.mpr fun c hc => by
      obtain ⟨hc, h1, h2⟩ := mem_btw.mp hc
      rcases k c hc h1 h2 with e | e <;> simp [e]
    rw [z]
    rfl
/-- covers as the law finds them: f tells what is above -/
def lcv (N : List α) (f : α → List α) (g : α → List α) : List (α × α) := N.flatMap fun a => ((g a).filter fun b => !decide (b = a) && decide (((f a).filter fun c => !(decide (c = a) || decide (c = b)) && decide (b ∈ f c)) = [])).map fun b => (a, b)
theorem lcv_eq {N : List α} {R : α → α → Bool} {f : α → List α} (hN : N.Nodup) (hr : ∀ a, R a a = true) (hf : ∀ a ∈ N, ∀ b, b ∈ f a ↔ b ∈ N ∧ R a b = true) : lcv N f (ab N R) = cvs N R := by
  unfold lcv cvs prs
  rw [List.filter_flatMap]
  have cong : ∀ {l : List α} {F G : α → List (α × α)}, (∀ a ∈ l, F a = G a) → l.flatMap F = l.flatMap G := by
    intro l F G h
    induction l with
    | nil => rfl
    | cons x l ih => rw [List.flatMap_cons, List.flatMap_cons, h x List.mem_cons_self, ih fun a ha => h a (List.mem_cons_of_mem _ ha)]
  refine cong fun a ha => ?_
  rw [List.filter_map, List.filter_filter]
  congr 1
  refine List.filter_congr fun b hb => ?_
  obtain ⟨hb, hR⟩ := mem_ab.mp hb
  by_cases e : b = a
  · simp [e]
  · have e' : ¬ a = b := fun z => e z.symm
    simp only [Function.comp, e, e', decide_false, Bool.not_false, Bool.true_and, Bool.and_true]
    refine decide_eq_decide.mpr ?_
    rw [btw_two hN hr ha hb hR e', List.filter_eq_nil_iff]
    constructor
    · intro k c hc h1 h2
      have := k c ((hf a ha c).mpr ⟨hc, h1⟩)
      have := this
      simp [(hf c hc b).mpr ⟨hb, h2⟩] at this
      by_cases z : c = a
      · exact .inl z
      · exact .inr (this z)
    · intro k c hc
      obtain ⟨hc, h1⟩ := (hf a ha c).mp hc
      by_cases h2 : b ∈ f c
      · rcases k c hc h1 ((hf c hc b).mp h2).2 with z | z <;> simp [z]
      · simp [h2]
/-- covers tell the order -/
theorem cvs_rch {N : List α} {R : α → α → Bool} (hN : N.Nodup) (hr : ∀ a, R a a = true) (ht : ∀ a b c, R a b = true → R b c = true → R a c = true) (hs : ∀ a b, a ∈ N → b ∈ N → R a b = true → R b a = true → a = b) :
    ∀ (n : Nat) (a b : α), (btw N R a b).length ≤ n → a ∈ N → b ∈ N → R a b = true → Rch (cvs N R) a b
  | 0, a, b, h, ha, hb, k => by
    have := List.length_pos_of_mem (mem_btw.mpr ⟨ha, hr a, k⟩)
    omega
  | n + 1, a, b, h, ha, hb, k => by
    by_cases e : a = b
    · exact e ▸ .refl _
    by_cases two : (btw N R a b).length = 2
    · exact .one (mem_cvs.mpr ⟨⟨ha, hb, k, e⟩, two⟩)
    · rw [btw_two hN hr ha hb k e] at two
      obtain ⟨c, hc, h1, h2, ca, cb⟩ : ∃ c, c ∈ N ∧ R a c = true ∧ R c b = true ∧ c ≠ a ∧ c ≠ b := by
        refine Classical.byContradiction fun no => two fun c hc h1 h2 => ?_
        by_cases z : c = a
        · exact .inl z
        · exact .inr (Classical.byContradiction fun z2 => no ⟨c, hc, h1, h2, z, z2⟩)
      have less : ∀ x y z, x ∈ btw N R a b → x ∉ btw N R y z → (∀ w, w ∈ btw N R y z → w ∈ btw N R a b) → (btw N R y z).length ≤ n := by
        intro x y z hx hn hsub
        have nd : (x :: btw N R y z).Nodup := List.nodup_cons.mpr ⟨hn, (hN.filter _).filter _⟩
        have := nd.length_le_of_subset (l₂ := btw N R a b) fun w hw => by
          rcases List.mem_cons.mp hw with rfl | hw
          · exact hx
          · exact hsub w hw
        simp at this
        omega
      refine (cvs_rch hN hr ht hs n a c (less b a c (mem_btw.mpr ⟨hb, k, hr b⟩) (fun z => cb (hs _ _ hc hb h2 (mem_btw.mp z).2.2)) fun w hw => ?_) ha hc h1).trans
        (cvs_rch hN hr ht hs n c b (less a c b (mem_btw.mpr ⟨ha, hr a, k⟩) (fun z => ca (hs _ _ hc ha (mem_btw.mp z).2.1 h1)) fun w hw => ?_) hc hb h2)
      · obtain ⟨x, y, z⟩ := mem_btw.mp hw
        exact mem_btw.mpr ⟨x, y, ht _ _ _ z h2⟩
      · obtain ⟨x, y, z⟩ := mem_btw.mp hw
        exact mem_btw.mpr ⟨x, ht _ _ _ h1 y, z⟩
/-- no two below each other -/
def Anti (E : List (α × α)) : Prop := ∀ a b, Rch E a b → Rch E b a → a = b
theorem cvs_cl {E : List (α × α)} {N : List α} (hN : N.Nodup) (hE : ∀ p ∈ E, p.1 ∈ N ∧ p.2 ∈ N) (ha : Anti E) : cl (cvs N (cl E)) = cl E := by
  refine cl_congr (fun p hp => ?_) fun p hp => ?_
  · exact cl_iff.mp (mem_cvs.mp hp).1.2.2.1
  · exact cvs_rch hN (cl_refl E) (fun _ _ _ => cl_trans) (fun a b _ _ h k => ha a b (cl_iff.mp h) (cl_iff.mp k)) _ _ _ (Nat.le_refl _) (hE _ hp).1 (hE _ hp).2 (cl_iff.mpr (.one hp))
theorem prs_cl {E : List (α × α)} {N : List α} (hE : ∀ p ∈ E, p.1 ∈ N ∧ p.2 ∈ N) : cl (prs N (cl E)) = cl E := by
  refine cl_congr (fun p hp => cl_iff.mp (mem_prs.mp hp).2.2.1) fun p hp => ?_
  by_cases e : p.1 = p.2
  · rw [e]; exact .refl _
  · exact .one (mem_prs.mpr ⟨(hE _ hp).1, (hE _ hp).2, cl_iff.mpr (.one hp), e⟩)
/-- one pair more -/
theorem rch_more {E : List (α × α)} {l h a b : α} : Rch (E ++ [(l, h)]) a b ↔ Rch E a b ∨ (Rch E a l ∧ Rch E h b) := by
  constructor
  · intro k
    induction k with
    | refl => exact .inl (.refl _)
    | step e _ ih =>
      rcases List.mem_append.mp e with e | e
      · rcases ih with ih | ⟨ih, k⟩
        · exact .inl (.step e ih)
        · exact .inr ⟨.step e ih, k⟩
      · cases List.mem_singleton.mp e
        rcases ih with ih | ⟨ih, k⟩
        · exact .inr ⟨.refl _, ih⟩
        · exact .inr ⟨.refl _, k⟩
  · have up : ∀ {a b}, Rch E a b → Rch (E ++ [(l, h)]) a b := Rch.mono fun p hp => .one (List.mem_append_left _ hp)
    rintro (k | ⟨k1, k2⟩)
    · exact up k
    · exact (up k1).trans (.step (List.mem_append_right _ (List.mem_singleton.mpr rfl)) (up k2))
theorem anti_more {E : List (α × α)} {l h : α} (ha : Anti E) (hn : ¬ Rch E h l) : Anti (E ++ [(l, h)]) := by
  intro a b k1 k2
  rw [rch_more] at k1 k2
  rcases k1 with k1 | ⟨k1, k1'⟩ <;> rcases k2 with k2 | ⟨k2, k2'⟩
  · exact ha _ _ k1 k2
  · exact absurd (k2'.trans (k1.trans k2)) hn
  · exact absurd (k1'.trans (k2.trans k1)) hn
  · exact absurd (k1'.trans k2) hn
theorem cl_more {E : List (α × α)} {N : List α} {l h : α} (hl : l ∈ N) (hh : h ∈ N) : (∀ a ∈ N, ∀ b ∈ N, cl E a b = cl (E ++ [(l, h)]) a b) ↔ cl E l h = true := by
  constructor
  · intro k
    rw [k l hl h hh, cl_iff, rch_more]
    exact .inr ⟨.refl _, .refl _⟩
  · intro k a _ b _
    rw [Bool.eq_iff_iff, cl_iff, cl_iff, rch_more]
    constructor
    · exact .inl
    · rintro (q | ⟨q1, q2⟩)
      · exact q
      · exact (q1.trans (cl_iff.mp k)).trans q2
/-- pairs along a line -/
theorem anti_rank {E : List (α × α)} (r : α → Nat) (h : ∀ p ∈ E, p.1 = p.2 ∨ r p.1 < r p.2) : Anti E := by
  have up : ∀ {a b}, Rch E a b → a = b ∨ r a < r b := by
    intro a b k
    induction k with
    | refl => exact .inl rfl
    | step e _ ih =>
      have := h _ e
      rcases this with z | z <;> rcases ih with y | y
      · exact .inl (z.trans y)
      · exact .inr (by dsimp only at z; rw [z]; exact y)
      · exact .inr (by rw [← y]; exact z)
      · exact .inr (Nat.lt_trans z y)
  intro a b k1 k2
  rcases up k1 with e | e
  · exact e
  · rcases up k2 with e2 | e2
    · exact e2.symm
    · omega
theorem anti_sub {E F : List (α × α)} (hs : ∀ p ∈ E, Rch F p.1 p.2) (h : Anti F) : Anti E := fun a b k1 k2 => h a b (k1.mono hs) (k2.mono hs)
end OM

set_option Elab.async false
set_option linter.all false
set_option maxRecDepth 100000
set_option maxHeartbeats 4000000
/-! own __contains__, __len__, __iter__ (which hands back iter of a tuple), list(o) -/
namespace Z
open PySem PySem.Spec PyProof.Rows L2
section
variable {X : Cx} {k j : Nat} {f C : Addr} {sp : Sp}
/-- x in o, o an instance with its own __contains__ -/
def rInOwn (C : Addr) (sp : Sp) (neg : Bool) : R2 := fun x y H Q => ∃ a dx fs, y = .ref a ∧ H a = some (.ins C dx fs) ∧
  sp [.ref a, x] H (fun v H' => ∃ r : Bool, v = .bl r ∧ Q (.bl (r != neg)) H') (fun _ _ _ => False)
theorem backBl {A : Around} {pins : List (Addr × Obj)} {σ : L2.St} {H : Hp} {s : Shared} {g : Bool → Bool} {Q : VK} {us : List Value} {vs : List V} (F : FnR X.prog X.w X.K X.mg X.base (L2.CX X.prog X.w) k f sp) (hr : Room k A) (e0 : Env0 X.prog X.w X.K X.mg X.base A X.stack s H)
    (I : Inv X pins σ H s) (r : Vals vs us) (h : sp vs H (fun v H' => ∃ r : Bool, v = .bl r ∧ Q (.bl (g r)) H') (fun _ _ _ => False)) :
    wpAny (model X.prog X.w) A (call (.ref f) us) (fun v s' => ∃ r : Bool, v = .bool r ∧ EP X pins σ Q (.bool (g r)) s') X.xe s := by
  refine wpAny_call (codeAny_mono (F A X.stack s H us vs _ (fun _ _ _ => False) hr e0 r h) fun q s' hq => ?_)
  rcases q with e | fl
  · exact (cxN hq).elim
  rcases fl with _ | _ | _ | u'
  · exact False.elim hq
  · exact False.elim hq
  · exact False.elim hq
  obtain ⟨v', H', J', rv, r, ev, q⟩ := I.after hq
  subst ev
  obtain rfl : u' = Value.bool r := rv
  exact ⟨r, rfl, .bl (g r), H', J', rfl, q⟩
theorem z_inOwn (c : CalO X.prog X.w X.K X.mg X.base C "__contains__" k sp) (hr : Room j X.A) (hj : k ≤ j := by decide) : OpR X (compareOp .In) (rInOwn C sp false) := by
  intro pins s σ H x y v u Q I rx ry h
  obtain ⟨f, S, sf, F⟩ := c
  obtain ⟨a, dx, fs, rfl, ea, h⟩ := h
  obtain rfl : u = Value.ref a := ry
  obtain ⟨ox, od, Ja⟩ := instAt I ea
  obtain ⟨m, fr⟩ := I.fr
  refine PySem.W.in_K fr I.ok.mod.kin Ja S.at_ S.fn (wpAny_mono (backBl (vs := [.ref a, x]) F (hr.mono hj) I.env0 I (.cons rfl (.cons rx .nil)) h) (fun v s' hv => ?_) fun _ _ z => z)
  obtain ⟨r, rfl, q⟩ := hv
  refine wpAny_truthy_bool ?_
  have e : (r != false) = r := by cases r <;> rfl
  rw [e] at q
  exact q
theorem z_notInOwn (c : CalO X.prog X.w X.K X.mg X.base C "__contains__" k sp) (hr : Room j X.A) (hj : k ≤ j := by decide) : OpR X (compareOp .NotIn) (rInOwn C sp true) := by
  intro pins s σ H x y v u Q I rx ry h
  obtain ⟨f, S, sf, F⟩ := c
  obtain ⟨a, dx, fs, rfl, ea, h⟩ := h
  obtain rfl : u = Value.ref a := ry
  obtain ⟨ox, od, Ja⟩ := instAt I ea
  obtain ⟨m, fr⟩ := I.fr
  refine PySem.W.notIn_K fr I.ok.mod.kin Ja S.at_ S.fn (wpAny_mono (backBl (vs := [.ref a, x]) F (hr.mono hj) I.env0 I (.cons rfl (.cons rx .nil)) h) (fun v s' hv => ?_) fun _ _ z => z)
  obtain ⟨r, rfl, q⟩ := hv
  refine wpAny_truthy_bool ?_
  have e : (r != true) = !r := by cases r <;> rfl
  rw [e] at q
  exact q
/-- len(o) by an own __len__ -/
def rLenOwn (C : Addr) (sp : Sp) : List V → Hp → VK → Prop := fun xs H Q => ∃ a dx fs, xs = [.ref a] ∧ H a = some (.ins C dx fs) ∧
  sp [.ref a] H (fun v H' => ∃ n : Int, v = .int n ∧ (0 ≤ n ∧ n < 2 ^ 63) ∧ Q (.int n) H') (fun _ _ _ => False)
theorem lenRun {Ex : Value → Shared → Prop} {A : Around} {pins : List (Addr × Obj)} {σ : L2.St} {H : Hp} {s : Shared} {Q : VK} {a dx : Addr} {fs : List (Str × V)} (F : FnR X.prog X.w X.K X.mg X.base (L2.CX X.prog X.w) k f sp) (S : Spc X.K C "__len__" f) (hr : Room k A.in1) (e0 : Env0 X.prog X.w X.K X.mg X.base A.in1 X.stack s H)
    (I : Inv X pins σ H s) (ea : H a = some (.ins C dx fs)) (h : sp [.ref a] H (fun v H' => ∃ n : Int, v = .int n ∧ (0 ≤ n ∧ n < 2 ^ 63) ∧ Q (.int n) H') (fun _ _ _ => False)) :
    wpAny (model X.prog X.w) A (call (.builtin "len") [.ref a]) (fun v s' => ∃ n t, v = .int n t ∧ (0 ≤ n ∧ n < 2 ^ 63) ∧ ∃ H', Inv X pins σ H' s' ∧ Q (.int n) H') Ex s := by
  obtain ⟨ox, od, Ja⟩ := instAt I ea
  obtain ⟨m, fr⟩ := I.fr
  refine PySem.W.len_K fr I.ok.mod.kin Ja S.at_ S.fn (wpAny_call (codeAny_mono (F A.in1 X.stack s H [.ref a] [.ref a] _ (fun _ _ _ => False) hr e0 (.cons rfl .nil) h) fun q s' hq => ?_))
  rcases q with e | fl
  · exact (cxN hq).elim
  rcases fl with _ | _ | _ | u'
  · exact False.elim hq
  · exact False.elim hq
  · exact False.elim hq
  obtain ⟨v', H', J', rv, n, ev, hn, q⟩ := I.after hq
  subst ev
  obtain ⟨t, rfl⟩ := rv
  exact ⟨hn, n, _, rfl, hn, H', J'.tok _, q⟩
theorem z_lenOwn (c : CalO X.prog X.w X.K X.mg X.base C "__len__" k sp) (hr : Room j X.A) (hj : k + 1 ≤ j := by decide) : CallR X (.builtin "len") (rLenOwn C sp) := by
  intro pins s σ H xs us Q I r h
  obtain ⟨f, S, sf, F⟩ := c
  obtain ⟨a, dx, fs, rfl, ea, h⟩ := h
  obtain rfl := Vals.ref1 r
  refine wpAny_mono (lenRun F S (hr.mono hj).in1 I.env0.in1 I ea h) (fun v s' hv => ?_) fun _ _ z => z
  obtain ⟨n, t, rfl, _, H', I', q⟩ := hv
  exact ⟨.int n, H', I', ⟨t, rfl⟩, q⟩
/-- iter(t), a tuple: an iterator at its start -/
def TupIt (q t : Addr) (i : Nat) : HO := .ext fun h => h.IsTupleIter q t i
theorem tupIt_ok {P : Program} {w : World} {H : Hp} {h : Heap} {q t : Addr} {i : Nat} (e : h.IsTupleIter q t i) : ObjOk P w H h q (TupIt q t i) := by
  obtain ⟨o, ho, hc, hd⟩ := id e
  refine ⟨e, ⟨o, ho⟩, fun h1 h2 ⟨o1, e1, c1, d1⟩ k => ⟨o1, k _ e1, c1, d1⟩⟩
def rIterT (K : PySem.W.Frag) : List V → Hp → VK → Prop := fun xs H Q => ∃ t ys, xs = [.ref t] ∧ SqT K H t ys ∧ ∀ q, H q = none → Q (.ref q) (upd H q (TupIt q t 0))
theorem cr_iterT : CallR X (.builtin "iter") (rIterT X.K) := by
  intro pins s σ H xs us Q I r h
  obtain ⟨t, ys, rfl, ht, h⟩ := h
  obtain rfl := Vals.ref1 r
  obtain ⟨its, rv, hl, _⟩ := I.tuple ht
  refine Calls.call_function_entry (by decide +kernel) (by decide +kernel) PySem.W.kdk_entry_iter (PySem.W.kdk_args_iter _) ?_
  unfold Builtin.«iter»
  refine wpAny_bind (m := someArgs "iter" 1 2 _) (wpAny_of_eq (a := [Value.ref t]) (by first | rfl | kernel_rfl!) ?_)
  show wpAny _ _ (pyIter (.ref t) >>= _) _ _ _
  refine wpAny_bind (wpAny_pyIter_tuple hl ?_)
  refine wpAny_pure ⟨_, rfl, .ref s.heap.objs.size, _, I.laid (a := s.heap.objs.size) (o := TupIt s.heap.objs.size t 0) (t' := s.toks) (fun b o e => Heap.get?_push_of_some _ e) (Nat.le_refl _) (tupIt_ok ⟨_, Heap.get?_push_size _ rfl, rfl, rfl⟩), rfl, h _ (I.hok.fresh (Nat.le_refl _))⟩
/-- what is known of an iterator that is used up: it stands -/
def DeadIt (q : Addr) : HO := .ext fun h => ∃ o, h.get? q = some o
theorem deadIt_ok {P : Program} {w : World} {H : Hp} {h : Heap} {q : Addr} (e : ∃ o, h.get? q = some o) : ObjOk P w H h q (DeadIt q) := ⟨e, e, fun h1 h2 ⟨o1, e1⟩ k => ⟨o1, k _ e1⟩⟩
theorem nextEnd {prog : Program} {w : World} {A : Around} {E : Value → Shared → Prop} {s : Shared} {q t : Addr} {i : Nat} {its : Array Value} {Q : Option Value → Shared → Prop} (calm : A.handled = none)
    (hit : s.heap.IsTupleIter q t i) (ht : s.heap.IsTuple t its) (out : its[i]? = none) (hQ : ∀ h', (∀ b o, b ≠ q → s.heap.get? b = some o → h'.get? b = some o) → (∃ o, h'.get? q = some o) → Q none { s with heap := h' }) :
    wpAny (model prog w) A (pyNext (.ref q)) Q E s := by
  obtain ⟨ob, ho, hc, hd⟩ := id hit
  obtain ⟨ot, hot, _, nn, hdt⟩ := ht
  have st : ∃ o, (s.heap.update q (Obj.mapFields (·.setIfInBounds 0 Value.none))).get? q = some o := ⟨_, Heap.get?_update_self _ ho (Obj.isFreed_of_fields (Obj.data_mapFields hd _))⟩
  have ot2 : ∀ b o, b ≠ q → s.heap.get? b = some o → (s.heap.update q (Obj.mapFields (·.setIfInBounds 0 Value.none))).get? b = some o := fun b o hb e => (Heap.get?_update_other s.heap _ (Ne.symm hb)).trans e
  unfold pyNext
  refine wpAny_bind (wpAny_attempt (wpAny_callSpecial?_slot (name := Str.ofString "__next__") hit.typeIs F.slot_tuple_iterator_next (wpAny_call_entry F.slot_tuple_iterator_next hit.typeIs F.entry_tuple_iterator_next ?_
    (F.args_tuple_iterator_next_1 _))))
  show wpAny _ _ (field (.ref q) 0 >>= _) _ _ s
  refine wpAny_bind (wpAny_field ho hd (x := .ref t) rfl ?_); show wpAny _ _ (if (Value.ref t == Value.none) = true then _ else _) _ _ s
  rw [if_neg (show ¬ ((Value.ref t == Value.none) = true) from Bool.false_ne_true)]; show wpAny _ _ (field (.ref q) 1 >>= _) _ _ s
  refine wpAny_bind (wpAny_field ho hd (x := .int i 0) rfl ?_); show wpAny _ _ (seqItems? (.ref t) >>= _) _ _ s
  refine wpAny_bind (wpAny_seqItems hot hdt ?_); simp only [Int.toNat_natCast, out]
  refine wpAny_bind (wpAny_rule (wpAny_bind (wpAny_setField ho hd (by simp) ?_))); show wpAny _ _ (newExc (.type "StopIteration") [] >>= _) _ _ _
  refine wpAny_bind ?_; simp only [newExc, newTuple]
  refine wpAny_bind (wpAny_newObj_type ?_ (by size_fits)); refine wpAny_bind (m := firstArgMember _ _) (wpAny_of_eq (a := Value.none) (by first | rfl | (simp only [firstArgMember]; rfl)) ?_)
  refine wpAny_newObj_type ?_ (by size_fits); simp only [raiseNew]
  refine wpAny_bind (wpAny_handled ?_); first | rw [show A.in1.handled = none from calm] | rw [calm]
  refine wpAny_bind (wpAny_pure (wpAny_throw ?_)); refine wpAny_bind (wpAny_isInstance (T := "StopIteration") (b := true) ⟨_, Heap.get?_push_size _ rfl, rfl⟩ isSubtype_stop ?_)
  refine wpAny_pure (hQ _ (fun b o hb e => Heap.get?_push_of_some _ (Heap.get?_push_of_some _ (ot2 b o hb e))) ?_)
  obtain ⟨o, e⟩ := st
  exact ⟨o, Heap.get?_push_of_some _ (Heap.get?_push_of_some _ e)⟩
/-- the walk of a tuple's iterator at q that fills the list at l -/
theorem fillLoop {pins : List (Addr × Obj)} {σ : L2.St} {H : Hp} {q t l : Addr} {ys : List V} {A1 : Around} {Rs : Result → Shared → Prop} (calm : A1.in1.handled = none) (hl : H l = none) (hq : H q = none) (ht : SqT X.K H t ys) (hz : ys.length < 1000) (hlq : l ≠ q)
    (done : ∀ H' s, Inv X pins σ H' s → Same H H' → H' l = some (.lst ys) → Rs (.ok (.ret .none)) s) :
    ∀ (n i : Nat), i + n = ys.length → ∀ (H' : Hp) (s : Shared), Inv X pins σ H' s → Same H H' → H' l = some (.lst (ys.take i)) → H' q = some (TupIt q t i) → codeAny (model X.prog X.w) A1 (.builtin "list.extend.loop" ⟨[.ref l, .ref q, .none], []⟩) Rs s := by
  intro n
  induction n with
  | zero =>
    intro i hi H' s I sm el eq
    refine codeAny_builtin PySem.F.entry_extend_loop ?_
    rw [Around.under_plainId PySem.F.plain_extend_loop _]
    show wpAny _ A1.in1 (pyNext (.ref q) >>= _) _ _ s
    obtain ⟨its, rv, p, _⟩ := I.tuple (Same_seqT sm ht)
    have hit : s.heap.IsTupleIter q t i := (I.hok q _ eq).1
    have out : its.toArray[i]? = none := by
      have := rv.length
      simp
      omega
    refine wpAny_bind (nextEnd calm hit p out fun h' kp ex => wpAny_pure ?_)
    have I2 := I.write (x := q) (e := q) (o := DeadIt q) (h' := h') (t' := s.toks) (by rw [eq]; exact trivial) (.inl rfl) kp ex (deadIt_ok ex)
    refine done _ _ I2 (fun b o e => ?_) ?_
    · rw [upd_ne (ne_of_none e hq)]
      exact sm _ _ e
    · rw [upd_ne hlq, el, List.take_of_length_le (by omega)]
  | succ n ih =>
    intro i hi H' s I sm el eq
    refine codeAny_builtin PySem.F.entry_extend_loop ?_
    rw [Around.under_plainId PySem.F.plain_extend_loop _]
    show wpAny _ A1.in1 (pyNext (.ref q) >>= _) _ _ s
    obtain ⟨its, rv, p, _⟩ := I.tuple (Same_seqT sm ht)
    have hit : s.heap.IsTupleIter q t i := (I.hok q _ eq).1
    have hlen := rv.length
    have lt : i < ys.length := by omega
    obtain ⟨u, hu, ru⟩ := rv.get (List.getElem?_eq_getElem lt)
    have hx : its.toArray[i]? = some u := by simpa using hu
    refine wpAny_bind (wpAny_pyNext_tuple_item hit p hx fun h' hit' sb => ?_)
    have ex : ∃ o, h'.get? q = some o := let ⟨o, e, _⟩ := hit'; ⟨o, e⟩
    have I2 := I.write (x := q) (e := q) (o := TupIt q t (i + 1)) (h' := h') (t' := s.toks) (by rw [eq]; exact trivial) (.inl rfl) (fun b o hb e => sb.extBut b o hb e) ex (tupIt_ok hit')
    show wpAny _ A1.in1 (updateSeq l (·.push u) >>= _) _ _ _
    have el2 : upd H' q (TupIt q t (i + 1)) l = some (.lst (ys.take i)) := by rw [upd_ne hlq]; exact el
    obtain ⟨z, ls, kk, r2, hl2, e2⟩ := I2.lstM el2
    have hti : (ys.take i).length = i := by rw [List.length_take]; omega
    have h1000 : (1000 : Nat) < sizeLine := by rw [sizeLine_eq]; decide
    refine wpAny_bind (wpAny_updateSeq e2 rfl (wpAny_pure ⟨plainId_quiet PySem.F.plain_extend_loop _, ?_⟩) (by rw [List.size_toArray]; omega) (by show (ls.toArray.push u).size ≤ sizeLine + 1; rw [Array.size_push, List.size_toArray]; omega))
    have tk : ys.take (i + 1) = ys.take i ++ [ys[i]] := by rw [List.take_add_one, List.getElem?_eq_getElem lt]; rfl
    refine ih (i + 1) (by omega) _ _ (I2.lset (its' := ls ++ [u]) (ys := ys.take i ++ [ys[i]]) (t' := s.toks) el2 e2 (by simp) (r2.append (.cons ru .nil)) (by rw [List.length_append, List.length_singleton]; omega)) (fun b o e => ?_) ?_ ?_
    · rw [upd_ne (ne_of_none e hl), upd_ne (ne_of_none e hq)]
      exact sm _ _ e
    · rw [upd_same, tk]
    · rw [upd_ne (Ne.symm hlq), upd_same]
/-- list(o), where __iter__ hands back iter of a tuple, and __len__ says how long that is -/
def rListOwn (K : PySem.W.Frag) (C : Addr) (spI spL : Sp) : List V → Hp → VK → Prop := fun xs H Q => ∃ a dx fs t ys, xs = [.ref a] ∧ H a = some (.ins C dx fs) ∧ SqT K H t ys ∧ ys.length < 1000 ∧
  (∀ H1, Same H H1 → spI [.ref a] H1 (fun v H2 => ∃ q, v = .ref q ∧ H1 q = none ∧ H2 = upd H1 q (TupIt q t 0)) fun _ _ _ => False) ∧
  (∀ H1, Same H H1 → spL [.ref a] H1 (fun v H2 => ∃ n : Int, v = .int n ∧ (0 ≤ n ∧ n < 2 ^ 63) ∧ (fun v H' => v = V.int ys.length ∧ Same H1 H') (V.int n) H2) fun _ _ _ => False) ∧
  ∀ l H', H l = none → Same H H' → H' l = some (.lst ys) → Q (.ref l) H'
theorem z_listOwn {spI spL : Sp} {kI kL : Nat} (hc : X.calm = true) (cI : CalO X.prog X.w X.K X.mg X.base C "__iter__" kI spI) (cL : CalO X.prog X.w X.K X.mg X.base C "__len__" kL spL) (hr : Room j X.A) (hI : kI + 2 ≤ j := by decide) (hL : kL + 3 ≤ j := by decide) :
    CallR X (.type "list") (rListOwn X.K C spI spL) := by
  intro pins s σ H xs us Q I rv h
  obtain ⟨a, dx, fs, t, ys, rfl, ha, ht, hz, pI, pL, q⟩ := h
  obtain ⟨u, rfl, ru⟩ := rv.one
  cases ru
  obtain ⟨fI, SI, _, FI⟩ := cI
  obtain ⟨fL, SL, _, FL⟩ := cL
  refine callType_codes (Q₁ := fun obj s₁ => obj = .ref s.heap.objs.size ∧ s₁ = { s with heap := s.heap.push { cls := .type "list", data := .seq #[] } }) PySem.F.called_list (PySem.F.typeCall_list_1 _) PySem.F.entry_list_init (code_list_new _ ⟨rfl, rfl⟩) fun obj s₁ h₁ => ?_
  obtain ⟨rfl, rfl⟩ := h₁
  have hS : (s.heap.push { cls := .type "list", data := .seq #[] }).get? s.heap.objs.size = some { cls := .type "list", data := .seq #[] } := Heap.get?_push_size _ rfl
  refine ⟨⟨_, hS, rfl⟩, PySem.F.args_list_init_2 _ _, ?_⟩
  have fr : H s.heap.objs.size = none := I.hok.fresh (Nat.le_refl _)
  generalize hl : s.heap.objs.size = l at *
  have I1 : Inv X pins σ (upd H l (.lst [])) { s with heap := s.heap.push { cls := .type "list", data := .seq #[] } } := by
    rw [← hl]
    exact I.lnew (its := []) (t' := s.toks) .nil (Nat.zero_le _)
  show wpAny _ _ (do let old ← Builtin.List.listItems (.ref l); Builtin.List.listUpdate (.ref l) (fun _ => #[]); letGo old.toList.reverse; Builtin.List.listExtendWith (.ref l) (.ref a) .none) _ _ _
  refine wpAny_bind ?_
  unfold Builtin.List.listItems
  refine wpAny_bind (wpAny_seqItems hS rfl (wpAny_pure ?_))
  show wpAny _ _ (updateSeq l (fun _ => #[]) >>= fun _ => letGo (#[] : Array Value).toList.reverse >>= fun _ => Builtin.List.listExtendWith (.ref l) (.ref a) .none) _ _ _
  refine wpAny_bind (wpAny_updateSeq hS rfl ?_)
  have I2 := I1.lset (f := fun _ => #[]) (its := []) (its' := []) (ys := []) (t' := s.toks) upd_same hS rfl .nil (Nat.zero_le _)
  rw [upd_upd] at I2
  refine wpAny_bind (wpAny_letGo ?_)
  have s1 : Same H (upd H l (.lst [])) := fun b o e => by rw [upd_ne (ne_of_none e fr)]; exact e
  have ha2 := s1 _ _ ha
  have hne : l ≠ a := Ne.symm (ne_of_none ha fr)
  obtain ⟨ox, od, J⟩ := instAt I2 ha2
  obtain ⟨m0, hF⟩ := I2.fr
  unfold Builtin.List.listExtendWith
  refine wpAny_bind (J.type.here ?_)
  have h1 : Builtin.List.listSameRef (.ref l) (.ref a) = false := by simp [Builtin.List.listSameRef, hne]
  have h2 : (Value.ref C == Value.type "list") = false := rfl
  have h3 : (Value.ref C == Value.type "tuple") = false := rfl
  simp only [h1, h2, h3, Bool.or_false, Bool.false_eq_true, if_false]
  have hrI : Room kI X.A.in1.in1 := ((hr.mono hI).in1).in1
  have hrL : Room kL X.A.in1.in1.in1 := (((hr.mono hL).in1).in1).in1
  refine wpAny_bind (PySem.W.owit_iter hF I2.ok.mod.kin J SI.at_ SI.fn ?_)
  refine wpAny_call (codeAny_mono (FI X.A.in1.in1 X.stack _ _ [.ref a] [.ref a] _ (fun _ _ _ => False) hrI I2.env0.in1.in1 (.cons rfl .nil) (pI _ s1)) fun r s' hq' => ?_)
  rcases r with e | fl
  · exact (cxN hq').elim
  rcases fl with _ | _ | _ | u'
  · exact False.elim hq'
  · exact False.elim hq'
  · exact False.elim hq'
  obtain ⟨v', H3, I3, rv3, q0, ev, hq0, eH⟩ := I2.after hq'
  subst ev
  obtain rfl : u' = Value.ref q0 := rv3
  have hq1 : H q0 = none := by
    cases e : H q0 with
    | none => rfl
    | some o => rw [s1 _ _ e] at hq0; cases hq0
  have s2 : Same (upd H l (.lst [])) H3 := fun b o e => by rw [eH, upd_ne (ne_of_none e hq0)]; exact e
  have eq3 : H3 q0 = some (TupIt q0 t 0) := by rw [eH, upd_same]
  have hit : s'.heap.IsTupleIter q0 t 0 := (I3.hok q0 _ eq3).1
  unfold PySem.W.OwitIt
  refine wpAny_bind (wpAny_typeOf hit.typeIs (wpAny_of_eq PySem.F.slot_tuple_iterator_next.lookup ?_))
  refine wpAny_bind (wpAny_holding ?_)
  -- the length
  have e3 : H3 l = some (.lst []) := s2 _ _ upd_same
  have ha3 := s2 _ _ ha2
  obtain ⟨ox3, od3, J3⟩ := instAt I3 ha3
  unfold Builtin.List.listLengthHint
  refine wpAny_bind (wpAny_bind (J3.type.here ((PySem.W.looks_findIn I3.kIn SL.at_).here ?_)))
  dsimp only
  refine PySem.W.KFB.if_not rfl ?_
  refine PySem.W.KFB.if_so rfl ?_
  refine wpAny_bind (wpAny_rule ?_)
  refine wpAny_bind (wpAny_attempt (wpAny_mono (lenRun (Ex := fun _ _ => False) (Q := fun v H' => v = V.int ys.length ∧ Same H3 H') FL SL hrL I3.env0.in1.in1.in1 I3 ha3 (pL _ (s1.trans s2))) (fun v s'' hv => ?_) fun e s'' he => ?_))
  · obtain ⟨n, tn, rfl, hn, H4, I4, en, s4⟩ := hv
    injection en with en
    subst en
    have long : Builtin.List.listTooLong ((ys.length : Nat) : Int).toNat = false := by
      unfold Builtin.List.listTooLong
      rw [sizeLine_eq] at *
      simp
      omega
    dsimp only
    refine wpAny_bind (m := asInt? _) (wpAny_of_eq (a := some ((ys.length : Nat) : Int)) rfl ?_)
    dsimp only
    refine PySem.W.KFB.if_not long ?_
    refine wpAny_pure ?_
    have e4 := s4 _ _ e3
    have eq4 := s4 _ _ eq3
    have hlq : l ≠ q0 := ne_of_none upd_same hq0
    have loop : ∀ (H5 : Hp) (s5 : Shared), Inv X pins σ H5 s5 → Same H H5 → H5 l = some (.lst []) → H5 q0 = some (TupIt q0 t 0) → codeAny (model X.prog X.w) X.A.in1 (.builtin "list.extend.loop" ⟨[.ref l, .ref q0, .none], []⟩) (wants (fun r s₂ => r = .none ∧ EP X pins σ Q (.ref l) s₂) X.xe) s5 := fun H5 s5 I5 sm el eq =>
      fillLoop (show X.A.in1.in1.handled = none from I.ok.hd hc) fr hq1 ht hz hlq (fun H' s' I' sm el => ⟨rfl, .ref l, H', I', rfl, q l H' fr sm el⟩) ys.length 0 (by omega) H5 s5 I5 sm (by rw [List.take_zero]; exact el) eq
    obtain ⟨z, its, kk, r3, hl3, e5⟩ := I4.lstM e4
    cases r3
    have s14 : Same H H4 := (s1.trans s2).trans s4
    refine wpAny_ite_split (fun _ => ?_) (fun _ => wpAny_pure ⟨plainId_quiet PySem.F.plain_extend_loop _, loop H4 _ I4 s14 e4 eq4⟩)
    refine wpAny_bind (wpAny_rule ?_)
    refine wpAny_bind ?_
    show wpAny _ _ (updateSeq l (·.push .none) >>= fun _ => updateSeq l (·.pop)) _ _ _
    refine wpAny_bind (wpAny_updateSeq e5 rfl ?_)
    have I6 := I4.lset (f := (·.push Value.none)) (its' := [Value.none]) (ys := [.non]) (t' := s''.toks) e4 e5 (by simp) (.cons rfl .nil) (by rw [List.length_singleton, sizeLine_eq]; decide)
    obtain ⟨z4, its4, k4, r4, hl4, e6⟩ := I6.lstM upd_same
    obtain ⟨u4, rfl, ru4⟩ := r4.one
    refine wpAny_updateSeq e6 rfl ?_ (by show 1 ≤ sizeLine; rw [sizeLine_eq]; decide) (by show 0 ≤ sizeLine + 1; exact Nat.zero_le _)
    refine wpAny_pure ⟨plainId_quiet PySem.F.plain_extend_loop _, loop H4 _ ?_ s14 e4 eq4⟩
    have I7 := I6.lset (f := (·.pop)) (its := [u4]) (its' := []) (ys := []) (t' := s''.toks) upd_same e6 (by rfl) .nil (Nat.zero_le _)
    rw [upd_upd] at I7
    have hH : upd H4 l (.lst []) = H4 := by
      funext b
      by_cases hb : b = l
      · rw [hb, upd_same, e4]
      · rw [upd_ne hb]
    rw [hH] at I7
    exact I7
  · exact he.elim
end
end Z

set_option Elab.async false
set_option linter.all false
set_option maxRecDepth 100000
set_option maxHeartbeats 4000000
/-! {**a, **b}; sorted of a tuple of texts; == of dicts of tuples -/
namespace Z
open PySem PySem.Spec PyProof.Rows L2
section
variable {P : Program} {w : World} {A : Around} {E : Value → Shared → Prop} {s : Shared}
theorem putDict {d : Addr} {kvs : List (Key × Value)} {k : Key} {key v : Value} {Q : Unit → Shared → Prop} (hkey : (mixKind P w).is k key = true) (hm : s.heap.DictOf (mixKind P w) d kvs)
    (hQ : ∀ h', h'.DictOf (mixKind P w) d (stored kvs k v) → Heap.SameBut d s.heap h' → Q () { s with heap := h' }) (hsz : kvs.length ≤ sizeLine) :
    wpAny (model P w) A (dictPut d ((mixKind P w).hash k) key v) Q E s := by
  obtain ⟨o, es, ep, ho, hc, hd, hk, hp, hn⟩ := hm
  have hes : es.size ≤ sizeLine := by
    have e1 := hp.length
    have e2 : es.toList.length = es.size := by simp
    omega
  unfold dictPut
  refine wpAny_bind (wpAny_dictFind_of hkey ho hd hk ?_)
  have hidx : (es.findIdx? fun e => (mixKind P w).is k e.key) = kvs.findIdx? fun kv => decide (kv.1 = k) := by rw [← hp.findIdx k]; obtain ⟨l⟩ := es; simp
  cases hi : es.findIdx? fun e => (mixKind P w).is k e.key with
  | some i =>
    refine wpAny_updateDict ho hd (hQ _ ⟨_, _, ep, Heap.get?_update_self _ ho (Obj.isFreed_of_dict (Obj.data_mapDict hd _)), hc.mapDict _, Obj.data_mapDict hd _, hk.modify _ _, ?_, ?_⟩ (Heap.SameBut.update ..))
    · rw [stored, if_pos (any_of_findIdx_some (hidx ▸ hi))]
      have hl : (es.toList.findIdx? fun e => (mixKind P w).is k e.key) = some i := by rw [← hi]; obtain ⟨l⟩ := es; simp
      have := hp.modify hn hl v
      obtain ⟨l⟩ := es
      simpa using this
    · rw [stored, if_pos (any_of_findIdx_some (hidx ▸ hi)), keys_map_store]; exact hn
  | none =>
    have hnot : k ∉ kvs.map (·.1) := not_mem_of_findIdx_none (hidx ▸ hi)
    have hany : ¬ (kvs.any fun kv => decide (kv.1 = k)) = true := by
      rw [List.any_eq_true]; rintro ⟨kv, hkv, he⟩; exact hnot (List.mem_map.mpr ⟨kv, hkv, of_decide_eq_true he⟩)
    refine wpAny_updateDictKeys (hz := hes) ho hd (hQ _ ⟨_, _, ep + 1, Heap.get?_update_self _ ho (Obj.isFreed_of_dict (Obj.data_mapDictKeys hd _)), hc.mapDictKeys _, Obj.data_mapDictKeys hd _, hk.push hkey _, ?_, ?_⟩ (Heap.SameBut.update ..))
    · rw [stored, if_neg hany]
      have := hp.append hkey ((mixKind P w).hash k) v
      obtain ⟨l⟩ := es
      simpa using this
    · rw [stored, if_neg hany, List.map_append, List.nodup_append]
      refine ⟨hn, by simp, ?_⟩
      intro a ha b hb
      simp only [List.map_cons, List.map_nil, List.mem_singleton] at hb
      subst hb
      exact fun e => hnot (e ▸ ha)
theorem iteBoth {α : Type} {M : Model} {A : Around} {E : Value → Shared → Prop} {s : Shared} {c : Bool} {a b : Sem α} {Q : α → Shared → Prop} (hb : wpAny M A b Q E s) (ha : wpAny M A b Q E s → wpAny M A a Q E s) : wpAny M A (if c = true then a else b) Q E s := by
  cases c
  · exact hb
  · exact ha hb
theorem mergeIn {d o : Addr} {kvs more : List (Key × Value)} {Q : Unit → Shared → Prop} (hdo : d ≠ o) (hoS : (o == sysModules) = false) (hd : s.heap.DictOf (mixKind P w) d kvs) (ho : s.heap.DictOf (mixKind P w) o more)
    (hQ : ∀ h', h'.DictOf (mixKind P w) d (merged kvs more) → Heap.SameBut d s.heap h' → Q () { s with heap := h' }) (hsz : kvs.length + more.length ≤ sizeLine) :
    wpAny (model P w) A (mergeMapping d (.ref o) false) Q E s := by
  obtain ⟨od, esd, epd, hod, hcd, hdd, hkd, hpd, hnd⟩ := id hd
  obtain ⟨oo, eso, epo, hoo, hco, hdo', hko, hpo, hno⟩ := id ho
  have hlen : more.length = eso.size := by rw [← hpo.length]; simp
  unfold mergeMapping
  refine wpAny_bind (wpAny_isInstance (T := "dict") ho.typeIs PySem.F.sub_dict_dict ?_)
  refine PySem.W.KFB.if_so rfl ?_
  refine wpAny_bind (wpAny_specialOf ho.typeIs PySem.F.slot_dict_iter.lookup ?_)
  refine wpAny_bind (wpAny_of_eq (a := true) (by rw [show (some (Value.builtin "dict.__iter__") == some (Value.builtin "dict.__iter__")) = true by decide]) ?_)
  dsimp only
  refine PySem.W.KFB.if_not (by rw [hoS]) ?_
  refine wpAny_bind (wpAny_dictEntries hod hdd ?_)
  refine iteBoth ?_ fun loop => ?_
  · refine wpAny_bind (wpAny_dictEntries hoo hdo' (wpAny_bind (wpAny_dictEpoch hoo hdo' (wpAny_bind ?_))))
    refine wpAny_forIn_list _ (fun rest _ s' => ∃ h' i, s' = { s with heap := h' } ∧ rest = List.range' i (eso.size - i) ∧ i ≤ eso.size ∧ h'.DictOf (mixKind P w) d (merged kvs (more.take i)) ∧ h'.get? o = some oo ∧ Heap.SameBut d s.heap h') _ ?_ ?_ _ _ ⟨s.heap, 0, rfl, by rw [List.range_eq_range']; rfl, Nat.zero_le _, hd, hoo, Heap.SameBut.refl _ _⟩
    · rintro x rest b s' ⟨h', i, rfl, hr, hi, hd', hoo', hs'⟩
      have hlt : i < eso.size := by
        rcases Nat.lt_or_ge i eso.size with h | h
        · exact h
        · rw [Nat.sub_eq_zero_of_le h] at hr; simp at hr
      obtain ⟨rfl, hrest⟩ : x = i ∧ rest = List.range' (i + 1) (eso.size - (i + 1)) := by
        have e : eso.size - i = (eso.size - (i + 1)) + 1 := by omega
        rw [e, List.range'_succ] at hr
        injection hr with h1 h2; exact ⟨h1, h2⟩
      refine wpAny_bind (wpAny_dictEntries hoo' hdo' ?_)
      rw [Array.getElem?_eq_getElem hlt]
      obtain ⟨kv, hkv⟩ : ∃ kv, more[x]? = some kv := ⟨more[x]'(by rw [hlen]; exact hlt), List.getElem?_eq_getElem _⟩
      obtain ⟨k, v⟩ := kv
      obtain ⟨hkey, hval⟩ := hpo.get? (e := eso[x]) (by simp [hlt]) hkv
      obtain ⟨k', hkey', hhash⟩ := hko eso[x] (Array.getElem_mem hlt)
      obtain rfl : k' = k := (mixKind P w).inj _ _ _ hkey' hkey
      refine wpAny_bind (wpAny_holding ?_)
      refine PySem.W.KFB.if_not rfl ?_
      rw [hhash, hval]
      have hmx : (merged kvs (more.take x)).length ≤ sizeLine := by
        have e1 := merged_length_le kvs (more.take x)
        have e2 : (more.take x).length ≤ more.length := by rw [List.length_take]; omega
        omega
      refine putDict hkey hd' (fun h'' hd'' hs'' => ?_) hmx
      have hoo'' : h''.get? o = some oo := (hs''.2 o (Ne.symm hdo)).trans hoo'
      refine wpAny_bind (wpAny_dictEpoch hoo'' hdo' ?_)
      rw [if_neg (by simp)]
      refine wpAny_pure ⟨h'', x + 1, rfl, hrest, hlt, ?_, hoo'', hs'.trans hs''⟩
      rw [merged_take_succ kvs more x (k', v) hkv]
      exact hd''
    · rintro b s' ⟨h', i, rfl, hr, hi, hd', hoo', hs'⟩
      have hin : i = eso.size := by
        rcases Nat.lt_or_ge i eso.size with h | h
        · have e : eso.size - i = (eso.size - (i + 1)) + 1 := by omega
          rw [e, List.range'_succ] at hr; exact nomatch hr
        · exact Nat.le_antisymm hi h
      rw [hin, ← hlen, List.take_length] at hd'
      exact wpAny_pure (hQ h' hd' hs')
  · refine wpAny_bind (wpAny_dictEntries hoo hdo' (wpAny_bind ?_))
    rw [← Array.forIn_toList]
    refine wpAny_forIn_list _ (fun rest _ s' => s' = s ∧ ∀ e ∈ rest, e ∈ eso) _ ?_ ?_ _ _ ⟨rfl, fun e h => by simpa using h⟩
    · rintro e rest b s' ⟨rfl, hm⟩
      obtain ⟨k, hk, _⟩ := hko e (hm e List.mem_cons_self)
      have hm' : ∀ e ∈ rest, e ∈ eso := fun e h => hm e (List.mem_cons_of_mem _ h)
      rcases keyIs_shape hk with ⟨i, t, _, ek⟩ | ⟨x, t, _, ek⟩
      · rw [ek]
        exact wpAny_pure ⟨rfl, hm'⟩
      · rw [ek]
        exact wpAny_pure ⟨rfl, hm'⟩
    · rintro b s' ⟨rfl, _⟩
      exact loop
end
/-- {**a, **b}: two dicts with keys ints and texts -/
def tMerge2 (t1 t2 : TE) : TE := fun σ H Q => ∀ p, H p = Option.none → t1 σ (upd H p (.dK [])) fun x H1 => ∃ a ks, x = .ref a ∧ p ≠ a ∧ H1 a = some (.dK ks) ∧ H1 p = some (.dK []) ∧ ks.length ≤ 1000 ∧
  t2 σ (upd H1 p (.dK (mergeK [] ks))) fun y H2 => ∃ b ls, y = .ref b ∧ p ≠ b ∧ H2 b = some (.dK ls) ∧ H2 p = some (.dK (mergeK [] ks)) ∧ ls.length ≤ 1000 ∧ Q (.ref p) (upd H2 p (.dK (mergeK (mergeK [] ks) ls)))
section
variable {X : Cx} {pos : Pos} {e1 e2 : Expr} {t1 t2 : TE} {pins : List (Addr × Obj)} {σ : L2.St} {H : Hp} {s : Shared}
theorem mergeStep {p a : Addr} {kvs ks : List (Key × V)} {E : Value → Shared → Prop} {Q : Unit → Shared → Prop} (I : Inv X pins σ H s) (hne : p ≠ a) (ha : H a = some (.dK ks)) (hp : H p = some (.dK kvs)) (z1 : kvs.length ≤ 1000) (z2 : ks.length ≤ 1000)
    (h : ∀ s', Inv X pins σ (upd H p (.dK (mergeK kvs ks))) s' → Q () s') : wpAny (model X.prog X.w) X.A (mergeMapping p (.ref a) false) Q E s := by
  obtain ⟨_, sa, vs, ra, da⟩ := dk_of I.hok ha
  obtain ⟨_, sp, us, rp, dp⟩ := dk_of I.hok hp
  have l1 := ra.length
  have l2 := rp.length
  have big : (3000 : Nat) ≤ sizeLine := by rw [sizeLine_eq]; decide
  refine mergeIn hne sa dp da (fun h' dd hs => h _ ?_) (by omega)
  have he : ∃ q, h'.get? p = some q := let ⟨q, _, _, hq, _⟩ := dd; ⟨q, hq⟩
  have hz := length_mergeK ks kvs
  exact d_write I (by rw [hp]; exact True.intro) hs he (dk_new (by omega) sp (ra.merge rp) dd)
theorem pe_merge2 (h1 : PE X e1 t1) (h2 : PE X e2 t2) : PE X (.Dict [Option.none, Option.none] [e1, e2] pos) (tMerge2 t1 t2) := by
  refine ⟨fun pins s σ H Q I q => ?_⟩
  have hn := I.hok.fresh (Nat.le_refl s.heap.objs.size)
  have I1 := I.laid (a := s.heap.objs.size) (o := .dK []) (h' := s.heap.push { cls := .type "dict", data := .dict #[] }) (t' := s.toks) (fun _ _ q => Heap.get?_push_of_some _ q) (Nat.le_refl _) (dk_empty s.heap I.big)
  have q1 := q _ hn
  generalize hp : s.heap.objs.size = p at *
  rw [arm_eval_Dict]
  refine wpAny_bind (wpAny_standAt ?_)
  show wpAny _ _ (dictDisplay [(Option.none, (do let x ← eval e1 X.env; standAt pos; pure x)), (Option.none, (do let x ← eval e2 X.env; standAt pos; pure x))]) _ _ s
  unfold dictDisplay
  dsimp only
  refine wpAny_bind ?_
  rw [List.forIn_cons]
  refine wpAny_bind ?_
  dsimp only
  refine wpAny_bind (PySem.W.KFB.if_so rfl (wpAny_pure ?_))
  dsimp only
  refine wpAny_bind (wpAny_alloc ?_)
  rw [hp]
  refine wpAny_bind (wpAny_holding (wpAny_bind (thn (h1.run pins _ σ _ _ I1 q1) fun u s1 hh => ?_)))
  obtain ⟨x, H1, I2, rx, a, ks, ex, hne, ha, hpp, z, q2⟩ := hh
  subst ex
  obtain rfl : u = Value.ref a := rx
  refine wpAny_bind (wpAny_standAt (wpAny_pure ?_))
  have h0 : ([] : List (Key × V)).length ≤ 1000 := by decide
  refine wpAny_bind (wpAny_onRaise (wpAny_tryCatch (wpAny_onRaise (wpAny_holding (mergeStep I2 hne ha hpp h0 z fun s2 I3 => ?_)))))
  refine wpAny_pure ?_
  dsimp only
  rw [List.forIn_cons]
  refine wpAny_bind ?_
  dsimp only
  refine wpAny_bind (PySem.W.KFB.if_so rfl (wpAny_pure ?_))
  dsimp only
  refine wpAny_bind (wpAny_pure ?_)
  refine wpAny_bind (wpAny_holding (wpAny_bind (thn (h2.run pins _ σ _ _ I3 q2) fun u s3 hh => ?_)))
  obtain ⟨y, H2, I4, ry, b, ls, ey, hne2, hb, hpp2, z2, q3⟩ := hh
  subst ey
  obtain rfl : u = Value.ref b := ry
  refine wpAny_bind (wpAny_standAt (wpAny_pure ?_))
  have zm : (mergeK [] ks).length ≤ 1000 := by
    have := length_mergeK ks []
    simp only [List.length_nil] at this
    omega
  refine wpAny_bind (wpAny_onRaise (wpAny_tryCatch (wpAny_onRaise (wpAny_holding (mergeStep I4 hne2 hb hpp2 zm z2 fun s4 I5 => ?_)))))
  refine wpAny_pure ?_
  dsimp only
  rw [List.forIn_nil]
  refine wpAny_pure ?_
  refine wpAny_bind (PySem.W.KFB.if_so rfl (wpAny_pure ?_))
  exact wpAny_pure ⟨.ref p, _, I5, rfl, q3⟩
end
end Z

set_option Elab.async false
set_option linter.all false
set_option maxRecDepth 100000
set_option maxHeartbeats 4000000
/-! sorted of a list or a tuple of texts; == of dicts whose values are data; texts in order -/
namespace Z
open PySem PySem.Spec PyProof.Rows L2
/-! ### ascending texts -/
def ltS (a b : Str) : Bool := ltCps a.cps.toList b.cps.toList
theorem ltCps_irr : ∀ l : List Nat, ltCps l l = false
  | [] => rfl
  | x :: l => by
    unfold ltCps
    simp [ltCps_irr l]
theorem ltCps_tri : ∀ l m : List Nat, ltCps l m = false → ltCps m l = false → l = m
  | [], [], _, _ => rfl
  | [], y :: m, h, _ => by simp [ltCps] at h
  | x :: l, [], _, h => by simp [ltCps] at h
  | x :: l, y :: m, h, k => by
    unfold ltCps at h k
    by_cases e1 : x < y
    · simp [e1] at h
    · by_cases e2 : y < x
      · simp [e2] at k
      · have e : x = y := by omega
        subst e
        simp at h k
        rw [ltCps_tri l m h k]
theorem ltS_tri {a b : Str} (h : ltS a b = false) (k : ltS b a = false) : a = b := by
  have := ltCps_tri _ _ h k
  cases a; cases b
  congr 1
  exact Array.toList_inj.mp this
theorem ltCps_tr : ∀ l m n : List Nat, ltCps m l = false → ltCps n m = false → ltCps n l = false
  | [], m, n, _, _ => by cases n <;> rfl
  | x :: l, [], n, h, _ => by simp [ltCps] at h
  | x :: l, y :: m, [], _, h => by simp [ltCps] at h
  | x :: l, y :: m, z :: n, h, k => by
    unfold ltCps at h k ⊢
    by_cases e1 : y < x
    · simp [e1] at h
    · by_cases e2 : z < y
      · simp [e2] at k
      · by_cases e3 : z < x
        · omega
        · simp only [e3, if_false]
          by_cases e4 : x < z
          · simp [e4]
            intro h
            omega
          · have exz : x = z := by omega
            have exy : x = y := by omega
            subst exz; subst exy
            simp at h k ⊢
            exact ltCps_tr l m n h k
theorem risingS_pw : ∀ (l : List Str) (p : Str), risingS p l = true → (∀ x ∈ l, ltS x p = false) ∧ l.Pairwise fun a b => ltS b a = false
  | [], p, _ => ⟨(fun x h => (by cases h)), .nil⟩
  | x :: r, p, h => by
    unfold risingS at h
    rw [Bool.and_eq_true] at h
    obtain ⟨h1, h2⟩ := h
    have h1' : ltS x p = false := by simpa [ltS] using h1
    obtain ⟨a, b⟩ := risingS_pw r x h2
    refine ⟨fun y hy => ?_, List.pairwise_cons.mpr ⟨a, b⟩⟩
    rcases List.mem_cons.mp hy with rfl | hy
    · exact h1'
    · exact ltCps_tr _ _ _ h1' (a y hy)
theorem sortedS_pw {l : List Str} (h : sortedS l = true) : l.Pairwise fun a b => ltS b a = false := by
  cases l with
  | nil => exact .nil
  | cons x r =>
    obtain ⟨a, b⟩ := risingS_pw r x h
    exact List.pairwise_cons.mpr ⟨a, b⟩
/-- texts of the same members that ascend are the same list -/
theorem sort_uniq {l m : List Str} (hp : l.Perm m) (hl : l.Pairwise fun a b => ltS b a = false) (hm : m.Pairwise fun a b => ltS b a = false) : l = m :=
  hp.eq_of_pairwise (fun a b _ _ h k => (ltS_tri k h)) hl hm
noncomputable def srt (l : List Str) : List Str := l.mergeSort fun a b => !ltS b a
theorem srt_perm (l : List Str) : (srt l).Perm l := List.mergeSort_perm l _
theorem srt_pw (l : List Str) : (srt l).Pairwise fun a b => ltS b a = false := by
  have h := List.pairwise_mergeSort (le := fun a b => !ltS b a) (fun a b c h k => ?_) (fun a b => ?_) l
  · exact h.imp fun {a b} h => by simpa using h
  · simp only [Bool.not_eq_true'] at h k ⊢
    exact ltCps_tr _ _ _ h k
  · by_cases h : ltS b a = true
    · by_cases k : ltS a b = true
      · exfalso
        have := ltCps_tr a.cps.toList b.cps.toList a.cps.toList
        -- a < b and b < a: by totality of the order
        have asym : ∀ l m : List Nat, ltCps l m = true → ltCps m l = false := by
          intro l
          induction l with
          | nil => intro m h; cases m <;> rfl
          | cons x l ih =>
            intro m h
            cases m with
            | nil => simp [ltCps] at h
            | cons y m =>
              unfold ltCps at h ⊢
              by_cases e1 : x < y
              · have : ¬ y < x := by omega
                simp [this, e1]
                intro h
                omega
              · by_cases e2 : y < x
                · simp [e1, e2] at h
                  omega
                · have e : x = y := by omega
                  subst e
                  simp at h ⊢
                  exact ih m h
        have := asym _ _ k
        unfold ltS at h
        rw [this] at h
        cases h
      · simp [k]
    · simp [h]
theorem srt_eq {l m : List Str} (hp : m.Perm l) (hs : sortedS m = true) : m = srt l := sort_uniq (hp.trans (srt_perm l).symm) (sortedS_pw hs) (srt_pw l)
theorem srt_congr {l m : List Str} (h : l.Perm m) : srt l = srt m := sort_uniq ((srt_perm l).trans (h.trans (srt_perm m).symm)) (srt_pw l) (srt_pw m)
theorem srt_of_pw {l : List Str} (h : l.Pairwise fun a b => ltS b a = false) : srt l = l := sort_uniq (srt_perm l) (srt_pw l) h
theorem srt_nodup {l : List Str} (h : l.Nodup) : (srt l).Nodup := (srt_perm l).nodup_iff.mpr h
theorem mem_srt {l : List Str} {a : Str} : a ∈ srt l ↔ a ∈ l := (srt_perm l).mem_iff
/-- the members of a rising list that are in another one, sorted, are a filter -/
theorem srt_filter {N l : List Str} {p : Str → Bool} (hN : N.Nodup) (hs : N.Pairwise fun a b => ltS b a = false) (hl : l.Nodup) (h : ∀ a, a ∈ l ↔ a ∈ N ∧ p a = true) : srt l = N.filter p := by
  refine sort_uniq ?_ (srt_pw l) (hs.filter p)
  refine (srt_perm l).trans ((List.perm_ext_iff_of_nodup hl (hN.filter p)).mpr fun a => ?_)
  rw [h, List.mem_filter]
section
variable {X : Cx}
/-- sorted of a list or a tuple of texts -/
def rSortST (K : PySem.W.Frag) : List V → Hp → VK → Prop := fun vs H Q => ∃ (a : Addr) (xs : List Str), vs = [V.ref a] ∧ (SqL K H a (xs.map V.str) ∨ SqT K H a (xs.map V.str)) ∧ xs.length < 64 ∧
  ∀ p H', H p = none → Same H H' → (∀ b, b ≠ p → H' b = H b) → H' p = some (.lst ((srt xs).map V.str)) → Q (.ref p) H'
theorem cr_sortST : CallR X (.builtin "sorted") (rSortST X.K) := by
  intro pins s σ H xs us Q I r q
  obtain ⟨a, ks, ex, hd, h64, q⟩ := q
  subst ex
  obtain ⟨u, eu, rx⟩ := vals1 r
  subst eu
  cases rx
  obtain ⟨its, o, n, T, rv, ho, hc, hT, hdt⟩ : ∃ (its : List Value) (o : Obj) (n : Nat) (T : String), Vals (ks.map V.str) its ∧ s.heap.get? a = some o ∧ o.cls = .type T ∧ (T = "list" ∨ T = "tuple") ∧ o.data = .seq its.toArray n := by
    rcases hd with hd | hd
    · obtain ⟨its, rv, pl, _⟩ := I.list hd
      obtain ⟨o, ho, hc, n, hdt⟩ := pl.isList
      exact ⟨its, o, n, _, rv, ho, hc, .inl rfl, hdt⟩
    · obtain ⟨its, rv, ⟨o, ho, hc, n, hdt⟩, _⟩ := I.tuple hd
      exact ⟨its, o, n, _, rv, ho, hc, .inr rfl, hdt⟩
  have hlen := rv.length
  rw [List.length_map] at hlen
  have hsl : (64 : Nat) < sizeLine := by rw [sizeLine_eq]; decide
  refine Calls.call_function_entry PyProof.Rows.kind_sorted PyProof.Rows.plain_sorted PyProof.Rows.entry_sorted (PyProof.Rows.args_sorted1 _) ?_
  unfold Builtin.«sorted»
  refine wpAny_bind (m := checkCount "sorted" 1 1 _) (wpAny_pure ?_)
  refine wpAny_bind (wpAny_collect_seq a hT ho hc hdt (fun h' hk => ?_) (by rw [List.size_toArray]; omega))
  rw [show its.toArray.toList = its by simp]
  have hS := rv.strs
  have I1 : Inv X pins σ H { s with heap := h' } := I.kept (t' := s.toks) hk
  refine wpAny_bind (wpAny_newList ?_ (by omega))
  have hoL : (h'.push (seqObj "list" its.toArray 0)).get? h'.objs.size = some (seqObj "list" its.toArray 0) := Heap.get?_push_size _ rfl
  show wpAny _ _ _ _ _ { s with heap := h'.push (seqObj "list" its.toArray 0) }
  refine wpAny_bind (wpAny_holding (wpAny_call_entry PyProof.Rows.slot_list_sort ⟨_, hoL, rfl⟩ PyProof.Rows.entry_list_sort (list_sort_treeK strKind_oneLt (s := { s with heap := h'.push (seqObj "list" its.toArray 0) }) hoL hS.keysOf
    (fun v₁ v₂ rest e => keyKind_strs (by rw [← e]; exact hS)) (by omega) fun st' hp hs => ⟨_, rfl, ?_⟩) (PyProof.Rows.args_list_sort _)))
  obtain ⟨ys, g1, g2, g3⟩ := sorted_out_str hS hp hs
  obtain rfl := srt_eq g2 g3
  obtain ⟨e', he'⟩ := PyProof.Rows.sortedHeap_at (vs := its) (out := (arrOf st').map (·.2)) hoL
  have hlen2 : ((srt ks).map V.str).length ≤ sizeLine := by
    rw [List.length_map, g2.length_eq]
    omega
  have fr := I1.hok.fresh (Nat.le_refl h'.objs.size)
  refine wpAny_pure ⟨_, rfl, .ref h'.objs.size, upd H h'.objs.size (.lst ((srt ks).map V.str)), I1.laid (t' := s.toks) (fun b u e => ?_) (Nat.le_refl _)
    (show ObjOk X.prog X.w _ _ _ (.lst ((srt ks).map V.str)) from ⟨hlen2, ((arrOf st').map (·.2)).toList, e', vals_of_strs g1, by rw [Array.toArray_toList]; exact he'⟩), rfl, q _ _ fr (fun b o e => by rw [upd_ne (ne_of_none e fr)]; exact e) (fun b hb => upd_ne hb) upd_same⟩
  have hb : b < h'.objs.size := Heap.lt_size e
  rw [PyProof.Rows.sortedHeap_old (Nat.ne_of_lt hb) (by rw [size_push']; exact Nat.lt_succ_of_lt hb)]
  exact Heap.get?_push_of_some _ e
/-- two dicts of the same keys in the same order, whose values are data -/
def rEqDD (K : PySem.W.Frag) : R2 := fun x y H Q => ∃ (a b : Addr) (ks ls : List (Key × V)) (f g : Key → PyData), x = .ref a ∧ y = .ref b ∧ H a = some (.dK ks) ∧ H b = some (.dK ls) ∧ ks.map (·.1) = ls.map (·.1) ∧
  (∀ p ∈ ks, Dp K H p.2 (f p.1) ∧ SeqAt.shaped (f p.1) = true) ∧ (∀ p ∈ ls, Dp K H p.2 (g p.1) ∧ SeqAt.shaped (g p.1) = true) ∧ Q (.bl ((ks.map (·.1)).all fun k => PyData.eqv (f k) (g k))) H
theorem valV_mem : ∀ {ls : List (Key × V)} {k : Key}, k ∈ ls.map (·.1) → ∃ v, valV ls k = some v ∧ (k, v) ∈ ls
  | p :: ls, k, h => by
    by_cases e : p.1 = k
    · exact ⟨p.2, valV_pos e, by rw [← e]; exact List.mem_cons_self⟩
    · obtain ⟨v, h1, h2⟩ := valV_mem (ls := ls) (k := k) (by
        rcases List.mem_cons.mp h with h | h
        · exact absurd h.symm e
        · exact h)
      exact ⟨v, by rw [valV_neg e]; exact h1, List.mem_cons_of_mem _ h2⟩
theorem op_eqDD (hu : X.A.units + 66 < cLine) : OpR X (compareOp .Eq) (rEqDD X.K) := by
  intro pins s σ H x y v u Q I rx ry h
  obtain ⟨a, b, ks, ls, f, g, rfl, rfl, ea, eb, hkl, hf, hg, q⟩ := h
  obtain rfl : v = Value.ref a := rx
  obtain rfl : u = Value.ref b := ry
  obtain ⟨_, ya, va, ra, da⟩ := (show ObjOk X.prog X.w H s.heap a (.dK ks) from I.hok a _ ea)
  obtain ⟨_, yb, vb, rb, db⟩ := (show ObjOk X.prog X.w H s.heap b (.dK ls) from I.hok b _ eb)
  have hl : va.length = vb.length := by
    rw [← ra.length, ← rb.length]
    have := congrArg List.length hkl
    simpa using this
  have hits : ∀ {ks : List (Key × V)} {va : List (Key × Value)}, KV ks va → (∀ p ∈ ks, p.1 ∈ ls.map (·.1)) → (∀ p ∈ ks, Dp X.K H p.2 (f p.1) ∧ SeqAt.shaped (f p.1) = true) → PySem.W.KeqHits X.A.in1 s vb va ((ks.map (·.1)).all fun k => PyData.eqv (f k) (g k)) := by
    intro ks va r
    unfold KV at r
    induction r with
    | nil => intro _ _; exact .nil
    | @cons p q ps qs h t ih =>
      intro hm hd
      obtain ⟨h1, h2⟩ := h
      obtain ⟨v, hv, hin⟩ := valV_mem (hm p List.mem_cons_self)
      have rr : RelO (some v) (valueAt vb p.1) := by rw [← hv]; exact rb.val p.1
      obtain ⟨y, hy, ry⟩ := rr.some_of
      obtain ⟨key, w⟩ := q
      have h1' : p.1 = key := h1
      subst h1'
      obtain ⟨d1, s1⟩ := hd p List.mem_cons_self
      obtain ⟨d2, s2⟩ := hg _ hin
      obtain ⟨as, r1⟩ := Dp.reads I _ _ w d1 h2
      obtain ⟨bs, r2⟩ := Dp.reads I _ _ y d2 ry
      show PySem.W.KeqHits X.A.in1 s vb ((p.1, w) :: qs) (PyData.eqv (f p.1) (g p.1) && _)
      exact .hit hy (PySem.W.keq_at r1 r2 s1 s2 (by show X.A.units + 1 + 64 < cLine; omega)) (ih (fun p' h' => hm p' (List.mem_cons_of_mem _ h')) fun p' h' => hd p' (List.mem_cons_of_mem _ h'))
  refine PySem.W.keq_eq (knd := mixKind X.prog X.w) (r := (ks.map (·.1)).all fun k => PyData.eqv (f k) (g k)) ya yb da db (by omega) (fun _ => hits ra (fun p hp => by rw [← hkl]; exact List.mem_map_of_mem hp) hf) ⟨.bl _, H, I, ?_, q⟩
  rw [hl]
  show Value.bool _ = Value.bool _
  rw [show (vb.length == vb.length) = true by simp, Bool.true_and]
end
end Z

set_option Elab.async false
set_option linter.all false
set_option maxRecDepth 100000
set_option maxHeartbeats 4000000
/-! enumerate of a tuple -/
namespace Z
open PySem PySem.Spec PyProof.Rows L2
section
variable {prog : Program} {w : World} {A : Around} {E : Value → Shared → Prop} {s : Shared} {q t : Addr} {i : Nat} {its : Array Value} {x : Value} {Q : Value → Shared → Prop}
theorem tupItem (hit : s.heap.IsTupleIter q t i) (ht : s.heap.IsTuple t its) (hx : its[i]? = some x) (hQ : ∀ h', h'.IsTupleIter q t (i + 1) → Heap.SameBut q s.heap h' → Q x { s with heap := h' }) :
    wpAny (model prog w) A (Builtin.SmallTypes.nextOf (.ref q)) Q E s := by
  obtain ⟨ob, ho, hc, hd⟩ := id hit; obtain ⟨ot, hot, _, nn, hdt⟩ := ht
  unfold Builtin.SmallTypes.nextOf; refine wpAny_bind (wpAny_callSpecial?_slot (name := Str.ofString "__next__") hit.typeIs F.slot_tuple_iterator_next (wpAny_call_entry F.slot_tuple_iterator_next hit.typeIs F.entry_tuple_iterator_next ?_ (F.args_tuple_iterator_next_1 _)))
  show wpAny _ _ (field (.ref q) 0 >>= _) _ _ s; refine wpAny_bind (wpAny_field ho hd (x := .ref t) rfl ?_)
  show wpAny _ _ (if (Value.ref t == Value.none) = true then _ else _) _ _ s; rw [if_neg (show ¬ ((Value.ref t == Value.none) = true) from Bool.false_ne_true)]
  show wpAny _ _ (field (.ref q) 1 >>= _) _ _ s; refine wpAny_bind (wpAny_field ho hd (x := .int i 0) rfl ?_)
  show wpAny _ _ (seqItems? (.ref t) >>= _) _ _ s; refine wpAny_bind (wpAny_seqItems hot hdt ?_); simp only [Int.toNat_natCast, hx]
  refine wpAny_bind (wpAny_setField ho hd (by simp) (wpAny_pure ⟨x, rfl, wpAny_pure (hQ _ ⟨_, Heap.get?_update_self _ ho (Obj.isFreed_of_fields (Obj.data_mapFields hd _)), (Obj.cls_mapFields ..).trans hc, by rw [Obj.data_mapFields hd]; simp [rawInt]⟩ (Heap.SameBut.update ..))⟩))
theorem tupDone (calm : A.handled = none) (hit : s.heap.IsTupleIter q t i) (ht : s.heap.IsTuple t its) (out : its[i]? = none)
    (hE : ∀ h' e, Heap.ExtBut q s.heap h' → (∃ o, h'.get? e = some o ∧ o.cls = .type "StopIteration") → E (.ref e) { s with heap := h' }) : wpAny (model prog w) A (Builtin.SmallTypes.nextOf (.ref q)) Q E s := by
  obtain ⟨ob, ho, hc, hd⟩ := id hit; obtain ⟨ot, hot, _, nn, hdt⟩ := ht
  unfold Builtin.SmallTypes.nextOf; refine wpAny_bind (wpAny_callSpecial?_slot (name := Str.ofString "__next__") hit.typeIs F.slot_tuple_iterator_next (wpAny_call_entry F.slot_tuple_iterator_next hit.typeIs F.entry_tuple_iterator_next ?_ (F.args_tuple_iterator_next_1 _)))
  show wpAny _ _ (field (.ref q) 0 >>= _) _ _ s; refine wpAny_bind (wpAny_field ho hd (x := .ref t) rfl ?_)
  show wpAny _ _ (if (Value.ref t == Value.none) = true then _ else _) _ _ s; rw [if_neg (show ¬ ((Value.ref t == Value.none) = true) from Bool.false_ne_true)]
  show wpAny _ _ (field (.ref q) 1 >>= _) _ _ s; refine wpAny_bind (wpAny_field ho hd (x := .int i 0) rfl ?_)
  show wpAny _ _ (seqItems? (.ref t) >>= _) _ _ s; refine wpAny_bind (wpAny_seqItems hot hdt ?_); simp only [Int.toNat_natCast, out]
  refine wpAny_bind (wpAny_rule (wpAny_bind (wpAny_setField ho hd (by simp) ?_))); show wpAny _ _ (newExc (.type "StopIteration") [] >>= _) _ _ _
  refine wpAny_bind ?_; simp only [newExc, newTuple]
  refine wpAny_bind (wpAny_newObj_type ?_ (by size_fits)); refine wpAny_bind (m := firstArgMember _ _) (wpAny_of_eq (a := Value.none) (by first | rfl | (simp only [firstArgMember]; rfl)) ?_)
  refine wpAny_newObj_type ?_ (by size_fits); simp only [raiseNew]
  refine wpAny_bind (wpAny_handled ?_); first | rw [show A.in1.handled = none from calm] | rw [calm]
  refine wpAny_bind (wpAny_pure (wpAny_throw ?_)); exact hE _ _ (((Heap.SameBut.update ..).extBut.push _).push _) ⟨_, Heap.get?_push_size _ rfl, rfl⟩
end
theorem drawsTup {prog : Program} {w : World} {A : Around} (calm : A.handled = none) (q t : Addr) (hne : t ≠ q) (its : Array Value) :
    Draws prog w A q [q, t] its.size (fun i v => its[i]? = some v) (fun i h => h.IsTupleIter q t i ∧ h.IsTuple t its) where
  live := fun _ _ st => let ⟨o, ho, _⟩ := st.1; ⟨o, ho⟩
  frame := fun _ _ _ st hk => ⟨let ⟨o, ho, r⟩ := st.1; ⟨o, hk q (by simp) o ho, r⟩, let ⟨o, ho, r⟩ := st.2; ⟨o, hk t (by simp) o ho, r⟩⟩
  item := fun i s Q E hi st hQ => by
    refine tupItem st.1 st.2 (x := its[i]) (by simp [hi]) fun h' hit' sb => ?_
    exact hQ _ h' s.toks (by simp [hi]) ⟨hit', st.2.extBut sb.extBut hne⟩ sb
  done := fun s Q E st hE => tupDone calm st.1 st.2 (by simp) hE
/-- the end alone -/
theorem drawsEnd {prog : Program} {w : World} {A : Around} (calm : A.handled = none) (q t : Addr) (its : Array Value) (i : Nat) (out : its[i]? = none) :
    Draws prog w A q [q, t] i (fun _ _ => True) (fun j h => j = i ∧ h.IsTupleIter q t j ∧ h.IsTuple t its) where
  live := fun _ _ st => let ⟨o, ho, _⟩ := st.2.1; ⟨o, ho⟩
  frame := fun _ _ _ st hk => ⟨st.1, let ⟨o, ho, r⟩ := st.2.1; ⟨o, hk q (by simp) o ho, r⟩, let ⟨o, ho, r⟩ := st.2.2; ⟨o, hk t (by simp) o ho, r⟩⟩
  item := fun j s Q E hi st hQ => by
    have := st.1
    omega
  done := fun s Q E st hE => tupDone calm st.2.1 st.2.2 out hE
/-- the tuple at a, each item in a new pair -/
def IteT (K : PySem.W.Frag) (a : Addr) : It :=
  ⟨fun i H => ∃ (xs : List V) (x : V), SqT K H a xs ∧ xs[i]? = some x, fun i H v H' => ∃ T x, v = .ref T ∧ H T = none ∧ H' = upd H T (.tup [.int (i : Nat), x]) ∧ ∀ xs, SqT K H a xs → xs[i]? = some x, fun i H => ∃ xs : List V, SqT K H a xs ∧ xs.length ≤ i⟩
theorem turn_enumT {P : Program} {w : World} {K : PySem.W.Frag} {elts : List Expr} {kk : Nat} {tpos : Pos} (a e it : Addr) :
    Turn P w K (.Tuple elts kk tpos) (IteT K a) [e, it] e (fun i h => (∃ old, IsEnum h e it ((i : Nat) : Int) old) ∧ h.IsTupleIter it a i ∧ e ≠ it ∧ a ≠ it ∧ a ≠ e) where
  mem := by simp
  obj := fun i h st b hb => by
    obtain ⟨⟨old, he⟩, ⟨o, ho, hc, hd⟩, _⟩ := st
    have e' : b = e ∨ b = it := by simpa using hb
    rcases e' with z | z
    · rw [z]; exact ⟨_, he, fun v q => nomatch q⟩
    · rw [z]; exact ⟨o, ho, fun v q => by rw [hd] at q; cases q⟩
  keep := fun i h h' st k => let ⟨⟨old, he⟩, ⟨o, ho, r⟩, hne⟩ := st; ⟨⟨old, k e (by simp) _ he⟩, ⟨o, k it (by simp) _ ho, r⟩, hne⟩
  item := by
    intro X hP hw hK hc i pins s σ H E I hf st hg
    subst hP hw hK
    obtain ⟨⟨old, he⟩, hit, hne, hai, hae⟩ := st
    obtain ⟨xs, x, hq, hx⟩ := hg
    obtain ⟨its, rv, p, hz⟩ := I.tuple hq
    obtain ⟨u, hu, ru⟩ := rv.get hx
    have hel : e < s.heap.objs.size := Heap.lt_size he
    have hil : it < s.heap.objs.size := by obtain ⟨_, z, _⟩ := hit; exact Heap.lt_size z
    have hlt : i < its.toArray.size := by
      have := (List.getElem?_eq_some_iff.mp hu).1
      simpa using this
    refine wpAny_pyNext_enum_itemD (drawsTup (by first | exact I.ok.hd hc | (show X.A.in1.handled = none; exact I.ok.hd hc)) it a hai its.toArray) he ⟨hit, p⟩ hlt hne (by simp [hne, Ne.symm hae]) fun x' h' tk hx' ho hst' hT hsz hk => ?_
    obtain rfl : x' = u := by
      rw [show its.toArray[i]? = its[i]? by simp, hu] at hx'
      exact (Option.some.inj hx').symm
    refine ⟨_, rfl, wpAny_letOwnedTupleGo_enum (s := { s with heap := h', toks := tk + 1 }) ho fun h'' he' sb => ?_⟩
    have hT2 : h''.get? s.heap.objs.size = some { cls := .type "tuple", data := .seq #[.int i tk, x'] } := (sb.2 _ (Nat.ne_of_gt hel)).trans hT
    have new : ObjOk X.prog X.w (upd H s.heap.objs.size (.tup [.int (i : Nat), x])) h'' s.heap.objs.size (.tup [.int (i : Nat), x]) :=
      ⟨by show 2 ≤ sizeLine; decide, [.int i tk, x'], .cons ⟨_, rfl⟩ (.cons ru .nil), ⟨_, hT2, rfl, _, rfl⟩⟩
    have I1 : Inv X pins σ (upd H s.heap.objs.size (.tup [.int (i : Nat), x])) { s with heap := h'', toks := tk + 1 } :=
      I.turnedNew (ch := [e, it]) (fun b ob hb z => (sb.2 b (fun y => hb (by simp [y]))).trans (hk b ob (fun y => hb (by simp [y])) (fun y => hb (by simp [y])) z)) hf (Nat.le_refl _) new
    have hit2 : h''.IsTupleIter it a (i + 1) := let ⟨o, ho, r⟩ := hst'.1; ⟨o, (sb.2 it (Ne.symm hne)).trans ho, r⟩
    refine ⟨.ref s.heap.objs.size, _, I1, rfl, ⟨_, x, rfl, I.hok.fresh (Nat.le_refl _), rfl, fun ys hy => by rw [I.tuple_inj hy hq]; exact hx⟩, ⟨⟨x', ?_⟩, hit2, hne, hai, hae⟩, fun b hb => ?_⟩
    · have e1 : ((i + 1 : Nat) : Int) = (i : Int) + 1 := by omega
      rw [e1]; exact he'
    · have hb' : b < s.heap.objs.size := by
        have e' : b = e ∨ b = it := by simpa using hb
        rcases e' with z | z
        · rw [z]; exact hel
        · rw [z]; exact hil
      rw [upd_ne (Nat.ne_of_lt hb')]
      exact (hf b hb).1
  done := by
    intro X hP hw hK hc i pins s σ H E I hf st hg
    subst hP hw hK
    obtain ⟨⟨old, he⟩, hit, hne, hai, hae⟩ := st
    obtain ⟨xs, hq, hx⟩ := hg
    obtain ⟨its, rv, p, hz⟩ := I.tuple hq
    obtain ⟨f0, f1, f2, f3, f4, f5⟩ := hf it (by simp)
    have hl := rv.length
    refine wpAny_pyNext_enum_endD (drawsEnd (by first | exact I.ok.hd hc | (show X.A.in1.handled = none; exact I.ok.hd hc)) it a its.toArray i (by simp; omega)) he ⟨rfl, hit, p⟩ fun h' eb => ⟨rfl, I.turned (t' := s.toks) (fun b o hb q => eb b o hb q) f0 f1 f3 f4 f5⟩
  self := fun A i s Q E st h => let ⟨⟨_, he⟩, _⟩ := st; wpAny_pyIter_enum he h
set_option maxHeartbeats 4000000 in
theorem enumNewT (l : Addr) (its : Array Value) (n : Nat) (dct : Option Addr) (sl : Array (Option Value)) :
    Meets (Builtin.«enumerate.__new__» ⟨[.type "enumerate", .ref l], []⟩) (fun _ R s => s.heap.get? l = some { cls := .type "tuple", dict := dct, data := .seq its n, slots := sl } ∧
      R (.ok (.ret (.ref (s.heap.push { cls := .type "tuple_iterator", data := .fields #[.ref l, .int 0 0] }).objs.size)))
        { s with heap := (s.heap.push { cls := .type "tuple_iterator", data := .fields #[.ref l, .int 0 0] }).push { cls := .type "enumerate", data := .fields #[.none, .bool false, .ref s.heap.objs.size, rawInt 0, .none, .none] } }) :=
  .of_wp fun prog w A R s h => by
    obtain ⟨hl, h⟩ := h
    obtain ⟨hp, g, d, tk, os⟩ := s
    have hT : (⟨hp, g, d, tk, os⟩ : Shared).heap.IsTuple l its := ⟨_, hl, rfl, n, rfl⟩
    have hsub := sub_enumerate
    wp_walk
    refine wpAny_stack_any fun st => wpAny_pure ?_
    split
    · rename_i c _ _ _ _ _
      cases (c == Value.type "enumerate")
      · wp_walk using wpAny_loadPart' hl, wpAny_pyIter_tuple hT
        exact ⟨_, rfl, h⟩
      · wp_walk using wpAny_loadPart' hl, wpAny_pyIter_tuple hT
        exact ⟨_, rfl, h⟩
    · wp_walk using wpAny_loadPart' hl, wpAny_pyIter_tuple hT
      exact ⟨_, rfl, h⟩
theorem callEnumT {prog : Program} {w : World} {A : Around} {E : Value → Shared → Prop} {s : Shared} {l : Addr} {its : Array Value} {Q : Value → Shared → Prop} (hL : s.heap.IsTuple l its)
    (h : ∀ h', IsEnum h' (s.heap.objs.size + 1) s.heap.objs.size 0 .none → h'.IsTupleIter s.heap.objs.size l 0 → (∀ b o, s.heap.get? b = some o → h'.get? b = some o) → Q (.ref (s.heap.objs.size + 1)) { s with heap := h' }) :
    wpAny (model prog w) A (call (.type "enumerate") [.ref l]) Q E s := by
  obtain ⟨⟨c, dct, dt, sl⟩, hl, hc, n, hd⟩ := hL
  replace hc : c = .type "tuple" := hc
  replace hd : dt = .seq its n := hd
  subst hc hd
  refine callType_new F.called_enumerate (by decide) (F.typeCall_enumerate_1 _) (F.newCall_enumerate_1 _) (fun obj => F.args_object_init_2 obj _) F.entry_enumerate_new (enumNewT l its n dct sl) ⟨hl, ?_⟩
  have hz : (s.heap.push { cls := .type "tuple_iterator", data := .fields #[.ref l, .int 0 0] }).objs.size = s.heap.objs.size + 1 := Heap.size_push ..
  show _ ∧ _
  rw [hz]
  have he : IsEnum ((s.heap.push { cls := .type "tuple_iterator", data := .fields #[.ref l, .int 0 0] }).push { cls := .type "enumerate", data := .fields #[.none, .bool false, .ref s.heap.objs.size, rawInt 0, .none, .none] }) (s.heap.objs.size + 1) s.heap.objs.size 0 .none := by
    have := Heap.get?_push_size (s.heap.push { cls := .type "tuple_iterator", data := .fields #[.ref l, .int 0 0] }) (o := { cls := .type "enumerate", data := .fields #[.none, .bool false, .ref s.heap.objs.size, rawInt 0, .none, .none] }) rfl
    rw [hz] at this; exact this
  exact ⟨⟨_, he, rfl⟩, h _ he ⟨_, Heap.get?_push_of_some _ (Heap.get?_push_size _ rfl), rfl, rfl⟩ fun b o x => Heap.get?_push_of_some _ (Heap.get?_push_of_some _ x)⟩
def iEnumT (K : PySem.W.Frag) (ta : TA) : TI := fun σ H R => ta σ H fun vs H1 => ∃ a xs, vs = [.ref a] ∧ SqT K H1 a xs ∧ R (IteT K a) H1
theorem pi_enumT {X : Cx} {e : Expr} {ta : TA} {p pos tpos : Pos} {elts : List Expr} {kk : Nat} (hg : Gl X "enumerate") (hm : X.mg "enumerate" = none) (ha : PA X [e] ta) (hs : starEach [e] X.env = [(false, eval e X.env)] := by rfl) :
    PI X (.Tuple elts kk tpos) (.Call (.Name "enumerate" p) [e] [] pos) (iEnumT X.K ta) := by
  refine ⟨fun pins s σ H R I h => ?_⟩
  refine Call_ (ld_blt I hg hm boot_enumerate (PyProof.Rows.callWith_type1 (thn (ha.run pos pins s σ H _ I h) fun us s1 ⟨vs, H1, I1, r1, q1⟩ => ?_) hs rfl))
  obtain ⟨a, xs, ex, hq, q⟩ := q1
  subst ex
  obtain ⟨u, rfl, r⟩ := r1.one
  cases r
  obtain ⟨its, rv, p', hz⟩ := I1.tuple hq
  refine callEnumT p' fun h' he hit hk => wpAny_pyIter_enum he ?_
  have I2 : Inv X pins σ H1 { s1 with heap := h' } := I1.kept (t' := s1.toks) hk
  have hal : a < s1.heap.objs.size := by obtain ⟨_, z, _⟩ := p'; exact Heap.lt_size z
  refine ⟨s1.heap.objs.size + 1, [s1.heap.objs.size + 1, s1.heap.objs.size], _, _, H1, rfl, I2, turn_enumT a (s1.heap.objs.size + 1) s1.heap.objs.size, ⟨⟨.none, he⟩, hit, Nat.succ_ne_self _, Nat.ne_of_lt hal, Nat.ne_of_lt (Nat.lt_succ_of_lt hal)⟩, fun b hb => ?_, q⟩
  have e' : b = s1.heap.objs.size + 1 ∨ b = s1.heap.objs.size := by simpa using hb
  have hle : s1.heap.objs.size ≤ b := by
    rcases e' with z | z
    · rw [z]; exact Nat.le_add_right _ _
    · rw [z]; exact Nat.le_refl _
  exact I1.fpOk hle (I1.hok.fresh hle)
end Z

set_option Elab.async false
set_option linter.all false
set_option maxRecDepth 100000
set_option maxHeartbeats 4000000
/-! what is walked, be it a list or a tuple; readings of loops, comprehensions and dicts -/
namespace Z
open PySem PySem.Spec PyProof.Rows L2
def SqA (K : PySem.W.Frag) (H : Hp) (a : Addr) (xs : List V) : Prop := SqL K H a xs ∨ SqT K H a xs
/-- what stood at a stands there -/
def AtS (H : Hp) (a : Addr) (H' : Hp) : Prop := ∀ o, H a = some o → H' a = some o
section
variable {K : PySem.W.Frag} {H H' : Hp} {a : Addr} {xs : List V}
theorem AtS.refl : AtS H a H := fun _ e => e
theorem AtS.of (s : Same H H') : AtS H a H' := fun _ e => s _ _ e
theorem atL (s : AtS H a H') (h : SqL K H a xs) : SqL K H' a xs := by
  rcases h with (h | ⟨o, h⟩) | h
  · exact .inl (.inl (s _ h))
  · exact .inl (.inr ⟨o, s _ h⟩)
  · exact .inr h
theorem atT (s : AtS H a H') (h : SqT K H a xs) : SqT K H' a xs := by
  rcases h with (h | ⟨o, h⟩) | h
  · exact .inl (.inl (s _ h))
  · exact .inl (.inr ⟨o, s _ h⟩)
  · exact .inr h
theorem atA (s : AtS H a H') (h : SqA K H a xs) : SqA K H' a xs := h.elim (fun h => .inl (atL s h)) fun h => .inr (atT s h)
theorem sameA (s : Same H H') (h : SqA K H a xs) : SqA K H' a xs := atA (.of s) h
theorem SqA.l (h : H a = some (.lst xs)) : SqA K H a xs := .inl (.of h)
theorem SqA.t (h : H a = some (.tup xs)) : SqA K H a xs := .inr (.of h)
end
/-- e, a list or a tuple, item by item -/
def WkA (K : PySem.W.Frag) (H1 : Hp) (a : Addr) (xs : List V) (Y : Nat → Hp → V → Hp → Prop) (R : It → Prop) : Prop := (SqL K H1 a xs ∧ ∀ J, Walk J xs.length (fun H' => SqL K H' a xs) Y → R J) ∨ (SqT K H1 a xs ∧ ∀ J, Walk J xs.length (fun H' => SqT K H' a xs) Y → R J)
theorem WkA.intro {K : PySem.W.Frag} {H0 H1 : Hp} {a : Addr} {xs : List V} {Y : Nat → Hp → V → Hp → Prop} {R : It → Prop} (s : SqA K H0 a xs) (s1 : Same H0 H1) (h : ∀ J G, Walk J xs.length G Y → (∀ H', Same H0 H' → G H') → R J) : WkA K H1 a xs Y R := by
  rcases s with s | s
  · exact .inl ⟨atL (.of s1) s, fun J w => h J _ w fun H' z => atL (.of z) s⟩
  · exact .inr ⟨atT (.of s1) s, fun J w => h J _ w fun H' z => atT (.of z) s⟩
def iAny (K : PySem.W.Frag) (tl : TE) : TI := fun σ H R => tl σ H fun x H1 => ∃ a xs, x = .ref a ∧ WkA K H1 a xs (YAt xs) fun J => R J H1
theorem pi_any {X : Cx} {K : PySem.W.Frag} {tg l : Expr} {tl : TE} (hK : X.K = K) (hl : PE X l tl) : PI X tg l (iAny K tl) := by
  subst hK
  refine ⟨fun pins s σ H R I h => ?_⟩
  refine thn (hl.run pins s σ H _ I h) fun v s1 ⟨x, H1, I1, r1, q1⟩ => ?_
  obtain ⟨a, xs, e, hq⟩ := q1
  subst e
  cases r1
  have one : ∀ b ∈ [s1.heap.objs.size], FpOk X pins H1 b := fun b hb => by
    have e : b = s1.heap.objs.size := by simpa using hb
    subst e
    exact I1.fpOk (Nat.le_refl _) (I1.hok.fresh (Nat.le_refl _))
  rcases hq with ⟨hq, q⟩ | ⟨hq, q⟩
  · obtain ⟨its, rv, p, hz⟩ := I1.list hq
    exact wpAny_pyIter_list p.isList ⟨s1.heap.objs.size, [s1.heap.objs.size], _, _, H1, rfl, I1.kept (t' := s1.toks) fun b o e => Heap.get?_push_of_some _ e, turn_list a _, ⟨_, Heap.get?_push_size _ rfl, rfl, rfl⟩, one, q _ walk_list⟩
  · obtain ⟨its, rv, p, hz⟩ := I1.tuple hq
    exact wpAny_pyIter_tuple (show s1.heap.IsTuple a its.toArray from p) ⟨s1.heap.objs.size, [s1.heap.objs.size], _, _, H1, rfl, I1.kept (t' := s1.toks) fun b o e => Heap.get?_push_of_some _ e, turn_tuple a _, ⟨_, Heap.get?_push_size _ rfl, rfl, rfl⟩, one, q _ walk_tup⟩
theorem walk_enumT {K : PySem.W.Frag} {a : Addr} {xs : List V} : Walk (IteT K a) xs.length (fun H => SqT K H a xs) (YPair (fun i => some (.int (i : Nat))) (fun i => xs[i]?)) := by
  refine ⟨fun i _ hi q => ⟨xs, xs[i], q, by simp [hi]⟩, fun _ q => ⟨xs, q, Nat.le_refl _⟩, fun i H v H' _ q y => ?_⟩
  obtain ⟨T, x, h1, h2, h3, h4⟩ := y
  exact ⟨T, .int (i : Nat), x, h1, h2, h3, rfl, h4 xs q⟩
/-- enumerate of a list or a tuple -/
def iEnA (K : PySem.W.Frag) (ta : TA) : TI := fun σ H R => ta σ H fun vs H1 => ∃ a xs, vs = [.ref a] ∧ WkA K H1 a xs (YPair (fun i => some (.int (i : Nat))) (fun i => xs[i]?)) fun J => R J H1
theorem pi_enA {X : Cx} {K : PySem.W.Frag} {e : Expr} {ta : TA} {p pos tpos : Pos} {elts : List Expr} {kk : Nat} (hK : X.K = K) (hg : Gl X "enumerate") (hm : X.mg "enumerate" = none) (ha : PA X [e] ta) (hs : starEach [e] X.env = [(false, eval e X.env)] := by rfl) :
    PI X (.Tuple elts kk tpos) (.Call (.Name "enumerate" p) [e] [] pos) (iEnA K ta) := by
  subst hK
  refine ⟨fun pins s σ H R I h => ?_⟩
  refine Call_ (ld_blt I hg hm boot_enumerate (PyProof.Rows.callWith_type1 (thn (ha.run pos pins s σ H _ I h) fun us s1 ⟨vs, H1, I1, r1, q1⟩ => ?_) hs rfl))
  obtain ⟨a, xs, ex, hq⟩ := q1
  subst ex
  obtain ⟨u, rfl, r⟩ := r1.one
  cases r
  have two : ∀ b ∈ [s1.heap.objs.size + 1, s1.heap.objs.size], FpOk X pins H1 b := fun b hb => by
    have e' : b = s1.heap.objs.size + 1 ∨ b = s1.heap.objs.size := by simpa using hb
    have hle : s1.heap.objs.size ≤ b := by
      rcases e' with z | z
      · rw [z]; exact Nat.le_add_right _ _
      · rw [z]; exact Nat.le_refl _
    exact I1.fpOk hle (I1.hok.fresh hle)
  rcases hq with ⟨hq, q⟩ | ⟨hq, q⟩
  · obtain ⟨its, rv, p', hz⟩ := I1.list hq
    refine call_enumerate_list p'.isList fun h' he hit hsz hk => wpAny_pyIter_enum he ?_
    exact ⟨s1.heap.objs.size + 1, [s1.heap.objs.size + 1, s1.heap.objs.size], _, _, H1, rfl, I1.kept (t' := s1.toks) hk, turn_enum a (s1.heap.objs.size + 1) s1.heap.objs.size, ⟨⟨.none, he⟩, hit, Nat.succ_ne_self _⟩, two, q _ walk_enum⟩
  · obtain ⟨its, rv, p', hz⟩ := I1.tuple hq
    refine callEnumT p' fun h' he hit hk => wpAny_pyIter_enum he ?_
    have hal : a < s1.heap.objs.size := by obtain ⟨_, z, _⟩ := p'; exact Heap.lt_size z
    exact ⟨s1.heap.objs.size + 1, [s1.heap.objs.size + 1, s1.heap.objs.size], _, _, H1, rfl, I1.kept (t' := s1.toks) hk, turn_enumT a (s1.heap.objs.size + 1) s1.heap.objs.size, ⟨⟨.none, he⟩, hit, Nat.succ_ne_self _, Nat.ne_of_lt hal, Nat.ne_of_lt (Nat.lt_succ_of_lt hal)⟩, two, q _ walk_enumT⟩
/-! ### readings -/
section
variable {K : PySem.W.Frag} {σ : L2.St} {H H0 : Hp} {D : Ends} {te tl tk tv td ty : TE} {tt tt1 : TT} {tr : TA} {g g1 : TG} {tb : TS} {Q : VK} {a : Addr} {xs : List V} {n : Nat}
def rForA (K : PySem.W.Frag) (g : TG) (tb : TS) (D : Ends) (σ : L2.St) (x : V) (H1 : Hp) : Prop := ∃ a xs, x = .ref a ∧ WkA K H1 a xs (YAt xs) fun J => rFor J g tb D σ H1
theorem i_forA0 (h : tl σ H (fun x H1 => rForA K g tb D σ x H1)) : tFor (iAny K tl) g tb D σ H := h
theorem i_forA (Pv : Nat → L2.St → Hp → Prop) (s : SqA K H0 a xs) (h0 : Pv 0 σ H) (hl : ∀ i σ H1, Pv i σ H1 → Same H0 H1)
    (hs : ∀ i x σ H, xs[i]? = some x → Pv i σ H → g x σ H fun σ2 H2 => tb { D with nx := Pv (i + 1), ct := Pv (i + 1), bk := D.nx } σ2 H2) (hd : ∀ σ H, Pv xs.length σ H → D.nx σ H) : rForA K g tb D σ (.ref a) H :=
  ⟨a, xs, rfl, .intro s (hl _ _ _ h0) fun J G w hG => for_it w Pv h0 (fun i σ H1 _ p => hG _ (hl i σ H1 p)) (fun i x σ H H' _ p y => by obtain ⟨rfl, e⟩ := y; exact hs i x σ _ e p) hd⟩
def rEnA (K : PySem.W.Frag) (g : TG) (tb : TS) (D : Ends) (σ : L2.St) (vs : List V) (H1 : Hp) : Prop := ∃ a xs, vs = [.ref a] ∧ WkA K H1 a xs (YPair (fun i => some (.int (i : Nat))) (fun i => xs[i]?)) fun J => rFor J g tb D σ H1
theorem i_enA0 (h : tr σ H (fun vs H1 => rEnA K g tb D σ vs H1)) : tFor (iEnA K tr) g tb D σ H := h
theorem i_enA (Pv : Nat → L2.St → Hp → Prop) (s : SqA K H0 a xs) (h0 : Pv 0 σ H) (hl : ∀ i σ H1, Pv i σ H1 → Same H0 H1)
    (hs : ∀ i x T σ H H2, xs[i]? = some x → Pv i σ H → H T = none → Same H H2 → H2 T = some (.tup [.int (i : Nat), x]) → (∀ b, b ≠ T → H2 b = H b) → g (.ref T) σ H2 fun σ2 H2 => tb { D with nx := Pv (i + 1), ct := Pv (i + 1), bk := D.nx } σ2 H2)
    (hd : ∀ σ H, Pv xs.length σ H → D.nx σ H) : rEnA K g tb D σ [.ref a] H :=
  ⟨a, xs, rfl, .intro s (hl _ _ _ h0) fun J G w hG => for_it w Pv h0 (fun i σ H1 _ p => hG _ (hl i σ H1 p)) (fun i x σ H H' _ p y => by
    obtain ⟨T, v, z, rfl, hT, rfl, e1, e2⟩ := y
    cases e1
    exact hs i z T σ H _ e2 p hT (fun b o e => by rw [upd_ne (ne_of_none e hT)]; exact e) upd_same fun b hb => upd_ne hb) hd⟩
/-- list comprehensions over it -/
def rLcA (K : PySem.W.Frag) (g : TG) (tt : TT) (te : TE) (vs : List Nat) (σ : L2.St) (Q : VK) (x : V) (H1 : Hp) : Prop := ∃ a xs, x = .ref a ∧ WkA K H1 a xs (YAt xs) fun J => ∀ D, H1 D = none → ∃ W : Nat → Nat → Hp → Prop, (∃ m, W 0 m (upd H1 D (.lst []))) ∧ ∀ i m H, W i m H →
  (J.stop i H ∧ Q (.ref D) H) ∨ (J.go i H ∧ ∃ Nx : Hp → Prop, (∀ H', Nx H' → ∃ m', m' < m ∧ W (i + 1) m' H') ∧ ∀ x H', J.yld i H x H' → g x (wipe σ vs) H' fun σ2 H2 => wipe σ2 vs = wipe σ vs ∧ tt σ2 H2 fun b H3 =>
    if b = true then te σ2 H3 fun y H4 => ∃ acc, H4 D = some (.lst acc) ∧ acc.length < sizeLine ∧ Nx (upd H4 D (.lst (acc ++ [y]))) else Nx H3)
theorem i_lcA0 {vs : List Nat} (h : tl σ H (fun x H1 => rLcA K g tt te vs σ Q x H1)) : tLc (iAny K tl) g tt te vs σ H Q := h
theorem i_lcA {vs : List Nat} (Pv : Nat → List V → Hp → Prop) (s : SqA K H0 a xs) (s0 : Same H0 H) (h0 : ∀ D H', H D = none → Same H H' → H' D = some (.lst []) → (∀ b, b ≠ D → H' b = H b) → Pv 0 [] H')
    (hl : ∀ i ys H1, Pv i ys H1 → Same H0 H1)
    (hs : ∀ i x D ys H1, H D = none → xs[i]? = some x → H1 D = some (.lst ys) → Pv i ys H1 → g x (wipe σ vs) H1 fun σ2 H2 => wipe σ2 vs = wipe σ vs ∧ tt σ2 H2 fun b H3 => if b = true then te σ2 H3 fun y H4 => rLcE D Pv i y H4 else LcS D Pv (i + 1) H3)
    (hd : ∀ D ys H1, H D = none → H1 D = some (.lst ys) → Pv xs.length ys H1 → Q (.ref D) H1) : rLcA K g tt te vs σ Q (.ref a) H := by
  refine ⟨a, xs, rfl, .intro s s0 fun J G w hG D hD => ?_⟩
  refine lc_it w (LcS D Pv) ⟨[], upd_same, h0 D _ hD (fun b o e => by rw [upd_ne (ne_of_none e hD)]; exact e) upd_same (fun b hb => upd_ne hb)⟩ ?_ ?_ ?_
  · rintro i H' _ ⟨ys, _, p⟩
    exact hG _ (hl i ys H' p)
  · rintro i x H1 H2 hi ⟨ys, hD', p⟩ ⟨rfl, e⟩
    exact hs i x D ys _ hD e hD' p
  · rintro H' ⟨ys, hD', p⟩
    exact hd D ys H' hD hD' p
/-- dict comprehensions over it -/
def DcS (D : Addr) (Pv : Nat → List (Key × V) → Hp → Prop) (i : Nat) (H : Hp) : Prop := ∃ kvs, H D = some (.dK kvs) ∧ Pv i kvs H
def rDcE (D : Addr) (Pv : Nat → List (Key × V) → Hp → Prop) (i : Nat) (y z : V) (H5 : Hp) : Prop := ∃ kvs k, y = kV k ∧ H5 D = some (.dK kvs) ∧ kvs.length < sizeLine ∧ DcS D Pv (i + 1) (upd H5 D (.dK (putK kvs k z)))
theorem i_dcE {D : Addr} {Pv : Nat → List (Key × V) → Hp → Prop} {i : Nat} {y : Str} {z : V} {kvs : List (Key × V)} (e : H D = some (.dK kvs)) (l : kvs.length < 100000) (h : ∀ H5, H5 D = some (.dK (putK kvs (.inr y) z)) → (∀ c, c ≠ D → H5 c = H c) → Pv (i + 1) (putK kvs (.inr y) z) H5) : rDcE D Pv i (.str y) z H :=
  ⟨kvs, .inr y, rfl, e, Nat.lt_of_lt_of_le l (by decide), _, upd_same, h _ upd_same (fun c hc => upd_ne hc)⟩
def rDcA (K : PySem.W.Frag) (g : TG) (tt : TT) (tk tv : TE) (vs : List Nat) (σ : L2.St) (Q : VK) (x : V) (H1 : Hp) : Prop := ∃ a xs, x = .ref a ∧ WkA K H1 a xs (YAt xs) fun J => ∀ D, H1 D = none → ∃ W : Nat → Nat → Hp → Prop, (∃ m, W 0 m (upd H1 D (.dK []))) ∧ ∀ i m H, W i m H →
  (J.stop i H ∧ Q (.ref D) H) ∨ (J.go i H ∧ ∃ Nx : Hp → Prop, (∀ H', Nx H' → ∃ m', m' < m ∧ W (i + 1) m' H') ∧ ∀ x H', J.yld i H x H' → g x (wipe σ vs) H' fun σ2 H2 => wipe σ2 vs = wipe σ vs ∧ tt σ2 H2 fun b H3 =>
    if b = true then tk σ2 H3 fun y H4 => tv σ2 H4 fun z H5 => ∃ kvs k, y = kV k ∧ H5 D = some (.dK kvs) ∧ kvs.length < sizeLine ∧ Nx (upd H5 D (.dK (putK kvs k z))) else Nx H3)
theorem i_dcA0 {vs : List Nat} (h : tl σ H (fun x H1 => rDcA K g tt tk tv vs σ Q x H1)) : tDc (iAny K tl) g tt tk tv vs σ H Q := h
theorem i_dcA {vs : List Nat} (Pv : Addr → Nat → List (Key × V) → Hp → Prop) (s : SqA K H0 a xs) (s0 : Same H0 H) (h0 : ∀ D H', H D = none → Same H H' → H' D = some (.dK []) → (∀ b, b ≠ D → H' b = H b) → Pv D 0 [] H')
    (hl : ∀ D i ys H1, Pv D i ys H1 → Same H0 H1)
    (hs : ∀ i x D kvs H1, H D = none → xs[i]? = some x → H1 D = some (.dK kvs) → Pv D i kvs H1 → g x (wipe σ vs) H1 fun σ2 H2 => wipe σ2 vs = wipe σ vs ∧ tt σ2 H2 fun b H3 => if b = true then tk σ2 H3 fun y H4 => tv σ2 H4 fun z H5 => rDcE D (Pv D) i y z H5 else DcS D (Pv D) (i + 1) H3)
    (hd : ∀ D kvs H1, H D = none → H1 D = some (.dK kvs) → Pv D xs.length kvs H1 → Q (.ref D) H1) : rDcA K g tt tk tv vs σ Q (.ref a) H := by
  refine ⟨a, xs, rfl, .intro s s0 fun J G w hG D hD => ⟨fun i m H => m = xs.length - i ∧ i ≤ xs.length ∧ DcS D (Pv D) i H, ⟨xs.length, by simp, Nat.zero_le _, [], upd_same, h0 D _ hD (fun b o e => by rw [upd_ne (ne_of_none e hD)]; exact e) upd_same (fun b hb => upd_ne hb)⟩, ?_⟩⟩
  rintro i m H' ⟨rfl, hi, kvs, hD', p⟩
  have q := hG _ (hl D i kvs H' p)
  by_cases hlt : i < xs.length
  · refine .inr ⟨w.goes i H' hlt q, DcS D (Pv D) (i + 1), fun H'' p' => ⟨xs.length - (i + 1), by omega, rfl, hlt, p'⟩, fun x H'' y => ?_⟩
    obtain ⟨rfl, e⟩ := w.yields i H' x H'' hlt q y
    exact hs i x D kvs _ hD e hD' p
  · have e : i = xs.length := by omega
    subst e
    exact .inl ⟨w.stops H' q, hd D kvs H' hD hD' p⟩
/-! dicts -/
def rDGet (x y : V) (H2 : Hp) (Q : VK) : Prop := ∃ a v, x = .ref a ∧ DGet H2 a y (some v) ∧ Q v H2
theorem i_dget0 (h : td σ H (fun x H1 => ty σ H1 (fun y H2 => rDGet x y H2 Q))) : tDGet td ty σ H Q := h
theorem i_dget {kvs : List (Key × V)} {z : Str} {v : V} (e : H a = some (.dK kvs)) (l : valV kvs (.inr z) = some v) (h : Q v H) : rDGet (.ref a) (.str z) H Q := ⟨a, v, rfl, by rw [← l]; exact DGet.k (k := .inr z) e, h⟩
def rDIn (y x : V) (H2 : Hp) (Q : VK) : Prop := ∃ a o, x = .ref a ∧ DGet H2 a y o ∧ Q (.bl o.isSome) H2
theorem i_din0 (h : ty σ H (fun y H1 => td σ H1 (fun x H2 => rDIn y x H2 Q))) : tDIn ty td σ H Q := h
theorem i_din {kvs : List (Key × V)} {z : Str} {b : Bool} (e : H a = some (.dK kvs)) (l : (valV kvs (.inr z)).isSome = b) (h : Q (.bl b) H) : rDIn (.str z) (.ref a) H Q := ⟨a, _, rfl, DGet.k (k := .inr z) e, by rw [l]; exact h⟩
def rDPut (v x y : V) (H3 : Hp) (P : Hp → Prop) : Prop := ∃ a H4, x = .ref a ∧ DPut H3 a y v H4 ∧ P H4
theorem i_dput0 (h : tv σ H (fun v H1 => td σ H1 (fun x H2 => ty σ H2 (fun y H3 => rDPut v x y H3 (fun H4 => D.nx σ H4))))) : sDPut td ty tv D σ H := h
theorem i_dput {kvs : List (Key × V)} {z : Str} {v : V} {P : Hp → Prop} (e : H a = some (.dK kvs)) (l : kvs.length < 100000) (h : ∀ H4, H4 a = some (.dK (putK kvs (.inr z) v)) → (∀ b, b ≠ a → H4 b = H b) → P H4) : rDPut v (.ref a) (.str z) H P :=
  ⟨a, _, rfl, DPut.k (k := .inr z) e (Nat.lt_of_lt_of_le l (by decide)), h _ upd_same fun b hb => upd_ne hb⟩
/-- the merge of two dicts -/
def rMg2 (p : Addr) (kvs : List (Key × V)) (y : V) (H2 : Hp) (Q : VK) : Prop := ∃ b ls, y = .ref b ∧ p ≠ b ∧ H2 b = some (.dK ls) ∧ H2 p = some (.dK kvs) ∧ ls.length ≤ 1000 ∧ Q (.ref p) (upd H2 p (.dK (mergeK kvs ls)))
def rMg1 (p : Addr) (t2 : TE) (σ : L2.St) (x : V) (H1 : Hp) (Q : VK) : Prop := ∃ a ks, x = .ref a ∧ p ≠ a ∧ H1 a = some (.dK ks) ∧ H1 p = some (.dK []) ∧ ks.length ≤ 1000 ∧ t2 σ (upd H1 p (.dK (mergeK [] ks))) fun y H2 => rMg2 p (mergeK [] ks) y H2 Q
theorem i_mg0 {t1 t2 : TE} (h : ∀ p H1, H p = none → Same H H1 → H1 p = some (.dK []) → (∀ b, b ≠ p → H1 b = H b) → t1 σ H1 fun x H2 => rMg1 p t2 σ x H2 Q) : tMerge2 t1 t2 σ H Q :=
  fun p hp => h p _ hp (fun b o e => by rw [upd_ne (ne_of_none e hp)]; exact e) upd_same fun b hb => upd_ne hb
theorem i_mg1 {p : Addr} {ks : List (Key × V)} {t2 : TE} (ne : p ≠ a) (e : H a = some (.dK ks)) (ep : H p = some (.dK [])) (l : ks.length ≤ 1000) (h : ∀ H2, H2 p = some (.dK (mergeK [] ks)) → (∀ b, b ≠ p → H2 b = H b) → t2 σ H2 fun y H3 => rMg2 p (mergeK [] ks) y H3 Q) : rMg1 p t2 σ (.ref a) H Q :=
  ⟨a, ks, rfl, ne, e, ep, l, h _ upd_same fun b hb => upd_ne hb⟩
theorem i_mg2 {p : Addr} {kvs ls : List (Key × V)} (ne : p ≠ a) (e : H a = some (.dK ls)) (ep : H p = some (.dK kvs)) (l : ls.length ≤ 1000) (h : ∀ H2, H2 p = some (.dK (mergeK kvs ls)) → (∀ b, b ≠ p → H2 b = H b) → Q (.ref p) H2) : rMg2 p kvs (.ref a) H Q :=
  ⟨a, ls, rfl, ne, e, ep, l, h _ upd_same fun b hb => upd_ne hb⟩
/-- a display of one pair -/
theorem i_disp1 {tk tv : TE} (h : ∀ p H1, H p = none → Same H H1 → H1 p = some (.dK []) → (∀ b, b ≠ p → H1 b = H b) → tk σ H1 fun x H2 => tv σ H2 fun y H3 => H3 p = some (.dK []) ∧ ∃ z : Str, x = .str z ∧ ∀ H4, H4 p = some (.dK [(.inr z, y)]) → (∀ b, b ≠ p → H4 b = H3 b) → Q (.ref p) H4)
    (mono : ∀ (P P' : VK), (∀ x H, P x H → P' x H) → ∀ σ H, tk σ H P → tk σ H P') (mono2 : ∀ (P P' : VK), (∀ x H, P x H → P' x H) → ∀ σ H, tv σ H P → tv σ H P') : tDisp [(tk, tv)] σ H Q := by
  intro p hp
  refine mono _ _ (fun x H2 q => mono2 _ _ (fun y H3 q2 => ?_) _ _ q) _ _ (h p _ hp (fun b o e => by rw [upd_ne (ne_of_none e hp)]; exact e) upd_same fun b hb => upd_ne hb)
  obtain ⟨e, z, rfl, k⟩ := q2
  exact ⟨e, [(.inr z, y)], rfl, (by show 1 ≤ 15; decide), k _ upd_same fun b hb => upd_ne hb⟩
/-! comprehensions with two fors -/
def rLcIn (K : PySem.W.Frag) (D : Addr) (N : Hp → Prop) (g1 : TG) (tt1 : TT) (te : TE) (vs1 : List Nat) (σ2 : L2.St) (x1 : V) (H4 : Hp) : Prop := ∃ a xs, x1 = .ref a ∧ WkA K H4 a xs (YAt xs) fun J1 => ∃ W1 : Nat → Nat → Hp → Prop, (∃ m, W1 0 m H4) ∧ ∀ j k H, W1 j k H →
  (J1.stop j H ∧ N H) ∨ (J1.go j H ∧ ∃ Nx1 : Hp → Prop, (∀ H', Nx1 H' → ∃ k', k' < k ∧ W1 (j + 1) k' H') ∧ ∀ x H', J1.yld j H x H' → g1 x (wipe σ2 vs1) H' fun σ3 H5 => wipe σ3 vs1 = wipe σ2 vs1 ∧ tt1 σ3 H5 fun b H6 =>
    if b = true then te σ3 H6 fun y H7 => ∃ acc, H7 D = some (.lst acc) ∧ acc.length < sizeLine ∧ Nx1 (upd H7 D (.lst (acc ++ [y]))) else Nx1 H6)
def rLc2A (K : PySem.W.Frag) (g : TG) (tt : TT) (tl1 : TE) (g1 : TG) (tt1 : TT) (te : TE) (vs vs1 : List Nat) (σ : L2.St) (Q : VK) (x : V) (H1 : Hp) : Prop := ∃ a xs, x = .ref a ∧ WkA K H1 a xs (YAt xs) fun J => ∀ D, H1 D = none → ∃ W : Nat → Nat → Hp → Prop, (∃ m, W 0 m (upd H1 D (.lst []))) ∧ ∀ i m H, W i m H →
  (J.stop i H ∧ Q (.ref D) H) ∨ (J.go i H ∧ ∃ Nx : Hp → Prop, (∀ H', Nx H' → ∃ m', m' < m ∧ W (i + 1) m' H') ∧ ∀ x H', J.yld i H x H' → g x (wipe σ vs) H' fun σ2 H2 => wipe σ2 vs = wipe σ vs ∧ tt σ2 H2 fun b H3 =>
    if b = true then tl1 σ2 H3 fun x1 H4 => rLcIn K D Nx g1 tt1 te vs1 σ2 x1 H4 else Nx H3)
theorem i_lc2A0 {tl1 : TE} {vs vs1 : List Nat} (h : tl σ H (fun x H1 => rLc2A K g tt tl1 g1 tt1 te vs vs1 σ Q x H1)) : tLc2 (iAny K tl) g tt (iAny K tl1) g1 tt1 te vs vs1 σ H Q := h
theorem i_lcIn {D : Addr} {Pv Pw : Nat → List V → Hp → Prop} {i : Nat} {vs1 : List Nat} {ys : List V} (s : SqA K H0 a xs) (e : H D = some (.lst ys)) (h0 : Pw 0 ys H) (hl : ∀ j ys H1, Pw j ys H1 → Same H0 H1)
    (hs : ∀ j x ys H1, xs[j]? = some x → H1 D = some (.lst ys) → Pw j ys H1 → g1 x (wipe σ vs1) H1 fun σ3 H5 => wipe σ3 vs1 = wipe σ vs1 ∧ tt1 σ3 H5 fun b H6 => if b = true then te σ3 H6 fun y H7 => rLcE D Pw j y H7 else LcS D Pw (j + 1) H6)
    (hd : ∀ ys H1, H1 D = some (.lst ys) → Pw xs.length ys H1 → Pv (i + 1) ys H1) : rLcIn K D (LcS D Pv (i + 1)) g1 tt1 te vs1 σ (.ref a) H := by
  refine ⟨a, xs, rfl, .intro s (hl _ _ _ h0) fun J G w hG => ⟨fun j k H => k = xs.length - j ∧ j ≤ xs.length ∧ LcS D Pw j H, ⟨xs.length, by simp, Nat.zero_le _, ys, e, h0⟩, ?_⟩⟩
  rintro j k H' ⟨rfl, hj, zs, hD, p⟩
  have q := hG _ (hl j zs H' p)
  by_cases hlt : j < xs.length
  · refine .inr ⟨w.goes j H' hlt q, LcS D Pw (j + 1), fun H'' p' => ⟨xs.length - (j + 1), by omega, rfl, hlt, p'⟩, fun x H'' y => ?_⟩
    obtain ⟨rfl, e⟩ := w.yields j H' x H'' hlt q y
    exact hs j x zs _ e hD p
  · have e : j = xs.length := by omega
    subst e
    exact .inl ⟨w.stops H' q, zs, hD, hd zs H' hD p⟩
theorem i_lc2A {tl1 : TE} {vs vs1 : List Nat} (Pv : Nat → List V → Hp → Prop) (s : SqA K H0 a xs) (s0 : Same H0 H) (h0 : ∀ D H', H D = none → Same H H' → H' D = some (.lst []) → (∀ b, b ≠ D → H' b = H b) → Pv 0 [] H')
    (hl : ∀ i ys H1, Pv i ys H1 → Same H0 H1)
    (hs : ∀ i x D ys H1, H D = none → xs[i]? = some x → H1 D = some (.lst ys) → Pv i ys H1 → g x (wipe σ vs) H1 fun σ2 H2 => wipe σ2 vs = wipe σ vs ∧ tt σ2 H2 fun b H3 => if b = true then tl1 σ2 H3 fun x1 H4 => rLcIn K D (LcS D Pv (i + 1)) g1 tt1 te vs1 σ2 x1 H4 else LcS D Pv (i + 1) H3)
    (hd : ∀ D ys H1, H D = none → H1 D = some (.lst ys) → Pv xs.length ys H1 → Q (.ref D) H1) : rLc2A K g tt tl1 g1 tt1 te vs vs1 σ Q (.ref a) H := by
  refine ⟨a, xs, rfl, .intro s s0 fun J G w hG D hD => ⟨fun i m H => m = xs.length - i ∧ i ≤ xs.length ∧ LcS D Pv i H, ⟨xs.length, by simp, Nat.zero_le _, [], upd_same, h0 D _ hD (fun b o e => by rw [upd_ne (ne_of_none e hD)]; exact e) upd_same (fun b hb => upd_ne hb)⟩, ?_⟩⟩
  rintro i m H' ⟨rfl, hi, ys, hD', p⟩
  have q := hG _ (hl i ys H' p)
  by_cases hlt : i < xs.length
  · refine .inr ⟨w.goes i H' hlt q, LcS D Pv (i + 1), fun H'' p' => ⟨xs.length - (i + 1), by omega, rfl, hlt, p'⟩, fun x H'' y => ?_⟩
    obtain ⟨rfl, e⟩ := w.yields i H' x H'' hlt q y
    exact hs i x D ys _ hD e hD' p
  · have e : i = xs.length := by omega
    subst e
    exact .inl ⟨w.stops H' q, hd D ys H' hD hD' p⟩
end
end Z

set_option Elab.async false
set_option linter.all false
set_option maxRecDepth 100000
set_option maxHeartbeats 4000000
/-! more readings: lists and tuples of texts -/
namespace Z
open PySem PySem.Spec PyProof.Rows L2
theorem same_new {H : Hp} {p : Addr} {o : HO} (hp : H p = none) : Same H (upd H p o) := fun b q e => by rw [upd_ne (ne_of_none e hp)]; exact e
section
variable {X : Cx} {K : PySem.W.Frag}
theorem k_inS (hK : X.K = K) : OpR X (compareOp .In) (rIn K false) := by subst hK; exact op_in_seq
theorem k_notInS (hK : X.K = K) : OpR X (compareOp .NotIn) (rIn K true) := by subst hK; exact op_notIn_seq
theorem k_inD (hK : X.K = K) (hu : X.A.units + 65 < cLine) : OpR X (compareOp .In) (rInD K) := by subst hK; exact op_inD hu
theorem k_slA (hK : X.K = K) : SlR X (fun x lo hi H Q => rSlL K x lo hi H Q ∨ rSlT K x lo hi H Q) := by subst hK; exact sl_list.or sl_tup
def rListA (K : PySem.W.Frag) : List V → Hp → VK → Prop := fun xs H Q => ∃ p ys, xs = [.ref p] ∧ (SqL K H p ys ∨ SqT K H p ys) ∧ ∀ l, H l = none → Q (.ref l) (upd H l (.lst ys))
theorem k_listA (hK : X.K = K) : CallR X (.type "list") (rListA K) := by subst hK; exact call_list_of
def rTupA (K : PySem.W.Frag) : List V → Hp → VK → Prop := fun xs H Q => ∃ p ys, xs = [.ref p] ∧ ((SqL K H p ys ∧ ∀ l, H l = none → Q (.ref l) (upd H l (.tup ys))) ∨ (SqT K H p ys ∧ Q (.ref p) H))
theorem k_tupA (hK : X.K = K) : CallR X (.type "tuple") (rTupA K) := by subst hK; exact call_tuple_of
theorem k_sort (hK : X.K = K) : CallR X (.builtin "sorted") (rSortST K) := by subst hK; exact cr_sortST
theorem k_iterT (hK : X.K = K) : CallR X (.builtin "iter") (rIterT K) := by subst hK; exact cr_iterT
theorem k_eqDD (hK : X.K = K) (hu : X.A.units + 66 < cLine) : OpR X (compareOp .Eq) (rEqDD K) := by subst hK; exact op_eqDD hu
theorem k_any (hK : X.calm = true) (hK2 : X.K = K) : CallR X (.builtin "any") (rAny K) := by subst hK2; exact cr_any hK
theorem k_all (hK : X.calm = true) (hK2 : X.K = K) : CallR X (.builtin "all") (rAll K) := by subst hK2; exact cr_all hK
theorem k_listOwn {C : Addr} {j : Nat} {spI spL : Sp} {kI kL : Nat} (hK : X.K = K) (hc : X.calm = true) (cI : CalO X.prog X.w X.K X.mg X.base C "__iter__" kI spI) (cL : CalO X.prog X.w X.K X.mg X.base C "__len__" kL spL) (hr : Room j X.A) (hI : kI + 2 ≤ j := by decide) (hL : kL + 3 ≤ j := by decide) :
    CallR X (.type "list") (rListOwn K C spI spL) := by subst hK; exact z_listOwn hc cI cL hr hI hL
/-- the truth of any value -/
def tTruA (K : PySem.W.Frag) (ta : TE) : TT := fun σ H Q => ta σ H fun x H' => ∃ k, TruV K x H' k ∧ Q k H'
theorem k_truth {a : Expr} {ta : TE} (hK : X.K = K) (ha : PE X a ta) (he : ∀ whole, isTrue a X.env whole = (do let v ← whole; standAt a.pos; holding [v] (truthy v))) : PT X a (tTruA K ta) := by subst hK; exact pt_truth ha he
/-- a dict's own pairs, copied -/
def rDictD : List V → Hp → VK → Prop := fun xs H Q => ∃ (a : Addr) (kvs : List (Key × V)), xs = [.ref a] ∧ Rd H a (.dK kvs) ∧ ∀ p, H p = none → Q (.ref p) (upd H p (.dK kvs))
theorem k_dictD : CallR X (.type "dict") rDictD := call_dictD
def rSortD : List V → Hp → VK → Prop := fun xs H Q => ∃ (a : Addr) (kvs : List (Key × V)) (ks : List Str), xs = [.ref a] ∧ Rd H a (.dK kvs) ∧ kvs.map (·.1) = ks.map Sum.inr ∧ ks.length < 64 ∧
    ∀ ys p, ys.Perm ks → sortedS ys = true → H p = none → Q (.ref p) (upd H p (.lst (ys.map V.str)))
theorem k_sortD (hc : X.calm = true) : CallR X (.builtin "sorted") rSortD := call_sortedD hc
end
section
variable {K : PySem.W.Frag} {σ : L2.St} {H : Hp} {D : Ends} {te ta : TE} {Q : VK} {QB : Bool → Hp → Prop} {a p : Addr} {xs ys : List V} {zs : List Str} {x y : Str}
theorem flat_strs : ∀ zs : List Str, (zs.map V.str).all flatV = true
  | [] => rfl
  | z :: zs => by
    rw [List.map_cons, List.all_cons, flat_strs zs]
    rfl
theorem inV_strs : ∀ (zs : List Str) (x : Str), inV (.str x) (zs.map V.str) = decide (x ∈ zs)
  | [], x => by simp [inV]
  | z :: zs, x => by
    have ih := inV_strs zs x
    unfold inV at ih ⊢
    rw [List.map_cons, List.any_cons, ih]
    have e : eqV (.str z) (.str x) = decide (z = x) := by
      show (z == x) = decide (z = x)
      rfl
    rw [e]
    by_cases h : z = x
    · subst h
      simp
    · have : ¬ x = z := fun e => h e.symm
      simp [h, this]
theorem i_inS (s : SqA K H p (zs.map V.str)) (h : Q (.bl (decide (x ∈ zs))) H) : rIn K false (.str x) (.ref p) H Q := ⟨p, _, rfl, s, rfl, flat_strs zs, by rw [inV_strs]; exact h⟩
theorem i_notInS (s : SqA K H p (zs.map V.str)) (h : Q (.bl (!decide (x ∈ zs))) H) : rIn K true (.str x) (.ref p) H Q := ⟨p, _, rfl, s, rfl, flat_strs zs, by rw [inV_strs]; exact h⟩
theorem i_lenA (s : SqA K H p xs) (h : Q (.int xs.length) H) : rLen K [.ref p] H Q := s.elim (fun s => i_lenL s h) fun s => i_lenT s h
theorem i_tru0 (h : ta σ H (fun x H1 => ∃ k, TruV K x H1 k ∧ QB k H1)) : tTruA K ta σ H QB := h
theorem i_truL {b : Bool} (s : SqA K H p xs) (e : (!xs.isEmpty) = b) (h : QB b H) : ∃ k, TruV K (.ref p) H k ∧ QB k H := ⟨b, s.elim (fun s => .inl ⟨xs, s, e.symm⟩) fun s => .inr (.inl ⟨xs, s, e.symm⟩), h⟩
theorem i_listA (s : SqA K H p ys) (h : ∀ l H', H l = none → Same H H' → H' l = some (.lst ys) → (∀ b, b ≠ l → H' b = H b) → Q (.ref l) H') : rListA K [.ref p] H Q := ⟨p, ys, rfl, s, fun l hl => h l _ hl (same_new hl) upd_same fun b hb => upd_ne hb⟩
theorem i_tupL (s : SqL K H p ys) (h : ∀ l H', H l = none → Same H H' → H' l = some (.tup ys) → (∀ b, b ≠ l → H' b = H b) → Q (.ref l) H') : rTupA K [.ref p] H Q := ⟨p, ys, rfl, .inl ⟨s, fun l hl => h l _ hl (same_new hl) upd_same fun b hb => upd_ne hb⟩⟩
theorem i_tupA (s : SqA K H p ys) (h : ∀ l H', Same H H' → SqT K H' l ys → (∀ b, H b ≠ none → H' b = H b) → Q (.ref l) H') : rTupA K [.ref p] H Q := by
  rcases s with s | s
  · exact i_tupL s fun l H' hl sm e ho => h l H' sm (.of e) fun b hb => ho b fun z => hb (z ▸ hl)
  · exact ⟨p, ys, rfl, .inr ⟨s, h p H (Same.refl _) s fun _ _ => rfl⟩⟩
theorem i_sort (s : SqA K H p (zs.map V.str)) (l : zs.length < 64) (h : ∀ q H', H q = none → Same H H' → (∀ b, b ≠ q → H' b = H b) → H' q = some (.lst ((srt zs).map V.str)) → Q (.ref q) H') : rSortST K [.ref p] H Q := ⟨p, zs, rfl, s, l, h⟩
theorem i_sortD {kvs : List (Key × V)} (e : H a = some (.dK kvs)) (k : kvs.map (·.1) = zs.map Sum.inr) (l : zs.length < 64) (h : ∀ q H', H q = none → Same H H' → (∀ b, b ≠ q → H' b = H b) → H' q = some (.lst ((srt zs).map V.str)) → Q (.ref q) H') : rSortD [.ref a] H Q :=
  ⟨a, kvs, zs, rfl, .inl e, k, l, fun ys q hp hs hq => by obtain rfl := srt_eq hp hs; exact h q _ hq (same_new hq) (fun b hb => upd_ne hb) upd_same⟩
theorem i_iterT {t : Addr} (s : SqT K H t ys) (h : ∀ q, H q = none → Q (.ref q) (upd H q (TupIt q t 0))) : rIterT K [.ref t] H Q := ⟨t, ys, rfl, s, h⟩
/-- xs[:j], j below the length -/
theorem cut_to (xs : List V) (j : Nat) : cutV xs none (some (j : Int)) = xs.take j := by
  unfold cutV
  rw [HT.sIx_none, HT.sIx_nat, List.drop_zero, Nat.sub_zero]
  by_cases h : j ≤ xs.length
  · rw [Nat.min_eq_left h]
  · rw [Nat.min_eq_right (by omega), List.take_length, List.take_of_length_le (by omega)]
theorem i_slTo {j : Nat} (s : SqA K H a xs) (hj : j < xs.length) (h : ∀ q H2, H q = none → Same H H2 → SqA K H2 q (xs.take j) → (∀ b, b ≠ q → H2 b = H b) → Q (.ref q) H2) : (rSlL K (.ref a) none (some (j : Int)) H Q ∨ rSlT K (.ref a) none (some (j : Int)) H Q) := by
  rcases s with s | s
  · exact .inl ⟨a, xs, rfl, s, fun q hq => by rw [cut_to]; exact h q _ hq (same_new hq) (.l upd_same) fun b hb => upd_ne hb⟩
  · refine .inr ⟨a, xs, rfl, s, ?_, fun q hq => by rw [cut_to]; exact h q _ hq (same_new hq) (.t upd_same) fun b hb => upd_ne hb⟩
    rintro ⟨_, e⟩
    rw [HT.sIx_nat, Nat.min_eq_left (by omega)] at e
    omega
/-- {x!r} -/
def rFmtR (x : V) (H1 : Hp) (Q : VK) : Prop := (∃ y : Str, x = .str y ∧ (reprText y).length ≤ sizeLine ∧ Q (.str (reprText y)) H1) ∨ ∃ i : Int, x = .int i ∧ i.natAbs.log2 < 1920 ∧ Q (.str (toString i)) H1
theorem i_fmtR (h : te σ H (fun x H1 => rFmtR x H1 Q)) : tFmtR te σ H Q := h
theorem i_fmtRS (l : (reprText y).length ≤ 100000) (h : Q (.str (reprText y)) H) : rFmtR (.str y) H Q := .inl ⟨y, rfl, Nat.le_trans l (by decide), h⟩
/-! lists changed -/
theorem i_bm0 {T : String} {r : V → List V → Hp → VK → Prop} (h : te σ H (fun x H1 => tyV K T x H1 ∧ r x [] H1 Q)) : tBM0 K T r te σ H Q := h
theorem ix_seq {n k : Nat} (h : k < n) : seqIndex? (k : Int) n = some k := by
  have := ixN_seq (ixN_n h)
  exact this.1
theorem i_popAt {k : Nat} {v : V} (e : H p = some (.lst xs)) (l : xs.length ≤ 100000) (hk : xs[k]? = some v) (h : ∀ H2, H2 p = some (.lst (xs.eraseIdx k)) → (∀ b, b ≠ p → H2 b = H b) → Q v H2) : rPopAt (.ref p) [.int (k : Nat)] H Q := by
  have lt := (List.getElem?_eq_some_iff.mp hk).1
  exact ⟨p, xs, k, k, v, rfl, rfl, e, by omega, by omega, ix_seq lt, hk, h _ upd_same fun b hb => upd_ne hb⟩
theorem i_clear (e : H p = some (.lst xs)) (h : ∀ H2, H2 p = some (.lst []) → (∀ b, b ≠ p → H2 b = H b) → Q .non H2) : rClear (.ref p) [] H Q := ⟨p, xs, rfl, rfl, e, h _ upd_same fun b hb => upd_ne hb⟩
/-! data -/
theorem dp_strs : ∀ zs : List Str, DpAll K H (zs.map V.str) (zs.map PyData.str)
  | [] => .nil
  | z :: zs => .cons (.str z) (dp_strs zs)
theorem eqv_strs : ∀ zs ws : List Str, PyData.eqvAll (zs.map PyData.str) (ws.map PyData.str) = decide (zs = ws)
  | [], [] => rfl
  | [], _ :: _ => rfl
  | _ :: _, [] => rfl
  | z :: zs, w :: ws => by
    show (PyData.eqv (.str z) (.str w) && PyData.eqvAll _ _) = _
    rw [eqv_strs zs ws]
    show ((z == w) && _) = _
    by_cases h1 : z = w <;> by_cases h2 : zs = ws <;> simp [h1, h2]
end
end Z

set_option Elab.async false
set_option linter.all false
set_option maxRecDepth 100000
set_option maxHeartbeats 4000000
/-! orders in the heap; promises of the defs about them -/
namespace Z
open PySem PySem.Spec PyProof.Rows L2
theorem u65 {A : Around} {k : Nat} (hr : Room k A) : A.units + 65 < cLine := by have := hr.un; omega
theorem u66 {A : Around} {k : Nat} (hr : Room k A) : A.units + 66 < cLine := by have := hr.un; omega
/-- this promise is never asked -/
def spNo2 : Sp := fun vs _ _ _ => vs.length = 2 ∧ False
/-! ### words -/
def let_ (c : Nat) : Bool := decide (97 ≤ c ∧ c ≤ 122)
def nameL (l : List Nat) : Bool := decide (1 ≤ l.length ∧ l.length ≤ 8) && (l.head?.any let_ && l.all fun c => let_ c || ZS.dig c)
def nameB (z : Str) : Bool := nameL (TL.tl z)
theorem nameB_len {z : Str} (h : nameB z = true) : z.length ≤ 8 := by
  unfold nameB nameL at h
  rw [Bool.and_eq_true] at h
  have := of_decide_eq_true h.1
  have e := TL.len_tl z
  omega
theorem nameB_ok {z : Str} (h : nameB z = true) : PyData.strOk z = true := by
  unfold nameB nameL at h
  rw [Bool.and_eq_true, Bool.and_eq_true] at h
  have h2 := List.all_eq_true.mp h.2.2
  unfold PyData.strOk
  rw [← Array.all_toList, List.all_eq_true]
  intro c hc
  have := h2 c hc
  unfold let_ ZS.dig at this
  simp at this ⊢
  omega
def spIsName : Sp := fun vs H Q _ => vs.length = 1 ∧ ∃ z : Str, vs = [.str z] ∧ z.length ≤ 100000 ∧ ∀ H', Same H H' → Q (.bl (nameB z)) H'
def spCheckN (K : PySem.W.Frag) : Sp := fun vs H Q _ => vs.length = 1 ∧ ∃ (a : Addr) (zs : List Str), vs = [.ref a] ∧ SqA K H a (zs.map V.str) ∧ zs.length ≤ 60 ∧ (∀ z ∈ zs, nameB z = true) ∧ zs.Nodup ∧ ∀ H', Same H H' → Q .non H'
/-- a text whose printed form is not too long -/
def RB (z : Str) : Prop := (reprText z).length ≤ 10000
def GStr : V → Hp → Prop := fun v _ => ∃ z : Str, v = .str z ∧ RB z
/-- an error's own name -/
def EName (CU : Addr) (z : Str) (H : Hp) (E : XK) : Prop := ∀ d H', Same H H' → H' d = some (.xd [("name", .str z)]) → E (.ref CU) (some d) H'
def miss (ks zs : List Str) : Option Str := zs.find? fun z => !decide (z ∈ ks)
def spAmong (K : PySem.W.Frag) (CU : Addr) : Sp := fun vs H Q E => vs.length = 2 ∧ ∃ (a b : Addr) (ks zs : List Str), vs = [.ref a, .ref b] ∧ SqA K H a (ks.map V.str) ∧ SqA K H b (zs.map V.str) ∧
  (∀ z, miss ks zs = some z → RB z ∧ EName CU z H E) ∧ (miss ks zs = none → ∀ H', Same H H' → Q .non H')
theorem miss_none {ks zs : List Str} (h : ∀ z ∈ zs, z ∈ ks) : miss ks zs = none := by
  unfold miss
  rw [List.find?_eq_none]
  intro z hz
  simp [h z hz]
section
variable {K : PySem.W.Frag} {CU a b : Addr} {H : Hp} {Q : VK} {E : XK} {ks zs : List Str} {z : Str}
theorem i_isName (hz : z.length ≤ 100000) (h : ∀ H', Same H H' → Q (.bl (nameB z)) H') : spIsName [.str z] H Q E := ⟨rfl, z, rfl, hz, h⟩
theorem i_checkN (s : SqA K H a (zs.map V.str)) (l : zs.length ≤ 60) (n : ∀ z ∈ zs, nameB z = true) (d : zs.Nodup) (h : ∀ H', Same H H' → Q .non H') : spCheckN K [.ref a] H Q E := ⟨rfl, a, zs, rfl, s, l, n, d, h⟩
theorem i_among (s : SqA K H a (ks.map V.str)) (t : SqA K H b (zs.map V.str)) (m : ∀ z ∈ zs, z ∈ ks) (h : ∀ H', Same H H' → Q .non H') : spAmong K CU [.ref a, .ref b] H Q E := by
  refine ⟨rfl, a, b, ks, zs, rfl, s, t, ?_, fun _ => h⟩
  intro z hz
  rw [miss_none m] at hz
  cases hz
end
/-! ### pairs and orders in the heap -/
/-- tuples of two texts -/
def PrT (K : PySem.W.Frag) (H : Hp) (ps : List V) (E : List (Str × Str)) : Prop := ps.length = E.length ∧ ∀ (i : Nat) (p : V) (e : Str × Str), ps[i]? = some p → E[i]? = some e → ∃ q, p = .ref q ∧ SqT K H q [.str e.1, .str e.2]
def PrA (K : PySem.W.Frag) (H : Hp) (b : Addr) (E : List (Str × Str)) : Prop := ∃ ps, SqA K H b ps ∧ PrT K H ps E
theorem PrT.mono {K : PySem.W.Frag} {H H' : Hp} {ps : List V} {E : List (Str × Str)} (s : Same H H') (h : PrT K H ps E) : PrT K H' ps E :=
  ⟨h.1, fun i p e hp he => let ⟨q, e1, e2⟩ := h.2 i p e hp he; ⟨q, e1, Same_seqT s e2⟩⟩
theorem PrA.mono {K : PySem.W.Frag} {H H' : Hp} {b : Addr} {E : List (Str × Str)} (s : Same H H') (h : PrA K H b E) : PrA K H' b E := let ⟨ps, h1, h2⟩ := h; ⟨ps, sameA s h1, h2.mono s⟩
theorem PrT.nil {K : PySem.W.Frag} {H : Hp} : PrT K H [] [] := ⟨rfl, fun i p e hp => by simp at hp⟩
theorem PrT.snoc {K : PySem.W.Frag} {H : Hp} {ps : List V} {E : List (Str × Str)} {q : Addr} {a b : Str} (h : PrT K H ps E) (e : SqT K H q [.str a, .str b]) : PrT K H (ps ++ [.ref q]) (E ++ [(a, b)]) := by
  refine ⟨by rw [List.length_append, List.length_append, h.1]; rfl, fun i p e' hp he => ?_⟩
  by_cases lt : i < ps.length
  · rw [List.getElem?_append_left lt] at hp
    rw [List.getElem?_append_left (by rw [← h.1]; exact lt)] at he
    exact h.2 i p e' hp he
  · rw [List.getElem?_append_right (by omega)] at hp
    rw [List.getElem?_append_right (by rw [← h.1]; omega), ← h.1] at he
    cases hk : i - ps.length with
    | zero =>
      rw [hk] at hp he
      cases hp
      cases he
      exact ⟨q, rfl, e⟩
    | succ n =>
      rw [hk] at hp
      simp at hp
/-- an order at a: its names ascending, what is above each -/
def rowsOf (N : List Str) (A : Str → Addr) : List (Key × V) := N.map fun n => (.inr n, .ref (A n))
def OTab (H : Hp) (d : Addr) (N : List Str) (R : Str → Str → Bool) : Prop := ∃ A, H d = some (.dK (rowsOf N A)) ∧ ∀ n ∈ N, H (A n) = some (.tup ((OM.ab N R n).map V.str))
def IsO (CO : Addr) (H : Hp) (a : Addr) (N : List Str) (R : Str → Str → Bool) : Prop := ∃ dx t d, H a = some (.ins CO dx [("names", .ref t), ("_above", .ref d)]) ∧ H t = some (.tup (N.map V.str)) ∧ OTab H d N R ∧ N.length ≤ 8 ∧ N.Nodup ∧ ∀ n ∈ N, nameB n = true
theorem OTab.mono {H H' : Hp} {d : Addr} {N : List Str} {R : Str → Str → Bool} (s : Same H H') (h : OTab H d N R) : OTab H' d N R := let ⟨A, h1, h2⟩ := h; ⟨A, s _ _ h1, fun n hn => s _ _ (h2 n hn)⟩
theorem IsO.mono {CO : Addr} {H H' : Hp} {a : Addr} {N : List Str} {R : Str → Str → Bool} (s : Same H H') (h : IsO CO H a N R) : IsO CO H' a N R :=
  let ⟨dx, t, d, h1, h2, h3, h4⟩ := h; ⟨dx, t, d, s _ _ h1, s _ _ h2, h3.mono s, h4⟩
theorem rows_val {A : Str → Addr} {n : Str} : ∀ {N : List Str}, n ∈ N → valV (rowsOf N A) (.inr n) = some (.ref (A n))
  | m :: N, h => by
    by_cases e : m = n
    · subst e
      exact valV_pos rfl
    · have hm : n ∈ N := by
        rcases List.mem_cons.mp h with h | h
        · exact absurd h.symm e
        · exact h
      have := rows_val (A := A) hm
      unfold rowsOf at this ⊢
      rw [List.map_cons, valV_neg (fun z => e (Sum.inr.inj z))]
      exact this
def spClosure (K : PySem.W.Frag) : Sp := fun vs H Q _ => vs.length = 2 ∧ ∃ (a b : Addr) (N : List Str) (E : List (Str × Str)), vs = [.ref a, .ref b] ∧ SqA K H a (N.map V.str) ∧ PrA K H b E ∧ N.length ≤ 8 ∧ N.Nodup ∧ N.Pairwise (fun a b => ltS b a = false) ∧
  (∀ p ∈ E, p.1 ∈ N ∧ p.2 ∈ N) ∧ ∀ d H', H d = none → Same H H' → OTab H' d N (OM.cl E) → Q (.ref d) H'
/-- new tuples of two texts -/
def TPr (H : Hp) (qs : List Addr) (E : List (Str × Str)) : Prop := qs.length = E.length ∧ ∀ (i : Nat) (q : Addr) (e : Str × Str), qs[i]? = some q → E[i]? = some e → H q = some (.tup [.str e.1, .str e.2])
theorem TPr.keep {H H' : Hp} {qs : List Addr} {E : List (Str × Str)} (h : TPr H qs E) (t : ∀ c ys, H c = some (.tup ys) → H' c = some (.tup ys)) : TPr H' qs E := ⟨h.1, fun i q e a b => t _ _ (h.2 i q e a b)⟩
theorem TPr.mono {H H' : Hp} {qs : List Addr} {E : List (Str × Str)} (s : Same H H') (h : TPr H qs E) : TPr H' qs E := h.keep fun c ys e => s _ _ e
theorem TPr.nil {H : Hp} : TPr H [] [] := ⟨rfl, fun i q e h => by simp at h⟩
theorem TPr.snoc {H : Hp} {qs : List Addr} {E : List (Str × Str)} {q : Addr} {a b : Str} (h : TPr H qs E) (e : H q = some (.tup [.str a, .str b])) : TPr H (qs ++ [q]) (E ++ [(a, b)]) := by
  refine ⟨by rw [List.length_append, List.length_append, h.1]; rfl, fun i q' e' hq he => ?_⟩
  by_cases lt : i < qs.length
  · rw [List.getElem?_append_left lt] at hq
    rw [List.getElem?_append_left (by rw [← h.1]; exact lt)] at he
    exact h.2 i q' e' hq he
  · rw [List.getElem?_append_right (by omega)] at hq
    rw [List.getElem?_append_right (by rw [← h.1]; omega), ← h.1] at he
    cases hk : i - qs.length with
    | zero =>
      rw [hk] at hq he
      cases hq
      cases he
      exact e
    | succ n =>
      rw [hk] at hq
      simp at hq
theorem TPr.prt {K : PySem.W.Frag} {H : Hp} {qs : List Addr} {E : List (Str × Str)} (h : TPr H qs E) : PrT K H (qs.map V.ref) E := by
  refine ⟨by rw [List.length_map, h.1], fun i p e hp he => ?_⟩
  rw [List.getElem?_map] at hp
  cases hq : qs[i]? with
  | none => rw [hq] at hp; cases hp
  | some q =>
    rw [hq] at hp
    cases hp
    exact ⟨q, rfl, .of (h.2 i q e hq he)⟩
/-- a new list of pairs -/
def LPr (H : Hp) (p : Addr) (E : List (Str × Str)) : Prop := ∃ qs : List Addr, H p = some (.lst (qs.map V.ref)) ∧ TPr H qs E
theorem LPr.a {K : PySem.W.Frag} {H : Hp} {p : Addr} {E : List (Str × Str)} (h : LPr H p E) : PrA K H p E := let ⟨qs, h1, h2⟩ := h; ⟨_, .l h1, h2.prt⟩
theorem LPr.mono {H H' : Hp} {p : Addr} {E : List (Str × Str)} (s : Same H H') (h : LPr H p E) : LPr H' p E := let ⟨qs, h1, h2⟩ := h; ⟨qs, s _ _ h1, h2.mono s⟩
/-- the tuples stand when an object of another kind is changed -/
theorem tup_keep {H H' : Hp} {p : Addr} {o : HO} (e : H p = some o) (nt : ∀ ys, o ≠ .tup ys) (ho : ∀ b, b ≠ p → H' b = H b) : ∀ c ys, H c = some (.tup ys) → H' c = some (.tup ys) := fun c ys hc => by
  rw [ho c (ne_of hc e (fun z => nt ys z.symm))]
  exact hc
theorem lst_keep {H H' : Hp} {p : Addr} {xs : List V} (e : H p = some (.lst xs)) (ho : ∀ b, b ≠ p → H' b = H b) : ∀ c ys, H c = some (.tup ys) → H' c = some (.tup ys) := tup_keep e (fun _ z => nomatch z) ho
/-- one pair more -/
theorem LPr.snoc {H H2 : Hp} {p q : Addr} {E : List (Str × Str)} {xs : List V} {a b : Str} (h : LPr H p E) (e : H p = some (.lst xs)) (eq : H q = some (.tup [.str a, .str b])) (e2 : H2 p = some (.lst (xs ++ [.ref q]))) (ho : ∀ b, b ≠ p → H2 b = H b) : LPr H2 p (E ++ [(a, b)]) := by
  obtain ⟨qs, h1, h2⟩ := h
  have ex : xs = qs.map V.ref := by
    have := h1.symm.trans e
    cases this
    rfl
  subst ex
  exact ⟨qs ++ [q], by rw [e2, List.map_append]; rfl, (h2.snoc eq).keep (lst_keep e ho)⟩
def spPairs (CO : Addr) : Sp := fun vs H Q _ => vs.length = 1 ∧ ∃ a N R, vs = [.ref a] ∧ IsO CO H a N R ∧ ∀ p H', H p = none → Same H H' → LPr H' p (OM.prs N R) → Q (.ref p) H'
def spBtw (CO : Addr) : Sp := fun vs H Q _ => vs.length = 3 ∧ ∃ a N R x y, vs = [.ref a, .str x, .str y] ∧ IsO CO H a N R ∧ x ∈ N ∧ y ∈ N ∧ ∀ p H', H p = none → Same H H' → H' p = some (.lst ((OM.btw N R x y).map V.str)) → Q (.ref p) H'
def spCovers (CO : Addr) : Sp := fun vs H Q _ => vs.length = 1 ∧ ∃ a N R, vs = [.ref a] ∧ IsO CO H a N R ∧ ∀ p H', H p = none → Same H H' → LPr H' p (OM.cvs N R) → Q (.ref p) H'
def spBelow (CO CU : Addr) : Sp := fun vs H Q E => vs.length = 3 ∧ ∃ a N R x y, vs = [.ref a, .str x, .str y] ∧ IsO CO H a N R ∧ (∀ z, miss N [x, y] = some z → RB z ∧ EName CU z H E) ∧ (miss N [x, y] = none → ∀ H', Same H H' → Q (.bl (R x y)) H')
def spOInit (K : PySem.W.Frag) (CO : Addr) : Sp := fun vs H Q _ => vs.length = 3 ∧ ∃ (a b c : Addr) (zs : List Str) (E : List (Str × Str)), vs = [.ref a, .ref b, .ref c] ∧ (∃ dx, H a = some (.ins CO dx [])) ∧ SqA K H b (zs.map V.str) ∧ PrA K H c E ∧
  1 ≤ zs.length ∧ zs.length ≤ 8 ∧ (∀ z ∈ zs, nameB z = true) ∧ zs.Nodup ∧ (∀ p ∈ E, p.1 ∈ zs ∧ p.2 ∈ zs) ∧ E.length ≤ 10000 ∧ OM.Anti E ∧
  ∀ H', IsO CO H' a (srt zs) (OM.cl E) → (∀ x o, x ≠ a → H x = some o → H' x = some o) → Q .non H'
def spOIn (CO : Addr) : Sp := fun vs H Q _ => vs.length = 2 ∧ ∃ a N R z, vs = [.ref a, .str z] ∧ IsO CO H a N R ∧ ∀ H', Same H H' → Q (.bl (decide (z ∈ N))) H'
def spOLen (CO : Addr) : Sp := fun vs H Q _ => vs.length = 1 ∧ ∃ a N R, vs = [.ref a] ∧ IsO CO H a N R ∧ ∀ H', Same H H' → Q (.int (N.length : Nat)) H'
def spOIter (CO : Addr) : Sp := fun vs H Q _ => vs.length = 1 ∧ ∃ a dx t d ys, vs = [.ref a] ∧ H a = some (.ins CO dx [("names", .ref t), ("_above", .ref d)]) ∧ H t = some (.tup ys) ∧ ∀ q, H q = none → Q (.ref q) (upd H q (TupIt q t 0))
/-- the other side of ==: another order, or no order -/
def spOEq (K : PySem.W.Frag) (CO : Addr) : Sp := fun vs H Q _ => vs.length = 2 ∧ ∃ a N R y, vs = [.ref a, y] ∧ IsO CO H a N R ∧
  ((∃ b M S, y = .ref b ∧ IsO CO H b M S ∧ ∀ H', Same H H' → Q (.bl (decide (N = M) && N.all fun n => decide (OM.ab N R n = OM.ab M S n))) H') ∨
   (∃ t, TyX K H y t ∧ PySem.W.kitOne K t (.ref CO) = some false ∧ ∀ H', Same H H' → Q (.bl false) H'))
def spOStr (CO : Addr) : Sp := fun vs H Q _ => vs.length = 1 ∧ ∃ a N R, vs = [.ref a] ∧ IsO CO H a N R ∧ ∀ z H', Same H H' → Q (.str z) H'
/-! ### the closure's dict of dicts -/
def trues (l : List Str) : List (Key × V) := l.map fun k => (.inr k, .bl true)
def setF {α : Type} (f : Str → α) (n : Str) (v : α) : Str → α := fun x => if x = n then v else f x
theorem setF_same {α : Type} {f : Str → α} {n : Str} {v : α} : setF f n v n = v := by simp [setF]
theorem setF_ne {α : Type} {f : Str → α} {n m : Str} {v : α} (h : m ≠ n) : setF f n v m = f m := by simp [setF, h]
theorem valV_map_none {α : Type} {g : α → V} {f : α → Str} {k : Str} : ∀ {l : List α}, (∀ x ∈ l, f x ≠ k) → valV (l.map fun x => (Sum.inr (f x), g x)) (Sum.inr k : Key) = none
  | [], _ => rfl
  | x :: l, h => by
    rw [List.map_cons, valV_neg (fun z => h x List.mem_cons_self (Sum.inr.inj z))]
    exact valV_map_none fun y hy => h y (List.mem_cons_of_mem _ hy)
theorem trues_put {l : List Str} {k : Str} : putK (trues l) (.inr k) (.bl true) = trues (if k ∈ l then l else l ++ [k]) := by
  by_cases h : k ∈ l
  · rw [if_pos h]
    have hany : ((trues l).any fun kv => decide (kv.1 = Sum.inr k)) = true := List.any_eq_true.mpr ⟨((.inr k : Key), V.bl true), List.mem_map.mpr ⟨k, h, rfl⟩, by simp⟩
    unfold putK
    rw [if_pos hany]
    unfold trues
    rw [List.map_map]
    refine List.map_congr_left fun x _ => ?_
    show (if _ = _ then _ else _) = _
    split
    · rfl
    · rfl
  · have hno : valV (trues l) (.inr k) = none := valV_map_none (k := k) (f := fun x => x) (g := fun _ => V.bl true) fun x hx (e : x = k) => h (e ▸ hx)
    rw [if_neg h, putK_new _ hno]
    unfold trues
    rw [List.map_append]
    rfl
theorem trues_get {l : List Str} {k : Str} : (valV (trues l) (.inr k)).isSome = decide (k ∈ l) := by
  by_cases h : k ∈ l
  · obtain ⟨v, h1, _⟩ := valV_mem (ls := trues l) (k := .inr k) (by
      unfold trues
      rw [List.map_map]
      exact List.mem_map.mpr ⟨k, h, rfl⟩)
    rw [h1]
    simp [h]
  · unfold trues
    rw [valV_map_none (k := k) (f := fun x => x) (g := fun _ => V.bl true) fun x hx (e : x = k) => h (e ▸ hx)]
    simp [h]
def mk (l m : List Str) : List Str := m.foldl (fun acc k => if k ∈ acc then acc else acc ++ [k]) l
theorem trues_merge : ∀ (m l : List Str), mergeK (trues l) (trues m) = trues (mk l m)
  | [], l => rfl
  | k :: m, l => by
    show mergeK (putK (trues l) (.inr k) (.bl true)) (trues m) = trues (mk (if k ∈ l then l else l ++ [k]) m)
    rw [trues_put, trues_merge m]
theorem mem_mk : ∀ (m l : List Str) (x : Str), x ∈ mk l m ↔ x ∈ l ∨ x ∈ m
  | [], l, x => by simp [mk]
  | k :: m, l, x => by
    show x ∈ mk (if k ∈ l then l else l ++ [k]) m ↔ _
    rw [mem_mk m]
    by_cases h : k ∈ l
    · rw [if_pos h]
      constructor
      · rintro (q | q)
        · exact .inl q
        · exact .inr (List.mem_cons_of_mem _ q)
      · rintro (q | q)
        · exact .inl q
        · rcases List.mem_cons.mp q with rfl | q
          · exact .inl h
          · exact .inr q
    · rw [if_neg h]
      simp [or_assoc]
theorem put_nodup {l : List Str} {k : Str} (h : l.Nodup) : (if k ∈ l then l else l ++ [k]).Nodup := by
  split
  · exact h
  · rename_i hn
    refine List.nodup_append.mpr ⟨h, by simp, fun x hx y hy e => hn ?_⟩
    rw [← List.mem_singleton.mp hy, ← e]
    exact hx
theorem mk_nodup : ∀ (m : List Str) {l : List Str}, l.Nodup → (mk l m).Nodup
  | [], l, h => h
  | k :: m, l, h => mk_nodup m (put_nodup h)
theorem nodup_len {N l : List Str} (h : l.Nodup) (s : ∀ x ∈ l, x ∈ N) : l.length ≤ N.length := h.length_le_of_subset s
theorem rows_put {A : Str → Addr} {n : Str} {p : Addr} {N : List Str} (h : n ∈ N) : putK (rowsOf N A) (.inr n) (.ref p) = rowsOf N (setF A n p) := by
  have hany : ((rowsOf N A).any fun kv => decide (kv.1 = Sum.inr n)) = true := List.any_eq_true.mpr ⟨((.inr n : Key), V.ref (A n)), List.mem_map.mpr ⟨n, h, rfl⟩, by simp⟩
  unfold putK
  rw [if_pos hany]
  unfold rowsOf
  rw [List.map_map]
  refine List.map_congr_left fun x _ => ?_
  show (if (Sum.inr x : Key) = Sum.inr n then ((Sum.inr x : Key), V.ref p) else (Sum.inr x, V.ref (A x))) = _
  by_cases e : x = n
  · subst e
    rw [if_pos rfl, setF_same]
  · rw [if_neg (fun z => e (Sum.inr.inj z)), setF_ne e]
theorem rows_snoc {A : Str → Addr} {n : Str} {p : Addr} {N : List Str} (h : ¬ n ∈ N) : putK (rowsOf N A) (.inr n) (.ref p) = rowsOf (N ++ [n]) (setF A n p) := by
  unfold rowsOf
  rw [putK_new _ (valV_map_none (k := n) (f := fun x => x) (g := fun n => V.ref (A n)) fun x hx (e : x = n) => h (e ▸ hx)), List.map_append]
  congr 1
  · refine List.map_congr_left fun x hx => ?_
    rw [setF_ne fun (e : x = n) => h (e ▸ hx)]
  · show _ = [(_, V.ref (setF A n p n))]
    rw [setF_same]
/-- the dict at d0 has a dict of its own for each name: its keys are ks n -/
structure CSt (H : Hp) (d0 : Addr) (N : List Str) (A : Str → Addr) (ks : Str → List Str) (H1 : Hp) : Prop where
  same : Same H H1
  d0n : H d0 = none
  tab : H1 d0 = some (.dK (rowsOf N A))
  new : ∀ n ∈ N, H (A n) = none
  ne : ∀ n ∈ N, A n ≠ d0
  row : ∀ n ∈ N, H1 (A n) = some (.dK (trues (ks n)))
  nd : ∀ n ∈ N, (ks n).Nodup
  inj : ∀ n ∈ N, ∀ m ∈ N, A n = A m → n = m
/-- a key more in the row of n -/
theorem CSt.put {H H1 H2 : Hp} {d0 : Addr} {N : List Str} {A : Str → Addr} {ks : Str → List Str} {n k : Str} (c : CSt H d0 N A ks H1) (hn : n ∈ N) (e : H2 (A n) = some (.dK (putK (trues (ks n)) (.inr k) (.bl true)))) (ho : ∀ b, b ≠ A n → H2 b = H1 b) :
    CSt H d0 N A (setF ks n (if k ∈ ks n then ks n else ks n ++ [k])) H2 where
  same := fun b o eb => by
    rw [ho b (ne_of_none eb (c.new n hn))]
    exact c.same _ _ eb
  d0n := c.d0n
  tab := by
    rw [ho d0 (Ne.symm (c.ne n hn))]
    exact c.tab
  new := c.new
  ne := c.ne
  row := fun m hm => by
    by_cases em : m = n
    · subst em
      rw [e, trues_put, setF_same]
    · rw [setF_ne em, ho _ (fun z => em (c.inj m hm n hn z))]
      exact c.row m hm
  nd := fun m hm => by
    by_cases em : m = n
    · subst em
      rw [setF_same]
      exact put_nodup (c.nd m hm)
    · rw [setF_ne em]
      exact c.nd m hm
  inj := c.inj
/-- another dict for n -/
theorem CSt.set {H H1 H2 H3 : Hp} {d0 p : Addr} {N l : List Str} {A : Str → Addr} {ks : Str → List Str} {n : Str} (c : CSt H d0 N A ks H1) (hn : n ∈ N) (hp : H1 p = none) (hl : l.Nodup) (s2 : ∀ b, b ≠ p → H2 b = H1 b) (e2 : H2 p = some (.dK (trues l)))
    (e : H3 d0 = some (.dK (putK (rowsOf N A) (.inr n) (.ref p)))) (ho : ∀ b, b ≠ d0 → H3 b = H2 b) : CSt H d0 N (setF A n p) (setF ks n l) H3 := by
  have hpH : H p = none := by
    cases q : H p with
    | none => rfl
    | some o => rw [c.same _ _ q] at hp; cases hp
  have pd : p ≠ d0 := fun z => by rw [z, c.tab] at hp; cases hp
  have pA : ∀ m ∈ N, A m ≠ p := fun m hm z => by rw [← z, c.row m hm] at hp; cases hp
  refine ⟨fun b o eb => ?_, c.d0n, by rw [e, rows_put hn], fun m hm => ?_, fun m hm => ?_, fun m hm => ?_, fun m hm => ?_, fun m hm m' hm' z => ?_⟩
  · rw [ho b (ne_of_none eb c.d0n), s2 b (ne_of_none eb hpH)]
    exact c.same _ _ eb
  · by_cases em : m = n
    · subst em
      rw [setF_same]
      exact hpH
    · rw [setF_ne em]
      exact c.new m hm
  · by_cases em : m = n
    · subst em
      rw [setF_same]
      exact pd
    · rw [setF_ne em]
      exact c.ne m hm
  · by_cases em : m = n
    · subst em
      rw [setF_same, setF_same, ho p pd]
      exact e2
    · rw [setF_ne em, setF_ne em, ho _ (c.ne m hm), s2 _ (pA m hm)]
      exact c.row m hm
  · by_cases em : m = n
    · subst em
      rw [setF_same]
      exact hl
    · rw [setF_ne em]
      exact c.nd m hm
  · by_cases em : m = n <;> by_cases em' : m' = n
    · rw [em, em']
    · subst em
      rw [setF_same, setF_ne em'] at z
      exact absurd z.symm (pA m' hm')
    · subst em'
      rw [setF_same, setF_ne em] at z
      exact absurd z (pA m hm)
    · rw [setF_ne em, setF_ne em'] at z
      exact c.inj m hm m' hm' z
/-- a name more -/
theorem CSt.snoc {H H1 H2 H3 : Hp} {d0 p : Addr} {L : List Str} {A : Str → Addr} {ks : Str → List Str} {n : Str} (c : CSt H d0 L A ks H1) (hn : ¬ n ∈ L) (hp : H1 p = none) (hl : (ks n).Nodup) (s2 : ∀ b, b ≠ p → H2 b = H1 b) (e2 : H2 p = some (.dK (trues (ks n))))
    (e : H3 d0 = some (.dK (putK (rowsOf L A) (.inr n) (.ref p)))) (ho : ∀ b, b ≠ d0 → H3 b = H2 b) : CSt H d0 (L ++ [n]) (setF A n p) ks H3 := by
  have hpH : H p = none := by
    cases q : H p with
    | none => rfl
    | some o => rw [c.same _ _ q] at hp; cases hp
  have pd : p ≠ d0 := fun z => by rw [z, c.tab] at hp; cases hp
  have pA : ∀ m ∈ L, A m ≠ p := fun m hm z => by rw [← z, c.row m hm] at hp; cases hp
  have two : ∀ m, m ∈ L ++ [n] → (m ∈ L ∧ m ≠ n) ∨ m = n := fun m hm => by
    rcases List.mem_append.mp hm with h | h
    · exact .inl ⟨h, fun e => hn (e ▸ h)⟩
    · exact .inr (List.mem_singleton.mp h)
  refine ⟨fun b o eb => ?_, c.d0n, by rw [e, rows_snoc hn], fun m hm => ?_, fun m hm => ?_, fun m hm => ?_, fun m hm => ?_, fun m hm m' hm' z => ?_⟩
  · rw [ho b (ne_of_none eb c.d0n), s2 b (ne_of_none eb hpH)]
    exact c.same _ _ eb
  · rcases two m hm with ⟨h, em⟩ | rfl
    · rw [setF_ne em]
      exact c.new m h
    · rw [setF_same]
      exact hpH
  · rcases two m hm with ⟨h, em⟩ | rfl
    · rw [setF_ne em]
      exact c.ne m h
    · rw [setF_same]
      exact pd
  · rcases two m hm with ⟨h, em⟩ | rfl
    · rw [setF_ne em, ho _ (c.ne m h), s2 _ (pA m h)]
      exact c.row m h
    · rw [setF_same, ho p pd]
      exact e2
  · rcases two m hm with ⟨h, em⟩ | rfl
    · exact c.nd m h
    · exact hl
  · rcases two m hm with ⟨h, em⟩ | rfl <;> rcases two m' hm' with ⟨h', em'⟩ | rfl
    · rw [setF_ne em, setF_ne em'] at z
      exact c.inj m h m' h' z
    · rw [setF_same, setF_ne em] at z
      exact absurd z (pA m h)
    · rw [setF_same, setF_ne em'] at z
      exact absurd z.symm (pA m' h')
    · rfl
theorem CSt.keep {H H1 H2 : Hp} {d0 : Addr} {N : List Str} {A : Str → Addr} {ks : Str → List Str} (c : CSt H d0 N A ks H1) (h : ∀ b, H1 b ≠ none → H2 b = H1 b) : CSt H d0 N A ks H2 where
  same := fun b o e => by
    rw [h b (by rw [c.same _ _ e]; simp)]
    exact c.same _ _ e
  d0n := c.d0n
  tab := by
    rw [h d0 (by rw [c.tab]; simp)]
    exact c.tab
  new := c.new
  ne := c.ne
  row := fun n hn => by
    rw [h _ (by rw [c.row n hn]; simp)]
    exact c.row n hn
  nd := c.nd
  inj := c.inj
theorem mem_put {l : List Str} {k x : Str} : x ∈ (if k ∈ l then l else l ++ [k]) ↔ x ∈ l ∨ x = k := by
  split
  · rename_i h
    exact ⟨.inl, fun q => q.elim (fun q => q) fun e => e ▸ h⟩
  · simp
theorem wm_self {E : List (Str × Str)} {ms : List Str} {m q : Str} : OM.wm E (m :: ms) m q = OM.wm E ms m q := by
  have := OM.wm_refl E ms m
  show (OM.wm E ms m q || (OM.wm E ms m m && OM.wm E ms m q)) = _
  rw [this]
  simp
theorem trues_keys {l : List Str} : (trues l).map (·.1) = l.map Sum.inr := by
  unfold trues
  rw [List.map_map]
  rfl
theorem trues_len {l : List Str} : (trues l).length = l.length := by unfold trues; rw [List.length_map]
theorem rows_len {N : List Str} {A : Str → Addr} : (rowsOf N A).length = N.length := by unfold rowsOf; rw [List.length_map]
end Z

set_option Elab.async false
set_option linter.all false
set_option maxRecDepth 100000
set_option maxHeartbeats 4000000
/-! try with several clauses, each with its name -/
namespace Z
open PySem PySem.Spec PyProof.Rows L2
abbrev CTS := Value × (Addr → Value → Option Addr → TS)
/-- what the clauses wish, one after the other -/
def wAll (K : PySem.W.Frag) (i : Nat) (Wout : WX) (D : Ends) : List CTS → WX
  | [] => Wout
  | (c, ts) :: r => wAs K c i ts (wAll K i Wout D r) D
/-- the clauses' suites are understood -/
inductive Clauses (X : Cx) (n : Str) : List ExceptHandler → List CTS → Prop
  | nil : Clauses X n [] []
  | cons {x : Str} {c : Value} {ts : Addr → Value → Option Addr → TS} {b : Stmt} {bs : List Stmt} {np hp : Pos} {hds : List ExceptHandler} {l : List CTS} (hc : Names X x c)
      (hsu : ∀ (a : Addr) (oe : Obj) (cls : Value) (d : Option Addr) (pn : List (Addr × Obj)), Zc cls d oe → (∃ vs, oe.data = .fields vs) → PSs (X.suite a ((a, oe) :: pn)) (b :: bs) (ts a cls d)) (r : Clauses X n hds l) :
      Clauses X n (.ExceptHandler (some (.Name x np)) (some n) (b :: bs) hp :: hds) ((c, ts) :: l)
section
variable {X : Cx} {n : Str} {i : Nat} {body : List Stmt} {h₀ : ExceptHandler} {hds : List ExceptHandler} {l : List CTS} {pos : Pos} {tb : WX → TS} {Wout : WX}
theorem z_tryAll (hs : X.stack = X.env :: X.outer) (hf : X.env.frame = some X.env.locals) (hN : X.N.Nodup) (hi : X.N[i]? = some n) (hln : X.env.kindOf n = some .local) (tk : Takes X Wout)
    (hb : ∀ (W : WX) (pn : List (Addr × Obj)) (xe : Value → Shared → Prop), Takes (X.tr pn xe) W → PassesOwn (model X.prog X.w) X.A X.env xe → PSs (X.tr pn xe) body (tb W))
    (hh : Clauses X n (h₀ :: hds) l) : PS X (.Try body (h₀ :: hds) [] [] pos) (fun D σ H => tb (wAll X.K i Wout D l) D σ H) := by
  refine ⟨fun pins s σ H D I h => ?_⟩
  have ok := I.ok
  have hfr : X.A.frames = some (X.env :: X.outer) := by rw [ok.frames, hs]
  have hloc : Loc X.env.scope n := .inl hln
  refine wpAny_Try_except ?_
  refine wpAny_mono ((hb (wAll X.K i Wout D l) (X.pn ++ pins) (fun e s₁ => wpAny (model X.prog X.w) X.A (noteFrame e X.env) (fun _ s₂ => wpAny (model X.prog X.w) X.A (setFlight e none) (fun _ s₃ =>
    wpAny (model X.prog X.w) X.A (handleBy e X.env (h₀ :: hds)) (SP X pins D) X.xe s₃) X.xe s₂) X.xe s₁) (fun u s' xx => ?_) PassesOwn.looking).run [] s σ H D (I.toTry _) h) (fun f s1 hsp => ?_) (fun e s1 he => he)
  · obtain ⟨a, B, sI, pins', σ', H', cls, d, rfl, J', nb, up, sky, na, os, ag, w⟩ := xx
    have J : Inv X pins σ' H' sI := J'.ofTry ok
    have sk : Sky B (X.env :: X.outer) a (Zc cls d) X.env.locals s'.heap := hs ▸ sky
    show wpAny (model X.prog X.w) X.A (noteFrame (.ref a) X.env) _ _ _
    refine Sky.land Zc.steady hfr hf sk fun h3 fl up3 => ?_
    have u3 := up.trans up3
    have J3 : Inv X pins σ' H' { s' with heap := h3 } := J.landed nb fl.1 u3 os ag
    obtain ⟨oe, vs, he, hz, hd⟩ := fl.there
    -- the exception is no frame
    have far : a ∉ frs (X.env :: X.outer) := fun hm => by
      obtain ⟨_, o', e', hnf⟩ := fl.2.2.1.mem hm
      have := he.symm.trans e'
      cases this
      exact hnf _ hd
    have nL : a ≠ X.env.locals := fun z => far (List.mem_filterMap.mpr ⟨X.env, .head _, by rw [hf, z]⟩)
    have nF : a ∉ X.fs := fun hm => by
      obtain ⟨e, he', q⟩ := List.mem_filterMap.mp hm
      exact far (List.mem_filterMap.mpr ⟨e, .tail _ he', q⟩)
    have S3 := J3.suite he hd na nL nF
    have LT : PySem.W.Looks (model X.prog X.w) h3 (typeOf (.ref a)) cls := fun A Q E s k q => wpAny_typeOf_ref (k _ _ he) (by rw [hz.1]; exact q)
    have each : ∀ {cs : List ExceptHandler} {m : List CTS}, Clauses X n cs m → wAll X.K i Wout D m cls d σ' H' → wpAny (model X.prog X.w) X.A (handleBy (.ref a) X.env cs) (SP X pins D) X.xe { s' with heap := h3 } := by
      intro cs m k
      induction k with
      | nil =>
        intro w
        refine wpAny_handleBy_nil ?_
        obtain ⟨_, _, _, o2, v2, T, oT, t2, g1, _, g2, g3, _⟩ := id fl
        unfold PySem.passOn
        refine wpAny_bind (wpAny_field g1 g2 g3 ?_)
        rw [if_neg (show ¬ ((Value.ref T == Value.none) = true) by simp)]
        have out : wpAny (model X.prog X.w) X.A (setFlight (.ref a) X.env.frame) (fun _ s4 => wpAny (model X.prog X.w) X.A (throw (.ref a) : Sem Flow) (SP X pins D) X.xe s4) X.xe { s' with heap := h3 } := by
          rw [hf]
          exact HandSPX.setFlight_upZ fl fun h4 hh4 up4 => wpAny_throw (tk _ _ ⟨a, B, sI, pins, σ', H', cls, d, rfl, J, nb, u3.trans up4, .inr (.inr (hs ▸ hh4)), na, os, ag, w⟩)
        first
          | exact wpAny_bind (wpAny_pure (wpAny_bind out))
          | exact wpAny_bind out
      | @cons x c ts b bs np hp cs2 m2 hc hsu r ih =>
        rintro ⟨y, hy, yes, no⟩
        refine wpAny_handleBy_cons (codeAny_handlers_test ?_) (by intro q; cases q)
        have LM := (PySem.W.exm_one (M := model X.prog X.w) (J3.kIn) LT hy)
        have named : ∀ {Q E : Value → Shared → Prop}, Q c { s' with heap := h3 } → wpAny (model X.prog X.w) (X.A.mark (some (.ref a))) (eval (.Name x np) X.env) Q E { s' with heap := h3 } := by
          intro Q E q
          rcases hc with ⟨hg, hdb, hm | ⟨hm, hv, hnn⟩⟩
          · exact ld_glob (X := X.suite a ((a, oe) :: (X.pn ++ pins))) S3 hg hm q hdb
          · exact ld_blt (X := X.suite a ((a, oe) :: (X.pn ++ pins))) S3 hg hm hv q hnn hdb
        refine named (LM.here ?_)
        cases y
        · exact ih (no rfl)
        · refine codeAny_handlers_suite_as ?_
          refine HandSPX.lands_againZ fl fun h4 fl4 up4 => ?_
          obtain ⟨oe4, vs4, he4, hz4, hd4⟩ := fl4.there
          have S4 := (show Inv X pins σ' H' { s' with heap := h4 } from J.landed nb fl4.1 (u3.trans up4) os ag).suite he4 hd4 na nL nF
          refine store_ok (X := X.suite a ((a, oe4) :: (X.pn ++ pins))) (v := .ref a) S4 hN hi hloc rfl (fun s5 S5 => ?_) (.inr hln)
          have after : ∀ {s6 : Shared} {σ6 : L2.St} {H6 : Hp} {Q : Shared → Prop}, Inv (X.suite a ((a, oe4) :: (X.pn ++ pins))) [] σ6 H6 s6 → (∀ s7, Inv X pins (σ6.set i none) H6 s7 → Q s7) →
              wpAny (model X.prog X.w) X.A (do bindName X.env n .none; unbindBehindTheSuite X.env n hp) (fun _ s7 => Q s7) X.xe s6 := fun {s6 σ6 H6 Q} S6 hq => gone_ok (S6.unsuite ok) hN hi hln hq
          refine wpAny_mono ((hsu a oe4 cls d (X.pn ++ pins) hz4 ⟨_, hd4⟩).run [] s5 _ H' _ S5 (yes rfl a na)) (fun f s6 z => ?_) (fun _ _ z => z.elim)
          cases f
          case ret u =>
            obtain ⟨v6, σ6, H6, S6, r6, q6⟩ := z
            exact after S6 fun s7 J7 => ⟨_, _, _, J7, r6, q6⟩
          all_goals
            obtain ⟨σ6, H6, S6, q6⟩ := z
            exact after S6 fun s7 J7 => ⟨_, _, J7, q6⟩
    exact each hh w
  · cases f
    case next =>
      obtain ⟨σ', H', J', q⟩ := hsp
      exact wpAny_execs_nil ⟨σ', H', J'.ofTry ok, q⟩
    case ret u =>
      obtain ⟨v, σ', H', J', r, q⟩ := hsp
      exact ⟨v, σ', H', J'.ofTry ok, r, q⟩
    all_goals
      obtain ⟨σ', H', J', q⟩ := hsp
      exact ⟨σ', H', J'.ofTry ok, q⟩
end
/-- this clause is not the one -/
theorem i_wasNo {K : PySem.W.Frag} {σ : L2.St} {H : Hp} {D : Ends} {c cls : Value} {i : Nat} {ts : Addr → Value → Option Addr → TS} {Wout : WX} {d : Option Addr} (hx : PySem.W.exmOne K cls c = some false) (h : Wout cls d σ H) :
    wAs K c i ts Wout D cls d σ H := ⟨false, hx, (fun q => nomatch q), fun _ => h⟩
end Z

set_option Elab.async false
set_option linter.all false
set_option maxRecDepth 100000
set_option maxHeartbeats 4000000
/-! a list of texts in an f-string: some bounded text -/
namespace Z
open PySem PySem.Spec PyProof.Rows PySem.Sem
section
variable {prog : Program} {w : World} {A : Around} {E : Value → Shared → Prop} {s : Shared}
theorem dots_len : ("[...]" : Str).length ≤ 5 := by decide +kernel
theorem z_reprHead {M : Model} {Q : Fin → Shared → Prop} {a : Addr} {o : Obj} {x : Value} {l : List Value} {n : Nat} {b : Nat} (hget : s.heap.get? a = some o) (hd : o.data = .seq (x :: l).toArray n)
    (h1 : wpAny M A (do again (.builtin "list.__repr__.loop" ⟨[.ref a, rawInt 0, ← newList [], rawInt b], []⟩)) Q E s) (h2 : wpAny M A (do rule "list.__repr__.in-itself"; retStr "[...]") Q E s) : wpAny M A (Builtin.listReprAt b ⟨[.ref a], []⟩) Q E s := by
  intro Γ p hΓ
  have k1 := h1 Γ p hΓ
  have k2 := h2 Γ p hΓ
  unfold Builtin.listReprAt
  simp [slotArgs, Builtin.List.listItems, seqItems?, wp_load_of (h := hget), hd, PySem.stack]
  show wp M Γ (if (Γ.below.any _) = true then _ else _) _ _ p s
  split
  · exact k2
  · exact k1
theorem z_item {prog : Program} {w : World} : ∀ {l : List Value} {ts : List Str}, ReprAll prog w l ts → ∀ (i : Nat) (y : Value), l[i]? = some y → ∃ t, ts[i]? = some t ∧ ReprIs prog w y t
  | _, _, .nil, i, y, h => by simp at h
  | _, _, .cons h1 h2, 0, y, h => by
    have e := Option.some.inj h
    subst e
    exact ⟨_, rfl, h1⟩
  | _, _, .cons h1 h2, i + 1, y, h => z_item h2 i y h
theorem z_listRepr {a : Addr} {o : Obj} {x : Value} {l : List Value} {n : Nat} {ts : List Str} {Q : Value → Shared → Prop} (hT : s.TypeIs (.ref a) "list") (ha : s.heap.get? a = some o) (hd : o.data = .seq (x :: l).toArray n) (hA : ReprAll prog w (x :: l) ts) (hz : (listText ts).length ≤ sizeLine)
    (h : ∀ (m : Str) (u tk : Tok) (h' : Heap), (∀ b o, s.heap.get? b = some o → h'.get? b = some o) → m.length ≤ (listText ts).length + 5 → Q (.str m u) { s with heap := h', toks := tk }) : wpAny (model prog w) A (call (.builtin "list.__repr__") [.ref a]) Q E s := by
  refine wpAny_call (codeAny_call_builtin F.slot_list_repr.plain F.entry_list_repr (F.slot_list_repr.check _ _ _ _ _ _ _ _ hT (F.args_list_repr_1 _) ?_))
  refine z_reprHead (b := 0) ha hd ?_ ?_
  · refine wpAny_bind (m := newList []) (wpAny_newObj_type ?_)
    refine wpAny_pure ⟨F.quiet_list_repr_loop _, ?_⟩
    refine codeAny_list_repr_start (P := s.heap.objs.size) (ts := ts) (Nat.ne_of_lt (Heap.lt_size ha)) (by rw [hA.length_eq]; rfl) (fun i y hy => ?_) (Heap.get?_push_of_some _ ha) hd (Heap.get?_push_size _ rfl) (fun h' u tk hk => ?_) (by omega)
    · exact z_item hA i y (by simpa using hy)
    · exact h _ u tk h' (fun b o e => hk b o (Nat.ne_of_lt (Heap.lt_size e)) (Heap.get?_push_of_some _ e)) (Nat.le_add_right _ _)
  · refine wpAny_bind (wpAny_rule ?_)
    refine wpAny_bind (wpAny_mkStr (wpAny_pure ?_) (by decide +kernel))
    exact h "[...]" _ _ s.heap (fun _ _ e => e) (Nat.le_trans dots_len (Nat.le_add_left _ _))
theorem z_listFmt {a : Addr} {o : Obj} {x : Value} {l : List Value} {n : Nat} {ts : List Str} {Q : Value → Shared → Prop} (hu : A.units + 2 < cLine) (hT : s.TypeIs (.ref a) "list") (ha : s.heap.get? a = some o) (hd : o.data = .seq (x :: l).toArray n) (hA : ReprAll prog w (x :: l) ts) (hz : (listText ts).length ≤ sizeLine)
    (h : ∀ (m : Str) (u tk : Tok) (h' : Heap), (∀ b o, s.heap.get? b = some o → h'.get? b = some o) → m.length ≤ (listText ts).length + 5 → Q (.str m u) { s with heap := h', toks := tk }) : wpAny (model prog w) A (formatField (.ref a) Str.empty) Q E s :=
  wpAny_formatField_slot (fun _ _ => nofun) hu hT F.slot_list_format F.slot_list_str F.slot_list_repr.toG
    (z_listRepr (s := { s with toks := s.toks + 1 }) hT ha hd hA hz fun m u tk h' k hm => ⟨m, u, rfl, h m u tk h' k hm⟩)
end
theorem from_len : ∀ (ts : List Str) (k : Nat) (acc : Str), (textFrom k acc ts).length ≤ acc.length + piled ts
  | [], _, acc => by rw [piled_nil]; exact Nat.le_add_right _ _
  | t :: ts, k, acc => by
    have ih := from_len ts (k + 1) (acc ++ (if k > 0 then ", " else "" : String) ++ t)
    have e : (acc ++ (if k > 0 then ", " else "" : String) ++ t).length ≤ acc.length + 2 + t.length := by
      rw [strLen_append, strLen_append]
      have : ((if k > 0 then ", " else "" : String) : Str).length ≤ 2 := by split <;> decide +kernel
      omega
    rw [piled_cons]
    show (textFrom (k + 1) _ ts).length ≤ _
    omega
theorem listText_le (ts : List Str) : (listText ts).length ≤ piled ts + 2 := by
  have := from_len ts 0 "["
  have e1 : (("[" : String) : Str).length = 1 := rfl
  have e2 : (("]" : String) : Str).length = 1 := rfl
  unfold listText
  rw [strLen_append]
  omega
end Z
namespace Z
open PySem PySem.Spec PyProof.Rows L2
section
variable {X : Cx}
/-- {l}, l a list of texts, not empty: some text, no longer than ten times its signs and a little -/
def tFmtL (K : PySem.W.Frag) (te : TE) : TE := fun σ H Q => te σ H fun x H1 => ∃ (a : Addr) (y : Str) (l : List Str), x = .ref a ∧ SqL K H1 a ((y :: l).map V.str) ∧ (∀ z ∈ y :: l, ∀ c ∈ z.cps.toList, c < 16 ^ 8) ∧ fmtCost (y :: l) + 7 ≤ sizeLine ∧ ∀ m : Str, m.length ≤ fmtCost (y :: l) + 7 → Q (.str m) H1
theorem pe_fmtL {e : Expr} {te : TE} {pos : Pos} {k : Nat} (hr : Room k X.A) (he : PE X e te) : PE X (.FormattedValue e (-1) none pos) (tFmtL X.K te) := by
  refine ⟨fun pins s σ H Q I h => ?_⟩
  refine wpAny_FormattedValue_plain (thn (he.run pins s σ H _ I h) fun v s1 hv => ?_)
  obtain ⟨x, H1, I1, r1, a, y, l, rfl, ht, hc, hz, q⟩ := hv
  cases r1
  obtain ⟨its, rv, pl, _⟩ := I1.list ht
  obtain ⟨o, ho, hcl, n, hd⟩ := pl.isList
  have hp := fmt_piled (y :: l) hc
  have htx := listText_le ((y :: l).map reprText)
  have hu := hr.units
  cases rv with
  | @cons _ u _ us r1 r2 =>
    refine z_listFmt (ts := (y :: l).map reprText) (by omega) ⟨o, ho, hcl⟩ ho hd (repr_all (.cons r1 r2) fun z hz => ?_) (by omega) fun m u tk h' k hm => ⟨.str m, H1, I1.kept k, ⟨u, rfl⟩, q m (by omega)⟩
    have h1 := StrLaws.reprText_len z (hc z hz)
    have h2 := fmtCost_mem hz
    omega
end
end Z

set_option Elab.async false
set_option linter.all false
set_option maxRecDepth 100000
set_option maxHeartbeats 400000
/-! an exception that has a field already: its field read, its base's __init__ -/
namespace Z
open PySem PySem.Spec PyProof.Rows L2 PySem.OEX
section
variable {prog : Program} {w : World} {A : Around} {R : Result → Shared → Prop} {g : Array GenState} {d : Drawn} {t : Nat} {os : OsState} {h : Heap} {B newId initId : String} {bmB : List Value}
variable {C : Addr}
theorem z_initD (F : ExcBaseFacts B newId initId bmB) {e t0 : Addr} {od : Option Addr} {rest : List Value}
    (hk : ∀ {Q : Unit → Shared → Prop} {E : Value → Shared → Prop} {M : Model} {A' : Around}, Q () ⟨h, g, d, t, os⟩ → wpAny M A' (checkBuiltinCall initId ⟨.ref e :: rest, []⟩) Q E ⟨h, g, d, t, os⟩)
    (he : h.get? e = some ({ cls := .ref C, dict := od, data := .fields #[.ref t0, .none, .none, .none, .bool false, .none] } : Obj)) (hrest : rest.length ≤ sizeLine)
    (hq : ∀ h' t1, (∀ b o, b ≠ e → h.get? b = some o → h'.get? b = some o) → h'.get? e = some ({ cls := .ref C, dict := od, data := .fields #[.ref t1, .none, .none, .none, .bool false, .none] } : Obj) → R (.ok (.ret .none)) ⟨h', g, d, t, os⟩) :
    codeAny (model prog w) A (.call (.builtin initId) ⟨.ref e :: rest, []⟩) R ⟨h, g, d, t, os⟩ := by
  refine codeAny_call_builtin F.init.plain F.initEntry (hk ?_)
  wp_walk
  refine hq _ h.objs.size (fun b o hb ho => ?_) ?_
  · rw [Heap.get?_update_other _ _ (Ne.symm hb)]
    exact Heap.get?_push_of_some _ ho
  · rw [Heap.get?_update_self _ (Heap.get?_push_of_some _ he) rfl]
    rfl
end
end Z
namespace Z
open PySem PySem.Spec PyProof.Rows L2 PySem.OEX
section
variable {X : Cx} {pins : List (Addr × Obj)} {σ : L2.St} {H : Hp} {s : Shared} {a C : Addr} {dx : Option Addr} {E : Value → Shared → Prop}
theorem z_oinitD {us : List Value} {Q : Value → Shared → Prop} (T : OexC X.K C) (I : Inv X pins σ H s) (e : H a = some (exo a C dx)) (hl : us.length ≤ sizeLine) (h : ∀ s', Inv X pins σ H s' → Q .none s') :
    wpAny (model X.prog X.w) X.A (call (.builtin "ValueError.__init__") (.ref a :: us)) Q E s := by
  obtain ⟨nm, q, N, bs, bm, sn, sub, ab, col, dd, k0, k1, k2, k3, k5, hC, hbm⟩ := T.cls
  obtain ⟨t1, ho⟩ := exo_at I.hok e
  obtain ⟨hp, g, d, t, os⟩ := s
  refine wpAny_call (z_initD PySem.F.excBase_ValueError (fun {Q E M A'} hq => PySem.HandSPX.check_init_own PySem.F.excBase_ValueError (fun Y => PySem.HandSPX.refsVE_contains Y bm hbm) (I.kIn _ _ hC) ho rfl hq) ho hl fun h' t2 k hx => ?_)
  have J := I.write (t' := t) (x := a) (e := a) (o := exo a C dx) (by rw [e]; exact True.intro) (.inl rfl) k ⟨_, hx⟩ (exo_ok hx)
  have eu : upd H a (exo a C dx) = H := by
    funext b
    by_cases hb : b = a
    · rw [hb, upd_same, e]
    · rw [upd_ne hb]
  rw [eu] at J
  exact h _ J
end
/-- ThrowError.__init__(self, ..) behind a field that is set -/
def tVeD (K : PySem.W.Frag) (ta : TA) : TE := fun σ H Q => ta σ H fun vs H1 => ∃ (a C : Addr) (ws : List V) (d : Option Addr), vs = .ref a :: ws ∧ ws.length ≤ 1000 ∧ OexC K C ∧ H1 a = some (exo a C d) ∧ Q .non H1
/-- self.f of an exception in its own __init__ -/
def tXat (K : PySem.W.Frag) (f : Str) (te : TE) : TE := fun σ H Q => te σ H fun x H1 => ∃ (a C dd : Addr) (fs : List (Str × V)) (v : V), x = .ref a ∧ XfC K C ∧ PySem.W.findIn K (.ref C) f = some none ∧ H1 a = some (exo a C (some dd)) ∧ H1 dd = some (exd dd fs) ∧ fs.lookup f = some v ∧ Q v H1
section
variable {X : Cx} {x : Str} {e : Expr} {es : List Expr} {t : TA} {te : TE} {pos : Pos}
theorem z_tinitD {p1 p2 : Pos} {pl : Sem Bool} (hg : Gl X x) (c : CalT X.K X.mg x) (ha : PA X (e :: es) t)
    (hc : eval (.Call (.Attribute (.Name x p1) "__init__" p2) (e :: es) [] pos) X.env = (do
      let ov ← eval (.Name x p1) X.env
      standAt p2.atName
      let (f, first) ← holding [ov] (getMethod ov "__init__" pl)
      callWith pos f first (backTo pos (starEach (e :: es) X.env)) (backToKw pos (keywordEach [] X.env))) := by rfl)
    (hdb : (x == ("__debug__" : Str)) = false := by decide) (he : starEach (e :: es) X.env = (false, eval e X.env) :: starEach es X.env := by rfl)
    (hpl : (backTo pos (starEach es X.env)).any (·.1) = false := by rfl) :
    PE X (.Call (.Attribute (.Name x p1) "__init__" p2) (e :: es) [] pos) (tVeD X.K t) := by
  obtain ⟨T, mc, hm, r, vV⟩ := c
  constructor
  intro pins s σ H Q I h
  refine PySem.W.methodCall_KW (ld_glob I hg hm ?_ hdb) hc
  apply PySem.W.method_cls I.kIn r.ga
  apply PySem.W.cls_value I.kIn r.rd vV (by decide +kernel)
  show wpAny _ _ (callWith pos (Value.builtin "ValueError.__init__") [] (backTo pos (starEach (e :: es) X.env)) []) _ _ _
  refine PyProof.Rows.callWith_method1 (thn (ha.run pos pins _ σ H _ (I.tok _) h) fun us s1 hh => ?_) he hpl
  obtain ⟨vs, H1, I1, r1, a, C, ws, d, ev, hl, T', ea, q⟩ := hh
  subst ev
  cases r1 with
  | @cons _ u0 _ ur ra rw' =>
    obtain rfl : u0 = Value.ref a := ra
    have hlen : ur.length ≤ sizeLine := by
      rw [← Paired.length rw', sizeLine_eq]
      omega
    exact z_oinitD T' I1 ea hlen fun s' J => ⟨.non, H1, J, rfl, q⟩
theorem pe_xat {n : Str} (he : PE X e te) (hb : attributeBase e n X.env (eval e X.env) = eval e X.env := by rfl) : PE X (.Attribute e n pos) (tXat X.K n te) := by
  refine ⟨fun pins s σ H Q I h => ?_⟩
  refine attr_of hb (thn (he.run pins s σ H _ I h) fun u s1 hh => ?_)
  obtain ⟨x, H1, I1, rx, a, C, dd, fs, v, ex, T, hno, ea, ed, l, q⟩ := hh
  subst ex
  obtain rfl : u = Value.ref a := rx
  obtain ⟨t1, ho⟩ := exo_at I1.hok ea
  obtain ⟨mA, hns, hr⟩ := exd_at I1.hok ed
  obtain ⟨od, ho2, hl⟩ := lookIn_ns hns
  obtain ⟨u, hu, ru⟩ := RelO.some_of (v := v) (o := mA n) (by rw [← l]; exact hr n)
  have J : PySem.W.InstAt s1.heap a _ C (some od) := ⟨ho, rfl, rfl, ho2⟩
  exact HandSPX.exc_get I1.kIn J T.ga T.gg T.exC (PySem.W.findObj_own T.hdC hno rfl (by rw [hl, hu])) (handed_of ru) ⟨v, H1, I1.tok _, ru, q⟩
end
/-! readings -/
section
variable {K : PySem.W.Frag} {σ : L2.St} {H : Hp} {Q : VK} {te : TE} {tr : TA}
def rVeD (K : PySem.W.Frag) (vs : List V) (H1 : Hp) (Q : VK) : Prop := ∃ (a C : Addr) (ws : List V) (d : Option Addr), vs = .ref a :: ws ∧ ws.length ≤ 1000 ∧ OexC K C ∧ H1 a = some (exo a C d) ∧ Q .non H1
theorem i_tvd (h : tr σ H (fun vs H1 => rVeD K vs H1 Q)) : tVeD K tr σ H Q := h
theorem i_tvd1 {a C : Addr} {ws : List V} {d : Option Addr} (T : OexC K C) (e : H a = some (exo a C d)) (l : ws.length ≤ 1000) (h : Q .non H) : rVeD K (.ref a :: ws) H Q := ⟨a, C, ws, d, rfl, l, T, e, h⟩
def rXat (K : PySem.W.Frag) (f : Str) (x : V) (H1 : Hp) (Q : VK) : Prop := ∃ (a C dd : Addr) (fs : List (Str × V)) (v : V), x = .ref a ∧ XfC K C ∧ PySem.W.findIn K (.ref C) f = some none ∧ H1 a = some (exo a C (some dd)) ∧ H1 dd = some (exd dd fs) ∧ fs.lookup f = some v ∧ Q v H1
theorem i_xat {f : Str} (h : te σ H (fun x H1 => rXat K f x H1 Q)) : tXat K f te σ H Q := h
theorem i_xat1 {f : Str} {a C dd : Addr} {v : V} (T : XfC K C) (n : PySem.W.findIn K (.ref C) f = some none) (e : H a = some (exo a C (some dd))) (ed : H dd = some (exd dd [(f, v)])) (h : Q v H) : rXat K f (.ref a) H Q := ⟨a, C, dd, _, v, rfl, T, n, e, ed, by simp [List.lookup], h⟩
def rFmtL (K : PySem.W.Frag) (x : V) (H1 : Hp) (Q : VK) : Prop := ∃ (a : Addr) (y : Str) (l : List Str), x = .ref a ∧ SqL K H1 a ((y :: l).map V.str) ∧ (∀ z ∈ y :: l, ∀ c ∈ z.cps.toList, c < 16 ^ 8) ∧ fmtCost (y :: l) + 7 ≤ sizeLine ∧ ∀ m : Str, m.length ≤ fmtCost (y :: l) + 7 → Q (.str m) H1
theorem i_fmtL (h : te σ H (fun x H1 => rFmtL K x H1 Q)) : tFmtL K te σ H Q := h
end
end Z

set_option Elab.async false
set_option linter.all false
set_option maxRecDepth 100000
set_option maxHeartbeats 400000
/-! comprehensions over ranges, read -/
namespace Z
open PySem PySem.Spec PyProof.Rows L2
section
variable {K : PySem.W.Frag} {σ : L2.St} {H : Hp} {g g1 : TG} {tt tt1 : TT} {te tl1 : TE} {tr : TA} {Q : VK}
def rLcR2 (g : TG) (tt : TT) (te : TE) (vs : List Nat) (σ : L2.St) (Q : VK) (ws : List V) (H1 : Hp) : Prop := ∃ i j : Int, ws = [.int i, .int j] ∧ (-(2 ^ 62) ≤ i ∧ i < 2 ^ 62 ∧ -(2 ^ 62) ≤ j ∧ j < 2 ^ 62) ∧ ∀ D, H1 D = none → ∃ W : Nat → Nat → Hp → Prop, (∃ m, W 0 m (upd H1 D (.lst []))) ∧ ∀ k m H, W k m H →
  ((Itr i (j - i).toNat).stop k H ∧ Q (.ref D) H) ∨ ((Itr i (j - i).toNat).go k H ∧ ∃ Nx : Hp → Prop, (∀ H', Nx H' → ∃ m', m' < m ∧ W (k + 1) m' H') ∧ ∀ x H', (Itr i (j - i).toNat).yld k H x H' → g x (wipe σ vs) H' fun σ2 H2 => wipe σ2 vs = wipe σ vs ∧ tt σ2 H2 fun b H3 =>
    if b = true then te σ2 H3 fun y H4 => ∃ acc, H4 D = some (.lst acc) ∧ acc.length < sizeLine ∧ Nx (upd H4 D (.lst (acc ++ [y]))) else Nx H3)
theorem i_lcR20 {vs : List Nat} (h : tr σ H (fun ws H1 => rLcR2 g tt te vs σ Q ws H1)) : tLc (iRng2 tr) g tt te vs σ H Q := h
theorem i_lcR2 {vs : List Nat} {n : Nat} {i j : Int} (hj : j - i = (n : Int)) (hi : 0 ≤ i ∧ i < 1000) (hn : n < 100000) (Pv : Nat → List V → Hp → Prop) (h0 : ∀ D H', H D = none → Same H H' → H' D = some (.lst []) → (∀ b, b ≠ D → H' b = H b) → Pv 0 [] H')
    (hs : ∀ k D ys H1, H D = none → k < n → H1 D = some (.lst ys) → Pv k ys H1 → g (.int (i + (k : Nat))) (wipe σ vs) H1 fun σ2 H2 => wipe σ2 vs = wipe σ vs ∧ tt σ2 H2 fun b H3 => if b = true then te σ2 H3 fun y H4 => rLcE D Pv k y H4 else LcS D Pv (k + 1) H3)
    (hd : ∀ D ys H1, H D = none → H1 D = some (.lst ys) → Pv n ys H1 → Q (.ref D) H1) : rLcR2 g tt te vs σ Q [.int i, .int j] H := by
  refine ⟨i, j, rfl, by omega, fun D hD => ?_⟩
  have e : (j - i).toNat = n := by omega
  rw [e]
  refine lc_range (LcS D Pv) ⟨[], upd_same, h0 D _ hD (fun b o e => by rw [upd_ne (ne_of_none e hD)]; exact e) upd_same (fun b hb => upd_ne hb)⟩ ?_ ?_
  · rintro k H' hk ⟨ys, hD', p⟩
    exact hs k D ys H' hD hk hD' p
  · rintro H' ⟨ys, hD', p⟩
    exact hd D ys H' hD hD' p
/-- two fors, the outer one over a range -/
def rLc2R (K : PySem.W.Frag) (g : TG) (tt : TT) (tl1 : TE) (g1 : TG) (tt1 : TT) (te : TE) (vs vs1 : List Nat) (σ : L2.St) (Q : VK) (ws : List V) (H1 : Hp) : Prop := ∃ j : Int, ws = [.int j] ∧ -(2 ^ 62) ≤ j ∧ j < 2 ^ 62 ∧ ∀ D, H1 D = none → ∃ W : Nat → Nat → Hp → Prop, (∃ m, W 0 m (upd H1 D (.lst []))) ∧ ∀ i m H, W i m H →
  ((Itr 0 j.toNat).stop i H ∧ Q (.ref D) H) ∨ ((Itr 0 j.toNat).go i H ∧ ∃ Nx : Hp → Prop, (∀ H', Nx H' → ∃ m', m' < m ∧ W (i + 1) m' H') ∧ ∀ x H', (Itr 0 j.toNat).yld i H x H' → g x (wipe σ vs) H' fun σ2 H2 => wipe σ2 vs = wipe σ vs ∧ tt σ2 H2 fun b H3 =>
    if b = true then tl1 σ2 H3 fun x1 H4 => rLcIn K D Nx g1 tt1 te vs1 σ2 x1 H4 else Nx H3)
theorem i_lc2R0 {vs vs1 : List Nat} (h : tr σ H (fun ws H1 => rLc2R K g tt tl1 g1 tt1 te vs vs1 σ Q ws H1)) : tLc2 (iRng1 tr) g tt (iAny K tl1) g1 tt1 te vs vs1 σ H Q := h
theorem i_lc2R {vs vs1 : List Nat} {n : Nat} (hn : n < 100000) (Pv : Nat → List V → Hp → Prop) (h0 : ∀ D H', H D = none → Same H H' → H' D = some (.lst []) → (∀ b, b ≠ D → H' b = H b) → Pv 0 [] H')
    (hs : ∀ k D ys H1, H D = none → k < n → H1 D = some (.lst ys) → Pv k ys H1 → g (.int (k : Nat)) (wipe σ vs) H1 fun σ2 H2 => wipe σ2 vs = wipe σ vs ∧ tt σ2 H2 fun b H3 => if b = true then tl1 σ2 H3 fun x1 H4 => rLcIn K D (LcS D Pv (k + 1)) g1 tt1 te vs1 σ2 x1 H4 else LcS D Pv (k + 1) H3)
    (hd : ∀ D ys H1, H D = none → H1 D = some (.lst ys) → Pv n ys H1 → Q (.ref D) H1) : rLc2R K g tt tl1 g1 tt1 te vs vs1 σ Q [.int (n : Nat)] H := by
  refine ⟨_, rfl, by omega, by omega, fun D hD => ?_⟩
  rw [Int.toNat_natCast]
  refine ⟨fun i m H => m = n - i ∧ i ≤ n ∧ LcS D Pv i H, ⟨n, by simp, Nat.zero_le _, [], upd_same, h0 D _ hD (fun b o e => by rw [upd_ne (ne_of_none e hD)]; exact e) upd_same (fun b hb => upd_ne hb)⟩, ?_⟩
  rintro i m H' ⟨rfl, hi, ys, hD', p⟩
  by_cases hlt : i < n
  · refine .inr ⟨hlt, LcS D Pv (i + 1), fun H'' p' => ⟨n - (i + 1), by omega, rfl, hlt, p'⟩, fun x H'' y => ?_⟩
    obtain ⟨e, y⟩ := y
    subst e
    have := hs i D ys _ hD hlt hD' p
    obtain ⟨rfl⟩ := y
    simpa using this
  · have e : i = n := by omega
    subst e
    exact .inl ⟨Nat.le_refl _, hd D ys H' hD hD' p⟩
end
end Z

set_option Elab.async false
set_option linter.all false
set_option maxRecDepth 100000
set_option maxHeartbeats 4000000
/-! the truth of an own object; x[::-1] of a list or a tuple; xs != ys of lists of lists; a list's last item -/
namespace Z
open PySem PySem.Spec PyProof.Rows L2
section
variable {X : Cx} {k j : Nat} {f C : Addr} {sp : Sp}
/-- the truth of an instance with its own __bool__ -/
def rTruO (C : Addr) (sp : Sp) : V → Hp → (Bool → Hp → Prop) → Prop := fun x H Q => ∃ a dx fs, x = .ref a ∧ H a = some (.ins C dx fs) ∧
  sp [.ref a] H (fun v H' => ∃ r, v = .bl r ∧ Q r H') (fun _ _ _ => False)
theorem tru_own (F : FnR X.prog X.w X.K X.mg X.base (L2.CX X.prog X.w) k f sp) (hr : Room k X.A) (S : Spc X.K C "__bool__" f) : TruR X (rTruO C sp) := by
  intro pins s σ H x v Q I rx h
  obtain ⟨a, dx, fs, rfl, ea, h⟩ := h
  obtain rfl : v = Value.ref a := rx
  obtain ⟨ox, od, Ja⟩ := instAt I ea
  obtain ⟨m, fr⟩ := I.fr
  apply PySem.W.truthy_K fr I.ok.mod.kin Ja S.at_ S.fn
  refine wpAny_call (codeAny_mono (F X.A X.stack s H [.ref a] [.ref a] _ (fun _ _ _ => False) hr I.env0 (.cons rfl .nil) h) fun q s' hq => ?_)
  rcases q with e | fl
  · exact (cxN hq).elim
  rcases fl with _ | _ | _ | u'
  · exact False.elim hq
  · exact False.elim hq
  · exact False.elim hq
  obtain ⟨v', H', J', rv, r, ev, q⟩ := I.after hq
  subst ev
  obtain rfl : u' = Value.bool r := rv
  exact ⟨H', J', q⟩
def tTruO (C : Addr) (sp : Sp) (ta : TE) : TT := fun σ H Q => ta σ H fun x H' => rTruO C sp x H' Q
theorem z_truO {a : Expr} {ta : TE} (c : CalO X.prog X.w X.K X.mg X.base C "__bool__" k sp) (hr : Room j X.A) (ha : PE X a ta) (he : ∀ whole, isTrue a X.env whole = (do let v ← whole; standAt a.pos; holding [v] (truthy v))) (hj : k ≤ j := by decide) : PT X a (tTruO C sp ta) := by
  obtain ⟨f, S, sf, F⟩ := c
  exact pt_truthR ha (tru_own F (hr.mono hj) S) he
end
section
variable {prog : Program} {w : World} {A : Around} {E : Value → Shared → Prop} {s : Shared}
theorem places_back (n : Nat) : Builtin.Slice.slicePlaces ((n : Int) - 1) (-1) (-1) = n := by
  unfold Builtin.Slice.slicePlaces
  have h1 : ¬ ((-1 : Int) > 0) := by omega
  have h2 : (- (-1) : Int) = 1 := rfl
  simp only [h1, if_false, h2, Int.ediv_one]
  split <;> omega
theorem fm_congr {α β : Type} {f g : α → Option β} : ∀ {l : List α}, (∀ x ∈ l, f x = g x) → l.filterMap f = l.filterMap g
  | [], _ => rfl
  | x :: l, h => by
    rw [List.filterMap_cons, List.filterMap_cons, h x List.mem_cons_self, fm_congr fun y hy => h y (List.mem_cons_of_mem _ hy)]
theorem pick_back (xs : Array Value) : ((List.range xs.size).filterMap fun (m : Nat) => xs[(((xs.size : Int) - 1) + (m : Int) * (-1)).toNat]?).toArray = xs.toList.reverse.toArray := by
  have := PySem.W.krv_pick xs
  unfold slicePick at this
  rw [PySem.W.krv_bounds] at this
  rw [PySem.W.krv_sliceRange, List.filterMap_map] at this
  rw [← this]
  congr 1
  refine fm_congr fun m hm => ?_
  have hm := List.mem_range.mp hm
  have e : (((xs.size : Int) - 1) + (m : Int) * (-1)).toNat = xs.size - 1 - m := by omega
  rw [e]
  rfl
theorem backApplied {sl : Addr} {vs : Value} {n : Nat} {Q : Int × Int × Nat → Shared → Prop} (hs : s.heap.IsSliceOf sl .none .none vs) (ps : IsPart vs (some (-1)))
    (h : Q ((n : Int) - 1, -1, n) s) : wpAny (model prog w) A (Builtin.Slice.sliceApplied (.ref sl) (pure (n : Int))) Q E s := by
  obtain ⟨os, hos, hcs, hds⟩ := id hs
  unfold Builtin.Slice.sliceApplied Builtin.Slice.sliceFields
  refine wpAny_bind (wpAny_bind (wpAny_field hos hds (x := .none) rfl (wpAny_bind (wpAny_field hos hds (x := .none) rfl (wpAny_bind (wpAny_field hos hds (x := vs) rfl (wpAny_pure ?_)))))))
  refine wpAny_bind (HT.slicePart_ ps ?_)
  show wpAny _ _ (if ((-1 : Int) == 0) = true then _ else _) _ _ s
  rw [if_neg (by decide)]
  refine wpAny_bind (HT.slicePart_ .none (wpAny_bind (HT.slicePart_ .none (wpAny_bind (wpAny_pure ?_)))))
  have e : Builtin.Slice.sliceAdjust none none (-1) (n : Int) = ((n : Int) - 1, -1) := by
    unfold Builtin.Slice.sliceAdjust
    simp
  show wpAny _ _ (match Builtin.Slice.sliceAdjust none none (-1) (n : Int) with | (lo, hi) => pure (lo, (-1 : Int), Builtin.Slice.slicePlaces lo hi (-1))) _ _ s
  rw [e]
  show wpAny _ _ (pure ((n : Int) - 1, (-1 : Int), Builtin.Slice.slicePlaces ((n : Int) - 1) (-1) (-1))) _ _ s
  rw [places_back]
  exact wpAny_pure h
theorem tupBack {t sl : Addr} {its : Array Value} {vs : Value} {Q : Value → Shared → Prop} (ht : IsTup s.heap t its) (hs : s.heap.IsSliceOf sl .none .none vs) (ps : IsPart vs (some (-1)))
    (h : Q (.ref s.heap.objs.size) { s with heap := s.heap.push { cls := .type "tuple", data := .seq its.toList.reverse.toArray } }) (hsz : its.size ≤ sizeLine) : wpAny (model prog w) A (getItem (.ref t) (.ref sl)) Q E s := by
  have hz : sizeOk (.seq its.toList.reverse.toArray) := by
    show its.toList.reverse.toArray.size ≤ sizeLine
    simpa using hsz
  obtain ⟨os, hos, hcs, hds⟩ := id hs
  have hTs : s.TypeIs (.ref sl) "slice" := ⟨os, hos, hcs⟩
  unfold getItem; try with_reducible refine wpAny_holding ?_
  first | refine wpAny_bind (wpAny_pure ?_) | skip
  refine wpAny_bind (wpAny_sequenceKey ht.typeIs (by decide) ?_); refine wpAny_bind (wpAny_callSpecial?_slot (name := Str.ofString "__getitem__") ht.typeIs PyProof.Rows.slot_tuple_getitem (wpAny_call_entry PyProof.Rows.slot_tuple_getitem ht.typeIs entry_tuple_getitem ?_ (args_tuple_getitem _ _)))
  show wpAny _ _ (Builtin.Tuple.tupleItemsOf (.ref t) >>= _) _ _ s; refine wpAny_bind (tupleItemsOf_ ht ?_); refine wpAny_bind (wpAny_typeOf hTs ?_)
  rw [if_pos (by decide)]; refine wpAny_bind (backApplied (n := its.size) hs ps ?_)
  show wpAny _ _ (if ((((its.size : Int) - 1) == 0) && ((-1 : Int) == 1) && (its.size == its.size)) = true then _ else _) _ _ s
  rw [if_neg (by simp), pick_back]
  first
    | exact wpAny_bind (m := Builtin.Tuple.tupleExact _) (wpAny_newObj_type (wpAny_pure ⟨_, rfl, wpAny_pure h⟩) hz)
    | exact wpAny_bind (m := Builtin.Tuple.tupleExact _) (wpAny_newObj_type (wpAny_bind (wpAny_pure (wpAny_pure ⟨_, rfl, wpAny_pure h⟩))) hz)
    | exact wpAny_bind (wpAny_bind (m := Builtin.Tuple.tupleExact _) (wpAny_newObj_type (wpAny_pure (wpAny_pure ⟨_, rfl, wpAny_pure h⟩)) hz))
    | exact wpAny_bind (wpAny_bind (m := Builtin.Tuple.tupleExact _) (wpAny_newObj_type (wpAny_pure ⟨_, rfl, wpAny_pure h⟩) hz))
end
section
variable {X : Cx}
/-- x[::-1], x a list or a tuple -/
def tRevA (K : PySem.W.Frag) (te : TE) : TE := fun σ H Q => te σ H fun x H1 => ∃ a xs, x = .ref a ∧ ((SqL K H1 a xs ∧ ∀ p, H1 p = none → Q (.ref p) (upd H1 p (.lst xs.reverse))) ∨ (SqT K H1 a xs ∧ ∀ p, H1 p = none → Q (.ref p) (upd H1 p (.tup xs.reverse))))
theorem pe_revA {K : PySem.W.Frag} {e : Expr} {te : TE} {k : Nat} {p1 p2 p3 pos : Pos} (hK : X.K = K) (he : PE X e te) : PE X (.Subscript e (.Slice none none (some (.UnaryOp .USub (.Constant (.int 1) k p1) p2)) p3) pos) (tRevA K te) := by
  subst hK
  refine ⟨fun pins s σ H Q I h => ?_⟩
  refine Subscript_ (thn (he.run pins s σ H _ I h) fun v s1 ⟨x, H1, I1, r1, q1⟩ => ?_)
  obtain ⟨a, xs, ex, q⟩ := q1
  subst ex
  cases r1
  have hst : PO X (some (.UnaryOp .USub (.Constant (.int 1) k p1) p2)) (tPart (tUn (rU fun i => .int (-i)) (tC (.int 1)))) := po_some (pe_un un_neg pe_int)
  refine wpAny_Slice (thn (po_none.run pins s1 σ H1 (fun o H2 => o = none ∧ H2 = H1) I1 ⟨rfl, rfl⟩) fun vl s2 ⟨l, H2, I2, pl, el, e2⟩ => ?_)
  subst el e2
  refine thn (po_none.run pins s2 σ H2 (fun o H3 => o = none ∧ H3 = H2) I2 ⟨rfl, rfl⟩) fun vu s3 ⟨u, H3, I3, pu, eu, e3⟩ => ?_
  subst eu e3
  refine thn (hst.run pins s3 σ H3 (fun o H4 => o = some (-1) ∧ H4 = H3) I3 ⟨1, rfl, -1, rfl, rfl, rfl⟩) fun vs s4 ⟨o, H4, I4, ps, eo, e4⟩ => ?_
  subst eo e4
  have I5 : Inv X pins σ H4 { s4 with heap := s4.heap.push { cls := .type "slice", data := .fields #[vl, vu, vs] } } := I4.kept (t' := s4.toks) fun b ob q => Heap.get?_push_of_some _ q
  cases pl
  cases pu
  rcases q with ⟨hx, q⟩ | ⟨hx, q⟩
  · obtain ⟨its, r, ht, hz⟩ := I5.list hx
    have hlen := r.length
    show wpAny (model X.prog X.w) X.A (subscriptTail e (.Slice none none (some (.UnaryOp .USub (.Constant (.int 1) k p1) p2)) p3) (.ref a) (.ref s4.heap.objs.size)) (EP X pins σ Q) X.xe _
    refine tail_any (ops := [.ref a, .ref s4.heap.objs.size]) ht.isList.typeIs (PySem.slot_list_getitem.lookup) ?_ (by with_unfolding_all rfl)
    refine wpAny_getItem_list_slice ht.isList (Heap.IsSliceOf.new _ _ _ vs) .none .none ps (by decide) ?_ (by rw [List.size_toArray]; omega)
    rw [PySem.W.krv_pick]
    refine ⟨.ref _, _, I5.laid (t' := s4.toks) (o := .lst xs.reverse) (fun b ob q => Heap.get?_push_of_some _ q) (Nat.le_refl _) ?_, rfl, q _ (I5.hok.fresh (Nat.le_refl _))⟩
    exact ⟨by rw [List.length_reverse]; exact hz, _, 0, r.reverse, Heap.get?_push_size _ rfl⟩
  · obtain ⟨its, r, ht, hz⟩ := I5.tuple hx
    have hlen := r.length
    show wpAny (model X.prog X.w) X.A (subscriptTail e (.Slice none none (some (.UnaryOp .USub (.Constant (.int 1) k p1) p2)) p3) (.ref a) (.ref s4.heap.objs.size)) (EP X pins σ Q) X.xe _
    refine tail_any (ops := [.ref a, .ref s4.heap.objs.size]) ht.typeIs PyProof.Rows.slot_tuple_getitem.lookup ?_ (by with_unfolding_all rfl)
    refine tupBack ht (Heap.IsSliceOf.new _ _ _ vs) ps ?_ (by rw [List.size_toArray]; omega)
    refine ⟨.ref _, _, I5.laid (t' := s4.toks) (o := .tup xs.reverse) (fun b ob q => Heap.get?_push_of_some _ q) (Nat.le_refl _) ?_, rfl, q _ (I5.hok.fresh (Nat.le_refl _))⟩
    exact ⟨by rw [List.length_reverse]; exact hz, _, r.reverse, IsTup.new _ _⟩
theorem u1n {k : Nat} {A : Around} (r : Room k A) : A.units + 1 < cLine := by have := r.units; omega
/-- xs != ys, lists of lists of the very same objects -/
def rNeLL : R2 := fun x y H Q => ∃ a b ls ms, x = .ref a ∧ y = .ref b ∧ H a = some (.lst ls) ∧ H b = some (.lst ms) ∧ ls.length = ms.length ∧
  (∀ (i : Nat) (u v : V), ls[i]? = some u → ms[i]? = some v → ∃ p q xs, u = .ref p ∧ v = .ref q ∧ p ≠ q ∧ H p = some (.lst xs) ∧ H q = some (.lst xs) ∧ ∀ z ∈ xs, ∃ r, z = .ref r) ∧ Q (.bl false) H
theorem vals_one {zs : List V} (hz : ∀ z ∈ zs, ∃ p, z = .ref p) {us vs : List Value} (r1 : Vals zs us) (r2 : Vals zs vs) : us = vs := by
  induction zs generalizing us vs with
  | nil =>
    cases r1; cases r2; rfl
  | cons z zs ih =>
    cases r1 with
    | cons a1 t1 =>
      cases r2 with
      | cons a2 t2 =>
        obtain ⟨p, ep⟩ := hz z (by simp)
        subst ep
        cases a1; cases a2
        rw [ih (fun z h => hz z (by simp [h])) t1 t2]
theorem z_neLL (hu : X.A.units + 1 < cLine) : OpR X (compareOp .NotEq) rNeLL := by
  intro pins s σ H x y v u Q I rx ry h
  obtain ⟨a, b, ls, ms, rfl, rfl, ha, hb, hl, hz, q⟩ := h
  obtain rfl : v = Value.ref a := rx
  obtain rfl : u = Value.ref b := ry
  obtain ⟨_, its, n, rv, e⟩ := (show ObjOk X.prog X.w H s.heap a (.lst ls) from I.hok a _ ha)
  obtain ⟨_, its2, n2, rv2, e2⟩ := (show ObjOk X.prog X.w H s.heap b (.lst ms) from I.hok b _ hb)
  have l1 := rv.length
  have l2 := rv2.length
  show wpAny _ X.A (richCompare .NotEq _ _) _ _ s
  refine SeqAt.RcNeAt.lists (e := fun _ => true) ⟨_, e, rfl, n, rfl⟩ ⟨_, e2, rfl, n2, rfl⟩ (by simp; omega) (by omega) (fun j h1 h2 => ?_) X.prog X.w _ _ ?_
  · have j1 : j < its.length := by simpa using h1
    have j2 : j < its2.length := by simpa using h2
    obtain ⟨u1, g1, r1⟩ := rv.get (List.getElem?_eq_getElem (show j < ls.length by omega))
    obtain ⟨u2, g2, r2⟩ := rv2.get (List.getElem?_eq_getElem (show j < ms.length by omega))
    obtain ⟨p, t, xs, ep, et, hne, hp, ht, hr⟩ := hz j _ _ (List.getElem?_eq_getElem (show j < ls.length by omega)) (List.getElem?_eq_getElem (show j < ms.length by omega))
    rw [ep] at r1
    rw [et] at r2
    obtain rfl : u1 = Value.ref p := r1
    obtain rfl : u2 = Value.ref t := r2
    have f1 : its.toArray[j] = Value.ref p := by
      rw [List.getElem?_eq_getElem j1] at g1
      simpa using Option.some.inj g1
    have f2 : its2.toArray[j] = Value.ref t := by
      rw [List.getElem?_eq_getElem j2] at g2
      simpa using Option.some.inj g2
    rw [f1, f2]
    obtain ⟨_, i1, n3, rv3, e3⟩ := (show ObjOk X.prog X.w H s.heap p (.lst xs) from I.hok p _ hp)
    obtain ⟨_, i2, n4, rv4, e4⟩ := (show ObjOk X.prog X.w H s.heap t (.lst xs) from I.hok t _ ht)
    obtain rfl := vals_one hr rv3 rv4
    have key := SeqAt.RcAt.lists (A := X.A.in1) (s := s) (e := fun _ => true) ⟨_, e3, rfl, n3, rfl⟩ ⟨_, e4, rfl, n4, rfl⟩ rfl (by show X.A.units + 1 < cLine; omega) (fun j h1 h2 => SeqAt.EqAt.same _)
    have ea : (List.range i1.toArray.size).all (fun _ => true) = true := by simp
    rw [ea] at key
    exact SeqAt.EqAt.of_refs hne key
  · refine ⟨.bl false, H, I, ?_, q⟩
    have : (List.range its.toArray.size).all (fun _ => true) = true := by simp
    rw [this]
    rfl
end
/-! ### read -/
section
variable {K : PySem.W.Frag} {σ : L2.St} {H : Hp} {te : TE} {Q : VK} {a : Addr} {xs : List V} {n : Nat}
theorem i_popR {v : V} (h : H a = some (.lst (xs ++ [v]))) (q : ∀ H', H' a = some (.lst xs) → (∀ b, b ≠ a → H' b = H b) → Q v H') : rPop (.ref a) [] H Q :=
  ⟨a, _, v, rfl, rfl, h, by simp, q _ (by rw [upd_same, List.dropLast_concat]) fun b hb => upd_ne hb⟩
def rRevA (K : PySem.W.Frag) (x : V) (H1 : Hp) (Q : VK) : Prop := ∃ a xs, x = .ref a ∧ ((SqL K H1 a xs ∧ ∀ p, H1 p = none → Q (.ref p) (upd H1 p (.lst xs.reverse))) ∨ (SqT K H1 a xs ∧ ∀ p, H1 p = none → Q (.ref p) (upd H1 p (.tup xs.reverse))))
theorem i_revA0 (h : te σ H (fun x H1 => rRevA K x H1 Q)) : tRevA K te σ H Q := h
theorem i_revA (s : SqA K H a xs) (h : ∀ p H', H p = none → Same H H' → SqA K H' p xs.reverse → (∀ b, b ≠ p → H' b = H b) → Q (.ref p) H') : rRevA K (.ref a) H Q := by
  have sm : ∀ {p : Addr} {o : HO}, H p = none → Same H (upd H p o) := fun hp b q e => by rw [upd_ne (ne_of_none e hp)]; exact e
  refine ⟨a, xs, rfl, ?_⟩
  rcases s with s | s
  · exact .inl ⟨s, fun p hp => h p _ hp (sm hp) (.l upd_same) fun b hb => upd_ne hb⟩
  · exact .inr ⟨s, fun p hp => h p _ hp (sm hp) (.t upd_same) fun b hb => upd_ne hb⟩
theorem i_truO0 {C : Addr} {sp : Sp} {P : Bool → Hp → Prop} (h : te σ H (fun x H1 => rTruO C sp x H1 P)) : tTruO C sp te σ H P := h
end
end Z

set_option Elab.async false
set_option linter.all false
set_option maxRecDepth 100000
set_option maxHeartbeats 4000000
/-! a def called within an except suite, whatever is handled there -/
namespace Z
open PySem PySem.Spec PyProof.Rows L2 L2H
structure FnL (P : Program) (w : World) (K : PySem.W.Frag) (mg : Str → Option Value) (base : Heap) (k : Nat) (f : Addr) (fd : FuncData) (ps : List Str) (sp : Sp) : Prop where
  len : ∀ vs H Q E, sp vs H Q E → vs.length = ps.length
  run : ∀ (A : Around) (outer : List Env) (s : Shared) (H : Hp) (args : Args) (us : List Value) (vs : List V) (Q : VK) (E : XK) (p : Addr × Obj), RoomH k A → PinOk outer H s p → Env0 P w K mg base A outer s H → BindsTo s fd args (ps.zip us) → Vals vs us → sp vs H Q E → codeAny (model P w) A (.call (.ref f) args) (CR (L2.CX P w) outer P w H s Q E) s
theorem fnL_of {P : Program} {w : World} {K : PySem.W.Frag} {mg : Str → Option Value} {base : Heap} {k : Nat} {f : Addr} {x qual : Str} {st : Stmt} {fd : FuncData} {N ps : List Str} {sp : Sp} (F : L2.Fun K x qual st f fd) (S : FnScope N ps (defScope st)) (len : ∀ vs H Q E, sp vs H Q E → vs.length = ps.length)
    (hbody : ∀ (cdv : Value) (A : Around) (outer : List Env) (s : Shared) (H : Hp) (vs : List V) (Q : VK) (E : XK) (p : Addr × Obj), RoomH k (A.deeper (envOfC qual (defScope st) s.heap.objs.size f cdv)) → sp vs H Q E →
      ∃ t, PSs (cxH (L2.CX P w) P w K mg base N qual (defScope st) f cdv A outer s H E p) (defBody st) t ∧ t { nx := fun _ H' => Q .non H', rt := Q } (L2.start N vs) H) : FnL P w K mg base (k + 1) f fd ps sp := by
  obtain ⟨oc, od, kV, doc, pm, an, cdv, ct, osl, rfl, lk, hcd⟩ := F.ex
  refine ⟨len, fun A outer s H args us vs Q E p hr hpin e0 hb r hsp => ?_⟩
  have hl := len _ _ _ _ hsp
  have KX : K.In s.heap := e0.mod.kin.keeps (fun b o e => (e0.bs b o e).1); have lim : s.heap.NoLimit := e0.mod.nolimit.keeps fun b o e => (e0.bs b o e).1
  have kinds : ∀ y ∈ ps.zip us, (defScope st).names.lookup y.1 = some .local ∨ ((defScope st).names.lookup y.1 = some .cell ∧ ((cellsFrom (s.heap.objs.size + 1) (defScope st).names []).lookup y.1).isSome = true) := by
    rintro ⟨n, v⟩ hy
    exact (S.par n (List.of_mem_zip hy).1).elim .inl fun q => .inr ⟨q, PySem.W.cellsFrom_some _ _ _ (.inl q)⟩
  refine codeAny_call_function hr.depth (KX _ _ lk) rfl S.co S.gen rfl (PySem.W.codeRec_of KX hcd) (hb _ _ _ _ (wpAny_newFunctionEnv_cells S.kind kinds fun env he s1 x => ?_))
  subst he
  obtain ⟨t, ht, hq⟩ := hbody cdv A outer s H vs Q E p (hr.deeper _) hsp
  refine ⟨lim.keeps x.toInCall.keep, codeAny_func (wpAny_mono (ht.run [] s1 (L2.start N vs) H _ (inv_startH (CX := L2.CX P w) S hpin e0 hl r x) hq) (fun fl s' hs => ?_) fun e s' hs => hs)⟩
  rcases fl with _ | _ | _ | u
  · obtain ⟨σ', H', J, q⟩ := hs
    exact ⟨.non, H', J.os, J.bare, J.base, J.hok, rfl, q⟩
  · obtain ⟨_, _, _, q⟩ := hs; exact False.elim q
  · obtain ⟨_, _, _, q⟩ := hs; exact False.elim q
  · obtain ⟨v, σ', H', J, rv, q⟩ := hs
    exact ⟨v, H', J.os, J.bare, J.base, J.hok, rv, q⟩
/-- such a def by its name -/
def CalL (P : Program) (w : World) (K : PySem.W.Frag) (mg : Str → Option Value) (base : Heap) (x : Str) (k : Nat) (sp : Sp) : Prop := ∃ f fd ps, mg x = some (.ref f) ∧ PySem.W.keepIn K (.ref f) = true ∧ Binds K fd ps [] ∧ FnL P w K mg base k f fd ps sp
theorem roomL {k : Nat} {A : Around} {v : Option Value} (r : Room k A) : RoomH k (A.mark v) := ⟨r.dp, r.un⟩
theorem z_callL {X : Cx} {k j : Nat} {x : Str} {sp : Sp} {q pos : Pos} {e : Expr} {es : List Expr} {t : TA} {p : Addr × Obj} (c : CalL X.prog X.w X.K X.mg X.base x k sp) (hr : RoomH j X.A) (hp : p ∈ X.pn) (hx : ∀ σ, PassesAt (L2.CX X.prog X.w) X σ (EN σ)) (ha : PA X (e :: es) t) (hj : k ≤ j := by decide) (hg : Gl X x := by rfl)
    (hdb : (x == ("__debug__" : Str)) = false := by decide) (he : starEach (e :: es) X.env = (false, eval e X.env) :: starEach es X.env := by rfl) (hpl : (backTo pos (starEach es X.env)).any (·.1) = false := by rfl) :
    PE X (.Call (.Name x q) (e :: es) [] pos) (tCallS sp EN t) := by
  obtain ⟨f, fd, ps, hm, hk, hb, F⟩ := c
  refine ⟨fun pins s σ H Q I h => wpAny_Call_Name_kw (ld_glob I hg hm ?_ hdb)⟩
  refine PySem.W.callWith_K (h₀ := X.base) I.ok.mod.kin hk (thn (ha.run pos pins s σ H _ I h) fun us s1 ⟨vs, H1, I1, r, q⟩ => ⟨I1.kIn, ?_⟩) he hpl
  have hl : us.length = ps.length := by rw [← r.length]; exact F.len _ _ _ _ q
  have b := hb s1 us I1.kIn (by rw [List.append_nil]; exact hl)
  rw [List.append_nil] at b
  have P1 := I1.pin p (List.mem_append_left _ hp)
  have pk : PinOk X.stack H1 s1 p := ⟨P1.1, P1.2.1, (fun hm => (List.mem_cons.mp (I1.stkSub p.1 hm)).elim P1.2.2.1 P1.2.2.2.1), P1.2.2.2.2⟩
  refine wpAny_call (codeAny_mono (F.run X.A X.stack s1 H1 ⟨us, []⟩ us vs Q (EN σ) p (hr.mono hj) pk I1.env0 b r q) fun r s' hq => ?_)
  rcases r with e | fl
  · exact hx σ pins H1 s1 e s' I1 hq
  rcases fl with _ | _ | _ | u
  · exact False.elim hq
  · exact False.elim hq
  · exact False.elim hq
  · exact I1.after hq
theorem mk_calL {P : Program} {w : World} {K : PySem.W.Frag} {mg : Str → Option Value} {base h : Heap} {x : Str} {f : Addr} {fd : FuncData} {ps : List Str} {k : Nat} {sp : Sp} (X : K.In h) (G : h.Ns mainGlobals mg) (a : PySem.W.nsIn K mainGlobals x = some (some (.ref f))) (kk : PySem.W.keepIn K (.ref f) = true) (b : Binds K fd ps []) (F : FnL P w K mg base k f fd ps sp) :
    CalL P w K mg base x k sp := ⟨f, fd, ps, PySem.W.mg_of X G a, kk, b, F⟩
theorem kit_b {K : PySem.W.Frag} {C : Addr} {T : String} {b : Bool} (h : PySem.W.kitMeta T = true) (e : PySem.W.subIn K (.ref C) (.type T) = some b) : PySem.W.kitOne K (.ref C) (.type T) = some b := by
  unfold PySem.W.kitOne
  rw [if_neg (by simp)]
  unfold PySem.W.kitCls
  show (if PySem.W.kitMeta T = true then PySem.W.subIn K (.ref C) (.type T) else none) = some b
  rw [if_pos h, e]
end Z

set_option Elab.async false
set_option linter.all false
set_option maxRecDepth 100000
set_option maxHeartbeats 4000000
/-! errors that are made and not raised; isinstance of them; {x!s} of own things -/
namespace Z
open PySem PySem.Spec PyProof.Rows L2
section
variable {X : Cx} {C : Addr} {k j : Nat} {sp : Sp} {x : Str} {e : Expr} {es : List Expr} {t : TA} {te : TE} {p pos : Pos}
/-- C(e, ..), C an error class: the new object -/
def tMkV (C : Addr) (sp : Sp) (ta : TA) : TE := fun σ H Q => ta σ H fun vs H1 => vs.length ≤ 1000 ∧ ∀ a, H1 a = none → sp (.ref a :: (vs ++ [])) (upd H1 a (exo a C none)) (fun v H2 => v = .non ∧ Q (.ref a) H2) (fun _ _ _ => False)
theorem runMkV {pins : List (Addr × Obj)} {σ : L2.St} {H1 : Hp} {s1 : Shared} {Q : VK} {us : List Value} {vs : List V} {fI : Addr} {fd : FuncData} {ps : List Str} (T : OexC X.K C) (iC : PySem.W.findIn X.K (.ref C) "__init__" = some (some (.ref fI))) (tI : PySem.W.typeIn X.K (.ref fI) = some (.type "function"))
    (F1 : FnOk X.prog X.w X.K X.mg X.base (L2.CX X.prog X.w) k fI fd ps sp) (hr : Room (k + 1) X.A) (hb : Binds X.K fd ps []) (I1 : Inv X pins σ H1 s1) (r1 : Vals vs us) (hz : vs.length ≤ 1000)
    (q1 : ∀ a, H1 a = none → sp (.ref a :: (vs ++ [])) (upd H1 a (exo a C none)) (fun v H2 => v = .non ∧ Q (.ref a) H2) (fun _ _ _ => False)) : wpAny (model X.prog X.w) X.A (call (.ref C) us) (EP X pins σ Q) X.xe s1 := by
  obtain ⟨nm, q, N, bs, bm, sn, sub, ab, col, dd, k0, k1, k2, k3, k5, hC, hbm⟩ := T.cls
  obtain ⟨hp, g, dr, tk, os⟩ := s1
  have hsz : hp.objs.size ≤ hp.objs.size + 1 := Nat.le_succ _
  have hn : H1 (hp.objs.size + 1) = none := I1.hok.fresh hsz
  have hq := q1 (hp.objs.size + 1) hn
  have kk : ∀ b o, hp.get? b = some o → ((hp.push (PySem.W.kdv_tup us)).push (PySem.HandSPX.excO C hp.objs.size)).get? b = some o := fun b o e => Heap.get?_push_of_some _ (Heap.get?_push_of_some _ e)
  have hget : ((hp.push (PySem.W.kdv_tup us)).push (PySem.HandSPX.excO C hp.objs.size)).get? (hp.objs.size + 1) = some (PySem.HandSPX.excO C hp.objs.size) := by heap_get
  have I2 : Inv X pins σ (upd H1 (hp.objs.size + 1) (exo (hp.objs.size + 1) C none)) ⟨(hp.push (PySem.W.kdv_tup us)).push (PySem.HandSPX.excO C hp.objs.size), g, dr, tk, os⟩ :=
    I1.laid (t' := tk) (a := hp.objs.size + 1) (o := exo (hp.objs.size + 1) C none) (h' := (hp.push (PySem.W.kdv_tup us)).push (PySem.HandSPX.excO C hp.objs.size)) kk hsz (exo_ok hget)
  have r2 : Vals (V.ref (hp.objs.size + 1) :: (vs ++ [])) (Value.ref (hp.objs.size + 1) :: (us ++ [])) := .cons rfl (r1.append .nil)
  have hl : (Value.ref (hp.objs.size + 1) :: us ++ []).length = ps.length := by
    have e := r2.length
    rw [F1.len _ _ _ _ hq] at e
    exact e.symm
  have hus : us.length ≤ sizeLine := by
    rw [← Paired.length r1, sizeLine_eq]
    omega
  have hbb := hb _ (Value.ref (hp.objs.size + 1) :: us) I2.kIn hl
  rw [List.cons_append] at hbb
  refine wpAny_call (PySem.HandSPX.call_own F.excBase_ValueError (fun Y => PySem.HandSPX.refsVE_contains Y bm hbm) (I1.kIn _ _ hC) (PySem.W.looks_findIn I1.kIn iC) (fun self => PySem.W.bind_fn I1.kIn self tI) hus
    (codeAny_mono (F1.run _ X.stack _ _ ⟨Value.ref (hp.objs.size + 1) :: us, []⟩ (Value.ref (hp.objs.size + 1) :: (us ++ [])) _ _ (fun _ _ _ => False) (hr.make C us []) (I2.env0.make C us []) hbb r2 hq) fun r s' hq' => ?_))
  cases r with
  | error er => exact (cxN hq').elim
  | ok fl =>
    cases fl with
    | ret u =>
      obtain ⟨v, H', I3, rv, ev, q3⟩ := I2.after hq'
      subst ev
      exact ⟨rv, .ref (hp.objs.size + 1), H', I3, rfl, q3⟩
    | next => exact False.elim hq'
    | brk => exact False.elim hq'
    | cont => exact False.elim hq'
theorem z_mkV {ps : List Str} (c : CalX X.prog X.w X.K X.mg X.base x C k ps sp) (hr : Room j X.A) (ha : PA X (e :: es) t) (hj : k + 1 ≤ j := by decide) (hg : Gl X x := by rfl)
    (hdb : (x == ("__debug__" : Str)) = false := by decide) (he : starEach (e :: es) X.env = (false, eval e X.env) :: starEach es X.env := by rfl)
    (hpl : (backTo pos (starEach es X.env)).any (·.1) = false := by rfl) : PE X (.Call (.Name x p) (e :: es) [] pos) (tMkV C sp t) := by
  obtain ⟨hm, T, fI, fd, iC, tI, F, b⟩ := c
  refine ⟨fun pins s σ H Q I h => ?_⟩
  refine wpAny_Call_Name_kw (ld_glob I hg hm ?_ hdb)
  refine PySem.W.callWith_K (h₀ := X.base) I.ok.mod.kin T.kC (thn (ha.run pos pins s σ H _ I h) fun us s1 ⟨vs, H1, I1, r1, hz, q1⟩ => ⟨I1.kIn, ?_⟩) he hpl
  exact runMkV T iC tI F (hr.mono hj) b I1 r1 hz q1
theorem z_mkV0 {ps : List Str} (c : CalX X.prog X.w X.K X.mg X.base x C k ps sp) (hr : Room j X.A) (hj : k + 1 ≤ j := by decide) (hg : Gl X x := by rfl)
    (hdb : (x == ("__debug__" : Str)) = false := by decide) : PE X (.Call (.Name x p) [] [] pos) (tMkV C sp tNil) := by
  obtain ⟨hm, T, fI, fd, iC, tI, F, b⟩ := c
  refine ⟨fun pins s σ H Q I h => ?_⟩
  refine wpAny_Call_Name_kw (ld_glob I hg hm ?_ hdb)
  have h' : (([] : List V).length ≤ 1000 ∧ ∀ a, H a = none → sp (.ref a :: ([] ++ [])) (upd H a (exo a C none)) (fun v H2 => v = .non ∧ Q (.ref a) H2) (fun _ _ _ => False)) := h
  exact PySem.W.callWith_K0 I.kIn T.kC (runMkV (us := []) T iC tI F (hr.mono hj) b I .nil h'.1 h'.2)
/-- isinstance(e, c), e an error that stands -/
def rIsX (K : PySem.W.Frag) : List V → Hp → VK → Prop := fun xs H Q => ∃ (a D : Addr) (d : Option Addr) (c : V) (u : Value) (b : Bool), xs = [.ref a, c] ∧ ClsV c u ∧ ExcC K D ∧ H a = some (exo a D d) ∧ (∀ dd, d = some dd → ∃ fs, H dd = some (exd dd fs)) ∧ PySem.W.kitOne K (.ref D) u = some b ∧ Q (.bl b) H
theorem call_isX : CallR X (.builtin "isinstance") (rIsX X.K) := by
  intro pins s σ H xs us Q I r h
  obtain ⟨a, D, d, c, u, b, rfl, k, CD, ha, hd, e, q⟩ := h
  obtain ⟨u1, u2, rfl, r1, r2⟩ := vals2 r
  have e2 := k.eq r2
  subst e2
  obtain rfl : u1 = Value.ref a := r1
  obtain ⟨t1, ho⟩ := exo_at I.hok ha
  have hcl : (PySem.W.clsIn X.K D).isSome = true := by
    obtain ⟨cd, hc, _⟩ := PySem.W.any_some CD.hd
    rw [hc]
    rfl
  have go : ∀ od, PySem.W.InstAt s.heap a { cls := .ref D, dict := d, data := .fields #[.ref t1, .none, .none, .none, .bool false, .none] } D od → wpAny (model X.prog X.w) X.A (call (.builtin "isinstance") [.ref a, u2]) (EP X pins σ Q) X.xe s := fun od J =>
    PySem.W.kia_one (PySem.W.kitx_exc hcl CD.hg CD.hk CD.hs CD.ha CD.hn CD.ht CD.hm) I.kIn J e (fun z => nomatch z) fun tk => ⟨.bl b, H, I.tok tk, rfl, q⟩
  cases d with
  | none => exact go none ⟨ho, rfl, rfl, trivial⟩
  | some dd =>
    obtain ⟨fs, hdd⟩ := hd dd rfl
    obtain ⟨mA, hns, hr⟩ := exd_at I.hok hdd
    obtain ⟨od, ho2, hl⟩ := lookIn_ns hns
    exact go (some od) ⟨ho, rfl, rfl, ho2⟩
theorem k_isX {K : PySem.W.Frag} (hK : X.K = K) : CallR X (.builtin "isinstance") (rIsX K) := by
  subst hK
  exact call_isX
/-- {x!s}, x an instance with its own __str__ -/
def tFmtSO (C : Addr) (sp : Sp) (te : TE) : TE := fun σ H Q => te σ H fun x H1 => ∃ a dx fs, x = .ref a ∧ H1 a = some (.ins C dx fs) ∧ sp [.ref a] H1 (fun v H' => ∃ z, v = .str z ∧ z.length ≤ 100000 ∧ Q (.str z) H') (fun _ _ _ => False)
theorem pe_fmtSO (c : CalO X.prog X.w X.K X.mg X.base C "__str__" k sp) (hr : Room j X.A) (he : PE X e te) (hj : k + 2 ≤ j := by decide) : PE X (.FormattedValue e 115 none pos) (tFmtSO C sp te) := by
  obtain ⟨f, S, sf, F⟩ := c
  have hr := hr.mono hj
  refine ⟨fun pins s σ H Q I h => ?_⟩
  refine wpAny_FormattedValue_s (thn (he.run pins s σ H _ I h) fun v s1 ⟨x, H1, I1, r1, q⟩ => ?_)
  obtain ⟨a, dx, fs, rfl, ea, h⟩ := q
  obtain rfl : v = Value.ref a := r1
  show wpAny _ _ (pyStrObj (.ref a)) _ _ _
  obtain ⟨ox, od, Ja⟩ := instAt I1 ea
  unfold pyStrObj
  refine wpAny_bind (m := cRoomFor _ _) (wpAny_cRoomFor hr.units0 ?_)
  refine wpAny_bind (m := callSpecial? (.ref a) (Str.ofString "__str__")) (PySem.W.special_fn I1.kIn Ja S.at_ (beq_iff_eq.mp S.fn) ?_)
  have hr1 : Room k X.A := hr.mono (by omega)
  refine wpAny_call (codeAny_mono (F X.A X.stack s1 H1 [.ref a] [.ref a] _ (fun _ _ _ => False) hr1 I1.env0 (.cons rfl .nil) h) fun q s' hq => ?_)
  rcases q with e | fl
  · exact (cxN hq).elim
  rcases fl with _ | _ | _ | u'
  · exact False.elim hq
  · exact False.elim hq
  · exact False.elim hq
  obtain ⟨v', H', J', rv, z, ev, hz, q⟩ := I1.after hq
  subst ev
  obtain ⟨t, rfl⟩ := rv
  refine wpAny_bind (wpAny_isInstance (b := true) (typeIs_str _ _ _) isSubtype_str_str ?_)
  refine wpAny_pure ?_
  exact wpAny_formatField_str ⟨.str z, H', J', ⟨_, rfl⟩, q⟩ ⟨.str z, H', J'.tok _, ⟨_, rfl⟩, q⟩ (Nat.le_trans hz (by rw [sizeLine_eq]; decide))
/-- [x] * k -/
def rMulLI : R2 := fun x y H Q => ∃ (a : Addr) (v : V) (k : Nat), x = .ref a ∧ y = .int k ∧ H a = some (.lst [v]) ∧ k ≤ 1000 ∧ ∀ p, H p = none → Q (.ref p) (upd H p (.lst (List.replicate k v)))
theorem op_mulLI : OpR X (binaryOp .Mult) rMulLI := by
  intro pins s σ H x y v u Q I rx ry h
  obtain ⟨a, v1, k, rfl, rfl, ha, hk, q⟩ := h
  obtain rfl : v = Value.ref a := rx
  obtain ⟨tk, rfl⟩ := ry
  obtain ⟨hz0, its, n, rv, ho⟩ := (show ObjOk X.prog X.w H s.heap a (.lst [v1]) from I.hok a _ ha)
  have l1 : its.length = 1 := by rw [← rv.length]; rfl
  have key : ∀ z : Int, z = (k : Nat) → wpAny (model X.prog X.w) X.A (binaryOp .Mult (.ref a) (.int z tk)) (EP X pins σ Q) X.xe s := fun z hzk => by
    have hm : its.toArray.size * z.toNat = k := by rw [hzk, List.size_toArray, l1, Int.toNat_natCast, Nat.one_mul]
    have c0 : ¬(!Builtin.List.listFitsIndex z) = true := by
      unfold Builtin.List.listFitsIndex
      simp
      omega
    refine wpAny_binaryOp_repeat_ref (T := "list") (U := "int") (by decide) ⟨_, ho, rfl⟩ (fun s' => typeIs_int s' _ tk) noFill_list_mul F.fills_int_mul F.slot_int_rmul repeat_list F.slot_int_index.lookup
      (call_meets F.slot_int_rmul (typeIs_int s _ tk) F.entry_int_rmul (F.args_int_rmul_2 _ _) (int___rmul___int_list z tk a its.toArray n)
        ⟨ho, rfl, ⟨_, ho, rfl⟩, call_meets F.slot_list_mul ⟨_, ho, rfl⟩ F.entry_list_mul (F.args_list_mul_2 _ _)
          (AutoListH.list___mul___list_int_3 a its.toArray n z tk c0 (by rw [hm]; omega) (by rw [hm]; unfold Builtin.List.listTooLong; rw [sizeLine_eq, decide_eq_true_eq]; omega))
          ⟨ho, ?_⟩⟩)
    rw [listMul_foldl_if, hzk, Int.toNat_natCast]
    obtain ⟨u1, rfl⟩ : ∃ u1, its = [u1] := by
      match its, l1 with
      | [u1], _ => exact ⟨u1, rfl⟩
    obtain ⟨rv1, _⟩ : RelV v1 u1 ∧ True := by
      cases rv with
      | cons r t => exact ⟨r, trivial⟩
    have rep : ∀ k : Nat, Vals (List.replicate k v1) (List.replicate k [u1]).flatten := by
      intro k
      induction k with
      | zero => exact .nil
      | succ k ih =>
        rw [List.replicate_succ, List.replicate_succ, List.flatten_cons]
        exact .cons rv1 ih
    have hv := rep k
    have hl : (List.replicate k v1).length ≤ sizeLine := by rw [List.length_replicate, sizeLine_eq]; omega
    have hlist : [u1].toArray.toList = [u1] := rfl
    rw [hlist]
    refine ⟨.ref s.heap.objs.size, upd H s.heap.objs.size (.lst (List.replicate k v1)), I.laid (t' := s.toks) (fun b o e => Heap.get?_push_of_some _ e) (Nat.le_refl _) ⟨hl, _, 0, hv, Heap.get?_push_size _ rfl⟩, rfl, q _ (I.hok.fresh (Nat.le_refl _))⟩
  exact key _ rfl
end
/-! ### a def with a star parameter, as a classmethod -/
section
variable {P : Program} {w : World} {K : PySem.W.Frag} {mg : Str → Option Value} {base : Heap}
/-- what a call of def f(a, *v) asks: sp of the new tuple -/
def spStar (n : Nat) (sp : Sp) : Sp := fun vs H Q E => ∃ ws rest, vs = ws ++ rest ∧ ws.length = n ∧ rest.length ≤ sizeLine ∧ ∀ p, H p = Option.none → sp (ws ++ [V.ref p]) (upd H p (.tup rest)) Q E
theorem fnS_mk {x qual : Str} {st : Stmt} {f : Addr} {fd : FuncData} {N ps : List Str} {pv : Str} {k : Nat} {sp : Sp} (F : L2.Fun K x qual st f fd) (S : FnScope N (ps ++ [pv]) (defScope st))
    (hb : ∀ (kV doc pm : Value) (an : Option Addr) (cdv ct : Value) (us rest : List Value), us.length = ps.length → bindArgs (PySem.W.fnOf x qual (defArgs st) (defBody st) (defScope st) .none kV doc pm an cdv ct) ⟨us ++ rest, []⟩ = (newTuple rest >>= fun t => pure (ps.zip us ++ [(pv, t)])))
    (hbody : ∀ (cdv : Value) (A : Around) (outer : List Env) (s : Shared) (H : Hp) (vs : List V) (Q : VK) (E : XK), Room k (A.deeper (envOfC qual (defScope st) s.heap.objs.size f cdv)) → sp vs H Q E →
      ∃ t, PSs (cxOf (L2.CX P w) P w K mg base N qual (defScope st) f cdv A outer s H E) (defBody st) t ∧ t { nx := fun _ H' => Q .non H', rt := Q } (start N vs) H) : FnR P w K mg base (L2.CX P w) (k + 1) f (spStar ps.length sp) := by
  obtain ⟨oc, od, kV, doc, pm, an, cdv, ct, osl, rfl, lk, hcd⟩ := F.ex
  exact StX.fn_star lk hcd S StX.cxUp (hb _ _ _ _ _ _) (hbody cdv)
theorem fnS_mk1 {x qual : Str} {st : Stmt} {f : Addr} {fd : FuncData} {N : List Str} {p1 pv : Str} {k : Nat} {sp : Sp} (F : L2.Fun K x qual st f fd) (S : FnScope N [p1, pv] (defScope st))
    (h0 : ∀ (kV doc pm : Value) (an : Option Addr) (cdv ct : Value) (a : Value), bindArgs (PySem.W.fnOf x qual (defArgs st) (defBody st) (defScope st) .none kV doc pm an cdv ct) ⟨[a], []⟩ = (newTuple [] >>= fun t => pure [(p1, a), (pv, t)]))
    (h1 : ∀ (kV doc pm : Value) (an : Option Addr) (cdv ct : Value) (a r : Value) (rs : List Value), bindArgs (PySem.W.fnOf x qual (defArgs st) (defBody st) (defScope st) .none kV doc pm an cdv ct) ⟨a :: r :: rs, []⟩ = (newTuple (r :: rs) >>= fun t => pure [(p1, a), (pv, t)]))
    (hbody : ∀ (cdv : Value) (A : Around) (outer : List Env) (s : Shared) (H : Hp) (vs : List V) (Q : VK) (E : XK), Room k (A.deeper (envOfC qual (defScope st) s.heap.objs.size f cdv)) → sp vs H Q E →
      ∃ t, PSs (cxOf (L2.CX P w) P w K mg base N qual (defScope st) f cdv A outer s H E) (defBody st) t ∧ t { nx := fun _ H' => Q .non H', rt := Q } (start N vs) H) : FnR P w K mg base (L2.CX P w) (k + 1) f (spStar 1 sp) :=
  fnS_mk (ps := [p1]) (pv := pv) F S (fun kV doc pm an cdv ct => StX.bind_star1 (B := fun vs => bindArgs (PySem.W.fnOf x qual (defArgs st) (defBody st) (defScope st) .none kV doc pm an cdv ct) ⟨vs, []⟩) (h0 kV doc pm an cdv ct) (h1 kV doc pm an cdv ct)) hbody
theorem mk_calKS {C f : Addr} {k : Nat} {sp : Sp} {x : Str} {mc : Value} {p : Addr} (r : ClX.CRead K C mc) (m : ClX.CMet K C mc x p f) (F : FnR P w K mg base (L2.CX P w) k f sp) : CalK P w K mg base C x k sp := ⟨mc, p, f, r, m, F⟩
end
end Z

set_option Elab.async false
set_option linter.all false
set_option maxRecDepth 100000
set_option maxHeartbeats 1000000
/-! list(zip(xs, ys)), xs and ys tuples: the pairs that are kept -/
namespace Z
open PySem RZ
section
variable {prog : Program} {w : World} {A : Around} {E : Value → Shared → Prop} {s : Shared}
abbrev IsZipF (h : Heap) (z TI TO : Addr) (f0 : Value) (b : Bool) : Prop :=
  h.get? z = some { cls := .type "zip", dict := none, data := .fields #[f0, .bool b, .bool false, .ref TI, .ref TO], slots := #[] }
theorem zl_head {z TI TO T : Addr} {b : Bool} {oT : Obj} {F : Bool → Sem Fin} {Q : Fin → Shared → Prop} (hz : IsZipF s.heap z TI TO (rawInt T) b) (ha : s.heap.get? T = some oT)
    (h : ∀ h', IsZipF h' z TI TO (rawInt T) true → Heap.SameBut z s.heap h' → wpAny (model prog w) A (F false) Q E { s with heap := h' }) :
    wpAny (model prog w) A (Builtin.SmallTypes.ownedTupleIsFree (.ref z) >>= F) Q E s := by
  refine wpAny_bind ?_
  unfold Builtin.SmallTypes.ownedTupleIsFree
  refine wpAny_bind (wpAny_field hz rfl (x := rawInt T) rfl ?_)
  show wpAny _ _ (loadIfAlive (T : Int).toNat >>= _) _ _ _
  rw [Int.toNat_natCast]
  refine wpAny_bind (PySem.W.kdx_alive ha ?_)
  simp only [Option.isNone_some, Bool.false_eq_true, if_false]
  refine wpAny_bind (wpAny_field hz rfl (x := .bool b) rfl ?_)
  cases b with
  | true =>
    show wpAny _ _ (if (Value.bool true != Value.bool true) = true then _ else _) _ _ _
    rw [if_neg (by decide)]
    exact wpAny_pure (h _ hz ⟨rfl, fun _ _ => rfl⟩)
  | false =>
    show wpAny _ _ (if (Value.bool false != Value.bool true) = true then _ else _) _ _ _
    rw [if_pos (by decide)]
    refine wpAny_bind (wpAny_setField_rec hz (by simp) fun h₁ hz₁ hs₁ => ?_)
    exact wpAny_pure (h _ hz₁ hs₁)
theorem zl_item {z TI TO i1 i2 l1 l2 T : Addr} {k1 k2 : Nat} {b : Bool} {oT : Obj} {xs ys : Array Value} {x y : Value} {Q : Value → Shared → Prop} (D : ZipApart z TI TO i1 i2 l1 l2)
    (hz : IsZipF s.heap z TI TO (rawInt T) b) (hTI : IsPair s.heap TI (.ref i1) (.ref i2)) (ha : s.heap.get? T = some oT)
    (h1 : s.heap.IsTupleIter i1 l1 k1) (h2 : s.heap.IsTupleIter i2 l2 k2) (hl1 : s.heap.IsTuple l1 xs) (hl2 : s.heap.IsTuple l2 ys) (hx : xs[k1]? = some x) (hy : ys[k2]? = some y)
    (hQ : ∀ h', IsZipF h' z TI TO (rawInt T) true → h'.IsTupleIter i1 l1 (k1 + 1) → h'.IsTupleIter i2 l2 (k2 + 1) → IsPair h' s.heap.objs.size x y → h'.objs.size = s.heap.objs.size + 1 →
      (∀ c o, c ≠ z → c ≠ i1 → c ≠ i2 → s.heap.get? c = some o → h'.get? c = some o) → Q (.ref s.heap.objs.size) { s with heap := h' }) :
    wpAny (model prog w) A (Builtin.«zip.__next__» ⟨[.ref z], []⟩) (fun fin s' => ∃ v, fin = .done (.ret v) ∧ Q v s') E s := by
  show wpAny _ _ (field (.ref z) 2 >>= _) _ _ _
  refine wpAny_bind (wpAny_field hz rfl (x := .bool false) rfl ?_)
  show wpAny _ _ (field (.ref z) 3 >>= _) _ _ _
  refine wpAny_bind (wpAny_field hz rfl (x := .ref TI) rfl ?_)
  refine wpAny_bind (wpAny_seqItems hTI rfl ?_)
  show wpAny _ _ (Builtin.SmallTypes.ownedTupleIsFree (.ref z) >>= _) _ _ _
  refine zl_head hz ha fun h₁ hz₁ hs₁ => ?_
  simp only [Bool.false_eq_true, if_false]
  refine wpAny_bind ?_
  rw [← Array.forIn_toList]
  simp only [List.forIn_cons, List.forIn_nil]
  refine wpAny_bind (wpAny_bind (wpAny_holding ?_))
  show wpAny _ _ (Builtin.SmallTypes.nextOf (.ref i1) >>= _) _ _ _
  refine wpAny_bind (nextOf_tuple_item (h1.extBut hs₁.extBut D.i1z) (hl1.extBut hs₁.extBut D.l1z) hx fun h₂ h1₂ hs₂ => wpAny_pure ?_)
  refine wpAny_pure (wpAny_bind (wpAny_bind (wpAny_holding ?_)))
  show wpAny _ _ (Builtin.SmallTypes.nextOf (.ref i2) >>= _) _ _ _
  refine wpAny_bind (nextOf_tuple_item ((h2.extBut hs₁.extBut D.i2z).extBut hs₂.extBut D.i12.symm) ((hl2.extBut hs₁.extBut D.l2z).extBut hs₂.extBut D.l2i1) hy fun h₃ h2₃ hs₃ => wpAny_pure ?_)
  refine wpAny_pure (wpAny_pure ?_)
  show wpAny _ _ (newTuple [x, y] >>= fun t => ret t) _ _ _
  refine wpAny_bind (wpAny_newTuple ?_)
  have hsz : h₃.objs.size = s.heap.objs.size := by rw [hs₃.1, hs₂.1, hs₁.1]
  have hk : ∀ c o, c ≠ z → c ≠ i1 → c ≠ i2 → s.heap.get? c = some o → (h₃.push { cls := .type "tuple", data := .seq #[x, y] }).get? c = some o := fun c o c1 c2 c3 e =>
    Heap.get?_push_of_some _ (hs₃.extBut _ _ c3 (hs₂.extBut _ _ c2 (hs₁.extBut _ _ c1 e)))
  refine wpAny_pure ⟨_, rfl, ?_⟩
  show Q (.ref h₃.objs.size) _
  have hz3 : IsZipF h₃ z TI TO (rawInt T) true := hs₃.extBut _ _ D.i2z.symm (hs₂.extBut _ _ D.i1z.symm hz₁)
  have a1 : IsZipF (h₃.push { cls := .type "tuple", data := .seq #[x, y] }) z TI TO (rawInt T) true := Heap.get?_push_of_some _ hz3
  have a2 : IsPair (h₃.push { cls := .type "tuple", data := .seq #[x, y] }) h₃.objs.size x y := Heap.get?_push_size _ rfl
  rw [hsz] at a2 ⊢
  exact hQ _ a1 ((h1₂.extBut hs₃.extBut D.i12).at fun o e => Heap.get?_push_of_some _ e) (h2₃.at fun o e => Heap.get?_push_of_some _ e) a2 (by rw [Heap.size_push, hsz]) hk
theorem zl_end {z TI TO i1 i2 l1 l2 T : Addr} {k1 k2 : Nat} {b : Bool} {oT : Obj} {xs ys : Array Value} {Q : Fin → Shared → Prop} (hh : A.handled = none) (D : ZipApart z TI TO i1 i2 l1 l2)
    (hz : IsZipF s.heap z TI TO (rawInt T) b) (hTI : IsPair s.heap TI (.ref i1) (.ref i2)) (ha : s.heap.get? T = some oT)
    (h1 : s.heap.IsTupleIter i1 l1 k1) (h2 : s.heap.IsTupleIter i2 l2 k2) (hl1 : s.heap.IsTuple l1 xs) (hl2 : s.heap.IsTuple l2 ys) (hend : xs[k1]? = none ∨ ys[k2]? = none)
    (hE : ∀ h' e, (∀ c o, c ≠ z → c ≠ i1 → c ≠ i2 → s.heap.get? c = some o → h'.get? c = some o) → (∃ o, h'.get? e = some o ∧ o.cls = .type "StopIteration") → E (.ref e) { s with heap := h' }) :
    wpAny (model prog w) A (Builtin.«zip.__next__» ⟨[.ref z], []⟩) Q E s := by
  show wpAny _ _ (field (.ref z) 2 >>= _) _ _ _
  refine wpAny_bind (wpAny_field hz rfl (x := .bool false) rfl ?_)
  show wpAny _ _ (field (.ref z) 3 >>= _) _ _ _
  refine wpAny_bind (wpAny_field hz rfl (x := .ref TI) rfl ?_)
  refine wpAny_bind (wpAny_seqItems hTI rfl ?_)
  show wpAny _ _ (Builtin.SmallTypes.ownedTupleIsFree (.ref z) >>= _) _ _ _
  refine zl_head hz ha fun h₁ hz₁ hs₁ => ?_
  simp only [Bool.false_eq_true, if_false]
  refine wpAny_bind ?_
  rw [← Array.forIn_toList]
  simp only [List.forIn_cons, List.forIn_nil]
  refine wpAny_bind (wpAny_bind (wpAny_holding ?_))
  show wpAny _ _ (Builtin.SmallTypes.nextOf (.ref i1) >>= _) _ _ _
  cases hx : xs[k1]? with
  | none =>
    exact wpAny_bind (nextOf_tuple_end hh (h1.extBut hs₁.extBut D.i1z) (hl1.extBut hs₁.extBut D.l1z) hx fun h₂ e hs₂ he => hE h₂ e (fun c o c1 c2 c3 x => hs₂ _ _ c2 (hs₁.extBut _ _ c1 x)) he)
  | some x =>
    have hy : ys[k2]? = none := by rcases hend with h | h; rw [hx] at h; cases h; exact h
    refine wpAny_bind (nextOf_tuple_item (h1.extBut hs₁.extBut D.i1z) (hl1.extBut hs₁.extBut D.l1z) hx fun h₂ h1₂ hs₂ => wpAny_pure ?_)
    refine wpAny_pure (wpAny_bind (wpAny_bind (wpAny_holding ?_)))
    show wpAny _ _ (Builtin.SmallTypes.nextOf (.ref i2) >>= _) _ _ _
    exact wpAny_bind (nextOf_tuple_end hh ((h2.extBut hs₁.extBut D.i2z).extBut hs₂.extBut D.i12.symm) ((hl2.extBut hs₁.extBut D.l2z).extBut hs₂.extBut D.l2i1) hy fun h₃ e hs₃ he =>
      hE h₃ e (fun c o c1 c2 c3 x => hs₃ _ _ c3 (hs₂.extBut _ _ c2 (hs₁.extBut _ _ c1 x))) he)
theorem zl_nextItem {z TI TO i1 i2 l1 l2 T : Addr} {k1 k2 : Nat} {b : Bool} {oT : Obj} {xs ys : Array Value} {x y : Value} {Q : Option Value → Shared → Prop} (D : ZipApart z TI TO i1 i2 l1 l2)
    (hz : IsZipF s.heap z TI TO (rawInt T) b) (hTI : IsPair s.heap TI (.ref i1) (.ref i2)) (ha : s.heap.get? T = some oT)
    (h1 : s.heap.IsTupleIter i1 l1 k1) (h2 : s.heap.IsTupleIter i2 l2 k2) (hl1 : s.heap.IsTuple l1 xs) (hl2 : s.heap.IsTuple l2 ys) (hx : xs[k1]? = some x) (hy : ys[k2]? = some y)
    (hQ : ∀ h', IsZipF h' z TI TO (rawInt T) true → h'.IsTupleIter i1 l1 (k1 + 1) → h'.IsTupleIter i2 l2 (k2 + 1) → IsPair h' s.heap.objs.size x y → h'.objs.size = s.heap.objs.size + 1 →
      (∀ c o, c ≠ z → c ≠ i1 → c ≠ i2 → s.heap.get? c = some o → h'.get? c = some o) → Q (some (.ref s.heap.objs.size)) { s with heap := h' }) : wpAny (model prog w) A (pyNext (.ref z)) Q E s := by
  have hT : s.TypeIs (.ref z) "zip" := ⟨_, hz, rfl⟩
  unfold pyNext
  exact wpAny_bind (wpAny_attempt (wpAny_callSpecial?_slot (name := Str.ofString "__next__") hT F.slot_zip_next
    (wpAny_call_entry F.slot_zip_next hT F.entry_zip_next
      (zl_item D hz hTI ha h1 h2 hl1 hl2 hx hy fun h' a1 a3 a4 a5 a6 a7 => wpAny_pure (hQ h' a1 a3 a4 a5 a6 a7)) (F.args_zip_next_1 _))))
theorem zl_nextEnd {z TI TO i1 i2 l1 l2 T : Addr} {k1 k2 : Nat} {b : Bool} {oT : Obj} {xs ys : Array Value} {Q : Option Value → Shared → Prop} (hh : A.handled = none) (D : ZipApart z TI TO i1 i2 l1 l2)
    (hz : IsZipF s.heap z TI TO (rawInt T) b) (hTI : IsPair s.heap TI (.ref i1) (.ref i2)) (ha : s.heap.get? T = some oT)
    (h1 : s.heap.IsTupleIter i1 l1 k1) (h2 : s.heap.IsTupleIter i2 l2 k2) (hl1 : s.heap.IsTuple l1 xs) (hl2 : s.heap.IsTuple l2 ys) (hend : xs[k1]? = none ∨ ys[k2]? = none)
    (hQ : ∀ h', (∀ c o, c ≠ z → c ≠ i1 → c ≠ i2 → s.heap.get? c = some o → h'.get? c = some o) → Q none { s with heap := h' }) : wpAny (model prog w) A (pyNext (.ref z)) Q E s := by
  have hT : s.TypeIs (.ref z) "zip" := ⟨_, hz, rfl⟩
  unfold pyNext
  refine wpAny_bind (wpAny_attempt (wpAny_callSpecial?_slot (name := Str.ofString "__next__") hT F.slot_zip_next
    (wpAny_call_entry F.slot_zip_next hT F.entry_zip_next (zl_end hh D hz hTI ha h1 h2 hl1 hl2 hend fun h' e hk he => ?_) (F.args_zip_next_1 _))))
  obtain ⟨o, ho, hc⟩ := he
  refine wpAny_bind (wpAny_isInstance (T := "StopIteration") (b := true) ⟨o, ho, hc⟩ isSubtype_stop ?_)
  exact wpAny_pure (hQ _ hk)
/-- a zip of two tuples amid its walk, its pairs kept by others -/
def ZSt (h : Heap) (z TI TO i1 i2 l1 l2 S : Addr) (xs ys : Array Value) (i : Nat) : Prop :=
  IsPair h TI (.ref i1) (.ref i2) ∧ h.IsTupleIter i1 l1 i ∧ h.IsTupleIter i2 l2 i ∧ h.IsTuple l1 xs ∧ h.IsTuple l2 ys ∧
    ((IsZip h z TI TO .none ∧ ∃ a b, IsPair h TO a b) ∨ ∃ (T : Nat) (b : Bool) (oT : Obj), IsZipF h z TI TO (rawInt T) b ∧ h.get? T = some oT ∧ S < T)
theorem ZSt.keep {h h' : Heap} {z TI TO i1 i2 l1 l2 S : Addr} {xs ys : Array Value} {i : Nat} (x : ZSt h z TI TO i1 i2 l1 l2 S xs ys i) (hk : ∀ b o, b ≠ S → h.get? b = some o → h'.get? b = some o) (lo : ∀ c ∈ [z, TI, TO, i1, i2, l1, l2], c < S) : ZSt h' z TI TO i1 i2 l1 l2 S xs ys i := by
  have ne : ∀ c ∈ [z, TI, TO, i1, i2, l1, l2], c ≠ S := fun c hc => Nat.ne_of_lt (lo c hc)
  obtain ⟨hTI, h1, h2, hl1, hl2, hz⟩ := x
  refine ⟨hk _ _ (ne TI (by simp)) hTI, h1.at fun o e => hk _ o (ne i1 (by simp)) e, h2.at fun o e => hk _ o (ne i2 (by simp)) e, hl1.at fun o e => hk _ o (ne l1 (by simp)) e, hl2.at fun o e => hk _ o (ne l2 (by simp)) e, ?_⟩
  rcases hz with ⟨hz, a, b, hTO⟩ | ⟨T, b, oT, hz, hT, hS⟩
  · exact .inl ⟨hk _ _ (ne z (by simp)) hz, a, b, hk _ _ (ne TO (by simp)) hTO⟩
  · exact .inr ⟨T, b, oT, hk _ _ (ne z (by simp)) hz, hk _ _ (Nat.ne_of_gt hS) hT, hS⟩
structure ZG (xs ys : Array Value) (lo : Addr) (h : Heap) (as : List Addr) : Prop where
  rise : as.Pairwise (· < ·)
  above : ∀ a ∈ as, lo < a
  pairs : ∀ (j : Nat) (a : Addr), as[j]? = some a → ∃ x y, xs[j]? = some x ∧ ys[j]? = some y ∧ IsPair h a x y
variable {z TI TO i1 i2 l1 l2 S : Addr} {xs ys : Array Value} {R : Result → Shared → Prop}
theorem zl_step {i : Nat} {x y : Value} {Q : Option Value → Shared → Prop} (D : ZipApart z TI TO i1 i2 l1 l2) (lo : ∀ c ∈ [z, TI, TO, i1, i2, l1, l2], c < S) (hSh : S < s.heap.objs.size) (st : ZSt s.heap z TI TO i1 i2 l1 l2 S xs ys i) (hx : xs[i]? = some x) (hy : ys[i]? = some y)
    (hQ : ∀ h', ZSt h' z TI TO i1 i2 l1 l2 S xs ys (i + 1) → IsPair h' s.heap.objs.size x y → h'.objs.size = s.heap.objs.size + 1 →
      (∀ c o, c ≠ z → c ≠ TO → c ≠ i1 → c ≠ i2 → s.heap.get? c = some o → h'.get? c = some o) → Q (some (.ref s.heap.objs.size)) { s with heap := h' }) : wpAny (model prog w) A (pyNext (.ref z)) Q E s := by
  obtain ⟨hTI, h1, h2, hl1, hl2, hz⟩ := st
  rcases hz with ⟨hz, a, b, hTO⟩ | ⟨T, b, oT, hz, hT, hS⟩
  · refine pyNext_zipT_item D hz hTI hTO h1 h2 hl1 hl2 hx hy fun h' a1 a2 a3 a4 a5 a6 hk => hQ h' ⟨hk _ _ D.TIz D.TITO D.TIi1 D.TIi2 hTI, a3, a4, hl1.at fun o e => hk _ o D.l1z D.l1TO D.l1i1 D.l1i2 e, hl2.at fun o e => hk _ o D.l2z D.l2TO D.l2i1 D.l2i2 e, .inr ⟨_, false, _, a1, a5, hSh⟩⟩ a5 a6 hk
  · have tne : ∀ c ∈ [z, TI, TO, i1, i2, l1, l2], T ≠ c := fun c hc => Nat.ne_of_gt (Nat.lt_trans (lo c hc) hS)
    refine zl_nextItem D hz hTI hT h1 h2 hl1 hl2 hx hy fun h' a1 a3 a4 a5 a6 hk => hQ h' ⟨hk _ _ D.TIz D.TIi1 D.TIi2 hTI, a3, a4, hl1.at fun o e => hk _ o D.l1z D.l1i1 D.l1i2 e, hl2.at fun o e => hk _ o D.l2z D.l2i1 D.l2i2 e, .inr ⟨T, true, oT, a1, hk _ _ (tne z (by simp)) (tne i1 (by simp)) (tne i2 (by simp)) hT, hS⟩⟩ a5 a6 fun c o c1 _ c3 c4 e => hk c o c1 c3 c4 e
theorem zl_stop {i : Nat} {Q : Option Value → Shared → Prop} (hh : A.handled = none) (D : ZipApart z TI TO i1 i2 l1 l2) (st : ZSt s.heap z TI TO i1 i2 l1 l2 S xs ys i) (hend : xs[i]? = none ∨ ys[i]? = none)
    (hQ : ∀ h', (∀ c o, c ≠ z → c ≠ TO → c ≠ i1 → c ≠ i2 → s.heap.get? c = some o → h'.get? c = some o) → Q none { s with heap := h' }) : wpAny (model prog w) A (pyNext (.ref z)) Q E s := by
  obtain ⟨hTI, h1, h2, hl1, hl2, hz⟩ := st
  rcases hz with ⟨hz, a, b, hTO⟩ | ⟨T, b, oT, hz, hT, hS⟩
  · exact pyNext_zipT_end hh D hz hTI hTO h1 h2 hl1 hl2 hend hQ
  · exact zl_nextEnd hh D hz hTI hT h1 h2 hl1 hl2 hend fun h' hk => hQ h' fun c o c1 _ c3 c4 e => hk c o c1 c3 c4 e
theorem zl_loop {n : Nat} (hh : A.handled = none) (D : ZipApart z TI TO i1 i2 l1 l2) (lo : ∀ c ∈ [z, TI, TO, i1, i2, l1, l2], c < S) (hn : n = min xs.size ys.size) (hz : n ≤ sizeLine) (res : Value) {h₁ : Heap}
    (hR : ∀ h' tk acc c as, (∀ b o, b ≠ S → b ≠ z → b ≠ TO → b ≠ i1 → b ≠ i2 → h₁.get? b = some o → h'.get? b = some o) → h'.get? S = some { cls := .type "list", dict := none, data := .seq acc c, slots := #[] } → as.length = n → ZG xs ys S h' as →
      acc.toList = as.map Value.ref → R (.ok (.ret res)) { s with heap := h', toks := tk }) :
    ∀ (k i : Nat) (h : Heap) (tk c : Nat) (acc : Array Value) (as : List Addr), n - i = k → i ≤ n → ZSt h z TI TO i1 i2 l1 l2 S xs ys i → (∀ b o, b ≠ S → b ≠ z → b ≠ TO → b ≠ i1 → b ≠ i2 → h₁.get? b = some o → h.get? b = some o) →
      h.get? S = some { cls := .type "list", dict := none, data := .seq acc c, slots := #[] } → acc.toList = as.map Value.ref → as.length = i → ZG xs ys S h as →
      codeAny (model prog w) A (.builtin "list.extend.loop" ⟨[.ref S, .ref z, res], []⟩) R { s with heap := h, toks := tk } := by
  have ne : ∀ c ∈ [z, TI, TO, i1, i2, l1, l2], c ≠ S := fun c hc => Nat.ne_of_lt (lo c hc)
  have hi : ∀ {a : Addr}, S < a → a ≠ z ∧ a ≠ TO ∧ a ≠ i1 ∧ a ≠ i2 := fun {a} ha => by
    exact ⟨Nat.ne_of_gt (Nat.lt_trans (lo z (by simp)) ha), Nat.ne_of_gt (Nat.lt_trans (lo TO (by simp)) ha), Nat.ne_of_gt (Nat.lt_trans (lo i1 (by simp)) ha), Nat.ne_of_gt (Nat.lt_trans (lo i2 (by simp)) ha)⟩
  intro k
  induction k with
  | zero =>
    intro i h tk c acc as hk hi' hst hkeep hS hacc hal hG
    have hin : i = n := by omega
    refine codeAny_builtin PySem.F.entry_extend_loop ?_
    rw [Around.under_plainId PySem.F.plain_extend_loop _]
    show wpAny _ A.in1 (pyNext (.ref z) >>= _) _ _ _
    refine wpAny_bind (zl_stop (s := { s with heap := h, toks := tk }) (A := A.in1) hh D hst ?_ fun h' he => ?_)
    · rcases Nat.le_total xs.size ys.size with q | q
      · exact .inl (Array.getElem?_eq_none (by omega))
      · exact .inr (Array.getElem?_eq_none (by omega))
    refine wpAny_pure (hR h' tk acc c as (fun b o h1 h2 h3 h4 h5 e => he b o h2 h3 h4 h5 (hkeep b o h1 h2 h3 h4 h5 e)) (he S _ (ne z (by simp)).symm (ne TO (by simp)).symm (ne i1 (by simp)).symm (ne i2 (by simp)).symm hS) (by omega) ⟨hG.rise, hG.above, fun j a hj => ?_⟩ hacc)
    obtain ⟨x, y, e1, e2, e3⟩ := hG.pairs j a hj
    obtain ⟨n1, n2, n3, n4⟩ := hi (hG.above a (List.mem_of_getElem? hj))
    exact ⟨x, y, e1, e2, he a _ n1 n2 n3 n4 e3⟩
  | succ k ih =>
    intro i h tk c acc as hk hi' hst hkeep hS hacc hal hG
    have hlt : i < n := by omega
    have hsz : acc.size = i := by rw [← Array.length_toList, hacc, List.length_map, hal]
    have hSl : S < h.objs.size := Heap.lt_size hS
    have lx : i < xs.size := by omega
    have ly : i < ys.size := by omega
    refine codeAny_builtin PySem.F.entry_extend_loop ?_
    rw [Around.under_plainId PySem.F.plain_extend_loop _]
    show wpAny _ A.in1 (pyNext (.ref z) >>= _) _ _ _
    refine wpAny_bind (zl_step (s := { s with heap := h, toks := tk }) (S := S) D lo hSl hst (Array.getElem?_eq_getElem lx) (Array.getElem?_eq_getElem ly) fun h' hst' ht hz' hkp => ?_)
    dsimp only at ht hz' hkp ⊢
    have hS' := hkp S _ (ne z (by simp)).symm (ne TO (by simp)).symm (ne i1 (by simp)).symm (ne i2 (by simp)).symm hS
    have up : ∀ b o, b ≠ S → h'.get? b = some o → (h'.update S (Obj.mapSeq (·.push (Value.ref h.objs.size)))).get? b = some o := fun b o hb e => (Heap.get?_update_other _ _ (Ne.symm hb)).trans e
    show wpAny _ A.in1 (updateSeq S (·.push (Value.ref h.objs.size)) >>= _) _ _ _
    refine wpAny_bind ?_
    refine wpAny_updateSeq hS' rfl (wpAny_pure ⟨plainId_quiet PySem.F.plain_extend_loop _, ih (i + 1) _ tk _ (acc.push (Value.ref h.objs.size)) (as ++ [h.objs.size]) (by omega) hlt (hst'.keep up lo)
      (fun b o h1 h2 h3 h4 h5 e => up b o h1 (hkp b o h2 h3 h4 h5 (hkeep b o h1 h2 h3 h4 h5 e))) (Heap.get?_update_self _ hS' rfl) (by rw [Array.toList_push, hacc, List.map_append]; rfl) (by rw [List.length_append, hal]; rfl) ⟨?_, ?_, ?_⟩⟩) (by rw [hsz]; omega) (by show (acc.push (Value.ref h.objs.size)).size ≤ sizeLine + 1; rw [Array.size_push, hsz]; omega)
    · refine List.pairwise_append.mpr ⟨hG.rise, List.pairwise_singleton _ _, fun a ha b hb => ?_⟩
      rw [List.mem_singleton.mp hb]
      obtain ⟨j, hj⟩ := List.getElem?_of_mem ha
      obtain ⟨x, y, e1, e2, e3⟩ := hG.pairs j a hj
      exact Heap.lt_size e3
    · intro a ha
      rcases List.mem_append.mp ha with ha | ha
      · exact hG.above a ha
      · rw [List.mem_singleton.mp ha]; exact hSl
    · intro j b hj
      rcases Nat.lt_trichotomy j as.length with h1 | h1 | h1
      · rw [List.getElem?_append_left h1] at hj
        obtain ⟨x, y, e1, e2, e3⟩ := hG.pairs j b hj
        have hb := hG.above b (List.mem_of_getElem? hj)
        obtain ⟨n1, n2, n3, n4⟩ := hi hb
        exact ⟨x, y, e1, e2, up b _ (Nat.ne_of_gt hb) (hkp b _ n1 n2 n3 n4 e3)⟩
      · subst h1
        have hb : h.objs.size = b := by simpa using hj
        subst hb
        exact ⟨xs[i], ys[i], by rw [hal]; exact Array.getElem?_eq_getElem lx, by rw [hal]; exact Array.getElem?_eq_getElem ly, up _ _ (Nat.ne_of_gt hSl) ht⟩
      · have hnone : (as ++ [h.objs.size])[j]? = none := List.getElem?_eq_none (by rw [List.length_append, List.length_singleton]; omega)
        rw [hnone] at hj; cases hj
theorem zl_len_none : typeLookup (.type "zip") "__len__" = pure none := by rw [typeLookup_type, builtinLookup_eq_fast]; kernel_rfl
theorem zl_hint_none : typeLookup (.type "zip") "__length_hint__" = pure none := by rw [typeLookup_type, builtinLookup_eq_fast]; kernel_rfl
theorem zl_hint (hT : s.TypeIs (.ref z) "zip") {Q : Bool → Shared → Prop} (h : Q true s) : wpAny (model prog w) A (Builtin.List.listLengthHint (.ref z)) Q E s := by
  unfold Builtin.List.listLengthHint
  refine wpAny_bind (wpAny_specialOf hT zl_len_none ?_)
  show wpAny _ _ (specialOf (Value.ref z) (Str.ofString "__length_hint__") >>= _) _ _ _
  exact wpAny_bind (wpAny_specialOf hT zl_hint_none (wpAny_pure h))
theorem zl_extend {n : Nat} (hh : A.handled = none) (D : ZipApart z TI TO i1 i2 l1 l2) (lo : ∀ c ∈ [z, TI, TO, i1, i2, l1, l2], c < S) (hn : n = min xs.size ys.size) (hl : n ≤ sizeLine) (res : Value) (c₀ : Nat) (hz : IsZip s.heap z TI TO .none)
    (st : ∀ h', (∀ b o, b ≠ S → s.heap.get? b = some o → h'.get? b = some o) → ZSt h' z TI TO i1 i2 l1 l2 S xs ys 0) (hS : s.heap.get? S = some { cls := .type "list", data := .seq #[] c₀ })
    (hR : ∀ h' tk acc c as, (∀ b o, b ≠ S → b ≠ z → b ≠ TO → b ≠ i1 → b ≠ i2 → s.heap.get? b = some o → h'.get? b = some o) → h'.get? S = some { cls := .type "list", dict := none, data := .seq acc c, slots := #[] } → as.length = n → ZG xs ys S h' as →
      acc.toList = as.map Value.ref → R (.ok (.ret res)) { s with heap := h', toks := tk }) :
    wpAny (model prog w) A.in1 (Builtin.List.listExtendWith (.ref S) (.ref z) res)
      (fun fin s' => match fin with | .done f => R (.ok f) s' | .again c' => c'.quiet = true ∧ codeAny (model prog w) A c' R s') (fun e s' => R (.error e) s') s := by
  have hSz : S ≠ z := Nat.ne_of_gt (lo z (by simp))
  have key : ∀ (h : Heap) (c₁ tk : Nat), (∀ b o, b ≠ S → s.heap.get? b = some o → h.get? b = some o) →
      h.get? S = some { cls := .type "list", data := .seq #[] c₁ } → codeAny (model prog w) A (.builtin "list.extend.loop" ⟨[.ref S, .ref z, res], []⟩) R { s with heap := h, toks := tk } := by
    intro h c₁ tk hk hS₁
    exact zl_loop (n := n) (s := s) (h₁ := s.heap) hh D lo hn hl res hR n 0 h tk c₁ #[] [] (Nat.sub_zero _) (Nat.zero_le _) (st h hk) (fun b o hb _ _ _ _ e => hk b o hb e) hS₁ rfl rfl
      ⟨List.Pairwise.nil, (fun _ ha => nomatch ha), (fun j a hj => by simp at hj)⟩
  have hT : s.TypeIs (.ref z) "zip" := ⟨_, hz, rfl⟩
  unfold Builtin.List.listExtendWith
  refine wpAny_bind (wpAny_typeOf (T := "zip") hT ?_)
  have h1 : Builtin.List.listSameRef (.ref S) (.ref z) = false := by simp [Builtin.List.listSameRef, hSz]
  have h2 : (Value.type "zip" == Value.type "list") = false := by decide
  have h3 : (Value.type "zip" == Value.type "tuple") = false := by decide
  simp only [h1, h2, h3, Bool.or_false, Bool.false_eq_true, if_false]
  refine wpAny_bind (wpAny_pyIter_zip hz ?_)
  refine wpAny_bind (wpAny_holding (zl_hint hT ?_))
  refine wpAny_ite_split (fun _ => ?_) (fun _ => wpAny_pure ⟨plainId_quiet PySem.F.plain_extend_loop _, key _ c₀ _ (fun b o _ e => e) hS⟩)
  refine wpAny_bind (wpAny_rule ?_)
  refine wpAny_bind ?_
  show wpAny _ _ (updateSeq S (·.push .none) >>= fun _ => updateSeq S (·.pop)) _ _ _
  refine wpAny_bind (wpAny_updateSeq hS rfl ?_)
  have hS₂ := Heap.get?_update_self (Obj.mapSeq (·.push Value.none)) hS rfl
  refine wpAny_updateSeq (hz := by seq_fits) hS₂ rfl ?_
  have hS₃ := Heap.get?_update_self (Obj.mapSeq (·.pop)) hS₂ rfl
  refine wpAny_pure ⟨plainId_quiet PySem.F.plain_extend_loop _, key _ _ _ (fun b o hb e => ?_) hS₃⟩
  exact (Heap.get?_update_other _ _ (Ne.symm hb)).trans ((Heap.get?_update_other _ _ (Ne.symm hb)).trans e)
theorem zl_init {n : Nat} (hh : A.handled = none) (D : ZipApart z TI TO i1 i2 l1 l2) (lo : ∀ c ∈ [z, TI, TO, i1, i2, l1, l2], c < S) (hn : n = min xs.size ys.size) (hl : n ≤ sizeLine) (hz : IsZip s.heap z TI TO .none) (hS : s.heap.get? S = some { cls := .type "list", data := .seq #[] })
    (st : ∀ h', (∀ b o, b ≠ S → s.heap.get? b = some o → h'.get? b = some o) → ZSt h' z TI TO i1 i2 l1 l2 S xs ys 0)
    (hR : ∀ h' tk acc c as, (∀ b o, b ≠ S → b ≠ z → b ≠ TO → b ≠ i1 → b ≠ i2 → s.heap.get? b = some o → h'.get? b = some o) → h'.get? S = some { cls := .type "list", dict := none, data := .seq acc c, slots := #[] } → as.length = n → ZG xs ys S h' as →
      acc.toList = as.map Value.ref → R (.ok (.ret .none)) { s with heap := h', toks := tk }) :
    wpAny (model prog w) A.in1 (Builtin.«list.__init__» ⟨[.ref S, .ref z], []⟩)
      (fun fin s' => match fin with | .done f => R (.ok f) s' | .again c' => c'.quiet = true ∧ codeAny (model prog w) A c' R s') (fun e s' => R (.error e) s') s := by
  show wpAny _ _ (do let old ← Builtin.List.listItems (.ref S); Builtin.List.listUpdate (.ref S) (fun _ => #[]); letGo old.toList.reverse; Builtin.List.listExtendWith (.ref S) (.ref z) .none) _ _ s
  refine wpAny_bind ?_
  unfold Builtin.List.listItems
  refine wpAny_bind (wpAny_seqItems hS rfl (wpAny_pure ?_))
  show wpAny _ _ (updateSeq S (fun _ => #[]) >>= fun _ => letGo (#[] : Array Value).toList.reverse >>= fun _ => Builtin.List.listExtendWith (.ref S) (.ref z) .none) _ _ s
  refine wpAny_bind (wpAny_updateSeq hS rfl ?_)
  have hS₂ := Heap.get?_update_self (Obj.mapSeq (fun _ => (#[] : Array Value))) hS rfl
  have oth : ∀ b o, b ≠ S → s.heap.get? b = some o → (s.heap.update S (Obj.mapSeq (fun _ => (#[] : Array Value)))).get? b = some o :=
    fun b o hb e => (Heap.get?_update_other _ _ (Ne.symm hb)).trans e
  refine wpAny_bind (wpAny_letGo ?_)
  refine zl_extend (n := n) hh D lo hn hl .none _ (oth z _ (Nat.ne_of_lt (lo z (by simp))) hz) (fun h' hk => st h' fun b o hb e => hk b o hb (oth b o hb e)) hS₂ (fun h' tk acc c as hk hS' hl hG hacc => ?_)
  exact hR h' tk acc c as (fun b o hb n1 n2 n3 n4 e => hk b o hb n1 n2 n3 n4 (oth b o hb e)) hS' hl hG hacc
theorem zl_call {n : Nat} {Q : Value → Shared → Prop} (hh : A.handled = none) (D : ZipApart z TI TO i1 i2 l1 l2) (lo : ∀ c ∈ [z, TI, TO, i1, i2, l1, l2], c < s.heap.objs.size) (hn : n = min xs.size ys.size) (hl : n ≤ sizeLine)
    (hz : IsZip s.heap z TI TO .none) (hTI : IsPair s.heap TI (.ref i1) (.ref i2)) (hTO : IsPair s.heap TO .none .none) (h1 : s.heap.IsTupleIter i1 l1 0) (h2 : s.heap.IsTupleIter i2 l2 0) (hl1 : s.heap.IsTuple l1 xs) (hl2 : s.heap.IsTuple l2 ys)
    (hQ : ∀ h' tk acc c as, (∀ b o, b ≠ z → b ≠ TO → b ≠ i1 → b ≠ i2 → s.heap.get? b = some o → h'.get? b = some o) → h'.get? s.heap.objs.size = some { cls := .type "list", dict := none, data := .seq acc c, slots := #[] } → as.length = n → ZG xs ys s.heap.objs.size h' as →
      acc.toList = as.map Value.ref → Q (.ref s.heap.objs.size) { s with heap := h', toks := tk }) :
    wpAny (model prog w) A (call (.type "list") [.ref z]) Q E s := by
  refine callType_codes (Q₁ := fun obj s₁ => obj = .ref s.heap.objs.size ∧ s₁ = { s with heap := s.heap.push { cls := .type "list", data := .seq #[] } }) PySem.F.called_list (PySem.F.typeCall_list_1 _) PySem.F.entry_list_init
    (code_list_new _ ⟨rfl, rfl⟩) fun obj s₁ h₁ => ?_
  obtain ⟨rfl, rfl⟩ := h₁
  have hS : (s.heap.push { cls := .type "list", data := .seq #[] }).get? s.heap.objs.size = some { cls := .type "list", data := .seq #[] } := Heap.get?_push_size _ rfl
  have st0 : ZSt s.heap z TI TO i1 i2 l1 l2 s.heap.objs.size xs ys 0 := ⟨hTI, h1, h2, hl1, hl2, .inl ⟨hz, _, _, hTO⟩⟩
  refine ⟨⟨_, hS, rfl⟩, PySem.F.args_list_init_2 _ _, zl_init (n := n) (A := A.in1) hh D lo hn hl (Heap.get?_push_of_some _ hz) hS (fun h' hk => st0.keep (fun b o hb e => hk b o hb (Heap.get?_push_of_some _ e)) lo) (fun h' tk acc c as hk hS' hl hG hacc => ?_)⟩
  exact ⟨rfl, hQ h' tk acc c as (fun b o n1 n2 n3 n4 e => hk b o (Nat.ne_of_lt (Heap.lt_size e)) n1 n2 n3 n4 (Heap.get?_push_of_some _ e)) hS' hl hG hacc⟩
end
end Z

set_option Elab.async false
set_option linter.all false
set_option maxRecDepth 100000
set_option maxHeartbeats 1000000
namespace Z
open PySem PySem.Spec PyProof.Rows L2 RZ
theorem zipLook : ∀ {ps : List Addr} {ls : List (List V)} {i : Nat} {p : Addr} {l : List V}, ps.Pairwise (· < ·) → ps[i]? = some p → ls[i]? = some l → (ps.zip ls).lookup p = some l
  | [], _, _, _, _, _, h, _ => by simp at h
  | _ :: _, [], _, _, _, _, _, h => by simp at h
  | q :: ps, m :: ls, 0, p, l, _, h, h2 => by
    simp at h h2
    subst h h2
    simp [List.lookup]
  | q :: ps, m :: ls, i + 1, p, l, n, h, h2 => by
    have h' : ps[i]? = some p := by simpa using h
    have h2' : ls[i]? = some l := by simpa using h2
    have lt : q < p := (List.pairwise_cons.mp n).1 p (List.mem_of_getElem? h')
    have e : (p == q) = false := by simpa using Nat.ne_of_gt lt
    rw [List.zip_cons_cons, List.lookup, e]
    exact zipLook (List.pairwise_cons.mp n).2 h' h2'
theorem zipLookR : ∀ {ps : List Addr} {ls : List (List V)} {b : Addr} {l : List V}, (ps.zip ls).lookup b = some l → ∃ i : Nat, ps[i]? = some b ∧ ls[i]? = some l
  | [], _, _, _, h => by simp [List.lookup] at h
  | _ :: _, [], _, _, h => by simp [List.lookup] at h
  | q :: ps, m :: ls, b, l, h => by
    rw [List.zip_cons_cons, List.lookup] at h
    by_cases e : b = q
    · subst e
      simp at h
      exact ⟨0, by simp, by simp [h]⟩
    · have e' : (b == q) = false := by simpa using e
      rw [e'] at h
      obtain ⟨i, h1, h2⟩ := zipLookR h
      exact ⟨i + 1, by simpa using h1, by simpa using h2⟩
def hpZip (H : Hp) (q : Addr) (ps : List Addr) (ls : List (List V)) : Hp := fun b => if b = q then some (.lst (ps.map V.ref)) else match (ps.zip ls).lookup b with | some l => some (.tup l) | none => H b
/-- list(zip(x, y)), tuples -/
def tLZip (K : PySem.W.Frag) (ta : TA) : TE := fun σ H Q => ta σ H fun vs H1 => ∃ a b xs ys, vs = [.ref a, .ref b] ∧ SqT K H1 a xs ∧ SqT K H1 b ys ∧ ∀ (q : Addr) (ps : List Addr) (H2 : Hp), H1 q = none → (∀ c o, H1 c = some o → H2 c = some o) → H2 q = some (.lst (ps.map V.ref)) → ps.length = min xs.length ys.length →
  (∀ (i : Nat) (p : Addr), ps[i]? = some p → ∃ x y, xs[i]? = some x ∧ ys[i]? = some y ∧ H2 p = some (.tup [x, y])) → Q (.ref q) H2
section
variable {X : Cx} {e e2 : Expr} {ta : TA} {p1 p2 pos pos2 : Pos}
theorem pe_lzip {K : PySem.W.Frag} (hK : X.K = K) (hc : X.calm = true) (hg1 : Gl X "list") (hm1 : X.mg "list" = none) (hg : Gl X "zip") (hm : X.mg "zip" = none) (ha : PA X [e, e2] ta)
    (hs : starEach [e, e2] X.env = (false, eval e X.env) :: starEach [e2] X.env := by rfl) (hpl : (backTo pos2 (starEach [e2] X.env)).any (·.1) = false := by rfl)
    (hs1 : starEach [.Call (.Name "zip" p2) [e, e2] [] pos2] X.env = [(false, eval (.Call (.Name "zip" p2) [e, e2] [] pos2) X.env)] := by rfl) :
    PE X (.Call (.Name "list" p1) [.Call (.Name "zip" p2) [e, e2] [] pos2] [] pos) (tLZip K ta) := by
  subst hK
  refine ⟨fun pins s σ H Q I h => ?_⟩
  refine Call_ (ld_blt (u := .type "list") I hg1 hm1 (by decide +kernel) (PyProof.Rows.callWith_type1 (T := "list") ?_ hs1 (by rfl)))
  rw [hs1]
  show wpAny _ _ (spliced ((false, eval (.Call (.Name "zip" p2) [e, e2] [] pos2) X.env) :: backTo pos [])) _ _ _
  refine Calls.spliced_cons ?_
  refine Call_ (ld_blt I hg hm PyProof.Rows.boot_zip (PyProof.Rows.callWith_type1 (thn (ha.run pos2 pins _ σ H _ I h) fun us s1 ⟨vs, H1, I1, r1, q1⟩ => ?_) hs hpl))
  obtain ⟨a, b, xs, ys, ex, hqx, hqy, q⟩ := q1
  subst ex
  cases r1 with
  | cons r rr =>
    cases rr with
    | cons r' rr =>
      cases rr
      cases r
      cases r'
      obtain ⟨its, rv, p1, z1⟩ := I1.tuple hqx
      obtain ⟨its2, rv2, p2, z2⟩ := I1.tuple hqy
      obtain ⟨o1, ho1, _⟩ := id p1
      obtain ⟨o2, ho2, _⟩ := id p2
      have la := Heap.lt_size ho1
      have lb := Heap.lt_size ho2
      refine call_zipT (show s1.heap.IsTuple a its.toArray from p1) (show s1.heap.IsTuple b its2.toArray from p2) fun h' hz hTI hTO h1 h2 hsz hk => ?_
      refine Calls.spliced_nil ?_
      show wpAny _ _ (call (.type "list") [.ref (s1.heap.objs.size + 4)]) _ _ _
      have lo : ∀ c ∈ [s1.heap.objs.size + 4, s1.heap.objs.size + 2, s1.heap.objs.size + 3, s1.heap.objs.size, s1.heap.objs.size + 1, a, b], c < h'.objs.size := by
        intro c hc
        rw [hsz]
        simp at hc
        rcases hc with rfl | rfl | rfl | rfl | rfl | rfl | rfl
        · exact Nat.lt_succ_self _
        · exact Nat.add_lt_add_left (by decide) _
        · exact Nat.add_lt_add_left (by decide) _
        · exact Nat.lt_add_of_pos_right (by decide)
        · exact Nat.add_lt_add_left (by decide) _
        · exact Nat.lt_of_lt_of_le la (Nat.le_add_right _ _)
        · exact Nat.lt_of_lt_of_le lb (Nat.le_add_right _ _)
      have l1 := rv.length
      have l2 := rv2.length
      have hmin : min xs.length ys.length = min its.toArray.size its2.toArray.size := by rw [List.size_toArray, List.size_toArray, l1, l2]
      refine zl_call (s := { s1 with heap := h' }) (n := min xs.length ys.length) (I1.ok.hd hc) (PySem.W.ktu_apart s1.heap.objs.size a b la lb) lo hmin (by omega) hz hTI hTO h1 h2
        (let ⟨o, ho, x⟩ := p1; ⟨o, hk _ _ ho, x⟩) (let ⟨o, ho, x⟩ := p2; ⟨o, hk _ _ ho, x⟩) fun h2 tk acc c as hk2 hL hla hG hacc => ?_
      have lt5 : s1.heap.objs.size < h'.objs.size := by rw [hsz]; exact Nat.lt_add_of_pos_right (by decide)
      have kk : ∀ b o, s1.heap.get? b = some o → h2.get? b = some o := fun b o e => by
        have hb := Heap.lt_size e
        exact hk2 b o (Nat.ne_of_lt (Nat.lt_of_lt_of_le hb (Nat.le_add_right _ _))) (Nat.ne_of_lt (Nat.lt_of_lt_of_le hb (Nat.le_add_right _ _))) (Nat.ne_of_lt hb) (Nat.ne_of_lt (Nat.lt_of_lt_of_le hb (Nat.le_add_right _ _))) (hk b o e)
      have frs : ∀ c, h'.objs.size ≤ c → H1 c = none := fun c hc => I1.hok.fresh (Nat.le_trans (Nat.le_of_lt lt5) hc)
      have oldlt : ∀ b o, H1 b = some o → b < h'.objs.size := fun b o e => Nat.lt_of_not_le fun hc => by rw [frs b hc] at e; cases e
      have nolook : ∀ b, b < h'.objs.size → (as.zip (List.zipWith (fun x y => [x, y]) xs ys)).lookup b = none := fun b hb => by
        cases hl : (as.zip (List.zipWith (fun x y => [x, y]) xs ys)).lookup b with
        | none => rfl
        | some l =>
          obtain ⟨i, h1, _⟩ := zipLookR hl
          have := hG.above b (List.mem_of_getElem? h1)
          exact absurd (Nat.lt_trans hb this) (Nat.lt_irrefl _)
      have eold : ∀ b, b < h'.objs.size → hpZip H1 h'.objs.size as (List.zipWith (fun x y => [x, y]) xs ys) b = H1 b := fun b hb => by
        unfold hpZip
        rw [if_neg (Nat.ne_of_lt hb), nolook b hb]
      have lsl : (List.zipWith (fun x y => [x, y]) xs ys).length = as.length := by rw [List.length_zipWith, hla]
      have etup : ∀ (i : Nat) (p : Addr) (l : List V), as[i]? = some p → (List.zipWith (fun x y => [x, y]) xs ys)[i]? = some l → hpZip H1 h'.objs.size as (List.zipWith (fun x y => [x, y]) xs ys) p = some (.tup l) := fun i p l hp hl => by
        unfold hpZip
        rw [if_neg (Nat.ne_of_gt (hG.above p (List.mem_of_getElem? hp))), zipLook hG.rise hp hl]
      have Un1 : Un X.fs [] H1 (hpZip H1 h'.objs.size as (List.zipWith (fun x y => [x, y]) xs ys)) s1.heap h2 := {
        keep := fun b o q n _ _ => kk b o q
        slot := fun b o q n _ _ => ⟨o.slots, kk b o q⟩
        free := fun b o q n _ => by rw [eold b (Nat.lt_trans (Heap.lt_size q) lt5)]; exact n
        there := fun b o q _ => ⟨o, kk b o q⟩
        tups := fun b xs q => by rw [eold b (oldlt b _ q)]; exact q
        frzs := fun b o v q => by rw [eold b (oldlt b _ q)]; exact q
        tbls := fun b ps q => ⟨#[], by rw [eold b (oldlt b _ q), q]; simp⟩ }
      have J : L2.Inv X pins σ (hpZip H1 h'.objs.size as (List.zipWith (fun x y => [x, y]) xs ys)) { s1 with heap := h2, toks := tk } := I1.un (t' := tk) Un1 fun b o q => by
        by_cases hbq : b = h'.objs.size
        · subst hbq
          have e : hpZip H1 h'.objs.size as (List.zipWith (fun x y => [x, y]) xs ys) h'.objs.size = some (.lst (as.map V.ref)) := by
            unfold hpZip
            rw [if_pos rfl]
          rw [e] at q
          cases q
          have hv : ∀ ps : List Addr, Vals (ps.map V.ref) (ps.map Value.ref) := by
            intro ps
            induction ps with
            | nil => exact .nil
            | cons p ps ih => exact .cons rfl ih
          have el : acc = (as.map Value.ref).toArray := by rw [← hacc]
          refine ⟨by rw [List.length_map]; omega, _, c, hv as, ?_⟩
          rw [← el]
          exact hL
        · cases hlk : (as.zip (List.zipWith (fun x y => [x, y]) xs ys)).lookup b with
          | some l =>
            obtain ⟨i, hi, hli⟩ := zipLookR hlk
            rw [etup i b l hi hli] at q
            cases q
            obtain ⟨u, v, hu, hv, hp⟩ := hG.pairs i b hi
            rw [List.getElem?_zipWith] at hli
            cases hxi : xs[i]? with
            | none => rw [hxi] at hli; simp at hli
            | some x =>
              cases hyi : ys[i]? with
              | none => rw [hxi, hyi] at hli; simp at hli
              | some y =>
                rw [hxi, hyi] at hli
                have hli : [x, y] = l := by simpa using hli
                subst hli
                obtain ⟨u', hu', ru⟩ := rv.get hxi
                obtain ⟨v', hv', rv'⟩ := rv2.get hyi
                have e1 : u = u' := by
                  have : its[i]? = some u := by simpa using hu
                  rw [this] at hu'
                  exact Option.some.inj hu'
                have e2 : v = v' := by
                  have : its2[i]? = some v := by simpa using hv
                  rw [this] at hv'
                  exact Option.some.inj hv'
                subst e1 e2
                exact ⟨by show 2 ≤ sizeLine; decide, [u, v], .cons ru (.cons rv' .nil), ⟨_, hp, rfl, _, rfl⟩⟩
          | none =>
            have e : hpZip H1 h'.objs.size as (List.zipWith (fun x y => [x, y]) xs ys) b = H1 b := by
              unfold hpZip
              rw [if_neg hbq, hlk]
            rw [e] at q
            exact (I1.hok b o q).stay (fun c v hc z => kk c v z) (fun c hc => by rw [eold c (oldlt c _ hc)]; exact hc) (fun c xs hc => by rw [eold c (oldlt c _ hc)]; exact hc)
      refine ⟨.ref h'.objs.size, _, J, rfl, q _ as _ (frs _ (Nat.le_refl _)) (fun c o e => by rw [eold c (oldlt c o e)]; exact e) ?_ hla fun i p hp => ?_⟩
      · unfold hpZip
        rw [if_pos rfl]
      · have li : i < as.length := (List.getElem?_eq_some_iff.mp hp).1
        have lx : i < xs.length := by omega
        have ly : i < ys.length := by omega
        refine ⟨xs[i], ys[i], List.getElem?_eq_getElem lx, List.getElem?_eq_getElem ly, etup i p _ hp ?_⟩
        rw [List.getElem?_zipWith, List.getElem?_eq_getElem lx, List.getElem?_eq_getElem ly]
end
end Z
namespace Z
open PySem L2
section
variable {K : PySem.W.Frag} {σ : L2.St} {H : Hp} {Q : VK} {ta : TA} {te : TE}
/-! ### read -/
def rLZip (K : PySem.W.Frag) (vs : List V) (H1 : Hp) (Q : VK) : Prop := ∃ a b xs ys, vs = [.ref a, .ref b] ∧ SqT K H1 a xs ∧ SqT K H1 b ys ∧ ∀ (q : Addr) (ps : List Addr) (H2 : Hp), H1 q = none → (∀ c o, H1 c = some o → H2 c = some o) → H2 q = some (.lst (ps.map V.ref)) → ps.length = min xs.length ys.length →
  (∀ (i : Nat) (p : Addr), ps[i]? = some p → ∃ x y, xs[i]? = some x ∧ ys[i]? = some y ∧ H2 p = some (.tup [x, y])) → Q (.ref q) H2
theorem i_lzip (h : ta σ H (fun vs H1 => rLZip K vs H1 Q)) : tLZip K ta σ H Q := h
def rMkV (C : Addr) (sp : Sp) (vs : List V) (H1 : Hp) (Q : VK) : Prop := vs.length ≤ 1000 ∧ ∀ a, H1 a = none → sp (.ref a :: (vs ++ [])) (upd H1 a (exo a C none)) (fun v H2 => v = .non ∧ Q (.ref a) H2) (fun _ _ _ => False)
theorem i_mkV {C : Addr} {sp : Sp} (h : ta σ H (fun vs H1 => rMkV C sp vs H1 Q)) : tMkV C sp ta σ H Q := h
def rFmtSO (C : Addr) (sp : Sp) (x : V) (H1 : Hp) (Q : VK) : Prop := ∃ a dx fs, x = .ref a ∧ H1 a = some (.ins C dx fs) ∧ sp [.ref a] H1 (fun v H' => ∃ z, v = .str z ∧ z.length ≤ 100000 ∧ Q (.str z) H') (fun _ _ _ => False)
theorem i_fmtSO {C : Addr} {sp : Sp} (h : te σ H (fun x H1 => rFmtSO C sp x H1 Q)) : tFmtSO C sp te σ H Q := h
theorem i_mulLI {a : Addr} {v : V} {k : Nat} (e : H a = some (.lst [v])) (hk : k ≤ 1000) (h : ∀ p H', H p = none → Same H H' → H' p = some (.lst (List.replicate k v)) → Q (.ref p) H') : rMulLI (.ref a) (.int (k : Nat)) H Q :=
  ⟨a, v, k, rfl, rfl, e, hk, fun p hp => h p _ hp (fun b o eb => by rw [upd_ne (ne_of_none eb hp)]; exact eb) upd_same⟩
end
end Z
namespace Z
open PySem PySem.Spec PyProof.Rows L2
section
variable {K : PySem.W.Frag} {σ : L2.St} {H : Hp} {g : TG} {tt : TT} {te : TE} {tr : TA} {Q : VK}
def rLcR1 (g : TG) (tt : TT) (te : TE) (vs : List Nat) (σ : L2.St) (Q : VK) (ws : List V) (H1 : Hp) : Prop := ∃ j : Int, ws = [.int j] ∧ -(2 ^ 62) ≤ j ∧ j < 2 ^ 62 ∧ ∀ D, H1 D = none → ∃ W : Nat → Nat → Hp → Prop, (∃ m, W 0 m (upd H1 D (.lst []))) ∧ ∀ k m H, W k m H →
  ((Itr 0 j.toNat).stop k H ∧ Q (.ref D) H) ∨ ((Itr 0 j.toNat).go k H ∧ ∃ Nx : Hp → Prop, (∀ H', Nx H' → ∃ m', m' < m ∧ W (k + 1) m' H') ∧ ∀ x H', (Itr 0 j.toNat).yld k H x H' → g x (wipe σ vs) H' fun σ2 H2 => wipe σ2 vs = wipe σ vs ∧ tt σ2 H2 fun b H3 =>
    if b = true then te σ2 H3 fun y H4 => ∃ acc, H4 D = some (.lst acc) ∧ acc.length < sizeLine ∧ Nx (upd H4 D (.lst (acc ++ [y]))) else Nx H3)
theorem i_lcR10 {vs : List Nat} (h : tr σ H (fun ws H1 => rLcR1 g tt te vs σ Q ws H1)) : tLc (iRng1 tr) g tt te vs σ H Q := h
theorem i_lcR1 {vs : List Nat} {n : Nat} {j : Int} (hj : j = (n : Int)) (hn : n < 100000) (Pv : Nat → List V → Hp → Prop) (h0 : ∀ D H', H D = none → Same H H' → H' D = some (.lst []) → (∀ b, b ≠ D → H' b = H b) → Pv 0 [] H')
    (hs : ∀ k D ys H1, H D = none → k < n → H1 D = some (.lst ys) → Pv k ys H1 → g (.int ((0 : Int) + (k : Nat))) (wipe σ vs) H1 fun σ2 H2 => wipe σ2 vs = wipe σ vs ∧ tt σ2 H2 fun b H3 => if b = true then te σ2 H3 fun y H4 => rLcE D Pv k y H4 else LcS D Pv (k + 1) H3)
    (hd : ∀ D ys H1, H D = none → H1 D = some (.lst ys) → Pv n ys H1 → Q (.ref D) H1) : rLcR1 g tt te vs σ Q [.int j] H := by
  refine ⟨j, rfl, by omega, by omega, fun D hD => ?_⟩
  have e : j.toNat = n := by omega
  rw [e]
  refine lc_range (LcS D Pv) ⟨[], upd_same, h0 D _ hD (fun b o e => by rw [upd_ne (ne_of_none e hD)]; exact e) upd_same (fun b hb => upd_ne hb)⟩ ?_ ?_
  · rintro k H' hk ⟨ys, hD', p⟩
    exact hs k D ys H' hD hk hD' p
  · rintro H' ⟨ys, hD', p⟩
    exact hd D ys H' hD hD' p
end
end Z

set_option Elab.async false
set_option linter.all false
set_option maxRecDepth 100000
set_option maxHeartbeats 1000000
/-! a, *rest = xs -/
namespace Z
open PySem PySem.Spec PyProof.Rows L2
/-- a walk from a place on -/
theorem walksFrom {prog : Program} {w : World} {A : Around} {I : Addr} {fp wr : List Addr} {G : Array GenState → Array GenState → Prop} {n : Nat} {P : Nat → Value → Prop} {St : Nat → Shared → Prop} (W : WalksS prog w A I fp wr G n P St) (k : Nat) (hk : k ≤ n) :
    WalksS prog w A I fp wr G (n - k) (fun i => P (i + k)) (fun i => St (i + k)) where
  sub := W.sub
  grefl := W.grefl
  gtrans := W.gtrans
  frame := fun i => W.frame (i + k)
  item := fun i s Q E hi st hq => W.item (i + k) s Q E (by omega) st fun v s' p st' m => hq v s' p (Eq.mp (congrArg (fun z => St z s') (show i + k + 1 = i + 1 + k by omega)) st') m
  done := fun s Q E st hq => W.done s Q E (Eq.mp (congrArg (fun z => St z s) (show n - k + k = n by omega)) st) hq
  self := fun i => W.self (i + k)
section
variable {prog : Program} {w : World} {A : Around} {E : Value → Shared → Prop} {s : Shared} {l : Addr} {items : Array Value}
theorem starItems {Q : List Value → Shared → Prop} {x : Value} {rest : List Value} (hh : A.handled = none) (hl : s.heap.IsList l items) (hi : items.toList = x :: rest) (hz : items.size ≤ sizeLine)
    (hQ : ∀ h' tk q, (∀ b o, s.heap.get? b = some o → h'.get? b = some o) → s.heap.get? q = none → (∃ c, h'.get? q = some ({ cls := .type "list", data := .seq rest.toArray c } : Obj)) → Q [x, .ref q] { s with heap := h', toks := tk }) :
    wpAny (model prog w) A (unpackItems (.ref l) 2 (some 1)) Q E s := by
  have hls : l < s.heap.objs.size := by obtain ⟨o, ho, _⟩ := hl; exact Heap.lt_size ho
  have hlt : l ≠ s.heap.objs.size := Nat.ne_of_lt hls
  have hsz : items.size = rest.length + 1 := by rw [← Array.length_toList, hi]; rfl
  unfold unpackItems
  refine wpAny_bind ?_
  unfold notIterableAtAll
  refine wpAny_bind (wpAny_specialOf hl.typeIs PySem.F.slot_list_iter.lookup ?_)
  refine wpAny_pure ?_
  simp only [Bool.false_eq_true, if_false]
  refine wpAny_bind (wpAny_holding (wpAny_pyIter_list hl ?_))
  refine wpAny_bind (wpAny_holding (PySem.W.kun_draw hlt 1 0 _ _ ⟨_, Heap.get?_push_size _ rfl, rfl, rfl⟩ (hl.push _) (by omega) fun h₁ hit₁ hs₁ => ?_))
  have hall : (items.toList.drop 0).take 1 = [x] := by rw [hi]; rfl
  rw [hall]
  rw [if_neg (by simp)]
  have hl₁ : h₁.IsList l items := (hl.push _).extBut hs₁.extBut hlt
  have hsz1 : h₁.objs.size = s.heap.objs.size + 1 := by rw [hs₁.1]; exact Heap.size_push _ _
  refine wpAny_bind (wpAny_holding ?_)
  have W := walksFrom (Walks.list (prog := prog) (w := w) (A := A.in1) hh s.heap.objs.size l hlt items).toS 1 (by omega)
  refine wpAny_collect_iter (T := "list_iterator") (.inr (.inr (.inl rfl))) W (fun i s st => st.1.typeIs) ⟨hit₁, hl₁⟩ (fun b hb => ?_) (by simp) (fun s' acc hm hacc => ?_) (by omega)
  · simp at hb
    rcases hb with rfl | rfl
    · show s.heap.objs.size < h₁.objs.size
      rw [hsz1]
      exact Nat.lt_succ_self _
    · show b < h₁.objs.size
      rw [hsz1]
      exact Nat.lt_succ_of_lt hls
  have eacc : acc.toList = rest := by
    obtain ⟨h1, h2⟩ := hacc
    have h1' : acc.toList.length = rest.length := by rw [Array.length_toList, h1]; omega
    refine List.ext_getElem? fun j => ?_
    rcases Nat.lt_or_ge j rest.length with hj | hj
    · have hj' : j < acc.size := by rw [← Array.length_toList]; omega
      have this : items[j + 1]? = some acc[j] := h2 j acc[j] (by simp [hj'])
      have e2 : items[j + 1]? = rest[j]? := by
        rw [← Array.getElem?_toList, hi, List.getElem?_cons_succ]
      rw [e2] at this
      rw [this, Array.getElem?_toList]
      simp [hj']
    · rw [List.getElem?_eq_none (by omega), List.getElem?_eq_none hj]
  rw [eacc]
  have hz0 : rest.length ≤ sizeLine := by omega
  rw [if_neg (by simp)]
  show wpAny _ _ (newList (rest.take (rest.length - (2 - 1 - 1))) >>= _) _ _ _
  have et : rest.take (rest.length - (2 - 1 - 1)) = rest := List.take_of_length_le (by omega)
  rw [et]
  obtain ⟨hp, g, d, t, os⟩ := s
  obtain ⟨hp', g', d', t', os'⟩ := s'
  obtain ⟨m1, m2, m3, m4, m5⟩ := hm
  dsimp only at m1 m2 m3 m4 m5
  subst m2 m3 m4
  have kp : ∀ b o, hp.get? b = some o → hp'.get? b = some o := fun b o e => m1 b o (by
    have := Heap.lt_size e
    simp
    exact Nat.ne_of_lt this) (hs₁.extBut b o (Nat.ne_of_lt (Heap.lt_size e)) (Heap.get?_push_of_some _ e))
  unfold newList
  refine wpAny_bind (wpAny_newObj_type ?_ (by show rest.toArray.size ≤ sizeLine; rw [List.size_toArray]; exact hz0))
  refine wpAny_pure ?_
  have ed : rest.drop (rest.length - (2 - 1 - 1)) = [] := List.drop_of_length_le (by omega)
  rw [ed]
  have hq : hp.get? hp'.objs.size = none := by
    cases e : hp.get? hp'.objs.size with
    | none => rfl
    | some o => exact absurd (Heap.lt_size (kp _ _ e)) (Nat.lt_irrefl _)
  exact hQ _ _ _ (fun b o e => Heap.get?_push_of_some _ (kp b o e)) hq ⟨0, Heap.get?_push_size _ rfl⟩
end
section
variable {P : Program} {w : World} {H : Hp} {h h' : Heap} {a : Addr} {o : HO}
theorem objAlive (x : ObjOk P w H h a o) : ∃ u, h.get? a = some u := by
  cases o with
  | lst xs => obtain ⟨_, _, _, _, e⟩ := x; exact ⟨_, e⟩
  | tup xs => obtain ⟨_, _, _, u, e, _⟩ := x; exact ⟨u, e⟩
  | dK kvs => obtain ⟨_, _, _, _, u, _, _, e, _⟩ := x; exact ⟨u, e⟩
  | dT kvs => obtain ⟨_, _, _, _, u, _, _, e, _⟩ := x; exact ⟨u, e⟩
  | set S n => obtain ⟨u, _, _, _, e, _⟩ := x; exact ⟨u, e⟩
  | ins C dx fs => obtain ⟨_, _, _, e, _⟩ := x; exact ⟨_, e⟩
  | own y => obtain ⟨u, e⟩ := x; exact ⟨u, e⟩
  | xd fs => obtain ⟨_, ⟨u, _, _, e, _⟩, _⟩ := x; exact ⟨u, e⟩
  | rng lo hi => obtain ⟨_, _, _, e⟩ := x; exact ⟨_, e⟩
  | frz ob u => obtain ⟨e, _⟩ := x; exact ⟨_, e⟩
  | tbl ps => exact ⟨_, (show h.get? a = some _ from x)⟩
  | met f y => exact ⟨_, (show h.get? a = some _ from x)⟩
  | ext φ => obtain ⟨_, ⟨u, e⟩, _⟩ := x; exact ⟨u, e⟩
end
/-- a new list where nothing stood, all others kept -/
theorem invAt {X : Cx} {pins : List (Addr × Obj)} {σ : L2.St} {H : Hp} {s : Shared} {h' : Heap} {q : Addr} {o : HO} {t' : Nat} (I : L2.Inv X pins σ H s) (k : ∀ b u, s.heap.get? b = some u → h'.get? b = some u) (hq : s.heap.get? q = none) (new : ObjOk X.prog X.w (upd H q o) h' q o) :
    H q = none ∧ L2.Inv X pins σ (upd H q o) { s with heap := h', toks := t' } := by
  have hn : H q = none := by
    cases e : H q with
    | none => rfl
    | some u =>
      obtain ⟨v, ev⟩ := objAlive (I.hok q u e)
      rw [hq] at ev
      cases ev
  have ne : ∀ {b : Addr} {u : Obj}, s.heap.get? b = some u → b ≠ q := fun {b u} e z => by rw [z, hq] at e; cases e
  refine ⟨hn, I.un (t' := t') {
    keep := fun b o e n _ _ => k b o e
    slot := fun b o e n _ _ => ⟨o.slots, k b o e⟩
    free := fun b o e n _ => by rw [upd_ne (ne e)]; exact n
    there := fun b o e _ => ⟨o, k b o e⟩
    tups := fun b xs e => by rw [upd_ne (ne_of_none e hn)]; exact e
    frzs := fun b o v e => by rw [upd_ne (ne_of_none e hn)]; exact e
    tbls := fun b ps e => ⟨#[], by rw [upd_ne (ne_of_none e hn), e]; simp⟩ } fun b u e => ?_⟩
  by_cases hb : b = q
  · subst hb
    rw [upd_same] at e
    cases e
    exact new
  · rw [upd_ne hb] at e
    exact (I.hok b u e).stay (fun c v _ z => k c v z) (fun c z => by rw [upd_ne (ne_of_none z hn)]; exact z) (fun c xs z => by rw [upd_ne (ne_of_none z hn)]; exact z)
/-- a, *b = xs -/
def gStar (K : PySem.W.Frag) (t : TGs) : TG := fun v σ H Q => ∃ (a : Addr) (x : V) (xs : List V), v = .ref a ∧ SqL K H a (x :: xs) ∧ ∀ p, H p = none → t [x, .ref p] σ (upd H p (.lst xs)) Q
theorem pg_star1 {X : Cx} {e1 e2 : Expr} {ps pos : Pos} {k : Nat} {t : TGs} (hc : X.calm = true) (h : PGs X [e1, e2] t) (hn : (assignEach [e1, .Starred e2 ps] X.env).length = 2 := by rfl) (hst : (assignEach [e1, .Starred e2 ps] X.env).findIdx? (·.1) = some 1 := by rfl)
    (hm : (assignEach [e1, .Starred e2 ps] X.env).map (·.2) = (assignEach [e1, e2] X.env).map (·.2) := by rfl) : PG X (.Tuple [e1, .Starred e2 ps] k pos) (gStar X.K t) := by
  refine ⟨fun pins s σ H v u Q I r hw => ?_⟩
  obtain ⟨a, x, xs, e1, hq, hw⟩ := hw
  subst e1
  cases r
  obtain ⟨its, rv, pl, hz⟩ := I.list hq
  obtain ⟨ux, us, rfl, rx, rs⟩ : ∃ ux us, its = ux :: us ∧ RelV x ux ∧ Vals xs us := by
    cases rv with
    | cons r1 r2 => exact ⟨_, _, rfl, r1, r2⟩
  have hl := rs.length
  rw [PyProof.Rows.assign_Tuple]
  refine wpAny_bind (wpAny_standAt ?_)
  unfold unpack
  rw [hn, hst, hm]
  refine wpAny_bind (wpAny_holding (starItems (I.ok.hd hc) pl.isList rfl (by rw [List.size_toArray, List.length_cons]; rw [List.length_cons] at hz; omega) fun h' tk q hk hq' ⟨c, hc'⟩ => ?_))
  have hz' : xs.length ≤ sizeLine := by rw [List.length_cons] at hz; omega
  obtain ⟨hn', J⟩ := invAt (t' := tk) (o := .lst xs) I hk hq' ⟨hz', us, c, rs, hc'⟩
  exact h.run pins _ σ _ [x, .ref q] [ux, .ref q] Q J (.cons rx (.cons rfl .nil)) (hw q hn')
end Z

set_option Elab.async false
set_option linter.all false
set_option maxRecDepth 100000
set_option maxHeartbeats 4000000
/-! enumerate(xs, start=k), xs a list -/
namespace Z
open PySem PySem.Spec PyProof.Rows L2
section
variable {M : Model} {A : Around} {E : Value → Shared → Prop} {s : Shared} {env : Env}
theorem cw_typeArgs {pos : Pos} {T : String} {args : List (Bool × Sem Value)} {keywords : List (Option Str × Sem Value)} {Q : Value → Shared → Prop} (hplain : args.any (·.1) = false) (hkw : keywords.any (·.1.isNone) = false)
    (h : wpAny M A (evalArgs (.type T) true args keywords) (fun a s₁ => wpAny M A (call (.type T) a.pos a.kw) Q E s₁) E s) : wpAny M A (callWith pos (.type T) [] args keywords) Q E s := by
  unfold callWith
  refine wpAny_bind (wpAny_holding (wpAny_mono h (fun a s₁ h₁ => wpAny_bind (wpAny_standAt ?_)) fun _ _ x => x))
  simp only [hplain, hkw, Bool.or_false]
  refine wpAny_bind (wpAny_pure ?_)
  exact wpAny_bind (wpAny_mono h₁ (fun r s₂ hr => wpAny_bind (wpAny_holding (wpAny_point (wpAny_pure hr)))) fun _ _ x => x)
theorem cw_typeKw {pos : Pos} {T : String} {e : Expr} {rest : List Expr} {kws : List Keyword} {Q : Value → Shared → Prop}
    (h : wpAny M A (spliced (backTo pos (starEach (e :: rest) env))) (fun vs s₁ => wpAny M A (evalAll ((backToKw pos (keywordEach kws env)).map (·.2)))
      (fun kvs s₂ => wpAny M A (call (.type T) vs (((backToKw pos (keywordEach kws env)).filterMap (·.1)).zip kvs)) Q E s₂) E s₁) E s)
    (he : backTo pos (starEach (e :: rest) env) = (false, eval e env) :: backTo pos (starEach rest env) := by rfl)
    (hplain : (backTo pos (starEach (e :: rest) env)).any (·.1) = false := by rfl)
    (hall : (backToKw pos (keywordEach kws env)).all (·.1.isSome) = true := by rfl)
    (hkw : (backToKw pos (keywordEach kws env)).any (·.1.isNone) = false := by rfl) :
    wpAny M A (callWith pos (.type T) [] (backTo pos (starEach (e :: rest) env)) (backToKw pos (keywordEach kws env))) Q E s := by
  refine cw_typeArgs hplain hkw ?_
  rw [he] at h ⊢
  exact evalArgs_kwB hall h
end
/-- the end alone, of a list -/
theorem drawsEndL {prog : Program} {w : World} {A : Around} (calm : A.handled = none) (q t : Addr) (its : Array Value) (i : Nat) (out : its[i]? = none) :
    Draws prog w A q [q, t] i (fun _ _ => True) (fun j h => j = i ∧ h.IsListIter q t j ∧ h.IsList t its) where
  live := fun _ _ st => let ⟨o, ho, _⟩ := st.2.1; ⟨o, ho⟩
  frame := fun _ _ _ st hk => ⟨st.1, st.2.1.at fun o e => hk q (by simp) o e, st.2.2.at fun o e => hk t (by simp) o e⟩
  item := fun j s Q E hi st hQ => by
    have := st.1
    omega
  done := fun s Q E st hE => wpAny_nextOf_list_end calm st.2.1 st.2.2 out hE
/-- the list at a from the number k on, each item in a new pair -/
def IteS (K : PySem.W.Frag) (a : Addr) (k : Int) : It :=
  ⟨fun i H => ∃ (xs : List V) (x : V), SqL K H a xs ∧ xs[i]? = some x, fun i H v H' => ∃ T x, v = .ref T ∧ H T = none ∧ H' = upd H T (.tup [.int (k + (i : Nat)), x]) ∧ ∀ xs, SqL K H a xs → xs[i]? = some x, fun i H => ∃ xs : List V, SqL K H a xs ∧ xs.length ≤ i⟩
theorem turn_enumS {P : Program} {w : World} {K : PySem.W.Frag} {elts : List Expr} {kk : Nat} {tpos : Pos} (a e it : Addr) (k : Int) :
    Turn P w K (.Tuple elts kk tpos) (IteS K a k) [e, it] e (fun i h => (∃ old, IsEnum h e it (k + (i : Nat)) old) ∧ h.IsListIter it a i ∧ e ≠ it ∧ a ≠ it ∧ a ≠ e) where
  mem := by simp
  obj := fun i h st b hb => by
    obtain ⟨⟨old, he⟩, ⟨o, ho, hc, hd⟩, _⟩ := st
    have e' : b = e ∨ b = it := by simpa using hb
    rcases e' with z | z
    · rw [z]; exact ⟨_, he, fun v q => nomatch q⟩
    · rw [z]; exact ⟨o, ho, fun v q => by rw [hd] at q; cases q⟩
  keep := fun i h h' st k => let ⟨⟨old, he⟩, hit, hne⟩ := st; ⟨⟨old, k e (by simp) _ he⟩, hit.at fun o q => k it (by simp) o q, hne⟩
  item := by
    intro X hP hw hK hc i pins s σ H E I hf st hg
    subst hP hw hK
    obtain ⟨⟨old, he⟩, hit, hne, hai, hae⟩ := st
    obtain ⟨xs, x, hq, hx⟩ := hg
    obtain ⟨its, rv, p, hz⟩ := I.list hq
    obtain ⟨u, hu, ru⟩ := rv.get hx
    have hel : e < s.heap.objs.size := Heap.lt_size he
    have hil : it < s.heap.objs.size := by obtain ⟨_, z, _⟩ := hit; exact Heap.lt_size z
    have hlt : i < its.toArray.size := by
      have := (List.getElem?_eq_some_iff.mp hu).1
      simpa using this
    refine wpAny_pyNext_enum_itemC (Draws.list (by first | exact I.ok.hd hc | (show X.A.in1.handled = none; exact I.ok.hd hc)) it a hai its.toArray) he ⟨hit, p.isList⟩ hlt hne (by simp [hne, Ne.symm hae]) fun x' h' tk hx' ho hst' hT hsz hk => ?_
    obtain rfl : x' = u := by
      rw [show its.toArray[i]? = its[i]? by simp, hu] at hx'
      exact (Option.some.inj hx').symm
    refine ⟨_, rfl, wpAny_letOwnedTupleGo_enum (s := { s with heap := h', toks := tk + 1 }) ho fun h'' he' sb => ?_⟩
    have hT2 : h''.get? s.heap.objs.size = some { cls := .type "tuple", data := .seq #[.int (k + (i : Nat)) tk, x'] } := (sb.2 _ (Nat.ne_of_gt hel)).trans hT
    have new : ObjOk X.prog X.w (upd H s.heap.objs.size (.tup [.int (k + (i : Nat)), x])) h'' s.heap.objs.size (.tup [.int (k + (i : Nat)), x]) :=
      ⟨by show 2 ≤ sizeLine; decide, [.int (k + (i : Nat)) tk, x'], .cons ⟨_, rfl⟩ (.cons ru .nil), ⟨_, hT2, rfl, _, rfl⟩⟩
    have I1 : Inv X pins σ (upd H s.heap.objs.size (.tup [.int (k + (i : Nat)), x])) { s with heap := h'', toks := tk + 1 } :=
      I.turnedNew (ch := [e, it]) (fun b ob hb z => (sb.2 b (fun y => hb (by simp [y]))).trans (hk b ob (fun y => hb (by simp [y])) (fun y => hb (by simp [y])) z)) hf (Nat.le_refl _) new
    have hit2 : h''.IsListIter it a (i + 1) := hst'.1.at fun o z => (sb.2 it (Ne.symm hne)).trans z
    refine ⟨.ref s.heap.objs.size, _, I1, rfl, ⟨_, x, rfl, I.hok.fresh (Nat.le_refl _), rfl, fun ys hy => by rw [I.list_inj hy hq]; exact hx⟩, ⟨⟨x', ?_⟩, hit2, hne, hai, hae⟩, fun b hb => ?_⟩
    · have e1 : k + ((i + 1 : Nat) : Int) = k + (i : Nat) + 1 := by omega
      rw [e1]; exact he'
    · have hb' : b < s.heap.objs.size := by
        have e' : b = e ∨ b = it := by simpa using hb
        rcases e' with z | z
        · rw [z]; exact hel
        · rw [z]; exact hil
      rw [upd_ne (Nat.ne_of_lt hb')]
      exact (hf b hb).1
  done := by
    intro X hP hw hK hc i pins s σ H E I hf st hg
    subst hP hw hK
    obtain ⟨⟨old, he⟩, hit, hne, hai, hae⟩ := st
    obtain ⟨xs, hq, hx⟩ := hg
    obtain ⟨its, rv, p, hz⟩ := I.list hq
    obtain ⟨f0, f1, f2, f3, f4, f5⟩ := hf it (by simp)
    have hl := rv.length
    refine wpAny_pyNext_enum_endD (drawsEndL (by first | exact I.ok.hd hc | (show X.A.in1.handled = none; exact I.ok.hd hc)) it a its.toArray i (by simp; omega)) he ⟨rfl, hit, p.isList⟩ fun h' eb => ⟨rfl, I.turned (t' := s.toks) (fun b o hb q => eb b o hb q) f0 f1 f3 f4 f5⟩
  self := fun A i s Q E st h => let ⟨⟨_, he⟩, _⟩ := st; wpAny_pyIter_enum he h
theorem walk_enumS {K : PySem.W.Frag} {a : Addr} {xs : List V} {k : Int} : Walk (IteS K a k) xs.length (fun H => SqL K H a xs) (YPair (fun i => some (.int (k + (i : Nat)))) (fun i => xs[i]?)) := by
  refine ⟨fun i _ hi q => ⟨xs, xs[i], q, by simp [hi]⟩, fun _ q => ⟨xs, q, Nat.le_refl _⟩, fun i H v H' _ q y => ?_⟩
  obtain ⟨T, x, h1, h2, h3, h4⟩ := y
  exact ⟨T, .int (k + (i : Nat)), x, h1, h2, h3, rfl, h4 xs q⟩
/-- enumerate(xs, start=k) -/
def iEnS (K : PySem.W.Frag) (ta tk : TA) : TI := fun σ H R => ta σ H fun vs H1 => tk σ H1 fun ws H2 => ∃ a xs k, vs = [.ref a] ∧ ws = [.int k] ∧ -(2 ^ 62) ≤ k ∧ k < 2 ^ 62 ∧ SqL K H2 a xs ∧ R (IteS K a k) H2
theorem pi_enS {X : Cx} {K : PySem.W.Frag} {e : Expr} {kws : List Keyword} {ta tk : TA} {p pos tpos : Pos} {elts : List Expr} {kk : Nat} (hK : X.K = K) (hg : Gl X "enumerate") (hm : X.mg "enumerate" = none) (ha : PA X [e] ta) (hk : PK X kws tk)
    (he : backTo pos (starEach [e] X.env) = [(false, eval e X.env)] := by rfl) (hpl : (backTo pos (starEach [e] X.env)).any (·.1) = false := by rfl)
    (hall : (backToKw pos (keywordEach kws X.env)).all (·.1.isSome) = true := by rfl) (hnone : (backToKw pos (keywordEach kws X.env)).any (·.1.isNone) = false := by rfl) (hks : (backToKw pos (keywordEach kws X.env)).filterMap (·.1) = [Str.ofString "start"] := by rfl) :
    PI X (.Tuple elts kk tpos) (.Call (.Name "enumerate" p) [e] kws pos) (iEnS K ta tk) := by
  subst hK
  refine ⟨fun pins s σ H R I h => ?_⟩
  refine wpAny_Call_Name_kw (ld_blt I hg hm boot_enumerate ?_)
  refine cw_typeKw (thn (ha.run pos pins s σ H _ I h) fun us s1 ⟨vs, H1, I1, r1, q1⟩ => thn (hk.run pos pins s1 σ H1 _ I1 q1) fun ws s2 ⟨zs, H2, I2, r2, q2⟩ => ?_) he hpl hall hnone
  rw [hks]
  obtain ⟨a, xs, k, rfl, rfl, hk0, hk1, hq, q⟩ := q2
  obtain ⟨u, rfl, r⟩ := r1.one
  cases r
  obtain ⟨u2, rfl, r'⟩ := r2.one
  obtain ⟨tk', rfl⟩ := r'
  have two : ∀ b ∈ [s2.heap.objs.size + 1, s2.heap.objs.size], FpOk X pins H2 b := fun b hb => by
    have e' : b = s2.heap.objs.size + 1 ∨ b = s2.heap.objs.size := by simpa using hb
    have hle : s2.heap.objs.size ≤ b := by
      rcases e' with z | z
      · rw [z]; exact Nat.le_add_right _ _
      · rw [z]; exact Nat.le_refl _
    exact I2.fpOk hle (I2.hok.fresh hle)
  obtain ⟨its, rv, p', hz⟩ := I2.list hq
  have hal : a < s2.heap.objs.size := by obtain ⟨_, z, _⟩ := p'.isList; exact Heap.lt_size z
  refine enum_begins_start (begins_list a its.toArray) p'.isList (by omega) (by omega) fun h' he' hit hsz hk' => wpAny_pyIter_enum he' ?_
  refine ⟨s2.heap.objs.size + 1, [s2.heap.objs.size + 1, s2.heap.objs.size], _, _, H2, rfl, I2.kept (t' := s2.toks) hk', turn_enumS a (s2.heap.objs.size + 1) s2.heap.objs.size k, ⟨⟨.none, ?_⟩, ⟨_, hit, rfl, rfl⟩, Nat.succ_ne_self _, Nat.ne_of_lt hal, Nat.ne_of_lt (Nat.lt_succ_of_lt hal)⟩, two, q⟩
  have e0 : k + ((0 : Nat) : Int) = k := by omega
  rw [e0]
  exact he'
/-! ### read -/
section
variable {K : PySem.W.Frag} {σ : L2.St} {H H0 : Hp} {D : Ends} {ta tk : TA} {g : TG} {tb : TS} {a : Addr} {xs : List V} {k : Int}
def rEnS (K : PySem.W.Frag) (g : TG) (tb : TS) (D : Ends) (σ : L2.St) (vs ws : List V) (H2 : Hp) : Prop := ∃ a xs k, vs = [.ref a] ∧ ws = [.int k] ∧ -(2 ^ 62) ≤ k ∧ k < 2 ^ 62 ∧ SqL K H2 a xs ∧ rFor (IteS K a k) g tb D σ H2
theorem i_enS0 (h : ta σ H (fun vs H1 => tk σ H1 (fun ws H2 => rEnS K g tb D σ vs ws H2))) : tFor (iEnS K ta tk) g tb D σ H := h
theorem i_enS (Pv : Nat → L2.St → Hp → Prop) (s : H0 a = some (.lst xs)) (hk : -(2 ^ 62) ≤ k ∧ k < 2 ^ 62) (h0 : Pv 0 σ H) (hl : ∀ i σ H1, Pv i σ H1 → Same H0 H1)
    (hs : ∀ i x T σ H H2, xs[i]? = some x → Pv i σ H → H T = none → Same H H2 → H2 T = some (.tup [.int (k + (i : Nat)), x]) → (∀ b, b ≠ T → H2 b = H b) → g (.ref T) σ H2 fun σ2 H2 => tb { D with nx := Pv (i + 1), ct := Pv (i + 1), bk := D.nx } σ2 H2)
    (hd : ∀ σ H, Pv xs.length σ H → D.nx σ H) : rEnS K g tb D σ [.ref a] [.int k] H :=
  ⟨a, xs, k, rfl, rfl, hk.1, hk.2, .of (hl _ _ _ h0 _ _ s), for_it walk_enumS Pv h0 (fun i σ H1 _ p => .of (hl i σ H1 p _ _ s)) (fun i x σ H H' _ p y => by
    obtain ⟨T, v, z, rfl, hT, rfl, e1, e2⟩ := y
    cases e1
    exact hs i z T σ H _ e2 p hT (fun b o e => by rw [upd_ne (ne_of_none e hT)]; exact e) upd_same fun b hb => upd_ne hb) hd⟩
theorem i_gstar {x : V} {t : TGs} {QS : L2.St → Hp → Prop} (s : SqL K H a (x :: xs)) (h : ∀ p H', H p = none → Same H H' → H' p = some (.lst xs) → (∀ b, b ≠ p → H' b = H b) → t [x, .ref p] σ H' QS) : gStar K t (.ref a) σ H QS :=
  ⟨a, x, xs, rfl, s, fun p hp => h p _ hp (fun b o e => by rw [upd_ne (ne_of_none e hp)]; exact e) upd_same fun b hb => upd_ne hb⟩
end
theorem k_star1 {X : Cx} {K : PySem.W.Frag} {e1 e2 : Expr} {ps pos : Pos} {k : Nat} {t : TGs} (hK : X.K = K) (hc : X.calm = true) (h : PGs X [e1, e2] t) (hn : (assignEach [e1, .Starred e2 ps] X.env).length = 2 := by rfl) (hst : (assignEach [e1, .Starred e2 ps] X.env).findIdx? (·.1) = some 1 := by rfl)
    (hm : (assignEach [e1, .Starred e2 ps] X.env).map (·.2) = (assignEach [e1, e2] X.env).map (·.2) := by rfl) : PG X (.Tuple [e1, .Starred e2 ps] k pos) (gStar K t) := by
  subst hK
  exact pg_star1 hc h hn hst hm
end Z

set_option Elab.async false
set_option linter.all false
set_option maxRecDepth 100000
set_option maxHeartbeats 1000000
/-! own objects walked: `for x in o`, where __iter__ hands back iter of a tuple or of a dict; a dict known from now on; sums of a dict's values -/
namespace Z
open PySem PySem.Spec PyProof.Rows L2
section
variable {P : Program} {w : World} {K : PySem.W.Frag} {mg : Str → Option Value} {base : Heap}
/-- a promise that may speak of the size of the heap at the call -/
def FnT (P : Program) (w : World) (K : PySem.W.Frag) (mg : Str → Option Value) (base : Heap) (k : Nat) (f : Addr) (sp : Nat → Sp) : Prop :=
  ∀ (A : Around) (outer : List Env) (s : Shared) (H : Hp) (us : List Value) (vs : List V) (Q : VK) (E : XK), Room k A → Env0 P w K mg base A outer s H → Vals vs us → sp s.heap.objs.size vs H Q E →
    codeAny (model P w) A (.call (.ref f) ⟨us, []⟩) (CR (L2.CX P w) outer P w H s Q E) s
theorem fnT_mk {x qual : Str} {st : Stmt} {f : Addr} {fd : FuncData} {N ps : List Str} {k : Nat} {sp : Nat → Sp} (F : L2.Fun K x qual st f fd) (S : FnScope N ps (defScope st)) (b : Binds K fd ps []) (len : ∀ n vs H Q E, sp n vs H Q E → vs.length = ps.length)
    (hbody : ∀ (cdv : Value) (A : Around) (outer : List Env) (s : Shared) (H : Hp) (vs : List V) (Q : VK) (E : XK), Room k (A.deeper (envOfC qual (defScope st) s.heap.objs.size f cdv)) → sp s.heap.objs.size vs H Q E →
      ∃ t, PSs (cxOf (L2.CX P w) P w K mg base N qual (defScope st) f cdv A outer s H E) (defBody st) t ∧ t { nx := fun _ H' => Q .non H', rt := Q } (start N vs) H) : FnT P w K mg base (k + 1) f sp := by
  obtain ⟨oc, od, kV, doc, pm, an, cdv, ct, osl, rfl, lk, hcd⟩ := F.ex
  intro A outer s H us vs Q E hr e0 r h
  have hl := len _ _ _ _ _ h
  have KX : K.In s.heap := e0.mod.kin.keeps fun b o e => (e0.bs b o e).1
  have hb := b s us KX (by rw [List.append_nil, ← r.length]; exact hl)
  rw [List.append_nil] at hb
  exact LamX.run_ofS lk hcd S hr e0 hb r hl fun hr' => hbody cdv A outer s H vs Q E hr' h
/-- an own __iter__ -/
def ItO (P : Program) (w : World) (K : PySem.W.Frag) (mg : Str → Option Value) (base : Heap) (C : Addr) (k : Nat) (sp : Nat → Sp) : Prop := ∃ f, Spc K C "__iter__" f ∧ FnT P w K mg base k f sp
end
/-- iter(t), told with the heap's size at the def's entry -/
def rIterTS (K : PySem.W.Frag) (n : Nat) : List V → Hp → VK → Prop := fun xs H Q => ∃ t ys, xs = [.ref t] ∧ SqT K H t ys ∧ ∀ q, n ≤ q → H q = none → Q (.ref q) (upd H q (TupIt q t 0))
/-- the keys' iterator of a known dict -/
def KeyIt (q d : Addr) (i : Nat) (o : Obj) (m : Nat) : HO := .ext fun h => ∃ es ep, o.data = .dict es ep ∧ h.IsKeyIter q d i m ep
theorem keyIt_ok {P : Program} {w : World} {H : Hp} {h : Heap} {q d : Addr} {i m : Nat} {o : Obj} {es : Array DictEntry} {ep : Nat} (hd : o.data = .dict es ep) (e : h.IsKeyIter q d i m ep) : ObjOk P w H h q (KeyIt q d i o m) := by
  obtain ⟨ob, ho, hc, hdt⟩ := id e
  refine ⟨⟨es, ep, hd, e⟩, ⟨ob, ho⟩, fun h1 h2 ⟨es1, ep1, e1, o1, f1, c1, d1⟩ k => ⟨es1, ep1, e1, o1, k _ f1, c1, d1⟩⟩
def rIterDS (n : Nat) : List V → Hp → VK → Prop := fun xs H Q => ∃ d o kvs, xs = [.ref d] ∧ H d = some (.frz o (.dK kvs)) ∧ ∀ q, n ≤ q → H q = none → Q (.ref q) (upd H q (KeyIt q d 0 o kvs.length))
section
variable {X : Cx}
theorem cr_iterTS : CallR X (.builtin "iter") (rIterTS X.K X.s_0.heap.objs.size) := by
  intro pins s σ H xs us Q I r h
  obtain ⟨t, ys, rfl, ht, h⟩ := h
  obtain rfl := Vals.ref1 r
  obtain ⟨its, rv, hl, _⟩ := I.tuple ht
  refine Calls.call_function_entry (by decide +kernel) (by decide +kernel) PySem.W.kdk_entry_iter (PySem.W.kdk_args_iter _) ?_
  unfold Builtin.«iter»
  refine wpAny_bind (m := someArgs "iter" 1 2 _) (wpAny_of_eq (a := [Value.ref t]) (by first | rfl | kernel_rfl!) ?_)
  show wpAny _ _ (pyIter (.ref t) >>= _) _ _ _
  refine wpAny_bind (wpAny_pyIter_tuple hl ?_)
  refine wpAny_pure ⟨_, rfl, .ref s.heap.objs.size, _, I.laid (a := s.heap.objs.size) (o := TupIt s.heap.objs.size t 0) (t' := s.toks) (fun b o e => Heap.get?_push_of_some _ e) (Nat.le_refl _) (tupIt_ok ⟨_, Heap.get?_push_size _ rfl, rfl, rfl⟩), rfl, h _ I.sz (I.hok.fresh (Nat.le_refl _))⟩
theorem cr_iterDS : CallR X (.builtin "iter") (rIterDS X.s_0.heap.objs.size) := by
  intro pins s σ H xs us Q I r h
  obtain ⟨d, o, kvs, rfl, hd, h⟩ := h
  obtain rfl := Vals.ref1 r
  obtain ⟨hs, hgd, hx, es, ep, vs, hdt, hsz, kv, hm⟩ := I.frzK hd
  refine Calls.call_function_entry (by decide +kernel) (by decide +kernel) PySem.W.kdk_entry_iter (PySem.W.kdk_args_iter _) ?_
  unfold Builtin.«iter»
  refine wpAny_bind (m := someArgs "iter" 1 2 _) (wpAny_of_eq (a := [Value.ref d]) (by first | rfl | kernel_rfl!) ?_)
  show wpAny _ _ (pyIter (.ref d) >>= _) _ _ _
  refine wpAny_bind (iter_keys hs hgd hx hdt ?_)
  rw [hsz]
  refine wpAny_pure ⟨_, rfl, .ref s.heap.objs.size, _, I.laid (a := s.heap.objs.size) (o := KeyIt s.heap.objs.size d 0 o kvs.length) (t' := s.toks) (fun b o e => Heap.get?_push_of_some _ e) (Nat.le_refl _) (keyIt_ok hdt ⟨_, Heap.get?_push_size _ rfl, rfl, rfl⟩), rfl, h _ I.sz (I.hok.fresh (Nat.le_refl _))⟩
end
/-- the object at q is known no more -/
theorem Un.drop {fs ex : List Addr} {H : Hp} {h h' : Heap} {q : Addr} {o : HO} (u : Un fs ex H (upd H q o) h h') (hn : H q = none) : Un fs ex H H h h' where
  keep := u.keep
  slot := u.slot
  free := fun _ _ _ n _ => n
  there := u.there
  tups := fun _ _ e => e
  frzs := fun _ _ _ e => e
  tbls := fun _ ps e => ⟨#[], by simpa using e⟩
theorem HOk.drop {P : Program} {w : World} {H : Hp} {h : Heap} {q : Addr} {φ : Heap → Prop} (x : HOk P w (upd H q (.ext φ)) h) (hn : H q = none) : HOk P w H h := fun b u e => by
  have nb : b ≠ q := ne_of_none e hn
  have y := x b u (by rw [upd_ne nb]; exact e)
  refine y.stay (fun _ _ _ k => k) (fun c k => ?_) fun c xs k => ?_
  · by_cases hc : c = q
    · rw [hc, upd_same] at k; cases k
    · rw [upd_ne hc] at k; exact k
  · by_cases hc : c = q
    · rw [hc, upd_same] at k; cases k
    · rw [upd_ne hc] at k; exact k
section
variable {X : Cx} {k j : Nat} {C : Addr} {sp : Nat → Sp} {tg e : Expr} {te : TE}
/-- an own object whose __iter__ hands back iter of the tuple at t -/
def OwnT (K : PySem.W.Frag) (C : Addr) (sp : Nat → Sp) (a t : Addr) (ys : List V) (H1 : Hp) : Prop := (∃ dx fs, H1 a = some (.ins C dx fs)) ∧ SqT K H1 t ys ∧
  ∀ n, sp n [.ref a] H1 (fun v H' => ∃ q, v = .ref q ∧ n ≤ q ∧ H1 q = none ∧ H' = upd H1 q (TupIt q t 0)) fun _ _ _ => False
/-- .. of the known dict at d -/
def OwnD (C : Addr) (sp : Nat → Sp) (a d : Addr) (o : Obj) (kvs : List (Key × V)) (H1 : Hp) : Prop := (∃ dx fs, H1 a = some (.ins C dx fs)) ∧ H1 d = some (.frz o (.dK kvs)) ∧
  ∀ n, sp n [.ref a] H1 (fun v H' => ∃ q, v = .ref q ∧ n ≤ q ∧ H1 q = none ∧ H' = upd H1 q (KeyIt q d 0 o kvs.length)) fun _ _ _ => False
/-- the walk of an own object by its tuple -/
def iOwnT (K : PySem.W.Frag) (C : Addr) (sp : Nat → Sp) (te : TE) : TI := fun σ H R => te σ H fun x H1 => ∃ a t ys, x = .ref a ∧ OwnT K C sp a t ys H1 ∧ R (Itt K t) H1
/-- .. by its dict, which is known -/
def iOwnD (C : Addr) (sp : Nat → Sp) (te : TE) : TI := fun σ H R => te σ H fun x H1 => ∃ a d o kvs, x = .ref a ∧ OwnD C sp a d o kvs H1 ∧ R (Itk d o kvs) H1
theorem special_key {q : Addr} {s : Shared} {d : Addr} {i m ep : Nat} {M : Model} {A : Around} {E : Value → Shared → Prop} {Q : Option Value → Shared → Prop} (hit : s.heap.IsKeyIter q d i m ep) (h : ∀ g, Q (some g) s) : wpAny M A (specialOf (.ref q) "__next__") Q E s := by
  unfold specialOf
  exact wpAny_bind (wpAny_typeOf hit.typeIs (wpAny_of_eq PySem.F.slot_dict_keyiterator_next.lookup (h _)))
theorem pi_ownT (c : ItO X.prog X.w X.K X.mg X.base C k sp) (hr : Room j X.A) (he : PE X e te) (hj : k ≤ j := by decide) : PI X tg e (iOwnT X.K C sp te) := by
  obtain ⟨f, S, F⟩ := c
  refine ⟨fun pins s σ H R I h => ?_⟩
  refine thn (he.run pins s σ H _ I h) fun u s1 ⟨x, H1, I1, rx, a, t, ys, ex, ⟨⟨dx, fs, ea⟩, ht, hp⟩, q⟩ => ?_
  subst ex
  obtain rfl : u = Value.ref a := rx
  obtain ⟨ox, od, Ja⟩ := instAt I1 ea
  obtain ⟨m, fr⟩ := I1.fr
  refine PySem.W.owit_iter fr I1.ok.mod.kin Ja S.at_ S.fn ?_
  refine wpAny_call (codeAny_mono (F X.A X.stack s1 H1 [.ref a] [.ref a] _ (fun _ _ _ => False) (hr.mono hj) I1.env0 (.cons rfl .nil) (hp _)) fun r s' hq' => ?_)
  rcases r with e | fl
  · exact (cxN hq').elim
  rcases fl with _ | _ | _ | u'
  · exact False.elim hq'
  · exact False.elim hq'
  · exact False.elim hq'
  obtain ⟨v, H', os, bare, un, hok, rv, q0, ev, hle, hn, eH⟩ := hq'
  subst ev
  subst eH
  obtain rfl : u' = Value.ref q0 := rv
  have hit : s'.heap.IsTupleIter q0 t 0 := (hok q0 _ upd_same).1
  have I2 : Inv X pins σ H1 s' := I1.call' (ch := []) os (Un.drop un hn) (HOk.drop hok hn) bare (fun b z => absurd z (by simp))
  unfold PySem.W.OwitIt specialOf
  refine wpAny_bind (wpAny_typeOf hit.typeIs (wpAny_of_eq PySem.F.slot_tuple_iterator_next.lookup ?_))
  exact ⟨q0, [q0], _, _, H1, rfl, I2, turn_tuple t q0, hit, fun b hb => by
    have e : b = q0 := by simpa using hb
    subst e
    exact I1.fpOk hle hn, q⟩
theorem pi_ownD (c : ItO X.prog X.w X.K X.mg X.base C k sp) (hr : Room j X.A) (he : PE X e te) (hj : k ≤ j := by decide) : PI X tg e (iOwnD C sp te) := by
  obtain ⟨f, S, F⟩ := c
  refine ⟨fun pins s σ H R I h => ?_⟩
  refine thn (he.run pins s σ H _ I h) fun u s1 ⟨x, H1, I1, rx, a, d, o, kvs, ex, ⟨⟨dx, fs, ea⟩, hd, hp⟩, q⟩ => ?_
  subst ex
  obtain rfl : u = Value.ref a := rx
  obtain ⟨ox, od, Ja⟩ := instAt I1 ea
  obtain ⟨m, fr⟩ := I1.fr
  refine PySem.W.owit_iter fr I1.ok.mod.kin Ja S.at_ S.fn ?_
  refine wpAny_call (codeAny_mono (F X.A X.stack s1 H1 [.ref a] [.ref a] _ (fun _ _ _ => False) (hr.mono hj) I1.env0 (.cons rfl .nil) (hp _)) fun r s' hq' => ?_)
  rcases r with e | fl
  · exact (cxN hq').elim
  rcases fl with _ | _ | _ | u'
  · exact False.elim hq'
  · exact False.elim hq'
  · exact False.elim hq'
  obtain ⟨v, H', os, bare, un, hok, rv, q0, ev, hle, hn, eH⟩ := hq'
  subst ev
  subst eH
  obtain rfl : u' = Value.ref q0 := rv
  obtain ⟨es, ep, hdt, hit⟩ := (hok q0 _ upd_same).1
  have I2 : Inv X pins σ H1 s' := I1.call' (ch := []) os (Un.drop un hn) (HOk.drop hok hn) bare (fun b z => absurd z (by simp))
  unfold PySem.W.OwitIt
  refine special_key hit fun g => ?_
  exact ⟨q0, [q0], _, _, H1, rfl, I2, turn_keys q0 hdt, hit, fun b hb => by
    have e : b = q0 := by simpa using hb
    subst e
    exact I1.fpOk hle hn, q⟩
end
end Z

set_option Elab.async false
set_option linter.all false
set_option maxRecDepth 100000
set_option maxHeartbeats 1000000
/-! a dict known from now on; sum of a dict's values; != of lists and dicts that are equal in depth, dicts among them -/
namespace Z
open PySem PySem.Spec PyProof.Rows L2
section
variable {X : Cx} {st : Stmt} {t : TS} {e : Expr} {te : TE}
/-- from here on the thing at d is known and not written any more -/
def tFrz (t : TS) : TS := fun D σ H => ∃ d u, H d = some u ∧ Mut (some u) ∧ ∀ od, t D σ (upd H d (.frz od u))
theorem ps_frz (h : PS X st t) : PS X st (tFrz t) := by
  refine ⟨fun pins s σ H D I q => ?_⟩
  obtain ⟨d, u, hd, mu, q⟩ := q
  obtain ⟨od, I1⟩ := I.lock hd mu
  exact h.run pins s σ _ D I1 (q od)
end
/-! ### the values' sum -/
section
variable {prog : Program} {w : World} {A : Around} {E : Value → Shared → Prop} {s : Shared} {T : String} {r d : Addr} {n : Nat} {P : Nat → Value → Prop} {OK : Heap → Prop} {Q : Value → Shared → Prop}
theorem sumSrc (src : PySem.W.KdlSrc prog w T r d n P OK) (calm : A.handled = none) (ok : OK s.heap) (f : Nat → Int) (isf : ∀ (i : Nat) (v : Value), P i v → ∃ t : Tok, v = Value.int (f i) t)
    (fin : ∀ (h' : Heap) (tk : Nat) (t' : Tok), (∀ b o, s.heap.get? b = some o → h'.get? b = some o) → Q (.int (preSum f n) t') { s with heap := h', toks := tk }) :
    wpAny (model prog w) A (call (.builtin "sum") [.ref r]) Q E s := by
  refine call_sum_walkAnyS ?_
  obtain ⟨oI, St, begin_, W, st0⟩ := src.iter A.in1 s calm ok
  refine begin_ _ _ ⟨s.heap.objs.size, _, _, _, n, P, _, f, rfl, W.toS, st0, fun b hb => ?_, isf, fun s' t' mv => ?_⟩
  · rw [show (({ s with heap := s.heap.push oI } : Shared)).heap.objs.size = s.heap.objs.size + 1 from size_push' ..]
    rcases List.mem_cons.mp hb with e | hb
    · rw [e]
      exact Nat.lt_succ_self _
    · rw [List.mem_singleton.mp hb]
      exact Nat.lt_succ_of_lt (src.there _ ok).2
  · have kp : ∀ b o, s.heap.get? b = some o → s'.heap.get? b = some o := fun b o e => by
      refine mv.heap b o (fun z => ?_) (Heap.get?_push_of_some _ e)
      have := Heap.lt_size e
      rw [List.mem_singleton.mp z] at this
      exact absurd this (Nat.lt_irrefl _)
    rw [Moved.eq_with mv]
    exact fin s'.heap s'.toks t' kp
end
/-- d.values(), kept as a value -/
def ValO (q d : Addr) : HO := .ext fun h => h.get? q = some { cls := .type "dict_values", data := .fields #[.ref d] }
def tVals (td : TE) : TE := fun σ H Q => td σ H fun x H1 => ∃ d o kvs, x = .ref d ∧ H1 d = some (.frz o (.dK kvs)) ∧ ∀ q, H1 q = none → Q (.ref q) (upd H1 q (ValO q d))
section
variable {X : Cx} {e : Expr} {td : TE} {apos cpos : Pos}
theorem pe_vals (he : PE X e td) (hbase : attributeBase e "values" X.env (eval e X.env) = eval e X.env := by rfl) (hline : (apos.endLine == cpos.line) = true := by rfl) : PE X (.Call (.Attribute e "values" apos) [] [] cpos) (tVals td) := by
  refine ⟨fun pins s σ H Q I h => ?_⟩
  refine wpAny_Call_method (T := "dict") (id := "dict.values") hbase rfl hline F.plainAttrs_dict F.slot_dict_values F.type_dict_values (thn (he.run pins s σ H _ I h) fun u s1 ⟨x, H1, I1, rx, d, o, kvs, ex, hd, q⟩ => ?_)
  subst ex
  obtain rfl : u = Value.ref d := rx
  obtain ⟨hs, hgd, hx, es, ep, vs, hdt, hsz, kv, hm⟩ := I1.frzK hd
  refine ⟨hm.dictOf.typeIs, hm.dictOf.mapOf.noDict, ?_⟩
  have fin : EP X pins σ Q (.ref s1.heap.objs.size) { s1 with heap := s1.heap.push { cls := .type "dict_values", data := .fields #[.ref d] } } := by
    refine ⟨.ref s1.heap.objs.size, _, I1.laid (a := s1.heap.objs.size) (o := ValO s1.heap.objs.size d) (t' := s1.toks) (fun b o e => Heap.get?_push_of_some _ e) (Nat.le_refl _) ?_, rfl, q _ (I1.hok.fresh (Nat.le_refl _))⟩
    exact ⟨Heap.get?_push_size _ rfl, ⟨_, Heap.get?_push_size _ rfl⟩, fun h1 h2 e k => k _ e⟩
  show wpAny _ _ (callWith cpos (.builtin "dict.values") [.ref d] [] []) _ X.xe s1
  exact method_meetsIn F.slot_dict_values F.entry_dict_values rfl (PySem.evalArgs_none ⟨rfl, hm.dictOf.typeIs, F.args_dict_values_1 _, _, meets_dict_values (mixKind X.prog X.w) d hs, ⟨vs, hm.dictOf⟩, fin⟩)
/-- sum of them -/
def rSumV : List V → Hp → VK → Prop := fun xs H Q => ∃ q d o kvs, ∃ ns : List Int, xs = [.ref q] ∧ H q = some (ValO q d) ∧ H d = some (.frz o (.dK kvs)) ∧ kvs.map (·.2) = ns.map V.int ∧ Q (.int ns.sum) H
theorem preSum_list : ∀ (ns : List Int), preSum (fun i => ns.getD i 0) ns.length = ns.sum := by
  intro ns
  have key : ∀ (k : Nat), k ≤ ns.length → preSum (fun i => ns.getD i 0) k = (ns.take k).sum := by
    intro k
    induction k with
    | zero => intro _; simp [preSum]
    | succ k ih =>
      intro hk
      have e : ns.take (k + 1) = ns.take k ++ [ns[k]] := by rw [List.take_add_one, List.getElem?_eq_getElem (by omega)]; rfl
      show preSum (fun i => ns.getD i 0) k + ns.getD k 0 = _
      rw [ih (by omega), e, List.sum_append_int]
      simp [List.getD, List.getElem?_eq_getElem (show k < ns.length by omega)]
  rw [key _ (Nat.le_refl _), List.take_length]
theorem cr_sumV (hc : X.calm = true) : CallR X (.builtin "sum") rSumV := by
  intro pins s σ H xs us Q I r h
  obtain ⟨q, d, o, kvs, ns, rfl, hq, hd, hv, k⟩ := h
  obtain rfl := Vals.ref1 r
  obtain ⟨hs, hgd, hx, es, ep, vs, hdt, hsz, kv, hm⟩ := I.frzK hd
  have hq1 : s.heap.get? q = some { cls := .type "dict_values", data := .fields #[.ref d] } := (I.hok q _ hq).1
  have hl : kvs.length = vs.length := Paired.length kv
  have hn : ns.length = vs.length := by rw [← hl, ← List.length_map (f := V.int), ← hv, List.length_map]
  refine sumSrc (PySem.W.kdl_values (knd := mixKind X.prog X.w) (r := q) (d := d) (kvs := vs) (ep := ep)) (I.ok.hd hc) ⟨⟨_, hq1, rfl, rfl⟩, hm⟩ (fun i => ns.getD i 0) (fun i v hi => ?_) fun h' tk t' kp => ?_
  · obtain ⟨key, e⟩ := hi
    have lt : i < vs.length := (List.getElem?_eq_some_iff.mp e).1
    obtain ⟨b, hb⟩ : ∃ b, kvs[i]? = some b := ⟨kvs[i], List.getElem?_eq_getElem (by omega)⟩
    obtain ⟨c, hc', ec, rc⟩ := paired_get kv hb
    rw [e] at hc'
    cases hc'
    have e2 : (kvs.map (·.2))[i]? = some b.2 := by rw [List.getElem?_map, hb]; rfl
    rw [hv, List.getElem?_map] at e2
    obtain ⟨z, hz, ez⟩ := Option.map_eq_some_iff.mp e2
    rw [← ez] at rc
    obtain ⟨t, rfl⟩ := rc
    exact ⟨t, by simp [List.getD, hz]⟩
  · rw [← hn, preSum_list]
    exact ⟨.int _, H, I.kept kp, ⟨_, rfl⟩, k⟩
end
/-! ### equal in depth -/
section
variable {prog : Program} {w : World}
open SeqAt AutoSeq1 MeetsSeq MeetsSeq2 MeetsSeq3 in
theorem neLoop (a c : Addr) (p q : Array Value) (m m' : Nat) (da dc : Option Addr) (sa sc : Array (Option Value)) (hz : p.size = q.size) (k : Nat) :
    ∀ i : Nat, p.size - i = k → MeetsIn prog w (Builtin.«list.__eq__.loop» ⟨[.ref a, .ref c, rawInt i, rawInt 3], []⟩)
      (fun A R s => (s.heap.get? a = some { cls := .type "list", dict := da, data := .seq p m, slots := sa } ∧ s.heap.get? c = some { cls := .type "list", dict := dc, data := .seq q m', slots := sc }) ∧
        (∀ j (u : j < p.size) (v : j < q.size), SeqAt.EqP prog w A.in1 s p[j] q[j] true) ∧ R (.ok (.ret (.bool false))) s) := by
  induction k with
  | zero =>
    intro i hk A R st h
    obtain ⟨hp, gg, dd, tt, oo⟩ := st
    obtain ⟨⟨ea, ec⟩, _, fin⟩ := h
    have n1 : p[((i : Nat) : Int).toNat]? = none := by simp; omega
    have n2 : q[((i : Nat) : Int).toNat]? = none := by simp; omega
    wp_walk using AutoSeq1.wpAny_loadPart' ea, AutoSeq1.wpAny_loadPart' ec
    rw [n1, n2]
    wp_walk using AutoSeq1.wpAny_loadPart' ea, AutoSeq1.wpAny_loadPart' ec
    show R (.ok (.ret (.bool (p.size != q.size)))) _
    have e : (p.size != q.size) = false := by rw [hz]; simp
    rw [e]
    exact fin
  | succ k ih =>
    intro i hk A R st h
    obtain ⟨hp, gg, dd, tt, oo⟩ := st
    obtain ⟨⟨ea, ec⟩, he, fin⟩ := h
    have la : i < p.size := by omega
    have lc : i < q.size := by omega
    have n1 : p[((i : Nat) : Int).toNat]? = some p[i] := by simp [la]
    have n2 : q[((i : Nat) : Int).toNat]? = some q[i] := by simp [lc]
    have nx : ((i : Int) + 1) = ((i + 1 : Nat) : Int) := by push_cast; rfl
    wp_walk using AutoSeq1.wpAny_loadPart' ea, AutoSeq1.wpAny_loadPart' ec
    rw [n1, n2]
    refine wpAny_bind (he i la lc _ _ ?_)
    wp_walk
    rw [nx]
    refine ⟨plainId_quiet plain_eq_loop _, codeAny_builtin entry_eq_loop ?_⟩
    rw [Around.under_plainId plain_eq_loop _]
    exact ih (i + 1) (by omega) A R _ ⟨⟨ea, ec⟩, he, fin⟩
open SeqAt AutoSeq1 MeetsSeq MeetsSeq2 MeetsSeq3 in
theorem neAll (a c : Addr) (p q : Array Value) (m m' : Nat) (da dc : Option Addr) (sa sc : Array (Option Value)) (hz : p.size = q.size) :
    MeetsIn prog w (Builtin.«list.__ne__» ⟨[.ref a, .ref c], []⟩)
      (fun A R s => (s.heap.get? a = some { cls := .type "list", dict := da, data := .seq p m, slots := sa } ∧ s.heap.get? c = some { cls := .type "list", dict := dc, data := .seq q m', slots := sc }) ∧
        (∀ j (u : j < p.size) (v : j < q.size), SeqAt.EqP prog w A.in1 s p[j] q[j] true) ∧ R (.ok (.ret (.bool false))) s) := by
  intro A R st h
  obtain ⟨hp, gg, dd, tt, oo⟩ := st
  obtain ⟨⟨ea, ec⟩, he, fin⟩ := h
  have subl := AutoSeq1.sub_list_list
  have nz : ¬ (p.size != q.size) = true := by simp [hz]
  wp_walk using AutoSeq1.wpAny_loadPart' ea, AutoSeq1.wpAny_loadPart' ec
  refine ⟨plainId_quiet plain_eq_loop _, codeAny_builtin entry_eq_loop ?_⟩
  rw [Around.under_plainId plain_eq_loop _]
  exact neLoop a c p q m m' da dc sa sc hz _ 0 rfl A R _ ⟨⟨ea, ec⟩, he, fin⟩
end
section
variable {X : Cx} {pins : List (Addr × Obj)} {σ : L2.St} {H : Hp} {s : Shared}
/-- the same data -/
def W0 (K : PySem.W.Frag) (H : Hp) (x y : V) : Prop := ∃ d, Dp K H x d ∧ Dp K H y d ∧ SeqAt.shaped d = true ∧ PyData.eqv d d = true
/-- two dicts of the same keys with the same data -/
def WD (K : PySem.W.Frag) (H : Hp) (x y : V) : Prop := ∃ a b ks ls, x = .ref a ∧ y = .ref b ∧ Rd H a (.dK ks) ∧ Rd H b (.dK ls) ∧ ks.length = ls.length ∧ ∀ p ∈ ks, ∃ u, valV ls p.1 = some u ∧ W0 K H p.2 u
def W1 (K : PySem.W.Frag) (H : Hp) (x y : V) : Prop := W0 K H x y ∨ WD K H x y
theorem w0_run (I : Inv X pins σ H s) {A : Around} (hu : A.units + 64 < cLine) : ∀ x y v u, W0 X.K H x y → RelV x v → RelV y u → SeqAt.EqP X.prog X.w A s v u true := by
  rintro x y v u ⟨d, h1, h2, sh, ev⟩ rx ry
  obtain ⟨as, r1⟩ := Dp.reads I d x v h1 rx
  obtain ⟨bs, r2⟩ := Dp.reads I d y u h2 ry
  have k := SeqAt.eqAt_reads d d A s v u as bs r1 r2 (SeqAt.canLay_of_shaped sh) (SeqAt.canLay_of_shaped sh) (SeqAt.room_of_shaped sh hu)
  rw [ev] at k
  exact k.eqP
theorem wd_hits (I : Inv X pins σ H s) {A : Around} (hu : A.units + 65 < cLine) {a b : Addr} {ks ls : List (Key × V)} (ha : Rd H a (.dK ks)) (hb : Rd H b (.dK ls)) (hl : ks.length = ls.length) (hp : ∀ p ∈ ks, ∃ u, valV ls p.1 = some u ∧ W0 X.K H p.2 u) :
    ∃ va vb, (a == sysModules) = false ∧ (b == sysModules) = false ∧ s.heap.DictOf (mixKind X.prog X.w) a va ∧ s.heap.DictOf (mixKind X.prog X.w) b vb ∧ va.length = vb.length ∧ PySem.W.KeqHitsP X.prog X.w A.in1 s vb va true := by
  obtain ⟨_, ya, va, ra, da⟩ := dk_rd I.hok ha
  obtain ⟨_, yb, vb, rb, db⟩ := dk_rd I.hok hb
  refine ⟨va, vb, ya, yb, da, db, by rw [← ra.length, ← rb.length]; exact hl, hits_run (w0_run I (show A.units + 1 + 64 < cLine by omega)) rb ra hp⟩
theorem wd_run (I : Inv X pins σ H s) {A : Around} (hu : A.units + 65 < cLine) : ∀ x y v u, WD X.K H x y → RelV x v → RelV y u → SeqAt.EqP X.prog X.w A s v u true := by
  rintro x y v u ⟨a, b, ks, ls, rfl, rfl, ha, hb, hl, hp⟩ rx ry
  obtain rfl : v = Value.ref a := rx
  obtain rfl : u = Value.ref b := ry
  by_cases e : a = b
  · subst e
    exact (SeqAt.EqAt.same _).eqP
  · obtain ⟨va, vb, ya, yb, da, db, le, hits⟩ := wd_hits I hu ha hb hl hp
    refine SeqAt.eqP_refs e fun E Q q => ?_
    refine PySem.W.rcP_dicts (knd := mixKind X.prog X.w) (r := true) ya yb da db (by omega) (fun _ => hits) E Q ?_
    rw [show (va.length == vb.length && true) = true from by rw [le]; simp]
    exact q
theorem w1_run (I : Inv X pins σ H s) {A : Around} (hu : A.units + 65 < cLine) : ∀ x y v u, W1 X.K H x y → RelV x v → RelV y u → SeqAt.EqP X.prog X.w A s v u true := by
  rintro x y v u (h | h) rx ry
  · exact w0_run I (by omega) x y v u h rx ry
  · exact wd_run I hu x y v u h rx ry
/-- lists, item by item -/
def WL (K : PySem.W.Frag) (H : Hp) (x y : V) : Prop := ∃ a b xs ys, x = .ref a ∧ y = .ref b ∧ SqL K H a xs ∧ SqL K H b ys ∧ Paired (W1 K H) xs ys
/-- x == y, x != y, equal in depth -/
def rEqW (K : PySem.W.Frag) (r : Bool) : R2 := fun x y H Q => (WL K H x y ∨ WD K H x y) ∧ Q (.bl r) H
theorem op_eqW (hu : X.A.units + 66 < cLine) : OpR X (compareOp .Eq) (rEqW X.K true) := by
  intro pins s σ H x y v u Q I rx ry h
  obtain ⟨h, q⟩ := h
  rcases h with ⟨a, b, xs, ys, rfl, rfl, ha, hb, hp⟩ | ⟨a, b, ks, ls, rfl, rfl, ha, hb, hl, hp⟩
  · obtain rfl : v = Value.ref a := rx
    obtain rfl : u = Value.ref b := ry
    obtain ⟨us, r1, p1, _⟩ := I.list ha
    obtain ⟨ws, r2, p2, _⟩ := I.list hb
    have hsz : us.toArray.size = ws.toArray.size := by
      rw [List.size_toArray, List.size_toArray, ← r1.length, ← r2.length]
      exact Paired.length hp
    refine SeqAt.rcP_lists (e := fun _ => true) p1.isList p2.isList hsz (by omega) (fun j h1 h2 => ?_) _ _ ?_
    · have k := items_run (w1_run I (A := X.A.in1) (show X.A.units + 1 + 65 < cLine by omega)) hp r1 r2 j (by simpa using h1) (by simpa using h2)
      simpa using k
    · rw [show ((List.range us.toArray.size).all fun _ => true) = true from List.all_eq_true.mpr fun _ _ => rfl]
      exact ⟨.bl true, H, I, rfl, q⟩
  · obtain rfl : v = Value.ref a := rx
    obtain rfl : u = Value.ref b := ry
    obtain ⟨va, vb, ya, yb, da, db, le, hits⟩ := wd_hits I (A := X.A) (by omega) ha hb hl hp
    refine PySem.W.rcP_dicts (knd := mixKind X.prog X.w) (r := true) ya yb da db (by omega) (fun _ => hits) _ _ ?_
    rw [show (va.length == vb.length && true) = true from by rw [le]; simp]
    exact ⟨.bl true, H, I, rfl, q⟩
theorem op_neW (hu : X.A.units + 66 < cLine) : OpR X (compareOp .NotEq) (rEqW X.K false) := by
  intro pins s σ H x y v u Q I rx ry h
  obtain ⟨h, q⟩ := h
  rcases h with ⟨a, b, xs, ys, rfl, rfl, ha, hb, hp⟩ | ⟨a, b, ks, ls, rfl, rfl, ha, hb, hl, hp⟩
  · obtain rfl : v = Value.ref a := rx
    obtain rfl : u = Value.ref b := ry
    obtain ⟨us, r1, p1, _⟩ := I.list ha
    obtain ⟨ws, r2, p2, _⟩ := I.list hb
    have hsz : us.toArray.size = ws.toArray.size := by
      rw [List.size_toArray, List.size_toArray, ← r1.length, ← r2.length]
      exact Paired.length hp
    obtain ⟨⟨c1, d1, t1, l1⟩, ho, hc, n1, hd⟩ := id p1.isList
    obtain ⟨⟨c2, d2, t2, l2⟩, ho2, hc2, n2, hd2⟩ := id p2.isList
    simp only at hc hd hc2 hd2
    subst hc hd hc2 hd2
    have ta : s.TypeIs (.ref a) "list" := ⟨_, ho, rfl⟩
    have tb : s.TypeIs (.ref b) "list" := ⟨_, ho2, rfl⟩
    refine wpAny_richCompare_same_room (op := .NotEq) ta tb F.slot_list_ne (call_meetsIn F.slot_list_ne ta F.entry_list_ne (F.args_list_ne_2 _ _) (neAll a b us.toArray ws.toArray n1 n2 d1 d2 l1 l2 hsz) ⟨⟨ho, ho2⟩, fun j h1 h2 => ?_, ?_⟩) (by omega)
    · have k := items_run (w1_run I (A := X.A.in1) (show X.A.units + 1 + 65 < cLine by omega)) hp r1 r2 j (by simpa using h1) (by simpa using h2)
      simpa using k
    · exact ⟨(fun z => nomatch z), .bl false, H, I, rfl, q⟩
  · obtain rfl : v = Value.ref a := rx
    obtain rfl : u = Value.ref b := ry
    obtain ⟨va, vb, ya, yb, da, db, le, hits⟩ := wd_hits I (A := X.A) (by omega) ha hb hl hp
    refine wpAny_richCompare_same_room (op := .NotEq) da.typeIs db.typeIs PySem.F.slot_dict_ne (wpAny_call_entry PySem.F.slot_dict_ne da.typeIs PySem.F.entry_dict_ne ?_ (PySem.F.args_dict_ne_2 _ _)) (by omega)
    show wpAny _ _ (Builtin.Dict.dictSlotArgs "__ne__" ⟨[.ref a, .ref b], []⟩ >>= _) _ _ _
    unfold Builtin.Dict.dictSlotArgs
    refine wpAny_bind (wpAny_bind (wpAny_notOrdered_dict da.typeIs ?_))
    show wpAny _ _ (pure (Value.ref a, Value.ref b)) _ _ _
    refine wpAny_pure (wpAny_bind (wpAny_isInstance (T := "dict") db.typeIs PySem.F.sub_dict_dict ?_))
    simp only [Bool.not_true, Bool.false_eq_true, if_false]
    refine wpAny_bind (wpAny_pure (wpAny_bind (wpAny_pure (wpAny_bind (PySem.W.samePairsP ya yb da db (fun _ => hits) ?_)))))
    refine wpAny_pure ⟨_, rfl, (fun z => nomatch z), ?_⟩
    rw [show (va.length == vb.length && true) = true from by rw [le]; simp]
    exact ⟨.bl false, H, I, rfl, q⟩
end
end Z

set_option Elab.async false
set_option linter.all false
set_option maxRecDepth 100000
set_option maxHeartbeats 1000000
/-! readings: dicts with text keys (known or not), own objects walked by their dict, zip; lcm -/
namespace Z
open PySem PySem.Spec PyProof.Rows L2
/-- a dict by its keys in their order, which are texts, and their values -/
def dF (zs : List Str) (f : Str → V) : List (Key × V) := zs.map fun z => (.inr z, f z)
def upF {α : Type} (f : Str → α) (z : Str) (v : α) : Str → α := fun x => if x = z then v else f x
/-- a key more, or none -/
def adK (zs : List Str) (z : Str) : List Str := if z ∈ zs then zs else zs ++ [z]
theorem dF_len (zs : List Str) (f : Str → V) : (dF zs f).length = zs.length := by unfold dF; simp
theorem dF_keys (zs : List Str) (f : Str → V) : (dF zs f).map (·.1) = zs.map Sum.inr := by unfold dF; simp [List.map_map, Function.comp_def]
theorem dF_vals (zs : List Str) (f : Str → V) : (dF zs f).map (·.2) = zs.map f := by unfold dF; simp [List.map_map, Function.comp_def]
theorem dF_congr {zs : List Str} {f g : Str → V} (h : ∀ z ∈ zs, f z = g z) : dF zs f = dF zs g := List.map_congr_left fun z hz => by rw [h z hz]
theorem dF_cons (z : Str) (zs : List Str) (f : Str → V) : dF (z :: zs) f = (.inr z, f z) :: dF zs f := rfl
theorem dF_get {zs : List Str} {f : Str → V} {i : Nat} {k : Key} {v : V} (h : (dF zs f)[i]? = some (k, v)) : ∃ z, zs[i]? = some z ∧ k = .inr z ∧ v = f z := by
  unfold dF at h
  rw [List.getElem?_map] at h
  obtain ⟨z, hz, e⟩ := Option.map_eq_some_iff.mp h
  cases e
  exact ⟨z, hz, rfl, rfl⟩
theorem valV_dF (f : Str → V) (z : Str) : ∀ zs : List Str, valV (dF zs f) (.inr z) = if z ∈ zs then some (f z) else none
  | [] => rfl
  | y :: zs => by
    rw [dF_cons]
    by_cases h : y = z
    · subst h
      rw [if_pos List.mem_cons_self]
      exact valV_pos rfl
    · have hn : ¬ ((Sum.inr y : Key) = .inr z) := fun e => h (Sum.inr.inj e)
      rw [valV_neg hn, valV_dF f z zs]
      by_cases h2 : z ∈ zs
      · rw [if_pos h2, if_pos (List.mem_cons_of_mem _ h2)]
      · rw [if_neg h2, if_neg (fun g => (List.mem_cons.mp g).elim (fun e => h e.symm) h2)]
theorem valV_in {zs : List Str} {f : Str → V} {z : Str} (h : z ∈ zs) : valV (dF zs f) (.inr z) = some (f z) := by rw [valV_dF, if_pos h]
theorem valV_out {zs : List Str} {f : Str → V} {z : Str} (h : z ∉ zs) : valV (dF zs f) (.inr z) = none := by rw [valV_dF, if_neg h]
theorem putK_dF (zs : List Str) (f : Str → V) (z : Str) (v : V) : putK (dF zs f) (.inr z) v = dF (adK zs z) (upF f z v) := by
  unfold adK
  by_cases h : z ∈ zs
  · rw [if_pos h]
    unfold putK
    rw [valV_any, valV_in h, if_pos (by rfl)]
    unfold dF
    rw [List.map_map]
    refine List.map_congr_left fun y _ => ?_
    show (if (Sum.inr y : Key) = .inr z then ((Sum.inr y : Key), v) else (Sum.inr y, f y)) = (Sum.inr y, upF f z v y)
    unfold upF
    by_cases e : y = z
    · rw [if_pos (by rw [e]), if_pos e]
    · rw [if_neg (fun g => e (Sum.inr.inj g)), if_neg e]
  · rw [if_neg h, putK_new _ (valV_out h)]
    unfold dF
    rw [List.map_append]
    congr 1
    · refine List.map_congr_left fun y hy => ?_
      unfold upF
      rw [if_neg (fun e => h (by rw [← e]; exact hy))]
    · simp [upF]
theorem adK_new {zs : List Str} {z : Str} (h : z ∉ zs) : adK zs z = zs ++ [z] := if_neg h
theorem adK_old {zs : List Str} {z : Str} (h : z ∈ zs) : adK zs z = zs := if_pos h
theorem adK_nodup {zs : List Str} {z : Str} (h : zs.Nodup) : (adK zs z).Nodup := by
  unfold adK
  split
  · exact h
  · rename_i hn
    exact List.nodup_append.mpr ⟨h, by simp, fun a ha b hb e => by rw [List.mem_singleton.mp hb] at e; exact hn (by rw [← e]; exact ha)⟩
theorem mem_adK {zs : List Str} {z y : Str} : y ∈ adK zs z ↔ y ∈ zs ∨ y = z := by
  unfold adK
  split
  · rename_i h
    exact ⟨.inl, fun g => g.elim id fun e => by rw [e]; exact h⟩
  · rw [List.mem_append, List.mem_singleton]
theorem adK_len {zs : List Str} {z : Str} : (adK zs z).length ≤ zs.length + 1 := by
  unfold adK
  split
  · omega
  · simp
theorem mergeK_dF_go (f : Str → V) : ∀ (more zs : List Str), (zs ++ more).Nodup → mergeK (dF zs f) (dF more f) = dF (zs ++ more) f
  | [], zs, _ => by rw [List.append_nil]; rfl
  | y :: more, zs, h => by
    show mergeK (putK (dF zs f) (.inr y) (f y)) (dF more f) = _
    have hy : y ∉ zs := fun g => by
      have := (List.nodup_append.mp h).2.2 y g y List.mem_cons_self
      exact this rfl
    rw [putK_dF, adK_new hy, dF_congr (g := f) fun x _ => by unfold upF; by_cases e : x = y <;> simp [e]]
    rw [mergeK_dF_go f more (zs ++ [y]) (by rw [List.append_assoc]; exact h), List.append_assoc]
    rfl
theorem mergeK_dF {zs : List Str} {f : Str → V} (h : zs.Nodup) : mergeK [] (dF zs f) = dF zs f := by
  have := mergeK_dF_go f zs [] (by simpa using h)
  simpa [dF] using this
theorem dropK_dF (zs : List Str) (f : Str → V) (z : Str) : dropK (dF zs f) (.inr z) = dF (zs.filter fun y => decide (y ≠ z)) f := by
  unfold dropK dF
  rw [List.filter_map]
  congr 1
  refine List.filter_congr fun y _ => ?_
  simp
/-! ### walks -/
section
variable {K : PySem.W.Frag} {σ : L2.St} {H H0 : Hp} {D : Ends} {te tl tk tv td ty tx : TE} {tt : TT} {tr : TA} {g : TG} {tb : TS} {Q : VK} {a d : Addr} {o : Obj} {zs : List Str} {f : Str → V}
def rForKeys (g : TG) (tb : TS) (D : Ends) (σ : L2.St) (x : V) (H1 : Hp) : Prop := ∃ d o, x = .ref d ∧ ((∃ kvs, H1 d = some (.frz o (.dK kvs)) ∧ rFor (Itk d o kvs) g tb D σ H1) ∨ ∃ kvs, H1 d = some (.frz o (.dT kvs)) ∧ rFor (Itkt d o kvs) g tb D σ H1)
theorem i_forK0 (h : td σ H (fun x H1 => rForKeys g tb D σ x H1)) : tFor (iKeys td) g tb D σ H := h
theorem forKeys (Pv : Nat → L2.St → Hp → Prop) (e : H0 d = some (.frz o (.dK (dF zs f)))) (h0 : Pv 0 σ H) (hl : ∀ i σ H1, Pv i σ H1 → AtS H0 d H1)
    (hs : ∀ i z σ H, zs[i]? = some z → Pv i σ H → g (.str z) σ H fun σ2 H2 => tb { D with nx := Pv (i + 1), ct := Pv (i + 1), bk := D.nx } σ2 H2) (hd : ∀ σ H, Pv zs.length σ H → D.nx σ H) : rFor (Itk d o (dF zs f)) g tb D σ H := by
  refine for_it (walk_keys (kvs := dF zs f)) Pv h0 (fun i σ H1 _ p => hl i σ H1 p _ e) (fun i x σ H H' hi p y => ?_) fun σ H p => hd σ H (by rw [dF_len] at p; exact p)
  obtain ⟨rfl, k, v, e1, rfl⟩ := y
  obtain ⟨z, hz, rfl, _⟩ := dF_get e1
  exact hs i z σ _ hz p
theorem i_forK (Pv : Nat → L2.St → Hp → Prop) (e : H0 d = some (.frz o (.dK (dF zs f)))) (h0 : Pv 0 σ H) (hl : ∀ i σ H1, Pv i σ H1 → AtS H0 d H1)
    (hs : ∀ i z σ H, zs[i]? = some z → Pv i σ H → g (.str z) σ H fun σ2 H2 => tb { D with nx := Pv (i + 1), ct := Pv (i + 1), bk := D.nx } σ2 H2) (hd : ∀ σ H, Pv zs.length σ H → D.nx σ H) : rForKeys g tb D σ (.ref d) H :=
  ⟨d, o, rfl, .inl ⟨_, hl 0 σ H h0 _ e, forKeys Pv e h0 hl hs hd⟩⟩
/-- a comprehension over J -/
def rLcJ (J : It) (g : TG) (tt : TT) (te : TE) (vs : List Nat) (σ : L2.St) (Q : VK) (H1 : Hp) : Prop := ∀ D, H1 D = none → ∃ W : Nat → Nat → Hp → Prop, (∃ m, W 0 m (upd H1 D (.lst []))) ∧ ∀ i m H, W i m H →
  (J.stop i H ∧ Q (.ref D) H) ∨ (J.go i H ∧ ∃ Nx : Hp → Prop, (∀ H', Nx H' → ∃ m', m' < m ∧ W (i + 1) m' H') ∧ ∀ x H', J.yld i H x H' → g x (wipe σ vs) H' fun σ2 H2 => wipe σ2 vs = wipe σ vs ∧ tt σ2 H2 fun b H3 =>
    if b = true then te σ2 H3 fun y H4 => ∃ acc, H4 D = some (.lst acc) ∧ acc.length < sizeLine ∧ Nx (upd H4 D (.lst (acc ++ [y]))) else Nx H3)
theorem lcKeys {vs : List Nat} (Pv : Addr → Nat → List V → Hp → Prop) (e : H0 d = some (.frz o (.dK (dF zs f)))) (h0 : ∀ D H', H D = none → Same H H' → H' D = some (.lst []) → (∀ b, b ≠ D → H' b = H b) → Pv D 0 [] H')
    (hl : ∀ D i ys H1, Pv D i ys H1 → AtS H0 d H1)
    (hs : ∀ i z D ys H1, H D = none → zs[i]? = some z → H1 D = some (.lst ys) → Pv D i ys H1 → g (.str z) (wipe σ vs) H1 fun σ2 H2 => wipe σ2 vs = wipe σ vs ∧ tt σ2 H2 fun b H3 => if b = true then te σ2 H3 fun y H4 => rLcE D (Pv D) i y H4 else LcS D (Pv D) (i + 1) H3)
    (hd : ∀ D ys H1, H D = none → H1 D = some (.lst ys) → Pv D zs.length ys H1 → Q (.ref D) H1) : rLcJ (Itk d o (dF zs f)) g tt te vs σ Q H := by
  intro D hD
  refine lc_it (walk_keys (kvs := dF zs f)) (LcS D (Pv D)) ⟨[], upd_same, h0 D _ hD (fun b o e => by rw [upd_ne (ne_of_none e hD)]; exact e) upd_same (fun b hb => upd_ne hb)⟩ ?_ ?_ ?_
  · rintro i H' _ ⟨ys, _, p⟩
    exact hl D i ys H' p _ e
  · rintro i x H1 H2 hi ⟨ys, hD', p⟩ ⟨rfl, k, v, e1, rfl⟩
    obtain ⟨z, hz, rfl, _⟩ := dF_get e1
    exact hs i z D ys _ hD hz hD' p
  · rintro H' ⟨ys, hD', p⟩
    rw [dF_len] at p
    exact hd D ys H' hD hD' p
def rLcKeys (g : TG) (tt : TT) (te : TE) (vs : List Nat) (σ : L2.St) (Q : VK) (x : V) (H1 : Hp) : Prop := ∃ d o, x = .ref d ∧ ((∃ kvs, H1 d = some (.frz o (.dK kvs)) ∧ rLcJ (Itk d o kvs) g tt te vs σ Q H1) ∨ ∃ kvs, H1 d = some (.frz o (.dT kvs)) ∧ rLcJ (Itkt d o kvs) g tt te vs σ Q H1)
theorem i_lcK0 {vs : List Nat} (h : td σ H (fun x H1 => rLcKeys g tt te vs σ Q x H1)) : tLc (iKeys td) g tt te vs σ H Q := h
theorem i_lcK {vs : List Nat} (e : H d = some (.frz o (.dK (dF zs f)))) (h : rLcJ (Itk d o (dF zs f)) g tt te vs σ Q H) : rLcKeys g tt te vs σ Q (.ref d) H := ⟨d, o, rfl, .inl ⟨_, e, h⟩⟩
/-! own objects -/
def rForOwn (C : Addr) (sp : Nat → Sp) (g : TG) (tb : TS) (D : Ends) (σ : L2.St) (x : V) (H1 : Hp) : Prop := ∃ a d o kvs, x = .ref a ∧ OwnD C sp a d o kvs H1 ∧ rFor (Itk d o kvs) g tb D σ H1
theorem i_forO0 {C : Addr} {sp : Nat → Sp} (h : te σ H (fun x H1 => rForOwn C sp g tb D σ x H1)) : tFor (iOwnD C sp te) g tb D σ H := h
theorem i_forO {C : Addr} {sp : Nat → Sp} {kvs : List (Key × V)} (w : OwnD C sp a d o kvs H) (h : rFor (Itk d o kvs) g tb D σ H) : rForOwn C sp g tb D σ (.ref a) H := ⟨a, d, o, kvs, rfl, w, h⟩
def rLcOwn (C : Addr) (sp : Nat → Sp) (g : TG) (tt : TT) (te : TE) (vs : List Nat) (σ : L2.St) (Q : VK) (x : V) (H1 : Hp) : Prop := ∃ a d o kvs, x = .ref a ∧ OwnD C sp a d o kvs H1 ∧ rLcJ (Itk d o kvs) g tt te vs σ Q H1
theorem i_lcO0 {C : Addr} {sp : Nat → Sp} {vs : List Nat} (h : tl σ H (fun x H1 => rLcOwn C sp g tt te vs σ Q x H1)) : tLc (iOwnD C sp tl) g tt te vs σ H Q := h
theorem i_lcO {C : Addr} {sp : Nat → Sp} {vs : List Nat} {kvs : List (Key × V)} (w : OwnD C sp a d o kvs H) (h : rLcJ (Itk d o kvs) g tt te vs σ Q H) : rLcOwn C sp g tt te vs σ Q (.ref a) H := ⟨a, d, o, kvs, rfl, w, h⟩
/-! zip of two lists of one length -/
def rForZip (K : PySem.W.Frag) (g : TG) (tb : TS) (D : Ends) (σ : L2.St) (vs : List V) (H1 : Hp) : Prop := ∃ a b xs ys, vs = [.ref a, .ref b] ∧ SqL K H1 a xs ∧ SqL K H1 b ys ∧ rFor (Itz K a b) g tb D σ H1
theorem i_forZ0 (h : tr σ H (fun vs H1 => rForZip K g tb D σ vs H1)) : tFor (iZip K tr) g tb D σ H := h
theorem i_forZ {b : Addr} {xs ys : List V} (Pv : Nat → L2.St → Hp → Prop) (ha : SqL K H0 a xs) (hb : SqL K H0 b ys) (hl : xs.length = ys.length) (h0 : Pv 0 σ H) (hk : ∀ i σ H1, Pv i σ H1 → Same H0 H1)
    (hs : ∀ i x y T σ H H2, xs[i]? = some x → ys[i]? = some y → Pv i σ H → H T = none → Same H H2 → H2 T = some (.tup [x, y]) → (∀ b, b ≠ T → H2 b = H b) → g (.ref T) σ H2 fun σ2 H2 => tb { D with nx := Pv (i + 1), ct := Pv (i + 1), bk := D.nx } σ2 H2)
    (hd : ∀ σ H, Pv xs.length σ H → D.nx σ H) : rForZip K g tb D σ [.ref a, .ref b] H := by
  refine ⟨a, b, xs, ys, rfl, (hk _ _ _ h0).seq ha, (hk _ _ _ h0).seq hb, for_it (walk_zip (n := xs.length) (by omega)) Pv h0 (fun i σ H1 _ p => ⟨(hk i σ H1 p).seq ha, (hk i σ H1 p).seq hb⟩) (fun i v σ H H' hi p y => ?_) hd⟩
  obtain ⟨T, x, z, rfl, hT, rfl, e1, e2⟩ := y
  exact hs i x z T σ H _ e1 e2 p hT (fun b o e => by rw [upd_ne (ne_of_none e hT)]; exact e) upd_same fun b hb => upd_ne hb
/-! dicts, read -/
theorem i_dgetR {z : Str} {v : V} {kvs : List (Key × V)} (e : Rd H a (.dK kvs)) (l : valV kvs (.inr z) = some v) (h : Q v H) : rDGet (.ref a) (.str z) H Q := ⟨a, v, rfl, .inl ⟨kvs, .inr z, e, rfl, l.symm⟩, h⟩
theorem i_dinR {z : Str} {b : Bool} {kvs : List (Key × V)} (e : Rd H a (.dK kvs)) (l : (valV kvs (.inr z)).isSome = b) (h : Q (.bl b) H) : rDIn (.str z) (.ref a) H Q := ⟨a, _, rfl, .inl ⟨kvs, .inr z, e, rfl, rfl⟩, by rw [l]; exact h⟩
def rG2b (a : Addr) (y z : V) (H3 : Hp) (Q : VK) : Prop := ∃ o, DGet H3 a y o ∧ Q (o.getD z) H3
def rG2 (ty tx : TE) (σ : L2.St) (Q : VK) (x : V) (H1 : Hp) : Prop := ∃ a, x = .ref a ∧ IsD H1 a ∧ ty σ H1 fun y H2 => tx σ H2 fun z H3 => rG2b a y z H3 Q
theorem i_dget20 (h : td σ H (fun x H1 => rG2 ty tx σ Q x H1)) : tDGet2 td ty tx σ H Q := h
theorem i_dget2 {kvs : List (Key × V)} (e : Rd H a (.dK kvs)) (h : ty σ H fun y H2 => tx σ H2 fun z H3 => rG2b a y z H3 Q) : rG2 ty tx σ Q (.ref a) H := ⟨a, rfl, .inl ⟨kvs, e⟩, h⟩
theorem i_dget2b {kvs : List (Key × V)} {z : Str} {v : V} (e : Rd H a (.dK kvs)) (h : Q ((valV kvs (.inr z)).getD v) H) : rG2b a (.str z) v H Q := ⟨_, .inl ⟨kvs, .inr z, e, rfl, rfl⟩, h⟩
def rP1b (a : Addr) (y : V) (H2 : Hp) (Q : VK) : Prop := ∃ kvs k v, H2 a = some (.dK kvs) ∧ y = kV k ∧ valV kvs k = some v ∧ Q v (upd H2 a (.dK (dropK kvs k)))
def rP1 (ty : TE) (σ : L2.St) (Q : VK) (x : V) (H1 : Hp) : Prop := ∃ a, x = .ref a ∧ IsD H1 a ∧ ty σ H1 fun y H2 => rP1b a y H2 Q
theorem i_dpop0 (h : td σ H (fun x H1 => rP1 ty σ Q x H1)) : tDPop1 td ty σ H Q := h
theorem i_dpop {kvs : List (Key × V)} (e : H a = some (.dK kvs)) (h : ty σ H fun y H2 => rP1b a y H2 Q) : rP1 ty σ Q (.ref a) H := ⟨a, rfl, .inl ⟨kvs, .inl e⟩, h⟩
theorem i_dpopb {kvs : List (Key × V)} {z : Str} {v : V} (e : H a = some (.dK kvs)) (l : valV kvs (.inr z) = some v) (h : ∀ H', H' a = some (.dK (dropK kvs (.inr z))) → (∀ b, b ≠ a → H' b = H b) → Q v H') : rP1b a (.str z) H Q :=
  ⟨kvs, .inr z, v, e, rfl, l, h _ upd_same fun b hb => upd_ne hb⟩
theorem i_dputF {z : Str} {v : V} {P : Hp → Prop} (e : H a = some (.dK (dF zs f))) (l : zs.length < 100000) (h : ∀ H4, H4 a = some (.dK (dF (adK zs z) (upF f z v))) → (∀ b, b ≠ a → H4 b = H b) → P H4) : rDPut v (.ref a) (.str z) H P :=
  i_dput e (by rw [dF_len]; exact l) fun H4 e4 o4 => h H4 (by rw [e4, putK_dF]) o4
theorem i_sortR {kvs : List (Key × V)} (e : Rd H a (.dK kvs)) (k : kvs.map (·.1) = zs.map Sum.inr) (l : zs.length < 64) (h : ∀ q H', H q = none → Same H H' → (∀ b, b ≠ q → H' b = H b) → H' q = some (.lst ((srt zs).map V.str)) → Q (.ref q) H') : rSortD [.ref a] H Q :=
  ⟨a, kvs, zs, rfl, e, k, l, fun ys q hp hs hq => by obtain rfl := srt_eq hp hs; exact h q _ hq (same_new hq) (fun b hb => upd_ne hb) upd_same⟩
theorem i_dictR {kvs : List (Key × V)} (e : Rd H a (.dK kvs)) (h : ∀ q H', H q = none → Same H H' → (∀ b, b ≠ q → H' b = H b) → H' q = some (.dK kvs) → Q (.ref q) H') : rDictD [.ref a] H Q :=
  ⟨a, kvs, rfl, e, fun q hq => h q _ hq (same_new hq) (fun b hb => upd_ne hb) upd_same⟩
/-- the dict is known from here on -/
theorem i_frz {t : TS} {u : HO} (e : H d = some u) (mu : Mut (some u)) (h : ∀ od H', H' d = some (.frz od u) → (∀ b, b ≠ d → H' b = H b) → t D σ H') : tFrz t D σ H := ⟨d, u, e, mu, fun od => h od _ upd_same fun b hb => upd_ne hb⟩
theorem i_vals0 (h : td σ H (fun x H1 => ∃ d o kvs, x = .ref d ∧ H1 d = some (.frz o (.dK kvs)) ∧ ∀ q, H1 q = none → Q (.ref q) (upd H1 q (ValO q d)))) : tVals td σ H Q := h
end
/-- dict of a list of pairs -/
def rDictP (K : PySem.W.Frag) : List V → Hp → VK → Prop := fun xs H Q => ∃ (a : Addr) (ps : List Addr) (kvs : List (Key × V)), xs = [.ref a] ∧ SqL K H a (ps.map V.ref) ∧ Paired (fun p kv => SqT K H p [kV kv.1, kv.2]) ps kvs ∧
    ∀ p, H p = none → Q (.ref p) (upd H p (.dK (mergeK [] kvs)))
section
variable {X : Cx} {K : PySem.W.Frag}
theorem k_dictP (hc : X.calm = true) (hK : X.K = K) : CallR X (.type "dict") (rDictP K) := by subst hK; exact call_dictP hc
theorem k_listD (hc : X.calm = true) : CallR X (.type "list") rListD := call_list_dK hc
theorem k_eqW (hK : X.K = K) (hu : X.A.units + 66 < cLine) : OpR X (compareOp .Eq) (rEqW K true) := by subst hK; exact op_eqW hu
theorem k_neW (hK : X.K = K) (hu : X.A.units + 66 < cLine) : OpR X (compareOp .NotEq) (rEqW K false) := by subst hK; exact op_neW hu
/-- the least common multiple -/
def rLcm : List V → Hp → VK → Prop := fun vs H Q => ∃ a b : Int, vs = [.int a, .int b] ∧ a.natAbs.log2 < 9000 ∧ b.natAbs.log2 < 9000 ∧ Q (.int ((Nat.lcm a.natAbs b.natAbs : Nat) : Int)) H
theorem log2_max {n m k : Nat} (hn : n.log2 < k) (hm : m.log2 < k) : (max n m).log2 < k := by
  rcases Nat.le_total n m with h | h
  · rw [Nat.max_eq_right h]; exact hm
  · rw [Nat.max_eq_left h]; exact hn
theorem cr_lcm : CallR X (.builtin "math.lcm") rLcm := by
  intro pins s σ H vs us Q I r h
  obtain ⟨a, b, rfl, h1, h2, q⟩ := h
  obtain ⟨t, u, rfl⟩ := Vals.int2 r
  have e1 : (max 1 a.natAbs).log2 < 9000 := log2_max (by decide) h1
  have e2 := log2_max h1 h2
  have sz : ((((Nat.lcm 1 a.natAbs).lcm b.natAbs : Nat) : Int)).natAbs.log2 < bitsLine := by
    rw [PySem.W.mc_lcm_one, Int.natAbs_natCast]
    have la : a.natAbs < 2 ^ 9000 := by
      by_cases z : a.natAbs = 0
      · rw [z]; exact Nat.two_pow_pos _
      · exact (Nat.log2_lt z).mp h1
    have lb : b.natAbs < 2 ^ 9000 := by
      by_cases z : b.natAbs = 0
      · rw [z]; exact Nat.two_pow_pos _
      · exact (Nat.log2_lt z).mp h2
    have le := PySem.W.mc_lcm_le a.natAbs b.natAbs
    have lt : a.natAbs.lcm b.natAbs < 2 ^ 18000 := by
      refine Nat.lt_of_le_of_lt le (Nat.lt_of_lt_of_le (Nat.mul_lt_mul'' la lb) ?_)
      rw [← Nat.pow_add]
      exact Nat.le_refl _
    by_cases z : a.natAbs.lcm b.natAbs = 0
    · rw [z]; decide
    · have := (Nat.log2_lt z).mpr lt
      unfold bitsLine
      omega
  refine call_function_meets PySem.W.MGF.kind_lcm PySem.W.MGF.plain_lcm PySem.W.MGF.entry_lcm (PySem.W.MGF.args_lcm _ _) (PySem.W.mg_run_lcm a t b u (by omega) (by omega) sz).meets ?_
  rw [PySem.W.mc_lcm_one]
  exact ⟨.int _, H, I.tok _, ⟨_, rfl⟩, q⟩
end
end Z

set_option Elab.async false
set_option linter.all false
set_option maxRecDepth 100000
set_option maxHeartbeats 1000000
/-! data that can be compared: lists, tuples, known and unknown dicts -/
namespace Z
open PySem PySem.Spec PyProof.Rows L2
mutual
theorem dpMono {K : PySem.W.Frag} {H H' : Hp} (s : Same H H') : ∀ {v : V} {d : PyData}, Dp K H v d → Dp K H' v d
  | _, _, .non => .non
  | _, _, .bl b => .bl b
  | _, _, .int i => .int i
  | _, _, .str x => .str x
  | _, _, .lst h hs => .lst (s.seq h) (dpMonoAll s hs)
  | _, _, .tup h hs => .tup (Same_seqT s h) (dpMonoAll s hs)
theorem dpMonoAll {K : PySem.W.Frag} {H H' : Hp} (s : Same H H') : ∀ {vs : List V} {ds : List PyData}, DpAll K H vs ds → DpAll K H' vs ds
  | _, _, .nil => .nil
  | _, _, .cons h hs => .cons (dpMono s h) (dpMonoAll s hs)
end
def Lay (n : Nat) (d : PyData) : Prop := d.canLay0 = true ∧ d.depth ≤ n
theorem lay_all {n : Nat} : ∀ {ds : List PyData}, (∀ d ∈ ds, Lay n d) → PyData.canLayAll0 ds = true ∧ PyData.depthAll ds ≤ n
  | [], _ => ⟨rfl, Nat.zero_le _⟩
  | d :: ds, h => by
    obtain ⟨h1, h2⟩ := h d List.mem_cons_self
    obtain ⟨h3, h4⟩ := lay_all fun e he => h e (List.mem_cons_of_mem _ he)
    refine ⟨?_, ?_⟩
    · unfold PyData.canLayAll0
      rw [h1, h3]
      rfl
    · unfold PyData.depthAll
      omega
theorem lay_list {n : Nat} {ds : List PyData} (h : ∀ d ∈ ds, Lay n d) : Lay (n + 1) (.list ds) := by
  obtain ⟨h1, h2⟩ := lay_all h
  exact ⟨by unfold PyData.canLay0; exact h1, by unfold PyData.depth; omega⟩
theorem lay_tup {n : Nat} {ds : List PyData} (h : ∀ d ∈ ds, Lay n d) : Lay (n + 1) (.tuple ds) := by
  obtain ⟨h1, h2⟩ := lay_all h
  exact ⟨by unfold PyData.canLay0; exact h1, by unfold PyData.depth; omega⟩
theorem Lay.mono {n m : Nat} {d : PyData} (h : Lay n d) (l : n ≤ m) : Lay m d := ⟨h.1, Nat.le_trans h.2 l⟩
theorem Lay.shaped {n : Nat} {d : PyData} (h : Lay n d) (hn : n ≤ 64) : SeqAt.shaped d = true := by
  unfold SeqAt.shaped
  rw [h.1, decide_eq_true (Nat.le_trans h.2 hn)]
  rfl
theorem lay_int (n : Int) : Lay 0 (.int n) := ⟨rfl, Nat.le_refl _⟩
theorem lay_str {z : Str} (h : PyData.strOk z = true) : Lay 0 (.str z) := ⟨by unfold PyData.canLay0; exact h, Nat.le_refl _⟩
mutual
theorem eqv_refl : ∀ d : PyData, d.canLay0 = true → PyData.eqv d d = true
  | .none, _ => rfl
  | .bool a, _ => by show (a == a) = true; simp
  | .int a, _ => by show (a == a) = true; simp
  | .str a, _ => by show (a == a) = true; simp
  | .list xs, h => by
    unfold PyData.canLay0 at h
    show PyData.eqvAll xs xs = true
    exact eqv_reflAll xs h
  | .tuple xs, h => by
    unfold PyData.canLay0 at h
    show PyData.eqvAll xs xs = true
    exact eqv_reflAll xs h
  | .dict _, h => by unfold PyData.canLay0 at h; cases h
theorem eqv_reflAll : ∀ ds : List PyData, PyData.canLayAll0 ds = true → PyData.eqvAll ds ds = true
  | [], _ => rfl
  | d :: ds, h => by
    unfold PyData.canLayAll0 at h
    rw [Bool.and_eq_true] at h
    show (PyData.eqv d d && PyData.eqvAll ds ds) = true
    rw [eqv_refl d h.1, eqv_reflAll ds h.2]
    rfl
end

def rDNIn (y x : V) (H2 : Hp) (Q : VK) : Prop := ∃ a o, x = .ref a ∧ DGet H2 a y o ∧ Q (.bl (!o.isSome)) H2
theorem i_dnin0 {σ : L2.St} {H : Hp} {Q : VK} {ty td : TE} (h : ty σ H (fun y H1 => td σ H1 (fun x H2 => rDNIn y x H2 Q))) : tDNotIn ty td σ H Q := h
theorem i_dninT {H : Hp} {Q : VK} {a : Addr} {z : Str} {kvs : List (Key × V)} {v : V} (e : Rd H a (.dK kvs)) (l : valV kvs (.inr z) = some v) (h : Q (.bl false) H) : rDNIn (.str z) (.ref a) H Q := ⟨a, _, rfl, .inl ⟨kvs, .inr z, e, rfl, rfl⟩, by rw [l]; exact h⟩
theorem i_dninF {H : Hp} {Q : VK} {a : Addr} {z : Str} {kvs : List (Key × V)} (e : Rd H a (.dK kvs)) (l : valV kvs (.inr z) = none) (h : Q (.bl true) H) : rDNIn (.str z) (.ref a) H Q := ⟨a, _, rfl, .inl ⟨kvs, .inr z, e, rfl, rfl⟩, by rw [l]; exact h⟩
theorem i_neDR {K : PySem.W.Frag} {p q : Addr} {H : Hp} {Q : VK} {n : Nat} {d : PyData} (hd : Lay n d) (hn : n ≤ 64) (h1 : Dp K H (.ref p) d) (h2 : Dp K H (.ref q) d) (h : Q (.bl false) H) : rNeD K (.ref p) (.ref q) H Q := by
  refine ⟨_, _, h1, h2, hd.shaped hn, hd.shaped hn, ?_⟩
  rw [eqv_refl d hd.1]
  exact h
theorem w0_of {K : PySem.W.Frag} {H : Hp} {x y : V} {n : Nat} {d : PyData} (hd : Lay n d) (hn : n ≤ 64) (h1 : Dp K H x d) (h2 : Dp K H y d) : W0 K H x y := ⟨d, h1, h2, hd.shaped hn, eqv_refl d hd.1⟩
theorem w0_str {K : PySem.W.Frag} {H : Hp} {z : Str} (h : PyData.strOk z = true) : W0 K H (.str z) (.str z) := w0_of (lay_str h) (by decide) (.str z) (.str z)
theorem wd_of {K : PySem.W.Frag} {H : Hp} {a b : Addr} {zs ys : List Str} {f g : Str → V} (ha : Rd H a (.dK (dF zs f))) (hb : Rd H b (.dK (dF ys g))) (hl : zs.length = ys.length) (h : ∀ z ∈ zs, z ∈ ys ∧ W0 K H (f z) (g z)) : WD K H (.ref a) (.ref b) := by
  refine ⟨a, b, _, _, rfl, rfl, ha, hb, by rw [dF_len, dF_len]; exact hl, fun p hp => ?_⟩
  obtain ⟨z, hz, rfl⟩ := List.mem_map.mp hp
  obtain ⟨h1, h2⟩ := h z hz
  exact ⟨g z, valV_in h1, h2⟩
theorem wl2 {K : PySem.W.Frag} {H : Hp} {a b : Addr} {x y x' y' : V} (ha : H a = some (.lst [x, y])) (hb : H b = some (.lst [x', y'])) (h1 : W1 K H x x') (h2 : W1 K H y y') : WL K H (.ref a) (.ref b) := ⟨a, b, _, _, rfl, rfl, .of ha, .of hb, .cons h1 (.cons h2 .nil)⟩
theorem i_neW {K : PySem.W.Frag} {H : Hp} {x y : V} {Q : VK} (h : WL K H x y ∨ WD K H x y) (q : Q (.bl false) H) : rEqW K false x y H Q := ⟨h, q⟩
end Z

set_option Elab.async false
set_option linter.all false
set_option maxRecDepth 100000
set_option maxHeartbeats 1000000
/-! a dict that was known is open again; == and != of dicts with an answer of either kind -/
namespace Z
open PySem PySem.Spec PyProof.Rows L2
section
variable {X : Cx} {st : Stmt} {t : TS}
/-- from here on the dict at d may be written again (it was none of the caller's known ones) -/
def tUnf (H0 : Hp) (t : TS) : TS := fun D σ H => ∃ d od u, H d = some (.frz od u) ∧ (∀ o' u', H0 d ≠ some (.frz o' u')) ∧ t D σ (upd H d u)
theorem ps_unf (h : PS X st t) : PS X st (tUnf X.H_0 t) := by
  refine ⟨fun pins s σ H D I q => ?_⟩
  obtain ⟨d, od, u, hd, hn, q⟩ := q
  exact h.run pins s σ _ D (I.unlock hd hn) q
end
theorem i_unf {t : TS} {D : Ends} {σ : L2.St} {H H0 : Hp} {d : Addr} {od : Obj} {u : HO} (e : H d = some (.frz od u)) (n : H0 d = none) (h : ∀ H', H' d = some u → (∀ b, b ≠ d → H' b = H b) → t D σ H') : tUnf H0 t D σ H :=
  ⟨d, od, u, e, fun o' u' x => (by rw [n] at x; cases x), h _ upd_same fun b hb => upd_ne hb⟩
/-- what == of two dicts of data gives -/
def eqvD (ks ls : List (Key × V)) (f g : Key → PyData) : Bool := ks.length == ls.length && ks.all fun p => (valV ls p.1).isSome && PyData.eqv (f p.1) (g p.1)
def rEqDG (K : PySem.W.Frag) (neg : Bool) : R2 := fun x y H Q => ∃ (a b : Addr) (ks ls : List (Key × V)) (f g : Key → PyData), x = .ref a ∧ y = .ref b ∧ Rd H a (.dK ks) ∧ Rd H b (.dK ls) ∧
  (∀ p ∈ ks, Dp K H p.2 (f p.1) ∧ SeqAt.shaped (f p.1) = true) ∧ (∀ p ∈ ls, Dp K H p.2 (g p.1) ∧ SeqAt.shaped (g p.1) = true) ∧ Q (.bl (if neg then !eqvD ks ls f g else eqvD ks ls f g)) H
theorem valV_find : ∀ {ls : List (Key × V)} {k : Key} {v : V}, valV ls k = some v → (k, v) ∈ ls
  | p :: ls, k, v, h => by
    by_cases e : p.1 = k
    · rw [valV_pos e] at h
      cases h
      rw [← e]
      exact List.mem_cons_self
    · rw [valV_neg e] at h
      exact List.mem_cons_of_mem _ (valV_find h)
section
variable {X : Cx} {pins : List (Addr × Obj)} {σ : L2.St} {H : Hp} {s : Shared}
theorem dg_hits (I : Inv X pins σ H s) {A : Around} (hu : A.units + 65 < cLine) {ls : List (Key × V)} {vb : List (Key × Value)} {f g : Key → PyData} (rb : KV ls vb) (hg : ∀ p ∈ ls, Dp X.K H p.2 (g p.1) ∧ SeqAt.shaped (g p.1) = true) :
    ∀ {ks : List (Key × V)} {va : List (Key × Value)}, KV ks va → (∀ p ∈ ks, Dp X.K H p.2 (f p.1) ∧ SeqAt.shaped (f p.1) = true) → PySem.W.KeqHits A.in1 s vb va (ks.all fun p => (valV ls p.1).isSome && PyData.eqv (f p.1) (g p.1)) := by
  intro ks va r
  unfold KV at r
  induction r with
  | nil => intro _; exact .nil
  | @cons p q ps qs h t ih =>
    intro hd
    obtain ⟨h1, h2⟩ := h
    obtain ⟨key, w⟩ := q
    have h1' : p.1 = key := h1
    subst h1'
    cases hv : valV ls p.1 with
    | none =>
      have rr : RelO none (valueAt vb p.1) := by rw [← hv]; exact rb.val p.1
      have e : ((p :: ps).all fun p => (valV ls p.1).isSome && PyData.eqv (f p.1) (g p.1)) = false := by
        rw [List.all_cons, hv]
        rfl
      rw [e]
      refine .miss ?_
      cases z : valueAt vb p.1 with
      | none => rfl
      | some u => rw [z] at rr; exact absurd rr (by intro k; cases k)
    | some v =>
      have rr : RelO (some v) (valueAt vb p.1) := by rw [← hv]; exact rb.val p.1
      obtain ⟨y, hy, ry⟩ := rr.some_of
      obtain ⟨d1, s1⟩ := hd p List.mem_cons_self
      obtain ⟨d2, s2⟩ := hg _ (valV_find hv)
      obtain ⟨as, r1⟩ := Dp.reads I _ _ w d1 h2
      obtain ⟨bs, r2⟩ := Dp.reads I _ _ y d2 ry
      have e : ((p :: ps).all fun p => (valV ls p.1).isSome && PyData.eqv (f p.1) (g p.1)) = (PyData.eqv (f p.1) (g p.1) && (ps.all fun p => (valV ls p.1).isSome && PyData.eqv (f p.1) (g p.1))) := by
        rw [List.all_cons, hv]
        rfl
      rw [e]
      exact .hit hy (PySem.W.keq_at r1 r2 s1 s2 (by show A.units + 1 + 64 < cLine; omega)) (ih fun p' h' => hd p' (List.mem_cons_of_mem _ h'))
theorem op_eqDG (hu : X.A.units + 66 < cLine) : OpR X (compareOp .Eq) (rEqDG X.K false) := by
  intro pins s σ H x y v u Q I rx ry h
  obtain ⟨a, b, ks, ls, f, g, rfl, rfl, ea, eb, hf, hg, q⟩ := h
  obtain rfl : v = Value.ref a := rx
  obtain rfl : u = Value.ref b := ry
  obtain ⟨_, ya, va, ra, da⟩ := dk_rd I.hok ea
  obtain ⟨_, yb, vb, rb, db⟩ := dk_rd I.hok eb
  refine PySem.W.keq_eq (knd := mixKind X.prog X.w) ya yb da db (by omega) (fun _ => dg_hits I (A := X.A) (by omega) rb hg ra hf) ⟨.bl _, H, I, ?_, q⟩
  show Value.bool _ = Value.bool _
  rw [← ra.length, ← rb.length]
  rfl
end
end Z

set_option Elab.async false
set_option linter.all false
set_option maxRecDepth 100000
set_option maxHeartbeats 2000000
/-! sets of texts: set(names) of a list or a tuple, sorted(set(names)) -/
namespace Z
open PySem PySem.Spec PyProof.Rows L2
/-- the text that an entry holds -/
def enT (e : Int × Value) : Str := match e.2 with | .str x _ => x | _ => Str.empty
/-- an entry that holds a text, with its hash -/
def EnT (P : Program) (w : World) (e : Int × Value) : Prop := ∃ x tk, e.2 = .str x tk ∧ e.1 = (strKind P w).hash x
/-- the set at a has the texts zs -/
def TxSet (P : Program) (w : World) (h : Heap) (a : Addr) (zs : List Str) : Prop := ∃ o es ep tb,
  (h.get? a = some o ∧ o.ExactSet ∧ o.data = .set es ep tb) ∧ ((∀ e ∈ es.toList, EnT P w e) ∧ (es.toList.map enT).Perm zs ∧ zs.Nodup) ∧
    (es.size < scanBound ∧ tb.fits es.size = true) ∧ Ris tb.place.toList ∧ (w.params.followText "set-order" = true ∨ tb.led = true)
section
variable {P : Program} {w : World} {h h' : Heap} {a : Addr} {zs ys : List Str}
theorem TxSet.stay (R : TxSet P w h a zs) (k : ∀ o, h.get? a = some o → h'.get? a = some o) : TxSet P w h' a zs :=
  let ⟨o, es, ep, tb, ⟨ho, r1⟩, r2⟩ := R; ⟨o, es, ep, tb, ⟨k o ho, r1⟩, r2⟩
theorem TxSet.order (R : TxSet P w h a zs) (p : zs.Perm ys) : TxSet P w h a ys :=
  let ⟨o, es, ep, tb, r1, ⟨r2, r3, r4⟩, r5⟩ := R; ⟨o, es, ep, tb, r1, ⟨r2, r3.trans p, p.nodup_iff.mp r4⟩, r5⟩
theorem enT_is {e : Int × Value} (g : EnT P w e) (x : Str) : (strKind P w).is x e.2 = true ↔ enT e = x := by
  obtain ⟨y, tk, e1, _⟩ := g
  unfold enT
  rw [e1]
  show ((y == x) = true) ↔ _
  exact beq_iff_eq
theorem enT_all {l : List (Int × Value)} (g : ∀ e ∈ l, EnT P w e) : ElemsOf (strKind P w) l := by
  intro e he
  obtain ⟨y, tk, e1, e2⟩ := g e he
  refine ⟨⟨y, ?_, e2⟩, ?_⟩
  · rw [e1]; exact strKind_is P w y tk
  · rw [e1]; rfl
end
section
variable {P : Program} {w : World} {A : Around} {E : Value → Shared → Prop} {s : Shared} {a : Addr} {zs : List Str}
/-- what an add does after it found a place -/
theorem tx_tail {give : Bool → Sem Unit} (free : ∀ (b : Bool) (s1 : Shared) (T : Unit → Shared → Prop), T () s1 → wpAny (model P w) A (give b) T E s1)
    {o : Obj} {es l1 : Array (Int × Value)} {ep : Nat} {tb t1 : SetTable} {ys : List Str} {gone : Bool} {R : Option Bool → Shared → Prop}
    (at0 : s.heap.get? a = some o ∧ o.ExactSet ∧ o.data = .set es ep tb) (c1 : (∀ e ∈ l1.toList, EnT P w e) ∧ (l1.toList.map enT).Perm ys ∧ ys.Nodup) (c2 : l1.size < scanBound ∧ t1.fits l1.size = true)
    (c3 : Ris t1.place.toList) (c4 : w.params.followText "set-order" = true ∨ t1.led = true) (k : ∀ h1, s.heap.SameBut a h1 → TxSet P w h1 a ys → R (some true) { s with heap := h1 }) :
    wpAny (model P w) A (storeSet a l1 t1 >>= fun _ => if (!gone && t1.tooFull) = true then (give (relayAll t1 l1 (SetTable.grown l1.size)).2.2 >>= fun _ =>
      storeSet a (relayAll t1 l1 (SetTable.grown l1.size)).1 (relayAll t1 l1 (SetTable.grown l1.size)).2.1 >>= fun _ => pure (some true)) else pure (some true)) R E s := by
  obtain ⟨ho, ex, hd⟩ := at0
  obtain ⟨g, pm, nd⟩ := c1
  refine wpAny_bind (wpAny_storeSet_of ho hd ?_ (fits_of_scanBound c2.1))
  have at1 : (s.heap.update a (Obj.putSet l1 t1)).get? a = _ := store_at (es' := l1) (t' := t1) ho hd
  have same1 : s.heap.SameBut a (s.heap.update a (Obj.putSet l1 t1)) := Heap.SameBut.update ..
  by_cases full : (!gone && t1.tooFull) = true
  · rw [if_pos full]
    have p2 := relayAll_perm t1 l1 (SetTable.grown l1.size)
    have f2 := relayAll_fits t1 l1 (SetTable.grown l1.size)
    have r2 := relayAll_ris t1 l1 (SetTable.grown l1.size)
    have d2 := relayAll_led t1 l1 (SetTable.grown l1.size)
    revert p2 f2 r2 d2
    generalize relayAll t1 l1 (SetTable.grown l1.size) = out
    obtain ⟨l2, t2, gv⟩ := out
    intro p2 f2 r2 d2
    have n2 : l2.size = l1.size := by have := p2.length_eq; simpa using this
    have b2 : l2.size < scanBound := n2 ▸ c2.1
    refine wpAny_bind (free _ _ _ (wpAny_bind (wpAny_storeSet_of at1 rfl ?_ (fits_of_scanBound b2))))
    have at2 := store_at (es' := l2) (t' := t2) at1 rfl
    refine wpAny_pure (k _ (same1.trans (Heap.SameBut.update _ a _)) ⟨_, l2, _, t2, ⟨at2, ex, rfl⟩, ⟨fun e he => g e (p2.mem_iff.mp he), (p2.map enT).trans pm, nd⟩, ⟨b2, f2⟩, r2, ?_⟩)
    rcases c4 with c | c
    · exact .inl c
    · exact .inr (d2.trans c)
  · rw [if_neg full]
    exact wpAny_pure (k _ same1 ⟨_, l1, _, t1, ⟨at1, ex, rfl⟩, ⟨g, pm, nd⟩, c2, c3, c4⟩)
/-- a text is added -/
theorem tx_add {x : Str} {tk : Tok} {Q : Bool → Shared → Prop} (R : TxSet P w s.heap a zs) (room : zs.length + 1 < scanBound)
    (k : ∀ h1, s.heap.SameBut a h1 → TxSet P w h1 a (if x ∈ zs then zs else x :: zs) → Q (!decide (x ∈ zs)) { s with heap := h1 }) :
    wpAny (model P w) A (setAddHashed a (.str x tk) ((strKind P w).hash x)) Q E s := by
  obtain ⟨o, es, ep, tb, ⟨ho, ex, hd⟩, ⟨g, pm, nd⟩, ⟨bd, ft⟩, rs, ld⟩ := id R
  have key : (strKind P w).is x (.str x tk) = true := strKind_is P w x tk
  have els := enT_all g
  have scan : (Value.str x tk).scannable = true := rfl
  unfold setAddHashed setAddHashedIn
  refine wpAny_holding (wpAny_bind (wpAny_setState_of ho hd ft ?_))
  dsimp only
  rw [byScan_of scan bd els, if_pos rfl]
  unfold setAddByScan
  refine wpAny_bind (wpAny_bind (wpAny_rule (wpAny_bind (wpAny_setScan_of key ho hd ft els ?_))))
  have mem : x ∈ zs ↔ ∃ e ∈ es.toList, (strKind P w).is x e.2 = true := by
    rw [← pm.mem_iff, List.mem_map]
    exact ⟨fun ⟨e, he, q⟩ => ⟨e, he, (enT_is (g e he) x).mpr q⟩, fun ⟨e, he, q⟩ => ⟨e, he, (enT_is (g e he) x).mp q⟩⟩
  cases hf : es.toList.findIdx? (fun e => (strKind P w).is x e.2) with
  | some j =>
    obtain ⟨lt, q, _⟩ := List.findIdx?_eq_some_iff_getElem.mp hf
    have hx : x ∈ zs := mem.mpr ⟨_, List.getElem_mem lt, q⟩
    have k0 := k s.heap (Heap.SameBut.refl ..) (by rw [if_pos hx]; exact R)
    rw [decide_eq_true hx] at k0
    exact wpAny_pure (wpAny_pure k0)
  | none =>
    have hx : x ∉ zs := fun z => by
      obtain ⟨e, he, q⟩ := mem.mp z
      rw [List.findIdx?_eq_none_iff.mp hf e he] at q
      exact Bool.noConfusion q
    dsimp only
    have p1 := layNew_perm tb es ((strKind P w).hash x) (.str x tk)
    have f1 := layNew_fits tb es ((strKind P w).hash x) (.str x tk)
    have r1 := layNew_ris tb es ((strKind P w).hash x) (.str x tk) rs
    have d1 := layNew_led tb es ((strKind P w).hash x) (.str x tk)
    revert p1 f1 r1 d1
    generalize layNew tb es ((strKind P w).hash x) (.str x tk) = out
    obtain ⟨l1, t1, gone, gv⟩ := out
    intro p1 f1 r1 d1
    dsimp only at p1 f1 r1 d1 ⊢
    have q1 : l1.toList.Perm (((strKind P w).hash x, .str x tk) :: es.toList) := by
      rw [Array.toList_push] at p1
      exact p1.trans (List.perm_append_singleton _ _)
    have G1 : ∀ e ∈ l1.toList, EnT P w e := fun e he => (List.mem_cons.mp (q1.mem_iff.mp he)).elim (fun z => ⟨x, tk, by rw [z], by rw [z]⟩) (g e)
    have m1 : (l1.toList.map enT).Perm (x :: zs) := (q1.map enT).trans (.cons x pm)
    have n1 : (x :: zs).Nodup := List.nodup_cons.mpr ⟨hx, nd⟩
    have z1 : l1.size < scanBound := by
      have u := m1.length_eq
      rw [List.length_map, Array.length_toList, List.length_cons] at u
      rw [u]
      exact room
    have e1 : w.params.followText "set-order" = true ∨ t1.led = true := ld.elim .inl fun z => .inr (d1.trans z)
    have fin : ∀ h1, s.heap.SameBut a h1 → TxSet P w h1 a (x :: zs) → Q true { s with heap := h1 } := fun h1 u v => by
      have y := k h1 u (by rw [if_neg hx]; exact v)
      rw [decide_eq_false hx] at y
      exact y
    have nop : ∀ (b : Bool) (s1 : Shared) (T : Unit → Shared → Prop), T () s1 → wpAny (model P w) A (match b with | true => rule "set.scan.the-table-gave-way" | false => pure ()) T E s1 := by
      intro b s1 T y
      cases b
      · exact wpAny_pure y
      · exact wpAny_rule y
    refine wpAny_bind (nop gv _ _ ?_)
    by_cases pl : t1.plain = true
    · rw [if_pos pl]
      refine wpAny_bind ?_
      rw [hashByValue_scannable 8 scan]
      refine wpAny_pure (tx_tail (ys := x :: zs) nop ⟨ho, ex, hd⟩ ⟨G1, m1, n1⟩ ⟨z1, ?_⟩ ?_ ?_ fun h1 u v => wpAny_pure (fin h1 u v))
      all_goals split
      · exact f1
      · exact SetTable.fits_plain_off f1
      · exact r1
      · exact r1
      · exact e1
      · exact e1
    · rw [if_neg pl]
      refine wpAny_bind (wpAny_pure ?_)
      rw [if_pos rfl]
      exact tx_tail (ys := x :: zs) nop ⟨ho, ex, hd⟩ ⟨G1, m1, n1⟩ ⟨z1, f1⟩ r1 e1 fun h1 u v => wpAny_pure (fin h1 u v)
end

/-- the texts met, each once (the last first) -/
def ddp (xs : List Str) : List Str := xs.foldl (fun l z => if z ∈ l then l else z :: l) []
theorem ddp_snoc (xs : List Str) (z : Str) : ddp (xs ++ [z]) = if z ∈ ddp xs then ddp xs else z :: ddp xs := by unfold ddp; rw [List.foldl_append]; rfl
theorem mem_ddp (z : Str) : ∀ xs : List Str, z ∈ ddp xs ↔ z ∈ xs := by
  intro xs
  rw [← xs.reverse_reverse]
  generalize xs.reverse = m
  induction m with
  | nil => exact Iff.rfl
  | cons x m ih =>
    rw [List.reverse_cons, ddp_snoc, List.mem_append, List.mem_singleton]
    split
    · rename_i hx
      exact ⟨fun h => .inl (ih.mp h), fun h => h.elim ih.mpr fun e => by rw [e]; exact hx⟩
    · rw [List.mem_cons]
      exact ⟨fun h => h.elim .inr fun h => .inl (ih.mp h), fun h => h.elim (fun h => .inr (ih.mpr h)) .inl⟩
theorem ddp_len : ∀ xs : List Str, (ddp xs).length ≤ xs.length := by
  intro xs
  rw [← xs.reverse_reverse]
  generalize xs.reverse = m
  induction m with
  | nil => exact Nat.le_refl _
  | cons x m ih =>
    rw [List.reverse_cons, ddp_snoc, List.length_append, List.length_singleton]
    split
    · omega
    · rw [List.length_cons]; omega
section
variable {P : Program} {w : World} {A : Around} {I : Addr} {fp wr : List Addr} {G : Array GenState → Array GenState → Prop} {n : Nat} {Pv : Nat → Value → Prop} {St : Nat → Shared → Prop} {R : Result → Shared → Prop}
theorem tx_update (W : WalksS P w A.in1 I fp wr G n Pv St) {S : Addr} (out : S ∉ fp) {xs : List Str} (len : xs.length = n) (few : n + 1 < scanBound) (val : ∀ i v, Pv i v → ∃ z tk, xs[i]? = some z ∧ v = .str z tk) :
    ∀ (m i : Nat) (s : Shared), m + i = n → St i s → TxSet P w s.heap S (ddp (xs.take i)) → (∀ s', Moved (S :: wr) G s s' → TxSet P w s'.heap S (ddp xs) → R (.ok (.ret .none)) s') → codeAny (model P w) A (.builtin "set.update.loop" ⟨[.ref S, .ref I], []⟩) R s := by
  have nw : S ∉ wr := fun z => out (W.sub _ z)
  have up : ∀ b ∈ wr, b ∈ S :: wr := fun b z => .tail _ z
  intro m
  induction m with
  | zero =>
    intro i s hi st T k
    obtain rfl : i = n := by omega
    refine codeAny_builtin F.entry_set_update_loop ?_
    rw [Around.under_plainId F.plain_set_update_loop]
    refine wpAny_bind (W.done s _ _ st fun s1 mv => wpAny_pure (k s1 (mv.mono up) ?_))
    rw [← len, List.take_length] at T
    exact T.stay fun o e => mv.heap S o nw e
  | succ m ih =>
    intro i s hi st T k
    refine codeAny_builtin F.entry_set_update_loop ?_
    rw [Around.under_plainId F.plain_set_update_loop]
    refine wpAny_bind (W.item i s _ _ (by omega) st fun v s1 pv st1 mv => ?_)
    obtain ⟨z, tk, hz, rfl⟩ := val i v pv
    have T1 : TxSet P w s1.heap S (ddp (xs.take i)) := T.stay fun o e => mv.heap S o nw e
    refine wpAny_bind (wpAny_holding ?_)
    unfold setAdd
    refine wpAny_holding (wpAny_bind ((strKind P w).pyHash (k := z) (strKind_is P w z tk) ?_))
    have few1 : (ddp (xs.take i)).length + 1 < scanBound := by
      have u := ddp_len (xs.take i)
      rw [List.length_take] at u
      omega
    refine tx_add (s := { s1 with toks := s1.toks + 1 }) T1 few1 fun h1 sb T2 => ?_
    have nx : ddp (xs.take (i + 1)) = if z ∈ ddp (xs.take i) then ddp (xs.take i) else z :: ddp (xs.take i) := by rw [List.take_add_one, hz]; exact ddp_snoc _ z
    rw [← nx] at T2
    refine wpAny_pure ⟨plainId_quiet F.plain_set_update_loop _, ih (i + 1) _ (by omega) (W.frame _ s1 _ _ st1 (Nat.le_succ _) fun b hb o e => ?_) T2 fun s2 mv2 T3 => k s2 (Moved.trans W.gtrans ((mv.mono up).then_heap (Nat.le_succ _) fun b o hb e => ?_) mv2) T3⟩
    · exact (sb.2 b fun y => out (y ▸ hb)).trans e
    · exact (sb.2 b fun y => hb (y ▸ List.mem_cons_self)).trans e
end

/-- a new set -/
abbrev newS (w : World) : Obj := { cls := .type "set", dict := none, data := .set #[] 0 (.fresh 0 0 (!w.params.followText "set-order")) }
section
variable {P : Program} {w : World} {A : Around} {E : Value → Shared → Prop} {s : Shared}
theorem tx_new {h : Heap} {a : Addr} (e : h.get? a = some (newS w)) : TxSet P w h a [] := by
  have led : w.params.followText "set-order" = true ∨ (SetTable.fresh 0 0 (!w.params.followText "set-order")).led = true := by
    cases z : w.params.followText "set-order"
    · exact .inr rfl
    · exact .inl rfl
  unfold TxSet
  refine ⟨newS w, #[], 0, SetTable.fresh 0 0 (!w.params.followText "set-order"), ⟨e, ?_, rfl⟩, ⟨?_, ?_, List.nodup_nil⟩, ⟨?_, ?_⟩, ?_, led⟩
  · exact ⟨rfl, rfl, rfl⟩
  · intro x hx
    simp at hx
  · exact .nil
  · show (0 : Nat) < scanBound
    decide
  · rfl
  · exact .nil

set_option maxHeartbeats 8000000 in
theorem tx_setL {l : Addr} {items : Array Value} {xs : List Str} {Q : Value → Shared → Prop} (calm : A.handled = none) (hl : s.heap.IsList l items) (hi : StrsAre items.toList xs) (few : xs.length + 1 < scanBound)
    (k : ∀ (h1 : Heap) (tk : Nat), TxSet P w h1 s.heap.objs.size (ddp xs) → (∀ b o, s.heap.get? b = some o → h1.get? b = some o) → Q (.ref s.heap.objs.size) { s with heap := h1, toks := tk }) :
    wpAny (model P w) A (call (.type "set") [.ref l]) Q E s := by
  have szi : xs.length = items.size := by rw [← Array.length_toList]; exact (StrsAre.len_eq hi).symm
  obtain ⟨mc, mt, mro⟩ := F.called_set.mro
  have w1 := F.called_set.made
  have w2 := F.called_set.sub
  have w3 := F.called_set.notType
  have w4 := F.called_set.canCreate
  have w5 := F.typeCall_set_1 (.ref l)
  have w6 := F.called_set.init.lookup
  refine wpAny_call (codeAny_of_tree (wpAny_pure ⟨Code.quiet_builtin _ (by decide +kernel), codeAny_builtin F.entry_type_call ?_⟩))
  rw [Around.under_plain (weight_type_call_type "set" [.ref l] []) rfl]
  repeat (any_goals (first | assumption | wp_step))
  refine codeAny_mono (code_set_led1 (.ref l) (E := E) (Q₁ := fun v s1 => v = .ref s.heap.objs.size ∧ s1 = { s with heap := s.heap.push (newS w) }) ⟨rfl, rfl⟩) fun r s1 hr => ?_
  rcases r with e | fl
  · exact hr
  cases fl with
  | ret v =>
    obtain ⟨rfl, rfl⟩ := hr
    have hS : (s.heap.push (newS w)).get? s.heap.objs.size = some (newS w) := Heap.get?_push_size _ rfl
    have tS : ({ s with heap := s.heap.push (newS w) } : Shared).TypeIs (.ref s.heap.objs.size) "set" := ⟨_, hS, rfl⟩
    have w7 := F.called_set.init.bind (.ref s.heap.objs.size)
    repeat (any_goals (first | assumption | wp_step))
    refine codeAny_mono (codeAny_call_builtin (R := wants (fun v s2 => v = .none ∧ ∃ h1 tk, s2 = { s with heap := h1, toks := tk } ∧ TxSet P w h1 s.heap.objs.size (ddp xs) ∧ ∀ b o, s.heap.get? b = some o → h1.get? b = some o) E)
      F.called_set.init.plain F.entry_set_init (check_set_init_1 tS ?_)) fun r2 s2 hr2 => ?_
    · have hl1 : (s.heap.push (newS w)).IsList l items := hl.push _
      obtain ⟨⟨ocl, odi, oda, osl⟩, ol, oc, on, od⟩ := id hl
      cases oc
      cases od
      have ol1 := Heap.get?_push_of_some (newS w) ol
      have lt := Heap.lt_size ol
      have n1 := F.sub_list_set
      have n2 := F.sub_list_frozenset
      have n3 : (Value.type "list" == Value.type "dict") = false := by decide
      unfold Builtin.«set.__init__» noKeywords Builtin.Frozenset.updateFrom
      generalize it0 : pyIter = PI
      wp_walk
      subst it0
      refine wpAny_pyIter_list hl1 (wpAny_bind (wpAny_runValue ?_))
      have sz1 : (s.heap.push (newS w)).objs.size = s.heap.objs.size + 1 := Heap.size_push ..
      have ne1 : l ≠ (s.heap.push (newS w)).objs.size := by rw [sz1]; exact Nat.ne_of_lt (Nat.lt_succ_of_lt lt)
      have calm1 : A.in1.in1.in1.handled = none := by simp [calm]
      refine tx_update ((Walks.list calm1 _ l ne1 items).toS) (S := s.heap.objs.size) (by
          rw [sz1]
          intro z
          rcases List.mem_cons.mp z with z | z
          · exact Nat.ne_of_lt (Nat.lt_succ_self _) z
          · exact Nat.ne_of_gt lt (List.mem_singleton.mp z)) szi (by rw [← szi]; exact few) (fun i v hv => ?_) items.size 0 _ (by omega) ⟨⟨_, Heap.get?_push_size _ rfl, rfl, rfl⟩, hl1.push _⟩ (tx_new (Heap.get?_push_of_some _ hS)) fun s3 mv T => ?_
      · obtain ⟨tk, e⟩ := SS.strs_at hi i v (by rw [Array.getElem?_toList]; exact hv)
        have li : i < xs.length := by rw [szi]; exact (Array.getElem?_eq_some_iff.mp hv).1
        exact ⟨xs[i], tk, List.getElem?_eq_getElem li, by rw [e, List.getD_eq_getElem?_getD, List.getElem?_eq_getElem li]; rfl⟩
      · obtain ⟨h3, g3, d3, t3, o3⟩ := s3
        obtain rfl : g3 = s.gens := mv.gens
        obtain rfl : d3 = s.drawn := mv.drawn
        obtain rfl : o3 = s.os := mv.os
        refine wpAny_pure (wpAny_pure ⟨rfl, h3, t3, rfl, T, fun b o e => mv.heap b o (fun z => ?_) (Heap.get?_push_of_some _ (Heap.get?_push_of_some _ e))⟩)
        have lb := Heap.lt_size e
        rcases List.mem_cons.mp z with z | z
        · exact Nat.ne_of_lt lb z
        · rw [List.mem_singleton.mp z, sz1] at lb
          exact absurd lb (Nat.not_lt_of_lt (Nat.lt_succ_self _))
    · rcases r2 with e | fl2
      · exact hr2
      cases fl2 with
      | ret v =>
        obtain ⟨rfl, h1, tk, rfl, T, kp⟩ := hr2
        repeat (any_goals (first | assumption | wp_step))
        exact k _ _ T kp
      | _ => exact hr2.elim
  | _ => exact hr.elim

set_option maxHeartbeats 8000000 in
theorem tx_setT {l : Addr} {items : Array Value} {xs : List Str} {Q : Value → Shared → Prop} (calm : A.handled = none) (hl : s.heap.IsTuple l items) (hi : StrsAre items.toList xs) (few : xs.length + 1 < scanBound)
    (k : ∀ (h1 : Heap) (tk : Nat), TxSet P w h1 s.heap.objs.size (ddp xs) → (∀ b o, s.heap.get? b = some o → h1.get? b = some o) → Q (.ref s.heap.objs.size) { s with heap := h1, toks := tk }) :
    wpAny (model P w) A (call (.type "set") [.ref l]) Q E s := by
  have szi : xs.length = items.size := by rw [← Array.length_toList]; exact (StrsAre.len_eq hi).symm
  obtain ⟨mc, mt, mro⟩ := F.called_set.mro
  have w1 := F.called_set.made
  have w2 := F.called_set.sub
  have w3 := F.called_set.notType
  have w4 := F.called_set.canCreate
  have w5 := F.typeCall_set_1 (.ref l)
  have w6 := F.called_set.init.lookup
  refine wpAny_call (codeAny_of_tree (wpAny_pure ⟨Code.quiet_builtin _ (by decide +kernel), codeAny_builtin F.entry_type_call ?_⟩))
  rw [Around.under_plain (weight_type_call_type "set" [.ref l] []) rfl]
  repeat (any_goals (first | assumption | wp_step))
  refine codeAny_mono (code_set_led1 (.ref l) (E := E) (Q₁ := fun v s1 => v = .ref s.heap.objs.size ∧ s1 = { s with heap := s.heap.push (newS w) }) ⟨rfl, rfl⟩) fun r s1 hr => ?_
  rcases r with e | fl
  · exact hr
  cases fl with
  | ret v =>
    obtain ⟨rfl, rfl⟩ := hr
    have hS : (s.heap.push (newS w)).get? s.heap.objs.size = some (newS w) := Heap.get?_push_size _ rfl
    have tS : ({ s with heap := s.heap.push (newS w) } : Shared).TypeIs (.ref s.heap.objs.size) "set" := ⟨_, hS, rfl⟩
    have w7 := F.called_set.init.bind (.ref s.heap.objs.size)
    repeat (any_goals (first | assumption | wp_step))
    refine codeAny_mono (codeAny_call_builtin (R := wants (fun v s2 => v = .none ∧ ∃ h1 tk, s2 = { s with heap := h1, toks := tk } ∧ TxSet P w h1 s.heap.objs.size (ddp xs) ∧ ∀ b o, s.heap.get? b = some o → h1.get? b = some o) E)
      F.called_set.init.plain F.entry_set_init (check_set_init_1 tS ?_)) fun r2 s2 hr2 => ?_
    · have hl1 : (s.heap.push (newS w)).IsTuple l items := hl.push _
      obtain ⟨⟨ocl, odi, oda, osl⟩, ol, oc, on, od⟩ := id hl
      cases oc
      cases od
      have ol1 := Heap.get?_push_of_some (newS w) ol
      have lt := Heap.lt_size ol
      have n1 := F.sub_tuple_set
      have n2 := F.sub_tuple_frozenset
      have n3 : (Value.type "tuple" == Value.type "dict") = false := by decide
      unfold Builtin.«set.__init__» noKeywords Builtin.Frozenset.updateFrom
      generalize it0 : pyIter = PI
      wp_walk
      subst it0
      refine wpAny_pyIter_tuple hl1 (wpAny_bind (wpAny_runValue ?_))
      have sz1 : (s.heap.push (newS w)).objs.size = s.heap.objs.size + 1 := Heap.size_push ..
      have ne1 : l ≠ (s.heap.push (newS w)).objs.size := by rw [sz1]; exact Nat.ne_of_lt (Nat.lt_succ_of_lt lt)
      have calm1 : A.in1.in1.in1.handled = none := by simp [calm]
      refine tx_update ((Walks.tuple calm1 _ l ne1 items).toS) (S := s.heap.objs.size) (by
          rw [sz1]
          intro z
          rcases List.mem_cons.mp z with z | z
          · exact Nat.ne_of_lt (Nat.lt_succ_self _) z
          · exact Nat.ne_of_gt lt (List.mem_singleton.mp z)) szi (by rw [← szi]; exact few) (fun i v hv => ?_) items.size 0 _ (by omega) ⟨⟨_, Heap.get?_push_size _ rfl, rfl, rfl⟩, hl1.push _⟩ (tx_new (Heap.get?_push_of_some _ hS)) fun s3 mv T => ?_
      · obtain ⟨tk, e⟩ := SS.strs_at hi i v (by rw [Array.getElem?_toList]; exact hv)
        have li : i < xs.length := by rw [szi]; exact (Array.getElem?_eq_some_iff.mp hv).1
        exact ⟨xs[i], tk, List.getElem?_eq_getElem li, by rw [e, List.getD_eq_getElem?_getD, List.getElem?_eq_getElem li]; rfl⟩
      · obtain ⟨h3, g3, d3, t3, o3⟩ := s3
        obtain rfl : g3 = s.gens := mv.gens
        obtain rfl : d3 = s.drawn := mv.drawn
        obtain rfl : o3 = s.os := mv.os
        refine wpAny_pure (wpAny_pure ⟨rfl, h3, t3, rfl, T, fun b o e => mv.heap b o (fun z => ?_) (Heap.get?_push_of_some _ (Heap.get?_push_of_some _ e))⟩)
        have lb := Heap.lt_size e
        rcases List.mem_cons.mp z with z | z
        · exact Nat.ne_of_lt lb z
        · rw [List.mem_singleton.mp z, sz1] at lb
          exact absurd lb (Nat.not_lt_of_lt (Nat.lt_succ_self _))
    · rcases r2 with e | fl2
      · exact hr2
      cases fl2 with
      | ret v =>
        obtain ⟨rfl, h1, tk, rfl, T, kp⟩ := hr2
        repeat (any_goals (first | assumption | wp_step))
        exact k _ _ T kp
      | _ => exact hr2.elim
  | _ => exact hr.elim
end
end Z

set_option Elab.async false
set_option linter.all false
set_option maxRecDepth 100000
set_option maxHeartbeats 2000000
/-! sets of texts as rules: set(xs), sorted(set) -/
namespace Z
open PySem PySem.Spec PyProof.Rows L2
/-- the set of texts at a, as a thing of the heap -/
def TxO (P : Program) (w : World) (a : Addr) (zs : List Str) : HO := .ext fun h => TxSet P w h a zs
theorem txO_new {P : Program} {w : World} {H : Hp} {h : Heap} {a : Addr} {zs : List Str} (R : TxSet P w h a zs) : ObjOk P w H h a (TxO P w a zs) := by
  obtain ⟨o, _, _, _, ⟨ho, _⟩, _⟩ := id R
  exact ⟨R, ⟨o, ho⟩, fun h1 h2 p k => TxSet.stay p k⟩
section
variable {X : Cx}
/-- set(xs) of a list or a tuple of texts -/
def rSetX (P : Program) (w : World) (K : PySem.W.Frag) : List V → Hp → VK → Prop := fun xs H Q => ∃ (l : Addr) (zs : List Str), xs = [.ref l] ∧ SqA K H l (zs.map V.str) ∧ zs.length < 1000 ∧ ∀ p, H p = none → Q (.ref p) (upd H p (TxO P w p (ddp zs)))
theorem cr_setX (hc : X.calm = true) : CallR X (.type "set") (rSetX X.prog X.w X.K) := by
  intro pins s σ H xs us Q I r h
  obtain ⟨l, zs, rfl, hl, few, q⟩ := h
  obtain rfl := Vals.ref1 r
  have few1 : zs.length + 1 < scanBound := Nat.lt_of_lt_of_le (Nat.succ_lt_succ few) (by decide)
  have fin : ∀ (h1 : Heap) (tk : Nat), TxSet X.prog X.w h1 s.heap.objs.size (ddp zs) → (∀ b o, s.heap.get? b = some o → h1.get? b = some o) → EP X pins σ Q (.ref s.heap.objs.size) { s with heap := h1, toks := tk } := fun h1 tk T kp =>
    ⟨.ref s.heap.objs.size, _, I.laid kp (Nat.le_refl _) (txO_new T), rfl, q _ (I.hok.fresh (Nat.le_refl _))⟩
  rcases hl with hl | hl
  · obtain ⟨its, rv, pl, _⟩ := I.list hl
    exact tx_setL (I.ok.hd hc) pl.isList (by rw [show its.toArray.toList = its by simp]; exact rv.strs) few1 fin
  · obtain ⟨its, rv, pl, _⟩ := I.tuple hl
    exact tx_setT (I.ok.hd hc) pl (by rw [show its.toArray.toList = its by simp]; exact rv.strs) few1 fin
/-- sorted of a set of texts -/
def rSortX (P : Program) (w : World) : List V → Hp → VK → Prop := fun vs H Q => ∃ (a : Addr) (zs : List Str), vs = [.ref a] ∧ H a = some (TxO P w a zs) ∧ zs.length < 64 ∧
  ∀ p H', H p = none → Same H H' → (∀ b, b ≠ p → H' b = H b) → H' p = some (.lst ((srt zs).map V.str)) → Q (.ref p) H'
theorem strs_of_en {P : Program} {w : World} : ∀ {l : List (Int × Value)}, (∀ e ∈ l, EnT P w e) → StrsAre (l.map (·.2)) (l.map enT)
  | [], _ => .nil
  | e :: l, g => by
    obtain ⟨x, tk, e1, _⟩ := g e List.mem_cons_self
    have ih := strs_of_en fun y hy => g y (List.mem_cons_of_mem _ hy)
    show StrsAre (e.2 :: _) (enT e :: _)
    unfold enT
    rw [e1]
    exact .cons x tk ih
theorem strs_perm {us vs : List Value} (p : us.Perm vs) : ∀ {xs : List Str}, StrsAre vs xs → ∃ ys, StrsAre us ys ∧ ys.Perm xs := by
  induction p with
  | nil => intro xs h; exact ⟨xs, h, .refl _⟩
  | cons u _ ih =>
    intro xs h
    cases h with
    | cons x t hr =>
      obtain ⟨ys, a, b⟩ := ih hr
      exact ⟨_, .cons x t a, b.cons x⟩
  | swap u v l =>
    intro xs h
    cases h with
    | cons x t hr =>
      cases hr with
      | cons y t2 hr2 => exact ⟨_, .cons y t2 (.cons x t hr2), List.Perm.swap x y _⟩
  | trans _ _ ih1 ih2 =>
    intro xs h
    obtain ⟨ys, a, b⟩ := ih2 h
    obtain ⟨zs, c, d⟩ := ih1 a
    exact ⟨zs, c, d.trans b⟩
theorem cr_sortX (hc : X.calm = true) : CallR X (.builtin "sorted") (rSortX X.prog X.w) := by
  intro pins s σ H vs us Q I r h
  obtain ⟨a, zs, rfl, ha, few, q⟩ := h
  obtain rfl := Vals.ref1 r
  obtain ⟨o, es, ep, tb, ⟨ho, ex, hd⟩, ⟨g, pm, nd⟩, ⟨bd, ft⟩, rs, ld⟩ := (I.hok a _ ha).1
  refine Calls.call_function_entry PyProof.Rows.kind_sorted PyProof.Rows.plain_sorted PyProof.Rows.entry_sorted (PyProof.Rows.args_sorted1 _) ?_
  unfold Builtin.«sorted»
  refine wpAny_bind (m := checkCount "sorted" 1 1 _) (wpAny_pure ?_)
  refine wpAny_bind (collect_set (A := X.A.in1) (I.ok.hd hc) ⟨o, ho, ex.1, hd⟩ ft bd rs ld fun s1 its kp sz g1 o1 pi => ?_)
  obtain ⟨ys, hS, py⟩ := strs_perm pi (strs_of_en g)
  have pz : ys.Perm zs := py.trans pm
  have ln : its.length < 64 := by rw [StrsAre.len_eq hS, pz.length_eq]; exact few
  have big : (64 : Nat) < sizeLine := by rw [sizeLine_eq]; decide
  refine wpAny_bind (wpAny_newList ?_ (by omega))
  have oL : (s1.heap.push (seqObj "list" its.toArray 0)).get? s1.heap.objs.size = some (seqObj "list" its.toArray 0) := Heap.get?_push_size _ rfl
  refine wpAny_bind (wpAny_holding (wpAny_call_entry PyProof.Rows.slot_list_sort ⟨_, oL, rfl⟩ PyProof.Rows.entry_list_sort (list_sort_treeK strKind_oneLt (s := { s1 with heap := s1.heap.push (seqObj "list" its.toArray 0) }) oL hS.keysOf
    (fun v₁ v₂ rest e => keyKind_strs (by rw [← e]; exact hS)) ln fun st hp hs => ⟨_, rfl, ?_⟩) (PyProof.Rows.args_list_sort _)))
  obtain ⟨zs', u1, u2, u3⟩ := sorted_out_str hS hp hs
  have ez : zs' = srt zs := (srt_eq u2 u3).trans (sort_uniq ((srt_perm ys).trans (pz.trans (srt_perm zs).symm)) (srt_pw ys) (srt_pw zs))
  subst ez
  obtain ⟨c, hc'⟩ := PyProof.Rows.sortedHeap_at (vs := its) (out := (arrOf st).map (·.2)) oL
  have l2 : ((srt zs).map V.str).length ≤ sizeLine := by rw [List.length_map, (srt_perm zs).length_eq]; omega
  have fr : H s1.heap.objs.size = none := I.hok.fresh sz
  have kp2 : ∀ b u, s.heap.get? b = some u → (PyProof.Rows.sortedHeap (s1.heap.push (seqObj "list" its.toArray 0)) s1.heap.objs.size its ((arrOf st).map (·.2))).get? b = some u := fun b u e => by
    have y := kp b u e
    have lb := Heap.lt_size y
    rw [PyProof.Rows.sortedHeap_old (Nat.ne_of_lt lb) (by rw [size_push']; exact Nat.lt_succ_of_lt lb)]
    exact Heap.get?_push_of_some _ y
  have J : Inv X pins σ (upd H s1.heap.objs.size (.lst ((srt zs).map V.str))) { s1 with heap := PyProof.Rows.sortedHeap (s1.heap.push (seqObj "list" its.toArray 0)) s1.heap.objs.size its ((arrOf st).map (·.2)) } :=
    I.call' (ch := []) o1 (Un.laid kp2 sz fr) (I.hok.laid kp2 sz ⟨l2, ((arrOf st).map (·.2)).toList, c, vals_of_strs u1, by rw [Array.toArray_toList]; exact hc'⟩) (by show AllBare s1.gens; rw [g1]; exact I.bare) (fun _ z => nomatch z)
  exact wpAny_pure ⟨_, rfl, .ref s1.heap.objs.size, _, J, rfl, q _ _ fr (fun b o e => by rw [upd_ne (ne_of_none e fr)]; exact e) (fun b hb => upd_ne hb) upd_same⟩
end
end Z

set_option Elab.async false
set_option linter.all false
set_option maxRecDepth 100000
set_option maxHeartbeats 1000000
/-! a new dict known at once; d.items() walked -/
namespace Z
open PySem PySem.Spec PyProof.Rows L2
/-- what e makes is known from here on -/
def tFrzE (te : TE) : TE := fun σ H Q => te σ H fun x H1 => ∃ d u, x = .ref d ∧ H1 d = some u ∧ Mut (some u) ∧ ∀ od, Q x (upd H1 d (.frz od u))
theorem pe_frzE {X : Cx} {e : Expr} {te : TE} (h : PE X e te) : PE X e (tFrzE te) := by
  refine ⟨fun pins s σ H Q I q => thn (h.run pins s σ H _ I q) fun v s1 ⟨x, H1, I1, rx, d, u, ex, hd, mu, k⟩ => ?_⟩
  obtain ⟨od, I2⟩ := I1.lock hd mu
  exact ⟨x, _, I2, rx, k od⟩
section
variable {K : PySem.W.Frag} {σ : L2.St} {H H0 : Hp} {D : Ends} {te td tx : TE} {tt : TT} {g : TG} {Q : VK} {a d : Addr} {o : Obj} {zs : List Str} {f : Str → V}
def rFrzE (x : V) (H1 : Hp) (Q : VK) : Prop := ∃ d u, x = .ref d ∧ H1 d = some u ∧ Mut (some u) ∧ ∀ od, Q x (upd H1 d (.frz od u))
theorem i_frzE0 (h : te σ H (fun x H1 => rFrzE x H1 Q)) : tFrzE te σ H Q := h
theorem i_frzE {u : HO} (e : H d = some u) (mu : Mut (some u)) (h : ∀ od H', H' d = some (.frz od u) → (∀ b, b ≠ d → H' b = H b) → Q (.ref d) H') : rFrzE (.ref d) H Q := ⟨d, u, rfl, e, mu, fun od => h od _ upd_same fun b hb => upd_ne hb⟩
def rLcItems (g : TG) (tt : TT) (te : TE) (vs : List Nat) (σ : L2.St) (Q : VK) (x : V) (H1 : Hp) : Prop := ∃ d o kvs, x = .ref d ∧ H1 d = some (.frz o (.dK kvs)) ∧ rLcJ (Iti d o kvs) g tt te vs σ Q H1
theorem i_lcI0 {vs : List Nat} (h : td σ H (fun x H1 => rLcItems g tt te vs σ Q x H1)) : tLc (iItems td) g tt te vs σ H Q := h
theorem i_lcI {vs : List Nat} (e : H d = some (.frz o (.dK (dF zs f)))) (h : rLcJ (Iti d o (dF zs f)) g tt te vs σ Q H) : rLcItems g tt te vs σ Q (.ref d) H := ⟨d, o, _, rfl, e, h⟩
theorem lcItems {vs : List Nat} (Pv : Addr → Nat → List V → Hp → Prop) (e : H0 d = some (.frz o (.dK (dF zs f)))) (h0 : ∀ D H', H D = none → Same H H' → H' D = some (.lst []) → (∀ b, b ≠ D → H' b = H b) → Pv D 0 [] H')
    (hl : ∀ D i ys H1, Pv D i ys H1 → AtS H0 d H1)
    (hs : ∀ i z D ys T H1 H2, H D = none → zs[i]? = some z → H1 D = some (.lst ys) → Pv D i ys H1 → H1 T = none → Same H1 H2 → H2 T = some (.tup [.str z, f z]) → (∀ b, b ≠ T → H2 b = H1 b) →
      g (.ref T) (wipe σ vs) H2 fun σ2 H3 => wipe σ2 vs = wipe σ vs ∧ tt σ2 H3 fun b H4 => if b = true then te σ2 H4 fun y H5 => rLcE D (Pv D) i y H5 else LcS D (Pv D) (i + 1) H4)
    (hd : ∀ D ys H1, H D = none → H1 D = some (.lst ys) → Pv D zs.length ys H1 → Q (.ref D) H1) : rLcJ (Iti d o (dF zs f)) g tt te vs σ Q H := by
  intro D hD
  refine lc_it (walk_items (kvs := dF zs f)) (LcS D (Pv D)) ⟨[], upd_same, h0 D _ hD (fun b o e => by rw [upd_ne (ne_of_none e hD)]; exact e) upd_same (fun b hb => upd_ne hb)⟩ ?_ ?_ ?_
  · rintro i H' _ ⟨ys, _, p⟩
    exact hl D i ys H' p _ e
  · rintro i x H1 H2 hi ⟨ys, hD', p⟩ ⟨T, x1, x2, rfl, hT, rfl, e1, e2⟩
    obtain ⟨kv, hkv, rfl⟩ := Option.map_eq_some_iff.mp e1
    dsimp only at e2
    rw [hkv] at e2
    cases e2
    obtain ⟨z, hz, h1, h2⟩ := dF_get (k := kv.1) (v := kv.2) hkv
    rw [h1, h2]
    exact hs i z D ys T H1 _ hD hz hD' p hT (same_new hT) upd_same fun b hb => upd_ne hb
  · rintro H' ⟨ys, hD', p⟩
    rw [dF_len] at p
    exact hd D ys H' hD hD' p
end
/-- len of a dict, known or not -/
def rLenR : List V → Hp → VK → Prop := fun xs H Q => ∃ a kvs, xs = [V.ref a] ∧ Rd H a (.dK kvs) ∧ Q (.int (kvs.length : Nat)) H
theorem k_lenR {X : Cx} : CallR X (.builtin "len") rLenR := by
  intro pins s σ H xs us Q I r h
  obtain ⟨a, kvs, rfl, ha, q⟩ := h
  obtain rfl := Vals.ref1 r
  exact d_len I ha fun t s' I' => ⟨.int kvs.length, H, I', ⟨t, rfl⟩, q⟩
theorem k_eqDG {X : Cx} {K : PySem.W.Frag} (hK : X.K = K) (hu : X.A.units + 66 < cLine) : OpR X (compareOp .Eq) (rEqDG K false) := by subst hK; exact op_eqDG hu
theorem i_dclear {K : PySem.W.Frag} {H : Hp} {Q : VK} {a : Addr} {kvs : List (Key × V)} (e : H a = some (.dK kvs)) (h : ∀ H', H' a = some (.dK []) → (∀ b, b ≠ a → H' b = H b) → Q .non H') : tyV K "dict" (.ref a) H ∧ rDClear (.ref a) [] H Q :=
  ⟨.inr (.inr (.inl ⟨rfl, .inl ⟨kvs, e⟩⟩)), a, kvs, rfl, rfl, e, h _ upd_same fun b hb => upd_ne hb⟩
end Z

set_option Elab.async false
set_option linter.all false
set_option maxRecDepth 100000
set_option maxHeartbeats 1000000
/-! isinstance(e, c), e the caught error -/
namespace Z
open PySem PySem.Spec PyProof.Rows L2
def rIsXe (K : PySem.W.Frag) (a : Addr) (cls : Value) (d : Option Addr) : List V → Hp → VK → Prop := fun xs H Q => ∃ (D : Addr) (c : V) (u : Value) (b : Bool), xs = [.ref a, c] ∧ ClsV c u ∧ ExcC K D ∧ cls = .ref D ∧ (∀ dd, d = some dd → ∃ fs, H dd = some (.xd fs)) ∧ PySem.W.kitOne K (.ref D) u = some b ∧ Q (.bl b) H
theorem call_isXe {X : Cx} {a : Addr} {cls : Value} {d : Option Addr} {oe : Obj} {pn : List (Addr × Obj)} (hz : Zc cls d oe) (hf : ∃ vs, oe.data = .fields vs) : CallR (X.suite a ((a, oe) :: pn)) (.builtin "isinstance") (rIsXe X.K a cls d) := by
  intro pins s σ H xs us Q I r h
  obtain ⟨D, c, u, b, rfl, k, CD, rfl, hd, e, q⟩ := h
  obtain ⟨u1, u2, rfl, r1, r2⟩ := vals2 r
  have e2 := k.eq r2
  subst e2
  obtain rfl : u1 = Value.ref a := r1
  obtain ⟨hget, _⟩ := I.pin (a, oe) (List.mem_append.mpr (.inl List.mem_cons_self))
  obtain ⟨vs, hv⟩ := hf
  obtain ⟨h1, h2⟩ := hz
  have hcl : (PySem.W.clsIn X.K D).isSome = true := by
    obtain ⟨cd, hc, _⟩ := PySem.W.any_some CD.hd
    rw [hc]
    rfl
  have go : ∀ od, PySem.W.InstAt s.heap a oe D od → wpAny (model X.prog X.w) (X.suite a ((a, oe) :: pn)).A (call (.builtin "isinstance") [.ref a, u2]) (EP (X.suite a ((a, oe) :: pn)) pins σ Q) (X.suite a ((a, oe) :: pn)).xe s := fun od J =>
    PySem.W.kia_one (PySem.W.kitx_exc hcl CD.hg CD.hk CD.hs CD.ha CD.hn CD.ht CD.hm) I.kIn J e (fun z => nomatch z) fun tk => ⟨.bl b, H, I.tok tk, rfl, q⟩
  cases d with
  | none => exact go none ⟨hget, h1, by unfold PySem.W.notCls; rw [hv] <;> rfl, by rw [h2]; trivial⟩
  | some dd =>
    obtain ⟨fs, hdd⟩ := hd dd rfl
    have hx : ObjOk X.prog X.w H s.heap dd (.xd fs) := I.hok dd _ hdd
    obtain ⟨mA, hns, hr⟩ := hx
    obtain ⟨od, ho2, hl⟩ := lookIn_ns hns
    exact go (some od) ⟨hget, h1, by unfold PySem.W.notCls; rw [hv] <;> rfl, by rw [h2]; exact ho2⟩
theorem k_isXe {X : Cx} {K : PySem.W.Frag} {a : Addr} {cls : Value} {d : Option Addr} {oe : Obj} {pn : List (Addr × Obj)} (hK : X.K = K) (hz : Zc cls d oe) (hf : ∃ vs, oe.data = .fields vs) : CallR (X.suite a ((a, oe) :: pn)) (.builtin "isinstance") (rIsXe K a cls d) := by
  subst hK
  exact call_isXe hz hf
theorem i_isXe {K : PySem.W.Frag} {a D : Addr} {d : Option Addr} {c : V} {u : Value} {b : Bool} {H : Hp} {Q : VK} (k : ClsV c u) (X : ExcC K D) (hd : ∀ dd, d = some dd → ∃ fs, H dd = some (.xd fs)) (hk : PySem.W.kitOne K (.ref D) u = some b) (h : Q (.bl b) H) : rIsXe K a (.ref D) d [.ref a, c] H Q :=
  ⟨D, c, u, b, rfl, k, X, rfl, hd, hk, h⟩
end Z
namespace Z
open PySem PySem.Spec PyProof.Rows L2
/-- a statement that is never reached -/
theorem ps_no {X : Cx} {st : Stmt} : PS X st (fun _ _ _ => False) := ⟨fun _ _ _ _ _ _ h => h.elim⟩
end Z

set_option Elab.async false
set_option linter.all false
set_option maxRecDepth 100000
set_option maxHeartbeats 1000000
/-! dicts compared by !=, with an answer of either kind -/
namespace Z
open PySem PySem.Spec PyProof.Rows L2
section
variable {X : Cx}
theorem op_neDG (hu : X.A.units + 66 < cLine) : OpR X (compareOp .NotEq) (rEqDG X.K true) := by
  intro pins s σ H x y v u Q I rx ry h
  obtain ⟨a, b, ks, ls, f, g, rfl, rfl, ea, eb, hf, hg, q⟩ := h
  obtain rfl : v = Value.ref a := rx
  obtain rfl : u = Value.ref b := ry
  obtain ⟨_, ya, va, ra, da⟩ := dk_rd I.hok ea
  obtain ⟨_, yb, vb, rb, db⟩ := dk_rd I.hok eb
  refine PySem.W.keq_ne (knd := mixKind X.prog X.w) ya yb da db (by omega) (fun _ => dg_hits I (A := X.A) (by omega) rb hg ra hf) ⟨.bl _, H, I, ?_, q⟩
  show Value.bool _ = Value.bool _
  rw [← ra.length, ← rb.length]
  rfl
theorem k_neDG {K : PySem.W.Frag} (hK : X.K = K) (hu : X.A.units + 66 < cLine) : OpR X (compareOp .NotEq) (rEqDG K true) := by subst hK; exact op_neDG hu
end
end Z

set_option Elab.async false
set_option linter.all false
set_option maxRecDepth 100000
set_option maxHeartbeats 1000000
/-! an own object == a dict that is known -/
namespace Z
open PySem PySem.Spec PyProof.Rows L2
section
variable {X : Cx} {C f : Addr} {sp : Sp} {k j : Nat}
def rOwnCF (K : PySem.W.Frag) (C : Addr) (sp : Sp) : R2 := fun x y H Q => ∃ a dx fs b o kvs, x = .ref a ∧ H a = some (.ins C dx fs) ∧ y = .ref b ∧ H b = some (.frz o (.dK kvs)) ∧ PySem.W.notFirst K C (.type "dict") = true ∧
  sp [x, y] H Q (fun _ _ _ => False)
theorem op_eqOwnF (F : FnR X.prog X.w X.K X.mg X.base (L2.CX X.prog X.w) k f sp) (hr : Room k X.A) (S : Spc X.K C "__eq__" f) :
    OpR X (compareOp .Eq) (rOwnCF X.K C sp) := by
  intro pins s σ H x y v u Q I rx ry h
  obtain ⟨a, dx, fs, b, o, kvs, rfl, ea, rfl, eb, hn, h⟩ := h
  obtain rfl : v = Value.ref a := rx
  obtain rfl : u = Value.ref b := ry
  obtain ⟨ox, od, Ja⟩ := instAt I ea
  obtain ⟨m, fr⟩ := I.fr
  have hu := hr.units0
  have lk : PySem.W.Looks (model X.prog X.w) s.heap (typeOf (.ref b)) (.type "dict") := by
    obtain ⟨_, _, _, vs, _, o, es, ep, h1, h2, _⟩ := (show ObjOk X.prog X.w H s.heap b (.frz o (.dK kvs)) from I.hok b _ eb)
    intro A Q E s' k q
    have := wpAny_typeOf_ref (M := model X.prog X.w) (A := A) (E := E) (Q := Q) (s := s') (k _ _ h1) (by rw [h2.1]; exact q)
    exact this
  apply PySem.W.cmp_K (op := .Eq) hu fr I.ok.mod.kin Ja lk hn S.at_ S.fn
  exact cmpBack (runR (us := [.ref a, .ref b]) (vs := [.ref a, .ref b]) (E := EN) F hr passN I (.cons rfl (.cons rfl .nil)) h)
theorem z_eqOF (c : CalO X.prog X.w X.K X.mg X.base C "__eq__" k sp) (hr : Room j X.A) (hj : k ≤ j := by decide) : OpR X (compareOp .Eq) (rOwnCF X.K C sp) := by
  obtain ⟨f, S, sf, F⟩ := c
  exact op_eqOwnF F (hr.mono hj) S
end
end Z

set_option Elab.async false
set_option linter.all false
set_option maxRecDepth 100000
set_option maxHeartbeats 1000000
/-! xs[::2], xs[1::2]; a dict comprehension over zip -/
namespace Z
open PySem PySem.Spec PyProof.Rows L2
def evL {α : Type} : List α → List α
  | [] => []
  | [x] => [x]
  | x :: _ :: r => x :: evL r
theorem ev_pick {α : Type} : ∀ l : List α, ((List.range ((l.length + 1) / 2)).map fun k => 2 * k).filterMap (fun i => l[i]?) = evL l
  | [] => by simp [evL]
  | [x] => by simp [evL]
  | x :: y :: r => by
    have ih := ev_pick r
    have e : ((x :: y :: r).length + 1) / 2 = (r.length + 1) / 2 + 1 := by rw [List.length_cons, List.length_cons]; omega
    rw [e, List.range_succ_eq_map, List.map_cons, List.map_map]
    have h0 : (x :: y :: r)[2 * 0]? = some x := rfl
    rw [List.filterMap_cons_some h0]
    show _ = x :: evL r
    rw [← ih, List.filterMap_map, List.filterMap_map]
    congr 1
theorem ev_len {α : Type} : ∀ l : List α, (evL l).length = (l.length + 1) / 2
  | [] => by simp [evL]
  | [x] => by simp [evL]
  | x :: y :: r => by
    show (evL r).length + 1 = (r.length + 1 + 1 + 1) / 2
    rw [ev_len r]
    omega
theorem ev_map {α β : Type} (f : α → β) : ∀ l : List α, evL (l.map f) = (evL l).map f
  | [] => rfl
  | [x] => rfl
  | x :: y :: r => by
    show f x :: evL (r.map f) = f x :: (evL r).map f
    rw [ev_map f r]
theorem pick_even (its : List Value) : slicePick its.toArray none none (some 2) = (evL its).toArray := by
  unfold slicePick
  congr 1
  rw [← ev_pick its]
  have hb : sliceBounds none none (some 2) its.toArray.size = (0, (its.length : Int), 2) := by simp [sliceBounds]
  rw [hb]
  have hr : sliceRange 0 (its.length : Int) 2 = (List.range ((its.length + 1) / 2)).map fun k => 2 * k := by
    unfold sliceRange
    have hc : (if (2 : Int) > 0 then (if (0 : Int) < (its.length : Int) then ((its.length : Int) - 0 + 2 - 1) / 2 else 0) else (if (0 : Int) > (its.length : Int) then ((0 : Int) - (its.length : Int) - 2 - 1) / (-2) else 0)).toNat = (its.length + 1) / 2 := by
      rw [if_pos (by decide)]
      split <;> omega
    dsimp only
    rw [hc]
    refine List.map_congr_left fun k _ => ?_
    omega
  show (sliceRange 0 (its.length : Int) 2).filterMap _ = _
  rw [hr]
  congr 1
  funext i
  simp
theorem pick_odd (its : List Value) : slicePick its.toArray (some 1) none (some 2) = (evL (its.drop 1)).toArray := by
  unfold slicePick
  congr 1
  rw [← ev_pick (its.drop 1)]
  have hb : sliceBounds (some 1) none (some 2) its.toArray.size = (max 0 (min 1 (its.length : Int)), (its.length : Int), 2) := by simp [sliceBounds]
  rw [hb]
  have hr : sliceRange (max 0 (min 1 (its.length : Int))) (its.length : Int) 2 = (List.range (((its.drop 1).length + 1) / 2)).map fun k => 1 + 2 * k := by
    unfold sliceRange
    have hc : (if (2 : Int) > 0 then (if max 0 (min 1 (its.length : Int)) < (its.length : Int) then ((its.length : Int) - max 0 (min 1 (its.length : Int)) + 2 - 1) / 2 else 0) else (if max 0 (min 1 (its.length : Int)) > (its.length : Int) then (max 0 (min 1 (its.length : Int)) - (its.length : Int) - 2 - 1) / (-2) else 0)).toNat = ((its.drop 1).length + 1) / 2 := by
      rw [if_pos (by decide), List.length_drop]
      split <;> omega
    dsimp only
    rw [hc]
    refine List.map_congr_left fun k hk => ?_
    have := List.mem_range.mp hk
    rw [List.length_drop] at this
    omega
  show (sliceRange (max 0 (min 1 (its.length : Int))) (its.length : Int) 2).filterMap _ = _
  rw [hr, List.filterMap_map, List.filterMap_map]
  congr 1
  funext i
  simp [Nat.add_comm]
theorem vals_ev : ∀ {vs : List V} {us : List Value}, Vals vs us → Vals (evL vs) (evL us)
  | _, _, .nil => .nil
  | _, _, .cons h .nil => .cons h .nil
  | _, _, .cons h (.cons _ r) => .cons h (vals_ev r)
theorem vals_drop1 : ∀ {vs : List V} {us : List Value}, Vals vs us → Vals (vs.drop 1) (us.drop 1)
  | _, _, .nil => .nil
  | _, _, .cons _ r => r
section
variable {X : Cx}
def tEv (K : PySem.W.Frag) (j : Nat) (te : TE) : TE := fun σ H Q => te σ H fun x H1 => ∃ a xs, x = .ref a ∧ SqL K H1 a xs ∧ ∀ p, H1 p = none → Q (.ref p) (upd H1 p (.lst (evL (xs.drop j))))
theorem ev_core {e : Expr} {te : TE} {k : Nat} {p1 p3 pos : Pos} {el : Option Expr} {lo : Option Int} {j : Nat} (he : PE X e te) (hl : PO X el fun _ H Q => Q lo H)
    (pk : ∀ its : List Value, slicePick its.toArray lo none (some 2) = (evL (its.drop j)).toArray) (vd : ∀ {vs us}, Vals vs us → Vals (vs.drop j) (us.drop j))
    (hs : ∀ a b : Value, subscripted (.Slice el none (some (.Constant (.int 2) k p1)) p3) false a b = operate [a, b] (getItem a b) := by intros; with_unfolding_all rfl) :
    PE X (.Subscript e (.Slice el none (some (.Constant (.int 2) k p1)) p3) pos) (tEv X.K j te) := by
  refine ⟨fun pins s σ H Q I h => ?_⟩
  refine Subscript_ (thn (he.run pins s σ H _ I h) fun v s1 ⟨x, H1, I1, r1, q1⟩ => ?_)
  obtain ⟨a, xs, ex, hx, q⟩ := q1
  subst ex
  cases r1
  have hst : PO X (some (.Constant (.int 2) k p1)) (tPart (tC (.int 2))) := po_some pe_int
  refine wpAny_Slice (thn (hl.run pins s1 σ H1 (fun o H2 => o = lo ∧ H2 = H1) I1 ⟨rfl, rfl⟩) fun vl s2 ⟨l, H2, I2, pl, el, e2⟩ => ?_)
  subst el e2
  refine thn (po_none.run pins s2 σ H2 (fun o H3 => o = none ∧ H3 = H2) I2 ⟨rfl, rfl⟩) fun vu s3 ⟨u, H3, I3, pu, eu, e3⟩ => ?_
  subst eu e3
  refine thn (hst.run pins s3 σ H3 (fun o H4 => o = some 2 ∧ H4 = H3) I3 ⟨2, rfl, rfl, rfl⟩) fun vs s4 ⟨o, H4, I4, ps, eo, e4⟩ => ?_
  subst eo e4
  have I5 : Inv X pins σ H4 { s4 with heap := s4.heap.push { cls := .type "slice", data := .fields #[vl, vu, vs] } } := I4.kept (t' := s4.toks) fun b ob q => Heap.get?_push_of_some _ q
  obtain ⟨its, r, ht, hz⟩ := I5.list hx
  have hlen := r.length
  refine tail_any (ops := [.ref a, .ref s4.heap.objs.size]) ht.isList.typeIs (PySem.slot_list_getitem.lookup) ?_ (hs _ _)
  refine wpAny_getItem_list_slice ht.isList (Heap.IsSliceOf.new _ vl vu vs) pl pu ps (by decide) ?_ (by rw [List.size_toArray]; omega)
  rw [pk]
  refine ⟨.ref _, _, I5.laid (t' := s4.toks) (o := .lst (evL (xs.drop j))) (fun b ob q => Heap.get?_push_of_some _ q) (Nat.le_refl _) ?_, rfl, q _ (I5.hok.fresh (Nat.le_refl _))⟩
  exact ⟨by rw [ev_len, List.length_drop]; omega, _, 0, vals_ev (vd r), Heap.get?_push_size _ rfl⟩
theorem pe_ev {K : PySem.W.Frag} {e : Expr} {te : TE} {k : Nat} {p1 p3 pos : Pos} (hK : X.K = K) (he : PE X e te) : PE X (.Subscript e (.Slice none none (some (.Constant (.int 2) k p1)) p3) pos) (tEv K 0 te) := by
  subst hK
  exact ev_core he ⟨fun pins s σ H Q I h => by rw [evalPart_none]; exact wpAny_pure ⟨none, H, I, .none, h⟩⟩ pick_even fun h => h
theorem pe_od {K : PySem.W.Frag} {e : Expr} {te : TE} {k k2 : Nat} {p1 p2 p3 pos : Pos} (hK : X.K = K) (he : PE X e te) : PE X (.Subscript e (.Slice (some (.Constant (.int 1) k2 p2)) none (some (.Constant (.int 2) k p1)) p3) pos) (tEv K 1 te) := by
  subst hK
  exact ev_core he ⟨fun pins s σ H Q I h => (po_some (pe_int (X := X))).run pins s σ H Q I ⟨1, rfl, h⟩⟩ pick_odd vals_drop1
def rEv (K : PySem.W.Frag) (j : Nat) (x : V) (H1 : Hp) (Q : VK) : Prop := ∃ a xs, x = .ref a ∧ SqL K H1 a xs ∧ ∀ p, H1 p = none → Q (.ref p) (upd H1 p (.lst (evL (xs.drop j))))
theorem i_ev0 {K : PySem.W.Frag} {j : Nat} {te : TE} {σ : L2.St} {H : Hp} {Q : VK} (h : te σ H (fun x H1 => rEv K j x H1 Q)) : tEv K j te σ H Q := h
theorem i_ev {K : PySem.W.Frag} {j : Nat} {H : Hp} {Q : VK} {a : Addr} {zs : List Str} (e : SqL K H a (zs.map V.str)) (h : ∀ p H', H p = none → Same H H' → (∀ b, b ≠ p → H' b = H b) → H' p = some (.lst ((evL (zs.drop j)).map V.str)) → Q (.ref p) H') : rEv K j (.ref a) H Q :=
  ⟨a, _, rfl, e, fun p hp => h p _ hp (same_new hp) (fun b hb => upd_ne hb) (by rw [upd_same, ← List.map_drop, ev_map])⟩
end
end Z
namespace Z
open PySem PySem.Spec PyProof.Rows L2
section
variable {K : PySem.W.Frag} {g : TG} {tt : TT} {tk tv : TE} {σ : L2.St} {H H0 : Hp} {Q : VK}
/-- a dict comprehension over J -/
def rDcJ (J : It) (g : TG) (tt : TT) (tk tv : TE) (vs : List Nat) (σ : L2.St) (Q : VK) (H1 : Hp) : Prop := ∀ D, H1 D = none → ∃ W : Nat → Nat → Hp → Prop, (∃ m, W 0 m (upd H1 D (.dK []))) ∧ ∀ i m H, W i m H →
  (J.stop i H ∧ Q (.ref D) H) ∨ (J.go i H ∧ ∃ Nx : Hp → Prop, (∀ H', Nx H' → ∃ m', m' < m ∧ W (i + 1) m' H') ∧ ∀ x H', J.yld i H x H' → g x (wipe σ vs) H' fun σ2 H2 => wipe σ2 vs = wipe σ vs ∧ tt σ2 H2 fun b H3 =>
    if b = true then tk σ2 H3 fun y H4 => tv σ2 H4 fun z H5 => ∃ kvs k, y = kV k ∧ H5 D = some (.dK kvs) ∧ kvs.length < sizeLine ∧ Nx (upd H5 D (.dK (putK kvs k z))) else Nx H3)
def rDcZip (K : PySem.W.Frag) (g : TG) (tt : TT) (tk tv : TE) (vs : List Nat) (σ : L2.St) (Q : VK) (ws : List V) (H1 : Hp) : Prop := ∃ a b xs ys, ws = [.ref a, .ref b] ∧ SqL K H1 a xs ∧ SqL K H1 b ys ∧ rDcJ (Itz K a b) g tt tk tv vs σ Q H1
theorem i_dcZ0 {tr : TA} {vs : List Nat} (h : tr σ H (fun ws H1 => rDcZip K g tt tk tv vs σ Q ws H1)) : tDc (iZip K tr) g tt tk tv vs σ H Q := h
theorem i_dcZ {a b : Addr} {xs ys : List V} {vs : List Nat} (Pv : Addr → Nat → List (Key × V) → Hp → Prop) (ha : SqL K H0 a xs) (hb : SqL K H0 b ys) (hn : xs.length = ys.length) (s0 : Same H0 H) (h0 : ∀ D H', H D = none → Same H H' → H' D = some (.dK []) → (∀ b, b ≠ D → H' b = H b) → Pv D 0 [] H')
    (hl : ∀ D i ys H1, Pv D i ys H1 → Same H0 H1)
    (hs : ∀ i x y T D kvs H1 H2, H D = none → xs[i]? = some x → ys[i]? = some y → H1 D = some (.dK kvs) → Pv D i kvs H1 → H1 T = none → Same H1 H2 → H2 T = some (.tup [x, y]) → (∀ b, b ≠ T → H2 b = H1 b) → g (.ref T) (wipe σ vs) H2 fun σ2 H3 => wipe σ2 vs = wipe σ vs ∧ tt σ2 H3 fun b H4 => if b = true then tk σ2 H4 fun y H5 => tv σ2 H5 fun z H6 => rDcE D (Pv D) i y z H6 else DcS D (Pv D) (i + 1) H4)
    (hd : ∀ D kvs H1, H D = none → H1 D = some (.dK kvs) → Pv D xs.length kvs H1 → Q (.ref D) H1) : rDcZip K g tt tk tv vs σ Q [.ref a, .ref b] H := by
  have w := walk_zip (K := K) (a := a) (b := b) (xs := xs) (ys := ys) (n := xs.length) (by omega)
  refine ⟨a, b, xs, ys, rfl, s0.seq ha, s0.seq hb, fun D hD => ⟨fun i m H => m = xs.length - i ∧ i ≤ xs.length ∧ DcS D (Pv D) i H, ⟨xs.length, by simp, Nat.zero_le _, [], upd_same, h0 D _ hD (fun b o e => by rw [upd_ne (ne_of_none e hD)]; exact e) upd_same (fun b hb => upd_ne hb)⟩, ?_⟩⟩
  rintro i m H' ⟨rfl, hi, kvs, hD', p⟩
  have q := hl D i kvs H' p
  by_cases hlt : i < xs.length
  · refine .inr ⟨w.goes i H' hlt ⟨q.seq ha, q.seq hb⟩, DcS D (Pv D) (i + 1), fun H'' p' => ⟨xs.length - (i + 1), by omega, rfl, hlt, p'⟩, fun x H'' y => ?_⟩
    obtain ⟨T, x', z, rfl, hT, rfl, e1, e2⟩ := w.yields i H' x H'' hlt ⟨q.seq ha, q.seq hb⟩ y
    exact hs i x' z T D kvs H' _ hD e1 e2 hD' p hT (fun b o e => by rw [upd_ne (ne_of_none e hT)]; exact e) upd_same fun b hb => upd_ne hb
  · have e : i = xs.length := by omega
    subst e
    exact .inl ⟨w.stops H' ⟨q.seq ha, q.seq hb⟩, hd D kvs H' hD hD' p⟩
end
end Z
namespace Z
open PySem PySem.Spec PyProof.Rows L2
theorem k_slL {X : Cx} {K : PySem.W.Frag} (hK : X.K = K) : SlR X (rSlL K) := by subst hK; exact sl_list
end Z

set_option Elab.async false
set_option linter.all false
set_option maxRecDepth 100000
set_option maxHeartbeats 2000000
/-! zip of a tuple and a list -/
namespace ZM
open PySem
section
variable {pg : Program} {wd : World} {Ar : Around} {Er : Value → Shared → Prop} {sh : Shared} {q ti tu j1 j2 m1 m2 : Addr} {n1 n2 : Nat} {us vs : Array Value} {c0 d0 : Value}
theorem mix_item {u v : Value} {R : Value → Shared → Prop} (ap : ZipApart q ti tu j1 j2 m1 m2) (zq : IsZip sh.heap q ti tu .none) (pt : IsPair sh.heap ti (.ref j1) (.ref j2)) (pu : IsPair sh.heap tu c0 d0)
    (it1 : sh.heap.IsTupleIter j1 m1 n1) (it2 : sh.heap.IsListIter j2 m2 n2) (sq1 : sh.heap.IsTuple m1 us) (sq2 : sh.heap.IsList m2 vs) (gu : us[n1]? = some u) (gv : vs[n2]? = some v)
    (fin : ∀ g, IsZip g q ti tu (rawInt sh.heap.objs.size) → IsPair g tu u v → g.IsTupleIter j1 m1 (n1 + 1) → g.IsListIter j2 m2 (n2 + 1) → IsPair g sh.heap.objs.size u v → g.objs.size = sh.heap.objs.size + 1 →
      (∀ b ob, b ≠ q → b ≠ tu → b ≠ j1 → b ≠ j2 → sh.heap.get? b = some ob → g.get? b = some ob) → R (.ref sh.heap.objs.size) { sh with heap := g }) :
    wpAny (model pg wd) Ar (Builtin.«zip.__next__» ⟨[.ref q], []⟩) (fun f t => ∃ y, f = .done (.ret y) ∧ R y t) Er sh := by
  show wpAny _ _ (field (.ref q) 2 >>= _) _ _ _
  refine wpAny_bind (wpAny_field zq rfl (x := .bool false) rfl ?_)
  show wpAny _ _ (field (.ref q) 3 >>= _) _ _ _
  refine wpAny_bind (wpAny_field zq rfl (x := .ref ti) rfl (wpAny_bind (wpAny_seqItems pt rfl ?_)))
  show wpAny _ _ (Builtin.SmallTypes.ownedTupleIsFree (.ref q) >>= _) _ _ _
  refine wpAny_bind ?_
  unfold Builtin.SmallTypes.ownedTupleIsFree
  refine wpAny_bind (wpAny_field zq rfl (x := .none) rfl (wpAny_pure ?_))
  simp only [if_true]
  refine wpAny_bind (wpAny_rule (wpAny_bind (wpAny_field zq rfl (x := .ref tu) rfl (wpAny_bind (wpAny_setField_rec zq (by simp) fun g1 y1 k1 => ?_)))))
  replace y1 : IsZip g1 q ti tu .ellipsis := y1
  refine wpAny_bind ?_
  simp only [List.forIn_cons, List.forIn_nil, List.zipIdx_cons, List.zipIdx_nil]
  refine wpAny_bind (wpAny_bind (wpAny_onRaise ?_))
  show wpAny _ _ (Builtin.SmallTypes.nextOf (.ref j1) >>= _) _ _ _
  refine wpAny_bind (RZ.nextOf_tuple_item (it1.extBut k1.extBut ap.i1z) (sq1.extBut k1.extBut ap.l1z) gu fun g2 a2 k2 => wpAny_pure ?_)
  have pu2 : IsPair g2 tu c0 d0 := k2.extBut _ _ ap.TOi1 (k1.extBut _ _ ap.TOz pu)
  refine wpAny_bind (wpAny_seqItems pu2 rfl (wpAny_bind (wpAny_updateSeq_pair pu2 fun g3 pu3 k3 => ?_)))
  replace pu3 : IsPair g3 tu u d0 := pu3
  refine wpAny_bind (wpAny_letGo (wpAny_pure (wpAny_bind (wpAny_bind (wpAny_onRaise ?_)))))
  show wpAny _ _ (Builtin.SmallTypes.nextOf (.ref j2) >>= _) _ _ _
  have b2 := ((it2.extBut k1.extBut ap.i2z).extBut k2.extBut ap.i12.symm).extBut k3.extBut ap.TOi2.symm
  have s2 := ((sq2.extBut k1.extBut ap.l2z).extBut k2.extBut ap.l2i1).extBut k3.extBut ap.l2TO
  refine wpAny_bind (wpAny_nextOf_list_item b2 s2 gv fun g4 b4 k4 => wpAny_pure ?_)
  have pu4 : IsPair g4 tu u d0 := k4.extBut _ _ ap.TOi2 pu3
  refine wpAny_bind (wpAny_seqItems pu4 rfl (wpAny_bind (wpAny_updateSeq_pair pu4 fun g5 pu5 k5 => ?_)))
  replace pu5 : IsPair g5 tu u v := pu5
  refine wpAny_bind (wpAny_letGo (wpAny_pure (wpAny_pure (wpAny_bind (wpAny_seqItems pu5 rfl (wpAny_bind (wpAny_newTuple ?_)))))))
  have ez : g5.objs.size = sh.heap.objs.size := by rw [k5.1, k4.1, k3.1, k2.1, k1.1]
  have y5 : IsZip g5 q ti tu .ellipsis := k5.extBut _ _ ap.TOz.symm (k4.extBut _ _ ap.i2z.symm (k3.extBut _ _ ap.TOz.symm (k2.extBut _ _ ap.i1z.symm y1)))
  have keep : ∀ b ob, b ≠ q → b ≠ tu → b ≠ j1 → b ≠ j2 → sh.heap.get? b = some ob → g5.get? b = some ob := fun b ob n1 n2 n3 n4 e =>
    k5.extBut _ _ n2 (k4.extBut _ _ n4 (k3.extBut _ _ n2 (k2.extBut _ _ n3 (k1.extBut _ _ n1 e))))
  have a5 := ((a2.extBut k3.extBut ap.TOi1.symm).extBut k4.extBut ap.i12).extBut k5.extBut ap.TOi1.symm
  have b5 := b4.extBut k5.extBut ap.TOi2.symm
  have lq : q < g5.objs.size := Heap.lt_size y5
  have lu : tu < g5.objs.size := Heap.lt_size pu5
  show wpAny _ _ (Builtin.SmallTypes.ownedTupleHandOut (.ref q) (.ref g5.objs.size) >>= _) _ _ _
  refine wpAny_bind ?_
  unfold Builtin.SmallTypes.ownedTupleHandOut
  have y6 : IsZip (g5.push { cls := .type "tuple", data := .seq #[u, v] }) q ti tu .ellipsis := Heap.get?_push_of_some _ y5
  refine wpAny_bind (wpAny_setField_rec y6 (by simp) fun g7 y7 k7 => ?_)
  replace y7 : IsZip g7 q ti tu (rawInt g5.objs.size) := y7
  refine wpAny_setField_rec y7 (by simp) fun g8 y8 k8 => ?_
  replace y8 : IsZip g8 q ti tu (rawInt g5.objs.size) := y8
  have up : ∀ b ob, b ≠ q → g5.get? b = some ob → g8.get? b = some ob := fun b ob n e => k8.extBut _ _ n (k7.extBut _ _ n (Heap.get?_push_of_some _ e))
  have t8 : IsPair g8 g5.objs.size u v := k8.extBut _ _ (Nat.ne_of_gt lq) (k7.extBut _ _ (Nat.ne_of_gt lq) (Heap.get?_push_size _ rfl))
  have l8 : g8.objs.size = g5.objs.size + 1 := by rw [k8.1, k7.1, Heap.size_push]
  rw [ez] at y8 t8 l8
  refine wpAny_pure ⟨_, rfl, ?_⟩
  show R (.ref g5.objs.size) _
  rw [ez]
  exact fin g8 y8 (up _ _ ap.TOz pu5) (a5.at fun ob e => up _ ob ap.i1z e) (b5.at fun ob e => up _ ob ap.i2z e) t8 l8 fun b ob n1 n2 n3 n4 e => up b ob n1 (keep b ob n1 n2 n3 n4 e)
theorem mix_end {R : Fin → Shared → Prop} (calm : Ar.handled = none) (ap : ZipApart q ti tu j1 j2 m1 m2) (zq : IsZip sh.heap q ti tu .none) (pt : IsPair sh.heap ti (.ref j1) (.ref j2)) (pu : IsPair sh.heap tu c0 d0)
    (it1 : sh.heap.IsTupleIter j1 m1 n1) (it2 : sh.heap.IsListIter j2 m2 n2) (sq1 : sh.heap.IsTuple m1 us) (sq2 : sh.heap.IsList m2 vs) (out : us[n1]? = none ∨ vs[n2]? = none)
    (fin : ∀ g e, (∀ b ob, b ≠ q → b ≠ tu → b ≠ j1 → b ≠ j2 → sh.heap.get? b = some ob → g.get? b = some ob) → (∃ ob, g.get? e = some ob ∧ ob.cls = .type "StopIteration") → Er (.ref e) { sh with heap := g }) :
    wpAny (model pg wd) Ar (Builtin.«zip.__next__» ⟨[.ref q], []⟩) R Er sh := by
  show wpAny _ _ (field (.ref q) 2 >>= _) _ _ _
  refine wpAny_bind (wpAny_field zq rfl (x := .bool false) rfl ?_)
  show wpAny _ _ (field (.ref q) 3 >>= _) _ _ _
  refine wpAny_bind (wpAny_field zq rfl (x := .ref ti) rfl (wpAny_bind (wpAny_seqItems pt rfl ?_)))
  show wpAny _ _ (Builtin.SmallTypes.ownedTupleIsFree (.ref q) >>= _) _ _ _
  refine wpAny_bind ?_
  unfold Builtin.SmallTypes.ownedTupleIsFree
  refine wpAny_bind (wpAny_field zq rfl (x := .none) rfl (wpAny_pure ?_))
  simp only [if_true]
  refine wpAny_bind (wpAny_rule (wpAny_bind (wpAny_field zq rfl (x := .ref tu) rfl (wpAny_bind (wpAny_setField_rec zq (by simp) fun g1 y1 k1 => ?_)))))
  replace y1 : IsZip g1 q ti tu .ellipsis := y1
  refine wpAny_bind ?_
  simp only [List.forIn_cons, List.forIn_nil, List.zipIdx_cons, List.zipIdx_nil]
  refine wpAny_bind (wpAny_bind (wpAny_onRaise ?_))
  show wpAny _ _ (Builtin.SmallTypes.nextOf (.ref j1) >>= _) _ _ _
  have a1 := it1.extBut k1.extBut ap.i1z
  have c1 := sq1.extBut k1.extBut ap.l1z
  cases gu : us[n1]? with
  | none =>
    refine wpAny_bind (RZ.nextOf_tuple_end calm a1 c1 gu fun g2 e k2 ⟨ob, eo, co⟩ => ?_)
    have y2 : IsZip g2 q ti tu .ellipsis := k2 _ _ ap.i1z.symm y1
    have ne : e ≠ q := fun z => by rw [z, y2] at eo; cases eo; simp at co
    exact wpAny_setField_rec y2 (by simp) fun g3 _ k3 => fin g3 e (fun b ob' n1 _ n3 _ e' => k3.extBut _ _ n1 (k2 _ _ n3 (k1.extBut _ _ n1 e'))) ⟨ob, k3.extBut _ _ ne eo, co⟩
  | some u =>
    have gv : vs[n2]? = none := out.resolve_left fun z => by rw [gu] at z; cases z
    refine wpAny_bind (RZ.nextOf_tuple_item a1 c1 gu fun g2 _ k2 => wpAny_pure ?_)
    have pu2 : IsPair g2 tu c0 d0 := k2.extBut _ _ ap.TOi1 (k1.extBut _ _ ap.TOz pu)
    refine wpAny_bind (wpAny_seqItems pu2 rfl (wpAny_bind (wpAny_updateSeq_pair pu2 fun g3 pu3 k3 => ?_)))
    refine wpAny_bind (wpAny_letGo (wpAny_pure (wpAny_bind (wpAny_bind (wpAny_onRaise ?_)))))
    show wpAny _ _ (Builtin.SmallTypes.nextOf (.ref j2) >>= _) _ _ _
    have b2 := ((it2.extBut k1.extBut ap.i2z).extBut k2.extBut ap.i12.symm).extBut k3.extBut ap.TOi2.symm
    have s2 := ((sq2.extBut k1.extBut ap.l2z).extBut k2.extBut ap.l2i1).extBut k3.extBut ap.l2TO
    refine wpAny_bind (wpAny_nextOf_list_end calm b2 s2 gv fun g4 e k4 ⟨ob, eo, co⟩ => ?_)
    have y4 : IsZip g4 q ti tu .ellipsis := k4 _ _ ap.i2z.symm (k3.extBut _ _ ap.TOz.symm (k2.extBut _ _ ap.i1z.symm y1))
    have ne : e ≠ q := fun z => by rw [z, y4] at eo; cases eo; simp at co
    exact wpAny_setField_rec y4 (by simp) fun g5 _ k5 => fin g5 e (fun b ob' n1 n2 n3 n4 e' => k5.extBut _ _ n1 (k4 _ _ n4 (k3.extBut _ _ n2 (k2.extBut _ _ n3 (k1.extBut _ _ n1 e'))))) ⟨ob, k5.extBut _ _ ne eo, co⟩
end
end ZM
namespace ZM
open PySem PySem.Spec PyProof.Rows L2
section
variable {pg : Program} {wd : World} {Ar : Around} {Er : Value → Shared → Prop} {sh : Shared} {q ti tu j1 j2 m1 m2 : Addr} {n1 n2 : Nat} {us vs : Array Value} {c0 d0 : Value}
theorem mix_nextI {u v : Value} {R : Option Value → Shared → Prop} (ap : ZipApart q ti tu j1 j2 m1 m2) (zq : IsZip sh.heap q ti tu .none) (pt : IsPair sh.heap ti (.ref j1) (.ref j2)) (pu : IsPair sh.heap tu c0 d0)
    (it1 : sh.heap.IsTupleIter j1 m1 n1) (it2 : sh.heap.IsListIter j2 m2 n2) (sq1 : sh.heap.IsTuple m1 us) (sq2 : sh.heap.IsList m2 vs) (gu : us[n1]? = some u) (gv : vs[n2]? = some v)
    (fin : ∀ g, IsZip g q ti tu (rawInt sh.heap.objs.size) → IsPair g tu u v → g.IsTupleIter j1 m1 (n1 + 1) → g.IsListIter j2 m2 (n2 + 1) → IsPair g sh.heap.objs.size u v → g.objs.size = sh.heap.objs.size + 1 →
      (∀ b ob, b ≠ q → b ≠ tu → b ≠ j1 → b ≠ j2 → sh.heap.get? b = some ob → g.get? b = some ob) → R (some (.ref sh.heap.objs.size)) { sh with heap := g }) : wpAny (model pg wd) Ar (pyNext (.ref q)) R Er sh := by
  have ty : sh.TypeIs (.ref q) "zip" := ⟨_, zq, rfl⟩
  unfold pyNext
  refine wpAny_bind (wpAny_attempt (wpAny_callSpecial?_slot (name := Str.ofString "__next__") ty F.slot_zip_next (wpAny_call_entry F.slot_zip_next ty F.entry_zip_next ?_ (F.args_zip_next_1 _))))
  exact mix_item ap zq pt pu it1 it2 sq1 sq2 gu gv fun g h1 h2 h3 h4 h5 h6 h7 => wpAny_pure (fin g h1 h2 h3 h4 h5 h6 h7)
theorem mix_nextE {R : Option Value → Shared → Prop} (calm : Ar.handled = none) (ap : ZipApart q ti tu j1 j2 m1 m2) (zq : IsZip sh.heap q ti tu .none) (pt : IsPair sh.heap ti (.ref j1) (.ref j2)) (pu : IsPair sh.heap tu c0 d0)
    (it1 : sh.heap.IsTupleIter j1 m1 n1) (it2 : sh.heap.IsListIter j2 m2 n2) (sq1 : sh.heap.IsTuple m1 us) (sq2 : sh.heap.IsList m2 vs) (out : us[n1]? = none ∨ vs[n2]? = none)
    (fin : ∀ g, (∀ b ob, b ≠ q → b ≠ tu → b ≠ j1 → b ≠ j2 → sh.heap.get? b = some ob → g.get? b = some ob) → R none { sh with heap := g }) : wpAny (model pg wd) Ar (pyNext (.ref q)) R Er sh := by
  have ty : sh.TypeIs (.ref q) "zip" := ⟨_, zq, rfl⟩
  unfold pyNext
  refine wpAny_bind (wpAny_attempt (wpAny_callSpecial?_slot (name := Str.ofString "__next__") ty F.slot_zip_next (wpAny_call_entry F.slot_zip_next ty F.entry_zip_next ?_ (F.args_zip_next_1 _))))
  refine mix_end calm ap zq pt pu it1 it2 sq1 sq2 out fun g e k ⟨ob, eo, co⟩ => ?_
  exact wpAny_bind (wpAny_isInstance (T := "StopIteration") (b := true) ⟨ob, eo, co⟩ isSubtype_stop (wpAny_pure (fin _ k)))
abbrev mx1 (g : Heap) (m1 : Addr) : Heap := g.push { cls := .type "tuple_iterator", data := .fields #[.ref m1, .int 0 0] }
abbrev mx2 (g : Heap) (m1 m2 : Addr) : Heap := (mx1 g m1).push { cls := .type "list_iterator", data := .fields #[.ref m2, .int 0 0] }
abbrev mx3 (g : Heap) (m1 m2 : Addr) : Heap := (mx2 g m1 m2).push { cls := .type "tuple", data := .seq #[.ref g.objs.size, .ref (mx1 g m1).objs.size] }
abbrev mx4 (g : Heap) (m1 m2 : Addr) : Heap := (mx3 g m1 m2).push { cls := .type "tuple", data := .seq #[.none, .none] }
abbrev mx5 (g : Heap) (m1 m2 : Addr) : Heap := (mx4 g m1 m2).push { cls := .type "zip", data := .fields #[.none, .bool false, .bool false, .ref (mx2 g m1 m2).objs.size, .ref (mx3 g m1 m2).objs.size] }
theorem mix_new (m1 m2 : Addr) (us vs : Array Value) :
    Meets (Builtin.«zip.__new__» ⟨[.type "zip", .ref m1, .ref m2], []⟩) (fun _ R t => t.heap.IsTuple m1 us ∧ t.heap.IsList m2 vs ∧ R (.ok (.ret (.ref (mx4 t.heap m1 m2).objs.size))) { t with heap := mx5 t.heap m1 m2 }) :=
  .of_wp fun prog w A R s h => by
    obtain ⟨hp, g, d, tk, os⟩ := s
    obtain ⟨sq1, sq2, h⟩ := h
    have hsub := sub_zip
    have L1 : Heap.IsTuple (Shared.heap ⟨hp, g, d, tk, os⟩) m1 us := sq1
    have L2 : Heap.IsList (Shared.heap ⟨hp.push { cls := .type "tuple_iterator", data := .fields #[.ref m1, .int 0 0] }, g, d, tk, os⟩) m2 vs := Heap.IsList.push sq2 _
    wp_walk using wpAny_pyIter_tuple L1, wpAny_pyIter_list L2
    exact ⟨_, rfl, h⟩
theorem mix_call {R : Value → Shared → Prop} (sq1 : sh.heap.IsTuple m1 us) (sq2 : sh.heap.IsList m2 vs)
    (fin : ∀ g, IsZip g (sh.heap.objs.size + 4) (sh.heap.objs.size + 2) (sh.heap.objs.size + 3) .none → IsPair g (sh.heap.objs.size + 2) (.ref sh.heap.objs.size) (.ref (sh.heap.objs.size + 1)) → IsPair g (sh.heap.objs.size + 3) .none .none →
      g.IsTupleIter sh.heap.objs.size m1 0 → g.IsListIter (sh.heap.objs.size + 1) m2 0 → (∀ b ob, sh.heap.get? b = some ob → g.get? b = some ob) → R (.ref (sh.heap.objs.size + 4)) { sh with heap := g }) :
    wpAny (model pg wd) Ar (call (.type "zip") [.ref m1, .ref m2]) R Er sh := by
  refine callType_new F.called_zip (by decide) (F.typeCall_zip_2 _ _) (F.newCall_zip_2 _ _) (fun ob => F.args_object_init_3 ob _ _) F.entry_zip_new (mix_new m1 m2 us vs) ⟨sq1, sq2, ?_⟩
  have z1 : (mx1 sh.heap m1).objs.size = sh.heap.objs.size + 1 := Heap.size_push ..
  have z2 : (mx2 sh.heap m1 m2).objs.size = sh.heap.objs.size + 2 := by rw [Heap.size_push, z1]
  have z3 : (mx3 sh.heap m1 m2).objs.size = sh.heap.objs.size + 3 := by rw [Heap.size_push, z2]
  have z4 : (mx4 sh.heap m1 m2).objs.size = sh.heap.objs.size + 4 := by rw [Heap.size_push, z3]
  have up1 : ∀ b ob, (mx1 sh.heap m1).get? b = some ob → (mx5 sh.heap m1 m2).get? b = some ob := fun b ob e => Heap.get?_push_of_some _ (Heap.get?_push_of_some _ (Heap.get?_push_of_some _ (Heap.get?_push_of_some _ e)))
  have p5 : (mx5 sh.heap m1 m2).get? (mx4 sh.heap m1 m2).objs.size = some _ := Heap.get?_push_size _ rfl
  have p4 : (mx5 sh.heap m1 m2).get? (mx3 sh.heap m1 m2).objs.size = some _ := Heap.get?_push_of_some _ (Heap.get?_push_size _ rfl)
  have p3 : (mx5 sh.heap m1 m2).get? (mx2 sh.heap m1 m2).objs.size = some _ := Heap.get?_push_of_some _ (Heap.get?_push_of_some _ (Heap.get?_push_size _ rfl))
  have p2 : (mx5 sh.heap m1 m2).get? (mx1 sh.heap m1).objs.size = some _ := Heap.get?_push_of_some _ (Heap.get?_push_of_some _ (Heap.get?_push_of_some _ (Heap.get?_push_size _ rfl)))
  have p1 : (mx5 sh.heap m1 m2).get? sh.heap.objs.size = some _ := up1 _ _ (Heap.get?_push_size _ rfl)
  show _ ∧ _
  rw [z2, z3, z4] at p5
  rw [z1, z2] at p3
  rw [z3] at p4
  rw [z1] at p2
  rw [z4]
  exact ⟨⟨_, p5, rfl⟩, fin _ p5 p3 p4 ⟨_, p1, rfl, rfl⟩ ⟨_, p2, rfl, rfl⟩ fun b ob e => up1 b ob (Heap.get?_push_of_some _ e)⟩
end
/-- the tuple at a and the list at b, their items in new pairs -/
def ItzM (K : PySem.W.Frag) (a b : Addr) : It :=
  ⟨fun i H => ∃ (xs ys : List V) (x y : V), SqT K H a xs ∧ SqL K H b ys ∧ xs[i]? = some x ∧ ys[i]? = some y,
    fun i H v H' => ∃ T x y, v = .ref T ∧ H T = none ∧ H' = upd H T (.tup [x, y]) ∧ (∀ us, SqT K H a us → us[i]? = some x) ∧ ∀ us, SqL K H b us → us[i]? = some y,
    fun i H => ∃ xs ys : List V, SqT K H a xs ∧ SqL K H b ys ∧ (xs.length ≤ i ∨ ys.length ≤ i)⟩
theorem turn_mix {pg : Program} {wd : World} {K : PySem.W.Frag} {es : List Expr} {kk : Nat} {tp : Pos} {a b q ti tu j1 j2 : Addr} (ap : ZipApart q ti tu j1 j2 a b) :
    Turn pg wd K (.Tuple es kk tp) (ItzM K a b) [q, ti, tu, j1, j2] q (fun i g => IsZip g q ti tu .none ∧ IsPair g ti (.ref j1) (.ref j2) ∧ (∃ x y, IsPair g tu x y) ∧ g.IsTupleIter j1 a i ∧ g.IsListIter j2 b i) where
  mem := by simp
  obj := fun i g st c hc => by
    obtain ⟨zq, pt, ⟨x, y, pu⟩, ⟨o1, e1, _, d1⟩, ⟨o2, e2, _, d2⟩⟩ := st
    simp only [List.mem_cons, List.not_mem_nil, or_false] at hc
    rcases hc with rfl | rfl | rfl | rfl | rfl
    · exact ⟨_, zq, fun v k => nomatch k⟩
    · exact ⟨_, pt, fun v k => nomatch k⟩
    · exact ⟨_, pu, fun v k => nomatch k⟩
    · exact ⟨o1, e1, fun v k => by rw [d1] at k; cases k⟩
    · exact ⟨o2, e2, fun v k => by rw [d2] at k; cases k⟩
  keep := fun i g g' ⟨zq, pt, ⟨x, y, pu⟩, i1, i2⟩ k =>
    ⟨k q (by simp) _ zq, k ti (by simp) _ pt, ⟨x, y, k tu (by simp) _ pu⟩, i1.at fun o e => k j1 (by simp) o e, i2.at fun o e => k j2 (by simp) o e⟩
  item := by
    intro X hP hw hK hc i pins s σ H E I hf ⟨zq, pt, ⟨x0, y0, pu⟩, i1, i2⟩ ⟨xs, ys, x, y, qx, qy, hx, hy⟩
    subst hP hw hK
    obtain ⟨us, ru, pa, _⟩ := I.tuple qx
    obtain ⟨vs, rv, pb, _⟩ := I.list qy
    obtain ⟨u, hu, ru1⟩ := ru.get hx
    obtain ⟨v, hv, rv1⟩ := rv.get hy
    have lq : q < s.heap.objs.size := Heap.lt_size zq
    refine mix_nextI ap zq pt pu i1 i2 pa pb.isList (u := u) (v := v) (by simpa using hu) (by simpa using hv) fun g zq' pu' i1' i2' tt _ k => ?_
    refine ⟨_, rfl, wpAny_letOwnedTupleGo_zip (s := { s with heap := g }) zq' fun g2 zq2 sb => ?_⟩
    have tt2 : g2.get? s.heap.objs.size = some { cls := .type "tuple", data := .seq #[u, v] } := (sb.2 _ (Nat.ne_of_gt lq)).trans tt
    have new : ObjOk X.prog X.w (upd H s.heap.objs.size (.tup [x, y])) g2 s.heap.objs.size (.tup [x, y]) := ⟨by show 2 ≤ sizeLine; decide, [u, v], .cons ru1 (.cons rv1 .nil), ⟨_, tt2, rfl, _, rfl⟩⟩
    have I1 : Inv X pins σ (upd H s.heap.objs.size (.tup [x, y])) { s with heap := g2 } :=
      I.turnedNew (t' := s.toks) (ch := [q, ti, tu, j1, j2]) (fun c o nb e => (sb.2 c (fun z => nb (by simp [z]))).trans (k c o (fun z => nb (by simp [z])) (fun z => nb (by simp [z])) (fun z => nb (by simp [z])) (fun z => nb (by simp [z])) e)) hf (Nat.le_refl _) new
    refine ⟨.ref s.heap.objs.size, _, I1, rfl, ⟨_, x, y, rfl, I.hok.fresh (Nat.le_refl _), rfl, fun l hl => by rw [I.tuple_inj hl qx]; exact hx, fun l hl => by rw [I.list_inj hl qy]; exact hy⟩, ⟨zq2, (sb.2 _ ap.TIz).trans (k _ _ ap.TIz ap.TITO ap.TIi1 ap.TIi2 pt), ⟨u, v, (sb.2 _ ap.TOz).trans pu'⟩, i1'.at fun o e => (sb.2 _ ap.i1z).trans e, i2'.at fun o e => (sb.2 _ ap.i2z).trans e⟩, fun c hcm => ?_⟩
    have lc : c < s.heap.objs.size := by
      simp only [List.mem_cons, List.not_mem_nil, or_false] at hcm
      rcases hcm with rfl | rfl | rfl | rfl | rfl
      · exact lq
      · exact Heap.lt_size pt
      · exact Heap.lt_size pu
      · obtain ⟨_, e, _⟩ := i1; exact Heap.lt_size e
      · obtain ⟨_, e, _⟩ := i2; exact Heap.lt_size e
    rw [upd_ne (Nat.ne_of_lt lc)]
    exact (hf c hcm).1
  done := by
    intro X hP hw hK hc i pins s σ H E I hf ⟨zq, pt, ⟨x0, y0, pu⟩, i1, i2⟩ ⟨xs, ys, qx, qy, ho⟩
    subst hP hw hK
    obtain ⟨us, ru, pa, _⟩ := I.tuple qx
    obtain ⟨vs, rv, pb, _⟩ := I.list qy
    have l1 := ru.length
    have l2 := rv.length
    have out : us.toArray[i]? = none ∨ vs.toArray[i]? = none := ho.imp (fun z => by simp; omega) fun z => by simp; omega
    exact mix_nextE (I.ok.hd hc) ap zq pt pu i1 i2 pa pb.isList out fun g k => ⟨rfl, I.turnedL (t' := s.toks) (ch := [q, ti, tu, j1, j2]) (fun c o nb e => k c o (fun z => nb (by simp [z])) (fun z => nb (by simp [z])) (fun z => nb (by simp [z])) (fun z => nb (by simp [z])) e) hf⟩
  self := fun A i s Q E st h => wpAny_pyIter_zip st.1 h
end ZM
namespace Z
open PySem PySem.Spec PyProof.Rows L2 ZM
/-- zip of a list or a tuple, and a list -/
def iZipM (K : PySem.W.Frag) (ta : TA) : TI := fun σ H R => ta σ H fun vs H1 => ∃ a b xs ys, vs = [.ref a, .ref b] ∧ SqL K H1 b ys ∧ ((SqL K H1 a xs ∧ R (Itz K a b) H1) ∨ (SqT K H1 a xs ∧ R (ItzM K a b) H1))
theorem pi_zipM {X : Cx} {e e2 : Expr} {ta : TA} {p pos tpos : Pos} {elts : List Expr} {kk : Nat} (hg : Gl X "zip") (hm : X.mg "zip" = none) (ha : PA X [e, e2] ta)
    (hs : starEach [e, e2] X.env = (false, eval e X.env) :: starEach [e2] X.env := by rfl) (hp : (backTo pos (starEach [e2] X.env)).any (·.1) = false := by rfl) :
    PI X (.Tuple elts kk tpos) (.Call (.Name "zip" p) [e, e2] [] pos) (iZipM X.K ta) := by
  refine ⟨fun pins s σ H R I h => ?_⟩
  refine Call_ (ld_blt I hg hm PyProof.Rows.boot_zip (PyProof.Rows.callWith_type1 (thn (ha.run pos pins s σ H _ I h) fun us s1 ⟨vs, H1, I1, r1, a, b, xs, ys, ev, qy, q1⟩ => ?_) hs hp))
  subst ev
  obtain ⟨u1, u2, rfl, ra, rb⟩ := vals2 r1
  obtain rfl : u1 = Value.ref a := ra
  obtain rfl : u2 = Value.ref b := rb
  have own : ∀ c, c ∈ [s1.heap.objs.size + 4, s1.heap.objs.size + 2, s1.heap.objs.size + 3, s1.heap.objs.size, s1.heap.objs.size + 1] → FpOk X pins H1 c := fun c hc => by
    have le : s1.heap.objs.size ≤ c := by
      simp only [List.mem_cons, List.not_mem_nil, or_false] at hc
      omega
    exact I1.fpOk le (I1.hok.fresh le)
  obtain ⟨vs2, rv2, p2, _⟩ := I1.list qy
  rcases q1 with ⟨qx, q⟩ | ⟨qx, q⟩
  · obtain ⟨us1, ru1, p1, _⟩ := I1.list qx
    refine call_zip_2 p1.isList p2.isList fun g zq pt pu i1 i2 _ k => wpAny_pyIter_zip zq ?_
    exact ⟨_, _, _, _, H1, rfl, I1.kept (t' := s1.toks) k, turn_zip (PySem.W.ktu_apart s1.heap.objs.size a b p1.lt p2.lt), ⟨zq, pt, ⟨_, _, pu⟩, i1, i2⟩, own, q⟩
  · obtain ⟨us1, ru1, p1, _⟩ := I1.tuple qx
    obtain ⟨o1, ho1, _⟩ := id p1
    refine mix_call (show s1.heap.IsTuple a us1.toArray from p1) p2.isList fun g zq pt pu i1 i2 k => wpAny_pyIter_zip zq ?_
    exact ⟨_, _, _, _, H1, rfl, I1.kept (t' := s1.toks) k, turn_mix (PySem.W.ktu_apart s1.heap.objs.size a b (Heap.lt_size ho1) p2.lt), ⟨zq, pt, ⟨_, _, pu⟩, i1, i2⟩, own, q⟩
theorem walk_mix {K : PySem.W.Frag} {a b : Addr} {xs ys : List V} {n : Nat} (hn : n = min xs.length ys.length) : Walk (ItzM K a b) n (fun H => SqT K H a xs ∧ SqL K H b ys) (YPair (fun i => xs[i]?) (fun i => ys[i]?)) where
  goes := fun i H hi ⟨h1, h2⟩ => ⟨xs, ys, xs[i]'(by omega), ys[i]'(by omega), h1, h2, List.getElem?_eq_getElem (by omega), List.getElem?_eq_getElem (by omega)⟩
  stops := fun H ⟨h1, h2⟩ => ⟨xs, ys, h1, h2, by omega⟩
  yields := fun i H x H' hi ⟨h1, h2⟩ ⟨T, u, v, e1, e2, e3, e4, e5⟩ => ⟨T, u, v, e1, e2, e3, e4 xs h1, e5 ys h2⟩
section
variable {K : PySem.W.Frag} {g : TG} {tb : TS} {D : Ends} {σ : L2.St} {H H0 : Hp} {tr : TA}
def rForZipM (K : PySem.W.Frag) (g : TG) (tb : TS) (D : Ends) (σ : L2.St) (vs : List V) (H1 : Hp) : Prop := ∃ a b xs ys, vs = [.ref a, .ref b] ∧ SqL K H1 b ys ∧ ((SqL K H1 a xs ∧ rFor (Itz K a b) g tb D σ H1) ∨ (SqT K H1 a xs ∧ rFor (ItzM K a b) g tb D σ H1))
theorem i_forZM0 (h : tr σ H (fun vs H1 => rForZipM K g tb D σ vs H1)) : tFor (iZipM K tr) g tb D σ H := h
theorem i_forZM {a b : Addr} {xs ys : List V} (Pv : Nat → L2.St → Hp → Prop) (ha : SqA K H0 a xs) (hb : SqL K H0 b ys) (hl : xs.length = ys.length) (h0 : Pv 0 σ H) (hk : ∀ i σ H1, Pv i σ H1 → Same H0 H1)
    (hs : ∀ i x y T σ H H2, xs[i]? = some x → ys[i]? = some y → Pv i σ H → H T = none → Same H H2 → H2 T = some (.tup [x, y]) → (∀ b, b ≠ T → H2 b = H b) → g (.ref T) σ H2 fun σ2 H2 => tb { D with nx := Pv (i + 1), ct := Pv (i + 1), bk := D.nx } σ2 H2)
    (hd : ∀ σ H, Pv xs.length σ H → D.nx σ H) : rForZipM K g tb D σ [.ref a, .ref b] H := by
  have step : ∀ i v σ H H', Pv i σ H → YPair (fun i => xs[i]?) (fun i => ys[i]?) i H v H' → g v σ H' fun σ2 H2 => tb { D with nx := Pv (i + 1), ct := Pv (i + 1), bk := D.nx } σ2 H2 := fun i v σ H H' p ⟨T, x, z, e0, hT, e, e1, e2⟩ => by
    subst e0 e
    exact hs i x z T σ H _ e1 e2 p hT (fun b o e => by rw [upd_ne (ne_of_none e hT)]; exact e) upd_same fun b hb => upd_ne hb
  refine ⟨a, b, xs, ys, rfl, (hk _ _ _ h0).seq hb, ha.elim (fun ha => .inl ⟨(hk _ _ _ h0).seq ha, ?_⟩) fun ha => .inr ⟨Same_seqT (hk _ _ _ h0) ha, ?_⟩⟩
  · exact for_it (walk_zip (n := xs.length) (by omega)) Pv h0 (fun i σ H1 _ p => ⟨(hk i σ H1 p).seq ha, (hk i σ H1 p).seq hb⟩) (fun i v σ H H' hi p y => step i v σ H H' p y) hd
  · exact for_it (walk_mix (n := xs.length) (by omega)) Pv h0 (fun i σ H1 _ p => ⟨Same_seqT (hk i σ H1 p) ha, (hk i σ H1 p).seq hb⟩) (fun i v σ H H' hi p y => step i v σ H H' p y) hd
end
end Z

set_option Elab.async false
set_option linter.all false
set_option maxRecDepth 100000
set_option maxHeartbeats 2000000
/-! zip of two sequences, each a list or a tuple (or an own object walked by its tuple): in comprehensions, and in dict(zip(..)) -/
namespace ZA
open PySem
/-- the iterator at j of the sequence at m (b: a tuple), n items told -/
def AIt (b : Bool) (g : Heap) (j m : Addr) (n : Nat) : Prop := cond b (g.IsTupleIter j m n) (g.IsListIter j m n)
def ASq (b : Bool) (g : Heap) (m : Addr) (us : Array Value) : Prop := cond b (g.IsTuple m us) (g.IsList m us)
variable {b b1 b2 : Bool} {g g' : Heap} {j m c : Addr} {n : Nat} {us : Array Value}
theorem AIt.ext (x : AIt b g j m n) (k : Heap.ExtBut c g g') (h : j ≠ c) : AIt b g' j m n := by
  cases b
  · exact Heap.IsListIter.extBut x k h
  · exact Heap.IsTupleIter.extBut x k h
theorem ASq.ext (x : ASq b g m us) (k : Heap.ExtBut c g g') (h : m ≠ c) : ASq b g' m us := by
  cases b
  · exact Heap.IsList.extBut x k h
  · exact Heap.IsTuple.extBut x k h
theorem AIt.at (x : AIt b g j m n) (k : ∀ o, g.get? j = some o → g'.get? j = some o) : AIt b g' j m n := by
  cases b
  · exact Heap.IsListIter.at x k
  · exact Heap.IsTupleIter.at x k
theorem ASq.at (x : ASq b g m us) (k : ∀ o, g.get? m = some o → g'.get? m = some o) : ASq b g' m us := by
  cases b
  · exact Heap.IsList.at x k
  · exact Heap.IsTuple.at x k
theorem AIt.obj (x : AIt b g j m n) : ∃ o, g.get? j = some o ∧ ∀ v k, o.data ≠ .seq v k := by
  cases b
  · obtain ⟨o, h1, _, h2⟩ := x
    exact ⟨o, h1, fun v k z => by rw [h2] at z; cases z⟩
  · obtain ⟨o, h1, _, h2⟩ := x
    exact ⟨o, h1, fun v k z => by rw [h2] at z; cases z⟩
theorem ASq.obj (x : ASq b g m us) : ∃ o, g.get? m = some o := by
  cases b
  · obtain ⟨o, h1, _⟩ := x
    exact ⟨o, h1⟩
  · obtain ⟨o, h1, _⟩ := x
    exact ⟨o, h1⟩
section
variable {pg : Program} {wd : World} {Ar : Around} {Er : Value → Shared → Prop} {sh : Shared}
theorem a_item {x : Value} {R : Value → Shared → Prop} (i : AIt b sh.heap j m n) (s : ASq b sh.heap m us) (hx : us[n]? = some x) (fin : ∀ g, AIt b g j m (n + 1) → Heap.SameBut j sh.heap g → R x { sh with heap := g }) :
    wpAny (model pg wd) Ar (Builtin.SmallTypes.nextOf (.ref j)) R Er sh := by
  cases b
  · exact wpAny_nextOf_list_item i s hx fin
  · exact RZ.nextOf_tuple_item i s hx fin
theorem a_end {R : Value → Shared → Prop} (calm : Ar.handled = none) (i : AIt b sh.heap j m n) (s : ASq b sh.heap m us) (hx : us[n]? = none) (fin : ∀ g e, Heap.ExtBut j sh.heap g → (∃ o, g.get? e = some o ∧ o.cls = .type "StopIteration") → Er (.ref e) { sh with heap := g }) :
    wpAny (model pg wd) Ar (Builtin.SmallTypes.nextOf (.ref j)) R Er sh := by
  cases b
  · exact wpAny_nextOf_list_end calm i s hx fin
  · exact RZ.nextOf_tuple_end calm i s hx fin
variable {q ti tu j1 j2 m1 m2 : Addr} {n1 n2 : Nat} {us1 us2 : Array Value} {c0 d0 : Value}
/-- the next pair, the zip's own tuple being free -/
theorem az_item {u v : Value} {R : Value → Shared → Prop} (ap : ZipApart q ti tu j1 j2 m1 m2) (zq : IsZip sh.heap q ti tu .none) (pt : IsPair sh.heap ti (.ref j1) (.ref j2)) (pu : IsPair sh.heap tu c0 d0)
    (it1 : AIt b1 sh.heap j1 m1 n1) (it2 : AIt b2 sh.heap j2 m2 n2) (sq1 : ASq b1 sh.heap m1 us1) (sq2 : ASq b2 sh.heap m2 us2) (gu : us1[n1]? = some u) (gv : us2[n2]? = some v)
    (fin : ∀ g, IsZip g q ti tu (rawInt sh.heap.objs.size) → IsPair g tu u v → AIt b1 g j1 m1 (n1 + 1) → AIt b2 g j2 m2 (n2 + 1) → IsPair g sh.heap.objs.size u v → g.objs.size = sh.heap.objs.size + 1 →
      (∀ b ob, b ≠ q → b ≠ tu → b ≠ j1 → b ≠ j2 → sh.heap.get? b = some ob → g.get? b = some ob) → R (.ref sh.heap.objs.size) { sh with heap := g }) :
    wpAny (model pg wd) Ar (Builtin.«zip.__next__» ⟨[.ref q], []⟩) (fun f t => ∃ y, f = .done (.ret y) ∧ R y t) Er sh := by
  show wpAny _ _ (field (.ref q) 2 >>= _) _ _ _
  refine wpAny_bind (wpAny_field zq rfl (x := .bool false) rfl ?_)
  show wpAny _ _ (field (.ref q) 3 >>= _) _ _ _
  refine wpAny_bind (wpAny_field zq rfl (x := .ref ti) rfl (wpAny_bind (wpAny_seqItems pt rfl ?_)))
  show wpAny _ _ (Builtin.SmallTypes.ownedTupleIsFree (.ref q) >>= _) _ _ _
  refine wpAny_bind ?_
  unfold Builtin.SmallTypes.ownedTupleIsFree
  refine wpAny_bind (wpAny_field zq rfl (x := .none) rfl (wpAny_pure ?_))
  simp only [if_true]
  refine wpAny_bind (wpAny_rule (wpAny_bind (wpAny_field zq rfl (x := .ref tu) rfl (wpAny_bind (wpAny_setField_rec zq (by simp) fun g1 y1 k1 => ?_)))))
  replace y1 : IsZip g1 q ti tu .ellipsis := y1
  refine wpAny_bind ?_
  simp only [List.forIn_cons, List.forIn_nil, List.zipIdx_cons, List.zipIdx_nil]
  refine wpAny_bind (wpAny_bind (wpAny_onRaise ?_))
  show wpAny _ _ (Builtin.SmallTypes.nextOf (.ref j1) >>= _) _ _ _
  refine wpAny_bind (a_item (it1.ext k1.extBut ap.i1z) (sq1.ext k1.extBut ap.l1z) gu fun g2 a2 k2 => wpAny_pure ?_)
  have pu2 : IsPair g2 tu c0 d0 := k2.extBut _ _ ap.TOi1 (k1.extBut _ _ ap.TOz pu)
  refine wpAny_bind (wpAny_seqItems pu2 rfl (wpAny_bind (wpAny_updateSeq_pair pu2 fun g3 pu3 k3 => ?_)))
  replace pu3 : IsPair g3 tu u d0 := pu3
  refine wpAny_bind (wpAny_letGo (wpAny_pure (wpAny_bind (wpAny_bind (wpAny_onRaise ?_)))))
  show wpAny _ _ (Builtin.SmallTypes.nextOf (.ref j2) >>= _) _ _ _
  have b2' := ((it2.ext k1.extBut ap.i2z).ext k2.extBut ap.i12.symm).ext k3.extBut ap.TOi2.symm
  have s2 := ((sq2.ext k1.extBut ap.l2z).ext k2.extBut ap.l2i1).ext k3.extBut ap.l2TO
  refine wpAny_bind (a_item b2' s2 gv fun g4 b4 k4 => wpAny_pure ?_)
  have pu4 : IsPair g4 tu u d0 := k4.extBut _ _ ap.TOi2 pu3
  refine wpAny_bind (wpAny_seqItems pu4 rfl (wpAny_bind (wpAny_updateSeq_pair pu4 fun g5 pu5 k5 => ?_)))
  replace pu5 : IsPair g5 tu u v := pu5
  refine wpAny_bind (wpAny_letGo (wpAny_pure (wpAny_pure (wpAny_bind (wpAny_seqItems pu5 rfl (wpAny_bind (wpAny_newTuple ?_)))))))
  have ez : g5.objs.size = sh.heap.objs.size := by rw [k5.1, k4.1, k3.1, k2.1, k1.1]
  have y5 : IsZip g5 q ti tu .ellipsis := k5.extBut _ _ ap.TOz.symm (k4.extBut _ _ ap.i2z.symm (k3.extBut _ _ ap.TOz.symm (k2.extBut _ _ ap.i1z.symm y1)))
  have keep : ∀ b ob, b ≠ q → b ≠ tu → b ≠ j1 → b ≠ j2 → sh.heap.get? b = some ob → g5.get? b = some ob := fun b ob n1 n2 n3 n4 e =>
    k5.extBut _ _ n2 (k4.extBut _ _ n4 (k3.extBut _ _ n2 (k2.extBut _ _ n3 (k1.extBut _ _ n1 e))))
  have a5 := ((a2.ext k3.extBut ap.TOi1.symm).ext k4.extBut ap.i12).ext k5.extBut ap.TOi1.symm
  have b5 := b4.ext k5.extBut ap.TOi2.symm
  have lq : q < g5.objs.size := Heap.lt_size y5
  have lu : tu < g5.objs.size := Heap.lt_size pu5
  show wpAny _ _ (Builtin.SmallTypes.ownedTupleHandOut (.ref q) (.ref g5.objs.size) >>= _) _ _ _
  refine wpAny_bind ?_
  unfold Builtin.SmallTypes.ownedTupleHandOut
  have y6 : IsZip (g5.push { cls := .type "tuple", data := .seq #[u, v] }) q ti tu .ellipsis := Heap.get?_push_of_some _ y5
  refine wpAny_bind (wpAny_setField_rec y6 (by simp) fun g7 y7 k7 => ?_)
  replace y7 : IsZip g7 q ti tu (rawInt g5.objs.size) := y7
  refine wpAny_setField_rec y7 (by simp) fun g8 y8 k8 => ?_
  replace y8 : IsZip g8 q ti tu (rawInt g5.objs.size) := y8
  have up : ∀ b ob, b ≠ q → g5.get? b = some ob → g8.get? b = some ob := fun b ob n e => k8.extBut _ _ n (k7.extBut _ _ n (Heap.get?_push_of_some _ e))
  have t8 : IsPair g8 g5.objs.size u v := k8.extBut _ _ (Nat.ne_of_gt lq) (k7.extBut _ _ (Nat.ne_of_gt lq) (Heap.get?_push_size _ rfl))
  have l8 : g8.objs.size = g5.objs.size + 1 := by rw [k8.1, k7.1, Heap.size_push]
  rw [ez] at y8 t8 l8
  refine wpAny_pure ⟨_, rfl, ?_⟩
  show R (.ref g5.objs.size) _
  rw [ez]
  exact fin g8 y8 (up _ _ ap.TOz pu5) (a5.at fun ob e => up _ ob ap.i1z e) (b5.at fun ob e => up _ ob ap.i2z e) t8 l8 fun b ob n1 n2 n3 n4 e => up b ob n1 (keep b ob n1 n2 n3 n4 e)
theorem az_end {R : Fin → Shared → Prop} (calm : Ar.handled = none) (ap : ZipApart q ti tu j1 j2 m1 m2) (zq : IsZip sh.heap q ti tu .none) (pt : IsPair sh.heap ti (.ref j1) (.ref j2)) (pu : IsPair sh.heap tu c0 d0)
    (it1 : AIt b1 sh.heap j1 m1 n1) (it2 : AIt b2 sh.heap j2 m2 n2) (sq1 : ASq b1 sh.heap m1 us1) (sq2 : ASq b2 sh.heap m2 us2) (out : us1[n1]? = none ∨ us2[n2]? = none)
    (fin : ∀ g e, (∀ b ob, b ≠ q → b ≠ tu → b ≠ j1 → b ≠ j2 → sh.heap.get? b = some ob → g.get? b = some ob) → (∃ ob, g.get? e = some ob ∧ ob.cls = .type "StopIteration") → Er (.ref e) { sh with heap := g }) :
    wpAny (model pg wd) Ar (Builtin.«zip.__next__» ⟨[.ref q], []⟩) R Er sh := by
  show wpAny _ _ (field (.ref q) 2 >>= _) _ _ _
  refine wpAny_bind (wpAny_field zq rfl (x := .bool false) rfl ?_)
  show wpAny _ _ (field (.ref q) 3 >>= _) _ _ _
  refine wpAny_bind (wpAny_field zq rfl (x := .ref ti) rfl (wpAny_bind (wpAny_seqItems pt rfl ?_)))
  show wpAny _ _ (Builtin.SmallTypes.ownedTupleIsFree (.ref q) >>= _) _ _ _
  refine wpAny_bind ?_
  unfold Builtin.SmallTypes.ownedTupleIsFree
  refine wpAny_bind (wpAny_field zq rfl (x := .none) rfl (wpAny_pure ?_))
  simp only [if_true]
  refine wpAny_bind (wpAny_rule (wpAny_bind (wpAny_field zq rfl (x := .ref tu) rfl (wpAny_bind (wpAny_setField_rec zq (by simp) fun g1 y1 k1 => ?_)))))
  replace y1 : IsZip g1 q ti tu .ellipsis := y1
  refine wpAny_bind ?_
  simp only [List.forIn_cons, List.forIn_nil, List.zipIdx_cons, List.zipIdx_nil]
  refine wpAny_bind (wpAny_bind (wpAny_onRaise ?_))
  show wpAny _ _ (Builtin.SmallTypes.nextOf (.ref j1) >>= _) _ _ _
  have a1 := it1.ext k1.extBut ap.i1z
  have c1 := sq1.ext k1.extBut ap.l1z
  cases gu : us1[n1]? with
  | none =>
    refine wpAny_bind (a_end calm a1 c1 gu fun g2 e k2 ⟨ob, eo, co⟩ => ?_)
    have y2 : IsZip g2 q ti tu .ellipsis := k2 _ _ ap.i1z.symm y1
    have ne : e ≠ q := fun z => by rw [z, y2] at eo; cases eo; simp at co
    exact wpAny_setField_rec y2 (by simp) fun g3 _ k3 => fin g3 e (fun b ob' n1 _ n3 _ e' => k3.extBut _ _ n1 (k2 _ _ n3 (k1.extBut _ _ n1 e'))) ⟨ob, k3.extBut _ _ ne eo, co⟩
  | some u =>
    have gv : us2[n2]? = none := out.resolve_left fun z => by rw [gu] at z; cases z
    refine wpAny_bind (a_item a1 c1 gu fun g2 _ k2 => wpAny_pure ?_)
    have pu2 : IsPair g2 tu c0 d0 := k2.extBut _ _ ap.TOi1 (k1.extBut _ _ ap.TOz pu)
    refine wpAny_bind (wpAny_seqItems pu2 rfl (wpAny_bind (wpAny_updateSeq_pair pu2 fun g3 pu3 k3 => ?_)))
    refine wpAny_bind (wpAny_letGo (wpAny_pure (wpAny_bind (wpAny_bind (wpAny_onRaise ?_)))))
    show wpAny _ _ (Builtin.SmallTypes.nextOf (.ref j2) >>= _) _ _ _
    have b2' := ((it2.ext k1.extBut ap.i2z).ext k2.extBut ap.i12.symm).ext k3.extBut ap.TOi2.symm
    have s2 := ((sq2.ext k1.extBut ap.l2z).ext k2.extBut ap.l2i1).ext k3.extBut ap.l2TO
    refine wpAny_bind (a_end calm b2' s2 gv fun g4 e k4 ⟨ob, eo, co⟩ => ?_)
    have y4 : IsZip g4 q ti tu .ellipsis := k4 _ _ ap.i2z.symm (k3.extBut _ _ ap.TOz.symm (k2.extBut _ _ ap.i1z.symm y1))
    have ne : e ≠ q := fun z => by rw [z, y4] at eo; cases eo; simp at co
    exact wpAny_setField_rec y4 (by simp) fun g5 _ k5 => fin g5 e (fun b ob' n1 n2 n3 n4 e' => k5.extBut _ _ n1 (k4 _ _ n4 (k3.extBut _ _ n2 (k2.extBut _ _ n3 (k1.extBut _ _ n1 e'))))) ⟨ob, k5.extBut _ _ ne eo, co⟩
/-- .. the tuple tt that was given out being there still -/
theorem ah_item {tt : Addr} {f : Bool} {oT : Obj} {u v : Value} {R : Value → Shared → Prop} (ap : ZipApart q ti tu j1 j2 m1 m2) (zq : IsZipHeld sh.heap q ti tu tt f) (ht : sh.heap.get? tt = some oT) (pt : IsPair sh.heap ti (.ref j1) (.ref j2))
    (it1 : AIt b1 sh.heap j1 m1 n1) (it2 : AIt b2 sh.heap j2 m2 n2) (sq1 : ASq b1 sh.heap m1 us1) (sq2 : ASq b2 sh.heap m2 us2) (gu : us1[n1]? = some u) (gv : us2[n2]? = some v)
    (fin : ∀ g, IsZipHeld g q ti tu tt true → AIt b1 g j1 m1 (n1 + 1) → AIt b2 g j2 m2 (n2 + 1) → IsPair g sh.heap.objs.size u v → g.objs.size = sh.heap.objs.size + 1 →
      (∀ b ob, b ≠ q → b ≠ j1 → b ≠ j2 → sh.heap.get? b = some ob → g.get? b = some ob) → R (.ref sh.heap.objs.size) { sh with heap := g }) :
    wpAny (model pg wd) Ar (Builtin.«zip.__next__» ⟨[.ref q], []⟩) (fun f t => ∃ y, f = .done (.ret y) ∧ R y t) Er sh := by
  show wpAny _ _ (field (.ref q) 2 >>= _) _ _ _
  refine wpAny_bind (wpAny_field zq rfl (x := .bool false) rfl ?_)
  show wpAny _ _ (field (.ref q) 3 >>= _) _ _ _
  refine wpAny_bind (wpAny_field zq rfl (x := .ref ti) rfl (wpAny_bind (wpAny_seqItems pt rfl ?_)))
  show wpAny _ _ (Builtin.SmallTypes.ownedTupleIsFree (.ref q) >>= _) _ _ _
  refine wpAny_bind (wpAny_tupleHeld_zip zq ht fun g1 y1 k1 => ?_)
  simp only [Bool.false_eq_true, if_false]
  refine wpAny_bind ?_
  rw [← Array.forIn_toList]
  simp only [List.forIn_cons, List.forIn_nil]
  refine wpAny_bind (wpAny_bind (wpAny_holding ?_))
  show wpAny _ _ (Builtin.SmallTypes.nextOf (.ref j1) >>= _) _ _ _
  refine wpAny_bind (a_item (sh := { sh with heap := g1 }) (it1.ext k1.extBut ap.i1z) (sq1.ext k1.extBut ap.l1z) gu fun g2 a2 k2 => wpAny_pure (wpAny_pure ?_))
  refine wpAny_bind (wpAny_bind (wpAny_holding ?_))
  show wpAny _ _ (Builtin.SmallTypes.nextOf (.ref j2) >>= _) _ _ _
  refine wpAny_bind (a_item (sh := { sh with heap := g2 }) ((it2.ext k1.extBut ap.i2z).ext k2.extBut ap.i12.symm) ((sq2.ext k1.extBut ap.l2z).ext k2.extBut ap.l2i1) gv fun g3 a3 k3 => wpAny_pure (wpAny_pure (wpAny_pure ?_)))
  show wpAny _ _ (newTuple [u, v] >>= _) _ _ _
  refine wpAny_bind (wpAny_newTuple ?_)
  have ez : g3.objs.size = sh.heap.objs.size := by rw [k3.1, k2.1, k1.1]
  have y3 : IsZipHeld g3 q ti tu tt true := k3.extBut _ _ ap.i2z.symm (k2.extBut _ _ ap.i1z.symm y1)
  have keep : ∀ b ob, b ≠ q → b ≠ j1 → b ≠ j2 → sh.heap.get? b = some ob → g3.get? b = some ob := fun b ob n1 n2 n3 e => k3.extBut _ _ n3 (k2.extBut _ _ n2 (k1.extBut _ _ n1 e))
  have a3' := a2.ext k3.extBut ap.i12
  refine wpAny_pure ⟨_, rfl, ?_⟩
  show R (.ref g3.objs.size) _
  have tp : IsPair (g3.push { cls := .type "tuple", data := .seq #[u, v] }) g3.objs.size u v := Heap.get?_push_size _ rfl
  have ts : (g3.push { cls := .type "tuple", data := .seq #[u, v] }).objs.size = g3.objs.size + 1 := Heap.size_push ..
  rw [ez] at tp ts ⊢
  exact fin _ (Heap.get?_push_of_some _ y3) (a3'.at fun o e => Heap.get?_push_of_some _ e) (a3.at fun o e => Heap.get?_push_of_some _ e) tp ts fun b ob n1 n2 n3 e => Heap.get?_push_of_some _ (keep b ob n1 n2 n3 e)
theorem ah_end {tt : Addr} {f : Bool} {oT : Obj} {R : Fin → Shared → Prop} (calm : Ar.handled = none) (ap : ZipApart q ti tu j1 j2 m1 m2) (zq : IsZipHeld sh.heap q ti tu tt f) (ht : sh.heap.get? tt = some oT) (pt : IsPair sh.heap ti (.ref j1) (.ref j2))
    (it1 : AIt b1 sh.heap j1 m1 n1) (it2 : AIt b2 sh.heap j2 m2 n2) (sq1 : ASq b1 sh.heap m1 us1) (sq2 : ASq b2 sh.heap m2 us2) (out : us1[n1]? = none ∨ us2[n2]? = none)
    (fin : ∀ g e, (∀ b ob, b ≠ q → b ≠ j1 → b ≠ j2 → sh.heap.get? b = some ob → g.get? b = some ob) → (∃ ob, g.get? e = some ob ∧ ob.cls = .type "StopIteration") → Er (.ref e) { sh with heap := g }) :
    wpAny (model pg wd) Ar (Builtin.«zip.__next__» ⟨[.ref q], []⟩) R Er sh := by
  show wpAny _ _ (field (.ref q) 2 >>= _) _ _ _
  refine wpAny_bind (wpAny_field zq rfl (x := .bool false) rfl ?_)
  show wpAny _ _ (field (.ref q) 3 >>= _) _ _ _
  refine wpAny_bind (wpAny_field zq rfl (x := .ref ti) rfl (wpAny_bind (wpAny_seqItems pt rfl ?_)))
  show wpAny _ _ (Builtin.SmallTypes.ownedTupleIsFree (.ref q) >>= _) _ _ _
  refine wpAny_bind (wpAny_tupleHeld_zip zq ht fun g1 y1 k1 => ?_)
  simp only [Bool.false_eq_true, if_false]
  refine wpAny_bind ?_
  rw [← Array.forIn_toList]
  simp only [List.forIn_cons, List.forIn_nil]
  refine wpAny_bind (wpAny_bind (wpAny_holding ?_))
  show wpAny _ _ (Builtin.SmallTypes.nextOf (.ref j1) >>= _) _ _ _
  have a1 := it1.ext k1.extBut ap.i1z
  have c1 := sq1.ext k1.extBut ap.l1z
  cases gu : us1[n1]? with
  | none => exact wpAny_bind (a_end (sh := { sh with heap := g1 }) calm a1 c1 gu fun g2 e k2 he => fin g2 e (fun b ob n1 n2 _ x => k2 _ _ n2 (k1.extBut _ _ n1 x)) he)
  | some u =>
    have gv : us2[n2]? = none := out.resolve_left fun z => by rw [gu] at z; cases z
    refine wpAny_bind (a_item (sh := { sh with heap := g1 }) a1 c1 gu fun g2 _ k2 => wpAny_pure (wpAny_pure ?_))
    refine wpAny_bind (wpAny_bind (wpAny_holding ?_))
    show wpAny _ _ (Builtin.SmallTypes.nextOf (.ref j2) >>= _) _ _ _
    exact wpAny_bind (a_end (sh := { sh with heap := g2 }) calm ((it2.ext k1.extBut ap.i2z).ext k2.extBut ap.i12.symm) ((sq2.ext k1.extBut ap.l2z).ext k2.extBut ap.l2i1) gv fun g3 e k3 he => fin g3 e (fun b ob n1 n2 n3 x => k3 _ _ n3 (k2.extBut _ _ n2 (k1.extBut _ _ n1 x))) he)
theorem az_nextI {u v : Value} {R : Option Value → Shared → Prop} (ap : ZipApart q ti tu j1 j2 m1 m2) (zq : IsZip sh.heap q ti tu .none) (pt : IsPair sh.heap ti (.ref j1) (.ref j2)) (pu : IsPair sh.heap tu c0 d0)
    (it1 : AIt b1 sh.heap j1 m1 n1) (it2 : AIt b2 sh.heap j2 m2 n2) (sq1 : ASq b1 sh.heap m1 us1) (sq2 : ASq b2 sh.heap m2 us2) (gu : us1[n1]? = some u) (gv : us2[n2]? = some v)
    (fin : ∀ g, IsZip g q ti tu (rawInt sh.heap.objs.size) → IsPair g tu u v → AIt b1 g j1 m1 (n1 + 1) → AIt b2 g j2 m2 (n2 + 1) → IsPair g sh.heap.objs.size u v → g.objs.size = sh.heap.objs.size + 1 →
      (∀ b ob, b ≠ q → b ≠ tu → b ≠ j1 → b ≠ j2 → sh.heap.get? b = some ob → g.get? b = some ob) → R (some (.ref sh.heap.objs.size)) { sh with heap := g }) : wpAny (model pg wd) Ar (pyNext (.ref q)) R Er sh := by
  have ty : sh.TypeIs (.ref q) "zip" := ⟨_, zq, rfl⟩
  unfold pyNext
  refine wpAny_bind (wpAny_attempt (wpAny_callSpecial?_slot (name := Str.ofString "__next__") ty F.slot_zip_next (wpAny_call_entry F.slot_zip_next ty F.entry_zip_next ?_ (F.args_zip_next_1 _))))
  exact az_item ap zq pt pu it1 it2 sq1 sq2 gu gv fun g h1 h2 h3 h4 h5 h6 h7 => wpAny_pure (fin g h1 h2 h3 h4 h5 h6 h7)
theorem az_nextE {R : Option Value → Shared → Prop} (calm : Ar.handled = none) (ap : ZipApart q ti tu j1 j2 m1 m2) (zq : IsZip sh.heap q ti tu .none) (pt : IsPair sh.heap ti (.ref j1) (.ref j2)) (pu : IsPair sh.heap tu c0 d0)
    (it1 : AIt b1 sh.heap j1 m1 n1) (it2 : AIt b2 sh.heap j2 m2 n2) (sq1 : ASq b1 sh.heap m1 us1) (sq2 : ASq b2 sh.heap m2 us2) (out : us1[n1]? = none ∨ us2[n2]? = none)
    (fin : ∀ g, (∀ b ob, b ≠ q → b ≠ tu → b ≠ j1 → b ≠ j2 → sh.heap.get? b = some ob → g.get? b = some ob) → R none { sh with heap := g }) : wpAny (model pg wd) Ar (pyNext (.ref q)) R Er sh := by
  have ty : sh.TypeIs (.ref q) "zip" := ⟨_, zq, rfl⟩
  unfold pyNext
  refine wpAny_bind (wpAny_attempt (wpAny_callSpecial?_slot (name := Str.ofString "__next__") ty F.slot_zip_next (wpAny_call_entry F.slot_zip_next ty F.entry_zip_next ?_ (F.args_zip_next_1 _))))
  refine az_end calm ap zq pt pu it1 it2 sq1 sq2 out fun g e k ⟨ob, eo, co⟩ => ?_
  exact wpAny_bind (wpAny_isInstance (T := "StopIteration") (b := true) ⟨ob, eo, co⟩ isSubtype_stop (wpAny_pure (fin _ k)))
theorem ah_nextI {tt : Addr} {f : Bool} {oT : Obj} {u v : Value} {R : Option Value → Shared → Prop} (ap : ZipApart q ti tu j1 j2 m1 m2) (zq : IsZipHeld sh.heap q ti tu tt f) (ht : sh.heap.get? tt = some oT) (pt : IsPair sh.heap ti (.ref j1) (.ref j2))
    (it1 : AIt b1 sh.heap j1 m1 n1) (it2 : AIt b2 sh.heap j2 m2 n2) (sq1 : ASq b1 sh.heap m1 us1) (sq2 : ASq b2 sh.heap m2 us2) (gu : us1[n1]? = some u) (gv : us2[n2]? = some v)
    (fin : ∀ g, IsZipHeld g q ti tu tt true → AIt b1 g j1 m1 (n1 + 1) → AIt b2 g j2 m2 (n2 + 1) → IsPair g sh.heap.objs.size u v → g.objs.size = sh.heap.objs.size + 1 →
      (∀ b ob, b ≠ q → b ≠ j1 → b ≠ j2 → sh.heap.get? b = some ob → g.get? b = some ob) → R (some (.ref sh.heap.objs.size)) { sh with heap := g }) : wpAny (model pg wd) Ar (pyNext (.ref q)) R Er sh := by
  have ty : sh.TypeIs (.ref q) "zip" := ⟨_, zq, rfl⟩
  unfold pyNext
  refine wpAny_bind (wpAny_attempt (wpAny_callSpecial?_slot (name := Str.ofString "__next__") ty F.slot_zip_next (wpAny_call_entry F.slot_zip_next ty F.entry_zip_next ?_ (F.args_zip_next_1 _))))
  exact ah_item ap zq ht pt it1 it2 sq1 sq2 gu gv fun g h1 h2 h3 h4 h5 h6 => wpAny_pure (fin g h1 h2 h3 h4 h5 h6)
theorem ah_nextE {tt : Addr} {f : Bool} {oT : Obj} {R : Option Value → Shared → Prop} (calm : Ar.handled = none) (ap : ZipApart q ti tu j1 j2 m1 m2) (zq : IsZipHeld sh.heap q ti tu tt f) (ht : sh.heap.get? tt = some oT) (pt : IsPair sh.heap ti (.ref j1) (.ref j2))
    (it1 : AIt b1 sh.heap j1 m1 n1) (it2 : AIt b2 sh.heap j2 m2 n2) (sq1 : ASq b1 sh.heap m1 us1) (sq2 : ASq b2 sh.heap m2 us2) (out : us1[n1]? = none ∨ us2[n2]? = none)
    (fin : ∀ g, (∀ b ob, b ≠ q → b ≠ j1 → b ≠ j2 → sh.heap.get? b = some ob → g.get? b = some ob) → R none { sh with heap := g }) : wpAny (model pg wd) Ar (pyNext (.ref q)) R Er sh := by
  have ty : sh.TypeIs (.ref q) "zip" := ⟨_, zq, rfl⟩
  unfold pyNext
  refine wpAny_bind (wpAny_attempt (wpAny_callSpecial?_slot (name := Str.ofString "__next__") ty F.slot_zip_next (wpAny_call_entry F.slot_zip_next ty F.entry_zip_next ?_ (F.args_zip_next_1 _))))
  refine ah_end calm ap zq ht pt it1 it2 sq1 sq2 out fun g e k ⟨ob, eo, co⟩ => ?_
  exact wpAny_bind (wpAny_isInstance (T := "StopIteration") (b := true) ⟨ob, eo, co⟩ isSubtype_stop (wpAny_pure (fin _ k)))
end
/-- what a new zip is -/
structure ZNew (b1 b2 : Bool) (g : Heap) (q ti tu j1 j2 m1 m2 : Addr) : Prop where
  z : IsZip g q ti tu .none
  t : IsPair g ti (.ref j1) (.ref j2)
  u : IsPair g tu .none .none
  i1 : AIt b1 g j1 m1 0
  i2 : AIt b2 g j2 m2 0
/-- such a zip as the argument of dict() -/
theorem PairArgZ (pg : Program) (wd : World) (q ti tu j1 j2 m1 m2 : Addr) (ap : ZipApart q ti tu j1 j2 m1 m2) (us1 us2 : Array Value) :
    PairArg pg wd "zip" q [q, ti, tu, j1, j2, m1, m2] [q, tu, j1, j2] (min us1.size us2.size) (fun i k v => us1[i]? = some k ∧ us2[i]? = some v)
      (fun g => ZNew b1 b2 g q ti tu j1 j2 m1 m2 ∧ ASq b1 g m1 us1 ∧ ASq b2 g m2 us2) where
  type := fun s ok => ⟨_, ok.1.z, rfl⟩
  notDict := by decide
  keep := fun h h' ok hk => by
    obtain ⟨⟨a1, a2, a3, a4, a5⟩, a6, a7⟩ := ok
    exact ⟨⟨hk _ _ a1, hk _ _ a2, hk _ _ a3, a4.at fun o e => hk _ o e, a5.at fun o e => hk _ o e⟩, a6.at fun o e => hk _ o e, a7.at fun o e => hk _ o e⟩
  there := fun h ok b hb => by
    obtain ⟨⟨a1, a2, a3, a4, a5⟩, a6, a7⟩ := ok
    obtain ⟨o4, a4, _⟩ := a4.obj
    obtain ⟨o5, a5, _⟩ := a5.obj
    obtain ⟨o6, a6⟩ := a6.obj
    obtain ⟨o7, a7⟩ := a7.obj
    simp only [List.mem_cons, List.not_mem_nil, or_false] at hb
    rcases hb with rfl | rfl | rfl | rfl | rfl | rfl | rfl
    all_goals first | exact ⟨_, a1⟩ | exact ⟨_, a2⟩ | exact ⟨_, a3⟩ | exact ⟨_, a4⟩ | exact ⟨_, a5⟩ | exact ⟨_, a6⟩ | exact ⟨_, a7⟩
  sub := fun b hb => by
    simp only [List.mem_cons, List.not_mem_nil, or_false] at hb ⊢
    rcases hb with h | h | h | h <;> simp [h]
  noKeys := fun A s Q E hA ok h => getAttrOr_miss_zip ok.1.z rfl rfl rfl zip_no_keys (by decide +kernel) hA h
  iter := fun A s d Q E hA ok hd hdf h => by
    obtain ⟨⟨zq, pt, pu, i1, i2⟩, q1, q2⟩ := ok
    simp only [List.mem_cons, List.not_mem_nil, or_false, not_or] at hdf
    obtain ⟨dz, dt, du, d1, d2, e1, e2⟩ := hdf
    refine wpAny_pyIter_zip zq (h q [q, tu, j1, j2] (fun i g => IsPair g ti (.ref j1) (.ref j2) ∧ AIt b1 g j1 m1 i ∧ AIt b2 g j2 m2 i ∧ ASq b1 g m1 us1 ∧ ASq b2 g m2 us2 ∧
      ((IsZip g q ti tu .none ∧ ∃ x y, IsPair g tu x y) ∨ ∃ tt f oT, IsZipHeld g q ti tu tt f ∧ g.get? tt = some oT ∧ tt ≠ q ∧ tt ≠ j1 ∧ tt ≠ j2 ∧ tt ≠ d)) s.heap s.toks ?_
      ⟨pt, i1, i2, q1, q2, .inl ⟨zq, _, _, pu⟩⟩ (fun _ _ e => e) fun b hb => .inl hb)
    exact {
      off := fun hm => by
        simp only [List.mem_cons, List.not_mem_nil, or_false] at hm
        rcases hm with e | e | e | e
        · exact dz e
        · exact du e
        · exact d1 e
        · exact d2 e
      frame := fun i g g' st k => by
        obtain ⟨pt, i1, i2, q1, q2, zz⟩ := st
        refine ⟨k _ _ (Ne.symm dt) pt, i1.at fun o e => k _ o (Ne.symm d1) e, i2.at fun o e => k _ o (Ne.symm d2) e, q1.at fun o e => k _ o (Ne.symm e1) e, q2.at fun o e => k _ o (Ne.symm e2) e, ?_⟩
        rcases zz with ⟨zq, x, y, pu⟩ | ⟨tt, f, oT, zq, ht, r1, r2, r3, r4⟩
        · exact .inl ⟨k _ _ (Ne.symm dz) zq, x, y, k _ _ (Ne.symm du) pu⟩
        · exact .inr ⟨tt, f, oT, k _ _ (Ne.symm dz) zq, k _ _ r4 ht, r1, r2, r3, r4⟩
      item := fun i s1 Q1 E1 hi st hds hQ => by
        obtain ⟨pt, i1, i2, q1, q2, zz⟩ := st
        have x1 := Array.getElem?_eq_getElem (Nat.lt_of_lt_of_le hi (Nat.min_le_left us1.size us2.size))
        have x2 := Array.getElem?_eq_getElem (Nat.lt_of_lt_of_le hi (Nat.min_le_right us1.size us2.size))
        have lt : ∀ {c o}, s1.heap.get? c = some o → s1.heap.objs.size ≠ c := fun e => Nat.ne_of_gt (Heap.lt_size e)
        have n1 : s1.heap.objs.size ≠ j1 := let ⟨_, e, _⟩ := i1.obj; lt e
        have n2 : s1.heap.objs.size ≠ j2 := let ⟨_, e, _⟩ := i2.obj; lt e
        rcases zz with ⟨zq, x, y, pu⟩ | ⟨tt, f, oT, zq, ht, r1, r2, r3, r4⟩
        · refine az_nextI ap zq pt pu i1 i2 q1 q2 x1 x2 fun g a1 a2 a3 a4 a5 a6 k => ?_
          exact hQ s1.heap.objs.size _ _ g s1.toks ⟨x1, x2⟩ (.inl ⟨_, a5, rfl, _, rfl⟩)
            ⟨k _ _ ap.TIz ap.TITO ap.TIi1 ap.TIi2 pt, a3, a4, q1.at fun o e => k _ o ap.l1z ap.l1TO ap.l1i1 ap.l1i2 e, q2.at fun o e => k _ o ap.l2z ap.l2TO ap.l2i1 ap.l2i2 e,
              .inr ⟨s1.heap.objs.size, false, _, a1, a5, lt zq, n1, n2, Nat.ne_of_gt hds⟩⟩
            fun c o hc e => k c o (fun z => hc (by simp [z])) (fun z => hc (by simp [z])) (fun z => hc (by simp [z])) (fun z => hc (by simp [z])) e
        · refine ah_nextI ap zq ht pt i1 i2 q1 q2 x1 x2 fun g a1 a3 a4 a5 a6 k => ?_
          exact hQ s1.heap.objs.size _ _ g s1.toks ⟨x1, x2⟩ (.inl ⟨_, a5, rfl, _, rfl⟩)
            ⟨k _ _ ap.TIz ap.TIi1 ap.TIi2 pt, a3, a4, q1.at fun o e => k _ o ap.l1z ap.l1i1 ap.l1i2 e, q2.at fun o e => k _ o ap.l2z ap.l2i1 ap.l2i2 e,
              .inr ⟨tt, true, oT, a1, k _ _ r1 r2 r3 ht, r1, r2, r3, r4⟩⟩
            fun c o hc e => k c o (fun z => hc (by simp [z])) (fun z => hc (by simp [z])) (fun z => hc (by simp [z])) e
      done := fun s1 Q1 E1 st hQ => by
        obtain ⟨pt, i1, i2, q1, q2, zz⟩ := st
        have out : us1[min us1.size us2.size]? = none ∨ us2[min us1.size us2.size]? = none := by
          rcases Nat.le_total us1.size us2.size with l | l
          · exact .inl (Array.getElem?_eq_none (by omega))
          · exact .inr (Array.getElem?_eq_none (by omega))
        rcases zz with ⟨zq, x, y, pu⟩ | ⟨tt, f, oT, zq, ht, r1, r2, r3, r4⟩
        · exact az_nextE hA ap zq pt pu i1 i2 q1 q2 out fun g k => hQ g s1.toks fun c o hc e => k c o (fun z => hc (by simp [z])) (fun z => hc (by simp [z])) (fun z => hc (by simp [z])) (fun z => hc (by simp [z])) e
        · exact ah_nextE hA ap zq ht pt i1 i2 q1 q2 out fun g k => hQ g s1.toks fun c o hc e => k c o (fun z => hc (by simp [z])) (fun z => hc (by simp [z])) (fun z => hc (by simp [z])) e }
end ZA

set_option Elab.async false
set_option linter.all false
set_option maxRecDepth 100000
set_option maxHeartbeats 2000000
namespace ZA
open PySem PySem.Spec PyProof.Rows L2 Z
/-- a new iterator of the sequence at m -/
def itO (b : Bool) (m : Addr) : Obj := cond b { cls := .type "tuple_iterator", data := .fields #[.ref m, .int 0 0] } { cls := .type "list_iterator", data := .fields #[.ref m, .int 0 0] }
theorem itO_at {b : Bool} {g : Heap} {j m : Addr} (e : g.get? j = some (itO b m)) : AIt b g j m 0 := by
  cases b
  · exact ⟨_, e, rfl, rfl⟩
  · exact ⟨_, e, rfl, rfl⟩
theorem itO_free (b : Bool) (m : Addr) : (itO b m).isFreed = false := by cases b <;> rfl
abbrev oh1 (g : Heap) (b2 : Bool) (m2 : Addr) : Heap := g.push (itO b2 m2)
abbrev oh2 (g : Heap) (b2 : Bool) (j1 m2 : Addr) : Heap := (oh1 g b2 m2).push { cls := .type "tuple", data := .seq #[.ref j1, .ref g.objs.size] }
abbrev oh3 (g : Heap) (b2 : Bool) (j1 m2 : Addr) : Heap := (oh2 g b2 j1 m2).push { cls := .type "tuple", data := .seq #[.none, .none] }
abbrev oh4 (g : Heap) (b2 : Bool) (j1 m2 : Addr) : Heap := (oh3 g b2 j1 m2).push { cls := .type "zip", data := .fields #[.none, .bool false, .bool false, .ref (oh1 g b2 m2).objs.size, .ref (oh2 g b2 j1 m2).objs.size] }
section
variable {pg : Program} {wd : World} {Ar : Around} {Er : Value → Shared → Prop} {sh : Shared}
theorem it_seq {b2 : Bool} {m2 : Addr} {us : Array Value} {R : Value → Shared → Prop} (sq : ASq b2 sh.heap m2 us) (h : R (.ref sh.heap.objs.size) { sh with heap := sh.heap.push (itO b2 m2) }) : wpAny (model pg wd) Ar (pyIter (.ref m2)) R Er sh := by
  cases b2
  · exact wpAny_pyIter_list sq h
  · exact wpAny_pyIter_tuple sq h
theorem zo_new (o m2 : Addr) (b2 : Bool) :
    MeetsIn pg wd (Builtin.«zip.__new__» ⟨[.type "zip", .ref o, .ref m2], []⟩) (fun A R s => wpAny (model pg wd) A.in1 (pyIter (.ref o)) (fun v t => ∃ j1 us, v = .ref j1 ∧ ASq b2 t.heap m2 us ∧ R (.ok (.ret (.ref (oh3 t.heap b2 j1 m2).objs.size))) { t with heap := oh4 t.heap b2 j1 m2 }) (fun _ _ => False) s) :=
  .of_wp fun A R s h => by
    have hsub := sub_zip
    have key : ∀ {E : Value → Shared → Prop} {Q : Value → Shared → Prop}, (∀ v t, (∃ j1 us, v = .ref j1 ∧ ASq b2 t.heap m2 us ∧ R (.ok (.ret (.ref (oh3 t.heap b2 j1 m2).objs.size))) { t with heap := oh4 t.heap b2 j1 m2 }) → Q v t) → wpAny (model pg wd) A.in1 (pyIter (.ref o)) Q E s := fun q => wpAny_mono h q fun _ _ z => z.elim
    obtain ⟨hp, g, d, tk, os⟩ := s
    wp_walk using key
    rintro v ⟨hp2, g2, d2, tk2, os2⟩ ⟨j1, us, rfl, sq, r⟩
    have key2 : ∀ {A' : Around} {E : Value → Shared → Prop} {Q : Value → Shared → Prop}, Q (.ref hp2.objs.size) ⟨hp2.push (itO b2 m2), g2, d2, tk2, os2⟩ → wpAny (model pg wd) A' (pyIter (.ref m2)) Q E ⟨hp2, g2, d2, tk2, os2⟩ := fun q => it_seq (sh := ⟨hp2, g2, d2, tk2, os2⟩) sq q
    wp_walk using key2
    exact ⟨_, rfl, r⟩
theorem oh_facts {g : Heap} {b2 : Bool} {j1 m2 : Addr} : IsZip (oh4 g b2 j1 m2) (g.objs.size + 3) (g.objs.size + 1) (g.objs.size + 2) .none ∧ IsPair (oh4 g b2 j1 m2) (g.objs.size + 1) (.ref j1) (.ref g.objs.size) ∧ IsPair (oh4 g b2 j1 m2) (g.objs.size + 2) .none .none ∧ AIt b2 (oh4 g b2 j1 m2) g.objs.size m2 0 ∧
    (∀ b ob, g.get? b = some ob → (oh4 g b2 j1 m2).get? b = some ob) ∧ (oh3 g b2 j1 m2).objs.size = g.objs.size + 3 := by
  have z1 : (oh1 g b2 m2).objs.size = g.objs.size + 1 := Heap.size_push ..
  have z2 : (oh2 g b2 j1 m2).objs.size = g.objs.size + 2 := by rw [Heap.size_push, z1]
  have z3 : (oh3 g b2 j1 m2).objs.size = g.objs.size + 3 := by rw [Heap.size_push, z2]
  have p4 : (oh4 g b2 j1 m2).get? (oh3 g b2 j1 m2).objs.size = some _ := Heap.get?_push_size _ rfl
  have p3 : (oh4 g b2 j1 m2).get? (oh2 g b2 j1 m2).objs.size = some _ := Heap.get?_push_of_some _ (Heap.get?_push_size _ rfl)
  have p2 : (oh4 g b2 j1 m2).get? (oh1 g b2 m2).objs.size = some _ := Heap.get?_push_of_some _ (Heap.get?_push_of_some _ (Heap.get?_push_size _ rfl))
  have p1 : (oh4 g b2 j1 m2).get? g.objs.size = some (itO b2 m2) := Heap.get?_push_of_some _ (Heap.get?_push_of_some _ (Heap.get?_push_of_some _ (Heap.get?_push_size _ (itO_free b2 m2))))
  rw [z1, z2, z3] at p4
  rw [z2] at p3
  rw [z1] at p2
  exact ⟨p4, p2, p3, itO_at p1, fun b ob e => Heap.get?_push_of_some _ (Heap.get?_push_of_some _ (Heap.get?_push_of_some _ (Heap.get?_push_of_some _ e))), z3⟩
/-- zip(o, m2), o told by what its iter does -/
theorem zo_call {o m2 : Addr} {b2 : Bool} {R : Value → Shared → Prop}
    (h : wpAny (model pg wd) Ar.in1.in1 (pyIter (.ref o)) (fun v t => ∃ j1 us, v = .ref j1 ∧ ASq b2 t.heap m2 us ∧ ∀ g, IsZip g (t.heap.objs.size + 3) (t.heap.objs.size + 1) (t.heap.objs.size + 2) .none → IsPair g (t.heap.objs.size + 1) (.ref j1) (.ref t.heap.objs.size) → IsPair g (t.heap.objs.size + 2) .none .none → AIt b2 g t.heap.objs.size m2 0 →
      (∀ b ob, t.heap.get? b = some ob → g.get? b = some ob) → R (.ref (t.heap.objs.size + 3)) { t with heap := g }) (fun _ _ => False) sh) : wpAny (model pg wd) Ar (call (.type "zip") [.ref o, .ref m2]) R Er sh := by
  refine callType_newIn F.called_zip (by decide) (F.typeCall_zip_2 _ _) (F.newCall_zip_2 _ _) (fun ob => F.args_object_init_3 ob _ _) F.entry_zip_new (zo_new o m2 b2) ?_
  refine wpAny_mono h (fun v t ⟨j1, us, e, sq, k⟩ => ⟨j1, us, e, sq, ?_⟩) fun _ _ z => z
  obtain ⟨f1, f2, f3, f4, f5, f6⟩ := oh_facts (g := t.heap) (b2 := b2) (j1 := j1) (m2 := m2)
  rw [f6]
  exact ⟨⟨_, f1, rfl⟩, k _ f1 f2 f3 f4 f5⟩
/-- zip(m1, m2) of two sequences -/
theorem zs_call {m1 m2 : Addr} {b1 b2 : Bool} {us1 us2 : Array Value} {R : Value → Shared → Prop} (s1 : ASq b1 sh.heap m1 us1) (s2 : ASq b2 sh.heap m2 us2)
    (h : ∀ g, IsZip g (sh.heap.objs.size + 4) (sh.heap.objs.size + 2) (sh.heap.objs.size + 3) .none → IsPair g (sh.heap.objs.size + 2) (.ref sh.heap.objs.size) (.ref (sh.heap.objs.size + 1)) → IsPair g (sh.heap.objs.size + 3) .none .none → AIt b1 g sh.heap.objs.size m1 0 → AIt b2 g (sh.heap.objs.size + 1) m2 0 →
      (∀ b ob, sh.heap.get? b = some ob → g.get? b = some ob) → R (.ref (sh.heap.objs.size + 4)) { sh with heap := g }) : wpAny (model pg wd) Ar (call (.type "zip") [.ref m1, .ref m2]) R Er sh := by
  have bg : ∀ (b : Bool) (m : Addr) (us : Array Value), Begins (.ref m) (itO b m) fun g => ASq b g m us := fun b m us => by
    cases b
    · exact begins_list m us
    · exact begins_tuple m us
  exact zip_begins2 (bg b1 m1 us1) (bg b2 m2 us2) s1 s2 fun g a1 a2 a3 a4 a5 _ k => h g a1 a2 a3 (itO_at a4) (itO_at a5) k
end
theorem ASq.dat {b : Bool} {g : Heap} {m : Addr} {us : Array Value} (x : ASq b g m us) : ∃ o k, g.get? m = some o ∧ o.data = .seq us k := by
  cases b
  · obtain ⟨o, h1, _, n, h2⟩ := x
    exact ⟨o, n, h1, h2⟩
  · obtain ⟨o, h1, _, n, h2⟩ := x
    exact ⟨o, n, h1, h2⟩
theorem neA {a b : Nat} (h : (a < b ∨ b < a)) : @Ne Addr a b := fun z => by
  have z : a = b := z
  omega
theorem apart_nat (N j1 m1 m2 : Nat) (l : j1 < N) (l1 : m1 < N) (l2 : m2 < N) (n1 : @Ne Addr m1 j1) (n2 : @Ne Addr m2 j1) : ZipApart (N + 3) (N + 1) (N + 2) j1 N m1 m2 := by
  constructor <;> first | exact n1 | exact n2 | (refine neA ?_; omega)
theorem own_apart {b1 b b2 : Bool} {g : Heap} {j1 m1 m2 : Addr} {k : Nat} {us1 us2 : Array Value} (i : AIt b g j1 m1 k) (q1 : ASq b1 g m1 us1) (q2 : ASq b2 g m2 us2) : ZipApart (g.objs.size + 3) (g.objs.size + 1) (g.objs.size + 2) j1 g.objs.size m1 m2 := by
  obtain ⟨o, e, n⟩ := i.obj
  obtain ⟨o1, k1, e1, d1⟩ := q1.dat
  obtain ⟨o2, k2, e2, d2⟩ := q2.dat
  have l := Heap.lt_size e
  have l1 := Heap.lt_size e1
  have l2 := Heap.lt_size e2
  have n1 : m1 ≠ j1 := fun z => by rw [z, e] at e1; cases e1; exact n _ _ d1
  have n2 : m2 ≠ j1 := fun z => by rw [z, e] at e2; cases e2; exact n _ _ d2
  exact apart_nat g.objs.size j1 m1 m2 l l1 l2 n1 n2
/-- a list (false) or a tuple (true) of xs -/
def SqB (K : PySem.W.Frag) (b : Bool) (H : Hp) (a : Addr) (xs : List V) : Prop := cond b (SqT K H a xs) (SqL K H a xs)
theorem SqB.mono {K : PySem.W.Frag} {b : Bool} {H H' : Hp} {a : Addr} {xs : List V} (s : Same H H') (h : SqB K b H a xs) : SqB K b H' a xs := by
  cases b
  · exact s.seq h
  · exact Same_seqT s h
theorem sqB_of {K : PySem.W.Frag} {H : Hp} {a : Addr} {xs : List V} (h : SqA K H a xs) : ∃ b, SqB K b H a xs := h.elim (fun h => ⟨false, h⟩) fun h => ⟨true, h⟩
theorem sqB_inv {X : Cx} {pins : List (Addr × Obj)} {σ : L2.St} {H : Hp} {s : Shared} {b : Bool} {a : Addr} {xs : List V} (I : Inv X pins σ H s) (h : SqB X.K b H a xs) : ∃ us : List Value, Vals xs us ∧ ASq b s.heap a us.toArray ∧ xs.length ≤ sizeLine := by
  cases b
  · obtain ⟨us, r, p, z⟩ := I.list h
    exact ⟨us, r, p.isList, z⟩
  · obtain ⟨us, r, p, z⟩ := I.tuple h
    exact ⟨us, r, p, z⟩
theorem sqB_inj {X : Cx} {pins : List (Addr × Obj)} {σ : L2.St} {H : Hp} {s : Shared} {b : Bool} {a : Addr} {xs ys : List V} (I : Inv X pins σ H s) (h : SqB X.K b H a xs) (k : SqB X.K b H a ys) : xs = ys := by
  cases b
  · exact I.list_inj h k
  · exact I.tuple_inj h k
/-- the sequences at a and c, their items in new pairs -/
def ItzX (K : PySem.W.Frag) (b1 b2 : Bool) (a c : Addr) : It :=
  ⟨fun i H => ∃ (xs ys : List V) (x y : V), SqB K b1 H a xs ∧ SqB K b2 H c ys ∧ xs[i]? = some x ∧ ys[i]? = some y,
    fun i H v H' => ∃ T x y, v = .ref T ∧ H T = none ∧ H' = upd H T (.tup [x, y]) ∧ (∀ us, SqB K b1 H a us → us[i]? = some x) ∧ ∀ us, SqB K b2 H c us → us[i]? = some y,
    fun i H => ∃ xs ys : List V, SqB K b1 H a xs ∧ SqB K b2 H c ys ∧ (xs.length ≤ i ∨ ys.length ≤ i)⟩
theorem turn_any {pg : Program} {wd : World} {K : PySem.W.Frag} {b1 b2 : Bool} {es : List Expr} {kk : Nat} {tp : Pos} {a c q ti tu j1 j2 : Addr} (ap : ZipApart q ti tu j1 j2 a c) :
    Turn pg wd K (.Tuple es kk tp) (ItzX K b1 b2 a c) [q, ti, tu, j1, j2] q (fun i g => IsZip g q ti tu .none ∧ IsPair g ti (.ref j1) (.ref j2) ∧ (∃ x y, IsPair g tu x y) ∧ AIt b1 g j1 a i ∧ AIt b2 g j2 c i) where
  mem := by simp
  obj := fun i g st d hd => by
    obtain ⟨zq, pt, ⟨x, y, pu⟩, i1, i2⟩ := st
    obtain ⟨o1, e1, d1⟩ := i1.obj
    obtain ⟨o2, e2, d2⟩ := i2.obj
    have cell : ∀ {b : Bool} {j m : Addr} {n : Nat} {o : Obj}, AIt b g j m n → g.get? j = some o → ∀ v, o.data ≠ .cell v := fun {b j m n o} i e v k => by
      cases b
      · obtain ⟨o', e', _, d'⟩ := i
        rw [e] at e'
        cases e'
        rw [d'] at k
        cases k
      · obtain ⟨o', e', _, d'⟩ := i
        rw [e] at e'
        cases e'
        rw [d'] at k
        cases k
    simp only [List.mem_cons, List.not_mem_nil, or_false] at hd
    rcases hd with rfl | rfl | rfl | rfl | rfl
    · exact ⟨_, zq, fun v k => nomatch k⟩
    · exact ⟨_, pt, fun v k => nomatch k⟩
    · exact ⟨_, pu, fun v k => nomatch k⟩
    · exact ⟨o1, e1, cell i1 e1⟩
    · exact ⟨o2, e2, cell i2 e2⟩
  keep := fun i g g' ⟨zq, pt, ⟨x, y, pu⟩, i1, i2⟩ k =>
    ⟨k q (by simp) _ zq, k ti (by simp) _ pt, ⟨x, y, k tu (by simp) _ pu⟩, i1.at fun o e => k j1 (by simp) o e, i2.at fun o e => k j2 (by simp) o e⟩
  item := by
    intro X hP hw hK hc i pins s σ H E I hf ⟨zq, pt, ⟨x0, y0, pu⟩, i1, i2⟩ ⟨xs, ys, x, y, qx, qy, hx, hy⟩
    subst hP hw hK
    obtain ⟨us, ru, pa, _⟩ := sqB_inv I qx
    obtain ⟨vs, rv, pb, _⟩ := sqB_inv I qy
    obtain ⟨u, hu, ru1⟩ := ru.get hx
    obtain ⟨v, hv, rv1⟩ := rv.get hy
    have lq : q < s.heap.objs.size := Heap.lt_size zq
    refine az_nextI ap zq pt pu i1 i2 pa pb (u := u) (v := v) (by simpa using hu) (by simpa using hv) fun g zq' pu' i1' i2' tt _ k => ?_
    refine ⟨_, rfl, wpAny_letOwnedTupleGo_zip (s := { s with heap := g }) zq' fun g2 zq2 sb => ?_⟩
    have tt2 : g2.get? s.heap.objs.size = some { cls := .type "tuple", data := .seq #[u, v] } := (sb.2 _ (Nat.ne_of_gt lq)).trans tt
    have new : ObjOk X.prog X.w (upd H s.heap.objs.size (.tup [x, y])) g2 s.heap.objs.size (.tup [x, y]) := ⟨by show 2 ≤ sizeLine; decide, [u, v], .cons ru1 (.cons rv1 .nil), ⟨_, tt2, rfl, _, rfl⟩⟩
    have I1 : Inv X pins σ (upd H s.heap.objs.size (.tup [x, y])) { s with heap := g2 } :=
      I.turnedNew (t' := s.toks) (ch := [q, ti, tu, j1, j2]) (fun c o nb e => (sb.2 c (fun z => nb (by simp [z]))).trans (k c o (fun z => nb (by simp [z])) (fun z => nb (by simp [z])) (fun z => nb (by simp [z])) (fun z => nb (by simp [z])) e)) hf (Nat.le_refl _) new
    refine ⟨.ref s.heap.objs.size, _, I1, rfl, ⟨_, x, y, rfl, I.hok.fresh (Nat.le_refl _), rfl, fun l hl => by rw [sqB_inj I hl qx]; exact hx, fun l hl => by rw [sqB_inj I hl qy]; exact hy⟩, ⟨zq2, (sb.2 _ ap.TIz).trans (k _ _ ap.TIz ap.TITO ap.TIi1 ap.TIi2 pt), ⟨u, v, (sb.2 _ ap.TOz).trans pu'⟩, i1'.at fun o e => (sb.2 _ ap.i1z).trans e, i2'.at fun o e => (sb.2 _ ap.i2z).trans e⟩, fun c hcm => ?_⟩
    have lc : c < s.heap.objs.size := by
      simp only [List.mem_cons, List.not_mem_nil, or_false] at hcm
      rcases hcm with rfl | rfl | rfl | rfl | rfl
      · exact lq
      · exact Heap.lt_size pt
      · exact Heap.lt_size pu
      · obtain ⟨_, e, _⟩ := i1.obj; exact Heap.lt_size e
      · obtain ⟨_, e, _⟩ := i2.obj; exact Heap.lt_size e
    rw [upd_ne (Nat.ne_of_lt lc)]
    exact (hf c hcm).1
  done := by
    intro X hP hw hK hc i pins s σ H E I hf ⟨zq, pt, ⟨x0, y0, pu⟩, i1, i2⟩ ⟨xs, ys, qx, qy, ho⟩
    subst hP hw hK
    obtain ⟨us, ru, pa, _⟩ := sqB_inv I qx
    obtain ⟨vs, rv, pb, _⟩ := sqB_inv I qy
    have l1 := ru.length
    have l2 := rv.length
    have out : us.toArray[i]? = none ∨ vs.toArray[i]? = none := ho.imp (fun z => by simp; omega) fun z => by simp; omega
    exact az_nextE (I.ok.hd hc) ap zq pt pu i1 i2 pa pb out fun g k => ⟨rfl, I.turnedL (t' := s.toks) (ch := [q, ti, tu, j1, j2]) (fun c o nb e => k c o (fun z => nb (by simp [z])) (fun z => nb (by simp [z])) (fun z => nb (by simp [z])) (fun z => nb (by simp [z])) e) hf⟩
  self := fun A i s Q E st h => wpAny_pyIter_zip st.1 h
theorem walk_any {K : PySem.W.Frag} {b1 b2 : Bool} {a c : Addr} {xs ys : List V} {n : Nat} (hn : n = min xs.length ys.length) : Walk (ItzX K b1 b2 a c) n (fun H => SqB K b1 H a xs ∧ SqB K b2 H c ys) (YPair (fun i => xs[i]?) (fun i => ys[i]?)) where
  goes := fun i H hi ⟨h1, h2⟩ => ⟨xs, ys, xs[i]'(by omega), ys[i]'(by omega), h1, h2, List.getElem?_eq_getElem (by omega), List.getElem?_eq_getElem (by omega)⟩
  stops := fun H ⟨h1, h2⟩ => ⟨xs, ys, h1, h2, by omega⟩
  yields := fun i H x H' hi ⟨h1, h2⟩ ⟨T, u, v, e1, e2, e3, e4, e5⟩ => ⟨T, u, v, e1, e2, e3, e4 xs h1, e5 ys h2⟩
end ZA

set_option Elab.async false
set_option linter.all false
set_option maxRecDepth 100000
set_option maxHeartbeats 2000000
namespace ZA
open PySem PySem.Spec PyProof.Rows L2 Z
section
variable {X : Cx} {k j : Nat} {C : Addr} {sp : Nat → Sp} {pins : List (Addr × Obj)} {σ : L2.St} {H1 : Hp} {s1 : Shared} {a t : Addr} {ys : List V} {R : Value → Shared → Prop} {E : Value → Shared → Prop}
/-- iter(o) of an own object, within a built-in that is within another one -/
theorem own_iter (c : ItO X.prog X.w X.K X.mg X.base C k sp) (hr : Room j X.A) (hj : k + 2 ≤ j) (I1 : Inv X pins σ H1 s1) (w : OwnT X.K C sp a t ys H1)
    (h : ∀ q0 s', Inv X pins σ H1 s' → s'.heap.IsTupleIter q0 t 0 → FpOk X pins H1 q0 → R (.ref q0) s') : wpAny (model X.prog X.w) X.A.in1.in1 (pyIter (.ref a)) R E s1 := by
  obtain ⟨f, S, F⟩ := c
  obtain ⟨⟨dx, fs, ea⟩, ht, hp⟩ := w
  obtain ⟨ox, od, Ja⟩ := instAt I1 ea
  obtain ⟨m, fr⟩ := I1.fr
  refine PySem.W.owit_iter fr I1.ok.mod.kin Ja S.at_ S.fn ?_
  refine wpAny_call (codeAny_mono (F X.A.in1.in1 X.stack s1 H1 [.ref a] [.ref a] _ (fun _ _ _ => False) ((hr.mono hj).in1).in1 I1.env0.in1.in1 (.cons rfl .nil) (hp _)) fun r s' hq' => ?_)
  rcases r with e | fl
  · exact (cxN hq').elim
  rcases fl with _ | _ | _ | u'
  · exact False.elim hq'
  · exact False.elim hq'
  · exact False.elim hq'
  obtain ⟨v, H', os, bare, un, hok, rv, q0, ev, hle, hn, eH⟩ := hq'
  subst ev
  subst eH
  obtain rfl : u' = Value.ref q0 := rv
  have hit : s'.heap.IsTupleIter q0 t 0 := (hok q0 _ upd_same).1
  have I2 : Inv X pins σ H1 s' := I1.call' (ch := []) os (Un.drop un hn) (HOk.drop hok hn) bare (fun b z => absurd z (by simp))
  unfold PySem.W.OwitIt specialOf
  refine wpAny_bind (wpAny_typeOf hit.typeIs (wpAny_of_eq PySem.F.slot_tuple_iterator_next.lookup ?_))
  exact h q0 s' I2 hit (I1.fpOk hle hn)
/-- zip(o, m2) -/
theorem zip_own {m2 : Addr} {b2 : Bool} {zs : List V} (c : ItO X.prog X.w X.K X.mg X.base C k sp) (hr : Room j X.A) (hj : k + 2 ≤ j) (I1 : Inv X pins σ H1 s1) (w : OwnT X.K C sp a t ys H1) (h2 : SqB X.K b2 H1 m2 zs)
    (h : ∀ (q ti tu j1 j2 : Addr) (us1 us2 : List Value) (s' : Shared) (g : Heap), Inv X pins σ H1 s' → Vals ys us1 → Vals zs us2 → ASq true g t us1.toArray → ASq b2 g m2 us2.toArray → ys.length ≤ sizeLine → ZNew true b2 g q ti tu j1 j2 t m2 → ZipApart q ti tu j1 j2 t m2 → FpOk X pins H1 j1 →
      (∀ b, b ∈ [q, ti, tu, j2] → s'.heap.objs.size ≤ b) → (∀ b ob, s'.heap.get? b = some ob → g.get? b = some ob) → R (.ref q) { s' with heap := g }) : wpAny (model X.prog X.w) X.A (call (.type "zip") [.ref a, .ref m2]) R E s1 := by
  refine zo_call (b2 := b2) ?_
  refine own_iter c hr hj I1 w fun q0 s' I2 hit hf => ?_
  obtain ⟨us2', r2', p2', _⟩ := sqB_inv I2 h2
  have ht : SqB X.K true H1 t ys := w.2.1
  obtain ⟨us1, r1, p1, z1⟩ := sqB_inv I2 ht
  refine ⟨q0, _, rfl, p2', fun g zq pt pu i2 kp => ?_⟩
  refine h _ _ _ _ _ us1 us2' s' g I2 r1 r2' (p1.at fun o e => kp _ _ e) (p2'.at fun o e => kp _ _ e) z1 ⟨zq, pt, pu, AIt.at (b := true) hit fun o e => kp _ _ e, i2⟩ (own_apart (b1 := true) (b := true) hit p1 p2') hf (fun b hb => ?_) kp
  simp only [List.mem_cons, List.not_mem_nil, or_false] at hb
  rcases hb with rfl | rfl | rfl | rfl <;> first | exact Nat.le_add_right _ _ | exact Nat.le_refl _
/-- zip(m1, m2) of two sequences -/
theorem zip_seq {m1 m2 : Addr} {b1 b2 : Bool} {xs zs : List V} (I1 : Inv X pins σ H1 s1) (h1 : SqB X.K b1 H1 m1 xs) (h2 : SqB X.K b2 H1 m2 zs)
    (h : ∀ (q ti tu j1 j2 : Addr) (us1 us2 : List Value) (g : Heap), Vals xs us1 → Vals zs us2 → ASq b1 g m1 us1.toArray → ASq b2 g m2 us2.toArray → xs.length ≤ sizeLine → ZNew b1 b2 g q ti tu j1 j2 m1 m2 → ZipApart q ti tu j1 j2 m1 m2 →
      (∀ b, b ∈ [q, ti, tu, j1, j2] → s1.heap.objs.size ≤ b) → (∀ b ob, s1.heap.get? b = some ob → g.get? b = some ob) → R (.ref q) { s1 with heap := g }) : wpAny (model X.prog X.w) X.A (call (.type "zip") [.ref m1, .ref m2]) R E s1 := by
  obtain ⟨us1, r1, p1, z1⟩ := sqB_inv I1 h1
  obtain ⟨us2, r2, p2, _⟩ := sqB_inv I1 h2
  refine zs_call p1 p2 fun g zq pt pu i1 i2 kp => ?_
  obtain ⟨o1, _, e1, _⟩ := p1.dat
  obtain ⟨o2, _, e2, _⟩ := p2.dat
  refine h _ _ _ _ _ us1 us2 g r1 r2 (p1.at fun o e => kp _ _ e) (p2.at fun o e => kp _ _ e) z1 ⟨zq, pt, pu, i1, i2⟩ (PySem.W.ktu_apart s1.heap.objs.size m1 m2 (Heap.lt_size e1) (Heap.lt_size e2)) (fun b hb => ?_) kp
  simp only [List.mem_cons, List.not_mem_nil, or_false] at hb
  rcases hb with rfl | rfl | rfl | rfl | rfl <;> first | exact Nat.le_add_right _ _ | exact Nat.le_refl _
end
/-! ### in a for, in a comprehension -/
def iZipO (K : PySem.W.Frag) (C : Addr) (sp : Nat → Sp) (ta : TA) : TI := fun σ H R => ta σ H fun vs H1 => ∃ a c t xs ys b2, vs = [.ref a, .ref c] ∧ OwnT K C sp a t xs H1 ∧ SqB K b2 H1 c ys ∧ R (ItzX K true b2 t c) H1
def iZipS (K : PySem.W.Frag) (ta : TA) : TI := fun σ H R => ta σ H fun vs H1 => ∃ a c xs ys b1 b2, vs = [.ref a, .ref c] ∧ SqB K b1 H1 a xs ∧ SqB K b2 H1 c ys ∧ R (ItzX K b1 b2 a c) H1
section
variable {X : Cx} {k j : Nat} {C : Addr} {sp : Nat → Sp} {e e2 : Expr} {ta : TA} {p pos tpos : Pos} {elts : List Expr} {kk : Nat}
theorem pi_zipO (c : ItO X.prog X.w X.K X.mg X.base C k sp) (hr : Room j X.A) (hg : Gl X "zip") (hm : X.mg "zip" = none) (ha : PA X [e, e2] ta) (hj : k + 2 ≤ j := by decide)
    (hs : starEach [e, e2] X.env = (false, eval e X.env) :: starEach [e2] X.env := by rfl) (hp : (backTo pos (starEach [e2] X.env)).any (·.1) = false := by rfl) :
    PI X (.Tuple elts kk tpos) (.Call (.Name "zip" p) [e, e2] [] pos) (iZipO X.K C sp ta) := by
  refine ⟨fun pins s σ H R I h => ?_⟩
  refine Call_ (ld_blt I hg hm PyProof.Rows.boot_zip (PyProof.Rows.callWith_type1 (thn (ha.run pos pins s σ H _ I h) fun us s1 ⟨vs, H1, I1, r1, a, m, t, xs, ys, b2, ev, w, qy, q1⟩ => ?_) hs hp))
  subst ev
  obtain ⟨u1, u2, rfl, ra, rb⟩ := vals2 r1
  obtain rfl : u1 = Value.ref a := ra
  obtain rfl : u2 = Value.ref m := rb
  refine zip_own c hr hj I1 w qy fun q ti tu j1 j2 us1 us2 s' g I2 _ _ p1 p2 _ Z ap hf fr kp => wpAny_pyIter_zip Z.z ?_
  refine ⟨q, [q, ti, tu, j1, j2], _, _, H1, rfl, I2.kept (t' := s'.toks) kp, turn_any ap, ⟨Z.z, Z.t, ⟨_, _, Z.u⟩, Z.i1, Z.i2⟩, fun b hb => ?_, q1⟩
  have nw : ∀ b, s'.heap.objs.size ≤ b → FpOk X pins H1 b := fun b hb => I2.fpOk hb (I2.hok.fresh hb)
  simp only [List.mem_cons, List.not_mem_nil, or_false] at hb
  rcases hb with rfl | rfl | rfl | rfl | rfl
  · exact nw _ (fr _ (by simp))
  · exact nw _ (fr _ (by simp))
  · exact nw _ (fr _ (by simp))
  · exact hf
  · exact nw _ (fr _ (by simp))
theorem pi_zipS (hg : Gl X "zip") (hm : X.mg "zip" = none) (ha : PA X [e, e2] ta)
    (hs : starEach [e, e2] X.env = (false, eval e X.env) :: starEach [e2] X.env := by rfl) (hp : (backTo pos (starEach [e2] X.env)).any (·.1) = false := by rfl) :
    PI X (.Tuple elts kk tpos) (.Call (.Name "zip" p) [e, e2] [] pos) (iZipS X.K ta) := by
  refine ⟨fun pins s σ H R I h => ?_⟩
  refine Call_ (ld_blt I hg hm PyProof.Rows.boot_zip (PyProof.Rows.callWith_type1 (thn (ha.run pos pins s σ H _ I h) fun us s1 ⟨vs, H1, I1, r1, a, m, xs, ys, b1, b2, ev, w, qy, q1⟩ => ?_) hs hp))
  subst ev
  obtain ⟨u1, u2, rfl, ra, rb⟩ := vals2 r1
  obtain rfl : u1 = Value.ref a := ra
  obtain rfl : u2 = Value.ref m := rb
  refine zip_seq I1 w qy fun q ti tu j1 j2 us1 us2 g _ _ p1 p2 _ Z ap fr kp => wpAny_pyIter_zip Z.z ?_
  exact ⟨q, [q, ti, tu, j1, j2], _, _, H1, rfl, I1.kept (t' := s1.toks) kp, turn_any ap, ⟨Z.z, Z.t, ⟨_, _, Z.u⟩, Z.i1, Z.i2⟩, fun b hb => I1.fpOk (fr b hb) (I1.hok.fresh (fr b hb)), q1⟩
/-! ### dict(zip(o, xs)) -/
def zkv (zs : List Str) (ys : List V) : List (Key × V) := (zs.zip ys).map fun p => (.inr p.1, p.2)
def tDZipO (K : PySem.W.Frag) (C : Addr) (sp : Nat → Sp) (ta : TA) : TE := fun σ H Q => ta σ H fun vs H1 => ∃ a c t zs ys b2, vs = [.ref a, .ref c] ∧ OwnT K C sp a t (zs.map V.str) H1 ∧ SqB K b2 H1 c ys ∧ ∀ d, H1 d = none → Q (.ref d) (upd H1 d (.dK (mergeK [] (zkv zs ys))))
theorem zkv_kv {P : Program} {w : World} : ∀ {zs : List Str} {ys : List V} {us1 us2 : List Value}, Vals (zs.map V.str) us1 → Vals ys us2 → ∃ prs : List (Key × Value), KV (zkv zs ys) prs ∧ prs.length = min us1.length us2.length ∧ ∀ (i : Nat) (key v : Value), us1[i]? = some key → us2[i]? = some v → ∃ k, prs[i]? = some (k, v) ∧ keyIs k key = true
  | [], ys, us1, us2, r1, r2 => by
    cases r1
    exact ⟨[], .nil, by simp, fun i key v h => by simp at h⟩
  | z :: zs, [], us1, us2, r1, r2 => by
    cases r2
    exact ⟨[], .nil, by simp, fun i key v _ h => by simp at h⟩
  | z :: zs, y :: ys, us1, us2, r1, r2 => by
    cases r1 with
    | cons h1 t1 =>
      cases r2 with
      | cons h2 t2 =>
        rename_i u1 us1 u2 us2
        obtain ⟨prs, k1, k2, k3⟩ := zkv_kv (P := P) (w := w) t1 t2
        refine ⟨(.inr z, u2) :: prs, .cons ⟨rfl, h2⟩ k1, by simp [k2], fun i key v e1 e2 => ?_⟩
        cases i with
        | zero =>
          cases e1
          cases e2
          exact ⟨.inr z, rfl, kV_is (P := P) (w := w) (k := .inr z) h1⟩
        | succ i => exact k3 i key v (by simpa using e1) (by simpa using e2)
theorem pe_dzipO {pos2 p1 : Pos} (hc : X.calm = true) (c : ItO X.prog X.w X.K X.mg X.base C k sp) (hr : Room j X.A) (hg1 : Gl X "dict") (hm1 : X.mg "dict" = none) (hg : Gl X "zip") (hm : X.mg "zip" = none) (ha : PA X [e, e2] ta) (hj : k + 2 ≤ j := by decide)
    (hs : starEach [e, e2] X.env = (false, eval e X.env) :: starEach [e2] X.env := by rfl) (hpl : (backTo pos2 (starEach [e2] X.env)).any (·.1) = false := by rfl)
    (hs1 : starEach [.Call (.Name "zip" p) [e, e2] [] pos2] X.env = [(false, eval (.Call (.Name "zip" p) [e, e2] [] pos2) X.env)] := by rfl) :
    PE X (.Call (.Name "dict" p1) [.Call (.Name "zip" p) [e, e2] [] pos2] [] pos) (tDZipO X.K C sp ta) := by
  refine ⟨fun pins s σ H Q I h => ?_⟩
  refine Call_ (ld_blt (u := .type "dict") I hg1 hm1 (by decide +kernel) (PyProof.Rows.callWith_type1 (T := "dict") ?_ hs1 (by rfl)))
  rw [hs1]
  show wpAny _ _ (spliced ((false, eval (.Call (.Name "zip" p) [e, e2] [] pos2) X.env) :: backTo pos [])) _ _ _
  refine Calls.spliced_cons ?_
  refine Call_ (ld_blt I hg hm PyProof.Rows.boot_zip (PyProof.Rows.callWith_type1 (thn (ha.run pos2 pins _ σ H _ I h) fun us s1 ⟨vs, H1, I1, r1, a, m, t, zs, ys, b2, ev, w, qy, q1⟩ => ?_) hs hpl))
  subst ev
  obtain ⟨u1, u2, rfl, ra, rb⟩ := vals2 r1
  obtain rfl : u1 = Value.ref a := ra
  obtain rfl : u2 = Value.ref m := rb
  refine zip_own c hr hj I1 w qy fun q ti tu j1 j2 us1 us2 s' g I2 rv1 rv2 p1 p2 zl Z ap hf fr kp => ?_
  refine Calls.spliced_nil ?_
  show wpAny _ _ (call (.type "dict") [.ref q]) _ _ _
  obtain ⟨prs, k1, k2, k3⟩ := zkv_kv (P := X.prog) (w := X.w) rv1 rv2
  have l1 := rv1.length
  rw [List.length_map] at l1 zl
  have lk : (zkv zs ys).length = prs.length := k1.length
  have hl : (zkv zs ys).length ≤ zs.length := by unfold zkv; rw [List.length_map, List.length_zip]; exact Nat.min_le_left _ _
  refine PySem.call_dict_pairs (knd := mixKind X.prog X.w) (kvs := prs) (s := { s' with heap := g }) (PairArgZ X.prog X.w q ti tu j1 j2 t m ap us1.toArray us2.toArray) (I2.ok.hd hc) ⟨Z, p1, p2⟩ ⟨by rw [k2, List.size_toArray, List.size_toArray], fun i key v ⟨g1, g2⟩ => k3 i key v (by simpa using g1) (by simpa using g2)⟩ ?_ fun h' tk hd kd => ?_
  · rw [List.size_toArray, List.size_toArray, ← k2, ← lk]
    exact Nat.le_trans hl zl
  · have lg : s'.heap.objs.size ≤ g.objs.size := Nat.le_of_lt (Nat.lt_of_le_of_lt (fr q (by simp)) (Heap.lt_size Z.z))
    have hfD : H1 g.objs.size = none := I2.hok.fresh lg
    have hm' : (g.objs.size == sysModules) = false := beq_eq_false_iff_ne.mpr (Nat.ne_of_gt (Nat.lt_of_lt_of_le I2.big lg))
    have hlen : (mergeK [] (zkv zs ys)).length ≤ sizeLine := by
      refine Nat.le_trans (length_mergeK (zkv zs ys) []) ?_
      rw [List.length_nil, Nat.zero_add]
      exact Nat.le_trans hl zl
    have ne : ∀ b ob, s'.heap.get? b = some ob → ∀ c, c ∈ [q, ti, tu, j2] → b ≠ c := fun b ob e c hc z => by
      have h1 := fr c hc
      rw [← z] at h1
      exact Nat.lt_irrefl _ (Nat.lt_of_lt_of_le (Heap.lt_size e) h1)
    refine ⟨.ref g.objs.size, upd H1 g.objs.size (.dK (mergeK [] (zkv zs ys))), ?_, rfl, q1 _ hfD⟩
    refine I2.turnedNew (t' := tk) (ch := [j1]) (fun b ob nb e => kd b ob (fun hb => ?_) (kp b ob e)) (fun b hb => by rw [List.mem_singleton.mp hb]; exact hf) lg
      (show ObjOk X.prog X.w _ _ _ (.dK (mergeK [] (zkv zs ys))) from ⟨hlen, hm', merged [] prs, KV.merge k1 .nil, hd⟩)
    simp only [List.mem_cons, List.not_mem_nil, or_false] at hb
    rcases hb with h | h | h | h
    · exact ne b ob e q (by simp) h
    · exact ne b ob e tu (by simp) h
    · exact nb (by simp [h])
    · exact ne b ob e j2 (by simp) h
end
end ZA

set_option Elab.async false
set_option linter.all false
set_option maxRecDepth 100000
set_option maxHeartbeats 1000000
namespace Z
open PySem PySem.Spec PyProof.Rows L2 ZA
section
variable {K : PySem.W.Frag} {σ : L2.St} {H H0 : Hp} {D : Ends} {te tl : TE} {tt : TT} {tr : TA} {g : TG} {tb : TS} {Q : VK} {a c t : Addr} {C : Addr} {sp : Nat → Sp}
/-- a comprehension over a zip -/
theorem lcZip {vs : List Nat} {b1 b2 : Bool} {xs ys : List V} (Pv : Addr → Nat → List V → Hp → Prop) (s1 : SqB K b1 H0 a xs) (s2 : SqB K b2 H0 c ys) (hl : xs.length = ys.length)
    (h0 : ∀ D H', H D = none → Same H H' → H' D = some (.lst []) → (∀ b, b ≠ D → H' b = H b) → Pv D 0 [] H') (hk : ∀ D i ws H1, Pv D i ws H1 → Same H0 H1)
    (hs : ∀ i x y T D ws H1 H2, H D = none → xs[i]? = some x → ys[i]? = some y → H1 D = some (.lst ws) → Pv D i ws H1 → H1 T = none → Same H1 H2 → H2 T = some (.tup [x, y]) → (∀ b, b ≠ T → H2 b = H1 b) →
      g (.ref T) (wipe σ vs) H2 fun σ2 H3 => wipe σ2 vs = wipe σ vs ∧ tt σ2 H3 fun b H4 => if b = true then te σ2 H4 fun v H5 => rLcE D (Pv D) i v H5 else LcS D (Pv D) (i + 1) H4)
    (hd : ∀ D ws H1, H D = none → H1 D = some (.lst ws) → Pv D xs.length ws H1 → Q (.ref D) H1) : rLcJ (ItzX K b1 b2 a c) g tt te vs σ Q H := by
  intro D hD
  refine lc_it (walk_any (n := xs.length) (xs := xs) (ys := ys) (by omega)) (LcS D (Pv D)) ⟨[], upd_same, h0 D _ hD (fun b o e => by rw [upd_ne (ne_of_none e hD)]; exact e) upd_same (fun b hb => upd_ne hb)⟩ ?_ ?_ ?_
  · rintro i H' _ ⟨ws, _, p⟩
    exact ⟨s1.mono (hk D i ws H' p), s2.mono (hk D i ws H' p)⟩
  · rintro i v H1 H2 hi ⟨ws, hD', p⟩ ⟨T, x, y, rfl, hT, rfl, e1, e2⟩
    exact hs i x y T D ws _ _ hD e1 e2 hD' p hT (fun b o e => by rw [upd_ne (ne_of_none e hT)]; exact e) upd_same fun b hb => upd_ne hb
  · rintro H' ⟨ws, hD', p⟩
    exact hd D ws H' hD hD' p
def rLcZO (K : PySem.W.Frag) (C : Addr) (sp : Nat → Sp) (g : TG) (tt : TT) (te : TE) (vs : List Nat) (σ : L2.St) (Q : VK) (ws : List V) (H1 : Hp) : Prop := ∃ a c t xs ys b2, ws = [.ref a, .ref c] ∧ OwnT K C sp a t xs H1 ∧ SqB K b2 H1 c ys ∧ rLcJ (ItzX K true b2 t c) g tt te vs σ Q H1
theorem i_lcZO0 {vs : List Nat} (h : tr σ H (fun ws H1 => rLcZO K C sp g tt te vs σ Q ws H1)) : tLc (iZipO K C sp tr) g tt te vs σ H Q := h
def rLcZS (K : PySem.W.Frag) (g : TG) (tt : TT) (te : TE) (vs : List Nat) (σ : L2.St) (Q : VK) (ws : List V) (H1 : Hp) : Prop := ∃ a c xs ys b1 b2, ws = [.ref a, .ref c] ∧ SqB K b1 H1 a xs ∧ SqB K b2 H1 c ys ∧ rLcJ (ItzX K b1 b2 a c) g tt te vs σ Q H1
theorem i_lcZS0 {vs : List Nat} (h : tr σ H (fun ws H1 => rLcZS K g tt te vs σ Q ws H1)) : tLc (iZipS K tr) g tt te vs σ H Q := h
/-- [.. for x, y in zip(o, ys)] -/
theorem i_lcZO {vs : List Nat} {xs ys : List V} (Pv : Addr → Nat → List V → Hp → Prop) (w : OwnT K C sp a t xs H) (s2 : SqA K H c ys) (hl : xs.length = ys.length)
    (h0 : ∀ D H', H D = none → Same H H' → H' D = some (.lst []) → (∀ b, b ≠ D → H' b = H b) → Pv D 0 [] H') (hk : ∀ D i ws H1, Pv D i ws H1 → Same H H1)
    (hs : ∀ i x y T D ws H1 H2, H D = none → xs[i]? = some x → ys[i]? = some y → H1 D = some (.lst ws) → Pv D i ws H1 → H1 T = none → Same H1 H2 → H2 T = some (.tup [x, y]) → (∀ b, b ≠ T → H2 b = H1 b) →
      g (.ref T) (wipe σ vs) H2 fun σ2 H3 => wipe σ2 vs = wipe σ vs ∧ tt σ2 H3 fun b H4 => if b = true then te σ2 H4 fun v H5 => rLcE D (Pv D) i v H5 else LcS D (Pv D) (i + 1) H4)
    (hd : ∀ D ws H1, H D = none → H1 D = some (.lst ws) → Pv D xs.length ws H1 → Q (.ref D) H1) : rLcZO K C sp g tt te vs σ Q [.ref a, .ref c] H := by
  obtain ⟨b2, s2⟩ := sqB_of s2
  have s1 : SqB K true H t xs := w.2.1
  exact ⟨a, c, t, xs, ys, b2, rfl, w, s2, lcZip Pv s1 s2 hl h0 hk hs hd⟩
/-- [.. for x, y in zip(xs, ys)] -/
theorem i_lcZS {vs : List Nat} {xs ys : List V} (Pv : Addr → Nat → List V → Hp → Prop) (s1 : SqA K H a xs) (s2 : SqA K H c ys) (hl : xs.length = ys.length)
    (h0 : ∀ D H', H D = none → Same H H' → H' D = some (.lst []) → (∀ b, b ≠ D → H' b = H b) → Pv D 0 [] H') (hk : ∀ D i ws H1, Pv D i ws H1 → Same H H1)
    (hs : ∀ i x y T D ws H1 H2, H D = none → xs[i]? = some x → ys[i]? = some y → H1 D = some (.lst ws) → Pv D i ws H1 → H1 T = none → Same H1 H2 → H2 T = some (.tup [x, y]) → (∀ b, b ≠ T → H2 b = H1 b) →
      g (.ref T) (wipe σ vs) H2 fun σ2 H3 => wipe σ2 vs = wipe σ vs ∧ tt σ2 H3 fun b H4 => if b = true then te σ2 H4 fun v H5 => rLcE D (Pv D) i v H5 else LcS D (Pv D) (i + 1) H4)
    (hd : ∀ D ws H1, H D = none → H1 D = some (.lst ws) → Pv D xs.length ws H1 → Q (.ref D) H1) : rLcZS K g tt te vs σ Q [.ref a, .ref c] H := by
  obtain ⟨b1, s1⟩ := sqB_of s1
  obtain ⟨b2, s2⟩ := sqB_of s2
  exact ⟨a, c, xs, ys, b1, b2, rfl, s1, s2, lcZip Pv s1 s2 hl h0 hk hs hd⟩
/-! dict(zip(o, ys)) -/
def rDZipO (K : PySem.W.Frag) (C : Addr) (sp : Nat → Sp) (Q : VK) (vs : List V) (H1 : Hp) : Prop := ∃ a c t zs ys b2, vs = [.ref a, .ref c] ∧ OwnT K C sp a t (zs.map V.str) H1 ∧ SqB K b2 H1 c ys ∧ ∀ d, H1 d = none → Q (.ref d) (upd H1 d (.dK (mergeK [] (zkv zs ys))))
theorem i_dzip0 (h : tr σ H (fun vs H1 => rDZipO K C sp Q vs H1)) : tDZipO K C sp tr σ H Q := h
/-- what a zip says of a name -/
def zpF (zs : List Str) (ys : List V) (z : Str) : V := ((zs.zip ys).lookup z).getD .non
theorem zpF_at : ∀ {zs : List Str} {ys : List V} {i : Nat} {z : Str} {y : V}, zs.Nodup → zs[i]? = some z → ys[i]? = some y → zpF zs ys z = y
  | [], _, _, _, _, _, h, _ => by simp at h
  | _ :: _, [], _, _, _, _, _, h => by simp at h
  | a :: zs, b :: ys, 0, z, y, _, h1, h2 => by
    cases h1
    cases h2
    unfold zpF
    simp [List.lookup]
  | a :: zs, b :: ys, i + 1, z, y, hn, h1, h2 => by
    have ih := zpF_at (i := i) (List.nodup_cons.mp hn).2 (by simpa using h1) (by simpa using h2)
    have hm : z ∈ zs := List.mem_of_getElem? (i := i) (by simpa using h1)
    have ne : (z == a) = false := by
      simp
      rintro rfl
      exact (List.nodup_cons.mp hn).1 hm
    unfold zpF at ih ⊢
    rw [List.zip_cons_cons, List.lookup, ne]
    exact ih
theorem zkv_dF {zs : List Str} {ys : List V} (hn : zs.Nodup) (hl : zs.length = ys.length) : mergeK [] (zkv zs ys) = dF zs (zpF zs ys) := by
  have e : zkv zs ys = dF zs (zpF zs ys) := by
    refine List.ext_getElem (by unfold zkv dF; simp [hl]) fun i h1 h2 => ?_
    have l1 : i < zs.length := by unfold dF at h2; simpa using h2
    have l2 : i < ys.length := by omega
    have e1 : zs[i]? = some zs[i] := List.getElem?_eq_getElem l1
    have e2 : ys[i]? = some ys[i] := List.getElem?_eq_getElem l2
    have a1 : (zkv zs ys)[i]'h1 = (.inr zs[i], ys[i]) := by
      show ((zs.zip ys).map fun p => ((.inr p.1, p.2) : Key × V))[i]'(by simpa [zkv] using h1) = _
      rw [List.getElem_map, List.getElem_zip]
    have a2 : (dF zs (zpF zs ys))[i]'h2 = (.inr zs[i], zpF zs ys zs[i]) := by
      show (zs.map fun z => ((.inr z, zpF zs ys z) : Key × V))[i]'(by simpa [dF] using h2) = _
      rw [List.getElem_map]
    rw [a1, a2, zpF_at hn e1 e2]
  rw [e, mergeK_dF hn]
theorem i_dzip {zs : List Str} {ys : List V} (w : OwnT K C sp a t (zs.map V.str) H) (s2 : SqA K H c ys) (hn : zs.Nodup) (hl : zs.length = ys.length)
    (h : ∀ d H', H d = none → Same H H' → (∀ b, b ≠ d → H' b = H b) → H' d = some (.dK (dF zs (zpF zs ys))) → Q (.ref d) H') : rDZipO K C sp Q [.ref a, .ref c] H := by
  obtain ⟨b2, s2⟩ := sqB_of s2
  refine ⟨a, c, t, zs, ys, b2, rfl, w, s2, fun d hd => ?_⟩
  rw [zkv_dF hn hl]
  exact h d _ hd (same_new hd) (fun b hb => upd_ne hb) upd_same
end
end Z

set_option Elab.async false
set_option linter.all false
set_option maxRecDepth 100000
set_option maxHeartbeats 1000000
namespace Z
open PySem PySem.Spec PyProof.Rows L2 ZA
section
variable {X : Cx} {K : PySem.W.Frag}
theorem k_iterTS (hK : X.K = K) : CallR X (.builtin "iter") (rIterTS K X.s_0.heap.objs.size) := by subst hK; exact cr_iterTS
theorem k_index (hK : X.K = K) : MtR X "list.index" (rIndex K) := by subst hK; exact mt_index
end
section
variable {K : PySem.W.Frag} {H : Hp} {Q : VK}
theorem eqV_str (a b : Str) : eqV (.str a) (.str b) = decide (a = b) := by
  show (a == b) = decide (a = b)
  by_cases h : a = b
  · simp [h]
  · simp [h]
/-- xs.index(z) -/
theorem i_index {a : Addr} {zs : List Str} {z : Str} {j : Nat} (s : SqL K H a (zs.map V.str)) (hn : zs.Nodup) (hz : zs[j]? = some z) (h : Q (.int (j : Nat)) H) : rIndex K (.ref a) [.str z] H Q := by
  refine ⟨a, zs.map V.str, .str z, j, .str z, rfl, rfl, s, rfl, ?_, by rw [List.getElem?_map, hz]; rfl, by rw [eqV_str]; simp, fun m z' hm hz' => ?_, h⟩
  · rw [List.all_map]
    exact List.all_eq_true.mpr fun _ _ => rfl
  · rw [List.getElem?_map] at hz'
    obtain ⟨y, hy, rfl⟩ := Option.map_eq_some_iff.mp hz'
    rw [eqV_str]
    refine decide_eq_false fun e => ?_
    subst e
    obtain ⟨l1, e1⟩ := List.getElem?_eq_some_iff.mp hy
    obtain ⟨l2, e2⟩ := List.getElem?_eq_some_iff.mp hz
    have := (List.getElem_inj hn).mp (e1.trans e2.symm)
    omega
end
end Z

set_option Elab.async false
set_option linter.all false
set_option maxRecDepth 100000
set_option maxHeartbeats 1000000
/-! an error out of a comprehension's element, which a callee raised -/
namespace ZA
open PySem PySem.Spec PyProof.Rows L2
section
variable {X : Cx} {pins : List (Addr × Obj)} {σ : L2.St} {H H3 : Hp} {s s' s3 : Shared} {E : XK} {fp : List Addr} {ce : Env} {scope : Scope}
theorem xeTo {xe : Value → Shared → Prop} (I : Inv X pins σ H s) : Inv { X with xe := xe } pins σ H s :=
  ⟨⟨I.ok.mod, I.ok.kind, I.ok.glob, I.ok.blt, I.ok.above, I.ok.inj, I.ok.has, I.ok.cab, I.ok.hd, I.ok.frames, I.ok.stk, I.ok.exf, I.ok.bs, I.ok.bsz, I.ok.noex, I.ok.exfs, I.ok.funs, I.ok.frf⟩,
    I.os, I.bare, I.base, I.loc, I.cell, I.free, I.freeC, I.pin, I.hok, I.len⟩
/-- a block's context, where errors go out -/
abbrev blkE (X : Cx) (s : Shared) (H : Hp) (scope : Scope) (cenv : Env) (fp : List Addr) (xe : Value → Shared → Prop) : Cx := { X with s_0 := s, H_0 := H, env := cenv, outer := X.stack, ex := fp, fn := fun x => scope.names.lookup x == some .cell, pn := [], xe := xe }
/-- a call's exception flies -/
theorem flies (I : Inv X pins σ H s) {u : Value} (c : CX X.prog X.w X.stack H s E u s') : ∃ (a : Addr) (B : Heap) (sI : Shared) (H' : Hp) (cls : Value) (d : Option Addr),
    u = .ref a ∧ Inv X pins σ H' sI ∧ (∀ b o, sI.heap.get? b = some o → b ∉ frs X.stack → B.get? b = some o) ∧ sI.heap.UpToSlots s'.heap ∧ HandSPX.FlyingZ B X.stack a (Zc cls d) s'.heap ∧ H' a = none ∧ s'.os = sI.os ∧ AllBare s'.gens ∧ E cls d H' := by
  obtain ⟨a, B, H', cls, d, rfl, fl, hok, ub, na, os, ag, hE⟩ := c
  obtain ⟨G, g1, g2⟩ := restrict s'.heap fun b => (B.get? b).isSome || decide (b ∈ frs X.stack)
  have st : B.StaysIn s'.heap := fl.1
  have gB : ∀ b o, B.get? b = some o → G.get? b = some o := fun b o e => by
    rw [g1 b (by simp [e])]
    exact st b o e
  have gF : ∀ b, b ∈ frs X.stack → G.get? b = s'.heap.get? b := fun b hb => g1 b (by simp [hb])
  have og : ∀ b o, G.get? b = some o → s'.heap.get? b = some o ∧ ((B.get? b).isSome = true ∨ b ∈ frs X.stack) := fun b o e => by
    cases q : ((B.get? b).isSome || decide (b ∈ frs X.stack)) with
    | false => rw [g2 b q] at e; cases e
    | true =>
      rw [g1 b q] at e
      exact ⟨e, by simpa [Bool.or_eq_true] using q⟩
  refine ⟨a, B, { s with heap := G, gens := s'.gens, drawn := s'.drawn, toks := s'.toks }, H', cls, d, rfl, ?_, fun b o e hb => ?_, Heap.UpToSlots.of_keeps fun b o e => (og b o e).1, fl, na, os, ag, hE⟩
  · refine I.call (ch := []) ⟨fun b o e n hb _ => gB b o (ub.keep b o e n hb), fun b o e n hb _ => ?_, fun b o e n _ => ub.free b o e n, fun b o e _ => ?_, ub.tups, ub.frzs, ub.tbls⟩ (hok.kept gB) ag (fun _ z => nomatch z)
    · obtain ⟨sl, q⟩ := ub.slot b o e hb
      exact ⟨sl, by rw [gF b hb]; exact q⟩
    · by_cases hb : b ∈ frs X.stack
      · obtain ⟨sl, q⟩ := ub.slot b o e hb
        exact ⟨_, by rw [gF b hb]; exact q⟩
      · obtain ⟨o', q⟩ := ub.there b o e hb
        exact ⟨o', gB b o' q⟩
  · obtain ⟨e', h⟩ := og b o e
    rcases h with h | h
    · obtain ⟨o', q⟩ := Option.isSome_iff_exists.mp h
      have z := st b o' q
      rw [e'] at z; cases z
      exact q
    · exact absurd h hb
theorem frames_base {B B' h : Heap} (k : ∀ b, B.get? b = none → B'.get? b = none) : ∀ {l : List Env}, h.FunFrames B l → h.FunFrames B' l
  | [], _ => trivial
  | _ :: _, ⟨hk, ⟨L, o, hf, hb, ho, hd⟩, hr⟩ => ⟨hk, ⟨L, o, hf, k L hb, ho, hd⟩, frames_base k hr⟩
/-- it leaves the comprehension -/
theorem comp_out (hs : X.stack = X.env :: X.outer) (hf : X.env.frame = some X.env.locals) (tk : Takes X fun cls d _ H => E cls d H) (I3 : Inv X pins σ H3 s3) (f3 : ∀ b ∈ fp, FpOk X pins H3 b) (hce : ce.frame = X.env.frame) (cL : ce.locals = s3.heap.objs.size)
    {pins' : List (Addr × Obj)} {σ' : L2.St} {xe : Value → Shared → Prop} (J : Inv (blkE X s3 H3 scope ce fp xe) pins' σ' H s) {u : Value} (c : CX X.prog X.w X.stack H s E u s') : notedBy (model X.prog X.w) X.A ce (CompFails (model X.prog X.w) X.A X.xe ce) u s' := by
  obtain ⟨a, B, sI, H', cls, d, rfl, JI, nb, up, fl, na, os, ag, hE⟩ := flies (X := blkE X s3 H3 scope ce fp xe) J c
  have nb : ∀ b o, sI.heap.get? b = some o → b ∉ frs X.stack → B.get? b = some o := nb
  have fl : HandSPX.FlyingZ B X.stack a (Zc cls d) s'.heap := fl
  have hfr : X.A.frames = some (X.env :: X.outer) := by rw [I3.ok.frames, hs]
  show wpAny _ _ (noteFrame (.ref a) ce) _ _ s'
  rw [noteFrame_env _ hce]
  rw [hs] at fl
  refine HandSPX.looks_onZ Zc.steady hfr hf fl fun h1 hh up1 => ?_
  obtain ⟨m, hn, _⟩ := JI.loc
  have hn : sI.heap.Ns ce.locals m := hn
  have hn1 : h1.Ns ce.locals m := (hn.upToSlots up).upToSlots up1
  refine ⟨m, hn1, fun h2 m2 hn2 hs2 => ?_⟩
  obtain ⟨b1, b0, f1, t1⟩ := hh
  have bB : ∀ b o, (PySem.W.hideAll B [ce.locals]).get? b = some o → B.get? b = some o ∧ b ≠ ce.locals := fun b o e => ⟨PySem.W.of_hideAll _ e, fun z => by
    rw [z, PySem.W.hideAll_none _ (by simp)] at e; cases e⟩
  have bn : ∀ b, B.get? b = none → (PySem.W.hideAll B [ce.locals]).get? b = none := fun b e => by
    cases q : (PySem.W.hideAll B [ce.locals]).get? b with
    | none => rfl
    | some o => rw [(bB b o q).1] at e; cases e
  have k1 : (PySem.W.hideAll B [ce.locals]).StaysIn h2 := fun b o e => (hs2.2 b (bB b o e).2).trans (b1 b o (bB b o e).1)
  have f2 : h2.FunFrames (PySem.W.hideAll B [ce.locals]) (X.env :: X.outer) := Heap.FunFrames.sameBut hs2 hn2 (frames_base bn f1)
  have notC : ∀ {b : Addr} {o : Obj} {vs : Array Value}, h1.get? b = some o → o.data = .fields vs → b ≠ ce.locals := fun {b o vs} e ed z => by
    obtain ⟨oL, es, ep, hoL, hdL, _⟩ := hn1
    rw [z, hoL] at e
    injection e with e
    rw [← e, hdL] at ed
    cases ed
  have t2 : HandSPX.TracedZ h2 (PySem.W.hideAll B [ce.locals]) a (Zc cls d) (rawInt X.env.locals) := by
    obtain ⟨oe, vs, T, oT, ts, he, hz, hd, h1', hnT, hTe, hT, hdT, h3⟩ := t1
    exact ⟨oe, vs, T, oT, ts, (hs2.2 a (notC he hd)).trans he, hz, hd, h1', bn _ hnT, hTe, (hs2.2 T (notC hT hdT)).trans hT, hdT, h3⟩
  unfold PySem.passOn
  obtain ⟨oe, vs, T, oT, ts, he, hz, hd, h1', r⟩ := id t2
  refine wpAny_bind (wpAny_field he hd h1' ?_)
  rw [if_neg (show ¬ ((Value.ref T == Value.none) = true) from by simp)]
  rw [hce, hf]
  refine wpAny_bind (HandSPX.setFlight_anyZ k1 f2 t2 fun h3 k3 f3' t3 up3 => ?_)
  refine wpAny_throw ?_
  have I7 : Inv X pins σ H' sI := I3.call' (ch := fp) JI.os JI.base JI.hok JI.bare fun b hb => ⟨(f3 b hb).2.2.2.1, (f3 b hb).2.1, (f3 b hb).2.2.2.2.1, (f3 b hb).2.2.2.2.2⟩
  have nC : H' s3.heap.objs.size = none := by
    have z : H' ce.locals = none := JI.free
    rw [cL] at z
    exact z
  obtain ⟨_, g1, _, g3, g4, g5⟩ := I3.fpOk (H' := H') (Nat.le_refl _) nC
  have I8 : Inv X pins σ H' { sI with heap := PySem.W.hideAll sI.heap [ce.locals], toks := sI.toks } := I7.turned (it := s3.heap.objs.size) (fun b o hb e => PySem.W.hideAll_get _ e (by rw [cL]; simpa using hb)) nC g1 g3 g4 g5
  refine tk _ _ ⟨a, PySem.W.hideAll B [ce.locals], _, pins, σ, H', cls, d, rfl, I8, fun b o e hb => ?_, fun b o e nf => ?_, .inr (.inr ?_), na, os, ag, hE⟩
  · have hbC : b ≠ ce.locals := fun z => by
      have e : (PySem.W.hideAll sI.heap [ce.locals]).get? b = some o := e
      rw [z, PySem.W.hideAll_none _ (by simp)] at e; cases e
    exact PySem.W.hideAll_get _ (nb b o (PySem.W.of_hideAll _ e) hb) (by simpa using hbC)
  · have e : (PySem.W.hideAll sI.heap [ce.locals]).get? b = some o := e
    have hbC : b ≠ ce.locals := fun z => by rw [z, PySem.W.hideAll_none _ (by simp)] at e; cases e
    obtain ⟨sl1, e1⟩ := up b o (PySem.W.of_hideAll _ e) nf
    obtain ⟨sl2, e2⟩ := up1 b _ e1 nf
    obtain ⟨sl3, e3⟩ := up3 b _ ((hs2.2 b hbC).trans e2) nf
    exact ⟨sl3, e3⟩
  · rw [hs]
    exact ⟨k3, bn _ b0, f3', t3⟩
end

section
variable {X : Cx}
theorem lc_coreE {E : XK} {pins : List (Addr × Obj)} {s : Shared} {σ : L2.St} {H : Hp} {Q : VK} {elt tg iter : Expr} {ifs : List Expr} {scope : Scope} {own : List (Str × Nat)} {pos pos' : Pos} {wi : TI} {g : TG} {tt : TT} {te : TE} {Qf : Value → Shared → Prop}
    (hst : X.stack = X.env :: X.outer) (hfl : X.env.frame = some X.env.locals) (tk : Takes X fun cls d _ H => E cls d H) (hc : X.calm = true) (hN : X.N.Nodup) (I : Inv X pins σ H s) (hi : PI X tg iter wi) (ok : BlkOk X.N X.env.scope scope own)
    (hg : ∀ (s : Shared) (H : Hp) (C : Addr) (cl : List (Str × Addr)) (fp : List Addr), PG (X.blk s H scope (compEnvC scope cl C X.env) fp) tg g) (ht : ∀ (s : Shared) (H : Hp) (C : Addr) (cl : List (Str × Addr)) (fp : List Addr), PTs (X.blk s H scope (compEnvC scope cl C X.env) fp) ifs tt)
    (he : ∀ (s : Shared) (H : Hp) (C : Addr) (cl : List (Str × Addr)) (fp : List Addr) (xe : Value → Shared → Prop), (∀ σ', PassesAt (L2.CX X.prog X.w) (blkE X s H scope (compEnvC scope cl C X.env) fp xe) σ' E) → PE (blkE X s H scope (compEnvC scope cl C X.env) fp xe) elt te) (hs : ∀ x, foldedSetIterable iter X.env x = pure x)
    (h : tLc wi g tt te (own.map (·.2)) σ H Q)
    (hRR : ∀ D (cenv : Env) s' m H', Inv X pins σ H' s' → Q (.ref D) H' → s'.heap.Ns cenv.locals m → FpOk X pins H' cenv.locals → compEnds (model X.prog X.w) X.A X.xe none Qf (.ref D) cenv (.ok .next) s') :
    wpAny (model X.prog X.w) X.A (comprehension (.ListComp elt [⟨tg, iter, ifs, 0⟩] scope pos) scope X.env pos' (newList []) false (eval iter X.env) none) Qf X.xe s := by
  have hfree : ∀ y ∈ scope.names, y.2 = .free → ∃ c, X.env.cells.lookup y.1 = some c := fun y hy e => by
    rcases ok.free y hy e with k | k
    · exact I.ok.has _ (.inl k)
    · exact I.ok.has _ (.inr k)
  refine comprehension_at (use := none) rfl hs (closure_ok hfree) ok.kind (fun y hy e => by rw [ok.uniq y hy, e])
    (thn (hi.run pins s σ H _ I h) fun xv s1 hx => thn hx fun itv s2 h2 => ?_)
  obtain ⟨it, fp, tn, J, H2, e, I2, T, st2, f2, q⟩ := h2
  subst e
  refine wpAny_newObj_type (newEnv_comp ?_) (by show 0 ≤ sizeLine; decide)
  generalize hD : s2.heap.objs.size = D
  have hDn : H2 D = none := I2.hok.fresh (Nat.le_of_eq hD)
  obtain ⟨W, ⟨m0, w0⟩, turn⟩ := q D hDn
  -- the new list
  generalize hs3 : ({ s2 with heap := s2.heap.push { cls := .type "list", data := .seq ([] : List Value).toArray } } : Shared) = s3
  have I3 : Inv X pins σ (upd H2 D (.lst [])) s3 := by
    rw [← hs3]
    refine I2.laid (t' := s2.toks) (fun b o e => Heap.get?_push_of_some _ e) (Nat.le_of_eq hD) ⟨Nat.zero_le _, [], 0, .nil, ?_⟩
    rw [← hD]
    exact Heap.get?_push_size _ rfl
  have h3 : s3.heap = s2.heap.push { cls := .type "list", data := .seq ([] : List Value).toArray } := by rw [← hs3]
  have sz : ∀ b ∈ fp, b < s2.heap.objs.size := fun b hb => by
    obtain ⟨o, e, _⟩ := T.obj _ _ st2 b hb
    exact Heap.lt_size e
  have f3 : ∀ b ∈ fp, FpOk X pins (upd H2 D (.lst [])) b ∧ b < s3.heap.objs.size := fun b hb => by
    have hlt := sz b hb
    refine ⟨⟨?_, (f2 b hb).2⟩, by rw [h3, Heap.size_push]; exact Nat.lt_succ_of_lt hlt⟩
    rw [upd_ne (by rw [← hD]; exact Nat.ne_of_lt hlt)]
    exact (f2 b hb).1
  have st3 : tn 0 s3.heap := T.keep _ _ _ st2 fun b _ o e => by rw [h3]; exact Heap.get?_push_of_some _ e
  have I4 := block_start I3 ok hN f3
  have pg := hg s3 (upd H2 D (.lst [])) s3.heap.objs.size (cellsFrom (s3.heap.objs.size + 1) scope.names (cloFrom X.env.cells scope.names [])) fp
  have pt := ht s3 (upd H2 D (.lst [])) s3.heap.objs.size (cellsFrom (s3.heap.objs.size + 1) scope.names (cloFrom X.env.cells scope.names [])) fp
  have pe := he s3 (upd H2 D (.lst [])) s3.heap.objs.size (cellsFrom (s3.heap.objs.size + 1) scope.names (cloFrom X.env.cells scope.names [])) fp
    (notedBy (model X.prog X.w) X.A (compEnvC scope (cellsFrom (s3.heap.objs.size + 1) scope.names (cloFrom X.env.cells scope.names [])) s3.heap.objs.size X.env) (CompFails (model X.prog X.w) X.A X.xe (compEnvC scope (cellsFrom (s3.heap.objs.size + 1) scope.names (cloFrom X.env.cells scope.names [])) s3.heap.objs.size X.env)))
    fun σ' pins' Hb sb u sb' Ib cb => comp_out (fp := fp) (ce := compEnvC scope (cellsFrom (s3.heap.objs.size + 1) scope.names (cloFrom X.env.cells scope.names [])) s3.heap.objs.size X.env) hst hfl tk I3 (fun b hb => (f3 b hb).1) rfl rfl Ib cb
  show codeAny _ _ (.compStart (.ListComp elt [⟨tg, iter, ifs, 0⟩] scope pos) 0 (.ref it) (.ref D) (compEnvC scope (cellsFrom (s3.heap.objs.size + 1) scope.names (cloFrom X.env.cells scope.names [])) s3.heap.objs.size X.env)) (compEnds (model X.prog X.w) X.A X.xe none Qf (.ref D) (compEnvC scope (cellsFrom (s3.heap.objs.size + 1) scope.names (cloFrom X.env.cells scope.names [])) s3.heap.objs.size X.env)) { s3 with heap := pushCells (s3.heap.push { cls := .type "dict", data := .dict #[] }) scope.names }
  have nfp : ∀ b ∈ fp, (upd H2 D (.lst [])) b = none := fun b hb => (f3 b hb).1.1
  generalize hce : compEnvC scope (cellsFrom (s3.heap.objs.size + 1) scope.names (cloFrom X.env.cells scope.names [])) s3.heap.objs.size X.env = ce at I4 pg pt pe ⊢
  have cL : ce.locals = s3.heap.objs.size := by subst hce; rfl
  generalize hH3 : upd H2 D (.lst []) = H3 at I3 I4 pg pt pe w0 nfp f3
  generalize hs4 : ({ s3 with heap := pushCells (s3.heap.push { cls := .type "dict", data := .dict #[] }) scope.names } : Shared) = s4 at I4 ⊢
  have st4 : tn 0 s4.heap := T.keep _ _ _ st3 fun b _ o e => by rw [← hs4]; exact pushCells_keeps _ _ _ _ (Heap.get?_push_of_some _ e)
  have stat : ∀ {σ' : L2.St} {H' : Hp} {s' : Shared}, Inv (X.blk s3 H3 scope ce fp) [] σ' H' s' → (∀ b ∈ fp, H' b = none) → ∀ b ∈ fp, FpOk (X.blk s3 H3 scope ce fp) [] H' b := fun {σ' H' s'} I' hn b hb =>
    ⟨hn b hb, (I'.ok.exf b hb).1, I'.ok.exfs b hb, .inl hb, fun x c e => (I'.ok.exf b hb).2 x c e, fun p hp => absurd (show p ∈ ([] : List (Addr × Obj)) ++ [] from hp) (by simp)⟩
  have loop : codeAny (model X.prog X.w) X.A (.compLoop (.ListComp elt [⟨tg, iter, ifs, 0⟩] scope pos) 0 (.ref it) (.ref D) ce) (compEnds (model X.prog X.w) X.A X.xe none Qf (.ref D) ce) s4 := by
    refine compLoop_any (fun n s' => ∃ i H', Inv (X.blk s3 H3 scope ce fp) [] (wipe σ (own.map (·.2))) H' s' ∧ tn i s'.heap ∧ (∀ b ∈ fp, H' b = none) ∧ W i n H') ?_ m0 ⟨0, H3, I4, st4, nfp, w0⟩
    rintro n s5 ⟨i, H5, I5, st5, n5, w5⟩
    rcases turn i n H5 w5 with ⟨stop, qq⟩ | ⟨go, Nx, hNx, step⟩
    · have td := T.done (X.blk s3 H3 scope ce fp) rfl rfl rfl hc i [] s5 _ H5 (fun _ _ => False) I5 (stat I5 n5) st5 stop
      refine thnF td fun r s6 ⟨hr, I6⟩ => ?_
      subst hr
      -- back in the def's context
      have I7 : Inv X pins σ H5 s6 := I3.call' (ch := fp) I6.os I6.base I6.hok I6.bare fun b hb => ⟨(f3 b hb).1.2.2.2.1, (f3 b hb).1.2.1, (f3 b hb).1.2.2.2.2.1, (f3 b hb).1.2.2.2.2.2⟩
      have nC : H5 s3.heap.objs.size = none := by
        have z : H5 ce.locals = none := I6.free
        rw [cL] at z
        exact z
      obtain ⟨m, hn, _⟩ := I6.loc
      have hn : s6.heap.Ns ce.locals m := hn
      rw [cL] at hn
      exact hRR D ce s6 m H5 I7 qq (by rw [cL]; exact hn) (by rw [cL]; exact I3.fpOk (Nat.le_refl _) nC)
    · have ti := T.item (X.blk s3 H3 scope ce fp) rfl rfl rfl hc i [] s5 _ H5 (fun _ _ => False) I5 (stat I5 n5) st5 go
      refine thnF ti fun r s6 ⟨u, hr, h6⟩ => ?_
      subst hr
      refine thnF h6 fun _ s7 ⟨x, H7, I7, r7, y7, st7, n7⟩ => ?_
      have I7' := I7.pinned (stat I7 n7) (T.obj _ _ st7)
      refine thnF (pg.run _ s7 _ H7 x u _ I7' r7 (step x H7 y7)) fun _ s8 ⟨σ8, H8, I8, hw8, q8⟩ => ?_
      refine thnF (pt.run _ s8 σ8 H8 _ I8 q8) fun b s9 ⟨H9, I9, q9⟩ => ?_
      -- the turn's end
      have fin : ∀ {s' : Shared} {H' : Hp}, Inv (X.blk s3 H3 scope ce fp) ([] ++ pinsAt fp s7.heap) σ8 H' s' → Nx H' → ∃ m, m < n ∧ ∃ i H', Inv (X.blk s3 H3 scope ce fp) [] (wipe σ (own.map (·.2))) H' s' ∧ tn i s'.heap ∧ (∀ b ∈ fp, H' b = none) ∧ W i m H' := fun {s' H'} I' nx => by
        obtain ⟨m', hm, w'⟩ := hNx H' nx
        have pin' : ∀ b ∈ fp, ∀ o, s7.heap.get? b = some o → s'.heap.get? b = some o ∧ H' b = none := fun b hb o e =>
          let z := I'.pin (b, o) (List.mem_append_right _ (List.mem_append_right _ (mem_pinsAt hb e)))
          ⟨z.1, z.2.1⟩
        have hl : (wipe σ (own.map (·.2))).length = σ8.length := by rw [← hw8, wipe_length]
        refine ⟨m', hm, i + 1, H', (I'.unpinned (pins := [])).weak hl (fun j v e => ?_), T.keep _ _ _ st7 fun b hb o e => (pin' b hb o e).1, fun b hb => ?_, w'⟩
        · rw [← hw8] at e
          exact (wipe_some e).1
        · obtain ⟨o, e, _⟩ := T.obj _ _ st7 b hb
          exact (pin' b hb o e).2
      cases b with
      | false =>
        simp only [Bool.false_eq_true, if_false] at q9 ⊢
        exact fin I9 q9
      | true =>
        simp only [if_true] at q9 ⊢
        refine wpAny_mono (pe.run _ s9 σ8 H9 _ (xeTo I9) q9) (fun z s10 ⟨yv, H10, I10, r10, acc, hD10, hz10, nx⟩ => ?_) fun _ _ z => z
        exact app_ok (X := X.blk s3 H3 scope ce fp) (xeTo (xe := fun _ _ => False) I10) hD10 hz10 r10 fun s11 I11 => fin I11 nx
  exact codeAny_compStart_list loop (T.self X.A 0 _ _ _ st4 loop)
/-- [elt for target in iter if ..], the element may call what raises -/
theorem pe_lcE {E : XK} {elt tg iter : Expr} {ifs : List Expr} {scope : Scope} {own : List (Str × Nat)} {pos : Pos} {wi : TI} {g : TG} {tt : TT} {te : TE} (tk : Takes X fun cls d _ H => E cls d H) (hst : X.stack = X.env :: X.outer) (hfl : X.env.frame = some X.env.locals)
    (hc : X.calm = true) (hN : X.N.Nodup) (hi : PI X tg iter wi) (ok : BlkOk X.N X.env.scope scope own)
    (hg : ∀ (s : Shared) (H : Hp) (C : Addr) (cl : List (Str × Addr)) (fp : List Addr), PG (X.blk s H scope (compEnvC scope cl C X.env) fp) tg g) (ht : ∀ (s : Shared) (H : Hp) (C : Addr) (cl : List (Str × Addr)) (fp : List Addr), PTs (X.blk s H scope (compEnvC scope cl C X.env) fp) ifs tt)
    (he : ∀ (s : Shared) (H : Hp) (C : Addr) (cl : List (Str × Addr)) (fp : List Addr) (xe : Value → Shared → Prop), (∀ σ', PassesAt (L2.CX X.prog X.w) (blkE X s H scope (compEnvC scope cl C X.env) fp xe) σ' E) → PE (blkE X s H scope (compEnvC scope cl C X.env) fp xe) elt te)
    (hs : ∀ x, foldedSetIterable iter X.env x = pure x := by intro _; rfl) : PE X (.ListComp elt [⟨tg, iter, ifs, 0⟩] scope pos) (tLc wi g tt te (own.map (·.2))) := by
  refine ⟨fun pins s σ H Q I h => ?_⟩
  rw [eval_ListComp]
  refine lc_coreE hst hfl tk hc hN I hi ok hg ht he hs h fun D cenv s' m H' I' q hn f => ⟨m, hn, fun h'' sb => ?_⟩
  obtain ⟨f0, f1, f2, f3, f4, f5⟩ := f
  exact ⟨.ref D, H', I'.turned (t' := s'.toks) (fun b o hb e => (sb.2 b hb).trans e) f0 f1 f3 f4 f5, rfl, q⟩
end
end ZA

set_option Elab.async false
set_option linter.all false
set_option maxRecDepth 100000
set_option maxHeartbeats 4000000
namespace Z
open PySem PySem.Spec PyProof.Rows L2

local macro_rules | `(tactic| walk_at "sm") => `(tactic| first | (with_reducible assumption) | ((with_reducible refine' IsR.mono ?s ?h); (case s => with_reducible assumption); (case h => walk_at "sm")) | ((with_reducible refine' Same.at ?s ?h); (case s => with_reducible assumption); (case h => walk_at "sm")) | ((with_reducible refine' Same.seq ?s ?h); (case s => with_reducible assumption); (case h => walk_at "sm")) | ((with_reducible refine' SqL.of ?h); (case h => walk_at "sm")))
local macro_rules | `(tactic| walk_at "cd") => `(tactic| first | assumption | exact cmulW (by assumption) (by assumption) | exact cmulW (ZR.Bd.n (by assumption)) (ZR.Bd.n (by assumption)) | exact cmulW (ZR.Bd.n (by assumption)) (ZR.Bd.d (by assumption)) | exact cmulW (ZR.Bd.d (by assumption)) (ZR.Bd.d (by assumption)) | exact cmulW (ZR.Bd.d (by assumption)) (ZR.Bd.n (by assumption)) | exact (by show (0 : Int) < _; decide) | exact .inr ⟨by decide, by decide⟩ | exact .inl ⟨by decide, by decide⟩ | exact ⟨by decide, by decide⟩ | exact ⟨by decide, by decide, by decide⟩)
local macro_rules | `(tactic| walk_at "r1") => `(tactic| first
  | (with_reducible first
  | refine i_seq ?_ | refine i_next ?_ | refine i_asg ?_ | refine i_gname (by with_unfolding_all rfl) ?_ | refine i_ret ?_ | refine i_retN ?_ | refine i_drop ?_ | refine i_ifs ?_ | refine i_test ?_ | refine i_B ?_
  | refine i_bl ?_ | refine i_bl' ?_ | refine i_and ?_ | refine i_or ?_ | refine i_not ?_ | refine i_andV ?_ | refine i_orV ?_ | refine i_notV ?_ | refine i_ifx ?_
  | refine i_tt ?_ | refine i_ff ?_ | refine i_nt ?_ | refine i_nf ?_
  | refine i_var (by with_unfolding_all rfl) ?_ | refine i_c ?_ | refine i_op ?_ | refine i_un ?_ | refine i_cons ?_ | refine i_nil ?_ | refine i_cb ?_ | refine i_call ?_ | refine i_lst0 ?_ | refine i_tup0 ?_
  | refine i_fld0 ?_ | refine i_put0 ?_ | refine i_meth ?_ | refine i_make ?_ | refine i_mkO ?_ | refine i_fmt ?_ | refine i_jsC ?_ | refine i_jsN ?_ | refine i_bits0 ?_ | refine i_bits ?_
  | refine i_lcR10 ?_ | refine i_enS0 ?_ | refine i_lzip ?_ | refine i_mkV ?_ | refine i_fmtSO ?_ | refine i_revA0 ?_ | refine i_truO0 ?_ | refine i_lcR20 ?_ | refine i_lc2R0 ?_ | refine i_forR20 ?_ | refine i_tvd ?_ | refine i_xat ?_ | refine i_fmtL ?_ | refine i_forA0 ?_ | refine i_enA0 ?_ | refine i_lcA0 ?_ | refine i_lc2A0 ?_ | refine i_dcA0 ?_ | refine i_dget0 ?_ | refine i_din0 ?_ | refine i_dput0 ?_ | refine i_tru0 ?_ | refine i_fmtR ?_ | refine i_bm0 ?_ | refine i_gn ?_ | refine i_xf ?_ | refine i_chain ?_ | refine i_sl ?_ | refine i_noPart ?_ | refine i_part ?_ | refine i_part1 ?_ | refine i_revL ?_ | refine i_lcS0 ?_ | refine i_tve ?_ | refine i_ost ?_ | refine i_forL0 ?_ | refine i_forT0 ?_ | refine i_forR0 ?_ | refine i_lcL0 ?_ | refine i_yes ?_ | refine i_gsub ?_ | refine i_par ?_ | refine i_par1 ?_ | refine i_gc ?_ | refine i_gn ?_ | refine i_bm ?_
  | refine i_dnin0 ?_ | refine i_forK0 ?_ | refine i_lcK0 ?_ | refine i_forO0 ?_ | refine i_lcO0 ?_ | refine i_forZ0 ?_ | refine i_dget20 ?_ | refine i_dpop0 ?_ | refine i_vals0 ?_ | refine i_frzE0 ?_ | refine i_lcI0 ?_ | refine i_ev0 ?_ | refine i_dcZ0 ?_
  | refine i_lcZO0 ?_ | refine i_lcZS0 ?_ | refine i_dzip0 ?_ | refine i_rI0 ?_ | refine i_forZM0 ?_ | refine i_rU ?_ | refine i_eqI ?_ | refine i_neI ?_ | refine i_eqB ?_ | refine i_neB ?_ | refine i_eqS ?_ | refine i_neS ?_ | refine i_gcd ?_)
  | ((with_reducible refine i_rI ?c ?_); (case c => walk_at "cd"))
  | walk_at "r2")
local macro_rules | `(tactic| walk_at "rd") => `(tactic| repeat walk_at "r1")
local macro_rules | `(tactic| walk_at "rb") => `(tactic| ((try dsimp only); repeat walk_at "r1"))

local macro_rules | `(tactic| walk_at "r2") => `(tactic| with_reducible first | refine i_mkO ?_)
def top (i : Nat) : Stmt := PySem.Challenge.pw_onethrow_k36_maps_judged.main.body.getD i (.Pass ⟨0, 0, 0, 0⟩)
theorem i_fmtRSW {z : Str} {H : Hp} {Q : VK} (l : (reprText z).length ≤ 400000) (h : Q (.str (reprText z)) H) : rFmtR (.str z) H Q := .inl ⟨z, rfl, Nat.le_trans l (by rw [sizeLine_eq]; decide), h⟩
def RW (z : Str) : Prop := (reprText z).length ≤ 400000
def GStW : V → Hp → Prop := fun v _ => ∃ z : Str, v = .str z ∧ RW z
def spAmW (K : PySem.W.Frag) (CU : Addr) : Sp := fun vs H Q E => vs.length = 2 ∧ ∃ (a b : Addr) (ks zs : List Str), vs = [.ref a, .ref b] ∧ SqA K H a (ks.map V.str) ∧ SqA K H b (zs.map V.str) ∧
  (∀ z, miss ks zs = some z → RW z ∧ EName CU z H E) ∧ (miss ks zs = none → ∀ H', Same H H' → Q .non H')
def spShown : Sp := fun vs H Q _ => vs.length = 1 ∧ ∃ n : Int, vs = [.int n] ∧ ZR.Sz 1000 n ∧ ∀ y : Str, y.length ≤ 2000 → Q (.str y) H
def GInt : V → Hp → Prop := fun v _ => ∃ n : Int, v = .int n ∧ ZR.Sz 1000 n
abbrev s__shown : Stmt := top 2
theorem sc__shown : FnScope ["n"] ["n"] (defScope s__shown) := ⟨rfl, rfl, rfl, by decide +kernel, rfl, by decide +kernel, by decide +kernel⟩
theorem ok__shown {P : Program} {w : World} {K : PySem.W.Frag} {mg : Str → Option Value} {base : Heap} {f : Addr} {fd : FuncData} (F : L2.Fun K "_shown" "_shown" s__shown f fd)
    (C_b_int : mg "int" = none)
    (C_b_isinstance : mg "isinstance" = none)
    (C_b_str : mg "str" = none) :
    FnOk P w K mg base (L2.CX P w) 1 f fd ["n"] spShown := by
  refine fnOk_mk F sc__shown (fun vs H Q E h => h.1) (fun cdv A outer s H vs Q E hr h => ?_)
  obtain ⟨_, n, rfl, hz, k⟩ := h
  refine ⟨_, pss_cons (ps_if (PW.pt (pw_and (pt_val (pe_callB call_isi (by rfl) C_b_isinstance (by decide +kernel) (pa_cons (pv 0) (pa_cons ((pe_bltn (v := .ty "int") rfl C_b_int (by decide +kernel) rfl)) pa_nil)))) (pw_and1 (pt_cmpR op_gt (pe_bits (pv 0)) pe_int (nomark _))))) (pss_one (ps_ret pe_str)) (pss_nil))
    (pss_one (ps_ret (pe_callTy call_str_int (by rfl) C_b_str (by decide +kernel) (pa_cons (pv 0) pa_nil)))), ?_⟩
  try dsimp only [cxOf]
  walk_at "rd"
  refine i_isiT (tyInt n) (b := true) (kit_ty (by decide +kernel)) ?_
  walk_at "rd"
  refine i_dec (fun h => absurd h (bits_small hz)) fun _ => ?_
  walk_at "rd"
  exact ⟨n, rfl, PySem.Flt.log2_lt_of (by decide) (hz.mono (by decide)), k _ (Nat.le_trans (text_small (hz.mono (by decide))) (by decide))⟩
abbrev s_BadNumber___init__ : Stmt := inClass (top 4) 0
theorem sc_BadNumber___init__ : FnScope ["self", "n"] ["self", "n"] (defScope s_BadNumber___init__) := ⟨rfl, rfl, rfl, by decide +kernel, rfl, by decide +kernel, by decide +kernel⟩
theorem ok_BadNumber___init__ {P : Program} {w : World} {K : PySem.W.Frag} {mg : Str → Option Value} {base : Heap} {CB : Addr} {f : Addr} {fd : FuncData} (F : L2.Fun K "__init__" "BadNumber.__init__" s_BadNumber___init__ f fd)
    (C_f_shown : Cal P w K mg base "_shown" 1 spShown)
    (C_ox_BadNumber : OexC K CB)
    (C_t_ThrowError : CalT K mg "ThrowError")
    (C_xn_BadNumber_n : PySem.W.findIn K (.ref CB) "n" = some none) :
    FnOk P w K mg base (L2.CX P w) 2 f fd ["self", "n"] (spX1 K CB "n" GInt) := by
  refine fnOk_mk F sc_BadNumber___init__ (fun vs H Q E h => h.1) (fun cdv A outer s H vs Q E hr h => ?_)
  obtain ⟨_, a, v, rfl, ha, g, k⟩ := h
  obtain ⟨n, rfl, hz⟩ := g
  refine ⟨_, pss_cons (ps_expr (z_tinit (by rfl) C_t_ThrowError (pa_cons (pv 0) (pa_cons (pe_joined (PJ.cons pe_str (PJ.cons (pe_fmt (z_callC C_f_shown hr passN (pa_cons (pv 1) pa_nil))) PJ.nil))) pa_nil))))
    (pss_one (ps_ost (pv 0) (pv 1))), ?_⟩
  try dsimp only [cxOf]
  walk_at "rd"
  refine i_js1 (by decide +kernel) ?_
  walk_at "rd"
  refine ⟨rfl, n, rfl, hz, fun y hy => ?_⟩
  refine i_fmtS (Nat.le_trans hy (by decide)) ?_
  refine i_js1 ?_ ?_
  · rw [Str.length_append, Str.length_append]
    have e : (Str.ofString "bad number: ").length = 12 := by decide +kernel
    have e0 : Str.empty.length = 0 := by decide +kernel
    rw [e, e0, sizeLine_eq]
    omega
  walk_at "rd"
  refine i_tve1 C_ox_BadNumber ha (by show 1 ≤ 1000; decide) ?_
  walk_at "rd"
  refine i_ost1 C_ox_BadNumber C_xn_BadNumber_n ha fun dx hd hn => ?_
  exact k dx H hd hn (Same.refl _) hd
abbrev s_BadName___init__ : Stmt := inClass (top 6) 0
theorem sc_BadName___init__ : FnScope ["self", "name"] ["self", "name"] (defScope s_BadName___init__) := ⟨rfl, rfl, rfl, by decide +kernel, rfl, by decide +kernel, by decide +kernel⟩
theorem ok_BadName___init__ {P : Program} {w : World} {K : PySem.W.Frag} {mg : Str → Option Value} {base : Heap} {CN : Addr} {f : Addr} {fd : FuncData} (F : L2.Fun K "__init__" "BadName.__init__" s_BadName___init__ f fd)
    (C_ox_BadName : OexC K CN)
    (C_t_ThrowError : CalT K mg "ThrowError")
    (C_xn_BadName_name : PySem.W.findIn K (.ref CN) "name" = some none) :
    FnOk P w K mg base (L2.CX P w) 1 f fd ["self", "name"] (spX1 K CN "name" GStW) := by
  refine fnOk_mk F sc_BadName___init__ (fun vs H Q E h => h.1) (fun cdv A outer s H vs Q E hr h => ?_)
  obtain ⟨_, a, v, rfl, ha, g, k⟩ := h
  obtain ⟨z, rfl, hz⟩ := g
  refine ⟨_, pss_cons (ps_expr (z_tinit (by rfl) C_t_ThrowError (pa_cons (pv 0) (pa_cons (pe_joined (PJ.cons pe_str (PJ.cons (pe_fmtR (pv 1)) PJ.nil))) pa_nil))))
    (pss_one (ps_ost (pv 0) (pv 1))), ?_⟩
  try dsimp only [cxOf]
  walk_at "rd"
  refine i_js1 (by decide +kernel) ?_
  walk_at "rd"
  refine i_fmtRSW hz ?_
  refine i_js1 ?_ ?_
  · rw [Str.length_append, Str.length_append]
    have e : (Str.ofString "bad name: ").length = 10 := by decide +kernel
    have e0 : Str.empty.length = 0 := by decide +kernel
    have hz' : (reprText z).length ≤ 400000 := hz
    rw [e, e0, sizeLine_eq]
    omega
  walk_at "rd"
  refine i_tve1 C_ox_BadName ha (by show 1 ≤ 1000; decide) ?_
  walk_at "rd"
  refine i_ost1 C_ox_BadName C_xn_BadName_name ha fun dx hd hn => ?_
  exact k dx H hd hn (Same.refl _) hd
abbrev s_DuplicateName___init__ : Stmt := inClass (top 7) 0
theorem sc_DuplicateName___init__ : FnScope ["self", "name"] ["self", "name"] (defScope s_DuplicateName___init__) := ⟨rfl, rfl, rfl, by decide +kernel, rfl, by decide +kernel, by decide +kernel⟩
theorem ok_DuplicateName___init__ {P : Program} {w : World} {K : PySem.W.Frag} {mg : Str → Option Value} {base : Heap} {CD : Addr} {f : Addr} {fd : FuncData} (F : L2.Fun K "__init__" "DuplicateName.__init__" s_DuplicateName___init__ f fd)
    (C_ox_DuplicateName : OexC K CD)
    (C_t_ThrowError : CalT K mg "ThrowError")
    (C_xn_DuplicateName_name : PySem.W.findIn K (.ref CD) "name" = some none) :
    FnOk P w K mg base (L2.CX P w) 1 f fd ["self", "name"] (spX1 K CD "name" GStW) := by
  refine fnOk_mk F sc_DuplicateName___init__ (fun vs H Q E h => h.1) (fun cdv A outer s H vs Q E hr h => ?_)
  obtain ⟨_, a, v, rfl, ha, g, k⟩ := h
  obtain ⟨z, rfl, hz⟩ := g
  refine ⟨_, pss_cons (ps_expr (z_tinit (by rfl) C_t_ThrowError (pa_cons (pv 0) (pa_cons (pe_joined (PJ.cons pe_str (PJ.cons (pe_fmtR (pv 1)) PJ.nil))) pa_nil))))
    (pss_one (ps_ost (pv 0) (pv 1))), ?_⟩
  try dsimp only [cxOf]
  walk_at "rd"
  refine i_js1 (by decide +kernel) ?_
  walk_at "rd"
  refine i_fmtRSW hz ?_
  refine i_js1 ?_ ?_
  · rw [Str.length_append, Str.length_append]
    have e : (Str.ofString "name comes again: ").length = 18 := by decide +kernel
    have e0 : Str.empty.length = 0 := by decide +kernel
    have hz' : (reprText z).length ≤ 400000 := hz
    rw [e, e0, sizeLine_eq]
    omega
  walk_at "rd"
  refine i_tve1 C_ox_DuplicateName ha (by show 1 ≤ 1000; decide) ?_
  walk_at "rd"
  refine i_ost1 C_ox_DuplicateName C_xn_DuplicateName_name ha fun dx hd hn => ?_
  exact k dx H hd hn (Same.refl _) hd
abbrev s_UnknownName___init__ : Stmt := inClass (top 8) 0
theorem sc_UnknownName___init__ : FnScope ["self", "name"] ["self", "name"] (defScope s_UnknownName___init__) := ⟨rfl, rfl, rfl, by decide +kernel, rfl, by decide +kernel, by decide +kernel⟩
theorem ok_UnknownName___init__ {P : Program} {w : World} {K : PySem.W.Frag} {mg : Str → Option Value} {base : Heap} {CU : Addr} {f : Addr} {fd : FuncData} (F : L2.Fun K "__init__" "UnknownName.__init__" s_UnknownName___init__ f fd)
    (C_ox_UnknownName : OexC K CU)
    (C_t_ThrowError : CalT K mg "ThrowError")
    (C_xn_UnknownName_name : PySem.W.findIn K (.ref CU) "name" = some none) :
    FnOk P w K mg base (L2.CX P w) 1 f fd ["self", "name"] (spX1 K CU "name" GStW) := by
  refine fnOk_mk F sc_UnknownName___init__ (fun vs H Q E h => h.1) (fun cdv A outer s H vs Q E hr h => ?_)
  obtain ⟨_, a, v, rfl, ha, g, k⟩ := h
  obtain ⟨z, rfl, hz⟩ := g
  refine ⟨_, pss_cons (ps_expr (z_tinit (by rfl) C_t_ThrowError (pa_cons (pv 0) (pa_cons (pe_joined (PJ.cons pe_str (PJ.cons (pe_fmtR (pv 1)) PJ.nil))) pa_nil))))
    (pss_one (ps_ost (pv 0) (pv 1))), ?_⟩
  try dsimp only [cxOf]
  walk_at "rd"
  refine i_js1 (by decide +kernel) ?_
  walk_at "rd"
  refine i_fmtRSW hz ?_
  refine i_js1 ?_ ?_
  · rw [Str.length_append, Str.length_append]
    have e : (Str.ofString "unknown name: ").length = 14 := by decide +kernel
    have e0 : Str.empty.length = 0 := by decide +kernel
    have hz' : (reprText z).length ≤ 400000 := hz
    rw [e, e0, sizeLine_eq]
    omega
  walk_at "rd"
  refine i_tve1 C_ox_UnknownName ha (by show 1 ≤ 1000; decide) ?_
  walk_at "rd"
  refine i_ost1 C_ox_UnknownName C_xn_UnknownName_name ha fun dx hd hn => ?_
  exact k dx H hd hn (Same.refl _) hd
def spXR (K : PySem.W.Frag) (C : Addr) : Sp := fun vs H Q _ => vs.length = 2 ∧ ∃ (a b : Addr) (zs : List Str), vs = [.ref a, .ref b] ∧ H a = some (exo a C none) ∧ zs ≠ [] ∧ SqL K H b (zs.map V.str) ∧ (∀ z ∈ zs, nameB z = true) ∧ zs.length ≤ 64 ∧
  ∀ q dx H1, H q = none → H dx = none → dx ≠ a → q ≠ a → Same H H1 → H1 q = some (.lst (zs.map V.str)) → H1 dx = none → Q .non (upd (upd H1 dx (exd dx [("names", .ref q)])) a (exo a C (some dx)))
theorem i_mkXR {K : PySem.W.Frag} {C b : Addr} {zs : List Str} {H : Hp} {Q : XK} (n0 : zs ≠ []) (s : SqL K H b (zs.map V.str)) (hn : ∀ z ∈ zs, nameB z = true) (hl : zs.length ≤ 64)
    (h : ∀ d q H', H d = none → Same H H' → H' d = some (.xd [("names", .ref q)]) → H' q = some (.lst (zs.map V.str)) → Q (.ref C) (some d) H') : rMkO C (spXR K C) [.ref b] H Q := by
  refine ⟨by show 1 ≤ 1000; decide, fun a ha => ?_⟩
  have s0 : Same H (upd H a (exo a C none)) := fun b o e => by rw [upd_ne (ne_of_none e ha)]; exact e
  refine ⟨rfl, a, b, zs, rfl, upd_same, n0, s0.seq s, hn, hl, fun q dx H1 hq hd hne hqa sm eq hd1 => ?_⟩
  have hdH : H dx = none := by rw [upd_ne hne] at hd; exact hd
  have dq : q ≠ dx := fun z => by rw [z, hd1] at eq; cases eq
  refine ⟨rfl, dx, [("names", .ref q)], upd_same, by rw [upd_ne hne, upd_same], hdH, h dx q _ hdH (fun b o e => ?_) upd_same ?_⟩
  · have nb : b ≠ dx := ne_of_none e hdH
    have na : b ≠ a := ne_of_none e ha
    rw [upd_ne nb, del_ne na, upd_ne na, upd_ne nb]
    exact sm b o (s0 b o e)
  · rw [upd_ne dq, del_ne hqa, upd_ne hqa, upd_ne dq]
    exact eq
theorem cost_names : ∀ zs : List Str, (∀ z ∈ zs, z.length ≤ 8) → fmtCost zs ≤ zs.length * 84
  | [], _ => Nat.zero_le _
  | z :: zs, h => by
    have ih := cost_names zs fun w hw => h w (List.mem_cons_of_mem _ hw)
    have := h z List.mem_cons_self
    rw [fmtCost_cons, List.length_cons, Nat.succ_mul]
    omega
theorem name_chars {z : Str} (h : nameB z = true) : ∀ c ∈ z.cps.toList, c < 16 ^ 8 := by
  unfold nameB nameL at h
  rw [Bool.and_eq_true, Bool.and_eq_true] at h
  intro c hc
  have := List.all_eq_true.mp h.2.2 c hc
  unfold let_ ZS.dig at this
  simp at this
  omega
abbrev s_Ring___init__ : Stmt := inClass (top 9) 0
theorem sc_Ring___init__ : FnScope ["self", "names"] ["self", "names"] (defScope s_Ring___init__) := ⟨rfl, rfl, rfl, by decide +kernel, rfl, by decide +kernel, by decide +kernel⟩
theorem ok_Ring___init__ {P : Program} {w : World} {K : PySem.W.Frag} {mg : Str → Option Value} {base : Heap} {CG : Addr} {f : Addr} {fd : FuncData} (F : L2.Fun K "__init__" "Ring.__init__" s_Ring___init__ f fd)
    (C_b_list : mg "list" = none)
    (C_ox_Ring : OexC K CG)
    (C_t_ThrowError : CalT K mg "ThrowError")
    (C_xf_Ring : XfC K CG)
    (C_xn_Ring_names : PySem.W.findIn K (.ref CG) "names" = some none) :
    FnOk P w K mg base (L2.CX P w) 1 f fd ["self", "names"] (spXR K CG) := by
  refine fnOk_mk F sc_Ring___init__ (fun vs H Q E h => h.1) (fun cdv A outer s H vs Q E hr h => ?_)
  obtain ⟨_, a, b, zs, rfl, ha, n0, hs, hn, hl, k⟩ := h
  have hcost := cost_names zs fun z hz => nameB_len (hn z hz)
  refine ⟨_, pss_cons (ps_ost (pv 0) (pe_callTy (k_listA (K := K) rfl) (by rfl) C_b_list (by decide +kernel) (pa_cons (pv 1) pa_nil)))
    (pss_one (ps_expr (z_tinitD (by rfl) C_t_ThrowError (pa_cons (pv 0) (pa_cons (pe_joined (PJ.cons pe_str (PJ.cons (pe_fmtL hr (pe_xat (pv 0))) PJ.nil))) pa_nil))))), ?_⟩
  try dsimp only [cxOf]
  walk_at "rd"
  refine i_listA (.inl hs) fun q H1 hq s1 e1 o1 => ?_
  have qa : q ≠ a := fun z => by rw [z, ha] at hq; cases hq
  walk_at "rd"
  refine i_ost1 C_ox_Ring C_xn_Ring_names (s1 _ _ ha) fun dx hd hn2 => ?_
  have qd : q ≠ dx := fun z => by rw [z, hd] at e1; cases e1
  walk_at "rd"
  refine i_js1 (by decide +kernel) ?_
  walk_at "rd"
  refine i_xat1 C_xf_Ring C_xn_Ring_names upd_same (by rw [upd_ne hn2, upd_same]) ?_
  obtain ⟨y, l, rfl⟩ : ∃ y l, zs = y :: l := by
    cases zs with
    | nil => exact absurd rfl n0
    | cons y l => exact ⟨y, l, rfl⟩
  refine ⟨q, y, l, rfl, .of (by rw [upd_ne qa, upd_ne qd]; exact e1), fun z hz => name_chars (hn z hz), by rw [sizeLine_eq]; omega, fun m hm => ?_⟩
  refine i_js1 ?_ ?_
  · rw [Str.length_append, Str.length_append]
    have e : (Str.ofString "below each other: ").length = 18 := by decide +kernel
    have e0 : Str.empty.length = 0 := by decide +kernel
    rw [e, e0, sizeLine_eq]
    omega
  walk_at "rd"
  refine i_tvd1 C_ox_Ring upd_same (by show 1 ≤ 1000; decide) ?_
  walk_at "rd"
  refine k q dx H1 hq ?_ hn2 qa s1 e1 hd
  cases z : H dx with
  | none => rfl
  | some o => rw [s1 _ _ z] at hd; cases hd
theorem let_mem (c : Nat) : decide (c ∈ (Str.ofString "abcdefghijklmnopqrstuvwxyz").cps.toList) = let_ c := by
  have e : (Str.ofString "abcdefghijklmnopqrstuvwxyz").cps.toList = [97, 98, 99, 100, 101, 102, 103, 104, 105, 106, 107, 108, 109, 110, 111, 112, 113, 114, 115, 116, 117, 118, 119, 120, 121, 122] := by decide +kernel
  rw [e]
  unfold let_
  refine decide_eq_decide.mpr ?_
  simp
  omega
theorem dig_mem (c : Nat) : decide (c ∈ (Str.ofString "0123456789").cps.toList) = ZS.dig c := by
  have e : (Str.ofString "0123456789").cps.toList = [48, 49, 50, 51, 52, 53, 54, 55, 56, 57] := by decide +kernel
  rw [e]
  unfold ZS.dig
  refine decide_eq_decide.mpr ?_
  simp
  omega
theorem i_all {K : PySem.W.Frag} {D : Addr} {H : Hp} {Q : VK} {bs : List Bool} (e : H D = some (.lst (bs.map V.bl))) (h : Q (.bl (bs.all id)) H) : rAll K [.ref D] H Q := ⟨D, bs, rfl, SqL.of e, h⟩
theorem i_any {K : PySem.W.Frag} {D : Addr} {H : Hp} {Q : VK} {bs : List Bool} (e : H D = some (.lst (bs.map V.bl))) (h : Q (.bl (bs.any id)) H) : rAny K [.ref D] H Q := ⟨D, bs, rfl, SqL.of e, h⟩
theorem take_map {α β : Type} {l : List α} {f : α → β} {i : Nat} {c : α} (hc : l[i]? = some c) : (l.take (i + 1)).map f = (l.take i).map f ++ [f c] := by
  rw [List.take_add_one, hc, List.map_append]
  rfl
abbrev s_is_name : Stmt := top 14
theorem sc_is_name : FnScope ["text", "sign"] ["text"] (defScope s_is_name) := ⟨rfl, rfl, rfl, by decide +kernel, rfl, by decide +kernel, by decide +kernel⟩
theorem ok_is_name {P : Program} {w : World} {K : PySem.W.Frag} {mg : Str → Option Value} {base : Heap} {tk_DIGITS : Tok} {tk_LETTERS : Tok} {tk_MOST_SIGNS : Tok} {f : Addr} {fd : FuncData} (F : L2.Fun K "is_name" "is_name" s_is_name f fd)
    (C_b_all : mg "all" = none)
    (C_b_len : mg "len" = none)
    (C_n_DIGITS : mg "DIGITS" = some (.str "0123456789" tk_DIGITS))
    (C_n_LETTERS : mg "LETTERS" = some (.str "abcdefghijklmnopqrstuvwxyz" tk_LETTERS))
    (C_n_MOST_SIGNS : mg "MOST_SIGNS" = some (.int 8 tk_MOST_SIGNS)) :
    FnOk P w K mg base (L2.CX P w) 1 f fd ["text"] spIsName := by
  refine fnOk_mk F sc_is_name (fun vs H Q E h => h.1) (fun cdv A outer s H vs Q E hr h => ?_)
  obtain ⟨_, z, rfl, hz, k⟩ := h
  have hl := TL.len_tl z
  refine ⟨_, pss_cons (ps_if (pt_not (pt_chain op_le op_le pe_int (pe_callB call_len_str (by rfl) C_b_len (by decide +kernel) (pa_cons (pv 0) pa_nil)) ((pe_glob (v := .int 8) rfl C_n_MOST_SIGNS ⟨_, rfl⟩)))) (pss_one (ps_ret pe_bl)) (pss_nil))
    (pss_one (ps_ret (pe_and (pe_cmpR op_in_sign (pe_ix ix_str (pv 0) pe_int (fun _ _ => rfl)) ((pe_glob (v := .str "abcdefghijklmnopqrstuvwxyz") rfl C_n_LETTERS ⟨_, rfl⟩)) rfl) (pe_one (pe_callB (k_all rfl (K := K) rfl) (by rfl) C_b_all (by decide +kernel) (pa_cons (pe_lc (own := [("sign", 1)]) (by rfl) sc_is_name.nd (pi_str (pv 0)) (blkOk_by (N := ["text", "sign"]) (sc := defScope s_is_name) (by decide +kernel)) (fun _ _ _ _ _ => pg_name (i := 1) sc_is_name.nd rfl (Or.inl rfl)) (fun _ _ _ _ _ => pts_nil) (fun _ _ _ _ _ => pe_or (pe_cmpR op_in_sign (pv 1) ((pe_glob (v := .str "abcdefghijklmnopqrstuvwxyz") rfl C_n_LETTERS ⟨_, rfl⟩)) rfl) (pe_one (pe_cmpR op_in_sign (pv 1) ((pe_glob (v := .str "0123456789") rfl C_n_DIGITS ⟨_, rfl⟩)) rfl)))) pa_nil)))))), ?_⟩
  try dsimp only [cxOf]
  walk_at "rd"
  refine ⟨z, rfl, Nat.le_trans hz (by decide), ?_⟩
  walk_at "rb"
  have out : ∀ {b : Bool}, nameB z = b → Q (.bl b) H := fun e => e ▸ k H (Same.refl _)
  refine i_dec (fun e1 => ?_) (fun e1 => ?_)
  · walk_at "rd"
    refine i_ndec (fun e2 => ?_) (fun e2 => ?_)
    · walk_at "rd"
      refine out ?_
      unfold nameB nameL
      rw [decide_eq_false (by omega)]
      rfl
    · walk_at "rd"
      obtain ⟨c, r, ez⟩ : ∃ c r, TL.tl z = c :: r := by
        cases e : TL.tl z with
        | nil =>
          rw [e] at hl
          simp at hl
          omega
        | cons c r => exact ⟨c, r, rfl⟩
      refine i_ixS0 hz ez ?_
      walk_at "rd"
      refine ⟨c, _, rfl, rfl, ?_⟩
      rw [let_mem]
      have hlen : decide (1 ≤ (TL.tl z).length ∧ (TL.tl z).length ≤ 8) = true := decide_eq_true (by omega)
      refine ⟨_, rfl, ?_⟩
      refine i_bool (fun e3 => ?_) (fun e3 => ?_)
      · walk_at "rd"
        refine i_lcS (fun i ys H' => Same H H' ∧ ys = (((TL.tl z).take i).map fun c => let_ c || ZS.dig c).map V.bl) (fun D H' hD s e' ho => ⟨s, rfl⟩) ?_ ?_
        · rintro i c2 D ys H1 hD hc eD ⟨s1, rfl⟩
          walk_at "rd"
          refine ⟨by with_unfolding_all rfl, ?_⟩
          walk_at "rd"
          refine ⟨c2, _, rfl, rfl, ?_⟩
          rw [let_mem]
          have fin : ∀ b, b = (let_ c2 || ZS.dig c2) → rLcE D (fun i ys H' => Same H H' ∧ ys = (((TL.tl z).take i).map fun c => let_ c || ZS.dig c).map V.bl) i (V.bl b) H1 := by
            rintro b rfl
            refine i_lcE eD ?_ fun H2 e2 ho => ⟨?_, ?_⟩
            · have := (List.getElem?_eq_some_iff.mp hc).1
              simp
              omega
            · intro b o e
              exact (ho b (ne_of_none e hD)).trans (s1 _ _ e)
            · rw [take_map hc, List.map_append]
              rfl
          refine ⟨_, rfl, ?_⟩
          refine i_bool (fun e4 => ?_) (fun e4 => ?_)
          · exact fin _ (by rw [e4]; rfl)
          · walk_at "rd"
            refine ⟨c2, _, rfl, rfl, ?_⟩
            rw [dig_mem]
            exact fin _ (by rw [e4]; rfl)
        · rintro D ys H1 hD eD ⟨s1, rfl⟩
          walk_at "rd"
          refine i_all eD ?_
          have ep : (((TL.tl z).take (TL.tl z).length).map fun c => let_ c || ZS.dig c).all id = nameB z := by
            rw [List.take_length]
            unfold nameB nameL
            rw [hlen, ez]
            simp [List.all_map, Function.comp_def, e3]
          rw [ep]
          exact k H1 s1
      · refine out ?_
        unfold nameB nameL
        rw [hlen, ez]
        simp [e3]
  · walk_at "rd"
    refine out ?_
    unfold nameB nameL
    rw [decide_eq_false (by omega)]
    rfl
theorem strs_at {N : List Str} {i : Nat} {x : V} (h : (N.map V.str)[i]? = some x) : ∃ n, N[i]? = some n ∧ x = V.str n := by
  rw [List.getElem?_map] at h
  cases e : N[i]? with
  | none => rw [e] at h; cases h
  | some n => rw [e] at h; exact ⟨n, rfl, (Option.some.inj h).symm⟩
theorem take_snoc {α : Type} {N : List α} {i : Nat} {n : α} (h : N[i]? = some n) : N.take (i + 1) = N.take i ++ [n] := by rw [List.take_add_one, h]; rfl
theorem nodup_take {N : List Str} (hN : N.Nodup) {i : Nat} {n : Str} (h : N[i]? = some n) : ¬ n ∈ N.take i := fun hm => by
  obtain ⟨lt, e2⟩ := List.getElem?_eq_some_iff.mp h
  obtain ⟨j, hj, e⟩ := List.mem_iff_getElem.mp hm
  rw [List.length_take] at hj
  rw [List.getElem_take] at e
  have := (List.getElem_inj hN).mp (e.trans e2.symm)
  omega

/-- the first fault of names: no name (false), or one that came (true) -/
def nmF : List Str → List Str → Option (Bool × Str)
  | _, [] => none
  | seen, z :: zs => if nameB z = false then some (false, z) else if z ∈ seen then some (true, z) else nmF (seen ++ [z]) zs
theorem nmF_cons {seen zs : List Str} {z : Str} : nmF seen (z :: zs) = if nameB z = false then some (false, z) else if z ∈ seen then some (true, z) else nmF (seen ++ [z]) zs := rfl
theorem nmF_none : ∀ (zs seen : List Str), nmF seen zs = none → seen.Nodup → (∀ z ∈ zs, nameB z = true) ∧ (seen ++ zs).Nodup
  | [], seen, _, h => ⟨fun z hz => absurd hz (by simp), by simpa using h⟩
  | z :: zs, seen, h, hs => by
    unfold nmF at h
    split at h
    · cases h
    · rename_i h1
      split at h
      · cases h
      · rename_i h2
        have hs2 : (seen ++ [z]).Nodup := List.nodup_append.mpr ⟨hs, by simp, fun x hx y hy e => h2 (by rw [← List.mem_singleton.mp hy, ← e]; exact hx)⟩
        obtain ⟨a, b⟩ := nmF_none zs (seen ++ [z]) h hs2
        refine ⟨fun w hw => ?_, by simpa using b⟩
        rcases List.mem_cons.mp hw with rfl | hw
        · simpa using h1
        · exact a w hw
def spCheckG (K : PySem.W.Frag) (CN CD : Addr) : Sp := fun vs H Q E => vs.length = 1 ∧ ∃ (a : Addr) (zs : List Str), vs = [.ref a] ∧ SqA K H a (zs.map V.str) ∧ zs.length ≤ 30000 ∧ (∀ z ∈ zs, z.length ≤ 100000) ∧
  (∀ b z, nmF [] zs = some (b, z) → RW z ∧ EName (if b then CD else CN) z H E) ∧ (nmF [] zs = none → ∀ H', Same H H' → Q .non H')
abbrev s_check_names : Stmt := top 15
theorem sc_check_names : FnScope ["names", "at", "name"] ["names"] (defScope s_check_names) := ⟨rfl, rfl, rfl, by decide +kernel, rfl, by decide +kernel, by decide +kernel⟩
theorem ok_check_names {P : Program} {w : World} {K : PySem.W.Frag} {mg : Str → Option Value} {base : Heap} {CD CN : Addr} {f : Addr} {fd : FuncData} (F : L2.Fun K "check_names" "check_names" s_check_names f fd)
    (C_b_enumerate : mg "enumerate" = none)
    (C_f_is_name : Cal P w K mg base "is_name" 1 spIsName)
    (C_x_BadName : CalX P w K mg base "BadName" CN 1 ["self", "name"] (spX1 K CN "name" GStW))
    (C_x_DuplicateName : CalX P w K mg base "DuplicateName" CD 1 ["self", "name"] (spX1 K CD "name" GStW)) :
    FnOk P w K mg base (L2.CX P w) 3 f fd ["names"] (spCheckG K CN CD) := by
  refine fnOk_mk F sc_check_names (fun vs H Q E h => h.1) (fun cdv A outer s H vs Q E hr h => ?_)
  obtain ⟨_, a, zs, rfl, hs, hl, hlen, kx, k⟩ := h
  refine ⟨_, pss_one (ps_for (passes_of rfl) rfl (pi_enA (K := K) rfl (by rfl) C_b_enumerate (pa_cons (pv 0) pa_nil)) (k_tup (K := K) (n := 2) rfl rfl (pgs_cons (pg_name (i := 1) sc_check_names.nd rfl (Or.inl rfl)) (pgs_cons (pg_name (i := 2) sc_check_names.nd rfl (Or.inl rfl)) pgs_nil))) (pss_cons (ps_if (pt_not (pt_val (z_callC C_f_is_name hr passN (pa_cons (pv 2) pa_nil)))) (pss_one (ps_raise rfl (takes_of rfl rfl rfl rfl) (z_mkX C_x_BadName hr (pa_cons (pv 2) pa_nil)))) (pss_nil))
    (pss_one (ps_if (pt_cmpR (k_inS (K := K) rfl) (pv 2) (pe_slice (k_slA (K := K) rfl) (pv 0) po_none (po_some (pv 1))) rfl) (pss_one (ps_raise rfl (takes_of rfl rfl rfl rfl) (z_mkX C_x_DuplicateName hr (pa_cons (pv 2) pa_nil)))) (pss_nil))))), ?_⟩
  try dsimp only [cxOf]
  walk_at "rd"
  refine i_enA (fun i σ H1 => (∃ x y, σ = [some (.ref a), x, y]) ∧ Same H H1 ∧ nmF (zs.take i) (zs.drop i) = nmF [] zs) hs ⟨⟨_, _, rfl⟩, Same.refl _, rfl⟩ (fun i σ H1 p => p.2.1) ?_ ?_
  · rintro i x T σ H1 H2 hx ⟨⟨u, v, rfl⟩, s1, hf⟩ hT s2 eT ho
    obtain ⟨z, hz, rfl⟩ := strs_at hx
    have s02 := s1.trans s2
    have hm : z ∈ zs := List.mem_of_getElem? hz
    have lt := (List.getElem?_eq_some_iff.mp hz).1
    have hd : zs.drop i = z :: zs.drop (i + 1) := by rw [List.drop_eq_getElem_cons lt, (List.getElem?_eq_some_iff.mp hz).2]
    rw [hd, nmF_cons] at hf
    refine i_gtup (SqT.of eT) rfl ?_
    walk_at "rd"
    refine i_isName (hlen z hm) fun H3 s3 => ?_
    walk_at "rd"
    have s03 := s02.trans s3
    cases hb : nameB z
    · rw [if_pos hb] at hf
      walk_at "rd"
      obtain ⟨rb, kx⟩ := kx false z hf.symm
      exact i_mkX1 (fun H' s => ⟨z, rfl, rb⟩) fun d H' hd s e' => kx d H' (s03.trans s) e'
    · rw [if_neg (by rw [hb]; decide)] at hf
      walk_at "rd"
      refine i_slTo (sameA s03 hs) (by rw [List.length_map]; exact lt) fun q H4 hq s4 e4 ho4 => ?_
      rw [← List.map_take] at e4
      refine i_inS e4 ?_
      walk_at "rd"
      have s04 := s03.trans s4
      refine i_dec (fun g => ?_) (fun g => ?_)
      · rw [if_pos g] at hf
        walk_at "rd"
        obtain ⟨rb, kx⟩ := kx true z hf.symm
        exact i_mkX1 (fun H' s => ⟨z, rfl, rb⟩) fun d H' hd s e' => kx d H' (s04.trans s) e'
      · rw [if_neg g] at hf
        walk_at "rd"
        exact ⟨⟨_, _, rfl⟩, s04, by rw [take_snoc hz]; exact hf⟩
  · rintro σ H1 ⟨⟨u, v, rfl⟩, s1, hf⟩
    rw [List.length_map, List.drop_length] at hf
    exact k hf.symm H1 s1
abbrev s_check_among : Stmt := top 16
theorem sc_check_among : FnScope ["known", "names", "name"] ["known", "names"] (defScope s_check_among) := ⟨rfl, rfl, rfl, by decide +kernel, rfl, by decide +kernel, by decide +kernel⟩
theorem ok_check_among {P : Program} {w : World} {K : PySem.W.Frag} {mg : Str → Option Value} {base : Heap} {CU : Addr} {f : Addr} {fd : FuncData} (F : L2.Fun K "check_among" "check_among" s_check_among f fd)
    (C_x_UnknownName : CalX P w K mg base "UnknownName" CU 1 ["self", "name"] (spX1 K CU "name" GStW)) :
    FnOk P w K mg base (L2.CX P w) 3 f fd ["known", "names"] (spAmW K CU) := by
  refine fnOk_mk F sc_check_among (fun vs H Q E h => h.1) (fun cdv A outer s H vs Q E hr h => ?_)
  obtain ⟨_, a, b, ks, zs, rfl, ha, hb, kx, k⟩ := h
  refine ⟨_, pss_one (ps_for (passes_of rfl) rfl (pi_any (K := K) rfl (pv 1)) (pg_name (i := 2) sc_check_among.nd rfl (Or.inl rfl)) (pss_one (ps_if (pt_cmpR (k_notInS (K := K) rfl) (pv 2) (pv 0) rfl) (pss_one (ps_raise rfl (takes_of rfl rfl rfl rfl) (z_mkX C_x_UnknownName hr (pa_cons (pv 2) pa_nil)))) (pss_nil)))), ?_⟩
  try dsimp only [cxOf]
  walk_at "rd"
  refine i_forA (fun i σ H1 => (∃ x, σ = [some (.ref a), some (.ref b), x]) ∧ Same H H1 ∧ ∀ z ∈ zs.take i, z ∈ ks) hb ⟨⟨_, rfl⟩, Same.refl _, fun z h => by simp at h⟩ (fun i σ H1 p => p.2.1) ?_ ?_
  · rintro i x σ H1 hx ⟨⟨u, rfl⟩, s1, hin⟩
    rw [List.getElem?_map] at hx
    obtain ⟨z, hz, rfl⟩ : ∃ z, zs[i]? = some z ∧ V.str z = x := by
      cases h : zs[i]? with
      | none => rw [h] at hx; cases hx
      | some z => rw [h] at hx; exact ⟨z, rfl, Option.some.inj hx⟩
    have tk : zs.take (i + 1) = zs.take i ++ [z] := by rw [List.take_add_one, hz]; rfl
    walk_at "rd"
    refine i_notInS (sameA s1 ha) ?_
    walk_at "rd"
    refine i_ndec (fun e => ?_) (fun e => ?_)
    · walk_at "rd"
      have hm : miss ks zs = some z := by
        unfold miss
        have ez : zs = zs.take i ++ z :: zs.drop (i + 1) := by
          have := (List.take_append_drop i zs).symm
          rw [List.drop_eq_getElem_cons (List.getElem?_eq_some_iff.mp hz).1, (List.getElem?_eq_some_iff.mp hz).2] at this
          exact this
        rw [ez, List.find?_append, List.find?_eq_none.mpr (fun x hx => by simp [hin x hx])]
        simp [e]
      obtain ⟨rb, kx⟩ := kx z hm
      exact i_mkX1 (fun H' s => ⟨z, rfl, rb⟩) fun d H' hd s e' => kx d H' (s1.trans s) e'
    · walk_at "rd"
      refine ⟨⟨_, rfl⟩, s1, fun w hw => ?_⟩
      rw [tk] at hw
      rcases List.mem_append.mp hw with hw | hw
      · exact hin w hw
      · rw [List.mem_singleton.mp hw]
        exact e
  · rintro σ H1 ⟨⟨u, rfl⟩, s1, hin⟩
    rw [List.length_map, List.take_length] at hin
    exact k (miss_none hin) H1 s1
abbrev s__closure : Stmt := top 27
theorem sc__closure : FnScope ["names", "pairs", "above", "name", "low", "high", "middle"] ["names", "pairs"] (defScope s__closure) := ⟨rfl, rfl, rfl, by decide +kernel, rfl, by decide +kernel, by decide +kernel⟩
theorem ok__closure {P : Program} {w : World} {K : PySem.W.Frag} {mg : Str → Option Value} {base : Heap} {f : Addr} {fd : FuncData} (F : L2.Fun K "_closure" "_closure" s__closure f fd)
    (C_b_sorted : mg "sorted" = none)
    (C_b_tuple : mg "tuple" = none) :
    FnOk P w K mg base (L2.CX P w) 1 f fd ["names", "pairs"] (spClosure K) := by
  refine fnOk_mk F sc__closure (fun vs H Q E h => h.1) (fun cdv A outer s H vs Q E hr h => ?_)
  obtain ⟨_, a, b, N, E', rfl, ha, ⟨ps, hb, hp⟩, hl, hN, hs, hE, k⟩ := h
  refine ⟨_, pss_cons (ps_set (i := 2) sc__closure.nd rfl (Or.inr rfl) (pe_dc (own := [("name", 3)]) (by rfl) sc__closure.nd (pi_any (K := K) rfl (pv 0)) (blkOk_by (N := ["names", "pairs", "above", "name", "low", "high", "middle"]) (sc := defScope s__closure) (by decide +kernel)) (fun _ _ _ _ _ => pg_name (i := 3) sc__closure.nd rfl (Or.inl rfl)) (fun _ _ _ _ _ => pts_nil) (fun _ _ _ _ _ => pv 3) (fun _ _ _ _ _ => pe_disp (pps_cons (pv 3) pe_bl pps_nil) (by rfl) (by rfl) (fun z => by cases z) (by decide))))
    (pss_cons (ps_for (passes_of rfl) rfl (pi_any (K := K) rfl (pv 1)) (k_tup (K := K) (n := 2) rfl rfl (pgs_cons (pg_name (i := 4) sc__closure.nd rfl (Or.inl rfl)) (pgs_cons (pg_name (i := 5) sc__closure.nd rfl (Or.inl rfl)) pgs_nil))) (pss_one (ps_dput (hu_of hr) (pe_dget (hu_of hr) (pv 2) (pv 4) (fun _ _ => rfl)) (pv 5) pe_bl (by rfl))))
    (pss_cons (ps_for (passes_of rfl) rfl (pi_any (K := K) rfl (pv 0)) (pg_name (i := 6) sc__closure.nd rfl (Or.inl rfl)) (pss_one (ps_for (passes_of rfl) rfl (pi_any (K := K) rfl (pv 0)) (pg_name (i := 3) sc__closure.nd rfl (Or.inl rfl)) (pss_one (ps_if (pt_cmp (pc_din (hu_of hr) (pv 6) (pe_dget (hu_of hr) (pv 2) (pv 3) (fun _ _ => rfl))) rfl) (pss_one (ps_dput (hu_of hr) (pv 2) (pv 3) (pe_merge2 (pe_dget (hu_of hr) (pv 2) (pv 3) (fun _ _ => rfl)) (pe_dget (hu_of hr) (pv 2) (pv 6) (fun _ _ => rfl))) (by rfl))) (pss_nil))))))
    (pss_one (ps_ret (pe_dc (own := [("name", 3)]) (by rfl) sc__closure.nd (pi_any (K := K) rfl (pv 0)) (blkOk_by (N := ["names", "pairs", "above", "name", "low", "high", "middle"]) (sc := defScope s__closure) (by decide +kernel)) (fun _ _ _ _ _ => pg_name (i := 3) sc__closure.nd rfl (Or.inl rfl)) (fun _ _ _ _ _ => pts_nil) (fun _ _ _ _ _ => pv 3) (fun _ _ _ _ _ => pe_callTy (k_tupA (K := K) rfl) (by rfl) C_b_tuple (by decide +kernel) (pa_cons (pe_callB (k_sortD rfl) (by rfl) C_b_sorted (by decide +kernel) (pa_cons (pe_dget (hu_of hr) (pv 2) (pv 3) (fun _ _ => rfl)) pa_nil)) pa_nil))))))), ?_⟩
  try dsimp only [cxOf]
  walk_at "rd"
  refine i_dcA (fun D i kvs H1 => ∃ A, CSt H D (N.take i) A (fun n => [n]) H1) ha (Same.refl _) ?_ (fun D i ys H1 ⟨A, c⟩ => c.same) ?_ ?_
  · intro D H' hD sm e ho
    exact ⟨fun _ => D, sm, hD, e, fun n hn => by simp at hn, fun n hn => by simp at hn, fun n hn => by simp at hn, fun n hn => by simp at hn, fun n hn => by simp at hn⟩
  · rintro i x D kvs H1 hD hx eD ⟨A, c⟩
    obtain ⟨n, hn, rfl⟩ := strs_at hx
    have lt := (List.getElem?_eq_some_iff.mp hn).1
    walk_at "rd"
    refine ⟨by with_unfolding_all rfl, ?_⟩
    walk_at "rd"
    refine i_disp1 (fun p H2 hp s2 e2 ho2 => ?_) (fun P P' f σ H ⟨v, e, q⟩ => ⟨v, e, f _ _ q⟩) (fun P P' f σ H q => f _ _ q)
    walk_at "rd"
    refine ⟨e2, n, rfl, fun H4 e4 ho4 => ?_⟩
    have ekv : kvs = rowsOf (N.take i) A := by
      have := c.tab.symm.trans eD
      injection this with this
      injection this with this
      exact this.symm
    subst ekv
    have pD : p ≠ D := fun z => by rw [z, eD] at hp; cases hp
    have eD4 : H4 D = some (.dK (rowsOf (N.take i) A)) := by rw [ho4 D (Ne.symm pD), ho2 D (Ne.symm pD)]; exact eD
    refine i_dcE eD4 ?_ fun H5 e5 ho5 => ?_
    · unfold rowsOf
      rw [List.length_map, List.length_take]
      omega
    · rw [take_snoc hn]
      refine ⟨setF A n p, c.snoc (p := p) (nodup_take hN hn) hp (by simp) (fun b hb => by rw [ho4 b hb, ho2 b hb]) e4 e5 ho5⟩
  · rintro D kvs H1 hD eD ⟨A, c⟩
    rw [List.length_map, List.take_length] at c
    walk_at "rd"
    -- the told pairs
    refine i_forA (fun i σ H2 => (∃ u v, σ = [some (.ref a), some (.ref b), some (.ref D), none, u, v, none]) ∧ ∃ A ks, CSt H D N A ks H2 ∧ ∀ n ∈ N, ∀ q, q ∈ ks n ↔ (n = q ∨ (n, q) ∈ E'.take i)) hb ⟨⟨_, _, rfl⟩, A, _, c, fun n hn q => by simp [eq_comm]⟩ (fun i σ H2 p => by obtain ⟨_, A, ks, c, _⟩ := p; exact c.same) ?_ ?_
    · rintro i x σ H2 hx ⟨⟨u, v, rfl⟩, A, ks, c, hk⟩
      have lt := (List.getElem?_eq_some_iff.mp hx).1
      rw [hp.1] at lt
      obtain ⟨q, rfl, eq⟩ := hp.2 i x E'[i] hx (by simp [lt])
      have hmem : E'[i] ∈ E' := List.getElem_mem lt
      obtain ⟨h1, h2⟩ := hE _ hmem
      have het : E'.take (i + 1) = E'.take i ++ [E'[i]] := take_snoc (by simp [lt])
      refine i_gtup (Same_seqT c.same eq) rfl ?_
      walk_at "rd"
      refine i_dget c.tab (rows_val h1) ?_
      walk_at "rd"
      refine i_dput (c.row _ h1) ?_ fun H3 e3 ho3 => ?_
      · rw [trues_len]
        have := nodup_len (N := N) (c.nd _ h1) fun r hr => by
          rcases (hk _ h1 r).mp hr with e | e
          · exact e ▸ h1
          · exact (hE _ (List.mem_of_mem_take e)).2
        omega
      refine ⟨⟨_, _, rfl⟩, A, _, c.put h1 e3 ho3, fun n hn r => ?_⟩
      rw [het, List.mem_append, List.mem_singleton]
      by_cases en : n = E'[i].1
      · subst en
        rw [setF_same, mem_put, hk _ h1 r]
        constructor
        · rintro ((q | q) | q)
          · exact .inl q
          · exact .inr (.inl q)
          · exact .inr (.inr (by rw [q]))
        · rintro (q | q | q)
          · exact .inl (.inl q)
          · exact .inl (.inr q)
          · exact .inr (congrArg Prod.snd q)
      · rw [setF_ne en, hk n hn r]
        constructor
        · rintro (q | q)
          · exact .inl q
          · exact .inr (.inl q)
        · rintro (q | q | q)
          · exact .inl q
          · exact .inr q
          · exact absurd (congrArg Prod.fst q) en
    · rintro σ H2 ⟨⟨u, v, rfl⟩, A, ks, c, hk⟩
      walk_at "rd"
      rw [hp.1, List.take_length] at hk
      -- Warshall's turns
      refine i_forA (fun i σ H3 => (∃ x u v y, σ = [some (.ref a), some (.ref b), some (.ref D), x, u, v, y]) ∧ ∃ A ks, CSt H D N A ks H3 ∧ ∀ n ∈ N, ∀ q, q ∈ ks n ↔ OM.wm E' (N.take i).reverse n q = true) ha
        ⟨⟨_, _, _, _, rfl⟩, A, ks, c, fun n hn q => by rw [hk n hn q, List.take_zero]; simp [OM.wm]⟩ (fun i σ H3 p => by obtain ⟨_, A, ks, c, _⟩ := p; exact c.same) ?_ ?_
      · rintro i x σ H3 hx ⟨⟨x0, u0, v0, y0, rfl⟩, A, ks, c, hk⟩
        obtain ⟨m, hm, rfl⟩ := strs_at hx
        have hmN : m ∈ N := List.mem_of_getElem? hm
        walk_at "rd"
        refine i_forA (fun j σ H4 => (∃ x u v, σ = [some (.ref a), some (.ref b), some (.ref D), x, u, v, some (.str m)]) ∧ ∃ A ks, CSt H D N A ks H4 ∧ ∀ n ∈ N, ∀ q, q ∈ ks n ↔ OM.wm E' (if n ∈ N.take j then m :: (N.take i).reverse else (N.take i).reverse) n q = true) ha
          ⟨⟨_, _, _, rfl⟩, A, ks, c, fun n hn q => by rw [hk n hn q, List.take_zero]; simp⟩ (fun i σ H4 p => by obtain ⟨_, A, ks, c, _⟩ := p; exact c.same) ?_ ?_
        · rintro j x σ H4 hx ⟨⟨x1, u1, v1, rfl⟩, A, ks, c, hk⟩
          obtain ⟨n, hn, rfl⟩ := strs_at hx
          have hnN : n ∈ N := List.mem_of_getElem? hn
          have hnt := nodup_take hN hn
          have hkn : ∀ q, q ∈ ks n ↔ OM.wm E' (N.take i).reverse n q = true := fun q => by
            have := hk n hnN q
            rw [if_neg hnt] at this
            exact this
          have hkm : ∀ q, q ∈ ks m ↔ OM.wm E' (N.take i).reverse m q = true := fun q => by
            have := hk m hmN q
            split at this
            · rw [wm_self] at this
              exact this
            · exact this
          have sub : ∀ w ∈ N, ∀ q ∈ ks w, q ∈ N := fun w hw q hq => by
            have := OM.wm_rch ((hk w hw q).mp hq)
            rcases this.mem hE with e | ⟨_, e⟩
            · exact e ▸ hw
            · exact e
          have len : ∀ w ∈ N, (trues (ks w)).length ≤ 1000 := fun w hw => by
            rw [trues_len]
            have := nodup_len (c.nd w hw) (sub w hw)
            omega
          walk_at "rd"
          refine i_dget c.tab (rows_val hnN) ?_
          walk_at "rd"
          refine i_din (c.row n hnN) trues_get ?_
          walk_at "rd"
          refine i_dec (fun e => ?_) (fun e => ?_)
          · walk_at "rd"
            refine i_mg0 fun p H5 hp5 s5 e5 ho5 => ?_
            have c5 : CSt H D N A ks H5 := c.keep fun b hb => ho5 b fun z => hb (z ▸ hp5)
            have pA : ∀ w ∈ N, p ≠ A w := fun w hw z => by rw [z, c.row w hw] at hp5; cases hp5
            have pD : p ≠ D := fun z => by rw [z, c.tab] at hp5; cases hp5
            walk_at "rd"
            refine i_dget c5.tab (rows_val hnN) ?_
            refine i_mg1 (pA n hnN) (c5.row n hnN) e5 (len n hnN) fun H6 e6 ho6 => ?_
            have e6' : H6 p = some (.dK (trues (mk [] (ks n)))) := by
              rw [e6, ← trues_merge]
              rfl
            have r6 : ∀ w ∈ N, H6 (A w) = some (.dK (trues (ks w))) := fun w hw => by
              rw [ho6 _ (Ne.symm (pA w hw))]
              exact c5.row w hw
            have t6 : H6 D = some (.dK (rowsOf N A)) := by
              rw [ho6 _ (Ne.symm pD)]
              exact c5.tab
            walk_at "rd"
            refine i_dget t6 (rows_val hmN) ?_
            refine i_mg2 (pA m hmN) (r6 m hmN) e6 (len m hmN) fun H7 e7 ho7 => ?_
            have e7' : H7 p = some (.dK (trues (mk (mk [] (ks n)) (ks m)))) := by
              rw [e7, ← trues_merge, ← trues_merge]
              rfl
            have t7 : H7 D = some (.dK (rowsOf N A)) := by
              rw [ho7 _ (Ne.symm pD)]
              exact t6
            walk_at "rd"
            refine i_dput t7 (by rw [rows_len]; omega) fun H8 e8 ho8 => ?_
            refine ⟨⟨_, _, _, rfl⟩, _, _, c.set hnN hp5 (mk_nodup _ (mk_nodup _ List.nodup_nil)) (fun b hb => by rw [ho7 b hb, ho6 b hb, ho5 b hb]) e7' e8 ho8, fun w hw q => ?_⟩
            rw [take_snoc hn]
            by_cases ew : w = n
            · subst ew
              rw [setF_same, mem_mk, mem_mk, hkn q, hkm q, if_pos (by simp)]
              have h1 := (hkn m).mp e
              simp [OM.wm, h1]
            · rw [setF_ne ew, hk w hw q]
              simp [ew]
          · walk_at "rd"
            refine ⟨⟨_, _, _, rfl⟩, A, ks, c, fun w hw q => ?_⟩
            rw [take_snoc hn]
            by_cases ew : w = n
            · subst ew
              rw [hkn q, if_pos (by simp)]
              have h1 : OM.wm E' (N.take i).reverse w m = false := by
                cases z : OM.wm E' (N.take i).reverse w m with
                | false => rfl
                | true => exact absurd ((hkn m).mpr z) e
              simp [OM.wm, h1]
            · rw [hk w hw q]
              simp [ew]
        · rintro σ H4 ⟨⟨x1, u1, v1, rfl⟩, A, ks, c, hk⟩
          rw [List.length_map, List.take_length] at hk
          walk_at "rd"
          refine ⟨⟨_, _, _, _, rfl⟩, A, ks, c, fun n hn q => ?_⟩
          have := hk n hn q
          rw [if_pos hn] at this
          rw [this, take_snoc hm, List.reverse_append]
          rfl
      · rintro σ H3 ⟨⟨x0, u0, v0, y0, rfl⟩, A, ks, c, hk⟩
        rw [List.length_map, List.take_length, OM.wm_cl (fun p hp => List.mem_reverse.mpr (hE p hp).2)] at hk
        have mem : ∀ n ∈ N, ∀ q, q ∈ ks n ↔ q ∈ N ∧ OM.cl E' n q = true := fun n hn q => by
          rw [hk n hn q]
          refine ⟨fun z => ⟨?_, z⟩, fun z => z.2⟩
          rcases (OM.cl_iff.mp z).mem hE with e | ⟨_, e⟩
          · exact e ▸ hn
          · exact e
        walk_at "rd"
        refine i_dcA (fun D2 i kvs H4 => Same H3 H4 ∧ ∃ A2, kvs = rowsOf (N.take i) A2 ∧ ∀ n ∈ N.take i, H4 (A2 n) = some (.tup ((OM.ab N (OM.cl E') n).map V.str))) ha c.same ?_ (fun D i ys H4 p => c.same.trans p.1) ?_ ?_
        · intro D2 H4 hD2 s4 e4 ho4
          exact ⟨s4, fun _ => D2, rfl, fun n hn => by simp at hn⟩
        · rintro i x D2 kvs H4 hD2 hx eD2 ⟨s4, A2, rfl, h2⟩
          obtain ⟨n, hn, rfl⟩ := strs_at hx
          have hnN : n ∈ N := List.mem_of_getElem? hn
          have lt := (List.getElem?_eq_some_iff.mp hn).1
          walk_at "rd"
          refine ⟨by with_unfolding_all rfl, ?_⟩
          walk_at "rd"
          refine i_dget (s4 _ _ c.tab) (rows_val hnN) ?_
          walk_at "rd"
          refine i_sortD (s4 _ _ (c.row n hnN)) trues_keys ?_ fun q H5 hq s5 ho5 e5 => ?_
          · have := nodup_len (c.nd n hnN) fun r hr => ((mem n hnN r).mp hr).1
            omega
          walk_at "rd"
          refine i_tupL (SqL.of e5) fun t H6 ht s6 e6 ho6 => ?_
          have eD6 : H6 D2 = some (.dK (rowsOf (N.take i) A2)) := s6 _ _ (s5 _ _ eD2)
          refine i_dcE eD6 (by rw [rows_len, List.length_take]; omega) fun H7 e7 ho7 => ⟨?_, setF A2 n t, ?_, fun w hw => ?_⟩
          · intro b o eb
            rw [ho7 b (ne_of_none eb hD2)]
            exact s6 _ _ (s5 _ _ (s4 _ _ eb))
          · rw [rows_snoc (nodup_take hN hn), take_snoc hn]
          · have tup : ∀ (c : Addr) (ys : List V), H6 c = some (.tup ys) → H7 c = some (.tup ys) := fun c ys hc => by
              rw [ho7 c (ne_of hc eD6 (fun z => nomatch z))]
              exact hc
            by_cases ew : w = n
            · subst ew
              rw [setF_same, tup _ _ e6]
              rw [srt_filter (p := OM.cl E' w) hN hs (c.nd w hnN) (mem w hnN)]
              rfl
            · rw [setF_ne ew]
              refine tup _ _ (s6 _ _ (s5 _ _ (h2 w ?_)))
              rw [take_snoc hn] at hw
              rcases List.mem_append.mp hw with h | h
              · exact h
              · exact absurd (List.mem_singleton.mp h) ew
        · rintro D2 kvs H4 hD2 eD2 ⟨s4, A2, rfl, h2⟩
          rw [List.length_map, List.take_length] at eD2 h2
          walk_at "rd"
          refine k D2 H4 ?_ (c.same.trans s4) ⟨A2, eD2, h2⟩
          cases z : H D2 with
          | none => rfl
          | some o => rw [c.same _ _ z] at hD2; cases hD2
section
variable {K : PySem.W.Frag} {CO a t d : Addr} {H : Hp} {N : List Str} {R : Str → Str → Bool}
theorem rf_names {t d : Addr} : List.lookup ("names" : Str) ([("names", V.ref t), ("_above", V.ref d)] : List (Str × V)) = some (V.ref t) := by simp [List.lookup]
theorem rf_above {t d : Addr} : List.lookup ("_above" : Str) ([("names", V.ref t), ("_above", V.ref d)] : List (Str × V)) = some (V.ref d) := by
  have : (("_above" : Str) == ("names" : Str)) = false := by decide +kernel
  simp [List.lookup, this]
theorem ro_no {m : Str} {t d : Addr} (h1 : (m == ("names" : Str)) = false) (h2 : (m == ("_above" : Str)) = false) : List.lookup m ([("names", V.ref t), ("_above", V.ref d)] : List (Str × V)) = none := by simp [List.lookup, h1, h2]
end
theorem ab_len {N : List Str} {R : Str → Str → Bool} {n : Str} : (OM.ab N R n).length ≤ N.length := List.length_filter_le _ _
def PF (N : List Str) (R : Str → Str → Bool) (L : List Str) : List (Str × Str) := L.flatMap fun a => ((OM.ab N R a).filter fun b => !decide (a = b)).map fun b => (a, b)
theorem PF_len {N : List Str} {R : Str → Str → Bool} : ∀ L : List Str, (PF N R L).length ≤ L.length * N.length
  | [] => Nat.zero_le _
  | a :: L => by
    have ih := PF_len (N := N) (R := R) L
    unfold PF at ih ⊢
    rw [List.flatMap_cons, List.length_append, List.length_map, List.length_cons, Nat.succ_mul]
    have h1 : ((OM.ab N R a).filter fun b => !decide (a = b)).length ≤ N.length := Nat.le_trans (List.length_filter_le _ _) (List.length_filter_le _ _)
    omega
abbrev s_Order_pairs : Stmt := inClass (top 29) 5
theorem sc_Order_pairs : FnScope ["self", "low", "high"] ["self"] (defScope s_Order_pairs) := ⟨rfl, rfl, rfl, by decide +kernel, rfl, by decide +kernel, by decide +kernel⟩
theorem ok_Order_pairs {P : Program} {w : World} {K : PySem.W.Frag} {mg : Str → Option Value} {base : Heap} {CO : Addr} {f : Addr} {fd : FuncData} (F : L2.Fun K "pairs" "Order.pairs" s_Order_pairs f fd)
    (C_c_Order : ClO K CO)
    (C_na_Order__above : NoAttr K CO "_above")
    (C_na_Order_names : NoAttr K CO "names") :
    FnOk P w K mg base (L2.CX P w) 1 f fd ["self"] (spPairs CO) := by
  refine fnOk_mk F sc_Order_pairs (fun vs H Q E h => h.1) (fun cdv A outer s H vs Q E hr h => ?_)
  obtain ⟨_, a, N, R, rfl, ho, k⟩ := h
  obtain ⟨dx, t, d, e1, e2, ⟨A', e3, e4⟩, hl, hN, hnl⟩ := ho
  refine ⟨_, pss_one (ps_ret (pe_lc2 (own := [("low", 1), ("high", 2)]) (vs1 := [2]) (by rfl) sc_Order_pairs.nd (pi_any (K := K) rfl (pe_fld (pv 0) rfl)) (blkOk_by (N := ["self", "low", "high"]) (sc := defScope s_Order_pairs) (by decide +kernel)) (by decide) (fun _ _ _ _ _ => pg_name (i := 1) sc_Order_pairs.nd rfl (Or.inl rfl)) (fun _ _ _ _ _ => pts_nil) (fun _ _ _ _ _ => pi_any (K := K) rfl (pe_dget (hu_of hr) (k_fld (K := K) rfl (pv 0) rfl) (pv 1) (fun _ _ => rfl))) (fun _ _ _ _ _ => pg_name (i := 2) sc_Order_pairs.nd rfl (Or.inl rfl)) (fun _ _ _ _ _ => pts_one (pt_cmpR op_ne (pv 1) (pv 2) (nomark _))) (fun _ _ _ _ _ => pe_tup (pa_cons (pv 1) (pa_cons (pv 2) pa_nil))))), ?_⟩
  try dsimp only [cxOf]
  walk_at "rd"
  refine i_fld1 e1 C_c_Order.toCls C_na_Order_names rf_names ?_
  refine i_lc2A (H0 := H) (fun i ys H1 => Same H H1 ∧ ∃ qs, ys = qs.map V.ref ∧ TPr H1 qs (PF N R (N.take i))) (SqA.t e2) (Same.refl _) ?_ ?_ ?_ ?_
  · intro D H' hD sm e ho
    exact ⟨sm, [], rfl, .nil⟩
  · exact fun i ys H1 p => p.1
  · rintro i x D ys H1 hD hx eD ⟨s1, qs, rfl, hq⟩
    obtain ⟨n, hn, rfl⟩ := strs_at hx
    have hnN : n ∈ N := List.mem_of_getElem? hn
    walk_at "rd"
    refine ⟨by with_unfolding_all rfl, ?_⟩
    walk_at "rd"
    refine i_fld1 (s1 _ _ e1) C_c_Order.toCls C_na_Order__above rf_above ?_
    walk_at "rd"
    refine i_dget (s1 _ _ e3) (rows_val hnN) ?_
    refine i_lcIn (H0 := H) (Pw := fun j ys H2 => Same H H2 ∧ ∃ qs, ys = qs.map V.ref ∧ TPr H2 qs (PF N R (N.take i) ++ (((OM.ab N R n).take j).filter fun b => !decide (n = b)).map fun b => (n, b))) (SqA.t (e4 n hnN)) eD ?_ ?_ ?_ ?_
    · exact ⟨s1, qs, rfl, by simpa using hq⟩
    · exact fun j ys H2 p => p.1
    · rintro j x ys H2 hx eD2 ⟨s2, qs2, rfl, hq2⟩
      obtain ⟨m, hm, rfl⟩ := strs_at hx
      walk_at "rd"
      refine ⟨by with_unfolding_all rfl, ?_⟩
      walk_at "rd"
      refine i_ndec (fun e => ?_) (fun e => ?_)
      · walk_at "rd"
        refine i_tup1 (by show 2 ≤ 100000; decide) fun q H3 hq3 s3 e3' ho3 => ?_
        refine i_lcE (s3 _ _ eD2) ?_ fun H4 e4' ho4 => ⟨?_, qs2 ++ [q], by rw [List.map_append]; rfl, ?_⟩
        · have h1 := hq2.1
          rw [List.length_append, List.length_map] at h1
          have h2 := PF_len (N := N) (R := R) (N.take i)
          have h3 : ((List.take j (OM.ab N R n)).filter fun b => !decide (n = b)).length ≤ N.length := Nat.le_trans (List.length_filter_le _ _) (Nat.le_trans (by rw [List.length_take]; omega) (ab_len (N := N) (R := R) (n := n)))
          have h4 : (N.take i).length * N.length ≤ 8 * 8 := Nat.mul_le_mul (by rw [List.length_take]; omega) hl
          rw [List.length_map]
          omega
        · intro b o eb
          rw [ho4 b (ne_of_none eb hD)]
          exact s3 _ _ (s2 _ _ eb)
        · have := ((hq2.mono s3).snoc e3').keep (lst_keep (s3 _ _ eD2) ho4)
          rw [take_snoc hm, List.filter_append, List.map_append, ← List.append_assoc]
          simpa [e] using this
      · walk_at "rd"
        refine ⟨_, eD2, s2, qs2, rfl, ?_⟩
        rw [take_snoc hm, List.filter_append, List.map_append, ← List.append_assoc]
        simpa [e] using hq2
    · rintro ys H2 eD2 ⟨s2, qs2, rfl, hq2⟩
      refine ⟨s2, qs2, rfl, ?_⟩
      rw [List.length_map, List.take_length] at hq2
      rw [take_snoc hn]
      unfold PF at hq2 ⊢
      rw [List.flatMap_append]
      simpa using hq2
  · rintro D ys H1 hD eD ⟨s1, qs, rfl, hq⟩
    rw [List.length_map, List.take_length] at hq
    exact k D H1 hD s1 ⟨qs, eD, hq⟩
theorem prs_len {N : List Str} {R : Str → Str → Bool} : (OM.prs N R).length ≤ N.length * N.length := PF_len (N := N) (R := R) N
abbrev s_Order___len__ : Stmt := inClass (top 29) 13
theorem sc_Order___len__ : FnScope ["self"] ["self"] (defScope s_Order___len__) := ⟨rfl, rfl, rfl, by decide +kernel, rfl, by decide +kernel, by decide +kernel⟩
theorem ok_Order___len__ {P : Program} {w : World} {K : PySem.W.Frag} {mg : Str → Option Value} {base : Heap} {CO : Addr} {f : Addr} {fd : FuncData} (F : L2.Fun K "__len__" "Order.__len__" s_Order___len__ f fd)
    (C_b_len : mg "len" = none)
    (C_c_Order : ClO K CO)
    (C_na_Order__above : NoAttr K CO "_above")
    (C_na_Order_names : NoAttr K CO "names") :
    FnOk P w K mg base (L2.CX P w) 1 f fd ["self"] (spOLen CO) := by
  refine fnOk_mk F sc_Order___len__ (fun vs H Q E h => h.1) (fun cdv A outer s H vs Q E hr h => ?_)
  obtain ⟨_, a, N, R, rfl, ho, k⟩ := h
  obtain ⟨dx, t, d, e1, e2, ⟨A', e3, e4⟩, hl, hN, hnl⟩ := ho
  refine ⟨_, pss_one (ps_ret (pe_callB (k_len (K := K) rfl) (by rfl) C_b_len (by decide +kernel) (pa_cons (pe_fld (pv 0) rfl) pa_nil))), ?_⟩
  try dsimp only [cxOf]
  walk_at "rd"
  refine i_fld1 e1 C_c_Order.toCls C_na_Order_names rf_names ?_
  walk_at "rd"
  refine i_lenA (SqA.t e2) ?_
  rw [List.length_map]
  exact k H (Same.refl _)
theorem eqv_tupS (zs ws : List Str) : PyData.eqv (.tuple (zs.map PyData.str)) (.tuple (ws.map PyData.str)) = decide (zs = ws) := by
  show PyData.eqvAll _ _ = _
  exact eqv_strs zs ws
theorem shaped_tupS {zs : List Str} (h : ∀ z ∈ zs, nameB z = true) : SeqAt.shaped (.tuple (zs.map PyData.str)) = true := by
  unfold SeqAt.shaped
  have d : ∀ zs : List Str, PyData.depthAll (zs.map PyData.str) ≤ 1 := by
    intro zs
    induction zs with
    | nil => decide
    | cons n ns ih => simp [PyData.depthAll, PyData.depth] at *; omega
  have l : ∀ zs : List Str, (∀ z ∈ zs, nameB z = true) → PyData.canLayAll0 (zs.map PyData.str) = true := by
    intro zs
    induction zs with
    | nil => intro _; rfl
    | cons n ns ih =>
      intro hs
      have ih2 := ih fun z hz => hs z (List.mem_cons_of_mem _ hz)
      have h1 : PyData.strOk n = true := nameB_ok (hs n List.mem_cons_self)
      simp [PyData.canLayAll0, PyData.canLay0] at *
      exact ⟨h1, ih2⟩
  have := d zs
  have := l zs h
  simp [PyData.depth, PyData.canLay0] at *
  exact ⟨by assumption, by omega⟩
/-- the other objects stand -/
def But (a : Addr) (H H' : Hp) : Prop := ∀ x o, x ≠ a → H x = some o → H' x = some o
def IsIns (H : Hp) (a : Addr) : Prop := ∃ C dx fs, H a = some (.ins C dx fs)
theorem seqA_ne {K : PySem.W.Frag} {H H' : Hp} {a b : Addr} {xs : List V} (i : IsIns H a) (t : But a H H') (h : SqA K H b xs) : SqA K H' b xs := by
  obtain ⟨C, dx, fs, e⟩ := i
  rcases h with ((h | ⟨o, h⟩) | h) | ((h | ⟨o, h⟩) | h)
  · exact .inl (.inl (.inl (t _ _ (fun z => by rw [z, e] at h; cases h) h)))
  · exact .inl (.inl (.inr ⟨o, t _ _ (fun z => by rw [z, e] at h; cases h) h⟩))
  · exact .inl (.inr h)
  · exact .inr (.inl (.inl (t _ _ (fun z => by rw [z, e] at h; cases h) h)))
  · exact .inr (.inl (.inr ⟨o, t _ _ (fun z => by rw [z, e] at h; cases h) h⟩))
  · exact .inr (.inr h)
theorem seqT_ne {K : PySem.W.Frag} {H H' : Hp} {a b : Addr} {xs : List V} (i : IsIns H a) (t : But a H H') (h : SqT K H b xs) : SqT K H' b xs := by
  obtain ⟨C, dx, fs, e⟩ := i
  rcases h with (h | ⟨o, h⟩) | h
  · exact .inl (.inl (t _ _ (fun z => by rw [z, e] at h; cases h) h))
  · exact .inl (.inr ⟨o, t _ _ (fun z => by rw [z, e] at h; cases h) h⟩)
  · exact .inr h
def dPr (E : List (Str × Str)) : List PyData := E.map fun e => .tuple [.str e.1, .str e.2]
theorem TPr.dp {K : PySem.W.Frag} {H : Hp} : ∀ {qs : List Addr} {E : List (Str × Str)}, TPr H qs E → DpAll K H (qs.map V.ref) (dPr E)
  | [], [], _ => .nil
  | [], _ :: _, h => by have := h.1; simp at this
  | _ :: _, [], h => by have := h.1; simp at this
  | q :: qs, e :: E, h => .cons (.tup (.of (h.2 0 q e rfl rfl)) (.cons (.str _) (.cons (.str _) .nil))) (TPr.dp (E := E) ⟨by have := h.1; simpa using this, fun i q' e' a b => h.2 (i + 1) q' e' (by simpa using a) (by simpa using b)⟩)
theorem shaped_pr {E : List (Str × Str)} (h : ∀ e ∈ E, nameB e.1 = true ∧ nameB e.2 = true) : SeqAt.shaped (.list (dPr E)) = true := by
  unfold SeqAt.shaped
  have d : ∀ E : List (Str × Str), PyData.depthAll (dPr E) ≤ 2 := by
    intro E
    induction E with
    | nil => decide
    | cons n ns ih => unfold dPr at *; simp [PyData.depthAll, PyData.depth] at *; omega
  have l : ∀ E : List (Str × Str), (∀ e ∈ E, nameB e.1 = true ∧ nameB e.2 = true) → PyData.canLayAll0 (dPr E) = true := by
    intro E
    induction E with
    | nil => intro _; rfl
    | cons n ns ih =>
      intro hs
      have ih2 := ih fun z hz => hs z (List.mem_cons_of_mem _ hz)
      have h1 : PyData.strOk n.1 = true := nameB_ok (hs n List.mem_cons_self).1
      have h2 : PyData.strOk n.2 = true := nameB_ok (hs n List.mem_cons_self).2
      unfold dPr at *
      simp [PyData.canLayAll0, PyData.canLay0] at *
      exact ⟨⟨h1, h2⟩, ih2⟩
  have := d E
  have := l E h
  simp [PyData.depth, PyData.canLay0] at *
  exact ⟨by assumption, by omega⟩
theorem eqv_pr (a b c d : Str) : PyData.eqv (.tuple [.str a, .str b]) (.tuple [.str c, .str d]) = decide ((a, b) = (c, d)) := by
  have := eqv_tupS [a, b] [c, d]
  simpa using this
theorem any_pr {E : List (Str × Str)} {x y : Str} : ((dPr E).any fun z => PyData.eqv z (.tuple [.str x, .str y])) = decide ((x, y) ∈ E) := by
  unfold dPr
  rw [List.any_map, Bool.eq_iff_iff, List.any_eq_true, decide_eq_true_eq]
  constructor
  · rintro ⟨e, he, h⟩
    rw [Function.comp_apply, eqv_pr, decide_eq_true_eq] at h
    exact h ▸ he
  · intro h
    exact ⟨(x, y), h, by rw [Function.comp_apply, eqv_pr, decide_eq_true_eq]⟩
theorem i_inPr {K : PySem.W.Frag} {H : Hp} {Q : VK} {p q : Addr} {qs : List Addr} {E : List (Str × Str)} {x y : Str} (hq : H q = some (.tup [.str x, .str y])) (hp : H p = some (.lst (qs.map V.ref))) (ht : TPr H qs E) (hE : ∀ e ∈ E, nameB e.1 = true ∧ nameB e.2 = true) (hx : nameB x = true) (hy : nameB y = true)
    (h : Q (.bl (decide ((x, y) ∈ E))) H) : rInD K (.ref q) (.ref p) H Q := by
  refine ⟨.tuple [.str x, .str y], dPr E, .tup (.of hq) (.cons (.str _) (.cons (.str _) .nil)), .lst (.of hp) ht.dp, ?_, shaped_pr hE, ?_⟩
  · refine shaped_tupS (zs := [x, y]) ?_
    intro z hz
    rcases List.mem_cons.mp hz with rfl | hz
    · exact hx
    · rw [List.mem_singleton.mp hz]
      exact hy
  · rw [any_pr]
    exact h
theorem op1 (t : V) : putF ("names" : Str) t [] = [(("names" : Str), t)] := rfl
theorem op2 (t d : V) : putF ("_above" : Str) d [(("names" : Str), t)] = [(("names" : Str), t), (("_above" : Str), d)] := by
  show (if ("names" : Str) = "_above" then _ else (("names" : Str), t) :: putF "_above" d []) = _
  rw [if_neg (by decide +kernel)]
  rfl
theorem rf_names1 {t : Addr} : List.lookup ("names" : Str) ([("names", V.ref t)] : List (Str × V)) = some (V.ref t) := by simp [List.lookup]
theorem notAny {bs : List Bool} (h : ∀ b ∈ bs, b = false) : bs.any id = false := by
  rw [List.any_eq_false]
  intro b hb
  rw [h b hb]
  decide
theorem prs_names {N : List Str} {R : Str → Str → Bool} (hN : ∀ n ∈ N, nameB n = true) : ∀ e ∈ OM.prs N R, nameB e.1 = true ∧ nameB e.2 = true := by
  rintro ⟨x, y⟩ he
  obtain ⟨hx, hy, _, _⟩ := OM.mem_prs.mp he
  exact ⟨hN x hx, hN y hy⟩

/-- the first strange name of pairs -/
def missE (ks : List Str) (E : List (Str × Str)) : Option Str := (E.flatMap fun e => [e.1, e.2]).find? fun z => !decide (z ∈ ks)
/-- the names that would be below each other -/
def fR (N : List Str) (R : Str → Str → Bool) (n : Str) : Bool := (OM.ab N R n).any fun m => decide ((m, n) ∈ OM.prs N R)
def rings (N : List Str) (R : Str → Str → Bool) : List Str := N.filter (fR N R)
def spOInitG (K : PySem.W.Frag) (CO CB CN CD CU CG : Addr) : Sp := fun vs H Q E' => vs.length = 3 ∧ ∃ (a b c : Addr) (zs : List Str) (E : List (Str × Str)), vs = [.ref a, .ref b, .ref c] ∧ (∃ dx, H a = some (.ins CO dx [])) ∧ SqA K H b (zs.map V.str) ∧ PrA K H c E ∧
  zs.length ≤ 30000 ∧ (∀ z ∈ zs, z.length ≤ 100000) ∧ E.length ≤ 30000 ∧
  (¬ (1 ≤ zs.length ∧ zs.length ≤ 8) → ∀ d H', But a H H' → H' d = some (.xd [("n", .int (zs.length : Nat))]) → E' (.ref CB) (some d) H') ∧
  ((1 ≤ zs.length ∧ zs.length ≤ 8) → (∀ b z, nmF [] zs = some (b, z) → RW z ∧ ∀ d H', But a H H' → H' d = some (.xd [("name", .str z)]) → E' (.ref (if b then CD else CN)) (some d) H') ∧
    (nmF [] zs = none → (∀ z, missE zs E = some z → RW z ∧ ∀ d H', But a H H' → H' d = some (.xd [("name", .str z)]) → E' (.ref CU) (some d) H') ∧
      (missE zs E = none → (rings (srt zs) (OM.cl E) ≠ [] → ∀ d q H', But a H H' → H' d = some (.xd [("names", .ref q)]) → H' q = some (.lst ((rings (srt zs) (OM.cl E)).map V.str)) → E' (.ref CG) (some d) H') ∧
        (rings (srt zs) (OM.cl E) = [] → ∀ H', IsO CO H' a (srt zs) (OM.cl E) → But a H H' → Q .non H'))))
theorem missE_none {ks : List Str} {E : List (Str × Str)} (h : missE ks E = none) : ∀ e ∈ E, e.1 ∈ ks ∧ e.2 ∈ ks := by
  intro e he
  have h2 := List.find?_eq_none.mp h
  have m1 : e.1 ∈ E.flatMap fun e => [e.1, e.2] := List.mem_flatMap.mpr ⟨e, he, by simp⟩
  have m2 : e.2 ∈ E.flatMap fun e => [e.1, e.2] := List.mem_flatMap.mpr ⟨e, he, by simp⟩
  exact ⟨by simpa using h2 _ m1, by simpa using h2 _ m2⟩
theorem missE_at {ks : List Str} {E : List (Str × Str)} {i : Nat} {e : Str × Str} (hi : E[i]? = some e) (h : ∀ p ∈ E.take i, p.1 ∈ ks ∧ p.2 ∈ ks) {z : Str} (hz : miss ks [e.1, e.2] = some z) : missE ks E = some z := by
  have lt := (List.getElem?_eq_some_iff.mp hi).1
  have ee : E = E.take i ++ e :: E.drop (i + 1) := by
    have := (List.take_append_drop i E).symm
    rw [List.drop_eq_getElem_cons lt, (List.getElem?_eq_some_iff.mp hi).2] at this
    exact this
  unfold missE
  rw [ee, List.flatMap_append, List.flatMap_cons, List.find?_append, List.find?_append]
  have n1 : ((E.take i).flatMap fun e => [e.1, e.2]).find? (fun z => !decide (z ∈ ks)) = none := by
    rw [List.find?_eq_none]
    intro x hx
    obtain ⟨p, hp, hx⟩ := List.mem_flatMap.mp hx
    obtain ⟨h1, h2⟩ := h p hp
    simp at hx
    rcases hx with rfl | rfl
    · simp [h1]
    · simp [h2]
  rw [n1]
  unfold miss at hz
  rw [hz]
  rfl
abbrev s_Order___init__ : Stmt := inClass (top 29) 0
theorem sc_Order___init__ : FnScope ["self", "names", "pairs", "pair", "joined", "ringed", "low", "high"] ["self", "names", "pairs"] (defScope s_Order___init__) := ⟨rfl, rfl, rfl, by decide +kernel, rfl, by decide +kernel, by decide +kernel⟩
theorem ok_Order___init__ {P : Program} {w : World} {K : PySem.W.Frag} {mg : Str → Option Value} {base : Heap} {CB CD CG CN CO CU : Addr} {tk_MOST_NAMES : Tok} {f : Addr} {fd : FuncData} (F : L2.Fun K "__init__" "Order.__init__" s_Order___init__ f fd)
    (C_b_any : mg "any" = none)
    (C_b_len : mg "len" = none)
    (C_b_sorted : mg "sorted" = none)
    (C_b_tuple : mg "tuple" = none)
    (C_c_Order : ClO K CO)
    (C_f_check_among : Cal P w K mg base "check_among" 3 (spAmW K CU))
    (C_f_check_names : Cal P w K mg base "check_names" 3 (spCheckG K CN CD))
    (C_f_closure : Cal P w K mg base "_closure" 1 (spClosure K))
    (C_m_Order_pairs : CalM P w K mg base CO "pairs" 1 (spPairs CO))
    (C_n_MOST_NAMES : mg "MOST_NAMES" = some (.int 8 tk_MOST_NAMES))
    (C_na_Order__above : NoAttr K CO "_above")
    (C_na_Order_names : NoAttr K CO "names")
    (C_x_BadNumber : CalX P w K mg base "BadNumber" CB 2 ["self", "n"] (spX1 K CB "n" GInt))
    (C_x_Ring : CalX P w K mg base "Ring" CG 1 ["self", "names"] (spXR K CG)) :
    FnOk P w K mg base (L2.CX P w) 4 f fd ["self", "names", "pairs"] (spOInitG K CO CB CN CD CU CG) := by
  refine fnOk_mk F sc_Order___init__ (fun vs H Q E h => h.1) (fun cdv A outer s H vs Q E hr h => ?_)
  obtain ⟨_, a, b, c, zs, E', rfl, ⟨dx, ha⟩, hb, ⟨ps, hc, hp⟩, h60, hlen, hlE, kB, kN⟩ := h
  refine ⟨_, pss_cons (ps_if (pt_not (pt_chain op_le op_le pe_int (pe_callB (k_len (K := K) rfl) (by rfl) C_b_len (by decide +kernel) (pa_cons (pv 1) pa_nil)) ((pe_glob (v := .int 8) rfl C_n_MOST_NAMES ⟨_, rfl⟩)))) (pss_one (ps_raise rfl (takes_of rfl rfl rfl rfl) (z_mkX C_x_BadNumber hr (pa_cons (pe_callB (k_len (K := K) rfl) (by rfl) C_b_len (by decide +kernel) (pa_cons (pv 1) pa_nil)) pa_nil)))) (pss_nil))
    (pss_cons (ps_expr (z_callC C_f_check_names hr (fun σ => passAt (takes_of rfl rfl rfl rfl) σ) (pa_cons (pv 1) pa_nil)))
    (pss_cons (ps_for (passes_of rfl) rfl (pi_any (K := K) rfl (pv 2)) (pg_name (i := 3) sc_Order___init__.nd rfl (Or.inl rfl)) (pss_one (ps_expr (z_callC C_f_check_among hr (fun σ => passAt (takes_of rfl rfl rfl rfl) σ) (pa_cons (pv 1) (pa_cons (pv 3) pa_nil))))))
    (pss_cons (ps_fld (pv 0) (pe_callTy (k_tupA (K := K) rfl) (by rfl) C_b_tuple (by decide +kernel) (pa_cons (pe_callB (k_sort (K := K) rfl) (by rfl) C_b_sorted (by decide +kernel) (pa_cons (pv 1) pa_nil)) pa_nil)) rfl)
    (pss_cons (ps_fld (pv 0) (z_callC C_f_closure hr passN (pa_cons (pe_fld (pv 0) rfl) (pa_cons (pv 2) pa_nil))) rfl)
    (pss_cons (ps_set (i := 4) sc_Order___init__.nd rfl (Or.inr rfl) (z_meth0C (pv 0) C_c_Order.toCls C_m_Order_pairs hr passN))
    (pss_cons (ps_setLc (i := 5) (own := [("low", 6)]) (by rfl) sc_Order___init__.nd rfl rfl (sw_true rfl rfl rfl (by decide +kernel)) (pi_any (K := K) rfl (pe_fld (pv 0) rfl)) (blkOk_by (N := ["self", "names", "pairs", "pair", "joined", "ringed", "low", "high"]) (sc := defScope s_Order___init__) (by decide +kernel)) (fun _ _ _ _ _ => pg_name (i := 6) sc_Order___init__.nd rfl (Or.inr rfl)) (fun _ _ _ _ _ => pts_one (pt_val (pe_callB (k_any rfl (K := K) rfl) (by rfl) C_b_any (by decide +kernel) (pa_cons (pe_lc (own := [("high", 7)]) (by rfl) sc_Order___init__.nd (pi_any (K := K) rfl (pe_dget (hu_of hr) (k_fld (K := K) rfl (pv 0) rfl) (pv 6) (fun _ _ => rfl))) (blkOk_by (N := ["self", "names", "pairs", "pair", "joined", "ringed", "low", "high"]) (by rfl)) (fun _ _ _ _ _ => pg_name (i := 7) sc_Order___init__.nd rfl (Or.inl rfl)) (fun _ _ _ _ _ => pts_nil) (fun _ _ _ _ _ => pe_cmpR (k_inD (K := K) rfl (u65 hr)) (pe_tup (pa_cons (pv 7) (pa_cons (pv 6) pa_nil))) (pv 4) rfl)) pa_nil)))) (fun _ _ _ _ _ => pv 6))
    (pss_one (ps_if (k_truth (K := K) rfl (pv 5) (by intro _; rfl)) (pss_one (ps_raise rfl (takes_of rfl rfl rfl rfl) (z_mkX C_x_Ring hr (pa_cons (pv 5) pa_nil)))) (pss_nil))))))))), ?_⟩
  try dsimp only [cxOf]
  walk_at "rd"
  refine i_lenA hb ?_
  rw [List.length_map]
  walk_at "rd"
  have badN : ¬ (1 ≤ zs.length ∧ zs.length ≤ 8) → rMkO CB (spX1 K CB "n" GInt) [V.int (zs.length : Nat)] H fun cls d H' => E cls d H' := fun hb =>
    i_mkX1 (fun H' s => ⟨_, rfl, ZR.Sz.mono (n := 15) (Nat.lt_of_le_of_lt (show ((zs.length : Nat) : Int).natAbs ≤ 30000 by omega) (by decide +kernel)) (by decide)⟩) fun d H' hd s e' => kB hb d H' (fun x o _ e => s _ _ e) e'
  refine i_dec (fun g1 => ?_) (fun g1 => ?_)
  rotate_left
  · walk_at "rd"
    refine i_lenA hb ?_
    rw [List.length_map]
    walk_at "rd"
    exact badN (by omega)
  walk_at "rd"
  refine i_ndec (fun g2 => ?_) (fun g2 => ?_)
  · walk_at "rd"
    refine i_lenA hb ?_
    rw [List.length_map]
    walk_at "rd"
    exact badN (by omega)
  walk_at "rd"
  obtain ⟨kF, kN⟩ := kN ⟨by omega, by omega⟩
  refine ⟨rfl, b, zs, rfl, hb, h60, hlen, fun x z hz => ⟨(kF x z hz).1, fun d H' s e => (kF x z hz).2 d H' (fun y o _ e => s _ _ e) e⟩, fun hF H1 s1 => ?_⟩
  obtain ⟨hn, hd⟩ := nmF_none zs [] hF List.nodup_nil
  rw [List.nil_append] at hd
  obtain ⟨kU, kN⟩ := kN hF
  walk_at "rd"
  refine i_forA (H0 := H) (fun i σ H2 => (∃ v, σ = [some (.ref a), some (.ref b), some (.ref c), v, none, none, none, none]) ∧ Same H H2 ∧ ∀ p ∈ E'.take i, p.1 ∈ zs ∧ p.2 ∈ zs) hc ⟨⟨_, rfl⟩, s1, fun p hp => absurd hp (by simp)⟩ (fun i σ H2 p => p.2.1) ?_ ?_
  · rintro i x σ H2 hx ⟨⟨v, rfl⟩, s2, hin⟩
    have lt := (List.getElem?_eq_some_iff.mp hx).1
    rw [hp.1] at lt
    have hei : E'[i]? = some E'[i] := by simp [lt]
    obtain ⟨q, rfl, eq⟩ := hp.2 i x E'[i] hx hei
    walk_at "rd"
    refine ⟨rfl, b, q, zs, [E'[i].1, E'[i].2], rfl, sameA s2 hb, .inr (Same_seqT s2 eq), fun z hz => ?_, fun hz H3 s3 => ?_⟩
    · obtain ⟨rb, kU⟩ := kU z (missE_at hei hin hz)
      exact ⟨rb, fun d' H' s e => kU d' H' (fun y o _ e => s _ _ (s2 _ _ e)) e⟩
    walk_at "rd"
    refine ⟨⟨_, rfl⟩, s2.trans s3, fun p hpm => ?_⟩
    rw [take_snoc hei] at hpm
    rcases List.mem_append.mp hpm with h | h
    · exact hin p h
    · rw [List.mem_singleton.mp h]
      have h0 := List.find?_eq_none.mp hz
      exact ⟨by simpa using h0 E'[i].1 (by simp), by simpa using h0 E'[i].2 (by simp)⟩
  · rintro σ H2 ⟨⟨v, rfl⟩, s2, hin⟩
    rw [hp.1, List.take_length] at hin
    have hE := hin
    have hME : missE zs E' = none := by
      unfold missE
      rw [List.find?_eq_none]
      intro x hx
      obtain ⟨p, hp, hx⟩ := List.mem_flatMap.mp hx
      obtain ⟨h1, h2⟩ := hin p hp
      simp at hx
      rcases hx with rfl | rfl
      · simp [h1]
      · simp [h2]
    obtain ⟨kR, k⟩ := kN hME
    walk_at "rd"
    refine i_sort (sameA s2 hb) (by omega) fun q H3 hq s3 ho3 e3 => ?_
    walk_at "rd"
    refine i_tupL (SqL.of e3) fun t H4 ht s4 e4 ho4 => ?_
    walk_at "rd"
    have ins : IsIns H a := ⟨_, _, _, ha⟩
    have na4 : ∀ o, H a = some o → H4 a = some o := fun o e => s4 _ _ (s3 _ _ (s2 _ _ e))
    have ta : t ≠ a := fun z => by
      have := s3 _ _ (s2 _ _ ha)
      rw [← z, ht] at this
      cases this
    refine i_put1 (na4 _ ha) C_c_Order.toCls C_na_Order_names (by show 0 < 100; decide) (op1 _) fun H5 e5 o5 => ?_
    have b5 : But a H H5 := fun x o hx e => by rw [o5 x hx]; exact s4 _ _ (s3 _ _ (s2 _ _ e))
    walk_at "rd"
    refine i_fld1 e5 C_c_Order.toCls C_na_Order_names rf_names1 ?_
    walk_at "rd"
    have hc5 : PrA K H5 c E' := ⟨ps, seqA_ne ins b5 hc, hp.1, fun i p e hpi hei => by
      obtain ⟨q, e1, e2⟩ := hp.2 i p e hpi hei
      exact ⟨q, e1, seqT_ne ins b5 e2⟩⟩
    have et5 : H5 t = some (.tup ((srt zs).map V.str)) := by rw [o5 t ta]; exact e4
    have hE2 : ∀ p ∈ E', p.1 ∈ srt zs ∧ p.2 ∈ srt zs := fun p hpE => ⟨mem_srt.mpr (hE p hpE).1, mem_srt.mpr (hE p hpE).2⟩
    have l2 : (srt zs).length = zs.length := (srt_perm zs).length_eq
    refine ⟨rfl, t, c, srt zs, E', rfl, .t et5, hc5, by omega, srt_nodup hd, srt_pw zs, hE2, fun d H6 hd6 s6 tab => ?_⟩
    have da : d ≠ a := fun z => by rw [z, e5] at hd6; cases hd6
    walk_at "rb"
    refine i_put1 (s6 _ _ e5) C_c_Order.toCls C_na_Order__above (by show 1 < 100; decide) (op2 _ _) fun H7 e7 o7 => ?_
    have ho7 : IsO CO H7 a (srt zs) (OM.cl E') := by
      obtain ⟨A, e8, e9⟩ := tab
      refine ⟨dx, t, d, e7, by rw [o7 t ta]; exact s6 _ _ et5, ⟨A, by rw [o7 d da]; exact e8, fun n hn => ?_⟩, by omega, srt_nodup hd, fun n hnm => hn n (mem_srt.mp hnm)⟩
      rw [o7 (A n) fun z => ?_]
      · exact e9 n hn
      · have := e9 n hn
        rw [z, s6 _ _ e5] at this
        cases this
    have b7 : But a H H7 := fun x o hx e => by rw [o7 x hx]; exact s6 _ _ (b5 x o hx e)
    walk_at "rd"
    refine i_meth1 e7 (ro_no (by decide +kernel) (by decide +kernel)) ?_
    walk_at "rd"
    refine ⟨rfl, a, srt zs, OM.cl E', rfl, ho7, fun p H8 hp8 s8 hP => ?_⟩
    obtain ⟨qs, ep, tq⟩ := hP
    walk_at "rd"
    refine i_fld1 (s8 _ _ e7) C_c_Order.toCls C_na_Order_names rf_names ?_
    have ho8 := ho7.mono s8
    obtain ⟨dx', t', d', f1, f2, ⟨A, f3, f4⟩, _, _, hnl⟩ := id ho8
    have et8 : H8 t = some (.tup ((srt zs).map V.str)) := by
      have := f1.symm.trans (s8 _ _ e7)
      cases this
      exact f2
    have hab : ∀ n, (OM.ab (srt zs) (OM.cl E') n).length ≤ 8 := fun n => Nat.le_trans ab_len (by omega)
    refine i_lcA (H0 := H8) (fun i ys H => Same H8 H ∧ ys = (((srt zs).take i).filter (fR (srt zs) (OM.cl E'))).map V.str) (SqA.t et8) (Same.refl _) ?_ ?_ ?_ ?_
    · intro D H' hD sm e ho
      exact ⟨sm, rfl⟩
    · exact fun i ys H p => p.1
    · rintro i x D ys H9 hD hx eD ⟨s9, rfl⟩
      obtain ⟨n, hni, rfl⟩ := strs_at hx
      have hnN : n ∈ srt zs := List.mem_of_getElem? hni
      walk_at "rd"
      refine ⟨by with_unfolding_all rfl, ?_⟩
      walk_at "rd"
      refine i_fld1 (s9 _ _ f1) C_c_Order.toCls C_na_Order__above rf_above ?_
      walk_at "rd"
      refine i_dget (s9 _ _ f3) (rows_val hnN) ?_
      refine i_lcA (H0 := H9) (fun i ys H => Same H9 H ∧ ys = (((OM.ab (srt zs) (OM.cl E') n).take i).map fun m => decide ((m, n) ∈ OM.prs (srt zs) (OM.cl E'))).map V.bl) (SqA.t (s9 _ _ (f4 n hnN))) (Same.refl _) ?_ ?_ ?_ ?_
      · intro D H' hD sm e ho
        exact ⟨sm, rfl⟩
      · exact fun i ys H p => p.1
      · rintro j y D2 ys H10 hD2 hy eD2 ⟨s10, rfl⟩
        obtain ⟨m, hmi, rfl⟩ := strs_at hy
        obtain ⟨hmN, hmR⟩ := OM.mem_ab.mp (List.mem_of_getElem? hmi)
        walk_at "rd"
        refine ⟨by with_unfolding_all rfl, ?_⟩
        walk_at "rd"
        refine i_tup1 (by show 2 ≤ 100000; decide) fun q H11 hq s11 e11 ho11 => ?_
        walk_at "rd"
        have s811 := (s9.trans s10).trans s11
        refine i_inPr e11 (s811 _ _ ep) (tq.mono s811) (prs_names hnl) (hnl m hmN) (hnl n hnN) ?_
        have hb60 : j < (OM.ab (srt zs) (OM.cl E') n).length := (List.getElem?_eq_some_iff.mp hmi).1
        have h8 := hab n
        refine i_lcE (s11 _ _ eD2) ?_ fun H12 e12 ho12 => ⟨fun b o eb => ?_, ?_⟩
        · rw [List.length_map, List.length_map, List.length_take]
          omega
        · rw [ho12 b (ne_of_none eb hD2)]
          exact s11 _ _ (s10 _ _ eb)
        · rw [take_snoc hmi, List.map_append, List.map_append]
          rfl
      · rintro D2 ys H10 hD2 eD2 ⟨s10, rfl⟩
        rw [List.length_map, List.take_length] at eD2
        walk_at "rd"
        refine i_any eD2 ?_
        rw [List.any_map]
        refine ⟨_, rfl, ?_⟩
        have eb : (OM.ab (srt zs) (OM.cl E') n).any (id ∘ fun m => decide ((m, n) ∈ OM.prs (srt zs) (OM.cl E'))) = fR (srt zs) (OM.cl E') n := rfl
        rw [eb]
        refine i_bool (fun g => ?_) (fun g => ?_)
        · walk_at "rd"
          refine i_lcE (s10 _ _ eD) ?_ fun H12 e12 ho12 => ⟨fun b o eb => ?_, ?_⟩
          · rw [List.length_map]
            have h1 := List.length_filter_le (fR (srt zs) (OM.cl E')) ((srt zs).take i)
            rw [List.length_take] at h1
            omega
          · rw [ho12 b (ne_of_none eb hD)]
            exact s10 _ _ (s9 _ _ eb)
          · rw [take_snoc hni, List.filter_append, List.filter_cons_of_pos g, List.filter_nil, List.map_append]
            rfl
        · refine ⟨_, s10 _ _ eD, s9.trans s10, ?_⟩
          rw [take_snoc hni, List.filter_append, List.filter_cons_of_neg (by rw [g]; decide), List.filter_nil, List.append_nil]
    · rintro D ys H9 hD eD ⟨s9, rfl⟩
      rw [List.length_map, List.take_length] at eD
      have eR : ((srt zs).filter (fR (srt zs) (OM.cl E'))) = rings (srt zs) (OM.cl E') := rfl
      rw [eR] at eD
      have b9 : But a H H9 := fun x o hx e => s9 _ _ (s8 _ _ (b7 x o hx e))
      walk_at "rd"
      refine ⟨!(((rings (srt zs) (OM.cl E')).map V.str).isEmpty), .inl ⟨_, SqL.of eD, rfl⟩, ?_⟩
      cases hr : rings (srt zs) (OM.cl E') with
      | nil =>
        rw [if_neg (by decide)]
        walk_at "rd"
        exact k hr H9 (ho8.mono s9) b9
      | cons y l =>
        rw [if_pos (show (!(List.map V.str (y :: l)).isEmpty) = true from rfl)]
        walk_at "rd"
        have nn : rings (srt zs) (OM.cl E') ≠ [] := by rw [hr]; simp
        refine i_mkXR nn (.of eD) (fun z hz => hnl z (List.mem_filter.mp hz).1) (Nat.le_trans (List.length_filter_le _ _) (by omega)) fun d2 q2 H' hd2 s' ed2 eq2 => ?_
        exact kR nn d2 q2 H' (fun x o hx e => s' _ _ (b9 x o hx e)) ed2 eq2
abbrev s_Order__between : Stmt := inClass (top 29) 7
theorem sc_Order__between : FnScope ["self", "low", "high", "name"] ["self", "low", "high"] (defScope s_Order__between) := ⟨rfl, rfl, rfl, by decide +kernel, rfl, by decide +kernel, by decide +kernel⟩
theorem ok_Order__between {P : Program} {w : World} {K : PySem.W.Frag} {mg : Str → Option Value} {base : Heap} {CO : Addr} {f : Addr} {fd : FuncData} (F : L2.Fun K "_between" "Order._between" s_Order__between f fd)
    (C_c_Order : ClO K CO)
    (C_na_Order__above : NoAttr K CO "_above")
    (C_na_Order_names : NoAttr K CO "names") :
    FnOk P w K mg base (L2.CX P w) 1 f fd ["self", "low", "high"] (spBtw CO) := by
  refine fnOk_mk F sc_Order__between (fun vs H Q E h => h.1) (fun cdv A outer s H vs Q E hr h => ?_)
  obtain ⟨_, a, N, R, x, y, rfl, ho, hx0, hy0, k⟩ := h
  obtain ⟨dx, t, d, e1, e2, ⟨A', e3, e4⟩, hl, hN, hnl⟩ := ho
  refine ⟨_, pss_one (ps_ret (pe_lc (own := [("name", 3)]) (by rfl) sc_Order__between.nd (pi_any (K := K) rfl (pe_dget (hu_of hr) (pe_fld (pv 0) rfl) (pv 1) (fun _ _ => rfl))) (blkOk_by (N := ["self", "low", "high", "name"]) (sc := defScope s_Order__between) (by decide +kernel)) (fun _ _ _ _ _ => pg_name (i := 3) sc_Order__between.nd rfl (Or.inl rfl)) (fun _ _ _ _ _ => pts_one (pt_cmpR (k_inS (K := K) rfl) (pv 2) (pe_dget (hu_of hr) (k_fld (K := K) rfl (pv 0) rfl) (pv 3) (fun _ _ => rfl)) rfl)) (fun _ _ _ _ _ => pv 3))), ?_⟩
  try dsimp only [cxOf]
  walk_at "rd"
  refine i_fld1 e1 C_c_Order.toCls C_na_Order__above rf_above ?_
  walk_at "rd"
  refine i_dget e3 (rows_val hx0) ?_
  refine i_lcA (H0 := H) (fun i ys H1 => Same H H1 ∧ ys = (((OM.ab N R x).take i).filter fun c => R c y).map V.str) (SqA.t (e4 x hx0)) (Same.refl _) ?_ ?_ ?_ ?_
  · intro D H' hD sm e ho
    exact ⟨sm, rfl⟩
  · exact fun i ys H1 p => p.1
  · rintro i v D ys H1 hD hx eD ⟨s1, rfl⟩
    obtain ⟨c, hc, rfl⟩ := strs_at hx
    have hcN : c ∈ N := (OM.mem_ab.mp (List.mem_of_getElem? hc)).1
    walk_at "rd"
    refine ⟨by with_unfolding_all rfl, ?_⟩
    walk_at "rd"
    refine i_fld1 (s1 _ _ e1) C_c_Order.toCls C_na_Order__above rf_above ?_
    walk_at "rd"
    refine i_dget (s1 _ _ e3) (rows_val hcN) ?_
    refine i_inS (SqA.t (s1 _ _ (e4 c hcN))) ?_
    walk_at "rd"
    have em : decide (y ∈ OM.ab N R c) = R c y := by
      rw [Bool.eq_iff_iff, decide_eq_true_eq, OM.mem_ab]
      exact ⟨fun z => z.2, fun z => ⟨hy0, z⟩⟩
    rw [em]
    refine i_bool (fun e => ?_) (fun e => ?_)
    · walk_at "rd"
      refine i_lcE eD ?_ fun H4 e4' ho4 => ⟨fun b o eb => ?_, ?_⟩
      · rw [List.length_map]
        have := List.length_filter_le (fun c => R c y) ((OM.ab N R x).take i)
        have h2 : ((OM.ab N R x).take i).length ≤ N.length := Nat.le_trans (by rw [List.length_take]; omega) (ab_len (N := N) (R := R) (n := x))
        omega
      · rw [ho4 b (ne_of_none eb hD)]
        exact s1 _ _ eb
      · rw [take_snoc hc, List.filter_append, List.map_append]
        simp [e]
    · refine ⟨_, eD, s1, ?_⟩
      rw [take_snoc hc, List.filter_append, List.map_append]
      simp [e]
  · rintro D ys H1 hD eD ⟨s1, rfl⟩
    rw [List.length_map, List.take_length] at eD
    exact k D H1 hD s1 eD
abbrev s_Order_covers : Stmt := inClass (top 29) 6
theorem sc_Order_covers : FnScope ["self", "low", "high"] ["self"] (defScope s_Order_covers) := ⟨rfl, rfl, rfl, by decide +kernel, rfl, by decide +kernel, by decide +kernel⟩
theorem ok_Order_covers {P : Program} {w : World} {K : PySem.W.Frag} {mg : Str → Option Value} {base : Heap} {CO : Addr} {f : Addr} {fd : FuncData} (F : L2.Fun K "covers" "Order.covers" s_Order_covers f fd)
    (C_b_len : mg "len" = none)
    (C_c_Order : ClO K CO)
    (C_m_Order__between : CalM P w K mg base CO "_between" 1 (spBtw CO))
    (C_m_Order_pairs : CalM P w K mg base CO "pairs" 1 (spPairs CO))
    (C_na_Order__above : NoAttr K CO "_above")
    (C_na_Order_names : NoAttr K CO "names") :
    FnOk P w K mg base (L2.CX P w) 2 f fd ["self"] (spCovers CO) := by
  refine fnOk_mk F sc_Order_covers (fun vs H Q E h => h.1) (fun cdv A outer s H vs Q E hr h => ?_)
  obtain ⟨_, a, N, R, rfl, ho, k⟩ := h
  obtain ⟨dx, t, d, e1, _, _, hl, _, _⟩ := id ho
  have hll : N.length * N.length ≤ 8 * 8 := Nat.mul_le_mul hl hl
  have hpl := prs_len (N := N) (R := R)
  refine ⟨_, pss_one (ps_ret (pe_lc (own := [("low", 1), ("high", 2)]) (by rfl) sc_Order_covers.nd (pi_any (K := K) rfl (z_meth0C (pv 0) C_c_Order.toCls C_m_Order_pairs hr passN)) (blkOk_by (N := ["self", "low", "high"]) (sc := defScope s_Order_covers) (by decide +kernel)) (fun _ _ _ _ _ => k_tup (K := K) (n := 2) rfl rfl (pgs_cons (pg_name (i := 1) sc_Order_covers.nd rfl (Or.inl rfl)) (pgs_cons (pg_name (i := 2) sc_Order_covers.nd rfl (Or.inl rfl)) pgs_nil))) (fun _ _ _ _ _ => pts_one (pt_cmpR op_eq (pe_callB (k_len (K := K) rfl) (by rfl) C_b_len (by decide +kernel) (pa_cons (z_methC (pv 0) C_c_Order.toCls C_m_Order__between hr passN (pa_cons (pv 1) (pa_cons (pv 2) pa_nil))) pa_nil)) pe_int (nomark _))) (fun _ _ _ _ _ => pe_tup (pa_cons (pv 1) (pa_cons (pv 2) pa_nil))))), ?_⟩
  try dsimp only [cxOf]
  walk_at "rd"
  refine i_meth1 e1 (ro_no (by decide +kernel) (by decide +kernel)) ?_
  walk_at "rd"
  refine ⟨rfl, a, N, R, rfl, ho, fun p H1 hp s1 hP => ?_⟩
  obtain ⟨ps, es, ht⟩ := hP
  refine i_lcA (H0 := H1) (fun i ys H2 => Same H1 H2 ∧ ∃ qs, ys = qs.map V.ref ∧ TPr H2 qs (((OM.prs N R).take i).filter fun p => decide ((OM.btw N R p.1 p.2).length = 2))) (SqA.l es) (Same.refl _) ?_ ?_ ?_ ?_
  · intro D H' hD sm e ho
    exact ⟨sm, [], rfl, .nil⟩
  · exact fun i ys H2 p => p.1
  · rintro i v D ys H2 hD hx eD ⟨s2, qs, rfl, hq⟩
    rw [List.getElem?_map] at hx
    obtain ⟨q, hqi, rfl⟩ : ∃ q, ps[i]? = some q ∧ v = V.ref q := by
      cases e : ps[i]? with
      | none => rw [e] at hx; cases hx
      | some q => rw [e] at hx; exact ⟨q, rfl, (Option.some.inj hx).symm⟩
    have lt := (List.getElem?_eq_some_iff.mp hqi).1
    rw [ht.1] at lt
    have hei : (OM.prs N R)[i]? = some (OM.prs N R)[i] := by simp [lt]
    have eq := ht.2 i q _ hqi hei
    generalize hxy : (OM.prs N R)[i] = xy at *
    obtain ⟨x, y⟩ := xy
    have hm : (x, y) ∈ OM.prs N R := List.mem_of_getElem? (i := i) hei
    obtain ⟨hx0, hy0, _, _⟩ := OM.mem_prs.mp hm
    have oo := ho.mono (s1.trans s2)
    obtain ⟨dx2, t2, d2, e1', _⟩ := id oo
    refine i_gtup (SqT.of (s2 _ _ eq)) rfl ?_
    walk_at "rd"
    refine ⟨by with_unfolding_all rfl, ?_⟩
    walk_at "rd"
    refine i_meth1 e1' (ro_no (by decide +kernel) (by decide +kernel)) ?_
    walk_at "rd"
    refine ⟨rfl, a, N, R, x, y, rfl, oo, hx0, hy0, fun l H3 hl3 s3 e3 => ?_⟩
    walk_at "rd"
    refine i_lenA (SqA.l e3) ?_
    rw [List.length_map]
    walk_at "rd"
    refine i_dec (fun e => ?_) (fun e => ?_)
    · walk_at "rd"
      refine i_tup1 (by show 2 ≤ 100000; decide) fun q2 H4 hq4 s4 e4 ho4 => ?_
      have eD4 := s4 _ _ (s3 _ _ eD)
      refine i_lcE eD4 ?_ fun H5 e5 ho5 => ⟨fun b o eb => ?_, qs ++ [q2], by rw [List.map_append]; rfl, ?_⟩
      · rw [List.length_map, hq.1]
        have := List.length_filter_le (fun p => decide ((OM.btw N R p.1 p.2).length = 2)) ((OM.prs N R).take i)
        rw [List.length_take] at this
        omega
      · rw [ho5 b (ne_of_none eb hD)]
        exact s4 _ _ (s3 _ _ (s2 _ _ eb))
      · have := (((hq.mono s3).mono s4).snoc e4).keep (lst_keep eD4 ho5)
        rw [take_snoc hei, List.filter_append]
        have e2 : (OM.btw N R x y).length = 2 := by omega
        simpa [e2] using this
    · refine ⟨_, s3 _ _ eD, s2.trans s3, qs, rfl, ?_⟩
      rw [take_snoc hei, List.filter_append]
      have e2 : ¬ (OM.btw N R x y).length = 2 := by omega
      simpa [e2] using hq.mono s3
  · rintro D ys H2 hD eD ⟨s2, qs, rfl, hq⟩
    rw [List.length_map, ht.1, List.take_length] at hq
    refine k D H2 ?_ (s1.trans s2) ⟨qs, eD, hq⟩
    cases z : H D with
    | none => rfl
    | some o => rw [s1 _ _ z] at hD; cases hD
def rowD (N : List Str) (R : Str → Str → Bool) : Key → PyData
  | .inr n => .tuple ((OM.ab N R n).map .str)
  | _ => .none
theorem joinL_le (s : List Nat) : ∀ l : List (List Nat), (TL.joinL s l).length ≤ (l.map List.length).sum + l.length * s.length
  | [] => by simp [TL.joinL]
  | [p] => by simp [TL.joinL]
  | p :: q :: r => by
    have ih := joinL_le s (q :: r)
    show (p ++ (s ++ TL.joinL s (q :: r))).length ≤ _
    rw [List.length_append, List.length_append]
    simp only [List.map_cons, List.sum_cons, List.length_cons, Nat.succ_mul] at ih ⊢
    omega
theorem sum_le {B : Nat} : ∀ ys : List Str, (∀ z ∈ ys, z.length ≤ B) → (ys.map (·.length)).sum ≤ ys.length * B
  | [], _ => by simp
  | z :: ys, h => by
    have ih := sum_le ys fun w hw => h w (List.mem_cons_of_mem _ hw)
    have := h z List.mem_cons_self
    simp only [List.map_cons, List.sum_cons, List.length_cons, Nat.succ_mul]
    omega
theorem join_le {sep : Str} {B : Nat} {ys : List Str} (h : ∀ z ∈ ys, z.length ≤ B) : (Txt.join sep ys).length ≤ ys.length * B + ys.length * sep.length := by
  have h1 := joinL_le (TL.tl sep) (ys.map TL.tl)
  have e : (ys.map TL.tl).map List.length = ys.map (·.length) := by
    rw [List.map_map]
    refine List.map_congr_left fun z _ => ?_
    exact (TL.len_tl z).symm
  rw [e, List.length_map, ← TL.tl_join, ← TL.join_eq, ← TL.len_tl, ← TL.len_tl] at h1
  have := sum_le ys h
  omega
theorem i_star {K : PySem.W.Frag} {te : TE} {t : TA} {σ : L2.St} {H : Hp} {Q : List V → Hp → Prop} (h : te σ H fun x H1 => ∃ p xs, x = V.ref p ∧ (SqT K H1 p xs ∨ SqL K H1 p xs) ∧ t σ H1 fun ys H2 => Q (xs ++ ys) H2) : StX.tStar K te t σ H Q := h
local macro_rules | `(tactic| walk_at "r2") => `(tactic| with_reducible first | refine i_top (by walk_at "sm") (by assumption) (by assumption) ?_ | refine i_bot (by walk_at "sm") (by assumption) (by assumption) ?_ | refine i_mkO ?_)
theorem But.same {a : Addr} {H H' : Hp} (t : But a H H') {H0 : Hp} (n : H0 a = none) (s : Same H0 H) : Same H0 H' := fun b o e => t b o (ne_of_none e n) (s _ _ e)
theorem But.trans {a : Addr} {H H1 H2 : Hp} (s : But a H H1) (t : But a H1 H2) : But a H H2 := fun x o hx e => t x o hx (s x o hx e)
theorem But.of {a : Addr} {H H' : Hp} (s : Same H H') : But a H H' := fun x o _ e => s _ _ e
def del (q : Addr) (H : Hp) : Hp := fun x => if x = q then none else H x
theorem del_at {q x : Addr} {H : Hp} (h : x ≠ q) : del q H x = H x := if_neg h
theorem same_del {q : Addr} {H H' : Hp} (t : But q H H') : Same (del q H) H' := fun x o e => by
  by_cases h : x = q
  · rw [h] at e
    unfold del at e
    rw [if_pos rfl] at e
    cases e
  · rw [del_at h] at e
    exact t x o h e
theorem But.refl (a : Addr) (H : Hp) : But a H H := fun _ _ _ e => e
theorem i_newG {K : PySem.W.Frag} {CO CB CN CD CU CG b c : Addr} {H : Hp} {Q : VK} {X : XK} {zs : List Str} {E : List (Str × Str)} (hb : SqA K H b (zs.map V.str)) (hc : PrA K H c E) (h60 : zs.length ≤ 30000) (hl : ∀ z ∈ zs, z.length ≤ 100000 ∧ RW z) (hE : E.length ≤ 30000) (hR : ∀ e ∈ E, RW e.1 ∧ RW e.2)
    (kB : ¬ (1 ≤ zs.length ∧ zs.length ≤ 8) → ∀ d H', Same H H' → H' d = some (.xd [("n", .int (zs.length : Nat))]) → X (.ref CB) (some d) H')
    (kF : (1 ≤ zs.length ∧ zs.length ≤ 8) → ∀ b z, nmF [] zs = some (b, z) → ∀ d H', Same H H' → H' d = some (.xd [("name", .str z)]) → X (.ref (if b then CD else CN)) (some d) H')
    (kU : (1 ≤ zs.length ∧ zs.length ≤ 8) → nmF [] zs = none → ∀ z, missE zs E = some z → ∀ d H', Same H H' → H' d = some (.xd [("name", .str z)]) → X (.ref CU) (some d) H')
    (kR : (1 ≤ zs.length ∧ zs.length ≤ 8) → nmF [] zs = none → missE zs E = none → rings (srt zs) (OM.cl E) ≠ [] → ∀ d q H', Same H H' → H' d = some (.xd [("names", .ref q)]) → H' q = some (.lst ((rings (srt zs) (OM.cl E)).map V.str)) → X (.ref CG) (some d) H')
    (kO : (1 ≤ zs.length ∧ zs.length ≤ 8) → nmF [] zs = none → missE zs E = none → rings (srt zs) (OM.cl E) = [] → ∀ p H', H p = none → Same H H' → IsO CO H' p (srt zs) (OM.cl E) → Q (.ref p) H') :
    rNew CO (spOInitG K CO CB CN CD CU CG) [.ref b, .ref c] H Q X := by
  intro x dx hx hdx hne
  have sm : Same H (upd (upd H dx (.own x)) x (.ins CO dx [])) := fun c o e => by
    rw [upd_ne (ne_of_none e hx), upd_ne (ne_of_none e hdx)]
    exact e
  have bt : ∀ {H'}, But x (upd (upd H dx (.own x)) x (.ins CO dx [])) H' → Same H H' := fun t c o e => t c o (ne_of_none e hx) (sm _ _ e)
  have nmRB : ∀ (zs seen : List Str) b z, nmF seen zs = some (b, z) → z ∈ zs := by
    intro zs
    induction zs with
    | nil => intro seen b z h; cases h
    | cons y ys ih =>
      intro seen b z h
      rw [nmF_cons] at h
      split at h
      · cases h; exact List.mem_cons_self
      · split at h
        · cases h; exact List.mem_cons_self
        · exact List.mem_cons_of_mem _ (ih _ _ _ h)
  have miRB : ∀ z, missE zs E = some z → RW z := fun z hz => by
    have := List.mem_of_find?_eq_some hz
    obtain ⟨e, he, hm⟩ := List.mem_flatMap.mp this
    simp at hm
    rcases hm with rfl | rfl
    · exact (hR e he).1
    · exact (hR e he).2
  exact ⟨rfl, x, b, c, zs, E, rfl, ⟨dx, upd_same⟩, sameA sm hb, hc.mono sm, h60, fun z hz => (hl z hz).1, hE, fun g d H' t e => kB g d H' (bt t) e, fun g => ⟨fun b z hz => ⟨(hl z (nmRB zs [] b z hz)).2, fun d H' t e => kF g b z hz d H' (bt t) e⟩,
    fun g2 => ⟨fun z hz => ⟨miRB z hz, fun d H' t e => kU g g2 z hz d H' (bt t) e⟩, fun g3 => ⟨fun g4 d q H' t e1 e2 => kR g g2 g3 g4 d q H' (bt t) e1 e2, fun g4 H' io t => ⟨rfl, kO g g2 g3 g4 x H' hx (bt t) io⟩⟩⟩⟩⟩

theorem same_noneV {H H' : Hp} (s : Same H H') {c : Addr} (h : H' c = none) : H c = none := by
  cases z : H c with
  | none => rfl
  | some o => rw [s _ _ z] at h; cases h
/-! ### orders asked -/
def spBelowW (CO CU : Addr) : Sp := fun vs H Q E => vs.length = 3 ∧ ∃ (a : Addr) (N : List Str) (R : Str → Str → Bool) (x y : Str), vs = [.ref a, .str x, .str y] ∧ IsO CO H a N R ∧
  (∀ z, miss N [x, y] = some z → RW z ∧ EName CU z H E) ∧ (miss N [x, y] = none → ∀ H', Same H H' → Q (.bl (R x y)) H')
abbrev s_Order_below : Stmt := inClass (top 29) 4
theorem sc_Order_below : FnScope ["self", "low", "high"] ["self", "low", "high"] (defScope s_Order_below) := ⟨rfl, rfl, rfl, by decide +kernel, rfl, by decide +kernel, by decide +kernel⟩
theorem ok_Order_below {P : Program} {w : World} {K : PySem.W.Frag} {mg : Str → Option Value} {base : Heap} {CO CU : Addr} {f : Addr} {fd : FuncData} (F : L2.Fun K "below" "Order.below" s_Order_below f fd)
    (C_c_Order : ClO K CO)
    (C_f_check_among : Cal P w K mg base "check_among" 3 (spAmW K CU))
    (C_na_Order__above : NoAttr K CO "_above")
    (C_na_Order_names : NoAttr K CO "names") :
    FnOk P w K mg base (L2.CX P w) 4 f fd ["self", "low", "high"] (spBelowW CO CU) := by
  refine fnOk_mk F sc_Order_below (fun vs H Q E h => h.1) (fun cdv A outer s H vs Q E hr h => ?_)
  obtain ⟨_, a, N, R, x, y, rfl, ho, kx, k⟩ := h
  obtain ⟨dx, t, d, e1, e2, ⟨A', e3, e4⟩, hl, hN, hnl⟩ := ho
  refine ⟨_, pss_cons (ps_expr (z_callC C_f_check_among hr (fun σ => passAt (takes_of rfl rfl rfl rfl) σ) (pa_cons (pe_fld (pv 0) rfl) (pa_cons (pe_tup (pa_cons (pv 1) (pa_cons (pv 2) pa_nil))) pa_nil))))
    (pss_one (ps_ret (pe_cmpR (k_inS (K := K) rfl) (pv 2) (pe_dget (hu_of hr) (pe_fld (pv 0) rfl) (pv 1) (fun _ _ => rfl)) rfl))), ?_⟩
  try dsimp only [cxOf]
  walk_at "rd"
  refine i_fld1 e1 C_c_Order.toCls C_na_Order_names rf_names ?_
  walk_at "rd"
  refine i_tup1 (by show 2 ≤ 100000; decide) fun q H1 hq s1 eq1 ho1 => ?_
  walk_at "rd"
  refine ⟨rfl, t, q, N, [x, y], rfl, SqA.t (s1 _ _ e2), SqA.t eq1, fun z hz => ?_, fun hm H2 s2 => ?_⟩
  · obtain ⟨rb, kx⟩ := kx z hz
    exact ⟨rb, fun d' H' s e => kx d' H' (s1.trans s) e⟩
  · have s02 := s1.trans s2
    have hx0 : x ∈ N := by
      have := List.find?_eq_none.mp hm x (by simp)
      simpa using this
    have hy0 : y ∈ N := by
      have := List.find?_eq_none.mp hm y (by simp)
      simpa using this
    walk_at "rd"
    refine i_fld1 (s02 _ _ e1) C_c_Order.toCls C_na_Order__above rf_above ?_
    walk_at "rd"
    refine i_dget (s02 _ _ e3) (rows_val hx0) ?_
    refine i_inS (SqA.t (s02 _ _ (e4 x hx0))) ?_
    have em : decide (y ∈ OM.ab N R x) = R x y := by
      rw [Bool.eq_iff_iff, decide_eq_true_eq, OM.mem_ab]
      exact ⟨fun z => z.2, fun z => ⟨hy0, z⟩⟩
    rw [em]
    exact k hm H2 s02
abbrev s_Order___contains__ : Stmt := inClass (top 29) 12
theorem sc_Order___contains__ : FnScope ["self", "name"] ["self", "name"] (defScope s_Order___contains__) := ⟨rfl, rfl, rfl, by decide +kernel, rfl, by decide +kernel, by decide +kernel⟩
theorem ok_Order___contains__ {P : Program} {w : World} {K : PySem.W.Frag} {mg : Str → Option Value} {base : Heap} {CO : Addr} {f : Addr} {fd : FuncData} (F : L2.Fun K "__contains__" "Order.__contains__" s_Order___contains__ f fd)
    (C_c_Order : ClO K CO)
    (C_na_Order__above : NoAttr K CO "_above")
    (C_na_Order_names : NoAttr K CO "names") :
    FnOk P w K mg base (L2.CX P w) 1 f fd ["self", "name"] (spOIn CO) := by
  refine fnOk_mk F sc_Order___contains__ (fun vs H Q E h => h.1) (fun cdv A outer s H vs Q E hr h => ?_)
  obtain ⟨_, a, N, R, z, rfl, ho, k⟩ := h
  obtain ⟨dx, t, d, e1, e2, ⟨A', e3, e4⟩, hl, hN, hnl⟩ := ho
  refine ⟨_, pss_one (ps_ret (pe_cmpR (k_inS (K := K) rfl) (pv 1) (pe_fld (pv 0) rfl) rfl)), ?_⟩
  try dsimp only [cxOf]
  walk_at "rd"
  refine i_fld1 e1 C_c_Order.toCls C_na_Order_names rf_names ?_
  refine i_inS (SqA.t e2) ?_
  exact k H (Same.refl _)
def of2 (t d : Addr) : List (Str × V) := [("names", .ref t), ("_above", .ref d)]
def spOIterT (CO : Addr) : Nat → Sp := fun n vs H Q _ => vs.length = 1 ∧ ∃ (a dx t d : Addr) (ys : List V), vs = [.ref a] ∧ H a = some (.ins CO dx (of2 t d)) ∧ H t = some (.tup ys) ∧
  ∀ q, n ≤ q → H q = none → Q (.ref q) (upd H q (TupIt q t 0))
theorem own_of {K : PySem.W.Frag} {CO a : Addr} {H : Hp} {N : List Str} {R : Str → Str → Bool} (h : IsO CO H a N R) : ∃ t, OwnT K CO (spOIterT CO) a t (N.map V.str) H := by
  obtain ⟨dx, t, d, e1, e2, _⟩ := h
  exact ⟨t, ⟨dx, _, e1⟩, .of e2, fun n => ⟨rfl, a, dx, t, d, _, rfl, e1, e2, fun q hle hn => ⟨q, rfl, hle, hn, rfl⟩⟩⟩
abbrev s_Order___iter__ : Stmt := inClass (top 29) 14
theorem sc_Order___iter__ : FnScope ["self"] ["self"] (defScope s_Order___iter__) := ⟨rfl, rfl, rfl, by decide +kernel, rfl, by decide +kernel, by decide +kernel⟩
theorem okT_Order___iter__ {P : Program} {w : World} {K : PySem.W.Frag} {mg : Str → Option Value} {base : Heap} {CO : Addr} {f : Addr} {fd : FuncData} (F : L2.Fun K "__iter__" "Order.__iter__" s_Order___iter__ f fd)
    (C_b_iter : mg "iter" = none)
    (C_c_Order : ClO K CO)
    (C_na_Order__above : NoAttr K CO "_above")
    (C_na_Order_names : NoAttr K CO "names")
    (b : Binds K fd ["self"] []) :
    FnT P w K mg base 1 f (spOIterT CO) := by
  refine fnT_mk F sc_Order___iter__ b (fun _ vs H Q E h => h.1) (fun cdv A outer s H vs Q E hr h => ?_)
  obtain ⟨_, a, dx, t, d, ys, rfl, e1, e2, k⟩ := h
  refine ⟨_, pss_one (ps_ret (pe_callB (k_iterTS (K := K) rfl) (by rfl) C_b_iter (by decide +kernel) (pa_cons (pe_fld (pv 0) rfl) pa_nil))), ?_⟩
  try dsimp only [cxOf]
  walk_at "rd"
  refine i_fld1 e1 C_c_Order.toCls C_na_Order_names rf_names ?_
  walk_at "rd"
  exact ⟨t, ys, rfl, .of e2, k⟩
/-! the law's helpers -/
def PoolN (H : Hp) (p : Addr) (n : Nat) : Prop := ∃ (c k : Int) (f : Bool), H p = some (.lst [V.int c, V.int k, V.bl f]) ∧ 0 ≤ k ∧ k ≤ n
def spPoolN : Sp := fun vs H Q _ => vs.length = 1 ∧ ∃ c, vs = [.int c] ∧ ∀ p H', H p = none → Same H H' → (∀ b, b ≠ p → H' b = H b) → PoolN H' p 0 → Q (.ref p) H'
def spTakeN : Sp := fun vs H Q _ => vs.length = 2 ∧ ∃ p l n, vs = [.ref p, .int l] ∧ PoolN H p n ∧ n ≤ 1000 ∧ 0 < l ∧ l ≤ 4000 ∧ ∀ r H', 0 ≤ r → r < l → (∀ b, b ≠ p → H' b = H b) → PoolN H' p (n + 1) → Q (.int r) H'
abbrev s__law_pool : Stmt := top 32
theorem sc__law_pool : FnScope ["_law_cell_here"] ["_law_cell_here"] (defScope s__law_pool) := ⟨rfl, rfl, rfl, by decide +kernel, rfl, by decide +kernel, by decide +kernel⟩
theorem ok__law_pool {P : Program} {w : World} {K : PySem.W.Frag} {mg : Str → Option Value} {base : Heap} {f : Addr} {fd : FuncData} (F : L2.Fun K "_law_pool" "_law_pool" s__law_pool f fd)
    (C_b_abs : mg "abs" = none) :
    FnOk P w K mg base (L2.CX P w) 1 f fd ["_law_cell_here"] spPoolN := by
  refine fnOk_mk F sc__law_pool (fun vs H Q E h => h.1) (fun cdv A outer s H vs Q E hr h => ?_)
  obtain ⟨_, c, rfl, k⟩ := h
  refine ⟨_, pss_one (ps_ret (pe_lst (pa_cons (pe_callB call_abs (by rfl) C_b_abs (by decide +kernel) (pa_cons (pv 0) pa_nil)) (pa_cons pe_int (pa_cons (pe_cmpR op_ge (pe_callB call_abs (by rfl) C_b_abs (by decide +kernel) (pa_cons (pv 0) pa_nil)) (pe_op op_pow pe_int pe_int) (nomark _)) pa_nil))))), ?_⟩
  try dsimp only [cxOf]
  walk_at "rd"
  refine ⟨c, rfl, ?_⟩
  walk_at "rd"
  refine ⟨c, rfl, ?_⟩
  walk_at "rd"
  refine i_lst1 (Nat.le_of_ble_eq_true rfl) fun p H2 hp s e ho => ?_
  exact k p H2 hp s ho ⟨_, _, _, e, by decide, by decide⟩
abbrev s__law_cell : Stmt := top 31
theorem sc__law_cell : FnScope ["_law_script", "_law_k"] ["_law_script", "_law_k"] (defScope s__law_cell) := ⟨rfl, rfl, rfl, by decide +kernel, rfl, by decide +kernel, by decide +kernel⟩
theorem ok__law_cell {P : Program} {w : World} {K : PySem.W.Frag} {mg : Str → Option Value} {base : Heap} {f : Addr} {fd : FuncData} (F : L2.Fun K "_law_cell" "_law_cell" s__law_cell f fd)
    (C_b_len : mg "len" = none) :
    FnOk P w K mg base (L2.CX P w) 1 f fd ["_law_script", "_law_k"] (spCell K) := by
  refine fnOk_mk F sc__law_cell (fun vs H Q E h => h.1) (fun cdv A outer s H vs Q E hr h => ?_)
  obtain ⟨_, a, ns, i, rfl, hs, k⟩ := h
  refine ⟨_, pss_cons (ps_if (pt_cmpR op_lt (pv 1) (pe_callB (k_len (K := K) rfl) (by rfl) C_b_len (by decide +kernel) (pa_cons (pv 0) pa_nil)) (nomark _)) (pss_one (ps_ret (pe_ix ix_list (pv 0) (pv 1) (fun _ _ => rfl)))) (pss_nil))
    (pss_one (ps_ret pe_int)), ?_⟩
  try dsimp only [cxOf]
  walk_at "rd"
  refine ⟨a, _, rfl, .inl hs, ?_⟩
  walk_at "rd"
  refine i_dec (fun e => ?_) (fun e => ?_)
  · walk_at "rd"
    have hlt : i < ns.length := by
      rw [List.length_map] at e
      omega
    refine i_ixL hs (v := V.int ns[i]) (by simp [hlt]) ?_
    exact k _
  · walk_at "rd"
    exact k 0
abbrev s__law_take : Stmt := top 33
theorem sc__law_take : FnScope ["_law_pool_here", "_law_limit", "_law_digit", "_law_made"] ["_law_pool_here", "_law_limit"] (defScope s__law_take) := ⟨rfl, rfl, rfl, by decide +kernel, rfl, by decide +kernel, by decide +kernel⟩
theorem ok__law_take {P : Program} {w : World} {K : PySem.W.Frag} {mg : Str → Option Value} {base : Heap} {f : Addr} {fd : FuncData} (F : L2.Fun K "_law_take" "_law_take" s__law_take f fd)
    (C_b_int : mg "int" = none) :
    FnOk P w K mg base (L2.CX P w) 1 f fd ["_law_pool_here", "_law_limit"] spTakeN := by
  refine fnOk_mk F sc__law_take (fun vs H Q E h => h.1) (fun cdv A outer s H vs Q E hr h => ?_)
  obtain ⟨_, p, l, n, rfl, ⟨c, k0, fl, hp, kl, ku⟩, hn, h0, hz, k⟩ := h
  have hzl : ZR.Sz 8000 l := ZR.Sz.mono (n := 12) (Nat.lt_of_le_of_lt (show l.natAbs ≤ 4000 by omega) (by decide +kernel)) (by decide)
  refine ⟨_, pss_cons (ps_asg (pe_op op_add (pe_ix ix_list (pv 0) pe_int (fun _ _ => rfl)) pe_int) (pg_sub (pv 0) pe_int set_list))
    (pss_cons (ps_if (pt_val (pe_ix ix_list (pv 0) pe_int (fun _ _ => rfl))) (pss_cons (ps_set (i := 2) sc__law_take.nd rfl (Or.inl rfl) (pe_op op_mod (pe_callTy call_int1 (by rfl) C_b_int (by decide +kernel) (pa_cons (pe_ix ix_list (pv 0) pe_int (fun _ _ => rfl)) pa_nil)) (pv 1)))
    (pss_cons (ps_asg (pe_op op_fdivZ (pe_callTy call_int1 (by rfl) C_b_int (by decide +kernel) (pa_cons (pe_ix ix_list (pv 0) pe_int (fun _ _ => rfl)) pa_nil)) (pv 1)) (pg_sub (pv 0) pe_int set_list))
    (pss_one (ps_ret (pv 2))))) (pss_nil))
    (pss_cons (ps_set (i := 3) sc__law_take.nd rfl (Or.inl rfl) (pe_op op_mod (pe_op op_pow (pe_callTy call_int1 (by rfl) C_b_int (by decide +kernel) (pa_cons (pe_op op_add (pe_op op_add (pe_op op_mul (pe_op op_mod (pe_callTy call_int1 (by rfl) C_b_int (by decide +kernel) (pa_cons (pe_ix ix_list (pv 0) pe_int (fun _ _ => rfl)) pa_nil)) pe_int) pe_int) (pe_op op_mul (pe_ix ix_list (pv 0) pe_int (fun _ _ => rfl)) pe_int)) pe_int) pa_nil)) pe_int) pe_int))
    (pss_cons (ps_set (i := 3) sc__law_take.nd rfl (Or.inl rfl) (pe_op op_mod (pe_op op_pow (pe_callTy call_int1 (by rfl) C_b_int (by decide +kernel) (pa_cons (pe_op op_add (pe_op op_add (pe_op op_mul (pv 3) pe_int) (pe_op op_mul (pe_ix ix_list (pv 0) pe_int (fun _ _ => rfl)) pe_int)) pe_int) pa_nil)) pe_int) pe_int))
    (pss_one (ps_ret (pe_op op_mod (pe_op op_fdivZ (pv 3) pe_int) (pv 1))))))), ?_⟩
  try dsimp only [cxOf]
  walk_at "rd"
  refine i_ix1 (SqL.of hp) ?_
  walk_at "rd"
  refine i_setL (ys := [V.int c, V.int (k0 + 1), V.bl fl]) hp rfl rfl fun H2 e2 s2 => ?_
  have cl : ∀ i, CDivZ i l := fun i => cdivZ (by omega) hzl
  walk_at "rd"
  refine i_ix2 (SqL.of e2) ?_
  walk_at "rd"
  cases fl
  · walk_at "rd"
    refine i_ix0 (SqL.of e2) ?_
    walk_at "rd"
    refine .inl ⟨_, rfl, ?_⟩
    walk_at "rd"
    refine i_ix1 (SqL.of e2) ?_
    walk_at "rd"
    refine .inl ⟨_, rfl, ?_⟩
    walk_at "rd"
    have h1 := Int.emod_lt_of_pos c (show (0 : Int) < 2147483647 by decide)
    have h2 := Int.emod_nonneg c (show (2147483647 : Int) ≠ 0 by decide)
    refine i_rI ⟨by decide, by decide, ?_⟩ ?_
    · omega
    walk_at "rd"
    refine i_ix1 (SqL.of e2) ?_
    walk_at "rd"
    refine .inl ⟨_, rfl, ?_⟩
    walk_at "rd"
    have h3 := Int.emod_lt_of_pos ((c % 2147483647 * 48271 + (k0 + 1) * 69621 + 11) ^ (5 : Int).toNat) (show (0 : Int) < 2147483647 by decide)
    have h4 := Int.emod_nonneg ((c % 2147483647 * 48271 + (k0 + 1) * 69621 + 11) ^ (5 : Int).toNat) (show (2147483647 : Int) ≠ 0 by decide)
    refine i_rI ⟨by decide, by decide, ?_⟩ ?_
    · omega
    walk_at "rd"
    exact k _ H2 (Int.emod_nonneg _ (by omega)) (Int.emod_lt_of_pos _ h0) s2 ⟨_, _, _, e2, by omega, by omega⟩
  · walk_at "rd"
    refine i_ix0 (SqL.of e2) ?_
    walk_at "rd"
    refine .inl ⟨_, rfl, ?_⟩
    walk_at "rd"
    refine i_ix0 (SqL.of e2) ?_
    walk_at "rd"
    refine .inl ⟨_, rfl, ?_⟩
    walk_at "rd"
    refine i_rI (cl _) ?_
    walk_at "rd"
    refine i_setL (ys := [V.int (c.fdiv l), V.int (k0 + 1), V.bl true]) e2 rfl rfl fun H3 e3 s3 => ?_
    walk_at "rd"
    exact k _ H3 (Int.emod_nonneg _ (by omega)) (Int.emod_lt_of_pos _ h0) (fun b hb => (s3 b hb).trans (s2 b hb)) ⟨_, _, _, e3, by omega, by omega⟩
theorem i_takeN {H : Hp} {p : Addr} {l : Int} {n : Nat} {Q : VK} {E : XK} (h : PoolN H p n) (hn : n ≤ 1000) (h0 : 0 < l) (hl : l ≤ 4000) (k : ∀ r H', 0 ≤ r → r < l → (∀ b, b ≠ p → H' b = H b) → PoolN H' p (n + 1) → Q (.int r) H') : spTakeN [.ref p, .int l] H Q E :=
  ⟨rfl, p, l, n, rfl, h, hn, h0, hl, k⟩
def NAMES : List Str := ["a", "b", "c", "d", "e", "f", "g", "h", "x", "x1", "x10", "xy", "y", "r0", "y9", "z", "low", "mid", "top", "p", "q22", "q", "step", "a1b2c3d4"]
def L0 : List Str := ["a", "b", "c", "d", "e", "f", "g", "h"]
def L1 : List Str := ["x", "x1", "x10", "xy", "y", "r0", "y9", "z"]
def L2' : List Str := ["low", "mid", "top", "p", "q22", "q", "step", "a1b2c3d4"]
def okL (L : List Str) : Bool := decide L.Nodup && L.all (fun z => decide (z ∈ NAMES)) && decide (L.length = 8)
theorem okL0 : okL L0 = true ∧ okL L1 = true ∧ okL L2' = true := by decide +kernel
theorem NAMES_ok : ∀ z ∈ NAMES, nameB z = true := by
  have h : (NAMES.all nameB) = true := by decide +kernel
  exact fun z hz => List.all_eq_true.mp h z hz
theorem erase_perm {α : Type} : ∀ {l : List α} {k : Nat} {v : α}, l[k]? = some v → (v :: l.eraseIdx k).Perm l
  | [], k, v, h => by simp at h
  | x :: l, 0, v, h => by
    have e : x = v := by simpa using h
    subst e
    exact .refl _
  | x :: l, k + 1, v, h => by
    have h2 : l[k]? = some v := by simpa using h
    exact (List.Perm.swap x v (l.eraseIdx k)).trans ((erase_perm h2).cons x)
theorem map_erase {α β : Type} (f : α → β) : ∀ (l : List α) (k : Nat), (l.map f).eraseIdx k = (l.eraseIdx k).map f
  | [], k => by simp
  | x :: l, 0 => rfl
  | x :: l, k + 1 => by
    show f x :: ((l.map f).eraseIdx k) = _
    rw [map_erase f l k]
    rfl
theorem draw_perm {zs rest : List Str} {k : Nat} {v : Str} {M : List Str} (h : (zs ++ rest).Perm M) (e : rest[k]? = some v) : ((zs ++ [v]) ++ rest.eraseIdx k).Perm M := by
  rw [List.append_assoc]
  exact ((erase_perm e).append_left zs).trans h
theorem PoolN.mono {H H' : Hp} {p : Addr} {n m : Nat} (h : PoolN H p n) (s : Same H H') (l : n ≤ m) : PoolN H' p m := let ⟨c, k, f, e, a, b⟩ := h; ⟨c, k, f, s _ _ e, a, by omega⟩
theorem PoolN.ne {H : Hp} {p q : Addr} {n : Nat} (h : PoolN H p n) {u : HO} (e : H q = some u) (d : ∀ x y z, u ≠ .lst [V.int x, V.int y, V.bl z]) : q ≠ p := fun z => by
  obtain ⟨c, k, f, ep, _⟩ := h
  rw [z, ep] at e
  cases e
  exact d _ _ _ rfl
theorem PoolN.nn {H : Hp} {p q : Addr} {n : Nat} (h : PoolN H p n) (e : H q = none) : q ≠ p := fun z => by
  obtain ⟨c, k, f, ep, _⟩ := h
  rw [z, ep] at e
  cases e
theorem PoolN.keep {H H' : Hp} {p : Addr} {n : Nat} (h : PoolN H p n) (e : H' p = H p) : PoolN H' p n := let ⟨c, k, f, e', a, b⟩ := h; ⟨c, k, f, by rw [e]; exact e', a, b⟩
def spShuf (K : PySem.W.Frag) : Sp := fun vs H Q _ => vs.length = 2 ∧ ∃ (p l : Addr) (n : Nat) (xs : List Str), vs = [.ref p, .ref l] ∧ PoolN H p n ∧ l ≠ p ∧ SqA K H l (xs.map V.str) ∧ xs.length ≤ 10 ∧ n + xs.length ≤ 1000 ∧
  ∀ (q : Addr) (H' : Hp) (ys : List Str), H q = none → But p H H' → PoolN H' p (n + xs.length) → H' q = some (.lst (ys.map V.str)) → ys.Perm xs → Q (.ref q) H'
abbrev s__law_shuffled : Stmt := top 34
theorem sc__law_shuffled : FnScope ["_law_pool_here", "_law_items", "_law_left", "_law_told", "_law_k"] ["_law_pool_here", "_law_items"] (defScope s__law_shuffled) := ⟨rfl, rfl, rfl, by decide +kernel, rfl, by decide +kernel, by decide +kernel⟩
theorem ok__law_shuffled {P : Program} {w : World} {K : PySem.W.Frag} {mg : Str → Option Value} {base : Heap} {f : Addr} {fd : FuncData} (F : L2.Fun K "_law_shuffled" "_law_shuffled" s__law_shuffled f fd)
    (C_b_len : mg "len" = none)
    (C_b_list : mg "list" = none)
    (C_b_range : mg "range" = none)
    (C_f_law_take : Cal P w K mg base "_law_take" 1 spTakeN) :
    FnOk P w K mg base (L2.CX P w) 2 f fd ["_law_pool_here", "_law_items"] (spShuf K) := by
  refine fnOk_mk F sc__law_shuffled (fun vs H Q E h => h.1) (fun cdv A outer s H vs Q E hr h => ?_)
  obtain ⟨_, p, l, n, xs, rfl, hp, hlp, hl, hx, hn, k⟩ := h
  refine ⟨_, pss_cons (ps_set (i := 2) sc__law_shuffled.nd rfl (Or.inl rfl) (pe_callTy (k_listA (K := K) rfl) (by rfl) C_b_list (by decide +kernel) (pa_cons (pv 1) pa_nil)))
    (pss_cons (ps_set (i := 3) sc__law_shuffled.nd rfl (Or.inl rfl) (pe_lst pa_nil))
    (pss_cons (ps_for (passes_of rfl) rfl (pi_range1 (by rfl) C_b_range (pa_cons (pe_callB (k_len (K := K) rfl) (by rfl) C_b_len (by decide +kernel) (pa_cons (pv 1) pa_nil)) pa_nil)) (pg_name (i := 4) sc__law_shuffled.nd rfl (Or.inl rfl)) (pss_one (ps_expr (pe_bm PySem.F.plainAttrs_list PySem.F.slot_list_append PySem.F.type_list_append mt_append (pv 3) (pa_cons (pe_bm PySem.F.plainAttrs_list PySem.F.slot_list_pop PySem.F.type_list_pop mt_popAt (pv 2) (pa_cons (z_callC C_f_law_take hr passN (pa_cons (pv 0) (pa_cons (pe_callB (k_len (K := K) rfl) (by rfl) C_b_len (by decide +kernel) (pa_cons (pv 2) pa_nil)) pa_nil))) pa_nil)) pa_nil)))))
    (pss_one (ps_ret (pv 3))))), ?_⟩
  try dsimp only [cxOf]
  walk_at "rd"
  refine i_listA hl fun pm H1 hpm s1 e1 o1 => ?_
  walk_at "rd"
  refine i_lst1 (Nat.le_of_ble_eq_true rfl) fun pf H2 hpf s2 e2 o2 => ?_
  walk_at "rd"
  refine i_lenA (sameA (s1.trans s2) hl) ?_
  rw [List.length_map]
  walk_at "rd"
  have pmn := hp.nn hpm
  have pfn := (hp.mono s1 (Nat.le_refl _)).nn hpf
  have pfm : pf ≠ pm := fun z => by rw [z, e1] at hpf; cases hpf
  have hpfH : H pf = none := same_noneV s1 hpf
  refine i_forR (n := xs.length) rfl (by omega) (fun i σ H' => ∃ (zs rest : List Str) (v : Option V), σ = [some (.ref p), some (.ref l), some (.ref pm), some (.ref pf), v] ∧ H' pm = some (.lst (rest.map V.str)) ∧ H' pf = some (.lst (zs.map V.str)) ∧ zs.length = i ∧ (zs ++ rest).Perm xs ∧ But p H H' ∧ PoolN H' p (n + i))
    ⟨[], xs, _, rfl, s2 _ _ e1, e2, rfl, .refl _, .of (s1.trans s2), hp.mono (s1.trans s2) (by omega)⟩ ?_ ?_
  · rintro i σ H3 hi ⟨zs, rest, v, rfl, em, ef, hz, perm, bt, pl⟩
    have hrl : zs.length + rest.length = xs.length := by have := perm.length_eq; rw [List.length_append] at this; exact this
    walk_at "rd"
    refine ⟨tyL ef, ?_⟩
    walk_at "rd"
    refine ⟨tyL em, ?_⟩
    walk_at "rd"
    refine i_lenL (SqL.of em) ?_
    rw [List.length_map]
    walk_at "rd"
    refine i_takeN pl (by omega) (by omega) (by omega) fun r H4 r0 r1 o4 pl4 => ?_
    obtain ⟨m, rfl⟩ : ∃ m : Nat, r = (m : Int) := ⟨r.toNat, by omega⟩
    walk_at "rd"
    have hm : m < rest.length := by omega
    have hv : rest[m]? = some rest[m] := by simp [hm]
    refine i_popAt (k := m) (v := .str rest[m]) (by rw [o4 _ pmn]; exact em) (by rw [List.length_map]; omega) (by rw [List.getElem?_map, hv]; rfl) fun H5 e5 o5 => ?_
    walk_at "rd"
    refine i_app (xs := zs.map V.str) (by rw [o5 _ pfm, o4 _ pfn]; exact ef) (by rw [List.length_map]; omega) fun H6 e6 o6 => ?_
    walk_at "rd"
    refine ⟨zs ++ [rest[m]], rest.eraseIdx m, _, rfl, ?_, by rw [e6, List.map_append]; rfl, by rw [List.length_append, hz]; rfl, draw_perm perm hv, ?_, ?_⟩
    · rw [o6 _ (Ne.symm pfm), e5, map_erase]
    · intro x o hx e
      rw [o6 x (ne_of_none e hpfH), o5 x (ne_of_none e hpm), o4 x hx]
      exact bt x o hx e
    · exact PoolN.keep (n := n + (i + 1)) (by rw [← Nat.add_assoc]; exact pl4) (by rw [o6 _ (Ne.symm pfn), o5 _ (Ne.symm pmn)])
  · rintro σ H3 ⟨zs, rest, v, rfl, em, ef, hz, perm, bt, pl⟩
    walk_at "rd"
    have r0 : rest = [] := by
      have := perm.length_eq
      rw [List.length_append] at this
      exact List.eq_nil_of_length_eq_zero (by omega)
    rw [r0, List.append_nil] at perm
    exact k pf H3 zs hpfH bt pl ef perm
def spNames (K : PySem.W.Frag) : Sp := fun vs H Q _ => vs.length = 2 ∧ ∃ (p : Addr) (m n : Nat), vs = [.ref p, .int (m : Nat)] ∧ PoolN H p n ∧ m ≤ 8 ∧ n ≤ 900 ∧
  ∀ (q : Addr) (H' : Hp) (zs : List Str), H q = none → But p H H' → PoolN H' p (n + 9) → H' q = some (.lst (zs.map V.str)) → zs.length = m → zs.Nodup → (∀ z ∈ zs, z ∈ NAMES) → Q (.ref q) H'
abbrev s__law_names : Stmt := top 35
theorem sc__law_names : FnScope ["_law_pool_here", "_law_many", "_law_lists"] ["_law_pool_here", "_law_many"] (defScope s__law_names) := ⟨rfl, rfl, rfl, by decide +kernel, rfl, by decide +kernel, by decide +kernel⟩
theorem ok__law_names {P : Program} {w : World} {K : PySem.W.Frag} {mg : Str → Option Value} {base : Heap} {f : Addr} {fd : FuncData} (F : L2.Fun K "_law_names" "_law_names" s__law_names f fd)
    (C_f_law_shuffled : Cal P w K mg base "_law_shuffled" 2 (spShuf K))
    (C_f_law_take : Cal P w K mg base "_law_take" 1 spTakeN) :
    FnOk P w K mg base (L2.CX P w) 3 f fd ["_law_pool_here", "_law_many"] (spNames K) := by
  refine fnOk_mk F sc__law_names (fun vs H Q E h => h.1) (fun cdv A outer s H vs Q E hr h => ?_)
  obtain ⟨_, p, m, n, rfl, hp, hm, hn, k⟩ := h
  refine ⟨_, pss_cons (ps_set (i := 2) sc__law_names.nd rfl (Or.inl rfl) (pe_lst (pa_cons (pe_lst (pa_cons pe_str (pa_cons pe_str (pa_cons pe_str (pa_cons pe_str (pa_cons pe_str (pa_cons pe_str (pa_cons pe_str (pa_cons pe_str pa_nil))))))))) (pa_cons (pe_lst (pa_cons pe_str (pa_cons pe_str (pa_cons pe_str (pa_cons pe_str (pa_cons pe_str (pa_cons pe_str (pa_cons pe_str (pa_cons pe_str pa_nil))))))))) pa_nil))))
    (pss_cons (ps_expr (pe_bm PySem.F.plainAttrs_list PySem.F.slot_list_append PySem.F.type_list_append mt_append (pv 2) (pa_cons (pe_lst (pa_cons pe_str (pa_cons pe_str (pa_cons pe_str (pa_cons pe_str (pa_cons pe_str (pa_cons pe_str (pa_cons pe_str (pa_cons pe_str pa_nil))))))))) pa_nil)))
    (pss_one (ps_ret (pe_slice sl_list (z_callC C_f_law_shuffled hr passN (pa_cons (pv 0) (pa_cons (pe_ix ix_list (pv 2) (z_callC C_f_law_take hr passN (pa_cons (pv 0) (pa_cons pe_int pa_nil))) (fun _ _ => rfl)) pa_nil))) po_none (po_some (pv 1)))))), ?_⟩
  try dsimp only [cxOf]
  walk_at "rd"
  refine i_lst1 (Nat.le_of_ble_eq_true rfl) fun a0 H1 ha0 s1 e0 o1 => ?_
  walk_at "rd"
  refine i_lst1 (Nat.le_of_ble_eq_true rfl) fun a1 H2 ha1 s2 e1 o2 => ?_
  walk_at "rd"
  refine i_lst1 (Nat.le_of_ble_eq_true rfl) fun al H3 hal s3 el o3 => ?_
  walk_at "rd"
  refine ⟨tyL el, ?_⟩
  walk_at "rd"
  refine i_lst1 (Nat.le_of_ble_eq_true rfl) fun a2 H4 ha2 s4 e2 o4 => ?_
  walk_at "rd"
  refine i_app (s4 _ _ el) (by simp only [List.length_cons, List.length_nil]; omega) fun H5 e5 o5 => ?_
  walk_at "rd"
  have t04 := ((s1.trans s2).trans s3).trans s4
  have hp4 := hp.mono t04 (Nat.le_refl _)
  have alp : al ≠ p := (hp.mono (s1.trans s2) (Nat.le_refl _)).nn hal
  have alH : H al = none := same_noneV (s1.trans s2) hal
  have hp5 : PoolN H5 p n := hp4.keep (o5 p (Ne.symm alp))
  refine i_takeN hp5 (by omega) (by decide) (by decide) fun r H6 r0 r1 o6 pl6 => ?_
  obtain ⟨j, rfl⟩ : ∃ m : Nat, r = (m : Int) := ⟨r.toNat, by omega⟩
  have b06 : But p H H6 := fun x u hx e => by
    rw [o6 x hx, o5 x (ne_of_none e alH)]
    exact t04 _ _ e
  have k0 : H6 a0 = some (.lst (L0.map V.str)) := by
    rw [o6 a0 (hp.nn ha0), o5 a0 (fun z => by rw [← z, s2 _ _ e0] at hal; cases hal)]
    exact s4 _ _ (s3 _ _ (s2 _ _ e0))
  have k1 : H6 a1 = some (.lst (L1.map V.str)) := by
    rw [o6 a1 ((hp.mono s1 (Nat.le_refl _)).nn ha1), o5 a1 (fun z => by rw [← z, e1] at hal; cases hal)]
    exact s4 _ _ (s3 _ _ e1)
  have k2 : H6 a2 = some (.lst (L2'.map V.str)) := by
    rw [o6 a2 ((hp.mono ((s1.trans s2).trans s3) (Nat.le_refl _)).nn ha2), o5 a2 (fun z => by rw [z, el] at ha2; cases ha2)]
    exact e2
  obtain ⟨b, L, eb, hb, hL⟩ : ∃ b L, ([V.ref a0, V.ref a1] ++ [V.ref a2])[j]? = some (V.ref b) ∧ H6 b = some (.lst (L.map V.str)) ∧ okL L = true := by
    have : j = 0 ∨ j = 1 ∨ j = 2 := by omega
    rcases this with rfl | rfl | rfl
    · exact ⟨a0, L0, rfl, k0, okL0.1⟩
    · exact ⟨a1, L1, rfl, k1, okL0.2.1⟩
    · exact ⟨a2, L2', rfl, k2, okL0.2.2⟩
  unfold okL at hL
  simp only [Bool.and_eq_true, decide_eq_true_eq, List.all_eq_true] at hL
  obtain ⟨⟨hLn, hLm⟩, hL8⟩ := hL
  refine i_ixL (k := j) (.of (by rw [o6 al alp]; exact e5)) eb ?_
  walk_at "rd"
  have bp : b ≠ p := pl6.ne hb fun x y z e => by
    injection e with e
    have := congrArg List.length e
    rw [List.length_map, hL8] at this
    cases this
  refine ⟨rfl, p, b, n + 1, L, rfl, pl6, bp, .l hb, by omega, by omega, fun q H7 ys hq bt7 pl7 eq7 perm => ?_⟩
  walk_at "rd"
  refine i_slL (.of eq7) (cut_to _ _) fun q8 H8 hq8 s8 e8 o8 => ?_
  rw [← List.map_take] at e8
  have yl : ys.length = 8 := by rw [perm.length_eq]; exact hL8
  refine k q8 H8 (ys.take m) ?_ ((b06.trans bt7).trans (.of s8)) (pl7.mono s8 (by omega)) e8 (by rw [List.length_take]; omega) ((perm.nodup_iff.mpr hLn).sublist (List.take_sublist _ _)) fun z hz => hLm z (perm.mem_iff.mp (List.mem_of_mem_take hz))
  cases z : H q8 with
  | none => rfl
  | some u =>
    by_cases e : q8 = p
    · obtain ⟨c, kk, f, ep, _⟩ := pl7
      rw [e, ep] at hq8
      cases hq8
    · rw [bt7 q8 u e (b06 q8 u e z)] at hq8
      cases hq8
def oneH (q : Addr) (xs : List V) : Hp := fun b => if b = q then some (.lst xs) else none
theorem one_seq {K : PySem.W.Frag} {q : Addr} {xs : List V} : SqA K (oneH q xs) q xs := SqA.l (if_pos rfl)
theorem one_same {q : Addr} {xs : List V} {H : Hp} (e : H q = some (.lst xs)) : Same (oneH q xs) H := fun b o h => by
  unfold oneH at h
  by_cases hb : b = q
  · rw [if_pos hb] at h; rw [hb, ← h]; exact e
  · rw [if_neg hb] at h; cases h
theorem upF_int {w : Str → Int} {z : Str} {c : Int} : upF (fun z => V.int (w z)) z (.int c) = fun y => V.int (upF w z c y) := by funext y; unfold upF; split <;> rfl
theorem But.of' {a : Addr} {H H' : Hp} (o : ∀ b, b ≠ a → H' b = H b) : But a H H' := fun x y hx e => by rw [o x hx]; exact e
/-- pairs of a line: the first one stands ahead of the second -/
def Ahead (ls : List Str) (E : List (Str × Str)) : Prop := ∀ e ∈ E, ∃ (i j : Nat), i < j ∧ ls[i]? = some e.1 ∧ ls[j]? = some e.2
theorem idx_nodup {ls : List Str} (h : ls.Nodup) {i : Nat} {z : Str} (e : ls[i]? = some z) : ls.idxOf z = i := by
  obtain ⟨hi, e⟩ := List.getElem?_eq_some_iff.mp e
  subst e
  exact h.idxOf_getElem i hi
theorem ahead_anti {ls : List Str} {E : List (Str × Str)} (h : ls.Nodup) (a : Ahead ls E) : OM.Anti E := by
  refine OM.anti_rank (fun z => ls.idxOf z) fun e he => .inr ?_
  obtain ⟨i, j, lt, e1, e2⟩ := a e he
  rw [idx_nodup h e1, idx_nodup h e2]
  exact lt
theorem TPr.app {H : Hp} {qs rs : List Addr} {E F : List (Str × Str)} (h : TPr H qs E) (g : TPr H rs F) : TPr H (qs ++ rs) (E ++ F) := by
  refine ⟨by rw [List.length_append, List.length_append, h.1, g.1], fun i q e hq he => ?_⟩
  by_cases lt : i < qs.length
  · rw [List.getElem?_append_left lt] at hq
    rw [List.getElem?_append_left (by rw [← h.1]; exact lt)] at he
    exact h.2 i q e hq he
  · rw [List.getElem?_append_right (by omega)] at hq
    rw [List.getElem?_append_right (by rw [← h.1]; omega), ← h.1] at he
    exact g.2 _ q e hq he
/-! ### an order drawn -/
theorem names_nm : ∀ z ∈ NAMES, nameB z = true := by
  have h : NAMES.all nameB = true := by decide +kernel
  exact fun z hz => List.all_eq_true.mp h z hz
theorem But.new {p D : Addr} {H0 H H' : Hp} (b : But p H0 H) (hD : H0 D = none) (o : ∀ b, b ≠ D → H' b = H b) : But p H0 H' := fun x u hx e => by rw [o x (ne_of_none e hD)]; exact b x u hx e
theorem nn_of {p D : Addr} {H H' : Hp} (b : But p H H') (hp : D ≠ p) (h : H' D = none) : H D = none := by
  cases z : H D with
  | none => rfl
  | some u => rw [b D u hp z] at h; cases h
/-- the law's order at o: its names ascending, its pairs -/
structure IsOrd (H : Hp) (o : Addr) (zs : List Str) (E : List (Str × Str)) : Prop where
  at_ : ∃ l c, H o = some (.tup [.ref l, .ref c]) ∧ H l = some (.lst (zs.map V.str)) ∧ LPr H c E
  nd : zs.Nodup
  pw : zs.Pairwise fun a b => ltS b a = false
  nm : ∀ z ∈ zs, z ∈ NAMES
  sub : ∀ e ∈ E, e.1 ∈ zs ∧ e.2 ∈ zs
  anti : OM.Anti E
  len : 1 ≤ zs.length ∧ zs.length ≤ 6
  elen : E.length ≤ 15
theorem IsOrd.mono {H H' : Hp} {o : Addr} {zs : List Str} {E : List (Str × Str)} (s : Same H H') (h : IsOrd H o zs E) : IsOrd H' o zs E :=
  ⟨let ⟨l, c, h1, h2, h3⟩ := h.at_; ⟨l, c, s _ _ h1, s _ _ h2, h3.mono s⟩, h.nd, h.pw, h.nm, h.sub, h.anti, h.len, h.elen⟩
theorem IsOrd.names {H : Hp} {o : Addr} {zs : List Str} {E : List (Str × Str)} (h : IsOrd H o zs E) : ∀ z ∈ zs, nameB z = true := fun z hz => names_nm z (h.nm z hz)
def tri : Nat → Nat
  | 0 => 0
  | j + 1 => tri j + j
theorem tri_le : ∀ m, m < 7 → tri m ≤ 15 := by decide
def spOrd (K : PySem.W.Frag) : Sp := fun vs H Q _ => vs.length = 2 ∧ ∃ (p : Addr) (m n : Nat), vs = [.ref p, .int (m : Nat)] ∧ PoolN H p n ∧ 1 ≤ m ∧ m ≤ 6 ∧ n ≤ 800 ∧
  ∀ (o : Addr) (H' : Hp) (zs : List Str) (E : List (Str × Str)), H o = none → But p H H' → PoolN H' p (n + 26) → IsOrd H' o zs E → zs.length = m → Q (.ref o) H'
abbrev s__law_order : Stmt := top 36
theorem sc__law_order : FnScope ["_law_pool_here", "_law_many", "_law_names_here", "_law_pairs", "_law_odds", "_law_j", "_law_i"] ["_law_pool_here", "_law_many"] (defScope s__law_order) := ⟨rfl, rfl, rfl, by decide +kernel, rfl, by decide +kernel, by decide +kernel⟩
theorem ok__law_order {P : Program} {w : World} {K : PySem.W.Frag} {mg : Str → Option Value} {base : Heap} {f : Addr} {fd : FuncData} (F : L2.Fun K "_law_order" "_law_order" s__law_order f fd)
    (C_b_range : mg "range" = none)
    (C_b_sorted : mg "sorted" = none)
    (C_f_law_names : Cal P w K mg base "_law_names" 3 (spNames K))
    (C_f_law_take : Cal P w K mg base "_law_take" 1 spTakeN) :
    FnOk P w K mg base (L2.CX P w) 4 f fd ["_law_pool_here", "_law_many"] (spOrd K) := by
  refine fnOk_mk F sc__law_order (fun vs H Q E h => h.1) (fun cdv A outer s H vs Q E hr h => ?_)
  obtain ⟨_, p, m, n, rfl, hp, m1, m6, hn, k⟩ := h
  refine ⟨_, pss_cons (ps_set (i := 2) sc__law_order.nd rfl (Or.inr rfl) (z_callC C_f_law_names hr passN (pa_cons (pv 0) (pa_cons (pv 1) pa_nil))))
    (pss_cons (ps_set (i := 3) sc__law_order.nd rfl (Or.inl rfl) (pe_lst pa_nil))
    (pss_cons (ps_set (i := 4) sc__law_order.nd rfl (Or.inr rfl) (pe_ix ix_list (pe_lst (pa_cons pe_int (pa_cons pe_int (pa_cons pe_int (pa_cons pe_int (pa_cons pe_int pa_nil)))))) (z_callC C_f_law_take hr passN (pa_cons (pv 0) (pa_cons pe_int pa_nil))) (fun _ _ => rfl)))
    (pss_cons (ps_for (passes_of rfl) rfl (pi_range1 (by rfl) C_b_range (pa_cons (pv 1) pa_nil)) (pg_name (i := 5) sc__law_order.nd rfl (Or.inr rfl)) (pss_one (ps_set (i := 3) sc__law_order.nd rfl (Or.inl rfl) (pe_op op_cat (pv 3) (pe_lc (own := [("_law_i", 6)]) (by rfl) sc__law_order.nd (pi_range1 (by rfl) C_b_range (pa_cons (pv 5) pa_nil)) (blkOk_by (N := ["_law_pool_here", "_law_many", "_law_names_here", "_law_pairs", "_law_odds", "_law_j", "_law_i"]) (sc := defScope s__law_order) (by decide +kernel)) (fun _ _ _ _ _ => pg_name (i := 6) sc__law_order.nd rfl (Or.inl rfl)) (fun _ _ _ _ _ => pts_one (pt_cmpR op_eq (z_callC C_f_law_take hr passN (pa_cons (pv 0) (pa_cons (pv 4) pa_nil))) pe_int (nomark _))) (fun _ _ _ _ _ => pe_tup (pa_cons (pe_ix (k_ixL (K := K) rfl) (pv 2) (pv 6) (fun _ _ => rfl)) (pa_cons (pe_ix (k_ixL (K := K) rfl) (pv 2) (pv 5) (fun _ _ => rfl)) pa_nil))))))))
    (pss_one (ps_ret (pe_tup (pa_cons (pe_callB (k_sort (K := K) rfl) (by rfl) C_b_sorted (by decide +kernel) (pa_cons (pv 2) pa_nil)) (pa_cons (pv 3) pa_nil)))))))), ?_⟩
  try dsimp only [cxOf]
  walk_at "rd"
  refine ⟨rfl, p, m, n, rfl, hp, by omega, by omega, fun ln H1 ls hln b1 pl1 e1 ll lnd lm => ?_⟩
  walk_at "rd"
  refine i_lst1 (Nat.le_of_ble_eq_true rfl) fun c0 H2 hc0 s2 e2 o2 => ?_
  walk_at "rd"
  refine i_lst1 (Nat.le_of_ble_eq_true rfl) fun od H3 hod s3 e3 o3 => ?_
  walk_at "rd"
  have pl3 := pl1.mono (s2.trans s3) (Nat.le_refl _)
  refine i_takeN pl3 (by omega) (by decide) (by decide) fun r H4 r0 r1 o4 pl4 => ?_
  have lnp : ln ≠ p := hp.nn hln
  have e3p : od ≠ p := (pl1.mono s2 (Nat.le_refl _)).nn hod
  have hr : r = 0 ∨ r = 1 ∨ r = 2 ∨ r = 3 ∨ r = 4 := by omega
  obtain ⟨w, hw, w0, w9⟩ : ∃ w : Int, ([V.int 2, .int 3, .int 4, .int 1, .int 9] : List V)[r.toNat]? = some (.int w) ∧ 0 < w ∧ w ≤ 9 := by
    rcases hr with rfl | rfl | rfl | rfl | rfl
    · exact ⟨2, rfl, by decide, by decide⟩
    · exact ⟨3, rfl, by decide, by decide⟩
    · exact ⟨4, rfl, by decide, by decide⟩
    · exact ⟨1, rfl, by decide, by decide⟩
    · exact ⟨9, rfl, by decide, by decide⟩
  obtain ⟨r, rfl⟩ : ∃ k : Nat, r = (k : Int) := ⟨r.toNat, by omega⟩
  rw [Int.toNat_natCast] at hw
  refine i_ixL (k := r) (.of (by rw [o4 od e3p]; exact e3)) hw ?_
  walk_at "rd"
  have c0p : c0 ≠ p := pl1.nn hc0
  have b4 : But p H H4 := b1.trans ((But.of (s2.trans s3)).trans (But.of' o4))
  have e4 : H4 c0 = some (.lst (([] : List Addr).map V.ref)) := by rw [o4 c0 c0p]; exact s3 _ _ e2
  have e14 : H4 ln = some (.lst (ls.map V.str)) := by rw [o4 ln lnp]; exact s3 _ _ (s2 _ _ e1)
  refine i_forR (n := m) rfl (by omega) (fun j σ H' => ∃ (c : Addr) (E : List (Str × Str)) (v5 v6 : Option V), σ = [some (.ref p), some (.int (m : Nat)), some (.ref ln), some (.ref c), some (.int w), v5, v6] ∧ But p H4 H' ∧ PoolN H' p (n + 10 + tri j) ∧ LPr H' c E ∧ Ahead ls E ∧ E.length ≤ tri j) ⟨c0, [], none, none, rfl, .of (.refl _), pl4, ⟨[], e4, .nil⟩, (fun e he => by cases he), Nat.le_refl _⟩ ?_ ?_
  · rintro j σ H5 hj ⟨c, E, v5, v6, rfl, b5, pl5, lp5, ah, el⟩
    walk_at "rd"
    have tj := tri_le j (by omega)
    have eln5 := b5 _ _ lnp e14
    have cp : c ≠ p := by
      obtain ⟨qs, g, _⟩ := lp5
      exact pl5.ne g fun x y z e => by
        injection e with e
        cases qs with
        | nil => cases e
        | cons a as => rw [List.map_cons] at e; cases e
    refine i_lcR1 (n := j) rfl (by omega) (fun i ys H' => But p H5 H' ∧ PoolN H' p (n + 10 + tri j + i) ∧ ∃ (qs : List Addr) (F : List (Str × Str)), ys = qs.map V.ref ∧ TPr H' qs F ∧ F.length ≤ i ∧ ∀ e ∈ F, ∃ i', i' < i ∧ ls[i']? = some e.1 ∧ ls[j]? = some e.2) (fun D H' hD s e ho => ⟨.of s, pl5.mono s (by omega), [], [], rfl, .nil, Nat.le_refl _, fun e he => by cases he⟩) ?_ ?_
    · rintro i D ys H6 hD hi eD ⟨b6, pl6, qs, F, rfl, tp, lF, hF⟩
      walk_at "rd"
      refine ⟨by with_unfolding_all rfl, ?_⟩
      walk_at "rd"
      refine i_takeN pl6 (by omega) w0 (by omega) fun r7 H7 r70 r71 o7 pl7 => ?_
      walk_at "rd"
      have Dp : D ≠ p := pl5.nn hD
      have b7 : But p H5 H7 := b6.trans (.of' o7)
      have eD7 : H7 D = some (.lst (qs.map V.ref)) := by rw [o7 D Dp]; exact eD
      have tp7 : TPr H7 qs F := tp.keep fun a ys e => by
        rw [o7 a (pl6.ne e fun x y z k => by cases k)]; exact e
      have hF' : ∀ e ∈ F, ∃ i', i' < i + 1 ∧ ls[i']? = some e.1 ∧ ls[j]? = some e.2 := fun e he => by
        obtain ⟨i', g1, g2⟩ := hF e he
        exact ⟨i', by omega, g2⟩
      refine i_dec (fun e => ?_) (fun e => ?_)
      · walk_at "rd"
        have eln7 := b7 _ _ lnp eln5
        rw [show (0 : Int) + (i : Int) = ((i : Nat) : Int) from Int.zero_add _]
        obtain ⟨a, ha⟩ : ∃ a, ls[i]? = some a := ⟨ls[i]'(by omega), List.getElem?_eq_getElem (by omega)⟩
        obtain ⟨b, hb⟩ : ∃ b, ls[j]? = some b := ⟨ls[j]'(by omega), List.getElem?_eq_getElem (by omega)⟩
        refine i_ixL (k := i) (.of eln7) (by rw [List.getElem?_map, ha]; rfl) ?_
        walk_at "rd"
        refine i_ixL (k := j) (.of eln7) (by rw [List.getElem?_map, hb]; rfl) ?_
        walk_at "rd"
        refine i_tup1 (Nat.le_of_ble_eq_true rfl) fun t H8 ht s8 e8 o8 => ?_
        have lq : qs.length = F.length := tp7.1
        refine i_lcE (s8 _ _ eD7) (by rw [List.length_map]; omega) fun H9 e9 o9 => ⟨(b7.trans (.of s8)).new hD o9, PoolN.keep (H := H8) (pl7.mono s8 (by omega)) (o9 p (Ne.symm Dp)), qs ++ [t], F ++ [(a, b)], by rw [List.map_append]; rfl, ?_, by rw [List.length_append]; simp; omega, fun e he => ?_⟩
        · refine ((tp7.mono s8).snoc e8).keep fun x ys e => ?_
          rw [o9 x (fun z => by rw [z, s8 _ _ eD7] at e; cases e)]
          exact e
        · rcases List.mem_append.mp he with h | h
          · exact hF' e h
          · rw [List.mem_singleton.mp h]
            exact ⟨i, by omega, ha, hb⟩
      · exact ⟨_, eD7, b7, pl7.mono (.refl _) (by omega), qs, F, rfl, tp7, by omega, hF'⟩
    rintro D ys H6 hD eD ⟨b6, pl6, qs, F, rfl, tp, lF, hF⟩
    obtain ⟨q0, g1, g2⟩ := lp5
    have e6 := b6 _ _ cp g1
    have tp0 : TPr H6 q0 E := g2.keep fun a ys e => b6 a _ (pl5.ne e fun x y z k => by cases k) e
    have l0 : q0.length = E.length := g2.1
    have l1 : qs.length = F.length := tp.1
    refine i_cat e6 eD (by rw [List.length_map, List.length_map]; omega) fun c1 H7 hc1 s7 e7 o7 => ?_
    walk_at "rd"
    refine ⟨c1, E ++ F, _, _, rfl, b5.trans (b6.trans (.of s7)), pl6.mono s7 (by show n + 10 + tri j + j ≤ n + 10 + (tri j + j); omega), ⟨q0 ++ qs, by rw [e7, List.map_append], (tp0.app tp).mono s7⟩, fun e he => ?_, ?_⟩
    · rcases List.mem_append.mp he with h | h
      · exact ah e h
      · obtain ⟨i', h1, h2, h3⟩ := hF e h
        exact ⟨i', j, h1, h2, h3⟩
    · rw [List.length_append]
      show _ ≤ tri j + j
      omega
  · rintro σ H5 ⟨c, E, v5, v6, rfl, b5, pl5, lp5, ah, el⟩
    have tm := tri_le m (by omega)
    walk_at "rd"
    have eln5 := b5 _ _ lnp e14
    refine i_sort (.inl (.of eln5)) (by omega) fun l H6 hl s6 o6 e6 => ?_
    walk_at "rd"
    refine i_tup1 (Nat.le_of_ble_eq_true rfl) fun o H7 ho s7 e7 o7 => ?_
    have s57 := s6.trans s7
    have perm := srt_perm ls
    have b57 : But p H H7 := (b4.trans b5).trans (.of s57)
    have hop : o ≠ p := pl5.nn (same_noneV s6 ho)
    refine k o H7 (srt ls) E (nn_of (b4.trans (b5.trans (.of s6))) hop ho) b57 (pl5.mono s57 (by omega)) ⟨⟨l, c, e7, s7 _ _ e6, lp5.mono s57⟩, srt_nodup lnd, srt_pw ls, fun z hz => lm z (mem_srt.mp hz), fun e he => ?_, ahead_anti lnd ah, by rw [perm.length_eq, ll]; omega, by omega⟩ (by rw [perm.length_eq, ll])
    obtain ⟨i, j, _, g1, g2⟩ := ah e he
    exact ⟨mem_srt.mpr (List.mem_of_getElem? g1), mem_srt.mpr (List.mem_of_getElem? g2)⟩
/-- pairs handed to dict(..) -/
def PsT (H : Hp) (ps : List Addr) (kvs : List (Key × V)) : Prop := Paired (fun p kv => H p = some (.tup [kV kv.1, kv.2])) ps kvs
theorem PsT.mono {H H' : Hp} {ps : List Addr} {kvs : List (Key × V)} (h : PsT H ps kvs) (s : ∀ b xs, H b = some (.tup xs) → H' b = some (.tup xs)) : PsT H' ps kvs := L2.Paired.mapP h fun _ _ e => s _ _ e
theorem PsT.snoc {H : Hp} {ps : List Addr} {zs : List Str} {f : Str → V} {z : Str} {t : Addr} {v : V} (h : PsT H ps (dF zs f)) (nz : z ∉ zs) (e : H t = some (.tup [.str z, v])) : PsT H (ps ++ [t]) (dF (zs ++ [z]) (upF f z v)) := by
  unfold dF
  rw [List.map_append]
  refine Paired.snoc ?_ (by show H t = some (.tup [.str z, upF f z v z]); unfold upF; rw [if_pos rfl]; exact e)
  have : (zs.map fun y => ((Sum.inr y : Key), upF f z v y)) = dF zs f := dF_congr (f := upF f z v) fun y hy => by
    unfold upF
    rw [if_neg (fun e => nz (by rw [← e]; exact hy))]
  rw [this]
  exact h
theorem i_dictP {K : PySem.W.Frag} {a : Addr} {ps : List Addr} {zs : List Str} {f : Str → V} {H : Hp} {Q : VK} (e : H a = some (.lst (ps.map V.ref))) (h : PsT H ps (dF zs f)) (hn : zs.Nodup)
    (k : ∀ q H', H q = none → Same H H' → (∀ b, b ≠ q → H' b = H b) → H' q = some (.dK (dF zs f)) → Q (.ref q) H') : rDictP K [.ref a] H Q :=
  ⟨a, ps, dF zs f, rfl, .of e, L2.Paired.mapP h fun _ _ e => .of e, fun q hq => by rw [mergeK_dF hn]; exact k q _ hq (same_new hq) (fun b hb => upd_ne hb) upd_same⟩
def TupS (H H' : Hp) : Prop := ∀ b xs, H b = some (.tup xs) → H' b = some (.tup xs)
theorem Same.tups {H H' : Hp} (s : Same H H') : TupS H H' := fun _ _ e => s _ _ e
theorem PoolN.tups {H H' : Hp} {p : Addr} {n : Nat} (h : PoolN H p n) (b : But p H H') : TupS H H' := fun c xs e => b c _ (h.ne e fun _ _ _ z => by cases z) e
theorem tups_at {H H' : Hp} {d : Addr} {u : HO} (o : ∀ b, b ≠ d → H' b = H b) (e : H d = some u) (n : ∀ xs, u ≠ .tup xs) : TupS H H' := fun b xs g => by rw [o b (fun y => by rw [y, e] at g; injection g with g; exact n _ g)]; exact g
/-- the law's own table: what is above each name, in any order -/
def LTab (H : Hp) (d : Addr) (N : List Str) (W : Str → List Str) : Prop := ∃ A, H d = some (.dK (rowsOf N A)) ∧ ∀ n ∈ N, H (A n) = some (.lst ((W n).map V.str))
theorem LTab.mono {H H' : Hp} {d : Addr} {N : List Str} {W : Str → List Str} (s : Same H H') (h : LTab H d N W) : LTab H' d N W := let ⟨A, h1, h2⟩ := h; ⟨A, s _ _ h1, fun n hn => s _ _ (h2 n hn)⟩
theorem LTab.keep {H H' : Hp} {d p : Addr} {o : HO} {N : List Str} {W : Str → List Str} (e : H p = some o) (n1 : ∀ ks, o ≠ .dK ks) (n2 : ∀ zs : List Str, o ≠ .lst (zs.map V.str)) (t : But p H H') (h : LTab H d N W) : LTab H' d N W := by
  obtain ⟨A, h1, h2⟩ := h
  refine ⟨A, t _ _ (fun z => ?_) h1, fun n hn => t _ _ (fun z => ?_) (h2 n hn)⟩
  · rw [z, e] at h1
    exact n1 _ (Option.some.inj h1)
  · have := h2 n hn
    rw [z, e] at this
    exact n2 _ (Option.some.inj this)
/-- the table while it is made -/
structure LSt (H : Hp) (d : Addr) (L N : List Str) (A : Str → Addr) (W : Str → List Str) (H1 : Hp) : Prop where
  same : Same H H1
  dn : H d = none
  tab : H1 d = some (.dK (rowsOf L A))
  row : ∀ n ∈ L, H1 (A n) = some (.lst ((W n).map V.str))
  nd : ∀ n ∈ N, (W n).Nodup
  sub : ∀ n ∈ N, ∀ x ∈ W n, x ∈ N
theorem LSt.sames {H H1 H2 : Hp} {d : Addr} {L N : List Str} {A : Str → Addr} {W : Str → List Str} (c : LSt H d L N A W H1) (s : Same H1 H2) : LSt H d L N A W H2 := ⟨c.same.trans s, c.dn, s _ _ c.tab, fun n hn => s _ _ (c.row n hn), c.nd, c.sub⟩
theorem LSt.put {H H1 H2 : Hp} {d q : Addr} {N : List Str} {A : Str → Addr} {W : Str → List Str} {p : Str × Str} (c : LSt H d N N A W H1) (h1 : p.1 ∈ N) (h2 : p.2 ∈ N) (eq : H1 q = some (.lst ((W p.1 ++ (W p.2).filter fun x => !decide (x ∈ W p.1)).map V.str)))
    (e : H2 d = some (.dK (putK (rowsOf N A) (.inr p.1) (.ref q)))) (ho : ∀ b, b ≠ d → H2 b = H1 b) : LSt H d N N (setF A p.1 q) (OM.turn1 W p) H2 where
  same := fun b o eb => by
    rw [ho b (ne_of_none eb c.dn)]
    exact c.same _ _ eb
  dn := c.dn
  tab := by rw [e, rows_put h1]
  row := fun n hn => by
    have key : ∀ a xs, H1 a = some (.lst xs) → H2 a = some (.lst xs) := fun a xs ea => by
      rw [ho a fun z => ?_]
      · exact ea
      · rw [z, c.tab] at ea
        cases ea
    unfold OM.turn1 OM.put
    by_cases h : n = p.1
    · rw [if_pos h, h, setF_same]
      exact key _ _ eq
    · rw [if_neg h, setF_ne h]
      exact key _ _ (c.row n hn)
  nd := fun n hn => by
    unfold OM.turn1 OM.put
    split
    · refine List.nodup_append.mpr ⟨c.nd _ h1, (c.nd _ h2).filter _, ?_⟩
      intro x hx y hy e
      subst e
      have := (List.mem_filter.mp hy).2
      simp [hx] at this
    · exact c.nd n hn
  sub := fun n hn x hx => by
    unfold OM.turn1 OM.put at hx
    split at hx
    · rcases List.mem_append.mp hx with h | h
      · exact c.sub _ h1 x h
      · exact c.sub _ h2 x (List.mem_filter.mp h).1
    · exact c.sub n hn x hx
theorem turn_snoc {E : List (Str × Str)} {j : Nat} {e : Str × Str} {W : Str → List Str} (h : E[j]? = some e) : OM.turn (E.take (j + 1)) W = OM.turn1 (OM.turn (E.take j) W) e := by
  unfold OM.turn
  rw [take_snoc h, List.foldl_append]
  rfl
/-- lists of texts compared with a new list -/
theorem shaped_lstS {zs : List Str} (h : ∀ z ∈ zs, nameB z = true) : SeqAt.shaped (.list (zs.map PyData.str)) = true := by
  have := shaped_tupS h
  unfold SeqAt.shaped at *
  simpa [PyData.depth, PyData.canLay0] using this
theorem eqv_lstS (zs ws : List Str) : PyData.eqv (.list (zs.map PyData.str)) (.list (ws.map PyData.str)) = decide (zs = ws) := by
  show PyData.eqvAll _ _ = _
  exact eqv_strs zs ws
/-- what the law knows about its names and its table -/
structure Tbl (zs : List Str) (W : Str → List Str) (R : Str → Str → Bool) : Prop where
  len : zs.length ≤ 8
  nd : zs.Nodup
  ok : ∀ n ∈ zs, nameB n = true
  wnd : ∀ n ∈ zs, (W n).Nodup
  mem : ∀ n ∈ zs, ∀ x, x ∈ W n ↔ x ∈ zs ∧ R n x = true
  rf : ∀ a, R a a = true
theorem Tbl.srt {zs : List Str} {W : Str → List Str} {R : Str → Str → Bool} (t : Tbl zs W R) {n : Str} (hn : n ∈ zs) : srt (W n) = OM.ab (srt zs) R n :=
  srt_filter (srt_nodup t.nd) (srt_pw zs) (t.wnd n hn) fun a => by rw [t.mem n hn, mem_srt]
theorem Tbl.wlen {zs : List Str} {W : Str → List Str} {R : Str → Str → Bool} (t : Tbl zs W R) {n : Str} (hn : n ∈ zs) : (W n).length ≤ 8 :=
  Nat.le_trans (nodup_len (t.wnd n hn) fun x hx => ((t.mem n hn x).mp hx).1) t.len
theorem mem_of_rch {E : List (Str × Str)} {N : List Str} (hE : ∀ p ∈ E, p.1 ∈ N ∧ p.2 ∈ N) {a b : Str} (h : OM.Rch E a b) : a ∈ N → b ∈ N := by
  induction h with
  | refl => exact fun h => h
  | step e _ ih => exact fun _ => ih (hE _ e).2
theorem tbl_of {E : List (Str × Str)} {zs : List Str} (hl : zs.length ≤ 8) (hn : zs.Nodup) (ho : ∀ n ∈ zs, nameB n = true) (hE : ∀ p ∈ E, p.1 ∈ zs ∧ p.2 ∈ zs) : Tbl zs (OM.turns E zs.length fun x => [x]) (OM.cl E) where
  len := hl
  nd := hn
  ok := ho
  wnd := fun n _ => OM.turns_nodup n
  mem := fun n hn x => by
    rw [OM.turns_iff hE]
    exact ⟨fun h => ⟨mem_of_rch hE (OM.cl_iff.mp h) hn, h⟩, fun h => h.2⟩
  rf := OM.cl_refl E/-! ### what is above, by the law -/
def spAbv (K : PySem.W.Frag) : Sp := fun vs H Q _ => vs.length = 1 ∧ ∃ (o : Addr) (zs : List Str) (E : List (Str × Str)), vs = [.ref o] ∧ IsOrd H o zs E ∧
  ∀ d H', H d = none → Same H H' → LTab H' d zs (OM.turns E zs.length fun x => [x]) → Q (.ref d) H'
abbrev s__law_above : Stmt := top 37
theorem sc__law_above : FnScope ["_law_order_here", "_law_found", "_law_name", "_law_turn", "_law_low", "_law_high"] ["_law_order_here"] (defScope s__law_above) := ⟨rfl, rfl, rfl, by decide +kernel, rfl, by decide +kernel, by decide +kernel⟩
theorem ok__law_above {P : Program} {w : World} {K : PySem.W.Frag} {mg : Str → Option Value} {base : Heap} {f : Addr} {fd : FuncData} (F : L2.Fun K "_law_above" "_law_above" s__law_above f fd)
    (C_b_dict : mg "dict" = none)
    (C_b_len : mg "len" = none)
    (C_b_range : mg "range" = none) :
    FnOk P w K mg base (L2.CX P w) 1 f fd ["_law_order_here"] (spAbv K) := by
  refine fnOk_mk F sc__law_above (fun vs H Q E h => h.1) (fun cdv A outer s H vs Q E hr h => ?_)
  obtain ⟨_, o, zs, E, rfl, io, k⟩ := h
  obtain ⟨l, c, eo, el, lp⟩ := io.at_
  obtain ⟨ps, hc, hp⟩ := lp.a (K := K)
  have hnd := io.nd
  have hE := io.sub
  have hz := io.len.2
  refine ⟨_, pss_cons (ps_set (i := 1) sc__law_above.nd rfl (Or.inr rfl) (pe_callTy (k_dictP (K := K) rfl rfl) (by rfl) C_b_dict (by decide +kernel) (pa_cons (pe_lc (own := [("_law_name", 2)]) (by rfl) sc__law_above.nd (pi_any (K := K) rfl (pe_ix ix_tup (pv 0) pe_int (fun _ _ => rfl))) (blkOk_by (N := ["_law_order_here", "_law_found", "_law_name", "_law_turn", "_law_low", "_law_high"]) (sc := defScope s__law_above) (by decide +kernel)) (fun _ _ _ _ _ => pg_name (i := 2) sc__law_above.nd rfl (Or.inl rfl)) (fun _ _ _ _ _ => pts_nil) (fun _ _ _ _ _ => pe_tup (pa_cons (pv 2) (pa_cons (pe_lst (pa_cons (pv 2) pa_nil)) pa_nil)))) pa_nil)))
    (pss_cons (ps_for (passes_of rfl) rfl (pi_range1 (by rfl) C_b_range (pa_cons (pe_callB (k_len (K := K) rfl) (by rfl) C_b_len (by decide +kernel) (pa_cons (pe_ix ix_tup (pv 0) pe_int (fun _ _ => rfl)) pa_nil)) pa_nil)) (pg_name (i := 3) sc__law_above.nd rfl (Or.inl rfl)) (pss_one (ps_for (passes_of rfl) rfl (pi_any (K := K) rfl (pe_ix ix_tup (pv 0) pe_int (fun _ _ => rfl))) (k_tup (K := K) (n := 2) rfl rfl (pgs_cons (pg_name (i := 4) sc__law_above.nd rfl (Or.inr rfl)) (pgs_cons (pg_name (i := 5) sc__law_above.nd rfl (Or.inl rfl)) pgs_nil))) (pss_one (ps_dput (hu_of hr) (pv 1) (pv 4) (pe_op op_cat (pe_dget (hu_of hr) (pv 1) (pv 4) (fun _ _ => rfl)) (pe_lc (own := [("_law_name", 2)]) (by rfl) sc__law_above.nd (pi_any (K := K) rfl (pe_dget (hu_of hr) (pv 1) (pv 5) (fun _ _ => rfl))) (blkOk_by (N := ["_law_order_here", "_law_found", "_law_name", "_law_turn", "_law_low", "_law_high"]) (sc := defScope s__law_above) (by decide +kernel)) (fun _ _ _ _ _ => pg_name (i := 2) sc__law_above.nd rfl (Or.inl rfl)) (fun _ _ _ _ _ => pts_one (pt_cmpR (k_notInS (K := K) rfl) (pv 2) (pe_dget (hu_of hr) (pv 1) (pv 4) (fun _ _ => rfl)) rfl)) (fun _ _ _ _ _ => pv 2))) (by rfl))))))
    (pss_one (ps_ret (pv 1)))), ?_⟩
  try dsimp only [cxOf]
  walk_at "rd"
  refine i_ixT0 (.of eo) ?_
  refine i_lcA (H0 := H) (fun i ys H' => Same H H' ∧ ∃ (qs : List Addr) (A : Str → Addr), ys = qs.map V.ref ∧ qs.length = i ∧ PsT H' qs (dF (zs.take i) fun z => .ref (A z)) ∧ ∀ n ∈ zs.take i, H' (A n) = some (.lst [.str n])) (SqA.l el) (.refl _) (fun D H' hD s e ho => ⟨s, [], fun _ => o, rfl, rfl, .nil, fun n hn => by simp at hn⟩) (fun i ys H' h => h.1) ?_ ?_
  · rintro i x D ys H1 hD hx eD ⟨s1, qs, A, rfl, lq, hT, hA⟩
    obtain ⟨z, hzi, rfl⟩ := strs_at hx
    have hi := (List.getElem?_eq_some_iff.mp hzi).1
    walk_at "rd"
    refine ⟨by with_unfolding_all rfl, ?_⟩
    walk_at "rd"
    refine i_lst1 (Nat.le_of_ble_eq_true rfl) fun q H2 hq s2 e2 o2 => ?_
    walk_at "rd"
    refine i_tup1 (Nat.le_of_ble_eq_true rfl) fun t H3 ht s3 e3 o3 => ?_
    have s13 := s2.trans s3
    refine i_lcE (s13 _ _ eD) (by rw [List.length_map]; omega) fun H4 e4 o4 => ⟨fun b u e => by rw [o4 b (ne_of_none e hD)]; exact s13 _ _ (s1 _ _ e), qs ++ [t], setF A z q, by rw [List.map_append]; rfl, by rw [List.length_append, lq]; rfl, ?_, fun n hn => ?_⟩
    · have T4 : TupS H3 H4 := tups_at o4 (s13 _ _ eD) fun xs z => by cases z
      have := ((hT.mono fun b xs e => s13 _ _ e).snoc (nodup_take hnd hzi) e3).mono T4
      rw [take_snoc hzi]
      have ef : upF (fun z => V.ref (A z)) z (V.ref q) = fun y => V.ref (setF A z q y) := by
        funext y
        unfold upF setF
        split <;> rfl
      rw [ef] at this
      exact this
    · have old : ∀ {a : Addr} {m : Str}, H3 a = some (.lst [.str m]) → H4 a = some (.lst [.str m]) := fun {a m} e => by
        rw [o4 a fun w => ?_]
        · exact e
        · rw [w, s13 _ _ eD] at e
          injection e with e
          injection e with e
          cases qs with
          | nil => cases e
          | cons y ys => rw [List.map_cons] at e; cases e
      rw [take_snoc hzi] at hn
      by_cases en : n = z
      · subst en
        rw [setF_same]
        exact old (s3 _ _ e2)
      · rw [setF_ne en]
        rcases List.mem_append.mp hn with h | h
        · exact old (s13 _ _ (hA n h))
        · exact absurd (List.mem_singleton.mp h) en
  rintro D ys H1 hD eD ⟨s1, qs, A, rfl, lq, hT, hA⟩
  rw [List.length_map] at lq
  rw [List.length_map, List.take_length] at hT hA
  walk_at "rd"
  refine i_dictP eD hT hnd fun d H2 hd s2 o2 e2 => ?_
  walk_at "rd"
  have s02 := s1.trans s2
  have dH : H d = none := same_noneV s1 hd
  have st : LSt H d zs zs A (fun n => [n]) H2 := ⟨s02, dH, e2, fun n hn => s2 _ _ (hA n hn), fun n hn => by simp, fun n hn x hx => by rw [List.mem_singleton.mp hx]; exact hn⟩
  refine i_ixT0 (.of (s02 _ _ eo)) ?_
  walk_at "rd"
  refine i_lenA (SqA.l (s02 _ _ el)) ?_
  rw [List.length_map]
  walk_at "rd"
  refine i_forR (n := zs.length) rfl (by omega) (fun i σ H' => ∃ (A : Str → Addr) (v v4 v5 v6 : Option V), σ = [some (.ref o), some (.ref d), v, v4, v5, v6] ∧ LSt H d zs zs A (OM.turns E i fun x => [x]) H')
    ⟨A, _, _, _, _, rfl, st⟩ ?_ ?_
  · rintro i σ H3 hi ⟨A, v, v4, v5, v6, rfl, st⟩
    walk_at "rd"
    refine i_ixT (k := 1) (.of (st.same _ _ eo)) rfl ?_
    refine i_forA (H0 := H) (fun j σ H' => ∃ (A : Str → Addr) (v v5 v6 : Option V), σ = [some (.ref o), some (.ref d), v, some (.int (i : Nat)), v5, v6] ∧ LSt H d zs zs A (OM.turn (E.take j) (OM.turns E i fun x => [x])) H') hc
      ⟨A, _, _, _, rfl, st⟩ (fun i σ H' p => ?_) ?_ ?_
    · obtain ⟨_, _, _, _, _, st⟩ := p
      exact st.same
    · rintro j x σ H4 hx ⟨A, v, v5, v6, rfl, st⟩
      have lt := (List.getElem?_eq_some_iff.mp hx).1
      rw [hp.1] at lt
      have hej : E[j]? = some E[j] := by simp [lt]
      obtain ⟨q, rfl, eq⟩ := hp.2 j x E[j] hx hej
      obtain ⟨m1, m2⟩ := hE _ (List.getElem_mem lt)
      rw [turn_snoc hej]
      generalize OM.turn (E.take j) (OM.turns E i fun x => [x]) = W at *
      generalize E[j] = e at *
      obtain ⟨lo, hi'⟩ := e
      refine i_gtup (Same_seqT st.same eq) rfl ?_
      walk_at "rd"
      refine i_dget st.tab (rows_val m1) ?_
      walk_at "rd"
      refine i_dget st.tab (rows_val m2) ?_
      refine i_lcA (H0 := H4) (fun k ys H' => Same H4 H' ∧ ys = (((W hi').take k).filter fun x => !decide (x ∈ W lo)).map V.str) (SqA.l (st.row _ m2)) (Same.refl _) ?_ ?_ ?_ ?_
      · intro D H' hD sm e ho
        exact ⟨sm, rfl⟩
      · exact fun i ys H' p => p.1
      · rintro k x D ys H5 hD hx eD ⟨s5, rfl⟩
        obtain ⟨z, hzi, rfl⟩ := strs_at hx
        walk_at "rd"
        refine ⟨by with_unfolding_all rfl, ?_⟩
        walk_at "rd"
        refine i_dget (s5 _ _ st.tab) (rows_val m1) ?_
        refine i_notInS (SqA.l (s5 _ _ (st.row _ m1))) ?_
        walk_at "rd"
        refine i_bool (fun hb => ?_) (fun hb => ?_)
        · walk_at "rd"
          refine i_lcE eD ?_ fun H6 e6 o6 => ⟨fun b o eb => ?_, ?_⟩
          · rw [List.length_map]
            have h1 := List.length_filter_le (fun x => !decide (x ∈ W lo)) ((W hi').take k)
            have h2 := nodup_len (st.nd _ m2) (st.sub _ m2)
            rw [List.length_take] at h1
            show (List.filter (fun x => !decide (x ∈ W lo)) ((W hi').take k)).length < _
            have h2' : (W hi').length ≤ zs.length := h2
            omega
          · rw [o6 b (ne_of_none eb hD)]
            exact s5 _ _ eb
          · rw [take_snoc hzi, List.filter_append, List.map_append]
            simp at hb
            simp [hb]
        · refine ⟨_, eD, s5, ?_⟩
          rw [take_snoc hzi, List.filter_append, List.map_append]
          simp at hb
          simp [hb]
      · rintro D ys H5 hD eD ⟨s5, rfl⟩
        rw [List.length_map, List.take_length] at eD
        have st5 := st.sames s5
        have h1 : (W lo).length ≤ zs.length := nodup_len (st.nd _ m1) (st.sub _ m1)
        have h2 : (W hi').length ≤ zs.length := nodup_len (st.nd _ m2) (st.sub _ m2)
        have h3 := List.length_filter_le (fun x => !decide (x ∈ W lo)) (W hi')
        refine i_cat (st5.row _ m1) eD (by rw [List.length_map, List.length_map]; show (W lo).length + (List.filter (fun x => !decide (x ∈ W lo)) (W hi')).length ≤ _; omega) fun q2 H6 hq2 s6 e6 o6 => ?_
        have st6 := st5.sames s6
        walk_at "rd"
        refine i_dput st6.tab (by rw [rows_len]; omega) fun H7 e7 o7 => ?_
        walk_at "rd"
        exact ⟨_, _, _, _, rfl, st6.put (p := (lo, hi')) m1 m2 (by rw [e6, List.map_append]) e7 o7⟩
    · rintro σ H4 ⟨A, v, v5, v6, rfl, st⟩
      rw [hp.1, List.take_length, ← OM.turns_succ] at st
      exact ⟨_, _, _, _, _, rfl, st⟩
  · rintro σ H3 ⟨A, v, v4, v5, v6, rfl, st⟩
    walk_at "rd"
    exact k d H3 dH st.same ⟨A, st.tab, st.row⟩
theorem lcv_snoc {N : List Str} {i : Nat} {a : Str} {f g : Str → List Str} (h : N[i]? = some a) : OM.lcv (N.take (i + 1)) f g = OM.lcv (N.take i) f g ++ ((g a).filter fun b => !decide (b = a) && decide (((f a).filter fun c => !(decide (c = a) || decide (c = b)) && decide (b ∈ f c)) = [])).map fun b => (a, b) := by
  unfold OM.lcv
  rw [take_snoc h, List.flatMap_append]
  simp
theorem lcv_len {f g : Str → List Str} {m : Nat} : ∀ {N : List Str}, (∀ n ∈ N, (g n).length ≤ m) → (OM.lcv N f g).length ≤ N.length * m
  | [], _ => by simp [OM.lcv]
  | a :: N, h => by
    have ih := lcv_len (f := f) (g := g) (N := N) fun n hn => h n (List.mem_cons_of_mem _ hn)
    have h1 := List.length_filter_le (fun b => !decide (b = a) && decide (((f a).filter fun c => !(decide (c = a) || decide (c = b)) && decide (b ∈ f c)) = [])) (g a)
    have h2 := h a List.mem_cons_self
    unfold OM.lcv at ih ⊢
    rw [List.flatMap_cons, List.length_append, List.length_map, List.length_cons, Nat.succ_mul]
    omega
/-! ### covers, by the law -/
theorem IsOrd.tbl {H : Hp} {o : Addr} {zs : List Str} {E : List (Str × Str)} (h : IsOrd H o zs E) : Tbl zs (OM.turns E zs.length fun x => [x]) (OM.cl E) := tbl_of (by have := h.len; omega) h.nd h.names h.sub
def spCov (K : PySem.W.Frag) : Sp := fun vs H Q _ => vs.length = 1 ∧ ∃ (o : Addr) (zs : List Str) (E : List (Str × Str)), vs = [.ref o] ∧ IsOrd H o zs E ∧
  ∀ q H', H q = none → Same H H' → LPr H' q (OM.cvs zs (OM.cl E)) → Q (.ref q) H'
abbrev s__law_covers : Stmt := top 38
theorem sc__law_covers : FnScope ["_law_order_here", "_law_above_here", "_law_found", "_law_low", "_law_high", "_law_between", "_law_name"] ["_law_order_here"] (defScope s__law_covers) := ⟨rfl, rfl, rfl, by decide +kernel, rfl, by decide +kernel, by decide +kernel⟩
theorem ok__law_covers {P : Program} {w : World} {K : PySem.W.Frag} {mg : Str → Option Value} {base : Heap} {f : Addr} {fd : FuncData} (F : L2.Fun K "_law_covers" "_law_covers" s__law_covers f fd)
    (C_b_sorted : mg "sorted" = none)
    (C_f_law_above : Cal P w K mg base "_law_above" 1 (spAbv K)) :
    FnOk P w K mg base (L2.CX P w) 2 f fd ["_law_order_here"] (spCov K) := by
  refine fnOk_mk F sc__law_covers (fun vs H Q E h => h.1) (fun cdv A outer s H vs Q E hr h => ?_)
  obtain ⟨_, o, zs, E, rfl, io, k⟩ := h
  have tb := io.tbl
  obtain ⟨u, cE, eo, el, lpE⟩ := io.at_
  obtain ⟨hz, hnd, hok, hwn, hwm, hrf⟩ := id tb
  have lz : (srt zs).length = zs.length := (srt_perm zs).length_eq
  refine ⟨_, pss_cons (ps_set (i := 1) sc__law_covers.nd rfl (Or.inr rfl) (z_callC C_f_law_above hr passN (pa_cons (pv 0) pa_nil)))
    (pss_cons (ps_set (i := 2) sc__law_covers.nd rfl (Or.inl rfl) (pe_lst pa_nil))
    (pss_cons (ps_for (passes_of rfl) rfl (pi_any (K := K) rfl (pe_ix ix_tup (pv 0) pe_int (fun _ _ => rfl))) (pg_name (i := 3) sc__law_covers.nd rfl (Or.inr rfl)) (pss_one (ps_for (passes_of rfl) rfl (pi_any (K := K) rfl (pe_callB (k_sort (K := K) rfl) (by rfl) C_b_sorted (by decide +kernel) (pa_cons (pe_dget (hu_of hr) (pv 1) (pv 3) (fun _ _ => rfl)) pa_nil))) (pg_name (i := 4) sc__law_covers.nd rfl (Or.inr rfl)) (pss_cons (ps_setLc (i := 5) (own := [("_law_name", 6)]) (by rfl) sc__law_covers.nd rfl rfl (sw_true rfl rfl rfl (by decide +kernel)) (pi_any (K := K) rfl (pe_dget (hu_of hr) (pv 1) (pv 3) (fun _ _ => rfl))) (blkOk_by (N := ["_law_order_here", "_law_above_here", "_law_found", "_law_low", "_law_high", "_law_between", "_law_name"]) (sc := defScope s__law_covers) (by decide +kernel)) (fun _ _ _ _ _ => pg_name (i := 6) sc__law_covers.nd rfl (Or.inl rfl)) (fun _ _ _ _ _ => pts_one (PW.pt (pw_and (pt_cmpR (k_notInS (K := K) rfl) (pv 6) (pe_tup (pa_cons (pv 3) (pa_cons (pv 4) pa_nil))) rfl) (pw_and1 (pt_cmpR (k_inS (K := K) rfl) (pv 4) (pe_dget (hu_of hr) (pv 1) (pv 6) (fun _ _ => rfl)) rfl))))) (fun _ _ _ _ _ => pv 6))
    (pss_one (ps_if (PW.pt (pw_and (pt_cmpR op_ne (pv 4) (pv 3) (nomark _)) (pw_and1 (pt_cmpR (k_eqD (K := K) rfl hr.units) (pv 5) (pe_lst pa_nil) (nomark _))))) (pss_one (ps_expr (pe_bm PySem.F.plainAttrs_list PySem.F.slot_list_append PySem.F.type_list_append mt_append (pv 2) (pa_cons (pe_tup (pa_cons (pv 3) (pa_cons (pv 4) pa_nil))) pa_nil)))) (pss_nil)))))))
    (pss_one (ps_ret (pv 2))))), ?_⟩
  try dsimp only [cxOf]
  walk_at "rd"
  refine ⟨rfl, o, zs, E, rfl, io, fun c H0 hc0 s0 ⟨A, hc, hA⟩ => ?_⟩
  generalize OM.turns E zs.length (fun x => [x]) = W at *
  generalize hR : OM.cl E = R at *
  walk_at "rd"
  refine i_lst1 (Nat.le_of_ble_eq_true rfl) fun q H2 hq n2 e1 o1 => ?_
  walk_at "rd"
  refine i_ixT0 (.of (n2 _ _ (s0 _ _ eo))) ?_
  have s2 : Same H2 H2 := .refl _
  have uq : u ≠ q := fun z => by have := n2 _ _ (s0 _ _ el); rw [z, e1] at this; injection this with this; injection this with this; have l1 := io.len.1; cases zs with
    | nil => simp at l1
    | cons y ys => rw [List.map_cons] at this; cases this
  have e2' : del q H2 u = some (.lst ((srt zs).map V.str)) := by rw [del_at uq, srt_of_pw io.pw]; exact n2 _ _ (s0 _ _ el)
  have hab : ∀ n, (OM.ab (srt zs) R n).length ≤ 8 := fun n => Nat.le_trans ab_len (by omega)
  have inH : ∀ {H' : Hp}, But q H2 H' → Same H0 H' := fun t => (t.same hq n2 : _)
  refine i_forA (H0 := del q H2) (fun i σ H' => ∃ (v3 v4 v5 v6 : Option V), σ = [some (.ref o), some (.ref c), some (.ref q), v3, v4, v5, v6] ∧ But q H2 H' ∧ LPr H' q (OM.lcv ((srt zs).take i) W (OM.ab (srt zs) R))) (SqA.l e2') ⟨_, _, _, _, rfl, .refl _ _, [], s2 _ _ e1, .nil⟩ (fun i σ H' p => ?_) ?_ ?_
  · obtain ⟨_, _, _, _, _, t, _⟩ := p
    exact same_del t
  · rintro i x σ H3 hx ⟨v3, v4, v5, v6, rfl, t3, lp⟩
    obtain ⟨n, hni, rfl⟩ := strs_at hx
    have hn : n ∈ zs := mem_srt.mp (List.mem_of_getElem? hni)
    rw [lcv_snoc hni]
    have hE0 : (OM.lcv ((srt zs).take i) W (OM.ab (srt zs) R)).length ≤ 64 := by
      have h1 := lcv_len (f := W) (g := OM.ab (srt zs) R) (m := 8) (N := (srt zs).take i) fun n _ => hab n
      rw [List.length_take] at h1
      omega
    generalize OM.lcv ((srt zs).take i) W (OM.ab (srt zs) R) = E0 at *
    have s3 := inH t3
    walk_at "rd"
    refine i_dget (s3 _ _ hc) (rows_val hn) ?_
    walk_at "rd"
    have lw := tb.wlen hn
    refine i_sort (SqA.l (s3 _ _ (hA n hn))) (by omega) fun w H4 hw s4 o4 e4 => ?_
    rw [tb.srt hn] at e4
    walk_at "rd"
    obtain ⟨qs0, eq0, tq0⟩ := id lp
    have wq : w ≠ q := fun z => by rw [z, eq0] at hw; cases hw
    have e4' : del q H4 w = some (.lst ((OM.ab (srt zs) R n).map V.str)) := by rw [del_at wq]; exact e4
    have t4 : But q H2 H4 := t3.trans (.of s4)
    refine i_forA (H0 := del q H4) (fun j σ H' => ∃ (v4 v5 v6 : Option V), σ = [some (.ref o), some (.ref c), some (.ref q), some (.str n), v4, v5, v6] ∧ But q H4 H' ∧ LPr H' q (E0 ++ (((OM.ab (srt zs) R n).take j).filter fun b => !decide (b = n) && decide (((W n).filter fun c => !(decide (c = n) || decide (c = b)) && decide (b ∈ W c)) = [])).map fun b => (n, b))) (SqA.l e4')
      ⟨_, _, _, rfl, .refl _ _, by simpa using lp.mono s4⟩ (fun i σ H' p => ?_) ?_ ?_
    · obtain ⟨_, _, _, _, t, _⟩ := p
      exact same_del t
    · rintro j x σ H5 hx ⟨v4, v5, v6, rfl, t5, lp5⟩
      obtain ⟨m, hmi, rfl⟩ := strs_at hx
      have hm : m ∈ zs := mem_srt.mp (OM.mem_ab.mp (List.mem_of_getElem? hmi)).1
      have t25 := t4.trans t5
      have s5 := inH t25
      rw [take_snoc hmi, List.filter_append, List.map_append, ← List.append_assoc]
      have hE1 : (E0 ++ (((OM.ab (srt zs) R n).take j).filter fun b => !decide (b = n) && decide (((W n).filter fun c => !(decide (c = n) || decide (c = b)) && decide (b ∈ W c)) = [])).map fun b => (n, b)).length ≤ 100 := by
        have h1 := List.length_filter_le (fun b => !decide (b = n) && decide (((W n).filter fun c => !(decide (c = n) || decide (c = b)) && decide (b ∈ W c)) = [])) ((OM.ab (srt zs) R n).take j)
        have h2 := hab n
        rw [List.length_take] at h1
        rw [List.length_append, List.length_map]
        omega
      generalize (E0 ++ (((OM.ab (srt zs) R n).take j).filter fun b => !decide (b = n) && decide (((W n).filter fun c => !(decide (c = n) || decide (c = b)) && decide (b ∈ W c)) = [])).map fun b => (n, b)) = E1 at *
      walk_at "rd"
      refine i_dget (s5 _ _ hc) (rows_val hn) ?_
      refine i_lcA (H0 := H5) (fun k ys H' => Same H5 H' ∧ ys = (((W n).take k).filter fun c => !(decide (c = n) || decide (c = m)) && decide (m ∈ W c)).map V.str) (SqA.l (s5 _ _ (hA n hn))) (Same.refl _) ?_ ?_ ?_ ?_
      · intro D H' hD sm e ho
        exact ⟨sm, rfl⟩
      · exact fun i ys H' p => p.1
      · rintro k x D ys H6 hD hx eD ⟨s6, rfl⟩
        obtain ⟨z, hzi, rfl⟩ := strs_at hx
        have hzz : z ∈ zs := ((hwm n hn z).mp (List.mem_of_getElem? hzi)).1
        walk_at "rd"
        refine ⟨by with_unfolding_all rfl, ?_⟩
        walk_at "rd"
        refine i_tup1 (by show 2 ≤ 100000; decide) fun l2 H7 hl2 s7 e7 o7 => ?_
        refine i_notInS (zs := [n, m]) (SqA.t e7) ?_
        have s57 := s6.trans s7
        have em2 : decide (z ∈ [n, m]) = (decide (z = n) || decide (z = m)) := by simp
        rw [em2]
        have skip : ∀ {H' : Hp}, Same H7 H' → (!(decide (z = n) || decide (z = m)) && decide (m ∈ W z)) = false → LcS D (fun k ys H' => Same H5 H' ∧ ys = (((W n).take k).filter fun c => !(decide (c = n) || decide (c = m)) && decide (m ∈ W c)).map V.str) (k + 1) H' := by
          intro H' s' hf
          refine ⟨_, s' _ _ (s7 _ _ eD), s57.trans s', ?_⟩
          rw [take_snoc hzi, List.filter_append, List.filter_cons_of_neg (by show ¬ (_ && _) = true; rw [hf]; decide), List.filter_nil, List.append_nil]
        refine ⟨_, rfl, ?_⟩
        refine i_bool (fun h1 => ?_) (fun h1 => ?_)
        · walk_at "rd"
          refine i_dget (s57 _ _ (s5 _ _ hc)) (rows_val hzz) ?_
          refine i_inS (SqA.l (s57 _ _ (s5 _ _ (hA z hzz)))) ?_
          walk_at "rd"
          refine i_bool (fun h2 => ?_) (fun h2 => ?_)
          · walk_at "rd"
            refine i_lcE (s7 _ _ eD) ?_ fun H8 e8 o8 => ⟨fun b o eb => ?_, ?_⟩
            · rw [List.length_map]
              have h1 := List.length_filter_le (fun c => !(decide (c = n) || decide (c = m)) && decide (m ∈ W c)) ((W n).take k)
              rw [List.length_take] at h1
              omega
            · rw [o8 b (ne_of_none eb hD)]
              exact s57 _ _ eb
            · rw [take_snoc hzi, List.filter_append, List.filter_cons_of_pos (by show (_ && _) = true; rw [h1, h2]; rfl), List.filter_nil, List.map_append]
              rfl
          · exact skip (Same.refl _) (by rw [h2, Bool.and_false])
        · walk_at "rd"
          exact skip (Same.refl _) (by rw [h1, Bool.false_and])
      · rintro D ys H6 hD eD ⟨s6, rfl⟩
        rw [List.length_map, List.take_length] at eD
        walk_at "rd"
        have t46 : But q H4 H6 := t5.trans (.of s6)
        have lp6 := lp5.mono s6
        have hold : ∀ {H' : Hp}, Same H6 H' → (!decide (m = n) && decide (((W n).filter fun c => !(decide (c = n) || decide (c = m)) && decide (m ∈ W c)) = [])) = false →
            But q H4 H' ∧ LPr H' q (E1 ++ ([m].filter fun b => !decide (b = n) && decide (((W n).filter fun c => !(decide (c = n) || decide (c = b)) && decide (b ∈ W c)) = [])).map fun b => (n, b)) := by
          intro H' s' hf
          rw [List.filter_cons_of_neg (by show ¬ (_ && _) = true; rw [hf]; decide), List.filter_nil]
          exact ⟨t46.trans (.of s'), by simpa using lp6.mono s'⟩
        refine i_ndec (fun g1 => ?_) (fun g1 => ?_)
        · walk_at "rd"
          refine i_lst1 (Nat.le_of_ble_eq_true rfl) fun l2 H7 hl2 s7 e7 o7 => ?_
          refine ⟨.list ((((W n).filter fun c => !(decide (c = n) || decide (c = m)) && decide (m ∈ W c))).map PyData.str), .list (([] : List Str).map PyData.str), .lst (SqL.of (s7 _ _ eD)) (dp_strs _), .lst (SqL.of e7) .nil, shaped_lstS fun z hz => hok z ((hwm n hn z).mp (List.mem_filter.mp hz).1).1, shaped_lstS fun z hz => absurd hz (by simp), ?_⟩
          rw [eqv_lstS]
          refine ⟨_, rfl, ?_⟩
          refine i_dec (fun g2 => ?_) (fun g2 => ?_)
          · obtain ⟨qs, eq, tq⟩ := id (lp6.mono s7)
            walk_at "rd"
            refine ⟨tyL eq, ?_⟩
            walk_at "rd"
            refine i_tup1 (by show 2 ≤ 100000; decide) fun x H8 hx8 s8 e8 o8 => ?_
            walk_at "rd"
            have hql : qs.length = E1.length := tq.1
            refine i_app (xs := qs.map V.ref) (s8 _ _ eq) (by rw [List.length_map]; omega) fun H9 e9 o9 => ?_
            walk_at "rd"
            refine ⟨_, _, _, rfl, fun x o hx e => ?_, ?_⟩
            · rw [o9 x hx]
              exact s8 _ _ (s7 _ _ (t46 x o hx e))
            · rw [List.filter_cons_of_pos (by show (_ && _) = true; rw [g2]; simp [g1]), List.filter_nil]
              exact ((lp6.mono s7).mono s8).snoc (s8 _ _ eq) e8 e9 o9
          · walk_at "rd"
            exact ⟨_, _, _, rfl, hold s7 (by rw [decide_eq_false g2, Bool.and_false])⟩
        · walk_at "rd"
          exact ⟨_, _, _, rfl, hold (Same.refl _) (by rw [decide_eq_true g1]; rfl)⟩
    · rintro σ H5 ⟨v4, v5, v6, rfl, t5, lp5⟩
      rw [List.length_map, List.take_length] at lp5
      exact ⟨_, _, _, _, rfl, t4.trans t5, lp5⟩
  · rintro σ H3 ⟨v3, v4, v5, v6, rfl, t3, lp⟩
    rw [List.length_map, List.take_length, OM.lcv_eq (srt_nodup hnd) hrf fun a ha b => by rw [hwm a (mem_srt.mp ha), mem_srt]] at lp
    dsimp only
    refine i_ret ?_
    refine i_var (by with_unfolding_all rfl) ?_
    have esz : srt zs = zs := srt_of_pw io.pw
    rw [esz] at lp
    exact k q H3 (same_noneV s0 hq) (s0.trans (inH t3)) lp
/-! ### maps -/
section
variable {CO a : Addr} {H : Hp} {Q : VK} {N : List Str} {R : Str → Str → Bool} {z : Str}
theorem i_notInO (ho : IsO CO H a N R) (h : ∀ H', Same H H' → Q (.bl (!decide (z ∈ N))) H') : rInOwn CO (spOIn CO) true (.str z) (.ref a) H Q := by
  obtain ⟨dx, t, d, e1, _⟩ := id ho
  refine ⟨a, dx, _, rfl, e1, ⟨rfl, a, N, R, z, rfl, ho, fun H' s => ⟨_, rfl, ?_⟩⟩⟩
  have := h H' s
  cases hd : decide (z ∈ N) <;> rw [hd] at this <;> exact this
theorem i_inO (ho : IsO CO H a N R) (h : ∀ H', Same H H' → Q (.bl (decide (z ∈ N))) H') : rInOwn CO (spOIn CO) false (.str z) (.ref a) H Q := by
  obtain ⟨dx, t, d, e1, _⟩ := id ho
  refine ⟨a, dx, _, rfl, e1, ⟨rfl, a, N, R, z, rfl, ho, fun H' s => ⟨_, rfl, ?_⟩⟩⟩
  have := h H' s
  cases hd : decide (z ∈ N) <;> rw [hd] at this <;> exact this
theorem i_lenO (ho : IsO CO H a N R) (h : ∀ H', Same H H' → Q (.int (N.length : Nat)) H') : rLenOwn CO (spOLen CO) [.ref a] H Q := by
  obtain ⟨dx, t, d, e1, _, _, hl, _⟩ := id ho
  exact ⟨a, dx, _, rfl, e1, ⟨rfl, a, N, R, rfl, ho, fun H' s => ⟨_, rfl, by omega, h H' s⟩⟩⟩
end
/-- an error with a number -/
def ENum (CB : Addr) (n : Int) (H : Hp) (E : XK) : Prop := ∀ d H', Same H H' → H' d = some (.xd [("n", .int n)]) → E (.ref CB) (some d) H'
theorem gint {n : Nat} (h : n ≤ 1000) (H : Hp) : GInt (.int (n : Nat)) H := ⟨n, rfl, Nat.lt_of_le_of_lt (show ((n : Nat) : Int).natAbs ≤ 1000 by omega) (by decide +kernel)⟩
def spAmO (K : PySem.W.Frag) (CO CU : Addr) : Sp := fun vs H Q E => vs.length = 2 ∧ ∃ (a b : Addr) (N : List Str) (R : Str → Str → Bool) (zs : List Str), vs = [.ref a, .ref b] ∧ IsO CO H a N R ∧ SqA K H b (zs.map V.str) ∧ (∀ z ∈ zs, RW z) ∧
  (∀ z, miss N zs = some z → EName CU z H E) ∧ (miss N zs = none → ∀ H', Same H H' → Q .non H')
theorem miss_at {ks zs : List Str} {i : Nat} {z : Str} (hz : zs[i]? = some z) (hin : ∀ y ∈ zs.take i, y ∈ ks) (e : z ∉ ks) : miss ks zs = some z := by
  unfold miss
  have ez : zs = zs.take i ++ z :: zs.drop (i + 1) := by
    have := (List.take_append_drop i zs).symm
    rw [List.drop_eq_getElem_cons (List.getElem?_eq_some_iff.mp hz).1, (List.getElem?_eq_some_iff.mp hz).2] at this
    exact this
  rw [ez, List.find?_append, List.find?_eq_none.mpr (fun x hx => by simp [hin x hx])]
  simp [e]
theorem miss_all {ks zs : List Str} (h : miss ks zs = none) : ∀ z ∈ zs, z ∈ ks := fun z hz => by
  have := List.find?_eq_none.mp h z hz
  simpa using this
theorem miss_mem {ks zs : List Str} {z : Str} (h : miss ks zs = some z) : z ∈ zs ∧ z ∉ ks := by
  refine ⟨List.mem_of_find?_eq_some h, ?_⟩
  have := List.find?_some h
  simpa using this
theorem ok_check_among__O {P : Program} {w : World} {K : PySem.W.Frag} {mg : Str → Option Value} {base : Heap} {CO CU : Addr} {f : Addr} {fd : FuncData} (F : L2.Fun K "check_among" "check_among" s_check_among f fd)
    (C_o_Order_contains : CalO P w K mg base CO "__contains__" 1 (spOIn CO))
    (C_x_UnknownName : CalX P w K mg base "UnknownName" CU 1 ["self", "name"] (spX1 K CU "name" GStW)) :
    FnOk P w K mg base (L2.CX P w) 3 f fd ["known", "names"] (spAmO K CO CU) := by
  refine fnOk_mk F sc_check_among (fun vs H Q E h => h.1) (fun cdv A outer s H vs Q E hr h => ?_)
  obtain ⟨_, a, b, N, R, zs, rfl, ho, hb, hw, kx, k⟩ := h
  refine ⟨_, pss_one (ps_for (passes_of rfl) rfl (pi_any (K := K) rfl (pv 1)) (pg_name (i := 2) sc_check_among.nd rfl (Or.inl rfl)) (pss_one (ps_if (pt_cmpR (z_notInOwn C_o_Order_contains hr) (pv 2) (pv 0) rfl) (pss_one (ps_raise rfl (takes_of rfl rfl rfl rfl) (z_mkX C_x_UnknownName hr (pa_cons (pv 2) pa_nil)))) (pss_nil)))), ?_⟩
  try dsimp only [cxOf]
  walk_at "rd"
  refine i_forA (fun i σ H1 => (∃ x, σ = [some (.ref a), some (.ref b), x]) ∧ Same H H1 ∧ ∀ z ∈ zs.take i, z ∈ N) hb ⟨⟨_, rfl⟩, Same.refl _, fun z h => by simp at h⟩ (fun i σ H1 p => p.2.1) ?_ ?_
  · rintro i x σ H1 hx ⟨⟨u, rfl⟩, s1, hin⟩
    obtain ⟨z, hz, rfl⟩ := strs_at hx
    walk_at "rd"
    refine i_notInO (ho.mono s1) fun H2 s2 => ?_
    have s02 := s1.trans s2
    walk_at "rd"
    refine i_ndec (fun e => ?_) (fun e => ?_)
    · walk_at "rd"
      exact i_mkX1 (fun H' s => ⟨z, rfl, hw z (List.mem_of_getElem? hz)⟩) fun d H' hd s e' => kx z (miss_at hz hin e) d H' (s02.trans s) e'
    · walk_at "rd"
      refine ⟨⟨_, rfl⟩, s02, fun w hw => ?_⟩
      rw [take_snoc hz] at hw
      rcases List.mem_append.mp hw with hw | hw
      · exact hin w hw
      · rw [List.mem_singleton.mp hw]
        exact e
  · rintro σ H1 ⟨⟨u, rfl⟩, s1, hin⟩
    rw [List.length_map, List.take_length] at hin
    exact k (miss_none hin) H1 s1
def spCMap (K : PySem.W.Frag) (CO CB CU : Addr) : Sp := fun vs H Q E => vs.length = 3 ∧ ∃ (a b c : Addr) (N M : List Str) (R S : Str → Str → Bool) (zs : List Str), vs = [.ref a, .ref b, .ref c] ∧ IsO CO H a N R ∧ IsO CO H b M S ∧ SqA K H c (zs.map V.str) ∧ zs.length ≤ 1000 ∧ (∀ z ∈ zs, RW z) ∧
  (zs.length ≠ N.length → ENum CB (zs.length : Nat) H E) ∧ (zs.length = N.length → (∀ z, miss M zs = some z → EName CU z H E) ∧ (miss M zs = none → ∀ H', Same H H' → Q .non H'))
abbrev s_check_map : Stmt := top 18
theorem sc_check_map : FnScope ["beginnings", "standings", "names"] ["beginnings", "standings", "names"] (defScope s_check_map) := ⟨rfl, rfl, rfl, by decide +kernel, rfl, by decide +kernel, by decide +kernel⟩
theorem ok_check_map {P : Program} {w : World} {K : PySem.W.Frag} {mg : Str → Option Value} {base : Heap} {CB CO CU : Addr} {f : Addr} {fd : FuncData} (F : L2.Fun K "check_map" "check_map" s_check_map f fd)
    (C_b_len : mg "len" = none)
    (C_f_check_among__O : Cal P w K mg base "check_among" 3 (spAmO K CO CU))
    (C_o_Order_len : CalO P w K mg base CO "__len__" 1 (spOLen CO))
    (C_x_BadNumber : CalX P w K mg base "BadNumber" CB 2 ["self", "n"] (spX1 K CB "n" GInt)) :
    FnOk P w K mg base (L2.CX P w) 4 f fd ["beginnings", "standings", "names"] (spCMap K CO CB CU) := by
  refine fnOk_mk F sc_check_map (fun vs H Q E h => h.1) (fun cdv A outer s H vs Q E hr h => ?_)
  obtain ⟨_, a, b, c, N, M, R, S, zs, rfl, ha, hb, hc, hl, hw, kB, kx⟩ := h
  refine ⟨_, pss_cons (ps_if (pt_cmpR op_ne (pe_callB (k_len (K := K) rfl) (by rfl) C_b_len (by decide +kernel) (pa_cons (pv 2) pa_nil)) (pe_callB (z_lenOwn C_o_Order_len hr) (by rfl) C_b_len (by decide +kernel) (pa_cons (pv 0) pa_nil)) (nomark _)) (pss_one (ps_raise rfl (takes_of rfl rfl rfl rfl) (z_mkX C_x_BadNumber hr (pa_cons (pe_callB (k_len (K := K) rfl) (by rfl) C_b_len (by decide +kernel) (pa_cons (pv 2) pa_nil)) pa_nil)))) (pss_nil))
    (pss_one (ps_expr (z_callC C_f_check_among__O hr (fun σ => passAt (takes_of rfl rfl rfl rfl) σ) (pa_cons (pv 1) (pa_cons (pv 2) pa_nil))))), ?_⟩
  try dsimp only [cxOf]
  walk_at "rd"
  refine i_lenA hc ?_
  rw [List.length_map]
  walk_at "rd"
  refine i_lenO ha fun H1 s1 => ?_
  walk_at "rd"
  refine i_ndec (fun e => ?_) (fun e => ?_)
  · walk_at "rd"
    refine i_lenA (sameA s1 hc) ?_
    rw [List.length_map]
    walk_at "rd"
    exact i_mkX1 (fun H' s => gint hl H') fun d H' hd s e' => kB (by omega) d H' (s1.trans s) e'
  · have e : zs.length = N.length := by omega
    obtain ⟨kU, k⟩ := kx e
    walk_at "rd"
    refine ⟨rfl, b, c, M, S, zs, rfl, hb.mono s1, sameA s1 hc, hw, fun z hz d H' s e' => kU z hz d H' (s1.trans s) e', fun hm H2 s2 => ?_⟩
    walk_at "rd"
    exact k hm H2 (s1.trans s2)
open ZA
/-- where a map sends a name -/
def gm (N zs : List Str) (z : Str) : Str := ((N.zip zs).lookup z).getD Str.empty
theorem lookup_zipV : ∀ {N zs : List Str} {z : Str}, (N.zip (zs.map V.str)).lookup z = ((N.zip zs).lookup z).map V.str
  | [], _, _ => rfl
  | _ :: _, [], _ => rfl
  | a :: N, b :: zs, z => by
    show List.lookup z ((a, V.str b) :: N.zip (zs.map V.str)) = Option.map V.str (List.lookup z ((a, b) :: N.zip zs))
    by_cases e : z == a
    · simp [List.lookup, e]
    · have e' : (z == a) = false := by simpa using e
      rw [List.lookup, List.lookup, e']
      exact lookup_zipV
theorem gm_at {N zs : List Str} {i : Nat} {z y : Str} (hn : N.Nodup) (h1 : N[i]? = some z) (h2 : zs[i]? = some y) : gm N zs z = y := by
  have h := zpF_at (ys := zs.map V.str) hn h1 (by rw [List.getElem?_map, h2]; rfl)
  unfold zpF at h
  rw [lookup_zipV] at h
  unfold gm
  cases e : (N.zip zs).lookup z with
  | none => rw [e] at h; cases h
  | some w => rw [e] at h; injection h
theorem zpF_gm {N zs : List Str} {z : Str} (hn : N.Nodup) (hl : N.length = zs.length) (hz : z ∈ N) : zpF N (zs.map V.str) z = .str (gm N zs z) := by
  obtain ⟨i, hi⟩ := List.getElem?_of_mem hz
  have li := (List.getElem?_eq_some_iff.mp hi).1
  have hy : zs[i]? = some (zs[i]'(by omega)) := List.getElem?_eq_getElem (by omega)
  rw [zpF_at (ys := zs.map V.str) hn hi (by rw [List.getElem?_map, hy]; rfl), gm_at hn hi hy]
theorem gm_mem {N zs : List Str} {z : Str} (hn : N.Nodup) (hl : N.length = zs.length) (hz : z ∈ N) : gm N zs z ∈ zs := by
  obtain ⟨i, hi⟩ := List.getElem?_of_mem hz
  have li := (List.getElem?_eq_some_iff.mp hi).1
  have hy : zs[i]? = some (zs[i]'(by omega)) := List.getElem?_eq_getElem (by omega)
  rw [gm_at hn hi hy]
  exact List.mem_of_getElem? hy
/-- the first cover that the map breaks -/
noncomputable def brk (N : List Str) (R S : Str → Str → Bool) (zs : List Str) : Option (Str × Str) := (OM.cvs N R).find? fun e => !S (gm N zs e.1) (gm N zs e.2)
/-- a pair, or None -/
def PrV (H : Hp) (v : V) : Option (Str × Str) → Prop
  | none => v = .non
  | some e => ∃ q, v = .ref q ∧ H q = some (.tup [.str e.1, .str e.2])
def spBrk (K : PySem.W.Frag) (CO CB CU : Addr) : Sp := fun vs H Q E => vs.length = 3 ∧ ∃ (a b c : Addr) (N M : List Str) (R S : Str → Str → Bool) (zs : List Str), vs = [.ref a, .ref b, .ref c] ∧ IsO CO H a N R ∧ IsO CO H b M S ∧ SqA K H c (zs.map V.str) ∧ zs.length ≤ 1000 ∧ (∀ z ∈ zs, RW z) ∧
  (zs.length ≠ N.length → ENum CB (zs.length : Nat) H E) ∧ (zs.length = N.length → (∀ z, miss M zs = some z → EName CU z H E) ∧ (miss M zs = none → ∀ v H', Same H H' → PrV H' v (brk N R S zs) → Q v H'))
theorem cvs_mem {N : List Str} {R : Str → Str → Bool} {e : Str × Str} (h : e ∈ OM.cvs N R) : e.1 ∈ N ∧ e.2 ∈ N := ⟨(OM.mem_cvs.mp h).1.1, (OM.mem_cvs.mp h).1.2.1⟩
theorem find_at {α : Type} {p : α → Bool} {xs : List α} {i : Nat} {x : α} (hz : xs[i]? = some x) (hin : ∀ y ∈ xs.take i, p y = false) (e : p x = true) : xs.find? p = some x := by
  have ez : xs = xs.take i ++ x :: xs.drop (i + 1) := by
    have := (List.take_append_drop i xs).symm
    rw [List.drop_eq_getElem_cons (List.getElem?_eq_some_iff.mp hz).1, (List.getElem?_eq_some_iff.mp hz).2] at this
    exact this
  rw [ez, List.find?_append, List.find?_eq_none.mpr (fun y hy => by simp [hin y hy])]
  simp [e]
abbrev s_broken_pair : Stmt := top 19
theorem sc_broken_pair : FnScope ["beginnings", "standings", "names", "goals", "low", "high"] ["beginnings", "standings", "names"] (defScope s_broken_pair) := ⟨rfl, rfl, rfl, by decide +kernel, rfl, by decide +kernel, by decide +kernel⟩
theorem ok_broken_pair {P : Program} {w : World} {K : PySem.W.Frag} {mg : Str → Option Value} {base : Heap} {CB CO CU : Addr} {f : Addr} {fd : FuncData} (F : L2.Fun K "broken_pair" "broken_pair" s_broken_pair f fd)
    (C_b_dict : mg "dict" = none)
    (C_b_zip : mg "zip" = none)
    (C_c_Order : ClO K CO)
    (C_f_check_map : Cal P w K mg base "check_map" 4 (spCMap K CO CB CU))
    (C_it_Order : ItO P w K mg base CO 1 (spOIterT CO))
    (C_m_Order_below : CalM P w K mg base CO "below" 4 (spBelowW CO CU))
    (C_m_Order_covers : CalM P w K mg base CO "covers" 2 (spCovers CO)) :
    FnOk P w K mg base (L2.CX P w) 5 f fd ["beginnings", "standings", "names"] (spBrk K CO CB CU) := by
  refine fnOk_mk F sc_broken_pair (fun vs H Q E h => h.1) (fun cdv A outer s H vs Q E hr h => ?_)
  obtain ⟨_, a, b, c, N, M, R, S, zs, rfl, ha, hb, hc, hl, hw, kB, kx⟩ := h
  refine ⟨_, pss_cons (ps_expr (z_callC C_f_check_map hr (fun σ => passAt (takes_of rfl rfl rfl rfl) σ) (pa_cons (pv 0) (pa_cons (pv 1) (pa_cons (pv 2) pa_nil)))))
    (pss_cons (ps_set (i := 3) sc_broken_pair.nd rfl (Or.inl rfl) (pe_dzipO rfl C_it_Order hr (by rfl) C_b_dict (by rfl) C_b_zip (pa_cons (pv 0) (pa_cons (pv 2) pa_nil))))
    (pss_cons (ps_for (passes_of rfl) rfl (pi_any (K := K) rfl (z_meth0C (pv 0) C_c_Order.toCls C_m_Order_covers hr passN)) (k_tup (K := K) (n := 2) rfl rfl (pgs_cons (pg_name (i := 4) sc_broken_pair.nd rfl (Or.inl rfl)) (pgs_cons (pg_name (i := 5) sc_broken_pair.nd rfl (Or.inl rfl)) pgs_nil))) (pss_one (ps_if (pt_not (pt_val (z_methC (pv 1) C_c_Order.toCls C_m_Order_below hr passN (pa_cons (pe_dget (hu_of hr) (pv 3) (pv 4) (fun _ _ => rfl)) (pa_cons (pe_dget (hu_of hr) (pv 3) (pv 5) (fun _ _ => rfl)) pa_nil))))) (pss_one (ps_ret (pe_tup (pa_cons (pv 4) (pa_cons (pv 5) pa_nil))))) (pss_nil))))
    (pss_one (ps_ret pe_non)))), ?_⟩
  try dsimp only [cxOf]
  walk_at "rd"
  refine ⟨rfl, a, b, c, N, M, R, S, zs, rfl, ha, hb, hc, hl, hw, kB, fun ee => ⟨(kx ee).1, fun hm H1 s1 => ?_⟩⟩
  have k := (kx ee).2 hm
  walk_at "rd"
  obtain ⟨t, ow⟩ := own_of (K := K) (ha.mono s1)
  have nN : N.Nodup := let ⟨_, _, _, _, _, _, _, h, _⟩ := ha; h
  refine i_dzip ow (sameA s1 hc) nN (by rw [List.length_map, ee]) fun d H2 hd s2 o2 e2 => ?_
  walk_at "rd"
  have s02 := s1.trans s2
  obtain ⟨dx, tt, dd, e1, _⟩ := id (ha.mono s02)
  refine i_meth1 e1 (ro_no (by decide +kernel) (by decide +kernel)) ?_
  walk_at "rd"
  refine ⟨rfl, a, N, R, rfl, ha.mono s02, fun p H3 hp s3 lp => ?_⟩
  have s03 := s02.trans s3
  have e2' := s3 _ _ e2
  obtain ⟨ps, hpl, hpt⟩ := lp.a (K := K)
  refine i_forA (H0 := H3) (fun i σ H' => (∃ v4 v5, σ = [some (.ref a), some (.ref b), some (.ref c), some (.ref d), v4, v5]) ∧ Same H3 H' ∧ ∀ e ∈ (OM.cvs N R).take i, S (gm N zs e.1) (gm N zs e.2) = true) hpl ⟨⟨_, _, rfl⟩, .refl _, fun e he => by simp at he⟩ (fun i σ H1 p => p.2.1) ?_ ?_
  · rintro i x σ H4 hx ⟨⟨v4, v5, rfl⟩, s4, hin⟩
    have hi : i < (OM.cvs N R).length := by rw [← hpt.1]; exact (List.getElem?_eq_some_iff.mp hx).1
    obtain ⟨e, he⟩ : ∃ e, (OM.cvs N R)[i]? = some e := ⟨_, List.getElem?_eq_getElem hi⟩
    obtain ⟨q, rfl, eq⟩ := hpt.2 i x e hx he
    obtain ⟨n1, n2⟩ := cvs_mem (List.mem_of_getElem? he)
    walk_at "rd"
    refine i_gtup (Same_seqT s4 eq) rfl ?_
    walk_at "rd"
    have s04 := s03.trans s4
    obtain ⟨dy, tt', dd', b1, _⟩ := id (hb.mono s04)
    refine i_meth1 b1 (ro_no (by decide +kernel) (by decide +kernel)) ?_
    walk_at "rd"
    refine i_dget (s4 _ _ e2') (valV_in n1) ?_
    rw [zpF_gm nN ee.symm n1]
    walk_at "rd"
    refine i_dget (s4 _ _ e2') (valV_in n2) ?_
    rw [zpF_gm nN ee.symm n2]
    walk_at "rd"
    have m1 := miss_all hm _ (gm_mem nN ee.symm n1)
    have m2 := miss_all hm _ (gm_mem nN ee.symm n2)
    refine ⟨rfl, b, M, S, _, _, rfl, hb.mono s04, fun z hz => ?_, fun _ H5 s5 => ?_⟩
    · obtain ⟨h1, h2⟩ := miss_mem hz
      simp at h1
      rcases h1 with rfl | rfl
      · exact absurd m1 h2
      · exact absurd m2 h2
    · refine ⟨_, rfl, ?_⟩
      cases hs : S (gm N zs e.1) (gm N zs e.2) with
      | true =>
        rw [if_neg (by simp)]
        refine ⟨⟨_, _, rfl⟩, s4.trans s5, fun f hf => ?_⟩
        rw [take_snoc he] at hf
        rcases List.mem_append.mp hf with hf | hf
        · exact hin f hf
        · rw [List.mem_singleton.mp hf]
          exact hs
      | false =>
        rw [if_pos (by simp)]
        walk_at "rd"
        refine i_tup1 (Nat.le_of_ble_eq_true rfl) fun t H6 ht s6 e6 o6 => ?_
        walk_at "rd"
        refine k _ H6 (s04.trans (s5.trans s6)) ?_
        rw [show brk N R S zs = some e from find_at he (fun f hf => by simp [hin f hf]) (by simp [hs])]
        exact ⟨t, rfl, e6⟩
  · rintro σ H4 ⟨⟨v4, v5, rfl⟩, s4, hin⟩
    walk_at "rd"
    refine k _ H4 (s03.trans s4) ?_
    rw [hpt.1, List.take_length] at hin
    have : brk N R S zs = none := List.find?_eq_none.mpr fun e he => by simp [hin e he]
    rw [this]
    exact rfl

def spRis (K : PySem.W.Frag) (CO : Addr) : Sp := fun vs H Q _ => vs.length = 3 ∧ ∃ (a b c : Addr) (N M : List Str) (R S : Str → Str → Bool) (zs : List Str), vs = [.ref a, .ref b, .ref c] ∧ IsO CO H a N R ∧ IsO CO H b M S ∧ SqA K H c (zs.map V.str) ∧ zs.length ≤ 1000 ∧ (∀ z ∈ zs, RW z) ∧
  ∀ H', Same H H' → Q (.bl (decide (zs.length = N.length) && decide (miss M zs = none) && decide (brk N R S zs = none))) H'
theorem i_allB {K : PySem.W.Frag} {D : Addr} {H : Hp} {Q : VK} {bs : List Bool} (e : H D = some (.lst (bs.map V.bl))) (h : Q (.bl (bs.all id)) H) : rAll K [.ref D] H Q := ⟨D, bs, rfl, SqL.of e, h⟩
abbrev s_is_rising_map : Stmt := top 20
theorem sc_is_rising_map : FnScope ["beginnings", "standings", "names", "name"] ["beginnings", "standings", "names"] (defScope s_is_rising_map) := ⟨rfl, rfl, rfl, by decide +kernel, rfl, by decide +kernel, by decide +kernel⟩
theorem ok_is_rising_map {P : Program} {w : World} {K : PySem.W.Frag} {mg : Str → Option Value} {base : Heap} {CB CO CU : Addr} {f : Addr} {fd : FuncData} (F : L2.Fun K "is_rising_map" "is_rising_map" s_is_rising_map f fd)
    (C_b_all : mg "all" = none)
    (C_b_len : mg "len" = none)
    (C_f_broken_pair : Cal P w K mg base "broken_pair" 5 (spBrk K CO CB CU))
    (C_o_Order_contains : CalO P w K mg base CO "__contains__" 1 (spOIn CO))
    (C_o_Order_len : CalO P w K mg base CO "__len__" 1 (spOLen CO)) :
    FnOk P w K mg base (L2.CX P w) 6 f fd ["beginnings", "standings", "names"] (spRis K CO) := by
  refine fnOk_mk F sc_is_rising_map (fun vs H Q E h => h.1) (fun cdv A outer s H vs Q E hr h => ?_)
  obtain ⟨_, a, b, c, N, M, R, S, zs, rfl, ha, hb, hc, hl, hw, k⟩ := h
  refine ⟨_, pss_cons (ps_if (PW.pt (pw_or (pt_cmpR op_ne (pe_callB (k_len (K := K) rfl) (by rfl) C_b_len (by decide +kernel) (pa_cons (pv 2) pa_nil)) (pe_callB (z_lenOwn C_o_Order_len hr) (by rfl) C_b_len (by decide +kernel) (pa_cons (pv 0) pa_nil)) (nomark _)) (pw_or1 (pt_not (pt_val (pe_callB (k_all rfl (K := K) rfl) (by rfl) C_b_all (by decide +kernel) (pa_cons (pe_lc (own := [("name", 3)]) (by rfl) sc_is_rising_map.nd (pi_any (K := K) rfl (pv 2)) (blkOk_by (N := ["beginnings", "standings", "names", "name"]) (sc := defScope s_is_rising_map) (by decide +kernel)) (fun _ _ _ _ _ => pg_name (i := 3) sc_is_rising_map.nd rfl (Or.inl rfl)) (fun _ _ _ _ _ => pts_nil) (fun _ _ _ _ _ => pe_cmpR (z_inOwn C_o_Order_contains hr) (pv 3) (pv 1) rfl)) pa_nil))))))) (pss_one (ps_ret pe_bl)) (pss_nil))
    (pss_one (ps_ret (pe_cmpR op_isN (z_callC C_f_broken_pair hr passN (pa_cons (pv 0) (pa_cons (pv 1) (pa_cons (pv 2) pa_nil)))) pe_non (nomark _)))), ?_⟩
  try dsimp only [cxOf]
  walk_at "rd"
  refine i_lenA hc ?_
  rw [List.length_map]
  walk_at "rd"
  refine i_lenO ha fun H1 s1 => ?_
  walk_at "rd"
  have sb1 := sameA (K := K) s1 hc
  have nm : ∀ {i : Nat} {z : Str}, zs[i]? = some z → miss M zs = none → decide (z ∈ M) = true := fun h1 h2 => by
    simp [miss_all h2 _ (List.mem_of_getElem? h1)]
  refine i_ndec (fun e => ?_) (fun e => ?_)
  · rw [if_pos rfl]
    walk_at "rd"
    have := k H1 s1
    rw [decide_eq_false (by omega : ¬ zs.length = N.length)] at this
    exact this
  · have e : zs.length = N.length := by omega
    walk_at "rd"
    refine i_lcA (H0 := H1) (fun i ys H' => Same H1 H' ∧ ys = ((zs.take i).map fun z => decide (z ∈ M)).map V.bl) sb1 (.refl _) (fun D H' hD s eD ho => ⟨s, rfl⟩) (fun i ys H' h => h.1) ?_ ?_
    · rintro i x D ys H2 hD hx eD ⟨s2, rfl⟩
      obtain ⟨z, hzi, rfl⟩ := strs_at hx
      have hi := (List.getElem?_eq_some_iff.mp hzi).1
      walk_at "rd"
      refine ⟨by with_unfolding_all rfl, ?_⟩
      walk_at "rd"
      refine i_inO (hb.mono (s1.trans s2)) fun H3 s3 => ?_
      refine i_lcE (s3 _ _ eD) (by rw [List.length_map, List.length_map, List.length_take]; omega) fun H4 e4 o4 => ⟨fun b u e => by rw [o4 b (ne_of_none e hD)]; exact s3 _ _ (s2 _ _ e), ?_⟩
      rw [take_snoc hzi]
      simp
    · rintro D ys H2 hD eD ⟨s2, rfl⟩
      rw [List.length_map, List.take_length] at eD
      walk_at "rd"
      refine i_allB eD ?_
      have hall : ((zs.map fun z => decide (z ∈ M)).all id) = decide (miss M zs = none) := by
        rw [List.all_map, Bool.eq_iff_iff, List.all_eq_true, decide_eq_true_eq]
        constructor
        · intro h
          refine miss_none fun z hz => ?_
          have := h z hz
          simpa using this
        · intro h z hz
          have := miss_all h z hz
          simpa using this
      rw [hall]
      have s02 := s1.trans s2
      refine ⟨_, rfl, ?_⟩
      cases hmm : decide (miss M zs = none) with
      | false =>
        rw [if_pos (by simp)]
        walk_at "rd"
        have := k H2 s02
        rw [hmm, Bool.and_false, Bool.false_and] at this
        exact this
      | true =>
        rw [if_neg (by simp)]
        walk_at "rd"
        have hmi := of_decide_eq_true hmm
        refine ⟨rfl, a, b, c, N, M, R, S, zs, rfl, ha.mono s02, hb.mono s02, sameA s02 hc, hl, hw, fun z => absurd e z, fun _ => ⟨fun z hz => (by rw [hmi] at hz; cases hz), fun _ v H3 s3 hv => ?_⟩⟩
        have := k H3 (s02.trans s3)
        rw [hmm, decide_eq_true e, Bool.true_and, Bool.true_and] at this
        walk_at "rd"
        refine ⟨rfl, ?_⟩
        rw [show decide (v = V.non) = decide (brk N R S zs = none) from ?_]
        · exact this
        · cases hb : brk N R S zs with
          | none =>
            rw [hb] at hv
            have hv : v = V.non := hv
            simp [hv]
          | some e =>
            rw [hb] at hv
            obtain ⟨q, rfl, _⟩ := hv
            simp
open ZA
theorem miss_iff {M zs : List Str} : miss M zs = none ↔ ∀ z ∈ zs, z ∈ M := ⟨miss_all, miss_none⟩
theorem nback {H H' : Hp} {D : Addr} (s : Same H H') (h : H' D = none) : H D = none := by
  cases z : H D with
  | none => rfl
  | some u => rw [s _ _ z] at h; cases h
def spCmp (K : PySem.W.Frag) (CO CB CU : Addr) : Sp := fun vs H Q E => vs.length = 3 ∧ ∃ (a b c : Addr) (N : List Str) (R : Str → Str → Bool) (xs ys : List Str), vs = [.ref a, .ref b, .ref c] ∧ IsO CO H a N R ∧ SqA K H b (xs.map V.str) ∧ SqA K H c (ys.map V.str) ∧ xs.length ≤ 1000 ∧ ys.length ≤ 1000 ∧ (∀ z ∈ xs, RW z) ∧
  (ys.length ≠ N.length → ENum CB (ys.length : Nat) H E) ∧ (ys.length = N.length → (∀ z, miss N xs = some z → EName CU z H E) ∧ (miss N xs = none → ∀ q H', Same H H' → H' q = some (.tup ((xs.map (gm N ys)).map V.str)) → Q (.ref q) H'))
abbrev s_composed : Stmt := top 21
theorem sc_composed : FnScope ["middle", "first", "second", "goals", "name"] ["middle", "first", "second"] (defScope s_composed) := ⟨rfl, rfl, rfl, by decide +kernel, rfl, by decide +kernel, by decide +kernel⟩
theorem ok_composed {P : Program} {w : World} {K : PySem.W.Frag} {mg : Str → Option Value} {base : Heap} {CB CO CU : Addr} {f : Addr} {fd : FuncData} (F : L2.Fun K "composed" "composed" s_composed f fd)
    (C_b_dict : mg "dict" = none)
    (C_b_len : mg "len" = none)
    (C_b_tuple : mg "tuple" = none)
    (C_b_zip : mg "zip" = none)
    (C_f_check_among__O : Cal P w K mg base "check_among" 3 (spAmO K CO CU))
    (C_it_Order : ItO P w K mg base CO 1 (spOIterT CO))
    (C_o_Order_len : CalO P w K mg base CO "__len__" 1 (spOLen CO))
    (C_x_BadNumber : CalX P w K mg base "BadNumber" CB 2 ["self", "n"] (spX1 K CB "n" GInt)) :
    FnOk P w K mg base (L2.CX P w) 4 f fd ["middle", "first", "second"] (spCmp K CO CB CU) := by
  refine fnOk_mk F sc_composed (fun vs H Q E h => h.1) (fun cdv A outer s H vs Q E hr h => ?_)
  obtain ⟨_, a, b, c, N, R, xs, ys, rfl, ha, hb, hc, lx, ly, hw, kB, kx⟩ := h
  refine ⟨_, pss_cons (ps_if (pt_cmpR op_ne (pe_callB (k_len (K := K) rfl) (by rfl) C_b_len (by decide +kernel) (pa_cons (pv 2) pa_nil)) (pe_callB (z_lenOwn C_o_Order_len hr) (by rfl) C_b_len (by decide +kernel) (pa_cons (pv 0) pa_nil)) (nomark _)) (pss_one (ps_raise rfl (takes_of rfl rfl rfl rfl) (z_mkX C_x_BadNumber hr (pa_cons (pe_callB (k_len (K := K) rfl) (by rfl) C_b_len (by decide +kernel) (pa_cons (pv 2) pa_nil)) pa_nil)))) (pss_nil))
    (pss_cons (ps_expr (z_callC C_f_check_among__O hr (fun σ => passAt (takes_of rfl rfl rfl rfl) σ) (pa_cons (pv 0) (pa_cons (pv 1) pa_nil))))
    (pss_cons (ps_set (i := 3) sc_composed.nd rfl (Or.inr rfl) (pe_dzipO rfl C_it_Order hr (by rfl) C_b_dict (by rfl) C_b_zip (pa_cons (pv 0) (pa_cons (pv 2) pa_nil))))
    (pss_one (ps_ret (pe_callTy (k_tupA (K := K) rfl) (by rfl) C_b_tuple (by decide +kernel) (pa_cons (pe_lc (own := [("name", 4)]) (by rfl) sc_composed.nd (pi_any (K := K) rfl (pv 1)) (blkOk_by (N := ["middle", "first", "second", "goals", "name"]) (sc := defScope s_composed) (by decide +kernel)) (fun _ _ _ _ _ => pg_name (i := 4) sc_composed.nd rfl (Or.inl rfl)) (fun _ _ _ _ _ => pts_nil) (fun _ _ _ _ _ => pe_dget (hu_of hr) (pv 3) (pv 4) (fun _ _ => rfl))) pa_nil)))))), ?_⟩
  try dsimp only [cxOf]
  walk_at "rd"
  refine i_lenA hc ?_
  rw [List.length_map]
  walk_at "rd"
  refine i_lenO ha fun H1 s1 => ?_
  walk_at "rd"
  refine i_ndec (fun e => ?_) (fun e => ?_)
  · walk_at "rd"
    refine i_lenA (sameA s1 hc) ?_
    rw [List.length_map]
    walk_at "rd"
    exact i_mkX1 (fun H' s => gint ly H') fun d H' hd s e' => kB (by omega) d H' (s1.trans s) e'
  · have ee : ys.length = N.length := by omega
    obtain ⟨kU, k⟩ := kx ee
    walk_at "rd"
    refine ⟨rfl, a, b, N, R, xs, rfl, ha.mono s1, sameA s1 hb, hw, fun z hz d H' s e' => kU z hz d H' (s1.trans s) e', fun hm H2 s2 => ?_⟩
    have s02 := s1.trans s2
    walk_at "rd"
    obtain ⟨t, ow⟩ := own_of (K := K) (ha.mono s02)
    have nN : N.Nodup := let ⟨_, _, _, _, _, _, _, h, _⟩ := ha; h
    refine i_dzip ow (sameA s02 hc) nN (by rw [List.length_map, ee]) fun d H3 hd s3 o3 e3 => ?_
    walk_at "rd"
    have s03 := s02.trans s3
    refine i_lcA (H0 := H3) (fun i ws H' => Same H3 H' ∧ ws = ((xs.take i).map (gm N ys)).map V.str) (sameA s03 hb) (.refl _) (fun D H' hD s eD ho => ⟨s, rfl⟩) (fun i ys H' h => h.1) ?_ ?_
    · rintro i x D ws H4 hD hx eD ⟨s4, rfl⟩
      obtain ⟨z, hzi, rfl⟩ := strs_at hx
      have hi := (List.getElem?_eq_some_iff.mp hzi).1
      have hzN := miss_all hm z (List.mem_of_getElem? hzi)
      walk_at "rd"
      refine ⟨by with_unfolding_all rfl, ?_⟩
      walk_at "rd"
      refine i_dget (s4 _ _ e3) (valV_in hzN) ?_
      rw [zpF_gm nN ee.symm hzN]
      refine i_lcE eD (by rw [List.length_map, List.length_map, List.length_take]; omega) fun H5 e5 o5 => ⟨fun b u e => by rw [o5 b (ne_of_none e hD)]; exact s4 _ _ e, ?_⟩
      rw [take_snoc hzi]
      simp
    · rintro D ws H4 hD eD ⟨s4, rfl⟩
      rw [List.length_map, List.take_length] at eD
      walk_at "rd"
      refine i_tupL (SqL.of eD) fun q H5 hq s5 e5 o5 => ?_
      walk_at "rd"
      exact k hm q H5 (s03.trans (s4.trans s5)) e5
theorem flat_take {xs ys : List Str} {i : Nat} {x y : Str} (hx : xs[i]? = some x) (hy : ys[i]? = some y) : (xs.zip ys).take (i + 1) = (xs.zip ys).take i ++ [(x, y)] := by
  refine take_snoc ?_
  rw [List.getElem?_zip_eq_some]
  exact ⟨hx, hy⟩
def flat (es : List (Str × Str)) : List Str := es.flatMap fun p => [p.1, p.2]
theorem miss_app {M xs ys : List Str} (h : ∀ z ∈ xs, z ∈ M) : miss M (xs ++ ys) = miss M ys := by
  have := miss_none h
  unfold miss at *
  rw [List.find?_append, this, Option.none_or]
theorem miss_pre {M xs ys : List Str} {z : Str} (h : miss M xs = some z) : miss M (xs ++ ys) = some z := by
  unfold miss at *
  rw [List.find?_append, h]
  rfl
theorem flat_app {xs ys : List (Str × Str)} : flat (xs ++ ys) = flat xs ++ flat ys := List.flatMap_append
theorem miss_flat {M : List Str} {es : List (Str × Str)} {i : Nat} {x y z : Str} (h1 : es.take (i + 1) = es.take i ++ [(x, y)]) (hin : ∀ w ∈ flat (es.take i), w ∈ M) (h : miss M [x, y] = some z) : miss M (flat es) = some z := by
  rw [← List.take_append_drop (i + 1) es, h1, flat_app, flat_app, List.append_assoc, miss_app hin]
  exact miss_pre h
def spUnd (K : PySem.W.Frag) (CO CB CU : Addr) : Sp := fun vs H Q E => vs.length = 3 ∧ ∃ (a b c : Addr) (M : List Str) (S : Str → Str → Bool) (xs ys : List Str), vs = [.ref a, .ref b, .ref c] ∧ IsO CO H a M S ∧ SqA K H b (xs.map V.str) ∧ SqA K H c (ys.map V.str) ∧ xs.length ≤ 1000 ∧ ys.length ≤ 1000 ∧ (∀ z ∈ xs, RW z) ∧ (∀ z ∈ ys, RW z) ∧
  (xs.length ≠ ys.length → ENum CB (ys.length : Nat) H E) ∧ (xs.length = ys.length → (∀ z, miss M (flat (xs.zip ys)) = some z → EName CU z H E) ∧ (miss M (flat (xs.zip ys)) = none → ∀ H', Same H H' → Q (.bl ((xs.zip ys).all fun p => S p.1 p.2)) H'))
abbrev s_is_below_map : Stmt := top 22
theorem sc_is_below_map : FnScope ["standings", "first", "second", "low", "high"] ["standings", "first", "second"] (defScope s_is_below_map) := ⟨rfl, rfl, rfl, by decide +kernel, rfl, by decide +kernel, by decide +kernel⟩
theorem ok_is_below_map {P : Program} {w : World} {K : PySem.W.Frag} {mg : Str → Option Value} {base : Heap} {CB CO CU : Addr} {f : Addr} {fd : FuncData} (F : L2.Fun K "is_below_map" "is_below_map" s_is_below_map f fd)
    (C_b_all : mg "all" = none)
    (C_b_len : mg "len" = none)
    (C_b_zip : mg "zip" = none)
    (C_c_Order : ClO K CO)
    (C_m_Order_below : CalM P w K mg base CO "below" 4 (spBelowW CO CU))
    (C_x_BadNumber : CalX P w K mg base "BadNumber" CB 2 ["self", "n"] (spX1 K CB "n" GInt)) :
    FnOk P w K mg base (L2.CX P w) 5 f fd ["standings", "first", "second"] (spUnd K CO CB CU) := by
  refine fnOk_mk F sc_is_below_map (fun vs H Q E h => h.1) (fun cdv A outer s H vs Q E hr h => ?_)
  obtain ⟨_, a, b, c, M, S, xs, ys, rfl, ha, hb, hc, lx, ly, hw, hv, kB, kx⟩ := h
  refine ⟨_, pss_cons (ps_if (pt_cmpR op_ne (pe_callB (k_len (K := K) rfl) (by rfl) C_b_len (by decide +kernel) (pa_cons (pv 1) pa_nil)) (pe_callB (k_len (K := K) rfl) (by rfl) C_b_len (by decide +kernel) (pa_cons (pv 2) pa_nil)) (nomark _)) (pss_one (ps_raise rfl (takes_of rfl rfl rfl rfl) (z_mkX C_x_BadNumber hr (pa_cons (pe_callB (k_len (K := K) rfl) (by rfl) C_b_len (by decide +kernel) (pa_cons (pv 2) pa_nil)) pa_nil)))) (pss_nil))
    (pss_one (ps_ret (pe_callB (k_all rfl (K := K) rfl) (by rfl) C_b_all (by decide +kernel) (pa_cons (pe_lcE (own := [("low", 3), ("high", 4)]) (takes_of rfl rfl rfl rfl) rfl rfl (by rfl) sc_is_below_map.nd (pi_zipS (by rfl) C_b_zip (pa_cons (pv 1) (pa_cons (pv 2) pa_nil))) (blkOk_by (N := ["standings", "first", "second", "low", "high"]) (sc := defScope s_is_below_map) (by decide +kernel)) (fun _ _ _ _ _ => k_tup (K := K) (n := 2) rfl rfl (pgs_cons (pg_name (i := 3) sc_is_below_map.nd rfl (Or.inl rfl)) (pgs_cons (pg_name (i := 4) sc_is_below_map.nd rfl (Or.inl rfl)) pgs_nil))) (fun _ _ _ _ _ => pts_nil) (fun _ _ _ _ _ _ pk => z_methC (pv 0) C_c_Order.toCls C_m_Order_below hr (fun σ => pk σ) (pa_cons (pv 3) (pa_cons (pv 4) pa_nil)))) pa_nil)))), ?_⟩
  try dsimp only [cxOf]
  walk_at "rd"
  refine i_lenA hb ?_
  rw [List.length_map]
  walk_at "rd"
  refine i_lenA hc ?_
  rw [List.length_map]
  walk_at "rd"
  refine i_ndec (fun e => ?_) (fun e => ?_)
  · walk_at "rd"
    refine i_lenA hc ?_
    rw [List.length_map]
    walk_at "rd"
    exact i_mkX1 (fun H' s => gint ly H') fun d H' hd s e' => kB (by omega) d H' s e'
  · have ee : xs.length = ys.length := by omega
    obtain ⟨kU, k⟩ := kx ee
    walk_at "rd"
    refine i_lcZS (fun D i ws H' => Same H H' ∧ ws = (((xs.zip ys).take i).map fun p => S p.1 p.2).map V.bl ∧ ∀ w ∈ flat ((xs.zip ys).take i), w ∈ M) hb hc (by rw [List.length_map, List.length_map, ee]) (fun D H' hD s eD ho => ⟨s, rfl, fun w hw => by simp [flat] at hw⟩) (fun D i ws H' h => h.1) ?_ ?_
    · rintro i x y T D ws H1 H2 hD hx hy eD ⟨s1, rfl, hin⟩ hT s2 eT oT
      obtain ⟨x, hxi, rfl⟩ := strs_at hx
      obtain ⟨y, hyi, rfl⟩ := strs_at hy
      have hi := (List.getElem?_eq_some_iff.mp hxi).1
      have ft := flat_take hxi hyi
      refine i_gtup (.of eT) rfl ?_
      walk_at "rd"
      refine ⟨by with_unfolding_all rfl, ?_⟩
      walk_at "rd"
      have s02 := s1.trans s2
      obtain ⟨dy, tt', dd', b1, _⟩ := id (ha.mono s02)
      refine i_meth1 b1 (ro_no (by decide +kernel) (by decide +kernel)) ?_
      walk_at "rd"
      refine ⟨rfl, a, M, S, x, y, rfl, ha.mono s02, fun z hz => ⟨?_, fun d H' s e' => kU z (miss_flat ft hin hz) d H' (s02.trans s) e'⟩, fun hm H3 s3 => ?_⟩
      · have h1 := (miss_mem hz).1
        simp at h1
        rcases h1 with rfl | rfl
        · exact hw _ (List.mem_of_getElem? hxi)
        · exact hv _ (List.mem_of_getElem? hyi)
      · have eD2 : H2 D = some (.lst ((((xs.zip ys).take i).map fun p => S p.1 p.2).map V.bl)) := s2 _ _ eD
        refine i_lcE (s3 _ _ eD2) (by rw [List.length_map, List.length_map, List.length_take]; omega) fun H4 e4 o4 => ⟨fun b u e => by rw [o4 b (ne_of_none e hD)]; exact s3 _ _ (s02 _ _ e), ?_, ?_⟩
        · rw [ft]
          simp
        · rw [ft, flat_app]
          intro w hw
          rcases List.mem_append.mp hw with h | h
          · exact hin w h
          · exact miss_all hm w h
    · rintro D ws H1 hD eD ⟨s1, rfl, hin⟩
      have lz : (xs.zip ys).take ((xs.map V.str).length) = xs.zip ys := by
        rw [List.take_of_length_le]
        rw [List.length_map, List.length_zip]
        omega
      rw [lz] at eD hin
      walk_at "rd"
      refine i_allB eD ?_
      rw [List.all_map]
      exact k (miss_none hin) H1 s1
/-- the names that stay -/
def stay (N zs : List Str) : List Str := ((N.zip zs).filter fun p => decide (p.1 = p.2)).map (·.1)
def spSet (K : PySem.W.Frag) (CO CB CU : Addr) : Sp := fun vs H Q E => vs.length = 2 ∧ ∃ (a c : Addr) (N : List Str) (R : Str → Str → Bool) (zs : List Str), vs = [.ref a, .ref c] ∧ IsO CO H a N R ∧ SqA K H c (zs.map V.str) ∧ zs.length ≤ 1000 ∧ (∀ z ∈ zs, RW z) ∧
  (zs.length ≠ N.length → ENum CB (zs.length : Nat) H E) ∧ (zs.length = N.length → (∀ z, miss N zs = some z → EName CU z H E) ∧ (miss N zs = none → ∀ q H', H q = none → Same H H' → H' q = some (.lst ((stay N zs).map V.str)) → Q (.ref q) H'))
abbrev s_settled : Stmt := top 24
theorem sc_settled : FnScope ["order", "names", "name", "goal"] ["order", "names"] (defScope s_settled) := ⟨rfl, rfl, rfl, by decide +kernel, rfl, by decide +kernel, by decide +kernel⟩
theorem ok_settled {P : Program} {w : World} {K : PySem.W.Frag} {mg : Str → Option Value} {base : Heap} {CB CO CU : Addr} {f : Addr} {fd : FuncData} (F : L2.Fun K "settled" "settled" s_settled f fd)
    (C_b_zip : mg "zip" = none)
    (C_f_check_map : Cal P w K mg base "check_map" 4 (spCMap K CO CB CU))
    (C_it_Order : ItO P w K mg base CO 1 (spOIterT CO)) :
    FnOk P w K mg base (L2.CX P w) 5 f fd ["order", "names"] (spSet K CO CB CU) := by
  refine fnOk_mk F sc_settled (fun vs H Q E h => h.1) (fun cdv A outer s H vs Q E hr h => ?_)
  obtain ⟨_, a, c, N, R, zs, rfl, ha, hc, hl, hw, kB, kx⟩ := h
  refine ⟨_, pss_cons (ps_expr (z_callC C_f_check_map hr (fun σ => passAt (takes_of rfl rfl rfl rfl) σ) (pa_cons (pv 0) (pa_cons (pv 0) (pa_cons (pv 1) pa_nil)))))
    (pss_one (ps_ret (pe_lc (own := [("name", 2), ("goal", 3)]) (by rfl) sc_settled.nd (pi_zipO C_it_Order hr (by rfl) C_b_zip (pa_cons (pv 0) (pa_cons (pv 1) pa_nil))) (blkOk_by (N := ["order", "names", "name", "goal"]) (sc := defScope s_settled) (by decide +kernel)) (fun _ _ _ _ _ => k_tup (K := K) (n := 2) rfl rfl (pgs_cons (pg_name (i := 2) sc_settled.nd rfl (Or.inl rfl)) (pgs_cons (pg_name (i := 3) sc_settled.nd rfl (Or.inl rfl)) pgs_nil))) (fun _ _ _ _ _ => pts_one (pt_cmpR op_eq (pv 2) (pv 3) (nomark _))) (fun _ _ _ _ _ => pv 2)))), ?_⟩
  try dsimp only [cxOf]
  walk_at "rd"
  refine ⟨rfl, a, a, c, N, N, R, R, zs, rfl, ha, ha, hc, hl, hw, kB, fun ee => ⟨(kx ee).1, fun hm H1 s1 => ?_⟩⟩
  have k := (kx ee).2 hm
  walk_at "rd"
  obtain ⟨t, ow⟩ := own_of (K := K) (ha.mono s1)
  refine i_lcZO (fun D i ws H' => Same H1 H' ∧ ws = ((((N.zip zs).take i).filter fun p => decide (p.1 = p.2)).map (·.1)).map V.str) ow (sameA s1 hc) (by rw [List.length_map, List.length_map, ee]) (fun D H' hD s eD ho => ⟨s, rfl⟩) (fun D i ws H' h => h.1) ?_ ?_
  · rintro i x y T D ws H2 H3 hD hx hy eD ⟨s2, rfl⟩ hT s3 eT oT
    obtain ⟨x, hxi, rfl⟩ := strs_at hx
    obtain ⟨y, hyi, rfl⟩ := strs_at hy
    have hi := (List.getElem?_eq_some_iff.mp hxi).1
    have ft := flat_take hxi hyi
    refine i_gtup (.of eT) rfl ?_
    walk_at "rd"
    refine ⟨by with_unfolding_all rfl, ?_⟩
    walk_at "rd"
    have eD3 := s3 _ _ eD
    have s13 := s2.trans s3
    by_cases exy : x = y
    · rw [if_pos (by simpa using exy)]
      walk_at "rd"
      refine i_lcE eD3 ?_ fun H4 e4 o4 => ⟨fun b u e => by rw [o4 b (ne_of_none e hD)]; exact s13 _ _ e, ?_⟩
      · rw [List.length_map, List.length_map]
        have := List.length_filter_le (fun p : Str × Str => decide (p.1 = p.2)) ((N.zip zs).take i)
        rw [List.length_take] at this
        omega
      · rw [ft, List.filter_append]
        simp [exy]
    · rw [if_neg (by simpa using exy)]
      refine ⟨_, eD3, s13, ?_⟩
      rw [ft, List.filter_append]
      simp [exy]
  · rintro D ws H2 hD eD ⟨s2, rfl⟩
    have lz : (N.zip zs).take ((N.map V.str).length) = N.zip zs := by
      rw [List.take_of_length_le]
      rw [List.length_map, List.length_zip]
      omega
    rw [lz] at eD
    walk_at "rd"
    exact k D H2 (nback s1 hD) (s1.trans s2) eD
def spImg (K : PySem.W.Frag) : Sp := fun vs H Q _ => vs.length = 1 ∧ ∃ (a : Addr) (zs : List Str), vs = [.ref a] ∧ SqA K H a (zs.map V.str) ∧ zs.length ≤ 60 ∧ ∀ q H', H q = none → Same H H' → H' q = some (.lst ((srt (ddp zs)).map V.str)) → Q (.ref q) H'
abbrev s_image : Stmt := top 23
theorem sc_image : FnScope ["names"] ["names"] (defScope s_image) := ⟨rfl, rfl, rfl, by decide +kernel, rfl, by decide +kernel, by decide +kernel⟩
theorem ok_image {P : Program} {w : World} {K : PySem.W.Frag} {mg : Str → Option Value} {base : Heap} {f : Addr} {fd : FuncData} (F : L2.Fun K "image" "image" s_image f fd)
    (C_b_set : mg "set" = none)
    (C_b_sorted : mg "sorted" = none) :
    FnOk P w K mg base (L2.CX P w) 1 f fd ["names"] (spImg K) := by
  refine fnOk_mk F sc_image (fun vs H Q E h => h.1) (fun cdv A outer s H vs Q E hr h => ?_)
  obtain ⟨_, a, zs, rfl, hz, hl, k⟩ := h
  refine ⟨_, pss_one (ps_ret (pe_callB (cr_sortX rfl) (by rfl) C_b_sorted (by decide +kernel) (pa_cons (pe_callTy (cr_setX rfl) (by rfl) C_b_set (by decide +kernel) (pa_cons (pv 0) pa_nil)) pa_nil))), ?_⟩
  try dsimp only [cxOf]
  walk_at "rd"
  have ld := ddp_len zs
  refine ⟨a, zs, rfl, hz, by omega, fun p hp => ?_⟩
  walk_at "rd"
  exact ⟨p, ddp zs, rfl, upd_same, by omega, fun q H' hq s' o' e' => k q H' (nback (same_new hp) hq) ((same_new hp).trans s') e'⟩
open ZA
/-! ### what the law asks, as data -/
noncomputable def prD : Option (Str × Str) → PyData
  | none => .none
  | some e => .tuple [.str e.1, .str e.2]
noncomputable def verD (n m : Nat) (u : Option Str) (d : PyData) : PyData := if n ≠ m then .list [.str "number", .int (n : Nat)] else match u with
  | some z => .list [.str "unknown", .str z]
  | none => .list [.str "told", d]
theorem verD_num {n m : Nat} {u : Option Str} {d : PyData} (h : n ≠ m) : verD n m u d = .list [.str "number", .int (n : Nat)] := if_pos h
theorem verD_unk {n m : Nat} {z : Str} {d : PyData} (h : n = m) : verD n m (some z) d = .list [.str "unknown", .str z] := by unfold verD; rw [if_neg (by simpa using h)]
theorem verD_told {n m : Nat} {d : PyData} (h : n = m) : verD n m none d = .list [.str "told", d] := by unfold verD; rw [if_neg (by simpa using h)]
theorem lay_ver {n m k : Nat} {u : Option Str} {d : PyData} (hu : ∀ z, u = some z → PyData.strOk z = true) (hd : Lay k d) : Lay (k + 1) (verD n m u d) := by
  have two : ∀ (x : Str) (e : PyData), PyData.strOk x = true → Lay k e → Lay (k + 1) (.list [.str x, e]) := fun x e hx he => lay_list fun y hy => by
    simp at hy
    rcases hy with rfl | rfl
    · exact (lay_str hx).mono (Nat.zero_le _)
    · exact he
  by_cases h : n = m
  · cases u with
    | none => rw [verD_told h]; exact two _ _ (by decide +kernel) hd
    | some z => rw [verD_unk h]; exact two _ _ (by decide +kernel) ((lay_str (hu z rfl)).mono (Nat.zero_le _))
  · rw [verD_num h]; exact two _ _ (by decide +kernel) ((lay_int _).mono (Nat.zero_le _))
theorem dpPr {K : PySem.W.Frag} {H : Hp} {v : V} {o : Option (Str × Str)} (h : PrV H v o) : Dp K H v (prD o) := by
  cases o with
  | none => rw [show v = .non from h]; exact .non
  | some e => obtain ⟨q, rfl, h⟩ := h; exact .tup (.of h) (.cons (.str _) (.cons (.str _) .nil))
theorem dpTwo {K : PySem.W.Frag} {H : Hp} {q : Addr} {x : Str} {v : V} {d : PyData} (h : H q = some (.lst [.str x, v])) (hv : Dp K H v d) : Dp K H (.ref q) (.list [.str x, d]) := .lst (.of h) (.cons (.str _) (.cons hv .nil))
noncomputable def mapD (N M : List Str) (R S : Str → Str → Bool) (zs : List Str) : PyData := verD zs.length N.length (miss M zs) (prD (brk N R S zs))
noncomputable def cmpD (N xs ys : List Str) : PyData := verD ys.length N.length (miss N xs) (.tuple ((xs.map (gm N ys)).map PyData.str))
noncomputable def undD (M : List Str) (S : Str → Str → Bool) (xs ys : List Str) : PyData := if xs.length ≠ ys.length then .list [.str "number", .int (ys.length : Nat)] else verD 0 0 (miss M (flat (xs.zip ys))) (.bool ((xs.zip ys).all fun p => S p.1 p.2))
noncomputable def setD (N zs : List Str) : PyData := verD zs.length N.length (miss N zs) (.list ((stay N zs).map PyData.str))
def spLBrk (K : PySem.W.Frag) (CO : Addr) : Sp := fun vs H Q _ => vs.length = 3 ∧ ∃ (a b c : Addr) (N M : List Str) (R S : Str → Str → Bool) (zs : List Str), vs = [.ref a, .ref b, .ref c] ∧ IsO CO H a N R ∧ IsO CO H b M S ∧ SqA K H c (zs.map V.str) ∧ zs.length ≤ 1000 ∧ (∀ z ∈ zs, RW z) ∧
  ∀ q H', H q = none → Same H H' → Dp K H' (.ref q) (mapD N M R S zs) → Q (.ref q) H'
abbrev s__law_broken : Stmt := top 41
theorem sc__law_broken : FnScope ["_law_begins", "_law_stands", "_law_names_here", "e"] ["_law_begins", "_law_stands", "_law_names_here"] (defScope s__law_broken) := ⟨rfl, rfl, rfl, by decide +kernel, rfl, by decide +kernel, by decide +kernel⟩
theorem ok__law_broken {P : Program} {w : World} {K : PySem.W.Frag} {mg : Str → Option Value} {base : Heap} {CB CO CU : Addr} {f : Addr} {fd : FuncData} (F : L2.Fun K "_law_broken" "_law_broken" s__law_broken f fd)
    (C_f_broken_pair : Cal P w K mg base "broken_pair" 5 (spBrk K CO CB CU))
    (C_gBadNumber : mg "BadNumber" = some (.ref CB))
    (C_gUnknownName : mg "UnknownName" = some (.ref CU))
    (C_xf_BadNumber : XfC K CB)
    (C_xf_UnknownName : XfC K CU)
    (C_xm_BadNumber : PySem.W.exmOne K (.ref CB) (.ref CB) = some true)
    (C_xm_UnknownName : PySem.W.exmOne K (.ref CU) (.ref CU) = some true)
    (C_xm_UnknownName_BadNumber : PySem.W.exmOne K (.ref CU) (.ref CB) = some false)
    (C_xn_BadNumber_n : PySem.W.findIn K (.ref CB) "n" = some none)
    (C_xn_UnknownName_name : PySem.W.findIn K (.ref CU) "name" = some none) :
    FnOk P w K mg base (L2.CX P w) 6 f fd ["_law_begins", "_law_stands", "_law_names_here"] (spLBrk K CO) := by
  refine fnOk_mk F sc__law_broken (fun vs H Q E h => h.1) (fun cdv A outer s H vs Q E hr h => ?_)
  obtain ⟨_, a, b, c, N, M, R, S, zs, rfl, ha, hb, hc, hl, hw, k⟩ := h
  refine ⟨_, pss_one (z_tryAll (i := 3) rfl rfl sc__law_broken.nd rfl rfl takes0 (fun W pn xe tk po => pss_one (ps_ret (pe_lst (pa_cons pe_str (pa_cons (z_callC C_f_broken_pair hr (fun σ => passAt tk σ) (pa_cons (pv 0) (pa_cons (pv 1) (pa_cons (pv 2) pa_nil)))) pa_nil))))) (.cons ⟨rfl, by decide, .inl C_gBadNumber⟩ (fun a oe cls d pn hz hf => pss_one (ps_ret (pe_lst (pa_cons pe_str (pa_cons (pe_xf C_xf_BadNumber C_xn_BadNumber_n hz hf (pv 3)) pa_nil))))) (.cons ⟨rfl, by decide, .inl C_gUnknownName⟩ (fun a oe cls d pn hz hf => pss_one (ps_ret (pe_lst (pa_cons pe_str (pa_cons (pe_xf C_xf_UnknownName C_xn_UnknownName_name hz hf (pv 3)) pa_nil))))) .nil))), ?_⟩
  try dsimp only [cxOf]
  walk_at "rd"
  refine ⟨rfl, a, b, c, N, M, R, S, zs, rfl, ha, hb, hc, hl, hw, fun hne d H' s e => ?_, fun heq => ⟨fun z hz d H' s e => ?_, fun hm v H1 s1 hv => ?_⟩⟩
  · refine i_was C_xm_BadNumber fun a ha => ?_
    walk_at "rd"
    refine i_xf1 e ?_
    walk_at "rd"
    refine i_lst1 (Nat.le_of_ble_eq_true rfl) fun q H2 hq s2 e3 o2 => k q H2 (nback s hq) (s.trans s2) ?_
    rw [mapD, verD_num hne]
    exact dpTwo e3 (.int _)
  · refine i_wasNo C_xm_UnknownName_BadNumber (i_was C_xm_UnknownName fun a ha => ?_)
    walk_at "rd"
    refine i_xf1 e ?_
    walk_at "rd"
    refine i_lst1 (Nat.le_of_ble_eq_true rfl) fun q H2 hq s2 e3 o2 => k q H2 (nback s hq) (s.trans s2) ?_
    rw [mapD, hz, verD_unk heq]
    exact dpTwo e3 (.str _)
  · walk_at "rd"
    refine i_lst1 (Nat.le_of_ble_eq_true rfl) fun q H2 hq s2 e3 o2 => k q H2 (nback s1 hq) (s1.trans s2) ?_
    rw [mapD, hm, verD_told heq]
    exact dpTwo e3 (dpMono s2 (dpPr hv))
theorem dpStrs {K : PySem.W.Frag} {H : Hp} : ∀ (zs : List Str), DpAll K H (zs.map V.str) (zs.map PyData.str)
  | [] => .nil
  | z :: zs => .cons (.str z) (dpStrs zs)
def spLCmp (K : PySem.W.Frag) (CO : Addr) : Sp := fun vs H Q _ => vs.length = 3 ∧ ∃ (a b c : Addr) (N : List Str) (R : Str → Str → Bool) (xs ys : List Str), vs = [.ref a, .ref b, .ref c] ∧ IsO CO H a N R ∧ SqA K H b (xs.map V.str) ∧ SqA K H c (ys.map V.str) ∧ xs.length ≤ 1000 ∧ ys.length ≤ 1000 ∧ (∀ z ∈ xs, RW z) ∧
  ∀ q H', H q = none → Same H H' → Dp K H' (.ref q) (cmpD N xs ys) → Q (.ref q) H'
abbrev s__law_composed : Stmt := top 42
theorem sc__law_composed : FnScope ["_law_middle", "_law_one", "_law_other", "e"] ["_law_middle", "_law_one", "_law_other"] (defScope s__law_composed) := ⟨rfl, rfl, rfl, by decide +kernel, rfl, by decide +kernel, by decide +kernel⟩
theorem ok__law_composed {P : Program} {w : World} {K : PySem.W.Frag} {mg : Str → Option Value} {base : Heap} {CB CO CU : Addr} {f : Addr} {fd : FuncData} (F : L2.Fun K "_law_composed" "_law_composed" s__law_composed f fd)
    (C_f_composed : Cal P w K mg base "composed" 4 (spCmp K CO CB CU))
    (C_gBadNumber : mg "BadNumber" = some (.ref CB))
    (C_gUnknownName : mg "UnknownName" = some (.ref CU))
    (C_xf_BadNumber : XfC K CB)
    (C_xf_UnknownName : XfC K CU)
    (C_xm_BadNumber : PySem.W.exmOne K (.ref CB) (.ref CB) = some true)
    (C_xm_UnknownName : PySem.W.exmOne K (.ref CU) (.ref CU) = some true)
    (C_xm_UnknownName_BadNumber : PySem.W.exmOne K (.ref CU) (.ref CB) = some false)
    (C_xn_BadNumber_n : PySem.W.findIn K (.ref CB) "n" = some none)
    (C_xn_UnknownName_name : PySem.W.findIn K (.ref CU) "name" = some none) :
    FnOk P w K mg base (L2.CX P w) 5 f fd ["_law_middle", "_law_one", "_law_other"] (spLCmp K CO) := by
  refine fnOk_mk F sc__law_composed (fun vs H Q E h => h.1) (fun cdv A outer s H vs Q E hr h => ?_)
  obtain ⟨_, a, b, c, N, R, xs, ys, rfl, ha, hb, hc, lx, ly, hw, k⟩ := h
  refine ⟨_, pss_one (z_tryAll (i := 3) rfl rfl sc__law_composed.nd rfl rfl takes0 (fun W pn xe tk po => pss_one (ps_ret (pe_lst (pa_cons pe_str (pa_cons (z_callC C_f_composed hr (fun σ => passAt tk σ) (pa_cons (pv 0) (pa_cons (pv 1) (pa_cons (pv 2) pa_nil)))) pa_nil))))) (.cons ⟨rfl, by decide, .inl C_gBadNumber⟩ (fun a oe cls d pn hz hf => pss_one (ps_ret (pe_lst (pa_cons pe_str (pa_cons (pe_xf C_xf_BadNumber C_xn_BadNumber_n hz hf (pv 3)) pa_nil))))) (.cons ⟨rfl, by decide, .inl C_gUnknownName⟩ (fun a oe cls d pn hz hf => pss_one (ps_ret (pe_lst (pa_cons pe_str (pa_cons (pe_xf C_xf_UnknownName C_xn_UnknownName_name hz hf (pv 3)) pa_nil))))) .nil))), ?_⟩
  try dsimp only [cxOf]
  walk_at "rd"
  refine ⟨rfl, a, b, c, N, R, xs, ys, rfl, ha, hb, hc, lx, ly, hw, fun hne d H' s e => ?_, fun heq => ⟨fun z hz d H' s e => ?_, fun hm t H1 s1 hv => ?_⟩⟩
  · refine i_was C_xm_BadNumber fun a ha => ?_
    walk_at "rd"
    refine i_xf1 e ?_
    walk_at "rd"
    refine i_lst1 (Nat.le_of_ble_eq_true rfl) fun q H2 hq s2 e3 o2 => k q H2 (nback s hq) (s.trans s2) ?_
    rw [cmpD, verD_num hne]
    exact dpTwo e3 (.int _)
  · refine i_wasNo C_xm_UnknownName_BadNumber (i_was C_xm_UnknownName fun a ha => ?_)
    walk_at "rd"
    refine i_xf1 e ?_
    walk_at "rd"
    refine i_lst1 (Nat.le_of_ble_eq_true rfl) fun q H2 hq s2 e3 o2 => k q H2 (nback s hq) (s.trans s2) ?_
    rw [cmpD, hz, verD_unk heq]
    exact dpTwo e3 (.str _)
  · walk_at "rd"
    refine i_lst1 (Nat.le_of_ble_eq_true rfl) fun q H2 hq s2 e3 o2 => k q H2 (nback s1 hq) (s1.trans s2) ?_
    rw [cmpD, hm, verD_told heq]
    exact dpTwo e3 (.tup (.of (s2 _ _ hv)) (dpStrs _))
def spLUnd (K : PySem.W.Frag) (CO : Addr) : Sp := fun vs H Q _ => vs.length = 3 ∧ ∃ (a b c : Addr) (M : List Str) (S : Str → Str → Bool) (xs ys : List Str), vs = [.ref a, .ref b, .ref c] ∧ IsO CO H a M S ∧ SqA K H b (xs.map V.str) ∧ SqA K H c (ys.map V.str) ∧ xs.length ≤ 1000 ∧ ys.length ≤ 1000 ∧ (∀ z ∈ xs, RW z) ∧ (∀ z ∈ ys, RW z) ∧
  ∀ q H', H q = none → Same H H' → Dp K H' (.ref q) (undD M S xs ys) → Q (.ref q) H'
abbrev s__law_under : Stmt := top 44
theorem sc__law_under : FnScope ["_law_stands", "_law_one", "_law_other", "e"] ["_law_stands", "_law_one", "_law_other"] (defScope s__law_under) := ⟨rfl, rfl, rfl, by decide +kernel, rfl, by decide +kernel, by decide +kernel⟩
theorem ok__law_under {P : Program} {w : World} {K : PySem.W.Frag} {mg : Str → Option Value} {base : Heap} {CB CO CU : Addr} {f : Addr} {fd : FuncData} (F : L2.Fun K "_law_under" "_law_under" s__law_under f fd)
    (C_f_is_below_map : Cal P w K mg base "is_below_map" 5 (spUnd K CO CB CU))
    (C_gBadNumber : mg "BadNumber" = some (.ref CB))
    (C_gUnknownName : mg "UnknownName" = some (.ref CU))
    (C_xf_BadNumber : XfC K CB)
    (C_xf_UnknownName : XfC K CU)
    (C_xm_BadNumber : PySem.W.exmOne K (.ref CB) (.ref CB) = some true)
    (C_xm_UnknownName : PySem.W.exmOne K (.ref CU) (.ref CU) = some true)
    (C_xm_UnknownName_BadNumber : PySem.W.exmOne K (.ref CU) (.ref CB) = some false)
    (C_xn_BadNumber_n : PySem.W.findIn K (.ref CB) "n" = some none)
    (C_xn_UnknownName_name : PySem.W.findIn K (.ref CU) "name" = some none) :
    FnOk P w K mg base (L2.CX P w) 6 f fd ["_law_stands", "_law_one", "_law_other"] (spLUnd K CO) := by
  refine fnOk_mk F sc__law_under (fun vs H Q E h => h.1) (fun cdv A outer s H vs Q E hr h => ?_)
  obtain ⟨_, a, b, c, M, S, xs, ys, rfl, ha, hb, hc, lx, ly, hw, hv, k⟩ := h
  refine ⟨_, pss_one (z_tryAll (i := 3) rfl rfl sc__law_under.nd rfl rfl takes0 (fun W pn xe tk po => pss_one (ps_ret (pe_lst (pa_cons pe_str (pa_cons (z_callC C_f_is_below_map hr (fun σ => passAt tk σ) (pa_cons (pv 0) (pa_cons (pv 1) (pa_cons (pv 2) pa_nil)))) pa_nil))))) (.cons ⟨rfl, by decide, .inl C_gBadNumber⟩ (fun a oe cls d pn hz hf => pss_one (ps_ret (pe_lst (pa_cons pe_str (pa_cons (pe_xf C_xf_BadNumber C_xn_BadNumber_n hz hf (pv 3)) pa_nil))))) (.cons ⟨rfl, by decide, .inl C_gUnknownName⟩ (fun a oe cls d pn hz hf => pss_one (ps_ret (pe_lst (pa_cons pe_str (pa_cons (pe_xf C_xf_UnknownName C_xn_UnknownName_name hz hf (pv 3)) pa_nil))))) .nil))), ?_⟩
  try dsimp only [cxOf]
  walk_at "rd"
  refine ⟨rfl, a, b, c, M, S, xs, ys, rfl, ha, hb, hc, lx, ly, hw, hv, fun hne d H' s e => ?_, fun heq => ⟨fun z hz d H' s e => ?_, fun hm H1 s1 => ?_⟩⟩
  · refine i_was C_xm_BadNumber fun a ha => ?_
    walk_at "rd"
    refine i_xf1 e ?_
    walk_at "rd"
    refine i_lst1 (Nat.le_of_ble_eq_true rfl) fun q H2 hq s2 e3 o2 => k q H2 (nback s hq) (s.trans s2) ?_
    rw [undD, if_pos hne]
    exact dpTwo e3 (.int _)
  · refine i_wasNo C_xm_UnknownName_BadNumber (i_was C_xm_UnknownName fun a ha => ?_)
    walk_at "rd"
    refine i_xf1 e ?_
    walk_at "rd"
    refine i_lst1 (Nat.le_of_ble_eq_true rfl) fun q H2 hq s2 e3 o2 => k q H2 (nback s hq) (s.trans s2) ?_
    rw [undD, if_neg (by simpa using heq), hz, verD_unk rfl]
    exact dpTwo e3 (.str _)
  · walk_at "rd"
    refine i_lst1 (Nat.le_of_ble_eq_true rfl) fun q H2 hq s2 e3 o2 => k q H2 (nback s1 hq) (s1.trans s2) ?_
    rw [undD, if_neg (by simpa using heq), hm, verD_told rfl]
    exact dpTwo e3 (.bl _)
def spLSet (K : PySem.W.Frag) (CO : Addr) : Sp := fun vs H Q _ => vs.length = 2 ∧ ∃ (a c : Addr) (N : List Str) (R : Str → Str → Bool) (zs : List Str), vs = [.ref a, .ref c] ∧ IsO CO H a N R ∧ SqA K H c (zs.map V.str) ∧ zs.length ≤ 1000 ∧ (∀ z ∈ zs, RW z) ∧
  ∀ q H', H q = none → Same H H' → Dp K H' (.ref q) (setD N zs) → Q (.ref q) H'
abbrev s__law_settled : Stmt := top 46
theorem sc__law_settled : FnScope ["_law_order_here", "_law_names_here", "e"] ["_law_order_here", "_law_names_here"] (defScope s__law_settled) := ⟨rfl, rfl, rfl, by decide +kernel, rfl, by decide +kernel, by decide +kernel⟩
theorem ok__law_settled {P : Program} {w : World} {K : PySem.W.Frag} {mg : Str → Option Value} {base : Heap} {CB CO CU : Addr} {f : Addr} {fd : FuncData} (F : L2.Fun K "_law_settled" "_law_settled" s__law_settled f fd)
    (C_f_settled : Cal P w K mg base "settled" 5 (spSet K CO CB CU))
    (C_gBadNumber : mg "BadNumber" = some (.ref CB))
    (C_gUnknownName : mg "UnknownName" = some (.ref CU))
    (C_xf_BadNumber : XfC K CB)
    (C_xf_UnknownName : XfC K CU)
    (C_xm_BadNumber : PySem.W.exmOne K (.ref CB) (.ref CB) = some true)
    (C_xm_UnknownName : PySem.W.exmOne K (.ref CU) (.ref CU) = some true)
    (C_xm_UnknownName_BadNumber : PySem.W.exmOne K (.ref CU) (.ref CB) = some false)
    (C_xn_BadNumber_n : PySem.W.findIn K (.ref CB) "n" = some none)
    (C_xn_UnknownName_name : PySem.W.findIn K (.ref CU) "name" = some none) :
    FnOk P w K mg base (L2.CX P w) 6 f fd ["_law_order_here", "_law_names_here"] (spLSet K CO) := by
  refine fnOk_mk F sc__law_settled (fun vs H Q E h => h.1) (fun cdv A outer s H vs Q E hr h => ?_)
  obtain ⟨_, a, c, N, R, zs, rfl, ha, hc, hl, hw, k⟩ := h
  refine ⟨_, pss_one (z_tryAll (i := 2) rfl rfl sc__law_settled.nd rfl rfl takes0 (fun W pn xe tk po => pss_one (ps_ret (pe_lst (pa_cons pe_str (pa_cons (z_callC C_f_settled hr (fun σ => passAt tk σ) (pa_cons (pv 0) (pa_cons (pv 1) pa_nil))) pa_nil))))) (.cons ⟨rfl, by decide, .inl C_gBadNumber⟩ (fun a oe cls d pn hz hf => pss_one (ps_ret (pe_lst (pa_cons pe_str (pa_cons (pe_xf C_xf_BadNumber C_xn_BadNumber_n hz hf (pv 2)) pa_nil))))) (.cons ⟨rfl, by decide, .inl C_gUnknownName⟩ (fun a oe cls d pn hz hf => pss_one (ps_ret (pe_lst (pa_cons pe_str (pa_cons (pe_xf C_xf_UnknownName C_xn_UnknownName_name hz hf (pv 2)) pa_nil))))) .nil))), ?_⟩
  try dsimp only [cxOf]
  walk_at "rd"
  refine ⟨rfl, a, c, N, R, zs, rfl, ha, hc, hl, hw, fun hne d H' s e => ?_, fun heq => ⟨fun z hz d H' s e => ?_, fun hm t H1 ht s1 hv => ?_⟩⟩
  · refine i_was C_xm_BadNumber fun a ha => ?_
    walk_at "rd"
    refine i_xf1 e ?_
    walk_at "rd"
    refine i_lst1 (Nat.le_of_ble_eq_true rfl) fun q H2 hq s2 e3 o2 => k q H2 (nback s hq) (s.trans s2) ?_
    rw [setD, verD_num hne]
    exact dpTwo e3 (.int _)
  · refine i_wasNo C_xm_UnknownName_BadNumber (i_was C_xm_UnknownName fun a ha => ?_)
    walk_at "rd"
    refine i_xf1 e ?_
    walk_at "rd"
    refine i_lst1 (Nat.le_of_ble_eq_true rfl) fun q H2 hq s2 e3 o2 => k q H2 (nback s hq) (s.trans s2) ?_
    rw [setD, hz, verD_unk heq]
    exact dpTwo e3 (.str _)
  · walk_at "rd"
    refine i_lst1 (Nat.le_of_ble_eq_true rfl) fun q H2 hq s2 e3 o2 => k q H2 (nback s1 hq) (s1.trans s2) ?_
    rw [setD, hm, verD_told heq]
    exact dpTwo e3 (.lst (.of (s2 _ _ hv)) (dpStrs _))
open ZA
theorem LTab.of {K : PySem.W.Frag} {H : Hp} {o : Addr} {zs : List Str} {E : List (Str × Str)} (h : IsOrd H o zs E) : ∃ l, (∃ c, H o = some (.tup [.ref l, .ref c])) ∧ H l = some (.lst (zs.map V.str)) := let ⟨l, c, h1, h2, _⟩ := h.at_; ⟨l, ⟨c, h1⟩, h2⟩
theorem cvs_len {N : List Str} {R : Str → Str → Bool} (h : N.length ≤ 8) : (OM.cvs N R).length ≤ 64 := by
  have h1 := prs_len (N := N) (R := R)
  have h2 : (OM.cvs N R).length ≤ (OM.prs N R).length := List.length_filter_le _ _
  have h3 : N.length * N.length ≤ 8 * 8 := Nat.mul_le_mul h h
  omega
theorem ifT {c : Prop} [Decidable c] {A B : Prop} (h : c) (a : A) : if c then A else B := by rw [if_pos h]; exact a
theorem ifF {c : Prop} [Decidable c] {A B : Prop} (h : ¬ c) (b : B) : if c then A else B := by rw [if_neg h]; exact b
theorem dpTPr {K : PySem.W.Frag} {H : Hp} : ∀ {qs : List Addr} {L : List (Str × Str)}, TPr H qs L → DpAll K H (qs.map V.ref) (L.map fun e => PyData.tuple [.str e.1, .str e.2])
  | [], [], _ => .nil
  | [], _ :: _, h => by have := h.1; simp at this
  | _ :: _, [], h => by have := h.1; simp at this
  | q :: qs, e :: L, h => .cons (.tup (.of (h.2 0 q e rfl rfl)) (.cons (.str _) (.cons (.str _) .nil))) (dpTPr ⟨by have := h.1; simpa using this, fun i q' e' h1 h2 => h.2 (i + 1) q' e' (by simpa using h1) (by simpa using h2)⟩)
theorem strAt {zs : List Str} {i : Nat} {z : Str} (h : zs[i]? = some z) : (zs.map V.str)[i]? = some (.str z) := by rw [List.getElem?_map, h]; rfl
def spFault (K : PySem.W.Frag) : Sp := fun vs H Q _ => vs.length = 3 ∧ ∃ (o p c : Addr) (zs ws ns : List Str) (E F : List (Str × Str)), vs = [.ref o, .ref p, .ref c] ∧ IsOrd H o zs E ∧ IsOrd H p ws F ∧ H c = some (.lst (ns.map V.str)) ∧ ns.length = zs.length ∧ (∀ n ∈ ns, n ∈ ws) ∧
  ∀ v H', Same H H' → PrV H' v (brk zs (OM.cl E) (OM.cl F) ns) → Q v H'
abbrev s__law_fault : Stmt := top 39
theorem sc__law_fault : FnScope ["_law_first", "_law_second", "_law_names_here", "_law_above_here", "_law_where", "_law_k", "_law_bad", "_law_pair"] ["_law_first", "_law_second", "_law_names_here"] (defScope s__law_fault) := ⟨rfl, rfl, rfl, by decide +kernel, rfl, by decide +kernel, by decide +kernel⟩
theorem ok__law_fault {P : Program} {w : World} {K : PySem.W.Frag} {mg : Str → Option Value} {base : Heap} {f : Addr} {fd : FuncData} (F : L2.Fun K "_law_fault" "_law_fault" s__law_fault f fd)
    (C_b_dict : mg "dict" = none)
    (C_b_len : mg "len" = none)
    (C_b_range : mg "range" = none)
    (C_f_law_above : Cal P w K mg base "_law_above" 1 (spAbv K))
    (C_f_law_covers : Cal P w K mg base "_law_covers" 2 (spCov K)) :
    FnOk P w K mg base (L2.CX P w) 3 f fd ["_law_first", "_law_second", "_law_names_here"] (spFault K) := by
  refine fnOk_mk F sc__law_fault (fun vs H Q E h => h.1) (fun cdv A outer s H vs Q E hr h => ?_)
  obtain ⟨_, o, p, c, zs, ws, ns, E, F, rfl, io, ip, hc, hl, hin, k⟩ := h
  refine ⟨_, pss_cons (ps_set (i := 3) sc__law_fault.nd rfl (Or.inr rfl) (z_callC C_f_law_above hr passN (pa_cons (pv 1) pa_nil)))
    (pss_cons (ps_set (i := 4) sc__law_fault.nd rfl (Or.inr rfl) (pe_callTy (k_dictP (K := K) rfl rfl) (by rfl) C_b_dict (by decide +kernel) (pa_cons (pe_lc (own := [("_law_k", 5)]) (by rfl) sc__law_fault.nd (pi_range1 (by rfl) C_b_range (pa_cons (pe_callB (k_len (K := K) rfl) (by rfl) C_b_len (by decide +kernel) (pa_cons (pv 2) pa_nil)) pa_nil)) (blkOk_by (N := ["_law_first", "_law_second", "_law_names_here", "_law_above_here", "_law_where", "_law_k", "_law_bad", "_law_pair"]) (sc := defScope s__law_fault) (by decide +kernel)) (fun _ _ _ _ _ => pg_name (i := 5) sc__law_fault.nd rfl (Or.inl rfl)) (fun _ _ _ _ _ => pts_nil) (fun _ _ _ _ _ => pe_tup (pa_cons (pe_ix (k_ixL (K := K) rfl) (pe_ix (k_ixT (K := K) rfl) (pv 0) pe_int (fun _ _ => rfl)) (pv 5) (fun _ _ => rfl)) (pa_cons (pe_ix (k_ixL (K := K) rfl) (pv 2) (pv 5) (fun _ _ => rfl)) pa_nil)))) pa_nil)))
    (pss_cons (ps_setLc (i := 6) (own := [("_law_pair", 7)]) (by rfl) sc__law_fault.nd rfl rfl (sw_true rfl rfl rfl (by decide +kernel)) (pi_any (K := K) rfl (z_callC C_f_law_covers hr passN (pa_cons (pv 0) pa_nil))) (blkOk_by (N := ["_law_first", "_law_second", "_law_names_here", "_law_above_here", "_law_where", "_law_k", "_law_bad", "_law_pair"]) (sc := defScope s__law_fault) (by decide +kernel)) (fun _ _ _ _ _ => pg_name (i := 7) sc__law_fault.nd rfl (Or.inl rfl)) (fun _ _ _ _ _ => pts_one (pt_cmpR (k_notInS (K := K) rfl) (pe_dget (hu_of hr) (pv 4) (pe_ix (k_ixT (K := K) rfl) (pv 7) pe_int (fun _ _ => rfl)) (fun _ _ => rfl)) (pe_dget (hu_of hr) (pv 3) (pe_dget (hu_of hr) (pv 4) (pe_ix (k_ixT (K := K) rfl) (pv 7) pe_int (fun _ _ => rfl)) (fun _ _ => rfl)) (fun _ _ => rfl)) rfl)) (fun _ _ _ _ _ => pv 7))
    (pss_one (ps_ret (pe_ifExp (pt_cmpR (k_eqD (K := K) rfl hr.units) (pv 6) (pe_lst pa_nil) (nomark _)) pe_non (pe_ix ix_list (pv 6) pe_int (fun _ _ => rfl))))))), ?_⟩
  try dsimp only [cxOf]
  walk_at "rd"
  refine ⟨rfl, p, ws, F, rfl, ip, fun d H1 hd s1 lt => ?_⟩
  walk_at "rd"
  have hc1 := s1 _ _ hc
  obtain ⟨l, ⟨cE, eo⟩, el⟩ := LTab.of (K := K) io
  have hz := io.len
  refine i_lenA (SqA.l hc1) ?_
  rw [List.length_map, hl]
  walk_at "rd"
  refine i_lcR1 (n := zs.length) rfl (by omega) (fun i ys H' => Same H1 H' ∧ ∃ qs : List Addr, ys = qs.map V.ref ∧ qs.length = i ∧ PsT H' qs (dF (zs.take i) fun z => .str (gm zs ns z))) (fun D H' hD s e ho => ⟨s, [], rfl, rfl, .nil⟩) ?_ ?_
  · rintro i D ys H2 hD hi eD ⟨s2, qs, rfl, lq, hT⟩
    have hzi : zs[i]? = some zs[i] := List.getElem?_eq_getElem hi
    have hni : ns[i]? = some (ns[i]'(by omega)) := List.getElem?_eq_getElem (by omega)
    have egm := gm_at (zs := ns) io.nd hzi hni
    generalize zs[i] = z at *
    generalize ns[i]'(by omega) = y at *
    have s02 := s1.trans s2
    walk_at "rd"
    rw [Int.zero_add]
    refine ⟨by with_unfolding_all rfl, ?_⟩
    walk_at "rd"
    refine i_ixT0 (.of (s02 _ _ eo)) ?_
    walk_at "rd"
    refine i_ixL (.of (s02 _ _ el)) (strAt hzi) ?_
    walk_at "rd"
    refine i_ixL (.of (s02 _ _ hc)) (strAt hni) ?_
    walk_at "rd"
    refine i_tup1 (Nat.le_of_ble_eq_true rfl) fun t H3 ht s3 e3 o3 => ?_
    have T3 := (hT.mono fun b xs e => s3 _ _ e)
    refine i_lcE (s3 _ _ eD) (by rw [List.length_map]; omega) fun H4 e4 o4 => ⟨fun b u e => by rw [o4 b (ne_of_none e hD)]; exact s3 _ _ (s2 _ _ e), qs ++ [t], by rw [List.map_append]; rfl, by rw [List.length_append, lq]; rfl, ?_⟩
    have T4 : TupS H3 H4 := tups_at o4 (s3 _ _ eD) fun xs z => by cases z
    rw [take_snoc hzi]
    have := (T3.snoc (nodup_take io.nd hzi) e3).mono T4
    rw [show upF (fun z => V.str (gm zs ns z)) z (.str y) = fun z => V.str (gm zs ns z) from ?_] at this
    · exact this
    · funext x
      unfold upF
      split
      · rename_i e
        rw [e, egm]
      · rfl
  · rintro D ys H2 hD eD ⟨s2, qs, rfl, lq, hT⟩
    rw [List.take_length] at hT
    walk_at "rd"
    refine i_dictP eD hT io.nd fun w H3 hw s3 o3 e3 => ?_
    walk_at "rd"
    have s03 := s1.trans (s2.trans s3)
    refine ⟨rfl, o, zs, E, rfl, io.mono s03, fun cv H4 hcv s4 lp => ?_⟩
    have s04 := s03.trans s4
    walk_at "rd"
    obtain ⟨qc, ec, tc⟩ := id lp
    obtain ⟨A, hA0, hA⟩ := lt
    have tb := ip.tbl
    obtain ⟨_, _, _, _, hwm, _⟩ := id tb
    generalize OM.turns F ws.length (fun x => [x]) = W at *
    have s14 := s2.trans (s3.trans s4)
    refine i_lcA (H0 := H4) (fun i ys H' => Same H4 H' ∧ ∃ qs : List Addr, ys = qs.map V.ref ∧ TPr H' qs (((OM.cvs zs (OM.cl E)).take i).filter fun e => !OM.cl F (gm zs ns e.1) (gm zs ns e.2))) (SqA.l ec) (.refl _) (fun D H' hD s e ho => ⟨s, [], rfl, .nil⟩) (fun i ys H' p => p.1) ?_ ?_
    · rintro i x D ys H5 hD hx eD ⟨s5, qs, rfl, tq⟩
      have hi : i < qc.length := by have := (List.getElem?_eq_some_iff.mp hx).1; rwa [List.length_map] at this
      have hq : qc[i]? = some qc[i] := List.getElem?_eq_getElem hi
      rw [List.getElem?_map, hq] at hx
      cases hx
      have he : (OM.cvs zs (OM.cl E))[i]? = some ((OM.cvs zs (OM.cl E))[i]'(by rw [← tc.1]; exact hi)) := List.getElem?_eq_getElem _
      have e0 := tc.2 i _ _ hq he
      generalize (OM.cvs zs (OM.cl E))[i]'(by rw [← tc.1]; exact hi) = e at *
      generalize qc[i] = q at *
      obtain ⟨n1, n2⟩ := cvs_mem (List.mem_of_getElem? he)
      have m1 : gm zs ns e.1 ∈ ws := hin _ (gm_mem io.nd hl.symm n1)
      have m2 : gm zs ns e.2 ∈ ws := hin _ (gm_mem io.nd hl.symm n2)
      have s15 := s14.trans s5
      have e3' := (s4.trans s5) _ _ e3
      walk_at "rd"
      refine ⟨by with_unfolding_all rfl, ?_⟩
      walk_at "rd"
      refine i_ixT (k := 1) (.of (s5 _ _ e0)) rfl ?_
      refine i_dget e3' (valV_in n2) ?_
      walk_at "rd"
      refine i_ixT0 (.of (s5 _ _ e0)) ?_
      refine i_dget e3' (valV_in n1) ?_
      refine i_dget (s15 _ _ hA0) (rows_val m1) ?_
      refine i_notInS (SqA.l (s15 _ _ (hA _ m1))) ?_
      rw [show decide (gm zs ns e.2 ∈ W (gm zs ns e.1)) = OM.cl F (gm zs ns e.1) (gm zs ns e.2) from ?_]
      · cases hb : OM.cl F (gm zs ns e.1) (gm zs ns e.2) with
        | true =>
          refine ⟨_, rfl, ?_⟩
          rw [if_neg (show ¬ ((!true) = true) from by decide)]
          refine ⟨_, eD, s5, qs, rfl, ?_⟩
          rw [take_snoc he, List.filter_append]
          simp [hb]
          exact tq
        | false =>
          refine ⟨_, rfl, ?_⟩
          rw [if_pos (show (!false) = true from rfl)]
          walk_at "rd"
          have lq : qs.length ≤ 64 := by
            have h1 := List.length_filter_le (fun e => !OM.cl F (gm zs ns e.1) (gm zs ns e.2)) ((OM.cvs zs (OM.cl E)).take i)
            have h2 := cvs_len (R := OM.cl E) (N := zs) (by omega : zs.length ≤ 8)
            rw [List.length_take] at h1
            rw [tq.1]
            omega
          refine i_lcE eD (by rw [List.length_map]; omega) fun H6 e6 o6 => ⟨fun b u e => by rw [o6 b (ne_of_none e hD)]; exact s5 _ _ e, qs ++ [q], by rw [List.map_append]; rfl, ?_⟩
          have tq6 : TPr H6 qs _ := tq.keep (lst_keep eD o6)
          have e06 : H6 q = some (.tup [.str e.1, .str e.2]) := lst_keep eD o6 _ _ (s5 _ _ e0)
          rw [take_snoc he, List.filter_append, show List.filter (fun e => !OM.cl F (gm zs ns e.1) (gm zs ns e.2)) [e] = [e] from by simp [hb]]
          exact tq6.snoc e06
      · rw [Bool.eq_iff_iff, decide_eq_true_eq, hwm _ m1]
        exact ⟨fun z => z.2, fun z => ⟨m2, z⟩⟩
    · rintro D ys H5 hD eD ⟨s5, qs, rfl, tq⟩
      rw [List.length_map, tc.1, List.take_length] at tq
      walk_at "rd"
      refine i_lst1 (Nat.le_of_ble_eq_true rfl) fun z H6 hz6 s6 e6 o6 => ?_
      have s06 := s04.trans (s5.trans s6)
      have hbrk : brk zs (OM.cl E) (OM.cl F) ns = (List.filter (fun e => !OM.cl F (gm zs ns e.1) (gm zs ns e.2)) (OM.cvs zs (OM.cl E))).head? := by
        unfold brk
        rw [List.head?_filter]
      have hsub : ∀ e ∈ List.filter (fun e => !OM.cl F (gm zs ns e.1) (gm zs ns e.2)) (OM.cvs zs (OM.cl E)), e.1 ∈ zs ∧ e.2 ∈ zs := fun e he => cvs_mem (List.mem_filter.mp he).1
      generalize List.filter (fun e => !OM.cl F (gm zs ns e.1) (gm zs ns e.2)) (OM.cvs zs (OM.cl E)) = L at *
      have nmO : ∀ z ∈ zs, PyData.strOk z = true := fun z hz => nameB_ok (io.names z hz)
      have shp : SeqAt.shaped (.list (L.map fun e => PyData.tuple [.str e.1, .str e.2])) = true := Lay.shaped (n := 2) (lay_list fun d hd => by
        obtain ⟨e, he, rfl⟩ := List.mem_map.mp hd
        refine lay_tup fun y hy => ?_
        simp at hy
        rcases hy with rfl | rfl
        · exact lay_str (nmO _ (hsub e he).1)
        · exact lay_str (nmO _ (hsub e he).2)) (by decide)
      refine ⟨_, .list [], .lst (.of (s6 _ _ eD)) (dpTPr (tq.mono s6)), .lst (.of e6) .nil, shp, rfl, ?_⟩
      refine ⟨_, rfl, ?_⟩
      cases L with
      | nil =>
        refine ifT (by rfl) ?_
        walk_at "rd"
        exact k _ H6 s06 (by rw [hbrk]; exact rfl)
      | cons e L =>
        refine ifF (by show ¬ (false = true); decide) ?_
        walk_at "rd"
        cases qs with
        | nil => have := tq.1; simp at this
        | cons q qs =>
          refine i_ixL (k := 0) (.of (s6 _ _ eD)) rfl ?_
          refine k _ H6 s06 ?_
          rw [hbrk]
          exact ⟨q, rfl, s6 _ _ (tq.2 0 q e rfl rfl)⟩
open ZA
theorem pe_bmK {X : Cx} {K : PySem.W.Frag} {T name id : String} {r : V → List V → Hp → VK → Prop} {o e : Expr} {es : List Expr} {to : TE} {t : TA} {apos cpos : Pos} (hK : X.K = K) (pa : PlainAttrs T) (slot : Slot T name id) (hty : typeOf (.builtin id) = pure (.type "method_descriptor")) (hm : MtR X id r) (ho : PE X o to) (ha : PA X (e :: es) t)
    (hbase : attributeBase o name X.env (eval o X.env) = eval o X.env := by rfl)
    (hfew : ((backTo cpos (starEach (e :: es) X.env)).all (fun x => !x.1) && (backToKw cpos (keywordEach [] X.env)).all (fun x => x.1.isSome)
      && decide ((e :: es).length + ([] : List Keyword).length + (if ([] : List Keyword).isEmpty then 0 else 1) < 30)) = true := by rfl)
    (hline : (apos.endLine == cpos.line) = true := by rfl) (hs : starEach (e :: es) X.env = (false, eval e X.env) :: starEach es X.env := by rfl) (hplain : (backTo cpos (starEach es X.env)).any (·.1) = false := by rfl) :
    PE X (.Call (.Attribute o name apos) (e :: es) [] cpos) (tBM K T r to t) := by
  subst hK
  exact pe_bm pa slot hty hm ho ha hbase hfew hline hs hplain
/-- texts that a law hands on -/
def SOk (zs : List Str) : Prop := ∀ z ∈ zs, PyData.strOk z = true
theorem lay_strs {zs : List Str} (h : SOk zs) : Lay 1 (.list (zs.map PyData.str)) := lay_list fun d hd => by
  obtain ⟨z, hz, rfl⟩ := List.mem_map.mp hd
  exact lay_str (h z hz)
theorem lay_strsT {zs : List Str} (h : SOk zs) : Lay 1 (.tuple (zs.map PyData.str)) := lay_tup fun d hd => by
  obtain ⟨z, hz, rfl⟩ := List.mem_map.mp hd
  exact lay_str (h z hz)
theorem i_neEmp {K : PySem.W.Frag} {p q : Addr} {H : Hp} {Q : VK} {zs : List Str} (ok : SOk zs) (h1 : H p = some (.lst (zs.map V.str))) (h2 : H q = some (.lst [])) (h : Q (.bl (!decide (zs = []))) H) : rNeD K (.ref p) (.ref q) H Q := by
  refine ⟨_, .list [], .lst (.of h1) (dpStrs zs), .lst (.of h2) .nil, (lay_strs ok).shaped (by decide), rfl, ?_⟩
  rw [show PyData.eqv (.list (zs.map PyData.str)) (.list []) = decide (zs = []) from by cases zs <;> rfl]
  exact h
theorem i_eqEmp {K : PySem.W.Frag} {p q : Addr} {H : Hp} {Q : VK} {zs : List Str} (ok : SOk zs) (h1 : H p = some (.lst (zs.map V.str))) (h2 : H q = some (.lst [])) (h : Q (.bl (decide (zs = []))) H) : rEqD K (.ref p) (.ref q) H Q := by
  refine ⟨_, .list [], .lst (.of h1) (dpStrs zs), .lst (.of h2) .nil, (lay_strs ok).shaped (by decide), rfl, ?_⟩
  rw [show PyData.eqv (.list (zs.map PyData.str)) (.list []) = decide (zs = []) from by cases zs <;> rfl]
  exact h
theorem miss_head {M zs : List Str} : miss M zs = (zs.filter fun z => !decide (z ∈ M)).head? := by
  unfold miss
  rw [List.head?_filter]
def spMapD (K : PySem.W.Frag) : Sp := fun vs H Q _ => vs.length = 3 ∧ ∃ (o p c : Addr) (zs ws ns : List Str) (E F : List (Str × Str)), vs = [.ref o, .ref p, .ref c] ∧ IsOrd H o zs E ∧ IsOrd H p ws F ∧ H c = some (.lst (ns.map V.str)) ∧ ns.length ≤ 1000 ∧ SOk ns ∧
  ∀ q H', H q = none → Same H H' → Dp K H' (.ref q) (mapD zs ws (OM.cl E) (OM.cl F) ns) → Q (.ref q) H'
abbrev s__law_map_due : Stmt := top 40
theorem sc__law_map_due : FnScope ["_law_first", "_law_second", "_law_names_here", "_law_strange", "_law_name"] ["_law_first", "_law_second", "_law_names_here"] (defScope s__law_map_due) := ⟨rfl, rfl, rfl, by decide +kernel, rfl, by decide +kernel, by decide +kernel⟩
theorem ok__law_map_due {P : Program} {w : World} {K : PySem.W.Frag} {mg : Str → Option Value} {base : Heap} {f : Addr} {fd : FuncData} (F : L2.Fun K "_law_map_due" "_law_map_due" s__law_map_due f fd)
    (C_b_len : mg "len" = none)
    (C_f_law_fault : Cal P w K mg base "_law_fault" 3 (spFault K)) :
    FnOk P w K mg base (L2.CX P w) 4 f fd ["_law_first", "_law_second", "_law_names_here"] (spMapD K) := by
  refine fnOk_mk F sc__law_map_due (fun vs H Q E h => h.1) (fun cdv A outer s H vs Q E hr h => ?_)
  obtain ⟨_, o, p, c, zs, ws, ns, E, F, rfl, io, ip, hc, hl, ok, k⟩ := h
  refine ⟨_, pss_cons (ps_if (pt_cmpR op_ne (pe_callB (k_len (K := K) rfl) (by rfl) C_b_len (by decide +kernel) (pa_cons (pv 2) pa_nil)) (pe_callB (k_len (K := K) rfl) (by rfl) C_b_len (by decide +kernel) (pa_cons (pe_ix ix_tup (pv 0) pe_int (fun _ _ => rfl)) pa_nil)) (nomark _)) (pss_one (ps_ret (pe_lst (pa_cons pe_str (pa_cons (pe_callB (k_len (K := K) rfl) (by rfl) C_b_len (by decide +kernel) (pa_cons (pv 2) pa_nil)) pa_nil))))) (pss_nil))
    (pss_cons (ps_setLc (i := 3) (own := [("_law_name", 4)]) (by rfl) sc__law_map_due.nd rfl rfl (sw_true rfl rfl rfl (by decide +kernel)) (pi_any (K := K) rfl (pv 2)) (blkOk_by (N := ["_law_first", "_law_second", "_law_names_here", "_law_strange", "_law_name"]) (sc := defScope s__law_map_due) (by decide +kernel)) (fun _ _ _ _ _ => pg_name (i := 4) sc__law_map_due.nd rfl (Or.inl rfl)) (fun _ _ _ _ _ => pts_one (pt_cmpR (k_notInS (K := K) rfl) (pv 4) (pe_ix (k_ixT (K := K) rfl) (pv 1) pe_int (fun _ _ => rfl)) rfl)) (fun _ _ _ _ _ => pv 4))
    (pss_one (ps_ret (pe_ifExp (pt_cmpR (k_neD (K := K) rfl hr.units) (pv 3) (pe_lst pa_nil) (nomark _)) (pe_lst (pa_cons pe_str (pa_cons (pe_ix ix_list (pv 3) pe_int (fun _ _ => rfl)) pa_nil))) (pe_lst (pa_cons pe_str (pa_cons (z_callC C_f_law_fault hr passN (pa_cons (pv 0) (pa_cons (pv 1) (pa_cons (pv 2) pa_nil)))) pa_nil))))))), ?_⟩
  try dsimp only [cxOf]
  obtain ⟨l, ⟨cE, eo⟩, el⟩ := LTab.of (K := K) io
  obtain ⟨l2, ⟨cF, eo2⟩, el2⟩ := LTab.of (K := K) ip
  walk_at "rd"
  refine i_lenA (SqA.l hc) ?_
  rw [List.length_map]
  walk_at "rd"
  refine i_ixT0 (.of eo) ?_
  walk_at "rd"
  refine i_lenA (SqA.l el) ?_
  rw [List.length_map]
  walk_at "rd"
  refine i_ndec (fun e => ?_) (fun e => ?_)
  · have hne : ns.length ≠ zs.length := by omega
    walk_at "rd"
    refine i_lenA (SqA.l hc) ?_
    rw [List.length_map]
    walk_at "rd"
    refine i_lst1 (Nat.le_of_ble_eq_true rfl) fun q H2 hq s2 e3 o2 => k q H2 hq s2 ?_
    rw [mapD, verD_num hne]
    exact dpTwo e3 (.int _)
  · have heq : ns.length = zs.length := by omega
    walk_at "rd"
    refine i_lcA (H0 := H) (fun i ys H' => Same H H' ∧ ys = ((ns.take i).filter fun z => !decide (z ∈ ws)).map V.str) (SqA.l hc) (.refl _) (fun D H' hD s e ho => ⟨s, rfl⟩) (fun i ys H' p => p.1) ?_ ?_
    · rintro i x D ys H1 hD hx eD ⟨s1, rfl⟩
      obtain ⟨z, hzi, rfl⟩ := strs_at hx
      have hi := (List.getElem?_eq_some_iff.mp hzi).1
      walk_at "rd"
      refine ⟨by with_unfolding_all rfl, ?_⟩
      walk_at "rd"
      refine i_ixT0 (.of (s1 _ _ eo2)) ?_
      refine i_notInS (SqA.l (s1 _ _ el2)) ?_
      walk_at "rd"
      refine i_bool (fun hb => ?_) (fun hb => ?_)
      · walk_at "rd"
        refine i_lcE eD ?_ fun H6 e6 o6 => ⟨fun b u e => by rw [o6 b (ne_of_none e hD)]; exact s1 _ _ e, ?_⟩
        · rw [List.length_map]
          have h1 := List.length_filter_le (fun z => !decide (z ∈ ws)) (ns.take i)
          rw [List.length_take] at h1
          omega
        · rw [take_snoc hzi, List.filter_append, List.map_append]
          simp at hb
          simp [hb]
      · refine ⟨_, eD, s1, ?_⟩
        rw [take_snoc hzi, List.filter_append, List.map_append]
        simp at hb
        simp [hb]
    · rintro D ys H1 hD eD ⟨s1, rfl⟩
      rw [List.length_map, List.take_length] at eD
      have okL : SOk (ns.filter fun z => !decide (z ∈ ws)) := fun z hz => ok z (List.mem_filter.mp hz).1
      have hms : miss ws ns = (ns.filter fun z => !decide (z ∈ ws)).head? := miss_head
      walk_at "rd"
      refine i_lst1 (Nat.le_of_ble_eq_true rfl) fun z H2 hz2 s2 e2 o2 => ?_
      have s02 := s1.trans s2
      refine i_neEmp okL (s2 _ _ eD) e2 ?_
      generalize List.filter (fun z => !decide (z ∈ ws)) ns = L at *
      walk_at "rd"
      cases L with
      | nil =>
        rw [if_neg (by simp)]
        have hmn : miss ws ns = none := hms
        walk_at "rd"
        refine ⟨rfl, o, p, c, zs, ws, ns, E, F, rfl, io.mono s02, ip.mono s02, s02 _ _ hc, heq, miss_all hmn, fun v H3 s3 hv => ?_⟩
        walk_at "rd"
        refine i_lst1 (Nat.le_of_ble_eq_true rfl) fun q H4 hq s4 e4 o4 => k q H4 (nback (s02.trans s3) hq) ((s02.trans s3).trans s4) ?_
        rw [mapD, hmn, verD_told heq]
        exact dpTwo e4 (dpMono s4 (dpPr hv))
      | cons y L =>
        rw [if_pos (by simp)]
        have hmn : miss ws ns = some y := hms
        walk_at "rd"
        refine i_ixL (k := 0) (.of (s2 _ _ eD)) rfl ?_
        walk_at "rd"
        refine i_lst1 (Nat.le_of_ble_eq_true rfl) fun q H4 hq s4 e4 o4 => k q H4 (nback s02 hq) (s02.trans s4) ?_
        rw [mapD, hmn, verD_unk heq]
        exact dpTwo e4 (.str _)
def spCmpD (K : PySem.W.Frag) : Sp := fun vs H Q _ => vs.length = 3 ∧ ∃ (p c f : Addr) (ws ns ys : List Str) (F : List (Str × Str)), vs = [.ref p, .ref c, .ref f] ∧ IsOrd H p ws F ∧ H c = some (.lst (ns.map V.str)) ∧ H f = some (.lst (ys.map V.str)) ∧ ns.length ≤ 1000 ∧ SOk ns ∧
  ∀ q H', H q = none → Same H H' → Dp K H' (.ref q) (cmpD ws ns ys) → Q (.ref q) H'
abbrev s__law_composed_due : Stmt := top 43
theorem sc__law_composed_due : FnScope ["_law_second", "_law_one", "_law_other", "_law_strange", "_law_name"] ["_law_second", "_law_one", "_law_other"] (defScope s__law_composed_due) := ⟨rfl, rfl, rfl, by decide +kernel, rfl, by decide +kernel, by decide +kernel⟩
theorem ok__law_composed_due {P : Program} {w : World} {K : PySem.W.Frag} {mg : Str → Option Value} {base : Heap} {f : Addr} {fd : FuncData} (F : L2.Fun K "_law_composed_due" "_law_composed_due" s__law_composed_due f fd)
    (C_b_len : mg "len" = none)
    (C_b_tuple : mg "tuple" = none) :
    FnOk P w K mg base (L2.CX P w) 1 f fd ["_law_second", "_law_one", "_law_other"] (spCmpD K) := by
  refine fnOk_mk F sc__law_composed_due (fun vs H Q E h => h.1) (fun cdv A outer s H vs Q E hr h => ?_)
  obtain ⟨_, p, c, f0, ws, ns, ys, F, rfl, ip, hc, hf, hl, ok, k⟩ := h
  refine ⟨_, pss_cons (ps_if (pt_cmpR op_ne (pe_callB (k_len (K := K) rfl) (by rfl) C_b_len (by decide +kernel) (pa_cons (pv 2) pa_nil)) (pe_callB (k_len (K := K) rfl) (by rfl) C_b_len (by decide +kernel) (pa_cons (pe_ix ix_tup (pv 0) pe_int (fun _ _ => rfl)) pa_nil)) (nomark _)) (pss_one (ps_ret (pe_lst (pa_cons pe_str (pa_cons (pe_callB (k_len (K := K) rfl) (by rfl) C_b_len (by decide +kernel) (pa_cons (pv 2) pa_nil)) pa_nil))))) (pss_nil))
    (pss_cons (ps_setLc (i := 3) (own := [("_law_name", 4)]) (by rfl) sc__law_composed_due.nd rfl rfl (sw_true rfl rfl rfl (by decide +kernel)) (pi_any (K := K) rfl (pv 1)) (blkOk_by (N := ["_law_second", "_law_one", "_law_other", "_law_strange", "_law_name"]) (sc := defScope s__law_composed_due) (by decide +kernel)) (fun _ _ _ _ _ => pg_name (i := 4) sc__law_composed_due.nd rfl (Or.inl rfl)) (fun _ _ _ _ _ => pts_one (pt_cmpR (k_notInS (K := K) rfl) (pv 4) (pe_ix (k_ixT (K := K) rfl) (pv 0) pe_int (fun _ _ => rfl)) rfl)) (fun _ _ _ _ _ => pv 4))
    (pss_cons (ps_if (pt_cmpR (k_neD (K := K) rfl hr.units) (pv 3) (pe_lst pa_nil) (nomark _)) (pss_one (ps_ret (pe_lst (pa_cons pe_str (pa_cons (pe_ix ix_list (pv 3) pe_int (fun _ _ => rfl)) pa_nil))))) (pss_nil))
    (pss_one (ps_ret (pe_lst (pa_cons pe_str (pa_cons (pe_callTy (k_tupA (K := K) rfl) (by rfl) C_b_tuple (by decide +kernel) (pa_cons (pe_lc (own := [("_law_name", 4)]) (by rfl) sc__law_composed_due.nd (pi_any (K := K) rfl (pv 1)) (blkOk_by (N := ["_law_second", "_law_one", "_law_other", "_law_strange", "_law_name"]) (sc := defScope s__law_composed_due) (by decide +kernel)) (fun _ _ _ _ _ => pg_name (i := 4) sc__law_composed_due.nd rfl (Or.inl rfl)) (fun _ _ _ _ _ => pts_nil) (fun _ _ _ _ _ => pe_ix (k_ixL (K := K) rfl) (pv 2) (pe_bmK (K := K) rfl PySem.F.plainAttrs_list PySem.F.slot_list_index PySem.F.type_list_index (k_index (K := K) rfl) (pe_ix (k_ixT (K := K) rfl) (pv 0) pe_int (fun _ _ => rfl)) (pa_cons (pv 4) pa_nil)) (fun _ _ => rfl))) pa_nil)) pa_nil))))))), ?_⟩
  try dsimp only [cxOf]
  obtain ⟨l2, ⟨cF, eo2⟩, el2⟩ := LTab.of (K := K) ip
  walk_at "rd"
  refine i_lenA (SqA.l hf) ?_
  rw [List.length_map]
  walk_at "rd"
  refine i_ixT0 (.of eo2) ?_
  walk_at "rd"
  refine i_lenA (SqA.l el2) ?_
  rw [List.length_map]
  walk_at "rd"
  refine i_ndec (fun e => ?_) (fun e => ?_)
  · have hne : ys.length ≠ ws.length := by omega
    walk_at "rd"
    refine i_lenA (SqA.l hf) ?_
    rw [List.length_map]
    walk_at "rd"
    refine i_lst1 (Nat.le_of_ble_eq_true rfl) fun q H2 hq s2 e3 o2 => k q H2 hq s2 ?_
    rw [cmpD, verD_num hne]
    exact dpTwo e3 (.int _)
  · have heq : ys.length = ws.length := by omega
    walk_at "rd"
    refine i_lcA (H0 := H) (fun i ys H' => Same H H' ∧ ys = ((ns.take i).filter fun z => !decide (z ∈ ws)).map V.str) (SqA.l hc) (.refl _) (fun D H' hD s e ho => ⟨s, rfl⟩) (fun i ys H' p => p.1) ?_ ?_
    · rintro i x D ys H1 hD hx eD ⟨s1, rfl⟩
      obtain ⟨z, hzi, rfl⟩ := strs_at hx
      have hi := (List.getElem?_eq_some_iff.mp hzi).1
      walk_at "rd"
      refine ⟨by with_unfolding_all rfl, ?_⟩
      walk_at "rd"
      refine i_ixT0 (.of (s1 _ _ eo2)) ?_
      refine i_notInS (SqA.l (s1 _ _ el2)) ?_
      walk_at "rd"
      refine i_bool (fun hb => ?_) (fun hb => ?_)
      · walk_at "rd"
        refine i_lcE eD ?_ fun H6 e6 o6 => ⟨fun b u e => by rw [o6 b (ne_of_none e hD)]; exact s1 _ _ e, ?_⟩
        · rw [List.length_map]
          have h1 := List.length_filter_le (fun z => !decide (z ∈ ws)) (ns.take i)
          rw [List.length_take] at h1
          omega
        · rw [take_snoc hzi, List.filter_append, List.map_append]
          simp at hb
          simp [hb]
      · refine ⟨_, eD, s1, ?_⟩
        rw [take_snoc hzi, List.filter_append, List.map_append]
        simp at hb
        simp [hb]
    · rintro D ys H1 hD eD ⟨s1, rfl⟩
      rw [List.length_map, List.take_length] at eD
      have okL : SOk (ns.filter fun z => !decide (z ∈ ws)) := fun z hz => ok z (List.mem_filter.mp hz).1
      have hms : miss ws ns = (ns.filter fun z => !decide (z ∈ ws)).head? := miss_head
      walk_at "rd"
      refine i_lst1 (Nat.le_of_ble_eq_true rfl) fun z H2 hz2 s2 e2 o2 => ?_
      have s02 := s1.trans s2
      refine i_neEmp okL (s2 _ _ eD) e2 ?_
      generalize List.filter (fun z => !decide (z ∈ ws)) ns = L at *
      walk_at "rd"
      cases L with
      | nil =>
        rw [if_neg (by simp)]
        have hmn : miss ws ns = none := hms
        walk_at "rd"
        have nws : ws.Nodup := ip.nd
        refine i_lcA (H0 := H2) (fun i vs H' => Same H2 H' ∧ vs = ((ns.take i).map (gm ws ys)).map V.str) (SqA.l (s02 _ _ hc)) (.refl _) (fun D H' hD s e ho => ⟨s, rfl⟩) (fun i ys H' p => p.1) ?_ ?_
        · rintro i x D' vs H3 hD' hx eD' ⟨s3, rfl⟩
          obtain ⟨y, hyi, rfl⟩ := strs_at hx
          have hi := (List.getElem?_eq_some_iff.mp hyi).1
          have hyw : y ∈ ws := miss_all hmn y (List.mem_of_getElem? hyi)
          obtain ⟨j, hj⟩ := List.getElem?_of_mem hyw
          have lj := (List.getElem?_eq_some_iff.mp hj).1
          have hyj : ys[j]? = some (ys[j]'(by omega)) := List.getElem?_eq_getElem (by omega)
          have s03 := s02.trans s3
          walk_at "rd"
          refine ⟨by with_unfolding_all rfl, ?_⟩
          walk_at "rd"
          refine i_ixT0 (.of (s03 _ _ eo2)) ?_
          refine ⟨tyL (s03 _ _ el2), ?_⟩
          walk_at "rd"
          refine i_index (.of (s03 _ _ el2)) nws hj ?_
          refine i_ixL (.of (s03 _ _ hf)) (strAt hyj) ?_
          refine i_lcE eD' (by rw [List.length_map, List.length_map, List.length_take]; omega) fun H6 e6 o6 => ⟨fun b u e => by rw [o6 b (ne_of_none e hD')]; exact s3 _ _ e, ?_⟩
          rw [take_snoc hyi, List.map_append, List.map_append, List.map_singleton, List.map_singleton, gm_at nws hj hyj]
        · rintro D' vs H3 hD' eD' ⟨s3, rfl⟩
          rw [List.length_map, List.take_length] at eD'
          walk_at "rd"
          refine i_tupL (SqL.of eD') fun t H4 ht s4 e4 o4 => ?_
          walk_at "rd"
          refine i_lst1 (Nat.le_of_ble_eq_true rfl) fun q H5 hq s5 e5 o5 => k q H5 (nback (s02.trans (s3.trans s4)) hq) ((s02.trans (s3.trans s4)).trans s5) ?_
          rw [cmpD, hmn, verD_told heq]
          exact dpTwo e5 (.tup (.of (s5 _ _ e4)) (dpStrs _))
      | cons y L =>
        rw [if_pos (by simp)]
        have hmn : miss ws ns = some y := hms
        walk_at "rd"
        refine i_ixL (k := 0) (.of (s2 _ _ eD)) rfl ?_
        walk_at "rd"
        refine i_lst1 (Nat.le_of_ble_eq_true rfl) fun q H4 hq s4 e4 o4 => k q H4 (nback s02 hq) (s02.trans s4) ?_
        rw [cmpD, hmn, verD_unk heq]
        exact dpTwo e4 (.str _)
open ZA
theorem dp_list {K : PySem.W.Frag} {H : Hp} {q : Addr} {d1 d2 : PyData} (h : Dp K H (.ref q) (.list [d1, d2])) : ∃ v1 v2, SqL K H q [v1, v2] ∧ Dp K H v1 d1 ∧ Dp K H v2 d2 := by
  cases h with
  | lst s a =>
    cases a with
    | cons h1 a =>
      cases a with
      | cons h2 a =>
        cases a
        exact ⟨_, _, s, h1, h2⟩
theorem dp_str {K : PySem.W.Frag} {H : Hp} {v : V} {z : Str} (h : Dp K H v (.str z)) : v = .str z := by cases h; rfl
def spSetD (K : PySem.W.Frag) : Sp := fun vs H Q _ => vs.length = 2 ∧ ∃ (p c : Addr) (ws ns : List Str) (F : List (Str × Str)), vs = [.ref p, .ref c] ∧ IsOrd H p ws F ∧ H c = some (.lst (ns.map V.str)) ∧ ns.length ≤ 1000 ∧ SOk ns ∧
  ∀ q H', H q = none → Same H H' → Dp K H' (.ref q) (setD ws ns) → Q (.ref q) H'
abbrev s__law_settled_due : Stmt := top 47
theorem sc__law_settled_due : FnScope ["_law_second", "_law_names_here", "_law_due", "_law_k"] ["_law_second", "_law_names_here"] (defScope s__law_settled_due) := ⟨rfl, rfl, rfl, by decide +kernel, rfl, by decide +kernel, by decide +kernel⟩
theorem ok__law_settled_due {P : Program} {w : World} {K : PySem.W.Frag} {mg : Str → Option Value} {base : Heap} {f : Addr} {fd : FuncData} (F : L2.Fun K "_law_settled_due" "_law_settled_due" s__law_settled_due f fd)
    (C_b_len : mg "len" = none)
    (C_b_range : mg "range" = none)
    (C_f_law_map_due : Cal P w K mg base "_law_map_due" 4 (spMapD K)) :
    FnOk P w K mg base (L2.CX P w) 5 f fd ["_law_second", "_law_names_here"] (spSetD K) := by
  refine fnOk_mk F sc__law_settled_due (fun vs H Q E h => h.1) (fun cdv A outer s H vs Q E hr h => ?_)
  obtain ⟨_, p, c, ws, ns, F, rfl, ip, hc, hl, ok, k⟩ := h
  refine ⟨_, pss_cons (ps_set (i := 2) sc__law_settled_due.nd rfl (Or.inl rfl) (z_callC C_f_law_map_due hr passN (pa_cons (pv 0) (pa_cons (pv 0) (pa_cons (pv 1) pa_nil)))))
    (pss_cons (ps_if (pt_cmpR op_ne (pe_ix ix_list (pv 2) pe_int (fun _ _ => rfl)) pe_str (nomark _)) (pss_one (ps_ret (pv 2))) (pss_nil))
    (pss_one (ps_ret (pe_lst (pa_cons pe_str (pa_cons (pe_lc (own := [("_law_k", 3)]) (by rfl) sc__law_settled_due.nd (pi_range1 (by rfl) C_b_range (pa_cons (pe_callB (k_len (K := K) rfl) (by rfl) C_b_len (by decide +kernel) (pa_cons (pv 1) pa_nil)) pa_nil)) (blkOk_by (N := ["_law_second", "_law_names_here", "_law_due", "_law_k"]) (sc := defScope s__law_settled_due) (by decide +kernel)) (fun _ _ _ _ _ => pg_name (i := 3) sc__law_settled_due.nd rfl (Or.inl rfl)) (fun _ _ _ _ _ => pts_one (pt_cmpR op_eq (pe_ix (k_ixL (K := K) rfl) (pv 1) (pv 3) (fun _ _ => rfl)) (pe_ix (k_ixL (K := K) rfl) (pe_ix (k_ixT (K := K) rfl) (pv 0) pe_int (fun _ _ => rfl)) (pv 3) (fun _ _ => rfl)) (nomark _))) (fun _ _ _ _ _ => pe_ix (k_ixL (K := K) rfl) (pe_ix (k_ixT (K := K) rfl) (pv 0) pe_int (fun _ _ => rfl)) (pv 3) (fun _ _ => rfl))) pa_nil)))))), ?_⟩
  try dsimp only [cxOf]
  obtain ⟨l2, ⟨cF, eo2⟩, el2⟩ := LTab.of (K := K) ip
  walk_at "rd"
  refine ⟨rfl, p, p, c, ws, ws, ns, F, F, rfl, ip, ip, hc, hl, ok, fun q H1 hq s1 hd => ?_⟩
  by_cases heq : ns.length = ws.length
  · cases hm : miss ws ns with
    | some z =>
      have hs : setD ws ns = .list [.str "unknown", .str z] := by rw [setD, hm, verD_unk heq]
      rw [mapD, hm, verD_unk heq] at hd
      obtain ⟨v1, v2, sq, h1, h2⟩ := dp_list hd
      cases dp_str h1
      walk_at "rd"
      refine i_ixL (k := 0) sq rfl ?_
      walk_at "rd"
      refine i_ndec (fun e => ?_) (fun e => absurd e (by decide +kernel))
      walk_at "rd"
      refine k q H1 hq s1 ?_
      rw [hs]
      exact hd
    | none =>
      rw [mapD, hm, verD_told heq] at hd
      obtain ⟨v1, v2, sq, h1, h2⟩ := dp_list hd
      cases dp_str h1
      walk_at "rd"
      refine i_ixL (k := 0) sq rfl ?_
      walk_at "rd"
      refine i_ndec (fun e => absurd rfl e) (fun _ => ?_)
      walk_at "rd"
      refine i_lenA (SqA.l (s1 _ _ hc)) ?_
      rw [List.length_map]
      walk_at "rd"
      refine i_lcR1 (n := ns.length) rfl (by omega) (fun i vs H' => Same H1 H' ∧ vs = ((((ws.zip ns).take i).filter fun p => decide (p.1 = p.2)).map (·.1)).map V.str) (fun D H' hD s e ho => ⟨s, rfl⟩) ?_ ?_
      · rintro i D vs H2 hD hi eD ⟨s2, rfl⟩
        have hyi : ns[i]? = some ns[i] := List.getElem?_eq_getElem hi
        have hxi : ws[i]? = some (ws[i]'(by omega)) := List.getElem?_eq_getElem (by omega)
        generalize ns[i] = y at *
        generalize ws[i]'(by omega) = x at *
        have ft := flat_take hxi hyi
        have s02 := s1.trans s2
        rw [Int.zero_add]
        walk_at "rd"
        refine ⟨by with_unfolding_all rfl, ?_⟩
        walk_at "rd"
        refine i_ixL (.of (s02 _ _ hc)) (strAt hyi) ?_
        walk_at "rd"
        refine i_ixT0 (.of (s02 _ _ eo2)) ?_
        walk_at "rd"
        refine i_ixL (.of (s02 _ _ el2)) (strAt hxi) ?_
        walk_at "rd"
        by_cases exy : y = x
        · rw [if_pos (by simpa using exy)]
          walk_at "rd"
          refine i_ixT0 (.of (s02 _ _ eo2)) ?_
          walk_at "rd"
          refine i_ixL (.of (s02 _ _ el2)) (strAt hxi) ?_
          refine i_lcE eD ?_ fun H4 e4 o4 => ⟨fun b u e => by rw [o4 b (ne_of_none e hD)]; exact s2 _ _ e, ?_⟩
          · rw [List.length_map, List.length_map]
            have := List.length_filter_le (fun p : Str × Str => decide (p.1 = p.2)) ((ws.zip ns).take i)
            rw [List.length_take] at this
            omega
          · rw [ft, List.filter_append]
            simp [exy]
        · rw [if_neg (by simpa using exy)]
          refine ⟨_, eD, s2, ?_⟩
          rw [ft, List.filter_append]
          simp [Ne.symm exy]
      · rintro D vs H2 hD eD ⟨s2, rfl⟩
        have lz : (ws.zip ns).take ns.length = ws.zip ns := by
          rw [List.take_of_length_le]
          rw [List.length_zip]
          omega
        rw [lz] at eD
        walk_at "rd"
        refine i_lst1 (Nat.le_of_ble_eq_true rfl) fun r H3 hr3 s3 e3 o3 => k r H3 (nback (s1.trans s2) hr3) ((s1.trans s2).trans s3) ?_
        rw [setD, hm, verD_told heq]
        exact dpTwo e3 (.lst (.of (s3 _ _ eD)) (dpStrs _))
  · have hs : setD ws ns = .list [.str "number", .int (ns.length : Nat)] := by rw [setD, verD_num heq]
    rw [mapD, verD_num heq] at hd
    obtain ⟨v1, v2, sq, h1, h2⟩ := dp_list hd
    cases dp_str h1
    walk_at "rd"
    refine i_ixL (k := 0) sq rfl ?_
    walk_at "rd"
    refine i_ndec (fun e => ?_) (fun e => absurd e (by decide +kernel))
    walk_at "rd"
    refine k q H1 hq s1 ?_
    rw [hs]
    exact hd
theorem row_in {M : List Str} {W : Str → List Str} {S : Str → Str → Bool} (tb : Tbl M W S) {x y : Str} (hx : x ∈ M) (hy : y ∈ M) : decide (y ∈ W x) = S x y := by
  obtain ⟨_, _, _, _, hwm, _⟩ := tb
  rw [Bool.eq_iff_iff, decide_eq_true_eq, hwm _ hx]
  exact ⟨fun z => z.2, fun z => ⟨hy, z⟩⟩
def badAt (S : Str → Str → Bool) (es : List (Str × Str)) (k : Nat) : Bool := match es[k]? with
  | some p => !S p.1 p.2
  | none => false
theorem dpNats {K : PySem.W.Frag} {H : Hp} : ∀ (ks : List Nat), DpAll K H (ks.map fun k => V.int (k : Nat)) (ks.map fun k => PyData.int (k : Nat))
  | [] => .nil
  | k :: ks => .cons (.int _) (dpNats ks)
theorem eqv_nil (ks : List Nat) : PyData.eqv (.list (ks.map fun k => PyData.int (k : Nat))) (.list []) = decide (ks = []) := by cases ks <;> rfl
theorem bad_all {S : Str → Str → Bool} {xs ys : List Str} (h : xs.length = ys.length) : decide ((List.range xs.length).filter (badAt S (xs.zip ys)) = []) = (xs.zip ys).all fun p => S p.1 p.2 := by
  rw [Bool.eq_iff_iff, decide_eq_true_eq, List.filter_eq_nil_iff, List.all_eq_true]
  have lz : (xs.zip ys).length = xs.length := by rw [List.length_zip]; omega
  constructor
  · intro hb p hp
    obtain ⟨k, hk⟩ := List.getElem?_of_mem hp
    have lk := (List.getElem?_eq_some_iff.mp hk).1
    have := hb k (List.mem_range.mpr (by omega))
    unfold badAt at this
    rw [hk] at this
    simpa using this
  · intro ha k hk
    unfold badAt
    cases e : (xs.zip ys)[k]? with
    | none => simp
    | some p =>
      have := ha p (List.mem_of_getElem? e)
      simp [this]
def spUndD (K : PySem.W.Frag) : Sp := fun vs H Q _ => vs.length = 3 ∧ ∃ (p c f : Addr) (ws xs ys : List Str) (F : List (Str × Str)), vs = [.ref p, .ref c, .ref f] ∧ IsOrd H p ws F ∧ H c = some (.lst (xs.map V.str)) ∧ H f = some (.lst (ys.map V.str)) ∧ xs.length ≤ 1000 ∧
  ∀ q H', H q = none → Same H H' → Dp K H' (.ref q) (undD ws (OM.cl F) xs ys) → Q (.ref q) H'
abbrev s__law_under_due : Stmt := top 45
theorem sc__law_under_due : FnScope ["_law_second", "_law_one", "_law_other", "_law_above_here", "_law_k", "_law_name"] ["_law_second", "_law_one", "_law_other"] (defScope s__law_under_due) := ⟨rfl, rfl, rfl, by decide +kernel, rfl, by decide +kernel, by decide +kernel⟩
theorem ok__law_under_due {P : Program} {w : World} {K : PySem.W.Frag} {mg : Str → Option Value} {base : Heap} {f : Addr} {fd : FuncData} (F : L2.Fun K "_law_under_due" "_law_under_due" s__law_under_due f fd)
    (C_b_len : mg "len" = none)
    (C_b_range : mg "range" = none)
    (C_f_law_above : Cal P w K mg base "_law_above" 1 (spAbv K)) :
    FnOk P w K mg base (L2.CX P w) 2 f fd ["_law_second", "_law_one", "_law_other"] (spUndD K) := by
  refine fnOk_mk F sc__law_under_due (fun vs H Q E h => h.1) (fun cdv A outer s H vs Q E hr h => ?_)
  obtain ⟨_, p, c, f0, ws, xs, ys, F, rfl, ip, hc, hf, hl, k⟩ := h
  refine ⟨_, pss_cons (ps_if (pt_cmpR op_ne (pe_callB (k_len (K := K) rfl) (by rfl) C_b_len (by decide +kernel) (pa_cons (pv 1) pa_nil)) (pe_callB (k_len (K := K) rfl) (by rfl) C_b_len (by decide +kernel) (pa_cons (pv 2) pa_nil)) (nomark _)) (pss_one (ps_ret (pe_lst (pa_cons pe_str (pa_cons (pe_callB (k_len (K := K) rfl) (by rfl) C_b_len (by decide +kernel) (pa_cons (pv 2) pa_nil)) pa_nil))))) (pss_nil))
    (pss_cons (ps_set (i := 3) sc__law_under_due.nd rfl (Or.inr rfl) (z_callC C_f_law_above hr passN (pa_cons (pv 0) pa_nil)))
    (pss_cons (ps_for (passes_of rfl) rfl (pi_range1 (by rfl) C_b_range (pa_cons (pe_callB (k_len (K := K) rfl) (by rfl) C_b_len (by decide +kernel) (pa_cons (pv 1) pa_nil)) pa_nil)) (pg_name (i := 4) sc__law_under_due.nd rfl (Or.inl rfl)) (pss_one (ps_for (passes_of rfl) rfl (pi_any (K := K) rfl (pe_lst (pa_cons (pe_ix ix_list (pv 1) (pv 4) (fun _ _ => rfl)) (pa_cons (pe_ix ix_list (pv 2) (pv 4) (fun _ _ => rfl)) pa_nil)))) (pg_name (i := 5) sc__law_under_due.nd rfl (Or.inl rfl)) (pss_one (ps_if (pt_cmpR (k_notInS (K := K) rfl) (pv 5) (pe_ix ix_tup (pv 0) pe_int (fun _ _ => rfl)) rfl) (pss_one (ps_ret (pe_lst (pa_cons pe_str (pa_cons (pv 5) pa_nil))))) (pss_nil))))))
    (pss_one (ps_ret (pe_lst (pa_cons pe_str (pa_cons (pe_cmpR (k_eqD (K := K) rfl hr.units) (pe_lc (own := [("_law_k", 4)]) (by rfl) sc__law_under_due.nd (pi_range1 (by rfl) C_b_range (pa_cons (pe_callB (k_len (K := K) rfl) (by rfl) C_b_len (by decide +kernel) (pa_cons (pv 1) pa_nil)) pa_nil)) (blkOk_by (N := ["_law_second", "_law_one", "_law_other", "_law_above_here", "_law_k", "_law_name"]) (sc := defScope s__law_under_due) (by decide +kernel)) (fun _ _ _ _ _ => pg_name (i := 4) sc__law_under_due.nd rfl (Or.inl rfl)) (fun _ _ _ _ _ => pts_one (pt_cmpR (k_notInS (K := K) rfl) (pe_ix (k_ixL (K := K) rfl) (pv 2) (pv 4) (fun _ _ => rfl)) (pe_dget (hu_of hr) (pv 3) (pe_ix (k_ixL (K := K) rfl) (pv 1) (pv 4) (fun _ _ => rfl)) (fun _ _ => rfl)) rfl)) (fun _ _ _ _ _ => pv 4)) (pe_lst pa_nil) (nomark _)) pa_nil))))))), ?_⟩
  try dsimp only [cxOf]
  obtain ⟨l2, ⟨cF, eo2⟩, el2⟩ := LTab.of (K := K) ip
  walk_at "rd"
  refine i_lenA (SqA.l hc) ?_
  rw [List.length_map]
  walk_at "rd"
  refine i_lenA (SqA.l hf) ?_
  rw [List.length_map]
  walk_at "rd"
  refine i_ndec (fun e => ?_) (fun e => ?_)
  · have hne : xs.length ≠ ys.length := by omega
    walk_at "rd"
    refine i_lenA (SqA.l hf) ?_
    rw [List.length_map]
    walk_at "rd"
    refine i_lst1 (Nat.le_of_ble_eq_true rfl) fun q H2 hq s2 e3 o2 => k q H2 hq s2 ?_
    rw [undD, if_pos hne]
    exact dpTwo e3 (.int _)
  · have heq : xs.length = ys.length := by omega
    walk_at "rd"
    refine ⟨rfl, p, ws, F, rfl, ip, fun d H1 hd s1 lt => ?_⟩
    walk_at "rd"
    have hu : ∀ (z : Str), miss ws (flat (xs.zip ys)) = some z → undD ws (OM.cl F) xs ys = .list [.str "unknown", .str z] := fun z hz => by rw [undD, if_neg (by simpa using heq), hz, verD_unk rfl]
    refine i_lenA (SqA.l (s1 _ _ hc)) ?_
    rw [List.length_map]
    walk_at "rd"
    refine i_forR (n := xs.length) rfl (by omega) (fun i σ H' => (∃ v4 v5, σ = [some (.ref p), some (.ref c), some (.ref f0), some (.ref d), v4, v5]) ∧ Same H1 H' ∧ ∀ w ∈ flat ((xs.zip ys).take i), w ∈ ws) ⟨⟨_, _, rfl⟩, .refl _, fun w hw => by simp [flat] at hw⟩ ?_ ?_
    · rintro i σ H2 hi ⟨⟨v4, v5, rfl⟩, s2, hin⟩
      have hxi : xs[i]? = some xs[i] := List.getElem?_eq_getElem hi
      have hyi : ys[i]? = some (ys[i]'(by omega)) := List.getElem?_eq_getElem (by omega)
      generalize xs[i] = x at *
      generalize ys[i]'(by omega) = y at *
      have ft := flat_take hxi hyi
      have s02 := s1.trans s2
      walk_at "rd"
      try rw [Int.zero_add]
      refine i_ixL (.of (s02 _ _ hc)) (strAt hxi) ?_
      walk_at "rd"
      refine i_ixL (.of (s02 _ _ hf)) (strAt hyi) ?_
      walk_at "rd"
      refine i_lst1 (Nat.le_of_ble_eq_true rfl) fun q H3 hq s3 e3 o3 => ?_
      have s03 := s02.trans s3
      refine i_forA (H0 := H3) (fun j σ H' => (∃ v4 v5, σ = [some (.ref p), some (.ref c), some (.ref f0), some (.ref d), v4, v5]) ∧ Same H3 H' ∧ ∀ w ∈ [x, y].take j, w ∈ ws) (xs := [x, y].map V.str) (SqA.l e3) ⟨⟨_, _, rfl⟩, .refl _, fun w hw => by simp at hw⟩ (fun i σ H' p => p.2.1) ?_ ?_
      · rintro j v σ H4 hv ⟨⟨v4, v5, rfl⟩, s4, hj⟩
        obtain ⟨z, hz, rfl⟩ := strs_at hv
        have s04 := s03.trans s4
        walk_at "rd"
        refine i_ixT0 (.of (s04 _ _ eo2)) ?_
        refine i_notInS (SqA.l (s04 _ _ el2)) ?_
        walk_at "rd"
        refine i_ndec (fun e => ?_) (fun e => ?_)
        · walk_at "rd"
          refine i_lst1 (Nat.le_of_ble_eq_true rfl) fun r H5 hr5 s5 e5 o5 => k r H5 (nback s04 hr5) (s04.trans s5) ?_
          rw [hu z (miss_flat ft hin (miss_at hz hj e))]
          exact dpTwo e5 (.str _)
        · walk_at "rd"
          refine ⟨⟨_, _, rfl⟩, s4, fun w hw => ?_⟩
          rw [take_snoc hz] at hw
          rcases List.mem_append.mp hw with hw | hw
          · exact hj w hw
          · rw [List.mem_singleton.mp hw]
            exact e
      · rintro σ H4 ⟨⟨v4, v5, rfl⟩, s4, hj⟩
        refine ⟨⟨_, _, rfl⟩, s2.trans (s3.trans s4), fun w hw => ?_⟩
        rw [ft, flat_app] at hw
        rcases List.mem_append.mp hw with h | h
        · exact hin w h
        · exact hj w h
    · rintro σ H2 ⟨⟨v4, v5, rfl⟩, s2, hin⟩
      walk_at "rd"
      have lz : (xs.zip ys).take xs.length = xs.zip ys := by
        rw [List.take_of_length_le]
        rw [List.length_zip]
        omega
      rw [lz] at hin
      have s02 := s1.trans s2
      obtain ⟨A, hA0, hA⟩ := lt
      have tb := ip.tbl
      generalize OM.turns F ws.length (fun x => [x]) = W at *
      refine i_lenA (SqA.l (s02 _ _ hc)) ?_
      rw [List.length_map]
      walk_at "rd"
      refine i_lcR1 (n := xs.length) rfl (by omega) (fun i vs H' => Same H2 H' ∧ vs = ((List.range i).filter (badAt (OM.cl F) (xs.zip ys))).map fun k => V.int (k : Nat)) (fun D H' hD s e ho => ⟨s, rfl⟩) ?_ ?_
      · rintro i D vs H3 hD hi eD ⟨s3, rfl⟩
        have hxi : xs[i]? = some xs[i] := List.getElem?_eq_getElem hi
        have hyi : ys[i]? = some (ys[i]'(by omega)) := List.getElem?_eq_getElem (by omega)
        generalize xs[i] = x at *
        generalize ys[i]'(by omega) = y at *
        have hzi : (xs.zip ys)[i]? = some (x, y) := by
          rw [List.getElem?_zip_eq_some]
          exact ⟨hxi, hyi⟩
        have hfl : ∀ w, w = x ∨ w = y → w ∈ ws := fun w hw => hin w (by
          unfold flat
          rw [List.mem_flatMap]
          exact ⟨(x, y), List.mem_of_getElem? hzi, by simpa using hw⟩)
        have s03 := s02.trans s3
        have s13 := s2.trans s3
        rw [Int.zero_add]
        walk_at "rd"
        refine ⟨by with_unfolding_all rfl, ?_⟩
        walk_at "rd"
        refine i_ixL (.of (s03 _ _ hf)) (strAt hyi) ?_
        walk_at "rd"
        refine i_ixL (.of (s03 _ _ hc)) (strAt hxi) ?_
        refine i_dget (s13 _ _ hA0) (rows_val (hfl x (.inl rfl))) ?_
        refine i_notInS (SqA.l (s13 _ _ (hA _ (hfl x (.inl rfl))))) ?_
        rw [row_in tb (hfl x (.inl rfl)) (hfl y (.inr rfl))]
        have hbad : badAt (OM.cl F) (xs.zip ys) i = !OM.cl F x y := by unfold badAt; rw [hzi]
        have hle : ((List.range i).filter (badAt (OM.cl F) (xs.zip ys))).length ≤ i := by
          have := List.length_filter_le (badAt (OM.cl F) (xs.zip ys)) (List.range i)
          rwa [List.length_range] at this
        refine ⟨_, rfl, ?_⟩
        cases hb : OM.cl F x y with
        | true =>
          rw [if_neg (show ¬ ((!true) = true) from by decide)]
          refine ⟨_, eD, s3, ?_⟩
          rw [List.range_succ, List.filter_append]
          simp [hbad, hb]
        | false =>
          rw [if_pos (show (!false) = true from rfl)]
          walk_at "rd"
          refine i_lcE eD (by rw [List.length_map]; omega) fun H4 e4 o4 => ⟨fun b u e => by rw [o4 b (ne_of_none e hD)]; exact s3 _ _ e, ?_⟩
          rw [List.range_succ, List.filter_append]
          simp [hbad, hb]
      · rintro D vs H3 hD eD ⟨s3, rfl⟩
        walk_at "rd"
        refine i_lst1 (Nat.le_of_ble_eq_true rfl) fun z H4 hz4 s4 e4 o4 => ?_
        have s04 := s02.trans (s3.trans s4)
        refine ⟨_, .list [], .lst (.of (s4 _ _ eD)) (dpNats _), .lst (.of e4) .nil, Lay.shaped (n := 1) (lay_list fun d hd => by
          obtain ⟨k, _, rfl⟩ := List.mem_map.mp hd
          exact lay_int _) (by decide), rfl, ?_⟩
        rw [show PyData.eqv (.list (((List.range xs.length).filter (badAt (OM.cl F) (xs.zip ys))).map fun k => PyData.int (k : Nat))) (.list []) = ((xs.zip ys).all fun p => OM.cl F p.1 p.2) from ?_]
        · walk_at "rd"
          refine i_lst1 (Nat.le_of_ble_eq_true rfl) fun r H5 hr5 s5 e5 o5 => k r H5 (nback s04 hr5) (s04.trans s5) ?_
          rw [undD, if_neg (by simpa using heq), miss_none hin, verD_told rfl]
          exact dpTwo e5 (.bl _)
        · rw [eqv_nil]
          exact bad_all heq
open ZA
theorem i_ifJ {D : Ends} {tt : TT} {a b : TS} {σ : L2.St} {H : Hp} (P : L2.St → Hp → Prop) (hn : ∀ σ' H', P σ' H' → D.nx σ' H') (h : (∀ σ' H', P σ' H' → D.nx σ' H') → tIfS tt a b D σ H) : tIfS tt a b D σ H := h hn
theorem IsOrd.keepP {H H' : Hp} {o p : Addr} {n : Nat} {zs : List Str} {E : List (Str × Str)} (hp : PoolN H p n) (b : But p H H') (h : IsOrd H o zs E) : IsOrd H' o zs E := by
  refine ⟨?_, h.nd, h.pw, h.nm, h.sub, h.anti, h.len, h.elen⟩
  obtain ⟨l, c, h1, h2, qs, h3, h4⟩ := h.at_
  refine ⟨l, c, b _ _ (hp.ne h1 fun x y z k => by cases k) h1, b _ _ (hp.ne h2 fun x y z k => ?_) h2, qs, b _ _ (hp.ne h3 fun x y z k => ?_) h3, h4.1, fun i q e hq he => b _ _ (hp.ne (h4.2 i q e hq he) fun x y z k => by cases k) (h4.2 i q e hq he)⟩
  · injection k with k
    cases zs with
    | nil => cases k
    | cons y ys => rw [List.map_cons] at k; cases k
  · injection k with k
    cases qs with
    | nil => cases k
    | cons y ys => rw [List.map_cons] at k; cases k
def ZZ : List Str := ["zz", "", "zz9"]
/-- a list of names while it is drawn -/
structure Drw (p : Addr) (n : Nat) (ws : List Str) (H H' : Hp) (D : Addr) (ns : List Str) : Prop where
  new : H D = none
  but : But p H H'
  pool : PoolN H' p n
  lst : H' D = some (.lst (ns.map V.str))
  mem : ∀ z ∈ ns, z ∈ ws ∨ z ∈ ZZ
section
variable {p D D2 o : Addr} {n k : Nat} {ws ns ms : List Str} {H H1 H2 : Hp}
theorem Drw.np (d : Drw p n ws H H1 D ns) : D ≠ p := d.pool.ne d.lst fun x y z k => by
  injection k with k
  cases ns with
  | nil => cases k
  | cons y ys => rw [List.map_cons] at k; cases k
theorem Drw.tk (d : Drw p n ws H H1 D ns) (o : ∀ b, b ≠ p → H2 b = H1 b) (pl : PoolN H2 p k) : Drw p k ws H H2 D ns := ⟨d.new, d.but.trans (.of' o), pl, by rw [o D d.np]; exact d.lst, d.mem⟩
theorem Drw.nw (d : Drw p n ws H H1 D ns) (h : H1 D2 = none) (s : Same H1 H2) (e : H2 D2 = some (.lst (ms.map V.str))) (hm : ∀ z ∈ ms, z ∈ ws ∨ z ∈ ZZ) : Drw p n ws H H2 D2 ms :=
  ⟨nn_of d.but (d.pool.nn h) h, d.but.trans (.of s), d.pool.mono s (Nat.le_refl _), e, hm⟩
theorem Drw.st (d : Drw p n ws H H1 D ns) (e : H2 D = some (.lst (ms.map V.str))) (o : ∀ b, b ≠ D → H2 b = H1 b) (hm : ∀ z ∈ ms, z ∈ ws ∨ z ∈ ZZ) : Drw p n ws H H2 D ms :=
  ⟨d.new, d.but.new d.new o, d.pool.keep (o p (Ne.symm d.np)), e, hm⟩
theorem Drw.le (d : Drw p n ws H H1 D ns) (h : n ≤ k) : Drw p k ws H H1 D ns := ⟨d.new, d.but, d.pool.mono (.refl _) h, d.lst, d.mem⟩
theorem Drw.sm (d : Drw p n ws H H1 D ns) (s : Same H1 H2) : Drw p n ws H H2 D ns := ⟨d.new, d.but.trans (.of s), d.pool.mono s (Nat.le_refl _), s _ _ d.lst, d.mem⟩
end
theorem set_strs {ns : List Str} {j : Nat} {z : Str} : (ns.map V.str).set j (.str z) = (ns.set j z).map V.str := by rw [List.map_set]
theorem set_mem {ns ws : List Str} {j : Nat} {z : Str} (h : ∀ y ∈ ns, y ∈ ws ∨ y ∈ ZZ) (hz : z ∈ ws ∨ z ∈ ZZ) : ∀ y ∈ ns.set j z, y ∈ ws ∨ y ∈ ZZ := fun y hy => by
  rcases List.mem_or_eq_of_mem_set hy with h' | rfl
  · exact h y h'
  · exact hz
theorem ix_nat {n j : Nat} (h : j < n) : ixN n ((j : Nat) : Int) = some j := by
  unfold ixN
  simp
  omega
theorem cut_from (xs : List V) (j : Nat) : cutV xs (some (j : Int)) none = xs.drop j := by
  unfold cutV
  rw [HT.sIx_none, HT.sIx_nat]
  by_cases h : j ≤ xs.length
  · rw [Nat.min_eq_left h, List.take_of_length_le (by rw [List.length_drop]; omega)]
  · rw [Nat.min_eq_right (by omega), List.drop_of_length_le (by omega), List.drop_of_length_le (by omega), List.take_nil]
theorem zz1 {ws : List Str} : ∀ z ∈ (["zz"] : List Str), z ∈ ws ∨ z ∈ ZZ := fun z hz => .inr (by rw [List.mem_singleton.mp hz]; decide)
theorem zz9 {ws : List Str} : ∀ z ∈ (["zz9"] : List Str), z ∈ ws ∨ z ∈ ZZ := fun z hz => .inr (by rw [List.mem_singleton.mp hz]; decide)
theorem zmem {ns ms ws : List Str} (h1 : ∀ z ∈ ns, z ∈ ws ∨ z ∈ ZZ) (h2 : ∀ z ∈ ms, z ∈ ws ∨ z ∈ ZZ) : ∀ z ∈ ns ++ ms, z ∈ ws ∨ z ∈ ZZ := fun z hz => by
  rcases List.mem_append.mp hz with h | h
  · exact h1 z h
  · exact h2 z h
def spDrawn (K : PySem.W.Frag) : Sp := fun vs H Q _ => vs.length = 3 ∧ ∃ (p o : Addr) (m n : Nat) (ws : List Str) (F : List (Str × Str)), vs = [.ref p, .int (m : Nat), .ref o] ∧ PoolN H p n ∧ n ≤ 800 ∧ 1 ≤ m ∧ m ≤ 6 ∧ IsOrd H o ws F ∧
  ∀ D H' ns, Drw p (n + 12) ws H H' D ns → ns.length ≤ 12 → Q (.ref D) H'
abbrev s__law_drawn : Stmt := top 48
theorem sc__law_drawn : FnScope ["_law_pool_here", "_law_many", "_law_second", "_law_names_here", "_law_k", "_law_way"] ["_law_pool_here", "_law_many", "_law_second"] (defScope s__law_drawn) := ⟨rfl, rfl, rfl, by decide +kernel, rfl, by decide +kernel, by decide +kernel⟩
theorem ok__law_drawn {P : Program} {w : World} {K : PySem.W.Frag} {mg : Str → Option Value} {base : Heap} {f : Addr} {fd : FuncData} (F : L2.Fun K "_law_drawn" "_law_drawn" s__law_drawn f fd)
    (C_b_len : mg "len" = none)
    (C_b_range : mg "range" = none)
    (C_b_sorted : mg "sorted" = none)
    (C_f_law_take : Cal P w K mg base "_law_take" 1 spTakeN) :
    FnOk P w K mg base (L2.CX P w) 2 f fd ["_law_pool_here", "_law_many", "_law_second"] (spDrawn K) := by
  refine fnOk_mk F sc__law_drawn (fun vs H Q E h => h.1) (fun cdv A outer s H vs Q E hr h => ?_)
  obtain ⟨_, p, o, m, n, ws, F, rfl, hp, hn, m1, m6, io, k⟩ := h
  refine ⟨_, pss_cons (ps_setLc (i := 3) (own := [("_law_k", 4)]) (by rfl) sc__law_drawn.nd rfl rfl (sw_true rfl rfl rfl (by decide +kernel)) (pi_range1 (by rfl) C_b_range (pa_cons (pv 1) pa_nil)) (blkOk_by (N := ["_law_pool_here", "_law_many", "_law_second", "_law_names_here", "_law_k", "_law_way"]) (sc := defScope s__law_drawn) (by decide +kernel)) (fun _ _ _ _ _ => pg_name (i := 4) sc__law_drawn.nd rfl (Or.inl rfl)) (fun _ _ _ _ _ => pts_nil) (fun _ _ _ _ _ => pe_ix (k_ixL (K := K) rfl) (pe_ix (k_ixT (K := K) rfl) (pv 2) pe_int (fun _ _ => rfl)) (z_callC C_f_law_take hr passN (pa_cons (pv 0) (pa_cons (pe_callB (k_len (K := K) rfl) (by rfl) C_b_len (by decide +kernel) (pa_cons (pe_ix (k_ixT (K := K) rfl) (pv 2) pe_int (fun _ _ => rfl)) pa_nil)) pa_nil))) (fun _ _ => rfl)))
    (pss_cons (ps_if (pt_cmpR op_eq (z_callC C_f_law_take hr passN (pa_cons (pv 0) (pa_cons pe_int pa_nil))) pe_int (nomark _)) (pss_cons (ps_set (i := 3) sc__law_drawn.nd rfl (Or.inl rfl) (pe_op op_mulLI (pe_lst (pa_cons (pe_ix ix_list (pe_callB (k_sort (K := K) rfl) (by rfl) C_b_sorted (by decide +kernel) (pa_cons (pv 3) pa_nil)) pe_int (fun _ _ => rfl)) pa_nil)) (pv 1)))
    (pss_one (ps_asg (pe_ix ix_list (pe_ix ix_tup (pv 2) pe_int (fun _ _ => rfl)) (z_callC C_f_law_take hr passN (pa_cons (pv 0) (pa_cons (pe_callB (k_len (K := K) rfl) (by rfl) C_b_len (by decide +kernel) (pa_cons (pe_ix ix_tup (pv 2) pe_int (fun _ _ => rfl)) pa_nil)) pa_nil))) (fun _ _ => rfl)) (pg_sub (pv 3) (z_callC C_f_law_take hr passN (pa_cons (pv 0) (pa_cons (pv 1) pa_nil))) set_list)))) (pss_nil))
    (pss_cons (ps_set (i := 5) sc__law_drawn.nd rfl (Or.inl rfl) (z_callC C_f_law_take hr passN (pa_cons (pv 0) (pa_cons pe_int pa_nil))))
    (pss_cons (ps_if (pt_cmpR op_eq (pv 5) pe_int (nomark _)) (pss_one (ps_set (i := 3) sc__law_drawn.nd rfl (Or.inl rfl) (pe_op op_cat (pe_lst (pa_cons pe_str pa_nil)) (pv 3)))) (pss_nil))
    (pss_cons (ps_if (pt_cmpR op_eq (pv 5) pe_int (nomark _)) (pss_one (ps_set (i := 3) sc__law_drawn.nd rfl (Or.inl rfl) (pe_op op_cat (pe_slice sl_list (pv 3) (po_some pe_int) po_none) (pe_lst (pa_cons pe_str pa_nil))))) (pss_nil))
    (pss_cons (ps_if (pt_cmpR op_eq (pv 5) pe_int (nomark _)) (pss_one (ps_set (i := 3) sc__law_drawn.nd rfl (Or.inl rfl) (pe_slice sl_list (pv 3) (po_some pe_int) po_none))) (pss_nil))
    (pss_cons (ps_if (pt_cmpR op_eq (pv 5) pe_int (nomark _)) (pss_one (ps_set (i := 3) sc__law_drawn.nd rfl (Or.inl rfl) (pe_op op_cat (pv 3) (pe_lst (pa_cons (pe_ix ix_list (pe_ix ix_tup (pv 2) pe_int (fun _ _ => rfl)) pe_int (fun _ _ => rfl)) pa_nil))))) (pss_nil))
    (pss_cons (ps_if (pt_cmpR op_eq (pv 5) pe_int (nomark _)) (pss_one (ps_asg (pe_ix ix_list (pe_lst (pa_cons pe_str (pa_cons pe_str (pa_cons pe_str pa_nil)))) (z_callC C_f_law_take hr passN (pa_cons (pv 0) (pa_cons pe_int pa_nil))) (fun _ _ => rfl)) (pg_sub (pv 3) (z_callC C_f_law_take hr passN (pa_cons (pv 0) (pa_cons (pv 1) pa_nil))) set_list))) (pss_nil))
    (pss_one (ps_ret (pv 3)))))))))), ?_⟩
  try dsimp only [cxOf]
  have ioH : ∀ {H' : Hp}, But p H H' → ∃ l, (∃ c, H' o = some (.tup [.ref l, .ref c])) ∧ H' l = some (.lst (ws.map V.str)) := fun b => LTab.of (K := K) (io.keepP hp b)
  have wl := io.len
  refine i_seq ?_
  refine i_asg ?_
  walk_at "rd"
  refine i_lcR1 (n := m) rfl (by omega) (fun i vs H' => But p H H' ∧ PoolN H' p (n + i) ∧ ∃ ns : List Str, vs = ns.map V.str ∧ ns.length = i ∧ ∀ z ∈ ns, z ∈ ws) (fun D H' hD s e ho => ⟨.of s, hp.mono s (by omega), [], rfl, rfl, fun z hz => by cases hz⟩) ?_ ?_
  · rintro i D vs H1 hD hi eD ⟨b1, pl1, ns, rfl, ln, hns⟩
    obtain ⟨l, ⟨c, eo⟩, el⟩ := ioH b1
    walk_at "rd"
    refine ⟨by with_unfolding_all rfl, ?_⟩
    walk_at "rd"
    refine i_ixT0 (.of eo) ?_
    walk_at "rd"
    refine i_ixT0 (.of eo) ?_
    walk_at "rd"
    refine i_lenA (SqA.l el) ?_
    rw [List.length_map]
    walk_at "rd"
    refine i_takeN pl1 (by omega) (by omega) (by omega) fun r H2 r0 r1 o2 pl2 => ?_
    obtain ⟨r, rfl⟩ : ∃ j : Nat, r = (j : Int) := ⟨r.toNat, by omega⟩
    have hr : ws[r]? = some (ws[r]'(by omega)) := List.getElem?_eq_getElem (by omega)
    have lp : l ≠ p := pl1.ne el fun x y z k => by
      injection k with k
      cases ws with
      | nil => simp at wl
      | cons y ys => rw [List.map_cons] at k; cases k
    have Dp : D ≠ p := hp.nn hD
    refine i_ixL (.of (by rw [o2 l lp]; exact el)) (strAt hr) ?_
    have b2 : But p H H2 := b1.trans (.of' o2)
    have eD2 : H2 D = some (.lst (ns.map V.str)) := by rw [o2 D Dp]; exact eD
    refine i_lcE eD2 (by rw [List.length_map]; omega) fun H3 e3 o3 => ⟨b2.new hD o3, pl2.keep (o3 p (Ne.symm Dp)), ns ++ [ws[r]'(by omega)], by rw [List.map_append]; rfl, by rw [List.length_append, ln]; rfl, fun z hz => ?_⟩
    rcases List.mem_append.mp hz with hz | hz
    · exact hns z hz
    · rw [List.mem_singleton.mp hz]
      exact List.getElem_mem _
  · rintro D vs H1 hD eD ⟨b1, pl1, ns, rfl, ln, hns⟩
    have d1 : Drw p (n + m) ws H H1 D ns := ⟨hD, b1, pl1, eD, fun z hz => .inl (hns z hz)⟩
    refine i_gname (by with_unfolding_all rfl) ?_
    dsimp only
    refine i_seq ?_
    refine i_ifJ (fun σ' H' => ∃ D ns v4 v5, σ' = [some (.ref p), some (.int (m : Nat)), some (.ref o), some (.ref D), v4, v5] ∧ Drw p (n + m + 3) ws H H' D ns ∧ ns.length = m) ?_ fun tail => ?_
    · rintro σ' H2 ⟨D, ns, v4, v5, rfl, d2, ln⟩
      dsimp only
      refine i_seq ?_
      refine i_asg ?_
      walk_at "rd"
      refine i_takeN d2.pool (by omega) (by decide) (by decide) fun r H3 r0 r1 o3 pl3 => ?_
      have d3 : Drw p (n + m + 4) ws H H3 D ns := d2.tk o3 pl3
      refine i_gname (by with_unfolding_all rfl) ?_
      dsimp only
      have d4 := d3
      have h2 : r = 2 → ns.length = m := fun _ => ln
      have ln : ns.length ≤ m + 0 := by omega
      refine i_seq ?_
      refine i_ifJ (fun σ' H' => ∃ D ns v4, σ' = [some (.ref p), some (.int (m : Nat)), some (.ref o), some (.ref D), v4, some (.int r)] ∧ Drw p (n + m + 4) ws H H' D ns ∧ ns.length ≤ m + 1 ∧ (r = 2 → ns.length = m)) ?_ fun tail => ?_
      · rintro σ' H4 ⟨D, ns, v4, rfl, d4, ln, h2⟩
        dsimp only
        refine i_seq ?_
        refine i_ifJ (fun σ' H' => ∃ D ns v4, σ' = [some (.ref p), some (.int (m : Nat)), some (.ref o), some (.ref D), v4, some (.int r)] ∧ Drw p (n + m + 4) ws H H' D ns ∧ ns.length ≤ m + 2 ∧ (r = 2 → ns.length = m)) ?_ fun tail => ?_
        · rintro σ' H4 ⟨D, ns, v4, rfl, d4, ln, h2⟩
          dsimp only
          refine i_seq ?_
          refine i_ifJ (fun σ' H' => ∃ D ns v4, σ' = [some (.ref p), some (.int (m : Nat)), some (.ref o), some (.ref D), v4, some (.int r)] ∧ Drw p (n + m + 4) ws H H' D ns ∧ ns.length ≤ m + 3 ∧ (r = 2 → ns.length = m)) ?_ fun tail => ?_
          · rintro σ' H4 ⟨D, ns, v4, rfl, d4, ln, h2⟩
            dsimp only
            refine i_seq ?_
            refine i_ifJ (fun σ' H' => ∃ D ns v4, σ' = [some (.ref p), some (.int (m : Nat)), some (.ref o), some (.ref D), v4, some (.int r)] ∧ Drw p (n + m + 4) ws H H' D ns ∧ ns.length ≤ m + 4 ∧ (r = 2 → ns.length = m)) ?_ fun tail => ?_
            · rintro σ' H4 ⟨D, ns, v4, rfl, d4, ln, h2⟩
              dsimp only
              refine i_seq ?_
              refine i_ifJ (fun σ' H' => ∃ D ns v4, σ' = [some (.ref p), some (.int (m : Nat)), some (.ref o), some (.ref D), v4, some (.int r)] ∧ Drw p (n + m + 6) ws H H' D ns ∧ ns.length ≤ m + 5 ∧ (r = 2 → ns.length = m)) ?_ fun tail => ?_
              · rintro σ' H4 ⟨D, ns, v4, rfl, d4, ln, h2⟩
                dsimp only
                walk_at "rd"
                exact k D H4 ns (d4.le (by omega)) (by omega)
              · walk_at "rd"
                by_cases e : r = 2
                · rw [if_pos (by simpa using e)]
                  walk_at "rd"
                  refine i_lst1 (Nat.le_of_ble_eq_true rfl) fun q H5 hq s5 e5 o5 => ?_
                  have d5 := d4.sm s5
                  walk_at "rd"
                  refine i_takeN d5.pool (by omega) (by decide) (by decide) fun r6 H6 r60 r61 o6 pl6 => ?_
                  have d6 := d5.tk o6 pl6
                  have qp : q ≠ p := d4.pool.nn hq
                  obtain ⟨r6, rfl⟩ : ∃ j : Nat, r6 = (j : Int) := ⟨r6.toNat, by omega⟩
                  obtain ⟨z6, hz6, hm6⟩ : ∃ z : Str, ([V.str "zz", V.str "", V.str "zz9"] : List V)[r6]? = some (.str z) ∧ z ∈ ZZ := by
                    have : r6 = 0 ∨ r6 = 1 ∨ r6 = 2 := by omega
                    rcases this with rfl | rfl | rfl
                    · exact ⟨_, rfl, by decide⟩
                    · exact ⟨_, rfl, by decide⟩
                    · exact ⟨_, rfl, by decide⟩
                  refine i_ixL (.of (by rw [o6 q qp]; exact e5)) hz6 ?_
                  walk_at "rd"
                  refine i_takeN d6.pool (by omega) (by omega) (by omega) fun r7 H7 r70 r71 o7 pl7 => ?_
                  have d7 := d6.tk o7 pl7
                  obtain ⟨r7, rfl⟩ : ∃ j : Nat, r7 = (j : Int) := ⟨r7.toNat, by omega⟩
                  have l2 := h2 e
                  refine i_setL d7.lst (ix_nat (j := r7) (by rw [List.length_map]; omega)) set_strs fun H8 e8 o8 => ?_
                  exact tail _ _ ⟨D, _, _, rfl, (d7.st e8 o8 (set_mem d7.mem (.inr hm6))).le (by omega), by rw [List.length_set]; omega, fun _ => by rw [List.length_set]; exact l2⟩
                · rw [if_neg (by simpa using e)]
                  refine i_next ?_
                  exact tail _ _ ⟨D, ns, _, rfl, d4.le (by omega), by omega, h2⟩
            · walk_at "rd"
              by_cases e : r = 1
              · rw [if_pos (by simpa using e)]
                walk_at "rd"
                obtain ⟨l, ⟨c, eo⟩, el⟩ := ioH d4.but
                have hr : ws[0]? = some (ws[0]'(by omega)) := List.getElem?_eq_getElem (by omega)
                have hrw : ws[0]'(by omega) ∈ ws := List.getElem_mem _
                generalize ws[0]'(by omega) = z6 at *
                refine i_ixT0 (.of eo) ?_
                walk_at "rd"
                refine i_ixL (k := 0) (.of el) (strAt hr) ?_
                walk_at "rd"
                refine i_lst1 (Nat.le_of_ble_eq_true rfl) fun q H5 hq s5 e5 o5 => ?_
                walk_at "rd"
                refine i_cat (s5 _ _ d4.lst) e5 (by rw [List.length_map]; simp; omega) fun D2 H6 hD2 s6 e6 o6 => ?_
                refine tail _ _ ⟨D2, ns ++ [z6], _, rfl, d4.nw (nback s5 hD2) (s5.trans s6) (by rw [e6, List.map_append]; rfl) (zmem d4.mem fun z hz => .inl (by rw [List.mem_singleton.mp hz]; exact hrw)), by rw [List.length_append]; simp; omega, fun e' => by omega⟩
              · rw [if_neg (by simpa using e)]
                refine i_next ?_
                exact tail _ _ ⟨D, ns, _, rfl, d4.le (by omega), by omega, h2⟩
          · walk_at "rd"
            by_cases e : r = 0
            · rw [if_pos (by simpa using e)]
              walk_at "rd"
              refine i_slL (.of d4.lst) (cut_from _ 1) fun D2 H5 hD2 s5 e5 o5 => ?_
              exact tail _ _ ⟨D2, ns.drop 1, _, rfl, d4.nw hD2 s5 (by rw [e5, List.map_drop]) (fun z hz => d4.mem z (List.mem_of_mem_drop hz)), by rw [List.length_drop]; omega, fun e' => by omega⟩
            · rw [if_neg (by simpa using e)]
              refine i_next ?_
              exact tail _ _ ⟨D, ns, _, rfl, d4.le (by omega), by omega, h2⟩
        · walk_at "rd"
          by_cases e : r = 4
          · rw [if_pos (by simpa using e)]
            walk_at "rd"
            refine i_slL (.of d4.lst) (cut_from _ 2) fun q H5 hq s5 e5 o5 => ?_
            walk_at "rd"
            refine i_lst1 (Nat.le_of_ble_eq_true rfl) fun q2 H6 hq2 s6 e6 o6 => ?_
            walk_at "rd"
            refine i_cat (s6 _ _ e5) e6 (by rw [List.length_drop, List.length_map]; simp; omega) fun D2 H7 hD2 s7 e7 o7 => ?_
            refine tail _ _ ⟨D2, ns.drop 2 ++ (["zz9"] : List Str), _, rfl, d4.nw (nback (s5.trans s6) hD2) (s5.trans (s6.trans s7)) (by rw [e7, List.map_append, List.map_drop]; rfl) (zmem (fun z hz => d4.mem z (List.mem_of_mem_drop hz)) zz9), by rw [List.length_append, List.length_drop]; simp; omega, fun e' => by omega⟩
          · rw [if_neg (by simpa using e)]
            refine i_next ?_
            exact tail _ _ ⟨D, ns, _, rfl, d4.le (by omega), by omega, h2⟩
      · walk_at "rd"
        by_cases e : r = 3
        · rw [if_pos (by simpa using e)]
          walk_at "rd"
          refine i_lst1 (Nat.le_of_ble_eq_true rfl) fun q H5 hq s5 e5 o5 => ?_
          walk_at "rd"
          refine i_cat e5 (s5 _ _ d4.lst) (by rw [List.length_map]; simp; omega) fun D2 H6 hD2 s6 e6 o6 => ?_
          exact tail _ _ ⟨D2, (["zz"] : List Str) ++ ns, _, rfl, d4.nw (nback s5 hD2) (s5.trans s6) e6 (zmem zz1 d4.mem), by rw [List.length_append]; simp; omega, fun e' => by omega⟩
        · rw [if_neg (by simpa using e)]
          refine i_next ?_
          exact tail _ _ ⟨D, ns, _, rfl, d4.le (by omega), by omega, h2⟩
    · walk_at "rd"
      refine i_takeN d1.pool (by omega) (by decide) (by decide) fun r H2 r0 r1 o2 pl2 => ?_
      have d2 := d1.tk o2 pl2
      walk_at "rd"
      by_cases e : r = 0
      · rw [if_pos (by simpa using e)]
        walk_at "rd"
        refine i_sort (SqA.l d2.lst) (by omega) fun w H3 hw s3 o3 e3 => ?_
        have ls : (srt ns).length = ns.length := (srt_perm ns).length_eq
        have h0 : (srt ns)[0]? = some ((srt ns)[0]'(by omega)) := List.getElem?_eq_getElem (by omega)
        have y0 : (srt ns)[0]'(by omega) ∈ ws := hns _ (mem_srt.mp (List.getElem_mem _))
        generalize (srt ns)[0]'(by omega) = y at *
        walk_at "rd"
        refine i_ixL (k := 0) (.of e3) (strAt h0) ?_
        walk_at "rd"
        refine i_lst1 (Nat.le_of_ble_eq_true rfl) fun q H4 hq s4 e4 o4 => ?_
        walk_at "rd"
        refine i_mulLI e4 (by omega) fun D2 H5 hD2 s5 e5 => ?_
        have s25 := s3.trans (s4.trans s5)
        have d5 : Drw p (n + m + 1) ws H H5 D2 (List.replicate m y) := d2.nw (nback (s3.trans s4) hD2) s25 (by rw [e5, List.map_replicate]) fun z hz => .inl (by rw [(List.mem_replicate.mp hz).2]; exact y0)
        walk_at "rd"
        obtain ⟨l, ⟨c, eo⟩, el⟩ := ioH d5.but
        refine i_ixT0 (.of eo) ?_
        walk_at "rd"
        refine i_ixT0 (.of eo) ?_
        walk_at "rd"
        refine i_lenA (SqA.l el) ?_
        rw [List.length_map]
        walk_at "rd"
        refine i_takeN d5.pool (by omega) (by omega) (by omega) fun r6 H6 r60 r61 o6 pl6 => ?_
        have d6 := d5.tk o6 pl6
        obtain ⟨r6, rfl⟩ : ∃ j : Nat, r6 = (j : Int) := ⟨r6.toNat, by omega⟩
        have hr : ws[r6]? = some (ws[r6]'(by omega)) := List.getElem?_eq_getElem (by omega)
        have hrw : ws[r6]'(by omega) ∈ ws := List.getElem_mem _
        generalize ws[r6]'(by omega) = z6 at *
        have lp : l ≠ p := d5.pool.ne el fun x y z k => by
          injection k with k
          cases ws with
          | nil => simp at wl
          | cons y ys => rw [List.map_cons] at k; cases k
        refine i_ixL (.of (by rw [o6 l lp]; exact el)) (strAt hr) ?_
        walk_at "rd"
        refine i_takeN d6.pool (by omega) (by omega) (by omega) fun r7 H7 r70 r71 o7 pl7 => ?_
        have d7 := d6.tk o7 pl7
        obtain ⟨r7, rfl⟩ : ∃ j : Nat, r7 = (j : Int) := ⟨r7.toNat, by omega⟩
        refine i_setL d7.lst (ix_nat (j := r7) (by rw [List.length_map, List.length_replicate]; omega)) set_strs fun H8 e8 o8 => ?_
        refine tail _ _ ⟨D2, _, none, none, rfl, (d7.st e8 o8 (set_mem d7.mem (.inl hrw))).le (by omega), by rw [List.length_set, List.length_replicate]⟩
      · rw [if_neg (by simpa using e)]
        refine i_next ?_
        exact tail _ _ ⟨D, ns, none, none, rfl, d2.le (by omega), ln⟩
/-- a text that may be read: not too long, its signs plain -/
def okT (n : Nat) (z : Str) : Prop := z.length ≤ n ∧ ∀ c ∈ TL.tl z, c < 128
theorem okT.rw {n : Nat} {z : Str} (h : okT n z) (hn : n ≤ 39999) : RW z := by
  have h1 := StrLaws.reprText_len z (fun c hc => Nat.lt_trans (h.2 c hc) (by decide))
  have h2 := h.1
  unfold RW
  omega
theorem name_plain {z : Str} (h : nameB z = true) : ∀ c ∈ TL.tl z, (97 ≤ c ∧ c ≤ 122) ∨ (48 ≤ c ∧ c ≤ 57) := by
  unfold nameB nameL at h
  rw [Bool.and_eq_true, Bool.and_eq_true] at h
  intro c hc
  have := List.all_eq_true.mp h.2.2 c hc
  unfold let_ ZS.dig at this
  simp at this
  omega
structure OutG (CO CB CN CD CU CG : Addr) (zs : List Str) (E : List (Str × Str)) (H : Hp) (Q : VK) (X : XK) : Prop where
  kB : ¬ (1 ≤ zs.length ∧ zs.length ≤ 8) → ∀ d H', Same H H' → H' d = some (.xd [("n", .int (zs.length : Nat))]) → X (.ref CB) (some d) H'
  kF : (1 ≤ zs.length ∧ zs.length ≤ 8) → ∀ b z, nmF [] zs = some (b, z) → ∀ d H', Same H H' → H' d = some (.xd [("name", .str z)]) → X (.ref (if b then CD else CN)) (some d) H'
  kU : (1 ≤ zs.length ∧ zs.length ≤ 8) → nmF [] zs = none → ∀ z, missE zs E = some z → ∀ d H', Same H H' → H' d = some (.xd [("name", .str z)]) → X (.ref CU) (some d) H'
  kR : (1 ≤ zs.length ∧ zs.length ≤ 8) → nmF [] zs = none → missE zs E = none → rings (srt zs) (OM.cl E) ≠ [] → ∀ d q H', Same H H' → H' d = some (.xd [("names", .ref q)]) → H' q = some (.lst ((rings (srt zs) (OM.cl E)).map V.str)) → X (.ref CG) (some d) H'
  kO : (1 ≤ zs.length ∧ zs.length ≤ 8) → nmF [] zs = none → missE zs E = none → rings (srt zs) (OM.cl E) = [] → ∀ p H', H p = none → Same H H' → IsO CO H' p (srt zs) (OM.cl E) → Q (.ref p) H'
theorem rings_nil {N : List Str} {E : List (Str × Str)} (h : OM.Anti E) : rings N (OM.cl E) = [] := by
  unfold rings
  rw [List.filter_eq_nil_iff]
  intro n hn hf
  unfold fR at hf
  obtain ⟨m, hm, h2⟩ := List.any_eq_true.mp hf
  obtain ⟨_, _, r, ne⟩ := OM.mem_prs.mp (of_decide_eq_true h2)
  exact ne (h _ _ (OM.cl_iff.mp r) (OM.cl_iff.mp (OM.mem_ab.mp hm).2))
theorem nmF_good : ∀ (zs seen : List Str), (∀ z ∈ zs, nameB z = true) → (seen ++ zs).Nodup → nmF seen zs = none := by
  intro zs
  induction zs with
  | nil => intro seen _ _; rfl
  | cons z zs ih =>
    intro seen h1 h2
    rw [nmF_cons, if_neg (by rw [h1 z List.mem_cons_self]; decide), if_neg fun h => (List.nodup_append.mp h2).2.2 z h z List.mem_cons_self rfl]
    exact ih _ (fun w hw => h1 w (List.mem_cons_of_mem _ hw)) (by simpa using h2)
theorem missE_good {ks : List Str} {E : List (Str × Str)} (h : ∀ e ∈ E, e.1 ∈ ks ∧ e.2 ∈ ks) : missE ks E = none := by
  unfold missE
  rw [List.find?_eq_none]
  intro x hx
  obtain ⟨p, hp, hx⟩ := List.mem_flatMap.mp hx
  obtain ⟨h1, h2⟩ := h p hp
  simp at hx
  rcases hx with rfl | rfl
  · simp [h1]
  · simp [h2]
/-- all ways out of Order(zs, E) where nothing is wrong -/
theorem outG_good {CO CB CN CD CU CG : Addr} {zs : List Str} {E : List (Str × Str)} {H : Hp} {Q : VK} {X : XK} (h1 : 1 ≤ zs.length) (h8 : zs.length ≤ 8) (hn : ∀ z ∈ zs, nameB z = true) (hd : zs.Nodup) (hE : ∀ e ∈ E, e.1 ∈ zs ∧ e.2 ∈ zs) (hA : OM.Anti E)
    (k : ∀ p H', H p = none → Same H H' → IsO CO H' p (srt zs) (OM.cl E) → Q (.ref p) H') : OutG CO CB CN CD CU CG zs E H Q X where
  kB := fun g => absurd ⟨h1, h8⟩ g
  kF := fun _ b z h => by rw [nmF_good zs [] hn (by simpa using hd)] at h; cases h
  kU := fun _ _ z h => by rw [missE_good hE] at h; cases h
  kR := fun _ _ _ h => absurd (rings_nil hA) h
  kO := fun _ _ _ _ => k
theorem nW {z : Str} (h : nameB z = true) : RW z := okT.rw (n := 8) ⟨nameB_len h, fun c hc => by have := name_plain h c hc; omega⟩ (by decide)
theorem i_newGd {K : PySem.W.Frag} {CO CB CN CD CU CG b c : Addr} {H : Hp} {Q : VK} {X : XK} {zs : List Str} {E : List (Str × Str)} (hb : SqA K H b (zs.map V.str)) (hc : PrA K H c E) (h1 : 1 ≤ zs.length) (h8 : zs.length ≤ 8) (hn : ∀ z ∈ zs, nameB z = true) (hd : zs.Nodup) (hE : ∀ e ∈ E, e.1 ∈ zs ∧ e.2 ∈ zs) (hl : E.length ≤ 1000) (hA : OM.Anti E)
    (k : ∀ p H', H p = none → Same H H' → IsO CO H' p (srt zs) (OM.cl E) → Q (.ref p) H') : rNew CO (spOInitG K CO CB CN CD CU CG) [.ref b, .ref c] H Q X := by
  have G : OutG CO CB CN CD CU CG zs E H Q X := outG_good h1 h8 hn hd hE hA k
  exact i_newG hb hc (by omega) (fun z hz => ⟨Nat.le_trans (nameB_len (hn z hz)) (by decide), nW (hn z hz)⟩) (by omega) (fun e he => ⟨nW (hn _ (hE e he).1), nW (hn _ (hE e he).2)⟩) G.kB G.kF G.kU G.kR G.kO
open ZA
def spLaw (K : PySem.W.Frag) : Sp := fun vs H Q _ => vs.length = 1 ∧ ∃ (a : Addr) (ns : List Int), vs = [.ref a] ∧ SqL K H a (ns.map V.int) ∧ ∀ H', Q (.bl true) H'
theorem none_of {p q : Addr} {H H' : Hp} {n : Nat} (b : But p H H') (pl : PoolN H' p n) (h : H' q = none) : H q = none := nn_of b (pl.nn h) h
theorem IsO.keepP {CO : Addr} {H H' : Hp} {a p : Addr} {n : Nat} {N : List Str} {R : Str → Str → Bool} (hp : PoolN H p n) (b : But p H H') (h : IsO CO H a N R) : IsO CO H' a N R := by
  obtain ⟨dx, t, d, h1, h2, ⟨A, h3, h4⟩, h5⟩ := h
  exact ⟨dx, t, d, b _ _ (hp.ne h1 fun x y z k => by cases k) h1, b _ _ (hp.ne h2 fun x y z k => by cases k) h2, ⟨A, b _ _ (hp.ne h3 fun x y z k => by cases k) h3, fun n hn => b _ _ (hp.ne (h4 n hn) fun x y z k => by cases k) (h4 n hn)⟩, h5⟩
theorem menu_ok : ∀ z ∈ NAMES ++ ZZ, RW z ∧ PyData.strOk z = true := by
  have h : (NAMES ++ ZZ).all (fun z => decide ((reprText z).length ≤ 400000) && PyData.strOk z) = true := by decide +kernel
  intro z hz
  have := List.all_eq_true.mp h z hz
  rw [Bool.and_eq_true, decide_eq_true_eq] at this
  exact this
theorem drw_ok {p D o : Addr} {n : Nat} {ws ns : List Str} {H H1 H0 : Hp} {F : List (Str × Str)} (d : Drw p n ws H H1 D ns) (io : IsOrd H0 o ws F) : (∀ z ∈ ns, RW z) ∧ SOk ns := by
  have h : ∀ z ∈ ns, z ∈ NAMES ++ ZZ := fun z hz => List.mem_append.mpr ((d.mem z hz).imp (io.nm z) id)
  exact ⟨fun z hz => (menu_ok z (h z hz)).1, fun z hz => (menu_ok z (h z hz)).2⟩
theorem told_no {z : Str} {d : PyData} (h : (z == ("told" : Str)) = false) : PyData.eqv (.list [.str z, d]) (.list [.str "told", .none]) = false := by
  show (PyData.eqv (.str z) (.str "told") && (PyData.eqv d .none && true)) = false
  rw [show PyData.eqv (.str z) (.str "told") = (z == ("told" : Str)) from rfl, h]
  rfl
theorem told_yes {d : PyData} : PyData.eqv (.list [.str "told", d]) (.list [.str "told", .none]) = PyData.eqv d .none := by
  show (PyData.eqv (.str "told") (.str "told") && (PyData.eqv d .none && true)) = _
  rw [show PyData.eqv (.str "told") (.str "told") = true from by decide +kernel, Bool.true_and, Bool.and_true]
theorem map_told {N M : List Str} {R S : Str → Str → Bool} {zs : List Str} : PyData.eqv (mapD N M R S zs) (.list [.str "told", .none]) = (decide (zs.length = N.length) && decide (miss M zs = none) && decide (brk N R S zs = none)) := by
  unfold mapD
  by_cases h : zs.length = N.length
  · cases e : miss M zs with
    | some z =>
      rw [verD_unk h, told_no (by decide +kernel)]
      simp
    | none =>
      rw [verD_told h, told_yes]
      cases e2 : brk N R S zs with
      | none => simp [h]; rfl
      | some e => simp; rfl
  · rw [verD_num h, told_no (by decide +kernel)]
    simp [h]
theorem lay_map {N M : List Str} {R S : Str → Str → Bool} {zs : List Str} (hz : SOk zs) (hN : SOk N) : Lay 2 (mapD N M R S zs) := by
  refine lay_ver (k := 1) (fun z h => hz z (miss_mem h).1) ?_
  cases e : brk N R S zs with
  | none => exact ⟨rfl, by decide⟩
  | some e' =>
    have := cvs_mem (List.mem_of_find?_eq_some e)
    refine lay_tup fun d hd => ?_
    simp at hd
    rcases hd with rfl | rfl
    · exact lay_str (hN _ this.1)
    · exact lay_str (hN _ this.2)
theorem lay_ver2 {n m k : Nat} {u : Option Str} {d : PyData} (hu : ∀ z, u = some z → PyData.strOk z = true) (hd : n = m → u = none → Lay k d) : Lay (k + 1) (verD n m u d) := by
  by_cases h : n = m
  · cases u with
    | none =>
      have := lay_ver (n := n) (m := m) (k := k) (u := none) (fun z e => by cases e) (hd h rfl)
      exact this
    | some z =>
      have := lay_ver (n := n) (m := m) (k := k) (u := some z) (d := .none) hu ⟨rfl, Nat.zero_le _⟩
      rw [verD_unk h] at this ⊢
      exact this
  · have := lay_ver (n := n) (m := m) (k := k) (u := none) (d := .none) (fun z e => by cases e) ⟨rfl, Nat.zero_le _⟩
    rw [verD_num h] at this ⊢
    exact this
theorem lay_cmp {N xs ys : List Str} (nN : N.Nodup) (hx : SOk xs) (hy : SOk ys) : Lay 2 (cmpD N xs ys) := lay_ver2 (k := 1) (fun z h => hx z (miss_mem h).1) fun e hm => lay_strsT fun z hz => by
  obtain ⟨x, hx', rfl⟩ := List.mem_map.mp hz
  exact hy _ (gm_mem nN e.symm (miss_all hm x hx'))
theorem lay_und {M xs ys : List Str} {S : Str → Str → Bool} (hx : SOk xs) (hy : SOk ys) : Lay 2 (undD M S xs ys) := by
  unfold undD
  split
  · have := lay_ver (n := ys.length) (m := ys.length + 1) (k := 1) (u := none) (d := .none) (fun z e => by cases e) ⟨rfl, Nat.zero_le _⟩
    rw [verD_num (by omega)] at this
    exact this
  · refine lay_ver (k := 1) (fun z h => ?_) ⟨rfl, Nat.zero_le _⟩
    have := (miss_mem h).1
    unfold flat at this
    obtain ⟨⟨x, y⟩, hp, hz⟩ := List.mem_flatMap.mp this
    obtain ⟨g1, g2⟩ := List.of_mem_zip hp
    simp at hz
    rcases hz with rfl | rfl
    · exact hx _ g1
    · exact hy _ g2
theorem lay_set {N zs : List Str} (hN : SOk N) (hz : SOk zs) : Lay 2 (setD N zs) := lay_ver2 (k := 1) (fun z h => hz z (miss_mem h).1) fun _ _ => lay_strs fun z h => by
  unfold stay at h
  obtain ⟨⟨x, y⟩, hp, rfl⟩ := List.mem_map.mp h
  exact hN _ (List.of_mem_zip (List.mem_filter.mp hp).1).1
theorem zz_out : ∀ z ∈ NAMES, z ∉ ZZ := by
  have h : NAMES.all (fun z => !decide (z ∈ ZZ)) = true := by decide +kernel
  intro z hz hm
  have := List.all_eq_true.mp h z hz
  simp [hm] at this
theorem ddp_nd (xs : List Str) : (ddp xs).Nodup := by
  have : ∀ (n : Nat) (xs : List Str), xs.length = n → (ddp xs).Nodup := by
    intro n
    induction n with
    | zero =>
      intro xs h
      cases xs with
      | nil => exact .nil
      | cons _ _ => simp at h
    | succ n ih =>
      intro xs h
      have hne : xs ≠ [] := fun e => by rw [e] at h; simp at h
      rw [← List.dropLast_concat_getLast hne, ddp_snoc]
      have hd := ih xs.dropLast (by rw [List.length_dropLast, h]; rfl)
      split
      · exact hd
      · rename_i g
        exact List.nodup_cons.mpr ⟨g, hd⟩
  exact this _ xs rfl
abbrev s_law : Stmt := top 49
theorem sc_law : FnScope ["_law_script", "_law_pool_here", "_law_first", "_law_second", "_law_begins", "_law_stands", "_law_turn", "_law_one", "_law_other", "_law_ends", "_law_passed", "_law_due", "_law_told", "_law_name"] ["_law_script"] (defScope s_law) := ⟨rfl, rfl, rfl, by decide +kernel, rfl, by decide +kernel, by decide +kernel⟩
theorem ok_law {P : Program} {w : World} {K : PySem.W.Frag} {mg : Str → Option Value} {base : Heap} {CB CD CG CN CO CU : Addr} {f : Addr} {fd : FuncData} (F : L2.Fun K "law" "law" s_law f fd)
    (C_b_bool : mg "bool" = none)
    (C_b_isinstance : mg "isinstance" = none)
    (C_b_len : mg "len" = none)
    (C_b_list : mg "list" = none)
    (C_b_range : mg "range" = none)
    (C_b_sorted : mg "sorted" = none)
    (C_b_tuple : mg "tuple" = none)
    (C_f_image : Cal P w K mg base "image" 1 (spImg K))
    (C_f_is_rising_map : Cal P w K mg base "is_rising_map" 6 (spRis K CO))
    (C_f_law_broken : Cal P w K mg base "_law_broken" 6 (spLBrk K CO))
    (C_f_law_cell : Cal P w K mg base "_law_cell" 1 (spCell K))
    (C_f_law_composed : Cal P w K mg base "_law_composed" 5 (spLCmp K CO))
    (C_f_law_composed_due : Cal P w K mg base "_law_composed_due" 1 (spCmpD K))
    (C_f_law_drawn : Cal P w K mg base "_law_drawn" 2 (spDrawn K))
    (C_f_law_map_due : Cal P w K mg base "_law_map_due" 4 (spMapD K))
    (C_f_law_order : Cal P w K mg base "_law_order" 4 (spOrd K))
    (C_f_law_pool : Cal P w K mg base "_law_pool" 1 spPoolN)
    (C_f_law_settled : Cal P w K mg base "_law_settled" 6 (spLSet K CO))
    (C_f_law_settled_due : Cal P w K mg base "_law_settled_due" 5 (spSetD K))
    (C_f_law_take : Cal P w K mg base "_law_take" 1 spTakeN)
    (C_f_law_under : Cal P w K mg base "_law_under" 6 (spLUnd K CO))
    (C_f_law_under_due : Cal P w K mg base "_law_under_due" 2 (spUndD K))
    (C_i_Order : CalI P w K mg base "Order" CO 4 (spOInitG K CO CB CN CD CU CG)) :
    FnOk P w K mg base (L2.CX P w) 7 f fd ["_law_script"] (spLaw K) := by
  refine fnOk_mk F sc_law (fun vs H Q E h => h.1) (fun cdv A outer s H vs Q E hr h => ?_)
  obtain ⟨_, a, ns, rfl, ha, k⟩ := h
  refine ⟨_, pss_cons (ps_set (i := 1) sc_law.nd rfl (Or.inl rfl) (z_callC C_f_law_pool hr passN (pa_cons (z_callC C_f_law_cell hr passN (pa_cons (pv 0) (pa_cons pe_int pa_nil))) pa_nil)))
    (pss_cons (ps_par (i := 2) (j := 3) (by rfl) sc_law.nd rfl rfl (by decide) rfl rfl (pa_cons (z_callC C_f_law_order hr passN (pa_cons (pv 1) (pa_cons (pe_op op_add pe_int (z_callC C_f_law_take hr passN (pa_cons (pv 1) (pa_cons pe_int pa_nil)))) pa_nil))) (pa_cons (z_callC C_f_law_order hr passN (pa_cons (pv 1) (pa_cons (pe_op op_add pe_int (z_callC C_f_law_take hr passN (pa_cons (pv 1) (pa_cons pe_int pa_nil)))) pa_nil))) pa_nil)) (by rfl))
    (pss_cons (ps_par (i := 4) (j := 5) (by rfl) sc_law.nd rfl rfl (by decide) rfl rfl (pa_cons (z_makeC C_i_Order hr passN (pa_cons (pe_ix ix_tup (pv 2) pe_int (fun _ _ => rfl)) (pa_cons (pe_ix ix_tup (pv 2) pe_int (fun _ _ => rfl)) pa_nil))) (pa_cons (z_makeC C_i_Order hr passN (pa_cons (pe_ix ix_tup (pv 3) pe_int (fun _ _ => rfl)) (pa_cons (pe_ix ix_tup (pv 3) pe_int (fun _ _ => rfl)) pa_nil))) pa_nil)) (by rfl))
    (pss_cons (ps_for (passes_of rfl) rfl (pi_range1 (by rfl) C_b_range (pa_cons pe_int pa_nil)) (pg_name (i := 6) sc_law.nd rfl (Or.inl rfl)) (pss_cons (ps_asg (pe_tup (pa_cons (z_callC C_f_law_drawn hr passN (pa_cons (pv 1) (pa_cons (pe_callB (k_len (K := K) rfl) (by rfl) C_b_len (by decide +kernel) (pa_cons (pe_ix ix_tup (pv 2) pe_int (fun _ _ => rfl)) pa_nil)) (pa_cons (pv 3) pa_nil)))) (pa_cons (z_callC C_f_law_drawn hr passN (pa_cons (pv 1) (pa_cons (pe_callB (k_len (K := K) rfl) (by rfl) C_b_len (by decide +kernel) (pa_cons (pe_ix ix_tup (pv 2) pe_int (fun _ _ => rfl)) pa_nil)) (pa_cons (pv 3) pa_nil)))) pa_nil))) (k_tup (K := K) (n := 2) rfl rfl (pgs_cons (pg_name (i := 7) sc_law.nd rfl (Or.inr rfl)) (pgs_cons (pg_name (i := 8) sc_law.nd rfl (Or.inl rfl)) (pgs_nil)))))
    (pss_cons (ps_set (i := 9) sc_law.nd rfl (Or.inl rfl) (z_callC C_f_law_drawn hr passN (pa_cons (pv 1) (pa_cons (pe_callB (k_len (K := K) rfl) (by rfl) C_b_len (by decide +kernel) (pa_cons (pe_ix ix_tup (pv 3) pe_int (fun _ _ => rfl)) pa_nil)) (pa_cons (pv 3) pa_nil)))))
    (pss_cons (ps_set (i := 10) sc_law.nd rfl (Or.inl rfl) (pe_lst (pa_cons (pe_callTy (k_listA (K := K) rfl) (by rfl) C_b_list (by decide +kernel) (pa_cons (pv 7) pa_nil)) (pa_cons (pe_callTy (k_tupA (K := K) rfl) (by rfl) C_b_tuple (by decide +kernel) (pa_cons (pv 8) pa_nil)) (pa_cons (pe_callTy (k_listA (K := K) rfl) (by rfl) C_b_list (by decide +kernel) (pa_cons (pv 9) pa_nil)) pa_nil)))))
    (pss_cons (ps_set (i := 11) sc_law.nd rfl (Or.inl rfl) (z_callC C_f_law_map_due hr passN (pa_cons (pv 2) (pa_cons (pv 3) (pa_cons (pv 7) pa_nil)))))
    (pss_cons (ps_set (i := 12) sc_law.nd rfl (Or.inl rfl) (z_callC C_f_is_rising_map hr passN (pa_cons (pv 4) (pa_cons (pv 5) (pa_cons (pe_ix ix_list (pv 10) pe_int (fun _ _ => rfl)) pa_nil)))))
    (pss_cons (ps_if (PW.pt (pw_or (pt_not (pt_val (pe_callB call_isi (by rfl) C_b_isinstance (by decide +kernel) (pa_cons (pv 12) (pa_cons ((pe_bltn (v := .ty "bool") rfl C_b_bool (by decide +kernel) rfl)) pa_nil))))) (pw_or1 (pt_cmpR op_ne (pv 12) (pe_cmpR (k_eqD (K := K) rfl hr.units) (pv 11) (pe_lst (pa_cons pe_str (pa_cons pe_non pa_nil))) (nomark _)) (nomark _))))) (pss_one (ps_ret pe_bl)) (pss_nil))
    (pss_cons (ps_if (pt_cmpR (k_neD (K := K) rfl hr.units) (z_callC C_f_law_broken hr passN (pa_cons (pv 4) (pa_cons (pv 5) (pa_cons (pe_ix ix_list (pv 10) pe_int (fun _ _ => rfl)) pa_nil)))) (pv 11) (nomark _)) (pss_one (ps_ret pe_bl)) (pss_nil))
    (pss_cons (ps_if (pt_cmpR (k_neD (K := K) rfl hr.units) (z_callC C_f_law_broken hr passN (pa_cons (pv 4) (pa_cons (pv 5) (pa_cons (pe_ix ix_list (pv 10) pe_int (fun _ _ => rfl)) pa_nil)))) (z_callC C_f_law_map_due hr passN (pa_cons (pv 2) (pa_cons (pv 3) (pa_cons (pv 8) pa_nil)))) (nomark _)) (pss_one (ps_ret pe_bl)) (pss_nil))
    (pss_cons (ps_if (pt_cmpR (k_neD (K := K) rfl hr.units) (z_callC C_f_law_composed hr passN (pa_cons (pv 5) (pa_cons (pe_ix ix_list (pv 10) pe_int (fun _ _ => rfl)) (pa_cons (pe_ix ix_list (pv 10) pe_int (fun _ _ => rfl)) pa_nil)))) (z_callC C_f_law_composed_due hr passN (pa_cons (pv 3) (pa_cons (pv 7) (pa_cons (pv 9) pa_nil)))) (nomark _)) (pss_one (ps_ret pe_bl)) (pss_nil))
    (pss_cons (ps_if (pt_cmpR (k_neD (K := K) rfl hr.units) (z_callC C_f_law_under hr passN (pa_cons (pv 5) (pa_cons (pe_ix ix_list (pv 10) pe_int (fun _ _ => rfl)) (pa_cons (pe_ix ix_list (pv 10) pe_int (fun _ _ => rfl)) pa_nil)))) (z_callC C_f_law_under_due hr passN (pa_cons (pv 3) (pa_cons (pv 7) (pa_cons (pv 8) pa_nil)))) (nomark _)) (pss_one (ps_ret pe_bl)) (pss_nil))
    (pss_cons (ps_if (pt_cmpR (k_neD (K := K) rfl hr.units) (z_callC C_f_law_settled hr passN (pa_cons (pv 5) (pa_cons (pe_ix ix_list (pv 10) pe_int (fun _ _ => rfl)) pa_nil))) (z_callC C_f_law_settled_due hr passN (pa_cons (pv 3) (pa_cons (pv 9) pa_nil))) (nomark _)) (pss_one (ps_ret pe_bl)) (pss_nil))
    (pss_cons (ps_set (i := 12) sc_law.nd rfl (Or.inl rfl) (z_callC C_f_image hr passN (pa_cons (pe_ix ix_list (pv 10) pe_int (fun _ _ => rfl)) pa_nil)))
    (pss_cons (ps_if (pt_cmpR (k_neD (K := K) rfl hr.units) (pv 12) (pe_lc (own := [("_law_name", 13)]) (by rfl) sc_law.nd (pi_any (K := K) rfl (pe_callB (k_sort (K := K) rfl) (by rfl) C_b_sorted (by decide +kernel) (pa_cons (pe_op op_cat (pe_ix ix_tup (pv 3) pe_int (fun _ _ => rfl)) (pe_lst (pa_cons pe_str (pa_cons pe_str (pa_cons pe_str pa_nil))))) pa_nil))) (blkOk_by (N := ["_law_script", "_law_pool_here", "_law_first", "_law_second", "_law_begins", "_law_stands", "_law_turn", "_law_one", "_law_other", "_law_ends", "_law_passed", "_law_due", "_law_told", "_law_name"]) (sc := defScope s_law) (by decide +kernel)) (fun _ _ _ _ _ => pg_name (i := 13) sc_law.nd rfl (Or.inl rfl)) (fun _ _ _ _ _ => pts_one (pt_cmpR (k_inS (K := K) rfl) (pv 13) (pv 7) rfl)) (fun _ _ _ _ _ => pv 13)) (nomark _)) (pss_one (ps_ret pe_bl)) (pss_nil))
    (pss_cons (ps_expr (pe_bm PySem.F.plainAttrs_list PySem.F.slot_list_append PySem.F.type_list_append mt_append (pv 12) (pa_cons pe_str pa_nil)))
    (pss_one (ps_if (PW.pt (pw_or (pt_cmpR op_ne (pe_callB (k_len (K := K) rfl) (by rfl) C_b_len (by decide +kernel) (pa_cons (z_callC C_f_image hr passN (pa_cons (pe_callTy (k_tupA (K := K) rfl) (by rfl) C_b_tuple (by decide +kernel) (pa_cons (pv 7) pa_nil)) pa_nil)) pa_nil)) (pe_op op_sub (pe_callB (k_len (K := K) rfl) (by rfl) C_b_len (by decide +kernel) (pa_cons (pv 12) pa_nil)) pe_int) (nomark _)) (pw_or1 (pt_cmpR (k_neD (K := K) rfl hr.units) (pv 10) (pe_lst (pa_cons (pv 7) (pa_cons (pe_callTy (k_tupA (K := K) rfl) (by rfl) C_b_tuple (by decide +kernel) (pa_cons (pv 8) pa_nil)) (pa_cons (pv 9) pa_nil)))) (nomark _))))) (pss_one (ps_ret pe_bl)) (pss_nil))))))))))))))))))
    (pss_one (ps_ret pe_bl))))), ?_⟩
  try dsimp only [cxOf]
  walk_at "rd"
  refine i_cell ha fun c0 => ?_
  walk_at "rd"
  refine ⟨rfl, c0, rfl, fun p H1 hp s1 o1 pl1 => ?_⟩
  walk_at "rd"
  refine i_takeN pl1 (by omega) (by decide) (by decide) fun r H2 r0 r1 o2 pl2 => ?_
  obtain ⟨m, rfl⟩ : ∃ m : Nat, r = (m : Int) := ⟨r.toNat, by omega⟩
  walk_at "rd"
  rw [show (1 + ((m : Nat) : Int)) = ((1 + m : Nat) : Int) by omega]
  refine ⟨rfl, p, 1 + m, 1, rfl, pl2, by omega, by omega, by decide, fun ob H3 zs E3 hob b3 pl3 io1 lz => ?_⟩
  walk_at "rd"
  refine i_takeN pl3 (by omega) (by decide) (by decide) fun r' H4 r0' r1' o4 pl4 => ?_
  obtain ⟨m', rfl⟩ : ∃ m : Nat, r' = (m : Int) := ⟨r'.toNat, by omega⟩
  walk_at "rd"
  rw [show (1 + ((m' : Nat) : Int)) = ((1 + m' : Nat) : Int) by omega]
  refine ⟨rfl, p, 1 + m', 28, rfl, pl4, by omega, by omega, by decide, fun oc H5 ws F3 hoc b5 pl5 io2 lw => ?_⟩
  walk_at "rd"
  have b35 : But p H3 H5 := (But.of' o4).trans b5
  have io1' := io1.keepP pl3 b35
  obtain ⟨l, c, eo, el, lp⟩ := io1'.at_
  obtain ⟨l2, c2, eo2, el2, lp2⟩ := io2.at_
  have l6 := io1.len
  have w6 := io2.len
  refine i_ixT0 (.of eo) ?_
  walk_at "rd"
  refine i_ixT (k := 1) (.of eo) rfl ?_
  walk_at "rd"
  refine i_newGd (SqA.l el) lp.a l6.1 (by omega) io1.names io1.nd io1.sub (by have := io1.elen; omega) io1.anti fun q1 H6 hq1 s6 is1 => ?_
  walk_at "rd"
  refine i_ixT0 (.of (s6 _ _ eo2)) ?_
  walk_at "rd"
  refine i_ixT (k := 1) (.of (s6 _ _ eo2)) rfl ?_
  walk_at "rd"
  refine i_newGd (SqA.l (s6 _ _ el2)) (lp2.a.mono s6) w6.1 (by omega) io2.names io2.nd io2.sub (by have := io2.elen; omega) io2.anti fun q2 H7 hq2 s7 is2 => ?_
  rw [srt_of_pw io1.pw] at is1
  rw [srt_of_pw io2.pw] at is2
  have is1 := is1.mono s7
  have io1 := io1'.mono (s6.trans s7)
  have io2 := io2.mono (s6.trans s7)
  have pl7 := pl5.mono (s6.trans s7) (Nat.le_refl _)
  walk_at "rd"
  refine i_forR (n := 6) rfl (by decide) (fun i σ H' => (∃ v6 v7 v8 v9 v10 v11 v12 v13 : Option V, σ = [some (.ref a), some (.ref p), some (.ref ob), some (.ref oc), some (.ref q1), some (.ref q2), v6, v7, v8, v9, v10, v11, v12, v13]) ∧ But p H7 H' ∧ PoolN H' p (54 + 36 * i)) ⟨⟨_, _, _, _, _, _, _, _, rfl⟩, .of (.refl _), pl7.mono (.refl _) (by omega)⟩ ?_ ?_
  · rintro i σ H8 hi ⟨⟨v6, v7, v8, v9, v10, v11, v12, v13, rfl⟩, b8, pl8⟩
    walk_at "rd"
    have io1a := io1.keepP pl7 b8
    obtain ⟨l, c, eo, el, _⟩ := io1a.at_
    refine i_ixT0 (.of eo) ?_
    walk_at "rd"
    refine i_lenA (SqA.l el) ?_
    rw [List.length_map]
    walk_at "rd"
    refine ⟨rfl, p, oc, zs.length, 54 + 36 * i, ws, F3, rfl, pl8, by omega, by omega, by omega, io2.keepP pl7 b8, fun D1 H9 n1 d1 l1 => ?_⟩
    walk_at "rd"
    have b9 := b8.trans d1.but
    obtain ⟨l', c', eo', el', _⟩ := (io1.keepP pl7 b9).at_
    refine i_ixT0 (.of eo') ?_
    walk_at "rd"
    refine i_lenA (SqA.l el') ?_
    rw [List.length_map]
    walk_at "rd"
    refine ⟨rfl, p, oc, zs.length, 54 + 36 * i + 12, ws, F3, rfl, d1.pool, by omega, by omega, by omega, io2.keepP pl7 b9, fun D2 H10 n2 d2 l2 => ?_⟩
    walk_at "rd"
    refine i_tup1 (Nat.le_of_ble_eq_true rfl) fun t0 H11 ht0 s11 e11 o11 => ?_
    walk_at "rd"
    refine i_gtup (.of e11) rfl ?_
    walk_at "rd"
    have d2' := d2.sm s11
    have b11 := b9.trans d2'.but
    obtain ⟨lw, cw, eow, elw, _⟩ := (io2.keepP pl7 b11).at_
    refine i_ixT0 (.of eow) ?_
    walk_at "rd"
    refine i_lenA (SqA.l elw) ?_
    rw [List.length_map]
    walk_at "rd"
    refine ⟨rfl, p, oc, ws.length, 54 + 36 * i + 12 + 12, ws, F3, rfl, d2'.pool, by omega, by omega, by omega, io2.keepP pl7 b11, fun D3 H12 n3 d3 l3 => ?_⟩
    walk_at "rd"
    have b12 := b11.trans d3.but
    have e1 : H12 D1 = some (.lst (n1.map V.str)) := d3.but _ _ d1.np (d2'.but _ _ d1.np d1.lst)
    have e2 : H12 D2 = some (.lst (n2.map V.str)) := d3.but _ _ d2.np d2'.lst
    have e3 := d3.lst
    have pl12 := d3.pool
    obtain ⟨w1, k1⟩ := drw_ok d1 io2
    obtain ⟨w2, k2⟩ := drw_ok d2 io2
    obtain ⟨w3, k3⟩ := drw_ok d3 io2
    have io1 := io1.keepP pl7 b12
    have io2 := io2.keepP pl7 b12
    have is1 := IsO.keepP pl7 b12 is1
    have is2 := IsO.keepP pl7 b12 is2
    have hm := d3.mem
    have tail : ∀ (H' : Hp), Same H12 H' → But p H7 H' ∧ PoolN H' p (54 + 36 * (i + 1)) := fun H' s => ⟨b12.trans (.of s), pl12.mono s (by omega)⟩
    generalize hR : OM.cl E3 = R at *
    generalize hS : OM.cl F3 = S at *
    refine i_listA (SqA.l e1) fun L1 Ha hL1 sa ea oa => ?_
    walk_at "rd"
    refine i_tupL (.of (sa _ _ e2)) fun L2 Hb hL2 sb eb ob2 => ?_
    walk_at "rd"
    refine i_listA (SqA.l ((sa.trans sb) _ _ e3)) fun L3 Hc hL3 sc ec oc2 => ?_
    walk_at "rd"
    refine i_lst1 (Nat.le_of_ble_eq_true rfl) fun ps Hd hps sd ed od => ?_
    walk_at "rd"
    have s0d : Same H12 Hd := sa.trans (sb.trans (sc.trans sd))
    have eL1 := (sb.trans (sc.trans sd)) _ _ ea
    have eL2 := (sc.trans sd) _ _ eb
    have eL3 := sd _ _ ec
    refine ⟨rfl, ob, oc, D1, zs, ws, n1, E3, F3, rfl, io1.mono s0d, io2.mono s0d, s0d _ _ e1, by omega, k1, fun du He hdu se dd => ?_⟩
    rw [hR, hS] at dd
    walk_at "rd"
    have s0e := s0d.trans se
    refine i_ixL (k := 0) (.of (se _ _ ed)) rfl ?_
    walk_at "rd"
    refine ⟨rfl, q1, q2, L1, zs, ws, R, S, n1, rfl, is1.mono s0e, is2.mono s0e, SqA.l (se _ _ eL1), by omega, w1, fun Hf sf => ?_⟩
    walk_at "rd"
    refine i_isiT (.base (.bl _)) (b := true) (kit_ty (by decide +kernel)) ?_
    walk_at "rd"
    refine i_lst1 (Nat.le_of_ble_eq_true rfl) fun x1 Hg hx1 sg eg og => ?_
    have okz : SOk zs := fun z hz => nameB_ok (io1.names z hz)
    have okw : SOk ws := fun z hz => nameB_ok (io2.names z hz)
    refine ⟨_, _, dpMono (sf.trans sg) dd, dpTwo eg .non, (lay_map k1 okz).shaped (by decide), by decide +kernel, ?_⟩
    rw [map_told]
    generalize (decide (n1.length = zs.length) && decide (miss ws n1 = none) && decide (brk zs R S n1 = none)) = bb at *
    walk_at "rd"
    rw [show (bb != bb) = false from by cases bb <;> rfl]
    walk_at "rd"
    have sdg := se.trans (sf.trans sg)
    have s0g := s0d.trans sdg
    have edg := sdg _ _ ed
    refine i_ixL (k := 0) (.of edg) rfl ?_
    walk_at "rd"
    refine ⟨rfl, q1, q2, L1, zs, ws, R, S, n1, rfl, is1.mono s0g, is2.mono s0g, SqA.l (sdg _ _ eL1), by omega, w1, fun r1 Hh hr1 sh dr1 => ?_⟩
    walk_at "rd"
    refine i_neDR (lay_map k1 okz) (by decide) dr1 (dpMono ((sf.trans sg).trans sh) dd) ?_
    walk_at "rd"
    have sdh := sdg.trans sh
    have s0h := s0g.trans sh
    have edh := sdh _ _ ed
    refine i_ixL (k := 1) (.of edh) rfl ?_
    walk_at "rd"
    refine ⟨rfl, q1, q2, L2, zs, ws, R, S, n2, rfl, is1.mono s0h, is2.mono s0h, SqA.t (sdh _ _ eL2), by omega, w2, fun r2 Hi hr2 si dr2 => ?_⟩
    walk_at "rd"
    have s0i := s0h.trans si
    refine ⟨rfl, ob, oc, D2, zs, ws, n2, E3, F3, rfl, io1.mono s0i, io2.mono s0i, s0i _ _ e2, by omega, k2, fun r3 Hj hr3 sj dr3 => ?_⟩
    rw [hR, hS] at dr3
    walk_at "rd"
    refine i_neDR (lay_map k2 okz) (by decide) (dpMono sj dr2) dr3 ?_
    walk_at "rd"
    have s0j := s0i.trans sj
    have sdj := sdh.trans (si.trans sj)
    have edj := sdj _ _ ed
    refine i_ixL (k := 0) (.of edj) rfl ?_
    walk_at "rd"
    refine i_ixL (k := 2) (.of edj) rfl ?_
    walk_at "rd"
    refine ⟨rfl, q2, L1, L3, ws, S, n1, n3, rfl, is2.mono s0j, SqA.l (sdj _ _ eL1), SqA.l (sdj _ _ eL3), by omega, by omega, w1, fun r4 Hk hr4 sk dr4 => ?_⟩
    walk_at "rd"
    have s0k := s0j.trans sk
    refine ⟨rfl, oc, D1, D3, ws, n1, n3, F3, rfl, io2.mono s0k, s0k _ _ e1, s0k _ _ e3, by omega, k1, fun r5 Hl hr5 sl dr5 => ?_⟩
    walk_at "rd"
    refine i_neDR (lay_cmp io2.nd k1 k3) (by decide) (dpMono sl dr4) dr5 ?_
    walk_at "rd"
    have s0l := s0k.trans sl
    have sdl := sdj.trans (sk.trans sl)
    have edl := sdl _ _ ed
    refine i_ixL (k := 0) (.of edl) rfl ?_
    walk_at "rd"
    refine i_ixL (k := 1) (.of edl) rfl ?_
    walk_at "rd"
    refine ⟨rfl, q2, L1, L2, ws, S, n1, n2, rfl, is2.mono s0l, SqA.l (sdl _ _ eL1), SqA.t (sdl _ _ eL2), by omega, by omega, w1, w2, fun r6 Hm hr6 sm dr6 => ?_⟩
    walk_at "rd"
    have s0m := s0l.trans sm
    refine ⟨rfl, oc, D1, D2, ws, n1, n2, F3, rfl, io2.mono s0m, s0m _ _ e1, s0m _ _ e2, by omega, fun r7 Hn hr7 sn dr7 => ?_⟩
    rw [hS] at dr7
    walk_at "rd"
    refine i_neDR (lay_und k1 k2) (by decide) (dpMono sn dr6) dr7 ?_
    walk_at "rd"
    have s0n := s0m.trans sn
    have sdn := sdl.trans (sm.trans sn)
    have edn := sdn _ _ ed
    refine i_ixL (k := 2) (.of edn) rfl ?_
    walk_at "rd"
    refine ⟨rfl, q2, L3, ws, S, n3, rfl, is2.mono s0n, SqA.l (sdn _ _ eL3), by omega, w3, fun r8 Ho hr8 so dr8 => ?_⟩
    walk_at "rd"
    have s0o := s0n.trans so
    refine ⟨rfl, oc, D3, ws, n3, F3, rfl, io2.mono s0o, s0o _ _ e3, by omega, k3, fun r9 Hp hr9 sp dr9 => ?_⟩
    walk_at "rd"
    refine i_neDR (lay_set okw k3) (by decide) (dpMono sp dr8) dr9 ?_
    walk_at "rd"
    have s0p := s0o.trans sp
    have sdp := sdn.trans (so.trans sp)
    have edp := sdp _ _ ed
    refine i_ixL (k := 0) (.of edp) rfl ?_
    walk_at "rd"
    refine ⟨rfl, L1, n1, rfl, SqA.l (sdp _ _ eL1), by omega, fun im Hq him sq eim => ?_⟩
    walk_at "rd"
    have s0q := s0p.trans sq
    obtain ⟨lv, cv, eov, elv, _⟩ := (io2.mono s0q).at_
    refine i_ixT0 (.of eov) ?_
    walk_at "rd"
    refine i_lst1 (Nat.le_of_ble_eq_true rfl) fun y1 Hr hy1 sr er or' => ?_
    walk_at "rd"
    refine i_cat (sr _ _ elv) er (by rw [List.length_map]; simp; omega) fun y2 Hs hy2 ss es os => ?_
    have es : Hs y2 = some (.lst ((ws ++ ZZ).map V.str)) := by rw [es, List.map_append]; rfl
    walk_at "rd"
    refine i_sort (SqA.l es) (by rw [List.length_append]; simp [ZZ]; omega) fun y3 Ht hy3 st ot et => ?_
    walk_at "rd"
    have s0t := s0q.trans (sr.trans (ss.trans st))
    have sqt := sr.trans (ss.trans st)
    have lN : (srt (ws ++ ZZ)).length ≤ 9 := by
      rw [(srt_perm _).length_eq, List.length_append]
      simp [ZZ]
      omega
    have hflt : srt (ddp n1) = (srt (ws ++ ZZ)).filter fun z => decide (z ∈ n1) := by
      have nz : (ws ++ ZZ).Nodup := List.nodup_append.mpr ⟨io2.nd, by decide, fun x hx y hy e => zz_out x (io2.nm x hx) (by rw [e]; exact hy)⟩
      refine srt_filter (srt_nodup nz) (srt_pw _) (ddp_nd n1) fun z => ?_
      rw [mem_ddp, mem_srt, decide_eq_true_eq]
      exact ⟨fun h => ⟨List.mem_append.mpr (d1.mem z h), h⟩, fun h => h.2⟩
    refine i_lcA (H0 := Ht) (fun i vs H' => Same Ht H' ∧ vs = (((srt (ws ++ ZZ)).take i).filter fun z => decide (z ∈ n1)).map V.str) (SqA.l et) (.refl _) (fun D H' hD s e ho => ⟨s, rfl⟩) (fun i ys H' p => p.1) ?_ ?_
    · rintro j x D vs Hu hD hx eD ⟨su, rfl⟩
      obtain ⟨z, hzi, rfl⟩ := strs_at hx
      have hj := (List.getElem?_eq_some_iff.mp hzi).1
      walk_at "rd"
      refine ⟨by with_unfolding_all rfl, ?_⟩
      walk_at "rd"
      refine i_inS (SqA.l ((s0t.trans su) _ _ e1)) ?_
      walk_at "rd"
      by_cases hb : z ∈ n1
      · rw [if_pos (by simpa using hb)]
        walk_at "rd"
        refine i_lcE eD ?_ fun H6 e6 o6 => ⟨fun b u e => by rw [o6 b (ne_of_none e hD)]; exact su _ _ e, ?_⟩
        · rw [List.length_map]
          have h1 := List.length_filter_le (fun z => decide (z ∈ n1)) ((srt (ws ++ ZZ)).take j)
          rw [List.length_take] at h1
          omega
        · rw [take_snoc hzi, List.filter_append, List.map_append]
          simp [hb]
      · rw [if_neg (by simpa using hb)]
        refine ⟨_, eD, su, ?_⟩
        rw [take_snoc hzi, List.filter_append, List.map_append]
        simp [hb]
    · rintro D vs Hu hD eD ⟨su, rfl⟩
      rw [List.length_map, List.take_length, ← hflt] at eD
      have kI : SOk (srt (ddp n1)) := fun z hz => k1 z ((mem_ddp z n1).mp (mem_srt.mp hz))
      have lI : (srt (ddp n1)).length ≤ 12 := by
        rw [(srt_perm _).length_eq]
        exact Nat.le_trans (ddp_len n1) l1
      refine i_neDR (lay_strs kI) (by decide) (.lst (.of ((sqt.trans su) _ _ eim)) (dpStrs _)) (.lst (.of eD) (dpStrs _)) ?_
      walk_at "rd"
      have eimU := (sqt.trans su) _ _ eim
      refine ⟨tyL eimU, ?_⟩
      walk_at "rd"
      refine i_app eimU (by rw [List.length_map]; omega) fun Hv ev ov => ?_
      have spv : Same Hp Hv := fun b o e => by
        rw [ov b (ne_of_none e him)]
        exact (sq.trans (sqt.trans su)) _ _ e
      have s0v := s0p.trans spv
      have sdv := sdp.trans spv
      walk_at "rd"
      refine i_tupL (.of (s0v _ _ e1)) fun y4 Hw hy4 sw ew ow => ?_
      walk_at "rd"
      refine ⟨rfl, y4, n1, rfl, SqA.t ew, by omega, fun y5 Hx hy5 sx ex => ?_⟩
      walk_at "rd"
      refine i_lenA (SqA.l ex) ?_
      rw [List.length_map]
      walk_at "rd"
      have evx := (sw.trans sx) _ _ ev
      refine i_lenA (SqA.l evx) ?_
      rw [List.length_append, List.length_map]
      walk_at "rd"
      refine i_ndec (fun e => absurd (by simp) e) (fun _ => ?_)
      have s0x := s0v.trans (sw.trans sx)
      have sdx := sdv.trans (sw.trans sx)
      walk_at "rd"
      refine i_tupL (.of (s0x _ _ e2)) fun y6 Hy hy6 sy ey oy => ?_
      walk_at "rd"
      refine i_lst1 (Nat.le_of_ble_eq_true rfl) fun y7 Hz hy7 sz ez oz => ?_
      have sxz := sy.trans sz
      have dP : Dp K Hz (.ref ps) (.list [.list (n1.map PyData.str), .tuple (n2.map PyData.str), .list (n3.map PyData.str)]) :=
        .lst (.of ((sdx.trans sxz) _ _ ed)) (.cons (.lst (.of ((sdx.trans sxz) _ _ eL1)) (dpStrs _)) (.cons (.tup (.of ((sdx.trans sxz) _ _ eL2)) (dpStrs _)) (.cons (.lst (.of ((sdx.trans sxz) _ _ eL3)) (dpStrs _)) .nil)))
      have dN : Dp K Hz (.ref y7) (.list [.list (n1.map PyData.str), .tuple (n2.map PyData.str), .list (n3.map PyData.str)]) :=
        .lst (.of ez) (.cons (.lst (.of ((s0x.trans sxz) _ _ e1)) (dpStrs _)) (.cons (.tup (.of (sz _ _ ey)) (dpStrs _)) (.cons (.lst (.of ((s0x.trans sxz) _ _ e3)) (dpStrs _)) .nil)))
      refine i_neDR (n := 2) (lay_list fun d hd => by
        simp at hd
        rcases hd with rfl | rfl | rfl
        · exact lay_strs k1
        · exact lay_strsT k2
        · exact lay_strs k3) (by decide) dP dN ?_
      walk_at "rd"
      exact ⟨⟨_, _, _, _, _, _, _, _, rfl⟩, tail _ (s0x.trans sxz)⟩
  · rintro σ H8 ⟨⟨v6, v7, v8, v9, v10, v11, v12, v13, rfl⟩, b8, pl8⟩
    walk_at "rd"
    exact k _
theorem mk_law {K : PySem.W.Frag} {H : Hp} {a : Addr} {ns : List Int} (hS : SqL K H a (ns.map V.int)) (hl : ns.length ≤ 63) : spLaw K [.ref a] H (fun v _ => v = .bl true) fun _ _ _ => False := ⟨rfl, a, ns, rfl, hS, fun _ => rfl⟩
theorem all_mk {P : Program} {w : World} {K : PySem.W.Frag} {h : Heap} {mg : Str → Option Value} {fa : Addr} (X : K.In h) (G : h.Ns mainGlobals mg) (hfa : mg "law" = some (.ref fa))
    {CO : Addr}
    {CB : Addr}
    {CN : Addr}
    {CD : Addr}
    {CU : Addr}
    {CG : Addr}
    {CT : Addr}
    {nm_BadNumber : Str}
    {q_BadNumber : Str}
    {N_BadNumber : Addr}
    {bs_BadNumber : List Value}
    {sn_BadNumber : List Str}
    {sub_BadNumber : List Value}
    {ab_BadNumber : Bool}
    {col_BadNumber : Option Bool}
    {dd_BadNumber : Option Addr}
    {m0_BadNumber : Option Value}
    {m1_BadNumber : Option Value}
    {m2_BadNumber : Option Value}
    {m3_BadNumber : Option Value}
    {m5_BadNumber : Option Value}
    {nm_BadName : Str}
    {q_BadName : Str}
    {N_BadName : Addr}
    {bs_BadName : List Value}
    {sn_BadName : List Str}
    {sub_BadName : List Value}
    {ab_BadName : Bool}
    {col_BadName : Option Bool}
    {dd_BadName : Option Addr}
    {m0_BadName : Option Value}
    {m1_BadName : Option Value}
    {m2_BadName : Option Value}
    {m3_BadName : Option Value}
    {m5_BadName : Option Value}
    {nm_DuplicateName : Str}
    {q_DuplicateName : Str}
    {N_DuplicateName : Addr}
    {bs_DuplicateName : List Value}
    {sn_DuplicateName : List Str}
    {sub_DuplicateName : List Value}
    {ab_DuplicateName : Bool}
    {col_DuplicateName : Option Bool}
    {dd_DuplicateName : Option Addr}
    {m0_DuplicateName : Option Value}
    {m1_DuplicateName : Option Value}
    {m2_DuplicateName : Option Value}
    {m3_DuplicateName : Option Value}
    {m5_DuplicateName : Option Value}
    {nm_UnknownName : Str}
    {q_UnknownName : Str}
    {N_UnknownName : Addr}
    {bs_UnknownName : List Value}
    {sn_UnknownName : List Str}
    {sub_UnknownName : List Value}
    {ab_UnknownName : Bool}
    {col_UnknownName : Option Bool}
    {dd_UnknownName : Option Addr}
    {m0_UnknownName : Option Value}
    {m1_UnknownName : Option Value}
    {m2_UnknownName : Option Value}
    {m3_UnknownName : Option Value}
    {m5_UnknownName : Option Value}
    {nm_Ring : Str}
    {q_Ring : Str}
    {N_Ring : Addr}
    {bs_Ring : List Value}
    {sn_Ring : List Str}
    {sub_Ring : List Value}
    {ab_Ring : Bool}
    {col_Ring : Option Bool}
    {dd_Ring : Option Addr}
    {m0_Ring : Option Value}
    {m1_Ring : Option Value}
    {m2_Ring : Option Value}
    {m3_Ring : Option Value}
    {m5_Ring : Option Value}
    {f0 : Addr} {od0 an0 : Option Addr} {sl0 : Array (Option Value)} {oc0 kV0 dc0 pm0 cd0 ct0 : Value}
    {f1 : Addr} {od1 an1 : Option Addr} {sl1 : Array (Option Value)} {oc1 kV1 dc1 pm1 cd1 ct1 : Value}
    {f2 : Addr} {od2 an2 : Option Addr} {sl2 : Array (Option Value)} {oc2 kV2 dc2 pm2 cd2 ct2 : Value}
    {f3 : Addr} {od3 an3 : Option Addr} {sl3 : Array (Option Value)} {oc3 kV3 dc3 pm3 cd3 ct3 : Value}
    {f4 : Addr} {od4 an4 : Option Addr} {sl4 : Array (Option Value)} {oc4 kV4 dc4 pm4 cd4 ct4 : Value}
    {f5 : Addr} {od5 an5 : Option Addr} {sl5 : Array (Option Value)} {oc5 kV5 dc5 pm5 cd5 ct5 : Value}
    {f6 : Addr} {od6 an6 : Option Addr} {sl6 : Array (Option Value)} {oc6 kV6 dc6 pm6 cd6 ct6 : Value}
    {f7 : Addr} {od7 an7 : Option Addr} {sl7 : Array (Option Value)} {oc7 kV7 dc7 pm7 cd7 ct7 : Value}
    {f8 : Addr} {od8 an8 : Option Addr} {sl8 : Array (Option Value)} {oc8 kV8 dc8 pm8 cd8 ct8 : Value}
    {f9 : Addr} {od9 an9 : Option Addr} {sl9 : Array (Option Value)} {oc9 kV9 dc9 pm9 cd9 ct9 : Value}
    {f10 : Addr} {od10 an10 : Option Addr} {sl10 : Array (Option Value)} {oc10 kV10 dc10 pm10 cd10 ct10 : Value}
    {f11 : Addr} {od11 an11 : Option Addr} {sl11 : Array (Option Value)} {oc11 kV11 dc11 pm11 cd11 ct11 : Value}
    {f12 : Addr} {od12 an12 : Option Addr} {sl12 : Array (Option Value)} {oc12 kV12 dc12 pm12 cd12 ct12 : Value}
    {f13 : Addr} {od13 an13 : Option Addr} {sl13 : Array (Option Value)} {oc13 kV13 dc13 pm13 cd13 ct13 : Value}
    {f14 : Addr} {od14 an14 : Option Addr} {sl14 : Array (Option Value)} {oc14 kV14 dc14 pm14 cd14 ct14 : Value}
    {f15 : Addr} {od15 an15 : Option Addr} {sl15 : Array (Option Value)} {oc15 kV15 dc15 pm15 cd15 ct15 : Value}
    {f16 : Addr} {od16 an16 : Option Addr} {sl16 : Array (Option Value)} {oc16 kV16 dc16 pm16 cd16 ct16 : Value}
    {f17 : Addr} {od17 an17 : Option Addr} {sl17 : Array (Option Value)} {oc17 kV17 dc17 pm17 cd17 ct17 : Value}
    {f18 : Addr} {od18 an18 : Option Addr} {sl18 : Array (Option Value)} {oc18 kV18 dc18 pm18 cd18 ct18 : Value}
    {f19 : Addr} {od19 an19 : Option Addr} {sl19 : Array (Option Value)} {oc19 kV19 dc19 pm19 cd19 ct19 : Value}
    {f20 : Addr} {od20 an20 : Option Addr} {sl20 : Array (Option Value)} {oc20 kV20 dc20 pm20 cd20 ct20 : Value}
    {f21 : Addr} {od21 an21 : Option Addr} {sl21 : Array (Option Value)} {oc21 kV21 dc21 pm21 cd21 ct21 : Value}
    {f22 : Addr} {od22 an22 : Option Addr} {sl22 : Array (Option Value)} {oc22 kV22 dc22 pm22 cd22 ct22 : Value}
    {f23 : Addr} {od23 an23 : Option Addr} {sl23 : Array (Option Value)} {oc23 kV23 dc23 pm23 cd23 ct23 : Value}
    {f24 : Addr} {od24 an24 : Option Addr} {sl24 : Array (Option Value)} {oc24 kV24 dc24 pm24 cd24 ct24 : Value}
    {f25 : Addr} {od25 an25 : Option Addr} {sl25 : Array (Option Value)} {oc25 kV25 dc25 pm25 cd25 ct25 : Value}
    {f26 : Addr} {od26 an26 : Option Addr} {sl26 : Array (Option Value)} {oc26 kV26 dc26 pm26 cd26 ct26 : Value}
    {f27 : Addr} {od27 an27 : Option Addr} {sl27 : Array (Option Value)} {oc27 kV27 dc27 pm27 cd27 ct27 : Value}
    {f28 : Addr} {od28 an28 : Option Addr} {sl28 : Array (Option Value)} {oc28 kV28 dc28 pm28 cd28 ct28 : Value}
    {f29 : Addr} {od29 an29 : Option Addr} {sl29 : Array (Option Value)} {oc29 kV29 dc29 pm29 cd29 ct29 : Value}
    {f30 : Addr} {od30 an30 : Option Addr} {sl30 : Array (Option Value)} {oc30 kV30 dc30 pm30 cd30 ct30 : Value}
    {f31 : Addr} {od31 an31 : Option Addr} {sl31 : Array (Option Value)} {oc31 kV31 dc31 pm31 cd31 ct31 : Value}
    {f32 : Addr} {od32 an32 : Option Addr} {sl32 : Array (Option Value)} {oc32 kV32 dc32 pm32 cd32 ct32 : Value}
    {f33 : Addr} {od33 an33 : Option Addr} {sl33 : Array (Option Value)} {oc33 kV33 dc33 pm33 cd33 ct33 : Value}
    {f34 : Addr} {od34 an34 : Option Addr} {sl34 : Array (Option Value)} {oc34 kV34 dc34 pm34 cd34 ct34 : Value}
    {f35 : Addr} {od35 an35 : Option Addr} {sl35 : Array (Option Value)} {oc35 kV35 dc35 pm35 cd35 ct35 : Value}
    {f36 : Addr} {od36 an36 : Option Addr} {sl36 : Array (Option Value)} {oc36 kV36 dc36 pm36 cd36 ct36 : Value}
    {f37 : Addr} {od37 an37 : Option Addr} {sl37 : Array (Option Value)} {oc37 kV37 dc37 pm37 cd37 ct37 : Value}
    {f38 : Addr} {od38 an38 : Option Addr} {sl38 : Array (Option Value)} {oc38 kV38 dc38 pm38 cd38 ct38 : Value}
    {f39 : Addr} {od39 an39 : Option Addr} {sl39 : Array (Option Value)} {oc39 kV39 dc39 pm39 cd39 ct39 : Value}
    {f40 : Addr} {od40 an40 : Option Addr} {sl40 : Array (Option Value)} {oc40 kV40 dc40 pm40 cd40 ct40 : Value}
    {f41 : Addr} {od41 an41 : Option Addr} {sl41 : Array (Option Value)} {oc41 kV41 dc41 pm41 cd41 ct41 : Value}
    {f42 : Addr} {od42 an42 : Option Addr} {sl42 : Array (Option Value)} {oc42 kV42 dc42 pm42 cd42 ct42 : Value}
    {f43 : Addr} {od43 an43 : Option Addr} {sl43 : Array (Option Value)} {oc43 kV43 dc43 pm43 cd43 ct43 : Value}
    {tk_DIGITS : Tok}
    {tk_LETTERS : Tok}
    {tk_MOST_NAMES : Tok}
    {tk_MOST_SIGNS : Tok}
    (aC_Order : PySem.W.nsIn K mainGlobals "Order" = some (some (.ref CO)))
    (aC_BadNumber : PySem.W.nsIn K mainGlobals "BadNumber" = some (some (.ref CB)))
    (aC_BadName : PySem.W.nsIn K mainGlobals "BadName" = some (some (.ref CN)))
    (aC_DuplicateName : PySem.W.nsIn K mainGlobals "DuplicateName" = some (some (.ref CD)))
    (aC_UnknownName : PySem.W.nsIn K mainGlobals "UnknownName" = some (some (.ref CU)))
    (aC_Ring : PySem.W.nsIn K mainGlobals "Ring" = some (some (.ref CG)))
    (aC_ThrowError : PySem.W.nsIn K mainGlobals "ThrowError" = some (some (.ref CT)))
    (pg_Order : PySem.W.plainGet K CO Str.empty = true)
    (hd_Order : PySem.W.hasDictIn K CO = true)
    (po_Order : PySem.W.plainOver K CO = true)
    (sa_Order : PySem.W.findIn K (.ref CO) "__setattr__" = some (some (.builtin "object.__setattr__")))
    (ha_Order : PySem.W.findIn K (.ref CO) "__class__" = some (some (.builtin "object.__class__")))
    (hm_Order : PySem.W.mroIn K CO (.type "object") = some true)
    (mk_Order : PySem.W.makesIn K CO = true)
    (kc_Order : PySem.W.keepIn K (.ref CO) = true)
    (sf_Order : PySem.W.selfFirst K CO = true)
    (iC_Order : PySem.W.isClsIn K CO = true)
    (tC_Order : PySem.W.typeIn K (.ref CO) = some (.type "type"))
    (hn : PySem.W.specialIn K (.builtin "object.__class__") "__get__" = some (some (.builtin "getset_descriptor.__get__")))
    (htk : PySem.W.takesIn K (.builtin "object.__class__") = some true)
    (xL_BadNumber : K.lookup CB = some (excClassObj nm_BadNumber q_BadNumber CB N_BadNumber bs_BadNumber [.ref CT, .type "ValueError", .type "Exception", .type "BaseException", .type "object"] true sn_BadNumber sub_BadNumber ab_BadNumber col_BadNumber dd_BadNumber m0_BadNumber m1_BadNumber m2_BadNumber m3_BadNumber m5_BadNumber "ValueError.__new__"))
    (sa_BadNumber : PySem.W.findIn K (.ref CB) "__setattr__" = some (some (.builtin "object.__setattr__")))
    (ga_BadNumber : PySem.W.findIn K (.ref CB) "__getattribute__" = some (some (.builtin "BaseException.__getattribute__")))
    (gg_BadNumber : PySem.W.findIn K (.ref CB) "__getattr__" = some none)
    (kC_BadNumber : PySem.W.keepIn K (.ref CB) = true)
    (eC_BadNumber : PySem.W.subIn K (.ref CB) (.type "BaseException") = some true)
    (tC_BadNumber : PySem.W.typeIn K (.ref CB) = some (.type "type"))
    (hC_BadNumber : PySem.W.hasDictIn K CB = true)
    (iC_BadNumber : PySem.W.isClsIn K CB = true)
    (sC_BadNumber : PySem.W.subIn K (.ref CB) (.ref CB) = some true)
    (xL_BadName : K.lookup CN = some (excClassObj nm_BadName q_BadName CN N_BadName bs_BadName [.ref CT, .type "ValueError", .type "Exception", .type "BaseException", .type "object"] true sn_BadName sub_BadName ab_BadName col_BadName dd_BadName m0_BadName m1_BadName m2_BadName m3_BadName m5_BadName "ValueError.__new__"))
    (sa_BadName : PySem.W.findIn K (.ref CN) "__setattr__" = some (some (.builtin "object.__setattr__")))
    (ga_BadName : PySem.W.findIn K (.ref CN) "__getattribute__" = some (some (.builtin "BaseException.__getattribute__")))
    (gg_BadName : PySem.W.findIn K (.ref CN) "__getattr__" = some none)
    (kC_BadName : PySem.W.keepIn K (.ref CN) = true)
    (eC_BadName : PySem.W.subIn K (.ref CN) (.type "BaseException") = some true)
    (tC_BadName : PySem.W.typeIn K (.ref CN) = some (.type "type"))
    (hC_BadName : PySem.W.hasDictIn K CN = true)
    (iC_BadName : PySem.W.isClsIn K CN = true)
    (sC_BadName : PySem.W.subIn K (.ref CN) (.ref CN) = some true)
    (xL_DuplicateName : K.lookup CD = some (excClassObj nm_DuplicateName q_DuplicateName CD N_DuplicateName bs_DuplicateName [.ref CT, .type "ValueError", .type "Exception", .type "BaseException", .type "object"] true sn_DuplicateName sub_DuplicateName ab_DuplicateName col_DuplicateName dd_DuplicateName m0_DuplicateName m1_DuplicateName m2_DuplicateName m3_DuplicateName m5_DuplicateName "ValueError.__new__"))
    (sa_DuplicateName : PySem.W.findIn K (.ref CD) "__setattr__" = some (some (.builtin "object.__setattr__")))
    (ga_DuplicateName : PySem.W.findIn K (.ref CD) "__getattribute__" = some (some (.builtin "BaseException.__getattribute__")))
    (gg_DuplicateName : PySem.W.findIn K (.ref CD) "__getattr__" = some none)
    (kC_DuplicateName : PySem.W.keepIn K (.ref CD) = true)
    (eC_DuplicateName : PySem.W.subIn K (.ref CD) (.type "BaseException") = some true)
    (tC_DuplicateName : PySem.W.typeIn K (.ref CD) = some (.type "type"))
    (hC_DuplicateName : PySem.W.hasDictIn K CD = true)
    (iC_DuplicateName : PySem.W.isClsIn K CD = true)
    (sC_DuplicateName : PySem.W.subIn K (.ref CD) (.ref CD) = some true)
    (xL_UnknownName : K.lookup CU = some (excClassObj nm_UnknownName q_UnknownName CU N_UnknownName bs_UnknownName [.ref CT, .type "ValueError", .type "Exception", .type "BaseException", .type "object"] true sn_UnknownName sub_UnknownName ab_UnknownName col_UnknownName dd_UnknownName m0_UnknownName m1_UnknownName m2_UnknownName m3_UnknownName m5_UnknownName "ValueError.__new__"))
    (sa_UnknownName : PySem.W.findIn K (.ref CU) "__setattr__" = some (some (.builtin "object.__setattr__")))
    (ga_UnknownName : PySem.W.findIn K (.ref CU) "__getattribute__" = some (some (.builtin "BaseException.__getattribute__")))
    (gg_UnknownName : PySem.W.findIn K (.ref CU) "__getattr__" = some none)
    (kC_UnknownName : PySem.W.keepIn K (.ref CU) = true)
    (eC_UnknownName : PySem.W.subIn K (.ref CU) (.type "BaseException") = some true)
    (tC_UnknownName : PySem.W.typeIn K (.ref CU) = some (.type "type"))
    (hC_UnknownName : PySem.W.hasDictIn K CU = true)
    (iC_UnknownName : PySem.W.isClsIn K CU = true)
    (sC_UnknownName : PySem.W.subIn K (.ref CU) (.ref CU) = some true)
    (xL_Ring : K.lookup CG = some (excClassObj nm_Ring q_Ring CG N_Ring bs_Ring [.ref CT, .type "ValueError", .type "Exception", .type "BaseException", .type "object"] true sn_Ring sub_Ring ab_Ring col_Ring dd_Ring m0_Ring m1_Ring m2_Ring m3_Ring m5_Ring "ValueError.__new__"))
    (sa_Ring : PySem.W.findIn K (.ref CG) "__setattr__" = some (some (.builtin "object.__setattr__")))
    (ga_Ring : PySem.W.findIn K (.ref CG) "__getattribute__" = some (some (.builtin "BaseException.__getattribute__")))
    (gg_Ring : PySem.W.findIn K (.ref CG) "__getattr__" = some none)
    (kC_Ring : PySem.W.keepIn K (.ref CG) = true)
    (eC_Ring : PySem.W.subIn K (.ref CG) (.type "BaseException") = some true)
    (tC_Ring : PySem.W.typeIn K (.ref CG) = some (.type "type"))
    (hC_Ring : PySem.W.hasDictIn K CG = true)
    (iC_Ring : PySem.W.isClsIn K CG = true)
    (sC_Ring : PySem.W.subIn K (.ref CG) (.ref CG) = some true)
    (rd_ThrowError : PySem.W.readsIn K CT (.type "type") = true)
    (rg_ThrowError : PySem.W.specialIn K (.ref CT) "__getattribute__" = some (some (.builtin "type.__getattribute__")))
    (rv_ThrowError : PySem.W.findCls K (.ref CT) (.type "type") "__init__" = some (.val (.builtin "ValueError.__init__")))
    (a0 : PySem.W.nsIn K mainGlobals "_shown" = some (some (.ref f0)))
    (l0 : K.lookup f0 = some ⟨oc0, od0, .func (PySem.W.fnOf "_shown" "_shown" (defArgs s__shown) (defBody s__shown) (defScope s__shown) .none kV0 dc0 pm0 an0 cd0 ct0), sl0⟩)
    (c0 : PySem.W.codeIn K cd0 "_shown" = true)
    (k0 : PySem.W.keepIn K (.ref f0) = true)
    (a1 : PySem.W.findIn K (.ref CB) "__init__" = some (some (.ref f1)))
    (t1 : PySem.W.typeIn K (.ref f1) = some (.type "function"))
    (l1 : K.lookup f1 = some ⟨oc1, od1, .func (PySem.W.fnOf "__init__" "BadNumber.__init__" (defArgs s_BadNumber___init__) (defBody s_BadNumber___init__) (defScope s_BadNumber___init__) .none kV1 dc1 pm1 an1 cd1 ct1), sl1⟩)
    (c1 : PySem.W.codeIn K cd1 "BadNumber.__init__" = true)
    (k1 : PySem.W.keepIn K (.ref f1) = true)
    (a2 : PySem.W.findIn K (.ref CN) "__init__" = some (some (.ref f2)))
    (t2 : PySem.W.typeIn K (.ref f2) = some (.type "function"))
    (l2 : K.lookup f2 = some ⟨oc2, od2, .func (PySem.W.fnOf "__init__" "BadName.__init__" (defArgs s_BadName___init__) (defBody s_BadName___init__) (defScope s_BadName___init__) .none kV2 dc2 pm2 an2 cd2 ct2), sl2⟩)
    (c2 : PySem.W.codeIn K cd2 "BadName.__init__" = true)
    (k2 : PySem.W.keepIn K (.ref f2) = true)
    (a3 : PySem.W.findIn K (.ref CD) "__init__" = some (some (.ref f3)))
    (t3 : PySem.W.typeIn K (.ref f3) = some (.type "function"))
    (l3 : K.lookup f3 = some ⟨oc3, od3, .func (PySem.W.fnOf "__init__" "DuplicateName.__init__" (defArgs s_DuplicateName___init__) (defBody s_DuplicateName___init__) (defScope s_DuplicateName___init__) .none kV3 dc3 pm3 an3 cd3 ct3), sl3⟩)
    (c3 : PySem.W.codeIn K cd3 "DuplicateName.__init__" = true)
    (k3 : PySem.W.keepIn K (.ref f3) = true)
    (a4 : PySem.W.findIn K (.ref CU) "__init__" = some (some (.ref f4)))
    (t4 : PySem.W.typeIn K (.ref f4) = some (.type "function"))
    (l4 : K.lookup f4 = some ⟨oc4, od4, .func (PySem.W.fnOf "__init__" "UnknownName.__init__" (defArgs s_UnknownName___init__) (defBody s_UnknownName___init__) (defScope s_UnknownName___init__) .none kV4 dc4 pm4 an4 cd4 ct4), sl4⟩)
    (c4 : PySem.W.codeIn K cd4 "UnknownName.__init__" = true)
    (k4 : PySem.W.keepIn K (.ref f4) = true)
    (a5 : PySem.W.findIn K (.ref CG) "__init__" = some (some (.ref f5)))
    (t5 : PySem.W.typeIn K (.ref f5) = some (.type "function"))
    (l5 : K.lookup f5 = some ⟨oc5, od5, .func (PySem.W.fnOf "__init__" "Ring.__init__" (defArgs s_Ring___init__) (defBody s_Ring___init__) (defScope s_Ring___init__) .none kV5 dc5 pm5 an5 cd5 ct5), sl5⟩)
    (c5 : PySem.W.codeIn K cd5 "Ring.__init__" = true)
    (k5 : PySem.W.keepIn K (.ref f5) = true)
    (a6 : PySem.W.nsIn K mainGlobals "is_name" = some (some (.ref f6)))
    (l6 : K.lookup f6 = some ⟨oc6, od6, .func (PySem.W.fnOf "is_name" "is_name" (defArgs s_is_name) (defBody s_is_name) (defScope s_is_name) .none kV6 dc6 pm6 an6 cd6 ct6), sl6⟩)
    (c6 : PySem.W.codeIn K cd6 "is_name" = true)
    (k6 : PySem.W.keepIn K (.ref f6) = true)
    (a7 : PySem.W.nsIn K mainGlobals "check_names" = some (some (.ref f7)))
    (l7 : K.lookup f7 = some ⟨oc7, od7, .func (PySem.W.fnOf "check_names" "check_names" (defArgs s_check_names) (defBody s_check_names) (defScope s_check_names) .none kV7 dc7 pm7 an7 cd7 ct7), sl7⟩)
    (c7 : PySem.W.codeIn K cd7 "check_names" = true)
    (k7 : PySem.W.keepIn K (.ref f7) = true)
    (a8 : PySem.W.nsIn K mainGlobals "check_among" = some (some (.ref f8)))
    (l8 : K.lookup f8 = some ⟨oc8, od8, .func (PySem.W.fnOf "check_among" "check_among" (defArgs s_check_among) (defBody s_check_among) (defScope s_check_among) .none kV8 dc8 pm8 an8 cd8 ct8), sl8⟩)
    (c8 : PySem.W.codeIn K cd8 "check_among" = true)
    (k8 : PySem.W.keepIn K (.ref f8) = true)
    (a9 : PySem.W.nsIn K mainGlobals "_closure" = some (some (.ref f9)))
    (l9 : K.lookup f9 = some ⟨oc9, od9, .func (PySem.W.fnOf "_closure" "_closure" (defArgs s__closure) (defBody s__closure) (defScope s__closure) .none kV9 dc9 pm9 an9 cd9 ct9), sl9⟩)
    (c9 : PySem.W.codeIn K cd9 "_closure" = true)
    (k9 : PySem.W.keepIn K (.ref f9) = true)
    (a10 : PySem.W.findIn K (.ref CO) "pairs" = some (some (.ref f10)))
    (i10 : PySem.W.isFn K (.ref f10) = true)
    (l10 : K.lookup f10 = some ⟨oc10, od10, .func (PySem.W.fnOf "pairs" "Order.pairs" (defArgs s_Order_pairs) (defBody s_Order_pairs) (defScope s_Order_pairs) .none kV10 dc10 pm10 an10 cd10 ct10), sl10⟩)
    (c10 : PySem.W.codeIn K cd10 "Order.pairs" = true)
    (k10 : PySem.W.keepIn K (.ref f10) = true)
    (a11 : PySem.W.findIn K (.ref CO) "_between" = some (some (.ref f11)))
    (i11 : PySem.W.isFn K (.ref f11) = true)
    (l11 : K.lookup f11 = some ⟨oc11, od11, .func (PySem.W.fnOf "_between" "Order._between" (defArgs s_Order__between) (defBody s_Order__between) (defScope s_Order__between) .none kV11 dc11 pm11 an11 cd11 ct11), sl11⟩)
    (c11 : PySem.W.codeIn K cd11 "Order._between" = true)
    (k11 : PySem.W.keepIn K (.ref f11) = true)
    (a12 : PySem.W.findIn K (.ref CO) "covers" = some (some (.ref f12)))
    (i12 : PySem.W.isFn K (.ref f12) = true)
    (l12 : K.lookup f12 = some ⟨oc12, od12, .func (PySem.W.fnOf "covers" "Order.covers" (defArgs s_Order_covers) (defBody s_Order_covers) (defScope s_Order_covers) .none kV12 dc12 pm12 an12 cd12 ct12), sl12⟩)
    (c12 : PySem.W.codeIn K cd12 "Order.covers" = true)
    (k12 : PySem.W.keepIn K (.ref f12) = true)
    (a13 : PySem.W.findIn K (.ref CO) "below" = some (some (.ref f13)))
    (i13 : PySem.W.isFn K (.ref f13) = true)
    (l13 : K.lookup f13 = some ⟨oc13, od13, .func (PySem.W.fnOf "below" "Order.below" (defArgs s_Order_below) (defBody s_Order_below) (defScope s_Order_below) .none kV13 dc13 pm13 an13 cd13 ct13), sl13⟩)
    (c13 : PySem.W.codeIn K cd13 "Order.below" = true)
    (k13 : PySem.W.keepIn K (.ref f13) = true)
    (a14 : PySem.W.findIn K (.ref CO) "__init__" = some (some (.ref f14)))
    (i14 : PySem.W.isFn K (.ref f14) = true)
    (l14 : K.lookup f14 = some ⟨oc14, od14, .func (PySem.W.fnOf "__init__" "Order.__init__" (defArgs s_Order___init__) (defBody s_Order___init__) (defScope s_Order___init__) .none kV14 dc14 pm14 an14 cd14 ct14), sl14⟩)
    (c14 : PySem.W.codeIn K cd14 "Order.__init__" = true)
    (k14 : PySem.W.keepIn K (.ref f14) = true)
    (a15 : PySem.W.findIn K (.ref CO) "__contains__" = some (some (.ref f15)))
    (i15 : PySem.W.isFn K (.ref f15) = true)
    (l15 : K.lookup f15 = some ⟨oc15, od15, .func (PySem.W.fnOf "__contains__" "Order.__contains__" (defArgs s_Order___contains__) (defBody s_Order___contains__) (defScope s_Order___contains__) .none kV15 dc15 pm15 an15 cd15 ct15), sl15⟩)
    (c15 : PySem.W.codeIn K cd15 "Order.__contains__" = true)
    (k15 : PySem.W.keepIn K (.ref f15) = true)
    (a16 : PySem.W.findIn K (.ref CO) "__len__" = some (some (.ref f16)))
    (i16 : PySem.W.isFn K (.ref f16) = true)
    (l16 : K.lookup f16 = some ⟨oc16, od16, .func (PySem.W.fnOf "__len__" "Order.__len__" (defArgs s_Order___len__) (defBody s_Order___len__) (defScope s_Order___len__) .none kV16 dc16 pm16 an16 cd16 ct16), sl16⟩)
    (c16 : PySem.W.codeIn K cd16 "Order.__len__" = true)
    (k16 : PySem.W.keepIn K (.ref f16) = true)
    (a17 : PySem.W.findIn K (.ref CO) "__iter__" = some (some (.ref f17)))
    (i17 : PySem.W.isFn K (.ref f17) = true)
    (l17 : K.lookup f17 = some ⟨oc17, od17, .func (PySem.W.fnOf "__iter__" "Order.__iter__" (defArgs s_Order___iter__) (defBody s_Order___iter__) (defScope s_Order___iter__) .none kV17 dc17 pm17 an17 cd17 ct17), sl17⟩)
    (c17 : PySem.W.codeIn K cd17 "Order.__iter__" = true)
    (k17 : PySem.W.keepIn K (.ref f17) = true)
    (a18 : PySem.W.nsIn K mainGlobals "check_map" = some (some (.ref f18)))
    (l18 : K.lookup f18 = some ⟨oc18, od18, .func (PySem.W.fnOf "check_map" "check_map" (defArgs s_check_map) (defBody s_check_map) (defScope s_check_map) .none kV18 dc18 pm18 an18 cd18 ct18), sl18⟩)
    (c18 : PySem.W.codeIn K cd18 "check_map" = true)
    (k18 : PySem.W.keepIn K (.ref f18) = true)
    (a19 : PySem.W.nsIn K mainGlobals "broken_pair" = some (some (.ref f19)))
    (l19 : K.lookup f19 = some ⟨oc19, od19, .func (PySem.W.fnOf "broken_pair" "broken_pair" (defArgs s_broken_pair) (defBody s_broken_pair) (defScope s_broken_pair) .none kV19 dc19 pm19 an19 cd19 ct19), sl19⟩)
    (c19 : PySem.W.codeIn K cd19 "broken_pair" = true)
    (k19 : PySem.W.keepIn K (.ref f19) = true)
    (a20 : PySem.W.nsIn K mainGlobals "is_rising_map" = some (some (.ref f20)))
    (l20 : K.lookup f20 = some ⟨oc20, od20, .func (PySem.W.fnOf "is_rising_map" "is_rising_map" (defArgs s_is_rising_map) (defBody s_is_rising_map) (defScope s_is_rising_map) .none kV20 dc20 pm20 an20 cd20 ct20), sl20⟩)
    (c20 : PySem.W.codeIn K cd20 "is_rising_map" = true)
    (k20 : PySem.W.keepIn K (.ref f20) = true)
    (a21 : PySem.W.nsIn K mainGlobals "composed" = some (some (.ref f21)))
    (l21 : K.lookup f21 = some ⟨oc21, od21, .func (PySem.W.fnOf "composed" "composed" (defArgs s_composed) (defBody s_composed) (defScope s_composed) .none kV21 dc21 pm21 an21 cd21 ct21), sl21⟩)
    (c21 : PySem.W.codeIn K cd21 "composed" = true)
    (k21 : PySem.W.keepIn K (.ref f21) = true)
    (a22 : PySem.W.nsIn K mainGlobals "is_below_map" = some (some (.ref f22)))
    (l22 : K.lookup f22 = some ⟨oc22, od22, .func (PySem.W.fnOf "is_below_map" "is_below_map" (defArgs s_is_below_map) (defBody s_is_below_map) (defScope s_is_below_map) .none kV22 dc22 pm22 an22 cd22 ct22), sl22⟩)
    (c22 : PySem.W.codeIn K cd22 "is_below_map" = true)
    (k22 : PySem.W.keepIn K (.ref f22) = true)
    (a23 : PySem.W.nsIn K mainGlobals "image" = some (some (.ref f23)))
    (l23 : K.lookup f23 = some ⟨oc23, od23, .func (PySem.W.fnOf "image" "image" (defArgs s_image) (defBody s_image) (defScope s_image) .none kV23 dc23 pm23 an23 cd23 ct23), sl23⟩)
    (c23 : PySem.W.codeIn K cd23 "image" = true)
    (k23 : PySem.W.keepIn K (.ref f23) = true)
    (a24 : PySem.W.nsIn K mainGlobals "settled" = some (some (.ref f24)))
    (l24 : K.lookup f24 = some ⟨oc24, od24, .func (PySem.W.fnOf "settled" "settled" (defArgs s_settled) (defBody s_settled) (defScope s_settled) .none kV24 dc24 pm24 an24 cd24 ct24), sl24⟩)
    (c24 : PySem.W.codeIn K cd24 "settled" = true)
    (k24 : PySem.W.keepIn K (.ref f24) = true)
    (a25 : PySem.W.nsIn K mainGlobals "_law_pool" = some (some (.ref f25)))
    (l25 : K.lookup f25 = some ⟨oc25, od25, .func (PySem.W.fnOf "_law_pool" "_law_pool" (defArgs s__law_pool) (defBody s__law_pool) (defScope s__law_pool) .none kV25 dc25 pm25 an25 cd25 ct25), sl25⟩)
    (c25 : PySem.W.codeIn K cd25 "_law_pool" = true)
    (k25 : PySem.W.keepIn K (.ref f25) = true)
    (a26 : PySem.W.nsIn K mainGlobals "_law_take" = some (some (.ref f26)))
    (l26 : K.lookup f26 = some ⟨oc26, od26, .func (PySem.W.fnOf "_law_take" "_law_take" (defArgs s__law_take) (defBody s__law_take) (defScope s__law_take) .none kV26 dc26 pm26 an26 cd26 ct26), sl26⟩)
    (c26 : PySem.W.codeIn K cd26 "_law_take" = true)
    (k26 : PySem.W.keepIn K (.ref f26) = true)
    (a27 : PySem.W.nsIn K mainGlobals "_law_cell" = some (some (.ref f27)))
    (l27 : K.lookup f27 = some ⟨oc27, od27, .func (PySem.W.fnOf "_law_cell" "_law_cell" (defArgs s__law_cell) (defBody s__law_cell) (defScope s__law_cell) .none kV27 dc27 pm27 an27 cd27 ct27), sl27⟩)
    (c27 : PySem.W.codeIn K cd27 "_law_cell" = true)
    (k27 : PySem.W.keepIn K (.ref f27) = true)
    (a28 : PySem.W.nsIn K mainGlobals "_law_shuffled" = some (some (.ref f28)))
    (l28 : K.lookup f28 = some ⟨oc28, od28, .func (PySem.W.fnOf "_law_shuffled" "_law_shuffled" (defArgs s__law_shuffled) (defBody s__law_shuffled) (defScope s__law_shuffled) .none kV28 dc28 pm28 an28 cd28 ct28), sl28⟩)
    (c28 : PySem.W.codeIn K cd28 "_law_shuffled" = true)
    (k28 : PySem.W.keepIn K (.ref f28) = true)
    (a29 : PySem.W.nsIn K mainGlobals "_law_names" = some (some (.ref f29)))
    (l29 : K.lookup f29 = some ⟨oc29, od29, .func (PySem.W.fnOf "_law_names" "_law_names" (defArgs s__law_names) (defBody s__law_names) (defScope s__law_names) .none kV29 dc29 pm29 an29 cd29 ct29), sl29⟩)
    (c29 : PySem.W.codeIn K cd29 "_law_names" = true)
    (k29 : PySem.W.keepIn K (.ref f29) = true)
    (a30 : PySem.W.nsIn K mainGlobals "_law_order" = some (some (.ref f30)))
    (l30 : K.lookup f30 = some ⟨oc30, od30, .func (PySem.W.fnOf "_law_order" "_law_order" (defArgs s__law_order) (defBody s__law_order) (defScope s__law_order) .none kV30 dc30 pm30 an30 cd30 ct30), sl30⟩)
    (c30 : PySem.W.codeIn K cd30 "_law_order" = true)
    (k30 : PySem.W.keepIn K (.ref f30) = true)
    (a31 : PySem.W.nsIn K mainGlobals "_law_above" = some (some (.ref f31)))
    (l31 : K.lookup f31 = some ⟨oc31, od31, .func (PySem.W.fnOf "_law_above" "_law_above" (defArgs s__law_above) (defBody s__law_above) (defScope s__law_above) .none kV31 dc31 pm31 an31 cd31 ct31), sl31⟩)
    (c31 : PySem.W.codeIn K cd31 "_law_above" = true)
    (k31 : PySem.W.keepIn K (.ref f31) = true)
    (a32 : PySem.W.nsIn K mainGlobals "_law_covers" = some (some (.ref f32)))
    (l32 : K.lookup f32 = some ⟨oc32, od32, .func (PySem.W.fnOf "_law_covers" "_law_covers" (defArgs s__law_covers) (defBody s__law_covers) (defScope s__law_covers) .none kV32 dc32 pm32 an32 cd32 ct32), sl32⟩)
    (c32 : PySem.W.codeIn K cd32 "_law_covers" = true)
    (k32 : PySem.W.keepIn K (.ref f32) = true)
    (a33 : PySem.W.nsIn K mainGlobals "_law_fault" = some (some (.ref f33)))
    (l33 : K.lookup f33 = some ⟨oc33, od33, .func (PySem.W.fnOf "_law_fault" "_law_fault" (defArgs s__law_fault) (defBody s__law_fault) (defScope s__law_fault) .none kV33 dc33 pm33 an33 cd33 ct33), sl33⟩)
    (c33 : PySem.W.codeIn K cd33 "_law_fault" = true)
    (k33 : PySem.W.keepIn K (.ref f33) = true)
    (a34 : PySem.W.nsIn K mainGlobals "_law_map_due" = some (some (.ref f34)))
    (l34 : K.lookup f34 = some ⟨oc34, od34, .func (PySem.W.fnOf "_law_map_due" "_law_map_due" (defArgs s__law_map_due) (defBody s__law_map_due) (defScope s__law_map_due) .none kV34 dc34 pm34 an34 cd34 ct34), sl34⟩)
    (c34 : PySem.W.codeIn K cd34 "_law_map_due" = true)
    (k34 : PySem.W.keepIn K (.ref f34) = true)
    (a35 : PySem.W.nsIn K mainGlobals "_law_broken" = some (some (.ref f35)))
    (l35 : K.lookup f35 = some ⟨oc35, od35, .func (PySem.W.fnOf "_law_broken" "_law_broken" (defArgs s__law_broken) (defBody s__law_broken) (defScope s__law_broken) .none kV35 dc35 pm35 an35 cd35 ct35), sl35⟩)
    (c35 : PySem.W.codeIn K cd35 "_law_broken" = true)
    (k35 : PySem.W.keepIn K (.ref f35) = true)
    (a36 : PySem.W.nsIn K mainGlobals "_law_composed" = some (some (.ref f36)))
    (l36 : K.lookup f36 = some ⟨oc36, od36, .func (PySem.W.fnOf "_law_composed" "_law_composed" (defArgs s__law_composed) (defBody s__law_composed) (defScope s__law_composed) .none kV36 dc36 pm36 an36 cd36 ct36), sl36⟩)
    (c36 : PySem.W.codeIn K cd36 "_law_composed" = true)
    (k36 : PySem.W.keepIn K (.ref f36) = true)
    (a37 : PySem.W.nsIn K mainGlobals "_law_composed_due" = some (some (.ref f37)))
    (l37 : K.lookup f37 = some ⟨oc37, od37, .func (PySem.W.fnOf "_law_composed_due" "_law_composed_due" (defArgs s__law_composed_due) (defBody s__law_composed_due) (defScope s__law_composed_due) .none kV37 dc37 pm37 an37 cd37 ct37), sl37⟩)
    (c37 : PySem.W.codeIn K cd37 "_law_composed_due" = true)
    (k37 : PySem.W.keepIn K (.ref f37) = true)
    (a38 : PySem.W.nsIn K mainGlobals "_law_under" = some (some (.ref f38)))
    (l38 : K.lookup f38 = some ⟨oc38, od38, .func (PySem.W.fnOf "_law_under" "_law_under" (defArgs s__law_under) (defBody s__law_under) (defScope s__law_under) .none kV38 dc38 pm38 an38 cd38 ct38), sl38⟩)
    (c38 : PySem.W.codeIn K cd38 "_law_under" = true)
    (k38 : PySem.W.keepIn K (.ref f38) = true)
    (a39 : PySem.W.nsIn K mainGlobals "_law_under_due" = some (some (.ref f39)))
    (l39 : K.lookup f39 = some ⟨oc39, od39, .func (PySem.W.fnOf "_law_under_due" "_law_under_due" (defArgs s__law_under_due) (defBody s__law_under_due) (defScope s__law_under_due) .none kV39 dc39 pm39 an39 cd39 ct39), sl39⟩)
    (c39 : PySem.W.codeIn K cd39 "_law_under_due" = true)
    (k39 : PySem.W.keepIn K (.ref f39) = true)
    (a40 : PySem.W.nsIn K mainGlobals "_law_settled" = some (some (.ref f40)))
    (l40 : K.lookup f40 = some ⟨oc40, od40, .func (PySem.W.fnOf "_law_settled" "_law_settled" (defArgs s__law_settled) (defBody s__law_settled) (defScope s__law_settled) .none kV40 dc40 pm40 an40 cd40 ct40), sl40⟩)
    (c40 : PySem.W.codeIn K cd40 "_law_settled" = true)
    (k40 : PySem.W.keepIn K (.ref f40) = true)
    (a41 : PySem.W.nsIn K mainGlobals "_law_settled_due" = some (some (.ref f41)))
    (l41 : K.lookup f41 = some ⟨oc41, od41, .func (PySem.W.fnOf "_law_settled_due" "_law_settled_due" (defArgs s__law_settled_due) (defBody s__law_settled_due) (defScope s__law_settled_due) .none kV41 dc41 pm41 an41 cd41 ct41), sl41⟩)
    (c41 : PySem.W.codeIn K cd41 "_law_settled_due" = true)
    (k41 : PySem.W.keepIn K (.ref f41) = true)
    (a42 : PySem.W.nsIn K mainGlobals "_law_drawn" = some (some (.ref f42)))
    (l42 : K.lookup f42 = some ⟨oc42, od42, .func (PySem.W.fnOf "_law_drawn" "_law_drawn" (defArgs s__law_drawn) (defBody s__law_drawn) (defScope s__law_drawn) .none kV42 dc42 pm42 an42 cd42 ct42), sl42⟩)
    (c42 : PySem.W.codeIn K cd42 "_law_drawn" = true)
    (k42 : PySem.W.keepIn K (.ref f42) = true)
    (a43 : PySem.W.nsIn K mainGlobals "law" = some (some (.ref f43)))
    (l43 : K.lookup f43 = some ⟨oc43, od43, .func (PySem.W.fnOf "law" "law" (defArgs s_law) (defBody s_law) (defScope s_law) .none kV43 dc43 pm43 an43 cd43 ct43), sl43⟩)
    (c43 : PySem.W.codeIn K cd43 "law" = true)
    (k43 : PySem.W.keepIn K (.ref f43) = true)
    (z_abs : PySem.W.nsIn K mainGlobals "abs" = some none)
    (z_all : PySem.W.nsIn K mainGlobals "all" = some none)
    (z_any : PySem.W.nsIn K mainGlobals "any" = some none)
    (z_bool : PySem.W.nsIn K mainGlobals "bool" = some none)
    (z_dict : PySem.W.nsIn K mainGlobals "dict" = some none)
    (z_enumerate : PySem.W.nsIn K mainGlobals "enumerate" = some none)
    (z_int : PySem.W.nsIn K mainGlobals "int" = some none)
    (z_isinstance : PySem.W.nsIn K mainGlobals "isinstance" = some none)
    (z_iter : PySem.W.nsIn K mainGlobals "iter" = some none)
    (z_len : PySem.W.nsIn K mainGlobals "len" = some none)
    (z_list : PySem.W.nsIn K mainGlobals "list" = some none)
    (z_range : PySem.W.nsIn K mainGlobals "range" = some none)
    (z_set : PySem.W.nsIn K mainGlobals "set" = some none)
    (z_sorted : PySem.W.nsIn K mainGlobals "sorted" = some none)
    (z_str : PySem.W.nsIn K mainGlobals "str" = some none)
    (z_tuple : PySem.W.nsIn K mainGlobals "tuple" = some none)
    (z_zip : PySem.W.nsIn K mainGlobals "zip" = some none)
    (g_DIGITS : PySem.W.nsIn K mainGlobals "DIGITS" = some (some (.str "0123456789" tk_DIGITS)))
    (g_LETTERS : PySem.W.nsIn K mainGlobals "LETTERS" = some (some (.str "abcdefghijklmnopqrstuvwxyz" tk_LETTERS)))
    (g_MOST_NAMES : PySem.W.nsIn K mainGlobals "MOST_NAMES" = some (some (.int 8 tk_MOST_NAMES)))
    (g_MOST_SIGNS : PySem.W.nsIn K mainGlobals "MOST_SIGNS" = some (some (.int 8 tk_MOST_SIGNS)))
    (w_na_Order__above : PySem.W.findIn K (.ref CO) "_above" = some none)
    (w_na_Order_names : PySem.W.findIn K (.ref CO) "names" = some none)
    (w_xm_UnknownName_BadNumber : PySem.W.subIn K (.ref CU) (.ref CB) = some false)
    (w_xn_BadName_name : PySem.W.findIn K (.ref CN) "name" = some none)
    (w_xn_BadNumber_n : PySem.W.findIn K (.ref CB) "n" = some none)
    (w_xn_DuplicateName_name : PySem.W.findIn K (.ref CD) "name" = some none)
    (w_xn_Ring_names : PySem.W.findIn K (.ref CG) "names" = some none)
    (w_xn_UnknownName_name : PySem.W.findIn K (.ref CU) "name" = some none)
    : ∃ fd : FuncData, (∀ (s : Shared) (v : Value), BindsTo s fd ⟨[v], []⟩ [("_law_script", v)]) ∧ ∀ base : Heap, K.In base → base.Ns mainGlobals mg → FnOk P w K mg base (L2.CX P w) 7 fa fd ["_law_script"] (spLaw K) := by
  have e := hfa.symm.trans (PySem.W.mg_of X G a43)
  cases e
  have F0 := fun_mk (st := s__shown) l0 c0 k0
  have b0 := F0.binds (ps := ["n"]) fun _ _ _ _ _ _ us hl => match us, hl with | [_], _ => rfl
  have F1 := fun_mk (st := s_BadNumber___init__) l1 c1 k1
  have b1 := F1.binds (ps := ["self", "n"]) fun _ _ _ _ _ _ us hl => match us, hl with | [_, _], _ => rfl
  have F2 := fun_mk (st := s_BadName___init__) l2 c2 k2
  have b2 := F2.binds (ps := ["self", "name"]) fun _ _ _ _ _ _ us hl => match us, hl with | [_, _], _ => rfl
  have F3 := fun_mk (st := s_DuplicateName___init__) l3 c3 k3
  have b3 := F3.binds (ps := ["self", "name"]) fun _ _ _ _ _ _ us hl => match us, hl with | [_, _], _ => rfl
  have F4 := fun_mk (st := s_UnknownName___init__) l4 c4 k4
  have b4 := F4.binds (ps := ["self", "name"]) fun _ _ _ _ _ _ us hl => match us, hl with | [_, _], _ => rfl
  have F5 := fun_mk (st := s_Ring___init__) l5 c5 k5
  have b5 := F5.binds (ps := ["self", "names"]) fun _ _ _ _ _ _ us hl => match us, hl with | [_, _], _ => rfl
  have F6 := fun_mk (st := s_is_name) l6 c6 k6
  have b6 := F6.binds (ps := ["text"]) fun _ _ _ _ _ _ us hl => match us, hl with | [_], _ => rfl
  have F7 := fun_mk (st := s_check_names) l7 c7 k7
  have b7 := F7.binds (ps := ["names"]) fun _ _ _ _ _ _ us hl => match us, hl with | [_], _ => rfl
  have F8 := fun_mk (st := s_check_among) l8 c8 k8
  have b8 := F8.binds (ps := ["known", "names"]) fun _ _ _ _ _ _ us hl => match us, hl with | [_, _], _ => rfl
  have F9 := fun_mk (st := s__closure) l9 c9 k9
  have b9 := F9.binds (ps := ["names", "pairs"]) fun _ _ _ _ _ _ us hl => match us, hl with | [_, _], _ => rfl
  have F10 := fun_mk (st := s_Order_pairs) l10 c10 k10
  have b10 := F10.binds (ps := ["self"]) fun _ _ _ _ _ _ us hl => match us, hl with | [_], _ => rfl
  have F11 := fun_mk (st := s_Order__between) l11 c11 k11
  have b11 := F11.binds (ps := ["self", "low", "high"]) fun _ _ _ _ _ _ us hl => match us, hl with | [_, _, _], _ => rfl
  have F12 := fun_mk (st := s_Order_covers) l12 c12 k12
  have b12 := F12.binds (ps := ["self"]) fun _ _ _ _ _ _ us hl => match us, hl with | [_], _ => rfl
  have F13 := fun_mk (st := s_Order_below) l13 c13 k13
  have b13 := F13.binds (ps := ["self", "low", "high"]) fun _ _ _ _ _ _ us hl => match us, hl with | [_, _, _], _ => rfl
  have F14 := fun_mk (st := s_Order___init__) l14 c14 k14
  have b14 := F14.binds (ps := ["self", "names", "pairs"]) fun _ _ _ _ _ _ us hl => match us, hl with | [_, _, _], _ => rfl
  have F15 := fun_mk (st := s_Order___contains__) l15 c15 k15
  have b15 := F15.binds (ps := ["self", "name"]) fun _ _ _ _ _ _ us hl => match us, hl with | [_, _], _ => rfl
  have F16 := fun_mk (st := s_Order___len__) l16 c16 k16
  have b16 := F16.binds (ps := ["self"]) fun _ _ _ _ _ _ us hl => match us, hl with | [_], _ => rfl
  have F17 := fun_mk (st := s_Order___iter__) l17 c17 k17
  have b17 := F17.binds (ps := ["self"]) fun _ _ _ _ _ _ us hl => match us, hl with | [_], _ => rfl
  have F18 := fun_mk (st := s_check_map) l18 c18 k18
  have b18 := F18.binds (ps := ["beginnings", "standings", "names"]) fun _ _ _ _ _ _ us hl => match us, hl with | [_, _, _], _ => rfl
  have F19 := fun_mk (st := s_broken_pair) l19 c19 k19
  have b19 := F19.binds (ps := ["beginnings", "standings", "names"]) fun _ _ _ _ _ _ us hl => match us, hl with | [_, _, _], _ => rfl
  have F20 := fun_mk (st := s_is_rising_map) l20 c20 k20
  have b20 := F20.binds (ps := ["beginnings", "standings", "names"]) fun _ _ _ _ _ _ us hl => match us, hl with | [_, _, _], _ => rfl
  have F21 := fun_mk (st := s_composed) l21 c21 k21
  have b21 := F21.binds (ps := ["middle", "first", "second"]) fun _ _ _ _ _ _ us hl => match us, hl with | [_, _, _], _ => rfl
  have F22 := fun_mk (st := s_is_below_map) l22 c22 k22
  have b22 := F22.binds (ps := ["standings", "first", "second"]) fun _ _ _ _ _ _ us hl => match us, hl with | [_, _, _], _ => rfl
  have F23 := fun_mk (st := s_image) l23 c23 k23
  have b23 := F23.binds (ps := ["names"]) fun _ _ _ _ _ _ us hl => match us, hl with | [_], _ => rfl
  have F24 := fun_mk (st := s_settled) l24 c24 k24
  have b24 := F24.binds (ps := ["order", "names"]) fun _ _ _ _ _ _ us hl => match us, hl with | [_, _], _ => rfl
  have F25 := fun_mk (st := s__law_pool) l25 c25 k25
  have b25 := F25.binds (ps := ["_law_cell_here"]) fun _ _ _ _ _ _ us hl => match us, hl with | [_], _ => rfl
  have F26 := fun_mk (st := s__law_take) l26 c26 k26
  have b26 := F26.binds (ps := ["_law_pool_here", "_law_limit"]) fun _ _ _ _ _ _ us hl => match us, hl with | [_, _], _ => rfl
  have F27 := fun_mk (st := s__law_cell) l27 c27 k27
  have b27 := F27.binds (ps := ["_law_script", "_law_k"]) fun _ _ _ _ _ _ us hl => match us, hl with | [_, _], _ => rfl
  have F28 := fun_mk (st := s__law_shuffled) l28 c28 k28
  have b28 := F28.binds (ps := ["_law_pool_here", "_law_items"]) fun _ _ _ _ _ _ us hl => match us, hl with | [_, _], _ => rfl
  have F29 := fun_mk (st := s__law_names) l29 c29 k29
  have b29 := F29.binds (ps := ["_law_pool_here", "_law_many"]) fun _ _ _ _ _ _ us hl => match us, hl with | [_, _], _ => rfl
  have F30 := fun_mk (st := s__law_order) l30 c30 k30
  have b30 := F30.binds (ps := ["_law_pool_here", "_law_many"]) fun _ _ _ _ _ _ us hl => match us, hl with | [_, _], _ => rfl
  have F31 := fun_mk (st := s__law_above) l31 c31 k31
  have b31 := F31.binds (ps := ["_law_order_here"]) fun _ _ _ _ _ _ us hl => match us, hl with | [_], _ => rfl
  have F32 := fun_mk (st := s__law_covers) l32 c32 k32
  have b32 := F32.binds (ps := ["_law_order_here"]) fun _ _ _ _ _ _ us hl => match us, hl with | [_], _ => rfl
  have F33 := fun_mk (st := s__law_fault) l33 c33 k33
  have b33 := F33.binds (ps := ["_law_first", "_law_second", "_law_names_here"]) fun _ _ _ _ _ _ us hl => match us, hl with | [_, _, _], _ => rfl
  have F34 := fun_mk (st := s__law_map_due) l34 c34 k34
  have b34 := F34.binds (ps := ["_law_first", "_law_second", "_law_names_here"]) fun _ _ _ _ _ _ us hl => match us, hl with | [_, _, _], _ => rfl
  have F35 := fun_mk (st := s__law_broken) l35 c35 k35
  have b35 := F35.binds (ps := ["_law_begins", "_law_stands", "_law_names_here"]) fun _ _ _ _ _ _ us hl => match us, hl with | [_, _, _], _ => rfl
  have F36 := fun_mk (st := s__law_composed) l36 c36 k36
  have b36 := F36.binds (ps := ["_law_middle", "_law_one", "_law_other"]) fun _ _ _ _ _ _ us hl => match us, hl with | [_, _, _], _ => rfl
  have F37 := fun_mk (st := s__law_composed_due) l37 c37 k37
  have b37 := F37.binds (ps := ["_law_second", "_law_one", "_law_other"]) fun _ _ _ _ _ _ us hl => match us, hl with | [_, _, _], _ => rfl
  have F38 := fun_mk (st := s__law_under) l38 c38 k38
  have b38 := F38.binds (ps := ["_law_stands", "_law_one", "_law_other"]) fun _ _ _ _ _ _ us hl => match us, hl with | [_, _, _], _ => rfl
  have F39 := fun_mk (st := s__law_under_due) l39 c39 k39
  have b39 := F39.binds (ps := ["_law_second", "_law_one", "_law_other"]) fun _ _ _ _ _ _ us hl => match us, hl with | [_, _, _], _ => rfl
  have F40 := fun_mk (st := s__law_settled) l40 c40 k40
  have b40 := F40.binds (ps := ["_law_order_here", "_law_names_here"]) fun _ _ _ _ _ _ us hl => match us, hl with | [_, _], _ => rfl
  have F41 := fun_mk (st := s__law_settled_due) l41 c41 k41
  have b41 := F41.binds (ps := ["_law_second", "_law_names_here"]) fun _ _ _ _ _ _ us hl => match us, hl with | [_, _], _ => rfl
  have F42 := fun_mk (st := s__law_drawn) l42 c42 k42
  have b42 := F42.binds (ps := ["_law_pool_here", "_law_many", "_law_second"]) fun _ _ _ _ _ _ us hl => match us, hl with | [_, _, _], _ => rfl
  have F43 := fun_mk (st := s_law) l43 c43 k43
  refine ⟨PySem.W.fnOf "law" "law" (defArgs s_law) (defBody s_law) (defScope s_law) .none kV43 dc43 pm43 an43 cd43 ct43, fun s v => .of_eq rfl, fun base _ _ => ?_⟩
  have C_b_abs := PySem.W.mg_none_of X G z_abs
  have C_b_all := PySem.W.mg_none_of X G z_all
  have C_b_any := PySem.W.mg_none_of X G z_any
  have C_b_bool := PySem.W.mg_none_of X G z_bool
  have C_b_dict := PySem.W.mg_none_of X G z_dict
  have C_b_enumerate := PySem.W.mg_none_of X G z_enumerate
  have C_b_int := PySem.W.mg_none_of X G z_int
  have C_b_isinstance := PySem.W.mg_none_of X G z_isinstance
  have C_b_iter := PySem.W.mg_none_of X G z_iter
  have C_b_len := PySem.W.mg_none_of X G z_len
  have C_b_list := PySem.W.mg_none_of X G z_list
  have C_b_range := PySem.W.mg_none_of X G z_range
  have C_b_set := PySem.W.mg_none_of X G z_set
  have C_b_sorted := PySem.W.mg_none_of X G z_sorted
  have C_b_str := PySem.W.mg_none_of X G z_str
  have C_b_tuple := PySem.W.mg_none_of X G z_tuple
  have C_b_zip := PySem.W.mg_none_of X G z_zip
  have C_c_Order : ClO K CO := ⟨⟨pg_Order, hd_Order, po_Order, sa_Order⟩, ha_Order, hn, htk, hm_Order⟩
  have C_gBadNumber := PySem.W.mg_of X G aC_BadNumber
  have C_gUnknownName := PySem.W.mg_of X G aC_UnknownName
  have C_n_DIGITS := PySem.W.mg_of X G g_DIGITS
  have C_n_LETTERS := PySem.W.mg_of X G g_LETTERS
  have C_n_MOST_NAMES := PySem.W.mg_of X G g_MOST_NAMES
  have C_n_MOST_SIGNS := PySem.W.mg_of X G g_MOST_SIGNS
  have C_na_Order__above : NoAttr K CO "_above" := w_na_Order__above
  have C_na_Order_names : NoAttr K CO "names" := w_na_Order_names
  have C_ox_BadName : OexC K CN := ⟨⟨_, _, _, _, _, _, _, _, _, _, _, _, _, _, _, xL_BadName, refs_ve _⟩, sa_BadName, eC_BadName, tC_BadName, kC_BadName⟩
  have C_ox_BadNumber : OexC K CB := ⟨⟨_, _, _, _, _, _, _, _, _, _, _, _, _, _, _, xL_BadNumber, refs_ve _⟩, sa_BadNumber, eC_BadNumber, tC_BadNumber, kC_BadNumber⟩
  have C_ox_DuplicateName : OexC K CD := ⟨⟨_, _, _, _, _, _, _, _, _, _, _, _, _, _, _, xL_DuplicateName, refs_ve _⟩, sa_DuplicateName, eC_DuplicateName, tC_DuplicateName, kC_DuplicateName⟩
  have C_ox_Ring : OexC K CG := ⟨⟨_, _, _, _, _, _, _, _, _, _, _, _, _, _, _, xL_Ring, refs_ve _⟩, sa_Ring, eC_Ring, tC_Ring, kC_Ring⟩
  have C_ox_UnknownName : OexC K CU := ⟨⟨_, _, _, _, _, _, _, _, _, _, _, _, _, _, _, xL_UnknownName, refs_ve _⟩, sa_UnknownName, eC_UnknownName, tC_UnknownName, kC_UnknownName⟩
  have C_t_ThrowError : CalT K mg "ThrowError" := mk_calT X G aC_ThrowError ⟨rd_ThrowError, rg_ThrowError⟩ rv_ThrowError
  have C_xf_BadNumber : XfC K CB := ⟨ga_BadNumber, gg_BadNumber, eC_BadNumber, hC_BadNumber⟩
  have C_xf_Ring : XfC K CG := ⟨ga_Ring, gg_Ring, eC_Ring, hC_Ring⟩
  have C_xf_UnknownName : XfC K CU := ⟨ga_UnknownName, gg_UnknownName, eC_UnknownName, hC_UnknownName⟩
  have C_xm_BadNumber : PySem.W.exmOne K (.ref CB) (.ref CB) = some true := exm_in eC_BadNumber iC_BadNumber tC_BadNumber sC_BadNumber
  have C_xm_UnknownName : PySem.W.exmOne K (.ref CU) (.ref CU) = some true := exm_in eC_UnknownName iC_UnknownName tC_UnknownName sC_UnknownName
  have C_xm_UnknownName_BadNumber : PySem.W.exmOne K (.ref CU) (.ref CB) = some false := exm_in eC_BadNumber iC_BadNumber tC_BadNumber w_xm_UnknownName_BadNumber
  have C_xn_BadName_name : PySem.W.findIn K (.ref CN) "name" = some none := w_xn_BadName_name
  have C_xn_BadNumber_n : PySem.W.findIn K (.ref CB) "n" = some none := w_xn_BadNumber_n
  have C_xn_DuplicateName_name : PySem.W.findIn K (.ref CD) "name" = some none := w_xn_DuplicateName_name
  have C_xn_Ring_names : PySem.W.findIn K (.ref CG) "names" = some none := w_xn_Ring_names
  have C_xn_UnknownName_name : PySem.W.findIn K (.ref CU) "name" = some none := w_xn_UnknownName_name
  have G__shown : FnOk P w K mg base (L2.CX P w) 1 f0 _ _ spShown := ok__shown F0 C_b_int C_b_isinstance C_b_str
  have C_f_shown : Cal P w K mg base "_shown" 1 spShown := mk_cal X G a0 k0 G__shown b0
  have G_BadName___init__ : FnOk P w K mg base (L2.CX P w) 1 f2 _ _ (spX1 K CN "name" GStW) := ok_BadName___init__ F2 C_ox_BadName C_t_ThrowError C_xn_BadName_name
  have C_x_BadName : CalX P w K mg base "BadName" CN 1 ["self", "name"] (spX1 K CN "name" GStW) := mk_calX X G aC_BadName C_ox_BadName a2 t2 G_BadName___init__ b2
  have G_DuplicateName___init__ : FnOk P w K mg base (L2.CX P w) 1 f3 _ _ (spX1 K CD "name" GStW) := ok_DuplicateName___init__ F3 C_ox_DuplicateName C_t_ThrowError C_xn_DuplicateName_name
  have C_x_DuplicateName : CalX P w K mg base "DuplicateName" CD 1 ["self", "name"] (spX1 K CD "name" GStW) := mk_calX X G aC_DuplicateName C_ox_DuplicateName a3 t3 G_DuplicateName___init__ b3
  have G_UnknownName___init__ : FnOk P w K mg base (L2.CX P w) 1 f4 _ _ (spX1 K CU "name" GStW) := ok_UnknownName___init__ F4 C_ox_UnknownName C_t_ThrowError C_xn_UnknownName_name
  have C_x_UnknownName : CalX P w K mg base "UnknownName" CU 1 ["self", "name"] (spX1 K CU "name" GStW) := mk_calX X G aC_UnknownName C_ox_UnknownName a4 t4 G_UnknownName___init__ b4
  have G_Ring___init__ : FnOk P w K mg base (L2.CX P w) 1 f5 _ _ (spXR K CG) := ok_Ring___init__ F5 C_b_list C_ox_Ring C_t_ThrowError C_xf_Ring C_xn_Ring_names
  have C_x_Ring : CalX P w K mg base "Ring" CG 1 ["self", "names"] (spXR K CG) := mk_calX X G aC_Ring C_ox_Ring a5 t5 G_Ring___init__ b5
  have G_is_name : FnOk P w K mg base (L2.CX P w) 1 f6 _ _ spIsName := ok_is_name F6 C_b_all C_b_len C_n_DIGITS C_n_LETTERS C_n_MOST_SIGNS
  have C_f_is_name : Cal P w K mg base "is_name" 1 spIsName := mk_cal X G a6 k6 G_is_name b6
  have G__closure : FnOk P w K mg base (L2.CX P w) 1 f9 _ _ (spClosure K) := ok__closure F9 C_b_sorted C_b_tuple
  have C_f_closure : Cal P w K mg base "_closure" 1 (spClosure K) := mk_cal X G a9 k9 G__closure b9
  have G_Order_pairs : FnOk P w K mg base (L2.CX P w) 1 f10 _ _ (spPairs CO) := ok_Order_pairs F10 C_c_Order C_na_Order__above C_na_Order_names
  have C_m_Order_pairs : CalM P w K mg base CO "pairs" 1 (spPairs CO) := mk_calM ⟨a10, i10, k10⟩ G_Order_pairs b10
  have G_Order__between : FnOk P w K mg base (L2.CX P w) 1 f11 _ _ (spBtw CO) := ok_Order__between F11 C_c_Order C_na_Order__above C_na_Order_names
  have C_m_Order__between : CalM P w K mg base CO "_between" 1 (spBtw CO) := mk_calM ⟨a11, i11, k11⟩ G_Order__between b11
  have G_Order___contains__ : FnOk P w K mg base (L2.CX P w) 1 f15 _ _ (spOIn CO) := ok_Order___contains__ F15 C_c_Order C_na_Order__above C_na_Order_names
  have C_o_Order_contains : CalO P w K mg base CO "__contains__" 1 (spOIn CO) := mk_calO a15 i15 sf_Order G_Order___contains__ b15
  have G_Order___len__ : FnOk P w K mg base (L2.CX P w) 1 f16 _ _ (spOLen CO) := ok_Order___len__ F16 C_b_len C_c_Order C_na_Order__above C_na_Order_names
  have C_o_Order_len : CalO P w K mg base CO "__len__" 1 (spOLen CO) := mk_calO a16 i16 sf_Order G_Order___len__ b16
  have C_it_Order : ItO P w K mg base CO 1 (spOIterT CO) := ⟨_, ⟨a17, i17⟩, okT_Order___iter__ F17 C_b_iter C_c_Order C_na_Order__above C_na_Order_names b17⟩
  have G_image : FnOk P w K mg base (L2.CX P w) 1 f23 _ _ (spImg K) := ok_image F23 C_b_set C_b_sorted
  have C_f_image : Cal P w K mg base "image" 1 (spImg K) := mk_cal X G a23 k23 G_image b23
  have G__law_pool : FnOk P w K mg base (L2.CX P w) 1 f25 _ _ spPoolN := ok__law_pool F25 C_b_abs
  have C_f_law_pool : Cal P w K mg base "_law_pool" 1 spPoolN := mk_cal X G a25 k25 G__law_pool b25
  have G__law_take : FnOk P w K mg base (L2.CX P w) 1 f26 _ _ spTakeN := ok__law_take F26 C_b_int
  have C_f_law_take : Cal P w K mg base "_law_take" 1 spTakeN := mk_cal X G a26 k26 G__law_take b26
  have G__law_cell : FnOk P w K mg base (L2.CX P w) 1 f27 _ _ (spCell K) := ok__law_cell F27 C_b_len
  have C_f_law_cell : Cal P w K mg base "_law_cell" 1 (spCell K) := mk_cal X G a27 k27 G__law_cell b27
  have G__law_above : FnOk P w K mg base (L2.CX P w) 1 f31 _ _ (spAbv K) := ok__law_above F31 C_b_dict C_b_len C_b_range
  have C_f_law_above : Cal P w K mg base "_law_above" 1 (spAbv K) := mk_cal X G a31 k31 G__law_above b31
  have G__law_composed_due : FnOk P w K mg base (L2.CX P w) 1 f37 _ _ (spCmpD K) := ok__law_composed_due F37 C_b_len C_b_tuple
  have C_f_law_composed_due : Cal P w K mg base "_law_composed_due" 1 (spCmpD K) := mk_cal X G a37 k37 G__law_composed_due b37
  have G_BadNumber___init__ : FnOk P w K mg base (L2.CX P w) 2 f1 _ _ (spX1 K CB "n" GInt) := ok_BadNumber___init__ F1 C_f_shown C_ox_BadNumber C_t_ThrowError C_xn_BadNumber_n
  have C_x_BadNumber : CalX P w K mg base "BadNumber" CB 2 ["self", "n"] (spX1 K CB "n" GInt) := mk_calX X G aC_BadNumber C_ox_BadNumber a1 t1 G_BadNumber___init__ b1
  have G_Order_covers : FnOk P w K mg base (L2.CX P w) 2 f12 _ _ (spCovers CO) := ok_Order_covers F12 C_b_len C_c_Order C_m_Order__between C_m_Order_pairs C_na_Order__above C_na_Order_names
  have C_m_Order_covers : CalM P w K mg base CO "covers" 2 (spCovers CO) := mk_calM ⟨a12, i12, k12⟩ G_Order_covers b12
  have G__law_shuffled : FnOk P w K mg base (L2.CX P w) 2 f28 _ _ (spShuf K) := ok__law_shuffled F28 C_b_len C_b_list C_b_range C_f_law_take
  have C_f_law_shuffled : Cal P w K mg base "_law_shuffled" 2 (spShuf K) := mk_cal X G a28 k28 G__law_shuffled b28
  have G__law_covers : FnOk P w K mg base (L2.CX P w) 2 f32 _ _ (spCov K) := ok__law_covers F32 C_b_sorted C_f_law_above
  have C_f_law_covers : Cal P w K mg base "_law_covers" 2 (spCov K) := mk_cal X G a32 k32 G__law_covers b32
  have G__law_under_due : FnOk P w K mg base (L2.CX P w) 2 f39 _ _ (spUndD K) := ok__law_under_due F39 C_b_len C_b_range C_f_law_above
  have C_f_law_under_due : Cal P w K mg base "_law_under_due" 2 (spUndD K) := mk_cal X G a39 k39 G__law_under_due b39
  have G__law_drawn : FnOk P w K mg base (L2.CX P w) 2 f42 _ _ (spDrawn K) := ok__law_drawn F42 C_b_len C_b_range C_b_sorted C_f_law_take
  have C_f_law_drawn : Cal P w K mg base "_law_drawn" 2 (spDrawn K) := mk_cal X G a42 k42 G__law_drawn b42
  have G_check_names : FnOk P w K mg base (L2.CX P w) 3 f7 _ _ (spCheckG K CN CD) := ok_check_names F7 C_b_enumerate C_f_is_name C_x_BadName C_x_DuplicateName
  have C_f_check_names : Cal P w K mg base "check_names" 3 (spCheckG K CN CD) := mk_cal X G a7 k7 G_check_names b7
  have G_check_among : FnOk P w K mg base (L2.CX P w) 3 f8 _ _ (spAmW K CU) := ok_check_among F8 C_x_UnknownName
  have C_f_check_among : Cal P w K mg base "check_among" 3 (spAmW K CU) := mk_cal X G a8 k8 G_check_among b8
  have G_check_among__O : FnOk P w K mg base (L2.CX P w) 3 f8 _ _ (spAmO K CO CU) := ok_check_among__O F8 C_o_Order_contains C_x_UnknownName
  have C_f_check_among__O : Cal P w K mg base "check_among" 3 (spAmO K CO CU) := mk_cal X G a8 k8 G_check_among__O b8
  have G__law_names : FnOk P w K mg base (L2.CX P w) 3 f29 _ _ (spNames K) := ok__law_names F29 C_f_law_shuffled C_f_law_take
  have C_f_law_names : Cal P w K mg base "_law_names" 3 (spNames K) := mk_cal X G a29 k29 G__law_names b29
  have G__law_fault : FnOk P w K mg base (L2.CX P w) 3 f33 _ _ (spFault K) := ok__law_fault F33 C_b_dict C_b_len C_b_range C_f_law_above C_f_law_covers
  have C_f_law_fault : Cal P w K mg base "_law_fault" 3 (spFault K) := mk_cal X G a33 k33 G__law_fault b33
  have G_Order_below : FnOk P w K mg base (L2.CX P w) 4 f13 _ _ (spBelowW CO CU) := ok_Order_below F13 C_c_Order C_f_check_among C_na_Order__above C_na_Order_names
  have C_m_Order_below : CalM P w K mg base CO "below" 4 (spBelowW CO CU) := mk_calM ⟨a13, i13, k13⟩ G_Order_below b13
  have G_Order___init__ : FnOk P w K mg base (L2.CX P w) 4 f14 _ _ (spOInitG K CO CB CN CD CU CG) := ok_Order___init__ F14 C_b_any C_b_len C_b_sorted C_b_tuple C_c_Order C_f_check_among C_f_check_names C_f_closure C_m_Order_pairs C_n_MOST_NAMES C_na_Order__above C_na_Order_names C_x_BadNumber C_x_Ring
  have C_i_Order : CalI P w K mg base "Order" CO 4 (spOInitG K CO CB CN CD CU CG) := mk_calI X G aC_Order ⟨mk_Order, a14, i14, kc_Order⟩ G_Order___init__ b14
  have G_check_map : FnOk P w K mg base (L2.CX P w) 4 f18 _ _ (spCMap K CO CB CU) := ok_check_map F18 C_b_len C_f_check_among__O C_o_Order_len C_x_BadNumber
  have C_f_check_map : Cal P w K mg base "check_map" 4 (spCMap K CO CB CU) := mk_cal X G a18 k18 G_check_map b18
  have G_composed : FnOk P w K mg base (L2.CX P w) 4 f21 _ _ (spCmp K CO CB CU) := ok_composed F21 C_b_dict C_b_len C_b_tuple C_b_zip C_f_check_among__O C_it_Order C_o_Order_len C_x_BadNumber
  have C_f_composed : Cal P w K mg base "composed" 4 (spCmp K CO CB CU) := mk_cal X G a21 k21 G_composed b21
  have G__law_order : FnOk P w K mg base (L2.CX P w) 4 f30 _ _ (spOrd K) := ok__law_order F30 C_b_range C_b_sorted C_f_law_names C_f_law_take
  have C_f_law_order : Cal P w K mg base "_law_order" 4 (spOrd K) := mk_cal X G a30 k30 G__law_order b30
  have G__law_map_due : FnOk P w K mg base (L2.CX P w) 4 f34 _ _ (spMapD K) := ok__law_map_due F34 C_b_len C_f_law_fault
  have C_f_law_map_due : Cal P w K mg base "_law_map_due" 4 (spMapD K) := mk_cal X G a34 k34 G__law_map_due b34
  have G_broken_pair : FnOk P w K mg base (L2.CX P w) 5 f19 _ _ (spBrk K CO CB CU) := ok_broken_pair F19 C_b_dict C_b_zip C_c_Order C_f_check_map C_it_Order C_m_Order_below C_m_Order_covers
  have C_f_broken_pair : Cal P w K mg base "broken_pair" 5 (spBrk K CO CB CU) := mk_cal X G a19 k19 G_broken_pair b19
  have G_is_below_map : FnOk P w K mg base (L2.CX P w) 5 f22 _ _ (spUnd K CO CB CU) := ok_is_below_map F22 C_b_all C_b_len C_b_zip C_c_Order C_m_Order_below C_x_BadNumber
  have C_f_is_below_map : Cal P w K mg base "is_below_map" 5 (spUnd K CO CB CU) := mk_cal X G a22 k22 G_is_below_map b22
  have G_settled : FnOk P w K mg base (L2.CX P w) 5 f24 _ _ (spSet K CO CB CU) := ok_settled F24 C_b_zip C_f_check_map C_it_Order
  have C_f_settled : Cal P w K mg base "settled" 5 (spSet K CO CB CU) := mk_cal X G a24 k24 G_settled b24
  have G__law_composed : FnOk P w K mg base (L2.CX P w) 5 f36 _ _ (spLCmp K CO) := ok__law_composed F36 C_f_composed C_gBadNumber C_gUnknownName C_xf_BadNumber C_xf_UnknownName C_xm_BadNumber C_xm_UnknownName C_xm_UnknownName_BadNumber C_xn_BadNumber_n C_xn_UnknownName_name
  have C_f_law_composed : Cal P w K mg base "_law_composed" 5 (spLCmp K CO) := mk_cal X G a36 k36 G__law_composed b36
  have G__law_settled_due : FnOk P w K mg base (L2.CX P w) 5 f41 _ _ (spSetD K) := ok__law_settled_due F41 C_b_len C_b_range C_f_law_map_due
  have C_f_law_settled_due : Cal P w K mg base "_law_settled_due" 5 (spSetD K) := mk_cal X G a41 k41 G__law_settled_due b41
  have G_is_rising_map : FnOk P w K mg base (L2.CX P w) 6 f20 _ _ (spRis K CO) := ok_is_rising_map F20 C_b_all C_b_len C_f_broken_pair C_o_Order_contains C_o_Order_len
  have C_f_is_rising_map : Cal P w K mg base "is_rising_map" 6 (spRis K CO) := mk_cal X G a20 k20 G_is_rising_map b20
  have G__law_broken : FnOk P w K mg base (L2.CX P w) 6 f35 _ _ (spLBrk K CO) := ok__law_broken F35 C_f_broken_pair C_gBadNumber C_gUnknownName C_xf_BadNumber C_xf_UnknownName C_xm_BadNumber C_xm_UnknownName C_xm_UnknownName_BadNumber C_xn_BadNumber_n C_xn_UnknownName_name
  have C_f_law_broken : Cal P w K mg base "_law_broken" 6 (spLBrk K CO) := mk_cal X G a35 k35 G__law_broken b35
  have G__law_under : FnOk P w K mg base (L2.CX P w) 6 f38 _ _ (spLUnd K CO) := ok__law_under F38 C_f_is_below_map C_gBadNumber C_gUnknownName C_xf_BadNumber C_xf_UnknownName C_xm_BadNumber C_xm_UnknownName C_xm_UnknownName_BadNumber C_xn_BadNumber_n C_xn_UnknownName_name
  have C_f_law_under : Cal P w K mg base "_law_under" 6 (spLUnd K CO) := mk_cal X G a38 k38 G__law_under b38
  have G__law_settled : FnOk P w K mg base (L2.CX P w) 6 f40 _ _ (spLSet K CO) := ok__law_settled F40 C_f_settled C_gBadNumber C_gUnknownName C_xf_BadNumber C_xf_UnknownName C_xm_BadNumber C_xm_UnknownName C_xm_UnknownName_BadNumber C_xn_BadNumber_n C_xn_UnknownName_name
  have C_f_law_settled : Cal P w K mg base "_law_settled" 6 (spLSet K CO) := mk_cal X G a40 k40 G__law_settled b40
  exact ok_law F43 C_b_bool C_b_isinstance C_b_len C_b_list C_b_range C_b_sorted C_b_tuple C_f_image C_f_is_rising_map C_f_law_broken C_f_law_cell C_f_law_composed C_f_law_composed_due C_f_law_drawn C_f_law_map_due C_f_law_order C_f_law_pool C_f_law_settled C_f_law_settled_due C_f_law_take C_f_law_under C_f_law_under_due C_i_Order
theorem walk {l : PySem.W.OpenLaw} {q : Program} {loose : List Str} {XP : (Str → Option Value) → Heap → Prop} {YP : World → Heap → Prop} {d : DefRec} {K : Params → PySem.W.Frag} (hn : l.most = some 63) (hdf : d.params.defaults = [])
    (hY : ∀ (w : World) (h : Heap), YP w h → (K w.params).In h)
    (F : ∀ (w : World) (mg : Str → Option Value) (fa : Addr) (h : Heap), (K w.params).In h → h.Ns mainGlobals mg → mg d.name = some (.ref fa) →
      ∃ fd : FuncData, (∀ (s : Shared) (u : Value), BindsTo s fd ⟨[u], []⟩ [("_law_script", u)]) ∧ ∀ base : Heap, (K w.params).In base → base.Ns mainGlobals mg → FnOk l.prog w (K w.params) mg base (L2.CX l.prog w) 7 fa fd ["_law_script"] (spLaw (K w.params))) :
    PySem.W.WalkO q loose XP YP l.row.toRowW d [] (fun f vs => PySem.call f vs) :=
  L2.walk_of (n := 63) (k := 7) (x := "_law_script") (CX := fun w => L2.CX l.prog w) (sp := fun w => spLaw (K w.params)) hn (by decide) hdf ⟨rfl, by decide, by decide⟩ hY F (fun _ _ a ns hl _ hS => mk_law hS hl) fun _ _ _ _ _ z => cxN z
end Z

open PySem PySem.W PyProof.Rows in
set_option maxRecDepth 100000 in
set_option maxHeartbeats 0 in
theorem PySem.Challenge.cw_onethrow_k36_maps_judged_holds : PySem.Challenge.rw_onethrow_k36_maps_judged.Holds := by
  w_on; o_law; k_head; (case hw => w_witness2)
  k_fill
  refine Z.walk (l := PySem.Challenge.rw_onethrow_k36_maps_judged) rfl rfl (fun w h Y => PySem.W.kIn_of Y) ?F
  case F =>
    intro w mg fa h KX G hmg
    refine' Z.all_mk KX G hmg ?aC_Order ?aC_BadNumber ?aC_BadName ?aC_DuplicateName ?aC_UnknownName ?aC_Ring ?aC_ThrowError ?pg_Order ?hd_Order ?po_Order ?sa_Order ?ha_Order ?hm_Order ?mk_Order ?kc_Order ?sf_Order ?iC_Order ?tC_Order ?hn ?htk ?xL_BadNumber ?sa_BadNumber ?ga_BadNumber ?gg_BadNumber ?kC_BadNumber ?eC_BadNumber ?tC_BadNumber ?hC_BadNumber ?iC_BadNumber ?sC_BadNumber ?xL_BadName ?sa_BadName ?ga_BadName ?gg_BadName ?kC_BadName ?eC_BadName ?tC_BadName ?hC_BadName ?iC_BadName ?sC_BadName ?xL_DuplicateName ?sa_DuplicateName ?ga_DuplicateName ?gg_DuplicateName ?kC_DuplicateName ?eC_DuplicateName ?tC_DuplicateName ?hC_DuplicateName ?iC_DuplicateName ?sC_DuplicateName ?xL_UnknownName ?sa_UnknownName ?ga_UnknownName ?gg_UnknownName ?kC_UnknownName ?eC_UnknownName ?tC_UnknownName ?hC_UnknownName ?iC_UnknownName ?sC_UnknownName ?xL_Ring ?sa_Ring ?ga_Ring ?gg_Ring ?kC_Ring ?eC_Ring ?tC_Ring ?hC_Ring ?iC_Ring ?sC_Ring ?rd_ThrowError ?rg_ThrowError ?rv_ThrowError ?a0 ?l0 ?c0 ?k0 ?a1 ?t1 ?l1 ?c1 ?k1 ?a2 ?t2 ?l2 ?c2 ?k2 ?a3 ?t3 ?l3 ?c3 ?k3 ?a4 ?t4 ?l4 ?c4 ?k4 ?a5 ?t5 ?l5 ?c5 ?k5 ?a6 ?l6 ?c6 ?k6 ?a7 ?l7 ?c7 ?k7 ?a8 ?l8 ?c8 ?k8 ?a9 ?l9 ?c9 ?k9 ?a10 ?i10 ?l10 ?c10 ?k10 ?a11 ?i11 ?l11 ?c11 ?k11 ?a12 ?i12 ?l12 ?c12 ?k12 ?a13 ?i13 ?l13 ?c13 ?k13 ?a14 ?i14 ?l14 ?c14 ?k14 ?a15 ?i15 ?l15 ?c15 ?k15 ?a16 ?i16 ?l16 ?c16 ?k16 ?a17 ?i17 ?l17 ?c17 ?k17 ?a18 ?l18 ?c18 ?k18 ?a19 ?l19 ?c19 ?k19 ?a20 ?l20 ?c20 ?k20 ?a21 ?l21 ?c21 ?k21 ?a22 ?l22 ?c22 ?k22 ?a23 ?l23 ?c23 ?k23 ?a24 ?l24 ?c24 ?k24 ?a25 ?l25 ?c25 ?k25 ?a26 ?l26 ?c26 ?k26 ?a27 ?l27 ?c27 ?k27 ?a28 ?l28 ?c28 ?k28 ?a29 ?l29 ?c29 ?k29 ?a30 ?l30 ?c30 ?k30 ?a31 ?l31 ?c31 ?k31 ?a32 ?l32 ?c32 ?k32 ?a33 ?l33 ?c33 ?k33 ?a34 ?l34 ?c34 ?k34 ?a35 ?l35 ?c35 ?k35 ?a36 ?l36 ?c36 ?k36 ?a37 ?l37 ?c37 ?k37 ?a38 ?l38 ?c38 ?k38 ?a39 ?l39 ?c39 ?k39 ?a40 ?l40 ?c40 ?k40 ?a41 ?l41 ?c41 ?k41 ?a42 ?l42 ?c42 ?k42 ?a43 ?l43 ?c43 ?k43 ?z_abs ?z_all ?z_any ?z_bool ?z_dict ?z_enumerate ?z_int ?z_isinstance ?z_iter ?z_len ?z_list ?z_range ?z_set ?z_sorted ?z_str ?z_tuple ?z_zip ?g_DIGITS ?g_LETTERS ?g_MOST_NAMES ?g_MOST_SIGNS ?w_na_Order__above ?w_na_Order_names ?w_xm_UnknownName_BadNumber ?w_xn_BadName_name ?w_xn_BadNumber_n ?w_xn_DuplicateName_name ?w_xn_Ring_names ?w_xn_UnknownName_name
    (case aC_Order => k_is)
    (case aC_BadNumber => k_is)
    (case aC_BadName => k_is)
    (case aC_DuplicateName => k_is)
    (case aC_UnknownName => k_is)
    (case aC_Ring => k_is)
    (case aC_ThrowError => k_is)
    (case pg_Order => k_is)
    (case hd_Order => k_is)
    (case po_Order => k_is)
    (case sa_Order => k_is)
    (case ha_Order => k_is)
    (case hm_Order => k_is)
    (case mk_Order => k_is)
    (case kc_Order => k_is)
    (case sf_Order => k_is)
    (case iC_Order => k_is)
    (case tC_Order => k_is)
    (case hn => k_is)
    (case htk => k_is)
    (case xL_BadNumber => k_is)
    (case sa_BadNumber => k_is)
    (case ga_BadNumber => k_is)
    (case gg_BadNumber => k_is)
    (case kC_BadNumber => k_is)
    (case eC_BadNumber => k_is)
    (case tC_BadNumber => k_is)
    (case hC_BadNumber => k_is)
    (case iC_BadNumber => k_is)
    (case sC_BadNumber => k_is)
    (case xL_BadName => k_is)
    (case sa_BadName => k_is)
    (case ga_BadName => k_is)
    (case gg_BadName => k_is)
    (case kC_BadName => k_is)
    (case eC_BadName => k_is)
    (case tC_BadName => k_is)
    (case hC_BadName => k_is)
    (case iC_BadName => k_is)
    (case sC_BadName => k_is)
    (case xL_DuplicateName => k_is)
    (case sa_DuplicateName => k_is)
    (case ga_DuplicateName => k_is)
    (case gg_DuplicateName => k_is)
    (case kC_DuplicateName => k_is)
    (case eC_DuplicateName => k_is)
    (case tC_DuplicateName => k_is)
    (case hC_DuplicateName => k_is)
    (case iC_DuplicateName => k_is)
    (case sC_DuplicateName => k_is)
    (case xL_UnknownName => k_is)
    (case sa_UnknownName => k_is)
    (case ga_UnknownName => k_is)
    (case gg_UnknownName => k_is)
    (case kC_UnknownName => k_is)
    (case eC_UnknownName => k_is)
    (case tC_UnknownName => k_is)
    (case hC_UnknownName => k_is)
    (case iC_UnknownName => k_is)
    (case sC_UnknownName => k_is)
    (case xL_Ring => k_is)
    (case sa_Ring => k_is)
    (case ga_Ring => k_is)
    (case gg_Ring => k_is)
    (case kC_Ring => k_is)
    (case eC_Ring => k_is)
    (case tC_Ring => k_is)
    (case hC_Ring => k_is)
    (case iC_Ring => k_is)
    (case sC_Ring => k_is)
    (case rd_ThrowError => k_is)
    (case rg_ThrowError => k_is)
    (case rv_ThrowError => k_is)
    (case a0 => k_is)
    (case l0 => k_is)
    (case c0 => k_is)
    (case k0 => k_is)
    (case a1 => k_is)
    (case t1 => k_is)
    (case l1 => k_is)
    (case c1 => k_is)
    (case k1 => k_is)
    (case a2 => k_is)
    (case t2 => k_is)
    (case l2 => k_is)
    (case c2 => k_is)
    (case k2 => k_is)
    (case a3 => k_is)
    (case t3 => k_is)
    (case l3 => k_is)
    (case c3 => k_is)
    (case k3 => k_is)
    (case a4 => k_is)
    (case t4 => k_is)
    (case l4 => k_is)
    (case c4 => k_is)
    (case k4 => k_is)
    (case a5 => k_is)
    (case t5 => k_is)
    (case l5 => k_is)
    (case c5 => k_is)
    (case k5 => k_is)
    (case a6 => k_is)
    (case l6 => k_is)
    (case c6 => k_is)
    (case k6 => k_is)
    (case a7 => k_is)
    (case l7 => k_is)
    (case c7 => k_is)
    (case k7 => k_is)
    (case a8 => k_is)
    (case l8 => k_is)
    (case c8 => k_is)
    (case k8 => k_is)
    (case a9 => k_is)
    (case l9 => k_is)
    (case c9 => k_is)
    (case k9 => k_is)
    (case a10 => k_is)
    (case i10 => k_is)
    (case l10 => k_is)
    (case c10 => k_is)
    (case k10 => k_is)
    (case a11 => k_is)
    (case i11 => k_is)
    (case l11 => k_is)
    (case c11 => k_is)
    (case k11 => k_is)
    (case a12 => k_is)
    (case i12 => k_is)
    (case l12 => k_is)
    (case c12 => k_is)
    (case k12 => k_is)
    (case a13 => k_is)
    (case i13 => k_is)
    (case l13 => k_is)
    (case c13 => k_is)
    (case k13 => k_is)
    (case a14 => k_is)
    (case i14 => k_is)
    (case l14 => k_is)
    (case c14 => k_is)
    (case k14 => k_is)
    (case a15 => k_is)
    (case i15 => k_is)
    (case l15 => k_is)
    (case c15 => k_is)
    (case k15 => k_is)
    (case a16 => k_is)
    (case i16 => k_is)
    (case l16 => k_is)
    (case c16 => k_is)
    (case k16 => k_is)
    (case a17 => k_is)
    (case i17 => k_is)
    (case l17 => k_is)
    (case c17 => k_is)
    (case k17 => k_is)
    (case a18 => k_is)
    (case l18 => k_is)
    (case c18 => k_is)
    (case k18 => k_is)
    (case a19 => k_is)
    (case l19 => k_is)
    (case c19 => k_is)
    (case k19 => k_is)
    (case a20 => k_is)
    (case l20 => k_is)
    (case c20 => k_is)
    (case k20 => k_is)
    (case a21 => k_is)
    (case l21 => k_is)
    (case c21 => k_is)
    (case k21 => k_is)
    (case a22 => k_is)
    (case l22 => k_is)
    (case c22 => k_is)
    (case k22 => k_is)
    (case a23 => k_is)
    (case l23 => k_is)
    (case c23 => k_is)
    (case k23 => k_is)
    (case a24 => k_is)
    (case l24 => k_is)
    (case c24 => k_is)
    (case k24 => k_is)
    (case a25 => k_is)
    (case l25 => k_is)
    (case c25 => k_is)
    (case k25 => k_is)
    (case a26 => k_is)
    (case l26 => k_is)
    (case c26 => k_is)
    (case k26 => k_is)
    (case a27 => k_is)
    (case l27 => k_is)
    (case c27 => k_is)
    (case k27 => k_is)
    (case a28 => k_is)
    (case l28 => k_is)
    (case c28 => k_is)
    (case k28 => k_is)
    (case a29 => k_is)
    (case l29 => k_is)
    (case c29 => k_is)
    (case k29 => k_is)
    (case a30 => k_is)
    (case l30 => k_is)
    (case c30 => k_is)
    (case k30 => k_is)
    (case a31 => k_is)
    (case l31 => k_is)
    (case c31 => k_is)
    (case k31 => k_is)
    (case a32 => k_is)
    (case l32 => k_is)
    (case c32 => k_is)
    (case k32 => k_is)
    (case a33 => k_is)
    (case l33 => k_is)
    (case c33 => k_is)
    (case k33 => k_is)
    (case a34 => k_is)
    (case l34 => k_is)
    (case c34 => k_is)
    (case k34 => k_is)
    (case a35 => k_is)
    (case l35 => k_is)
    (case c35 => k_is)
    (case k35 => k_is)
    (case a36 => k_is)
    (case l36 => k_is)
    (case c36 => k_is)
    (case k36 => k_is)
    (case a37 => k_is)
    (case l37 => k_is)
    (case c37 => k_is)
    (case k37 => k_is)
    (case a38 => k_is)
    (case l38 => k_is)
    (case c38 => k_is)
    (case k38 => k_is)
    (case a39 => k_is)
    (case l39 => k_is)
    (case c39 => k_is)
    (case k39 => k_is)
    (case a40 => k_is)
    (case l40 => k_is)
    (case c40 => k_is)
    (case k40 => k_is)
    (case a41 => k_is)
    (case l41 => k_is)
    (case c41 => k_is)
    (case k41 => k_is)
    (case a42 => k_is)
    (case l42 => k_is)
    (case c42 => k_is)
    (case k42 => k_is)
    (case a43 => k_is)
    (case l43 => k_is)
    (case c43 => k_is)
    (case k43 => k_is)
    (case z_abs => k_is)
    (case z_all => k_is)
    (case z_any => k_is)
    (case z_bool => k_is)
    (case z_dict => k_is)
    (case z_enumerate => k_is)
    (case z_int => k_is)
    (case z_isinstance => k_is)
    (case z_iter => k_is)
    (case z_len => k_is)
    (case z_list => k_is)
    (case z_range => k_is)
    (case z_set => k_is)
    (case z_sorted => k_is)
    (case z_str => k_is)
    (case z_tuple => k_is)
    (case z_zip => k_is)
    (case g_DIGITS => k_is)
    (case g_LETTERS => k_is)
    (case g_MOST_NAMES => k_is)
    (case g_MOST_SIGNS => k_is)
    (case w_na_Order__above => k_is)
    (case w_na_Order_names => k_is)
    (case w_xm_UnknownName_BadNumber => k_is)
    (case w_xn_BadName_name => k_is)
    (case w_xn_BadNumber_n => k_is)
    (case w_xn_DuplicateName_name => k_is)
    (case w_xn_Ring_names => k_is)
    (case w_xn_UnknownName_name => k_is)

