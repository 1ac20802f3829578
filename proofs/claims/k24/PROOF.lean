import PyProof.Rows.All
import Wide.All
import OpenK.AllK
import Wide.FinOn
import HandS.ForMost
import HandS.ForExc
import HandS.More
import HandS.Star
import HandS.ClsMeth
import HandS.Wide
import HandS.Gcd
import HandS.ExcInit
import HandS.ExcField
import HandS.IsInst
import HandS.OwnEq
import HandS.FStr
import HandS.WideBits
import KE.IntBitsLaws
import KE.KFmtOwn
import HandS.StrMore
import HandS.Style
import HandS.StrSplit
import HandS.OwnIter
import HandS.IterNext
import HandS.DictComp
import HandS.Deep
import HandS.DeepEq
import HandS.Conv
import HandS.SortOrd
import HandS.Walk
import HandS.TryMany
import HandS.FStrTup
import PyProof.ReprHeadsEmpty
import HandS.TupAny
import HandS.Records
import HandS.HotCalls
import KE.KExcIs
import HandS.ExcIs
import PyProof.FString5
import KE.KItemsList
import HandS.Zip0
import PyProof.CollectIter
import KE.KUnpack
import KE.GoesEnumKw
import HandS.SortKw
import HandS.Lambda
import PyProof.NeKinds
import KE.KDictList
import PyProof.SumAny
import HandS.Set
import HandS.SetFor
import HandS.Strs
import HandS.Finally
import PySem.Challenge.RW_onethrow_k24_whole_sent_and_mixed
set_option linter.all false
namespace ZR
theorem fdiv_exact {a d : Int} (hd : d ≠ 0) (h : d ∣ a) : a.fdiv d = a / d := by
  obtain ⟨k, rfl⟩ := h
  rw [Int.mul_comm, Int.mul_fdiv_cancel _ hd, Int.mul_ediv_cancel _ hd]
/-- the divisor: the greatest common one, with the sign of b -/
def sg (t b : Int) : Int := if b < 0 then -((Nat.gcd t.natAbs b.natAbs : Nat) : Int) else ((Nat.gcd t.natAbs b.natAbs : Nat) : Int)
theorem gcd_ne (t : Int) {b : Int} (hb : b ≠ 0) : ((Nat.gcd t.natAbs b.natAbs : Nat) : Int) ≠ 0 := by
  have : 0 < Nat.gcd t.natAbs b.natAbs := Nat.gcd_pos_of_pos_right _ (by omega)
  omega
theorem sg_ne (t : Int) {b : Int} (hb : b ≠ 0) : sg t b ≠ 0 := by
  have := gcd_ne t hb
  unfold sg
  split <;> omega
theorem sg_le (t b : Int) (hb : b ≠ 0) : (sg t b).natAbs ≤ b.natAbs := by
  have : Nat.gcd t.natAbs b.natAbs ≤ b.natAbs := Nat.gcd_le_right _ (by omega)
  unfold sg
  split <;> omega
theorem dvd_t (t b : Int) : ((Nat.gcd t.natAbs b.natAbs : Nat) : Int) ∣ t := Int.ofNat_dvd_left.mpr (Nat.gcd_dvd_left _ _)
theorem dvd_b (t b : Int) : ((Nat.gcd t.natAbs b.natAbs : Nat) : Int) ∣ b := Int.ofNat_dvd_left.mpr (Nat.gcd_dvd_right _ _)
theorem norm_num (t b : Int) (hb : b ≠ 0) : t.fdiv (sg t b) = ((t : Rat) / (b : Rat)).num := by
  rw [← Rat.divInt_eq_div, Rat.num_divInt]
  have hg := gcd_ne t hb
  have e : b.gcd t = Nat.gcd t.natAbs b.natAbs := by rw [Int.gcd_comm]; rfl
  have d1 := dvd_t t b
  rw [e]
  unfold sg
  split
  · rename_i h
    rw [fdiv_exact (by omega) (Int.neg_dvd.mpr d1), Int.sign_eq_neg_one_of_neg h, Int.ediv_neg]
    obtain ⟨k, hk⟩ := d1
    generalize ((Nat.gcd t.natAbs b.natAbs : Nat) : Int) = g at *
    subst hk
    rw [Int.mul_ediv_cancel_left _ hg, show -1 * (g * k) = g * (-k) by grind, Int.mul_ediv_cancel_left _ hg]
  · rename_i h
    rw [fdiv_exact hg d1, Int.sign_eq_one_of_pos (by omega), Int.one_mul]
theorem norm_den (t b : Int) (hb : b ≠ 0) : b.fdiv (sg t b) = ((((t : Rat) / (b : Rat)).den : Nat) : Int) := by
  rw [← Rat.divInt_eq_div, Rat.den_divInt, if_neg hb]
  have hg := gcd_ne t hb
  have e : b.gcd t = Nat.gcd t.natAbs b.natAbs := by rw [Int.gcd_comm]; rfl
  have d1 := dvd_b t b
  rw [e, Int.natCast_ediv]
  unfold sg
  split
  · rename_i h
    rw [fdiv_exact (by omega) (Int.neg_dvd.mpr d1), Int.ediv_neg]
    have e2 : ((b.natAbs : Nat) : Int) = -b := by omega
    rw [e2]
    obtain ⟨k, hk⟩ := d1
    generalize ((Nat.gcd t.natAbs b.natAbs : Nat) : Int) = g at *
    subst hk
    rw [Int.mul_ediv_cancel_left _ hg, show -(g * k) = g * (-k) by grind, Int.mul_ediv_cancel_left _ hg]
  · rename_i h
    have e2 : ((b.natAbs : Nat) : Int) = b := by omega
    rw [e2, fdiv_exact hg d1]
theorem num_le (t b : Int) : ((t : Rat) / (b : Rat)).num.natAbs ≤ t.natAbs := by
  rw [← Rat.divInt_eq_div, Rat.num_divInt, Int.natAbs_ediv_of_dvd, Int.natAbs_mul]
  · rcases Int.lt_trichotomy b 0 with h | h | h
    · rw [Int.sign_eq_neg_one_of_neg h]; simp; exact Nat.div_le_self _ _
    · subst h; simp
    · rw [Int.sign_eq_one_of_pos h]; simp; exact Nat.div_le_self _ _
  · exact Int.dvd_mul_of_dvd_right (Int.gcd_dvd_right ..)
theorem den_le (t b : Int) (hb : b ≠ 0) : ((t : Rat) / (b : Rat)).den ≤ b.natAbs := by
  rw [← Rat.divInt_eq_div, Rat.den_divInt, if_neg hb]
  exact Nat.div_le_self _ _
theorem r_self (p : Rat) : ((p.num : Int) : Rat) / (((p.den : Nat) : Int) : Rat) = p := by
  rw [← Rat.divInt_eq_div, Rat.num_divInt_den]
theorem r_add (p q : Rat) : ((p.num * q.den + q.num * p.den : Int) : Rat) / ((p.den * q.den : Int) : Rat) = p + q := by
  rw [← Rat.divInt_eq_div, Rat.add_def', ← Rat.divInt_ofNat]; simp
theorem r_sub (p q : Rat) : ((p.num * q.den - q.num * p.den : Int) : Rat) / ((p.den * q.den : Int) : Rat) = p - q := by
  rw [← Rat.divInt_eq_div, Rat.sub_def', ← Rat.divInt_ofNat]; simp
theorem r_mul (p q : Rat) : ((p.num * q.num : Int) : Rat) / ((p.den * q.den : Int) : Rat) = p * q := by
  rw [← Rat.divInt_eq_div, Rat.mul_def', ← Rat.divInt_ofNat]; simp
theorem r_neg (p : Rat) : ((-p.num : Int) : Rat) / (((p.den : Nat) : Int) : Rat) = -p := by
  rw [← Rat.divInt_eq_div, ← Rat.neg_divInt, Rat.num_divInt_den]
theorem ci {b : Int} (hb : b ≠ 0) : (b : Rat) ≠ 0 := by simpa using hb
theorem num_ne {q : Rat} (h : q ≠ 0) : q.num ≠ 0 := by simpa using h
theorem r_div (p q : Rat) (h : q.num ≠ 0) : ((p.num * q.den : Int) : Rat) / ((p.den * q.num : Int) : Rat) = p / q := by
  have hq : (q.num : Rat) ≠ 0 := ci h
  have d1 : ((p.den : Int) : Rat) ≠ 0 := ci (by have := p.den_nz; omega)
  have d2 : ((q.den : Int) : Rat) ≠ 0 := ci (by have := q.den_nz; omega)
  have e1 := r_self p
  have e2 := r_self q
  have : p / q = (((p.num : Int) : Rat) / (((p.den : Nat) : Int) : Rat)) / (((q.num : Int) : Rat) / (((q.den : Nat) : Int) : Rat)) := by rw [e1, e2]
  rw [this, Rat.intCast_mul, Rat.intCast_mul]
  grind
/-! fractions of ints -/
theorem f_add (a b c d : Int) (hb : b ≠ 0) (hd : d ≠ 0) : ((a * d + c * b : Int) : Rat) / ((b * d : Int) : Rat) = (a : Rat) / b + (c : Rat) / d := by
  have := ci hb
  have := ci hd
  rw [Rat.intCast_add, Rat.intCast_mul, Rat.intCast_mul, Rat.intCast_mul]
  grind
theorem f_sub (a b c d : Int) (hb : b ≠ 0) (hd : d ≠ 0) : ((a * d - c * b : Int) : Rat) / ((b * d : Int) : Rat) = (a : Rat) / b - (c : Rat) / d := by
  have := ci hb
  have := ci hd
  rw [Rat.intCast_sub, Rat.intCast_mul, Rat.intCast_mul, Rat.intCast_mul]
  grind
theorem f_mul (a b c d : Int) (hb : b ≠ 0) (hd : d ≠ 0) : ((a * c : Int) : Rat) / ((b * d : Int) : Rat) = (a : Rat) / b * ((c : Rat) / d) := by
  have := ci hb
  have := ci hd
  rw [Rat.intCast_mul, Rat.intCast_mul]
  grind
theorem f_neg (a b : Int) (hb : b ≠ 0) : ((-a : Int) : Rat) / (b : Rat) = -((a : Rat) / b) := by
  have := ci hb
  rw [Rat.intCast_neg]
  grind
theorem f_div (a b c d : Int) (hb : b ≠ 0) (hc : c ≠ 0) (hd : d ≠ 0) : ((a * d : Int) : Rat) / ((b * c : Int) : Rat) = (a : Rat) / b / ((c : Rat) / d) := by
  have := ci hb
  have := ci hc
  have := ci hd
  rw [Rat.intCast_mul, Rat.intCast_mul]
  grind
theorem f_neg3 (a b : Int) (hb : b ≠ 0) : ((-3 * a : Int) : Rat) / ((-3 * b : Int) : Rat) = (a : Rat) / b := by
  have := ci hb
  rw [Rat.intCast_mul, Rat.intCast_mul]
  grind
theorem f_zero (a b : Int) (hb : b ≠ 0) : ((a : Rat) / b = 0) ↔ a = 0 := by
  have := ci hb
  constructor
  · intro h
    have : (a : Rat) = 0 := by grind
    simpa using this
  · rintro rfl
    rw [Rat.div_def]
    simp
theorem num_zero (q : Rat) : q.num = 0 ↔ q = 0 := by simp
theorem f_eq (a b c d : Int) (hb : b ≠ 0) (hd : d ≠ 0) : ((a : Rat) / b = (c : Rat) / d) ↔ a * d = c * b := by
  have := ci hb
  have := ci hd
  constructor
  · intro h
    have : (a : Rat) * d = (c : Rat) * b := by grind
    rw [← Rat.intCast_mul, ← Rat.intCast_mul] at this
    exact Rat.intCast_inj.mp this
  · intro h
    have : (a : Rat) * d = (c : Rat) * b := by rw [← Rat.intCast_mul, ← Rat.intCast_mul, h]
    grind
theorem f_lt (a b c d : Int) (hb : b ≠ 0) (hd : d ≠ 0) : ((a * d - c * b) * b * d < 0) ↔ ((a : Rat) / b < (c : Rat) / d) := by
  have hb' := ci hb
  have hd' := ci hd
  have e : (((a * d - c * b) * b * d : Int) : Rat) = ((a : Rat) / b - (c : Rat) / d) * ((b : Rat) * d) * ((b : Rat) * d) := by
    rw [Rat.intCast_mul, Rat.intCast_mul, Rat.intCast_sub, Rat.intCast_mul, Rat.intCast_mul]
    grind
  have sq : 0 < ((b : Rat) * d) * ((b : Rat) * d) := by
    have h0 : (b : Rat) * d ≠ 0 := by grind
    have tri : (b : Rat) * d < 0 ∨ 0 < (b : Rat) * d := by grind
    rcases tri with h | h
    · have := Rat.mul_pos (Rat.neg_lt_neg h) (Rat.neg_lt_neg h)
      grind
    · exact Rat.mul_pos h h
  rw [← Rat.intCast_neg_iff, e, Rat.mul_assoc, Rat.mul_neg_iff_of_pos_right sq]
  constructor <;> intro h <;> grind
theorem lt_nd (p q : Rat) : (p.num * q.den < q.num * p.den) ↔ p < q := (Rat.lt_iff p q).symm
theorem eq_nd (p q : Rat) : (p.num = q.num ∧ (p.den : Int) = (q.den : Int)) ↔ p = q := by
  constructor
  · rintro ⟨h1, h2⟩
    exact Rat.ext h1 (by omega)
  · rintro rfl
    exact ⟨rfl, rfl⟩
/-! sizes -/
/-- both terms below 2 ^ n -/
structure Bd (n : Nat) (q : Rat) : Prop where
  num : q.num.natAbs < 2 ^ n
  den : q.den < 2 ^ n
def Sz (n : Nat) (i : Int) : Prop := i.natAbs < 2 ^ n
theorem sz0 {n : Nat} : Sz n 0 := Nat.two_pow_pos n
theorem sz1 {n : Nat} (h : n ≠ 0) : Sz n 1 := Nat.one_lt_two_pow h
theorem sz_of {n : Nat} {i : Int} (h : decide (i.natAbs < 2 ^ n) = true) : Sz n i := by
  unfold Sz
  exact of_decide_eq_true h
theorem Sz.mono {n m : Nat} {i : Int} (h : Sz n i) (hm : n ≤ m) : Sz m i := Nat.lt_of_lt_of_le h (Nat.pow_le_pow_right (by decide) hm)
theorem Bd.mono {n m : Nat} {q : Rat} (h : Bd n q) (hm : n ≤ m) : Bd m q :=
  ⟨Nat.lt_of_lt_of_le h.num (Nat.pow_le_pow_right (by decide) hm), Nat.lt_of_lt_of_le h.den (Nat.pow_le_pow_right (by decide) hm)⟩
theorem Sz.mul {n m : Nat} {i j : Int} (h : Sz n i) (h' : Sz m j) : Sz (n + m) (i * j) := by
  unfold Sz at *
  rw [Int.natAbs_mul, Nat.pow_add]
  exact Nat.mul_lt_mul_of_lt_of_lt h h'
theorem Sz.add {n : Nat} {i j : Int} (h : Sz n i) (h' : Sz n j) : Sz (n + 1) (i + j) := by
  unfold Sz at *
  rw [Nat.pow_succ]
  have := Int.natAbs_add_le i j
  omega
theorem Sz.sub {n : Nat} {i j : Int} (h : Sz n i) (h' : Sz n j) : Sz (n + 1) (i - j) := by
  unfold Sz at *
  rw [Nat.pow_succ]
  have := Int.natAbs_sub_le i j
  omega
theorem Sz.neg {n : Nat} {i : Int} (h : Sz n i) : Sz n (-i) := by
  unfold Sz at *
  rw [Int.natAbs_neg]
  exact h
theorem Bd.n {n : Nat} {q : Rat} (h : Bd n q) : Sz n q.num := h.num
theorem Bd.d {n : Nat} {q : Rat} (h : Bd n q) : Sz n (q.den : Int) := by
  have := h.den
  show ((q.den : Int)).natAbs < 2 ^ n
  simpa using this
theorem Bd.of {n : Nat} {t b : Int} (h : Sz n t) (h' : Sz n b) (hb : b ≠ 0) : Bd n ((t : Rat) / (b : Rat)) :=
  ⟨Nat.lt_of_le_of_lt (num_le t b) h, Nat.lt_of_le_of_lt (den_le t b hb) h'⟩
theorem den_ne (p : Rat) : (p.den : Int) ≠ 0 := by have := p.den_nz; omega
theorem Bd.add {n : Nat} {p q : Rat} (h : Bd n p) (h' : Bd n q) : Bd (n + n + 1) (p + q) := by
  rw [← r_add]
  refine .of ((h.n.mul h'.d).add (h'.n.mul h.d)) ((h.d.mul h'.d).mono (by omega)) ?_
  exact Int.mul_ne_zero (den_ne p) (den_ne q)
theorem Bd.sub {n : Nat} {p q : Rat} (h : Bd n p) (h' : Bd n q) : Bd (n + n + 1) (p - q) := by
  rw [← r_sub]
  refine .of ((h.n.mul h'.d).sub (h'.n.mul h.d)) ((h.d.mul h'.d).mono (by omega)) ?_
  exact Int.mul_ne_zero (den_ne p) (den_ne q)
theorem Bd.mul {n : Nat} {p q : Rat} (h : Bd n p) (h' : Bd n q) : Bd (n + n + 1) (p * q) := by
  rw [← r_mul]
  refine .of ((h.n.mul h'.n).mono (by omega)) ((h.d.mul h'.d).mono (by omega)) ?_
  exact Int.mul_ne_zero (den_ne p) (den_ne q)
theorem Bd.neg {n : Nat} {p : Rat} (h : Bd n p) : Bd n (-p) := ⟨by rw [Rat.neg_num, Int.natAbs_neg]; exact h.num, by rw [Rat.neg_den]; exact h.den⟩
/-! Euclid, as the law does it -/
theorem euclid_step {f s : Int} (hf : 0 ≤ f) (hs : 0 < s) : Nat.gcd s.natAbs (f % s).natAbs = Nat.gcd f.natAbs s.natAbs := by
  have e : (f % s).natAbs = f.natAbs % s.natAbs := by
    obtain ⟨a, rfl⟩ := Int.eq_ofNat_of_zero_le hf
    obtain ⟨b, rfl⟩ := Int.eq_ofNat_of_zero_le (Int.le_of_lt hs)
    rfl
  rw [e, Nat.gcd_comm s.natAbs, ← Nat.gcd_rec, Nat.gcd_comm]
end ZR

/-! shares dealt: the mathematics -/
namespace ZD
/-- a multiple of 1/D from 0 to M -/
structure Gd (D M : Nat) (q : Rat) : Prop where
  mul : ∃ n : Int, q * (D : Rat) = (n : Rat)
  lo : 0 ≤ q
  hi : q ≤ (M : Rat)
section
variable {D M D' M' : Nat} {p q : Rat}
theorem Gd.zero : Gd D M 0 := ⟨⟨0, by grind⟩, by grind, by exact_mod_cast Nat.zero_le M⟩
theorem Gd.sub (h : Gd D M p) (g : Gd D M q) (l : q ≤ p) : Gd D M (p - q) := by
  obtain ⟨n, hn⟩ := h.mul
  obtain ⟨m, hm⟩ := g.mul
  refine ⟨⟨n - m, ?_⟩, ?_, ?_⟩
  · rw [Rat.intCast_sub, ← hn, ← hm]; grind
  · grind
  · have := h.hi; have := g.lo; grind
theorem Gd.add (h : Gd D M p) (g : Gd D M' q) : Gd D (M + M') (p + q) := by
  obtain ⟨n, hn⟩ := h.mul
  obtain ⟨m, hm⟩ := g.mul
  refine ⟨⟨n + m, ?_⟩, ?_, ?_⟩
  · rw [Rat.intCast_add, ← hn, ← hm]; grind
  · have := h.lo; have := g.lo; grind
  · have := h.hi; have := g.hi
    rw [Rat.natCast_add]
    grind
theorem natR_mono {a b : Nat} (h : a ≤ b) : (a : Rat) ≤ (b : Rat) := Rat.natCast_le_natCast.mpr h
theorem Gd.mono (h : Gd D M q) (l : M ≤ M') : Gd D M' q := ⟨h.mul, h.lo, by have := h.hi; have := natR_mono l; grind⟩
theorem Gd.muls (h : Gd D M q) (k : Nat) : Gd (D * k) M q := by
  obtain ⟨n, hn⟩ := h.mul
  refine ⟨⟨n * k, ?_⟩, h.lo, h.hi⟩
  rw [Rat.natCast_mul, Rat.intCast_mul, ← hn]
  have : ((k : Int) : Rat) = (k : Rat) := rfl
  rw [this]
  grind
theorem Gd.muls' (h : Gd D M q) (k : Nat) : Gd (k * D) M q := by rw [Nat.mul_comm]; exact h.muls k
theorem Gd.bd (h : Gd D M q) {n : Nat} (hD : 0 < D) (l1 : D < 2 ^ n) (l2 : M * D < 2 ^ n) : ZR.Bd n q := by
  obtain ⟨z, hz⟩ := h.mul
  have hDi : ((D : Nat) : Int) ≠ 0 := by omega
  have hDr : (D : Rat) ≠ 0 := by
    have := ZR.ci hDi
    simpa using this
  have e : q = (z : Rat) / (((D : Nat) : Int) : Rat) := by
    rw [← hz]
    have : (((D : Nat) : Int) : Rat) = (D : Rat) := rfl
    rw [this]
    grind
  have z0 : 0 ≤ z := by
    have h1 : (0 : Rat) ≤ (z : Rat) := by
      rw [← hz]
      exact Rat.mul_nonneg h.lo (by have := natR_mono (Nat.zero_le D); exact_mod_cast this)
    exact_mod_cast h1
  have zM : z ≤ ((M * D : Nat) : Int) := by
    have h1 : (z : Rat) ≤ ((M * D : Nat) : Rat) := by
      rw [← hz, Rat.natCast_mul]
      exact Rat.mul_le_mul_of_nonneg_right h.hi (by have := natR_mono (Nat.zero_le D); exact_mod_cast this)
    exact_mod_cast h1
  rw [e]
  exact ZR.Bd.of (show z.natAbs < 2 ^ n by omega) (show ((D : Nat) : Int).natAbs < 2 ^ n by simpa using l1) hDi
end
section
variable {α : Type}
def sm (L : List (α × Rat)) : Rat := L.foldl (fun s x => s + x.2) 0
theorem fold_add : ∀ (L : List (α × Rat)) (a : Rat), L.foldl (fun s x => s + x.2) a = a + L.foldl (fun s x => s + x.2) 0
  | [], a => by simp; grind
  | x :: L, a => by
    rw [List.foldl_cons, List.foldl_cons, fold_add L, fold_add L (0 + x.2)]
    grind
theorem sm_nil : sm ([] : List (α × Rat)) = 0 := rfl
theorem sm_cons (x : α × Rat) (L : List (α × Rat)) : sm (x :: L) = x.2 + sm L := by
  show L.foldl _ (0 + x.2) = _
  rw [fold_add]
  unfold sm
  grind
theorem sm_snoc (L : List (α × Rat)) (x : α × Rat) : sm (L ++ [x]) = sm L + x.2 := by
  unfold sm
  rw [List.foldl_append]
  rfl
theorem sm_app (L R : List (α × Rat)) : sm (L ++ R) = sm L + sm R := by
  induction L with
  | nil => rw [List.nil_append, sm_nil]; grind
  | cons x L ih => rw [List.cons_append, sm_cons, sm_cons, ih]; grind
theorem sm_rev (L : List (α × Rat)) : sm L.reverse = sm L := by
  induction L with
  | nil => rfl
  | cons x L ih => rw [List.reverse_cons, sm_snoc, sm_cons, ih]; grind
theorem sm_pos {L : List (α × Rat)} (h : ∀ x ∈ L, 0 < x.2) : 0 ≤ sm L := by
  induction L with
  | nil => rw [sm_nil]; grind
  | cons x L ih =>
    rw [sm_cons]
    have := ih fun y hy => h y (List.mem_cons_of_mem _ hy)
    have := h x List.mem_cons_self
    grind
theorem sm_gd {D M : Nat} {L : List (α × Rat)} (h : ∀ x ∈ L, Gd D M x.2) : Gd D (L.length * M) (sm L) := by
  induction L with
  | nil => rw [sm_nil]; exact Gd.zero
  | cons x L ih =>
    rw [sm_cons, List.length_cons, Nat.succ_mul, Nat.add_comm]
    exact (h x List.mem_cons_self).add (ih fun y hy => h y (List.mem_cons_of_mem _ hy))
/-- what goes together -/
def deal : List (α × Rat) → List (α × Rat) → List (α × α × Rat)
  | (a, p) :: xs, (b, q) :: ys =>
    if p < q then (a, b, p) :: deal xs ((b, q - p) :: ys)
    else if p = q then (a, b, p) :: deal xs ys
    else (a, b, q) :: deal ((a, p - q) :: xs) ys
  | [], _ => []
  | _ :: _, [] => []
termination_by xs ys => xs.length + ys.length
theorem deal_nil (ys : List (α × Rat)) : deal [] ys = [] := by rw [deal]
theorem deal_nil' (xs : List (α × Rat)) : deal xs [] = [] := by
  cases xs with
  | nil => rw [deal]
  | cons x xs => rw [deal]
theorem deal_lt {a b : α} {p q : Rat} {xs ys : List (α × Rat)} (h : p < q) : deal ((a, p) :: xs) ((b, q) :: ys) = (a, b, p) :: deal xs ((b, q - p) :: ys) := by rw [deal, if_pos h]
theorem deal_eq {a b : α} {p : Rat} {xs ys : List (α × Rat)} : deal ((a, p) :: xs) ((b, p) :: ys) = (a, b, p) :: deal xs ys := by rw [deal, if_neg (by grind), if_pos rfl]
theorem deal_gt {a b : α} {p q : Rat} {xs ys : List (α × Rat)} (h : q < p) : deal ((a, p) :: xs) ((b, q) :: ys) = (a, b, q) :: deal ((a, p - q) :: xs) ys := by rw [deal, if_neg (by grind), if_neg (by grind)]
theorem deal_len : ∀ (n : Nat) (xs ys : List (α × Rat)), xs.length + ys.length ≤ n → (deal xs ys).length ≤ xs.length + ys.length - 1
  | _, [], ys, _ => by rw [deal_nil]; exact Nat.zero_le _
  | _, x :: xs, [], _ => by rw [deal_nil']; exact Nat.zero_le _
  | 0, x :: xs, y :: ys, h => by simp at h
  | n + 1, (a, p) :: xs, (b, q) :: ys, h => by
    simp only [List.length_cons] at h ⊢
    by_cases e1 : p < q
    · rw [deal_lt e1, List.length_cons]
      have := deal_len n xs ((b, q - p) :: ys) (by simp only [List.length_cons]; omega)
      simp only [List.length_cons] at this
      omega
    · by_cases e2 : p = q
      · subst e2
        rw [deal_eq, List.length_cons]
        have := deal_len n xs ys (by omega)
        omega
      · rw [deal_gt (by grind), List.length_cons]
        have := deal_len n ((a, p - q) :: xs) ys (by simp only [List.length_cons]; omega)
        simp only [List.length_cons] at this
        omega
end
end ZD

namespace ZD
theorem Gd.form {D M : Nat} {q : Rat} (h : Gd D M q) (hD : 0 < D) : ∃ z : Int, q = (z : Rat) / (((D : Nat) : Int) : Rat) ∧ 0 ≤ z ∧ z ≤ ((M * D : Nat) : Int) := by
  obtain ⟨z, hz⟩ := h.mul
  have hDi : ((D : Nat) : Int) ≠ 0 := by omega
  have hDr : (D : Rat) ≠ 0 := by
    have := ZR.ci hDi
    simpa using this
  have D0 : (0 : Rat) ≤ (D : Rat) := by have := natR_mono (Nat.zero_le D); exact_mod_cast this
  refine ⟨z, ?_, ?_, ?_⟩
  · rw [← hz]
    have : (((D : Nat) : Int) : Rat) = (D : Rat) := rfl
    rw [this]
    grind
  · have h1 : (0 : Rat) ≤ (z : Rat) := by
      rw [← hz]
      exact Rat.mul_nonneg h.lo D0
    exact_mod_cast h1
  · have h1 : (z : Rat) ≤ ((M * D : Nat) : Rat) := by
      rw [← hz, Rat.natCast_mul]
      exact Rat.mul_le_mul_of_nonneg_right h.hi D0
    exact_mod_cast h1
theorem Gd.den {D M : Nat} {q : Rat} (h : Gd D M q) (hD : 0 < D) : q.den ≤ D := by
  obtain ⟨z, e, _⟩ := h.form hD
  rw [e]
  have := ZR.den_le z ((D : Nat) : Int) (by omega)
  simpa using this
theorem Gd.num {D M : Nat} {q : Rat} (h : Gd D M q) (hD : 0 < D) : q.num.natAbs ≤ M * D := by
  obtain ⟨z, e, z0, z1⟩ := h.form hD
  rw [e]
  have := ZR.num_le z ((D : Nat) : Int)
  omega
theorem num_pos {S : Rat} (h : 0 < S) : 0 < S.num := by
  have := (ZR.lt_nd 0 S).mpr h
  simpa using this
theorem inv_form {S : Rat} (h : 0 < S) : S⁻¹ = ((S.den : Int) : Rat) / (S.num : Rat) := by
  have e := ZR.r_self S
  have n0 := num_pos h
  have hn : (S.num : Rat) ≠ 0 := ZR.ci (by omega)
  have hd : ((S.den : Int) : Rat) ≠ 0 := ZR.ci (by have := S.den_nz; omega)
  have hS : S ≠ 0 := by grind
  have e2 : (S.num : Rat) = S * ((S.den : Int) : Rat) := by
    conv => rhs; rw [← e]
    grind
  have e3 : S⁻¹ * (S.num : Rat) = ((S.den : Int) : Rat) := by
    rw [e2]
    grind
  rw [← e3]
  grind
theorem inv_nd {S : Rat} (h : 0 < S) : S⁻¹.num = (S.den : Int) ∧ (S⁻¹.den : Int) = S.num := by
  have n0 := num_pos h
  have sg1 : ZR.sg (S.den : Int) S.num = 1 := by
    unfold ZR.sg
    rw [if_neg (by omega)]
    have : Nat.gcd (S.den : Int).natAbs S.num.natAbs = 1 := by
      have := S.reduced
      rw [Nat.gcd_comm]
      simpa using this
    rw [this]
    rfl
  have h1 := ZR.norm_num (S.den : Int) S.num (by omega)
  have h2 := ZR.norm_den (S.den : Int) S.num (by omega)
  rw [sg1, ← inv_form h] at h1 h2
  exact ⟨by rw [← h1]; simp, by rw [← h2]; simp⟩
theorem gd_scaled {p W S : Rat} (hp : Gd 60 (10 ^ 12) p) (hW : Gd 60 (6 * 10 ^ 12) W) (h0 : 0 < S) (hS : Gd 60 (6 * 10 ^ 12) S) : Gd (3600 * S.num.natAbs) (2 ^ 90) (p * W * S⁻¹) := by
  obtain ⟨a, ha⟩ := hp.mul
  obtain ⟨b, hb⟩ := hW.mul
  have n0 := num_pos h0
  have hn : (S.num : Rat) ≠ 0 := ZR.ci (by omega)
  have e3 : S⁻¹ * (S.num : Rat) = ((S.den : Int) : Rat) := by
    rw [inv_form h0]
    grind
  have eN : ((S.num.natAbs : Nat) : Rat) = (S.num : Rat) := by
    have : ((S.num.natAbs : Nat) : Int) = S.num := by omega
    have h2 : (((S.num.natAbs : Nat) : Int) : Rat) = ((S.num.natAbs : Nat) : Rat) := rfl
    rw [← h2, this]
  have i0 : 0 ≤ S⁻¹ := by
    have nR : (0 : Rat) < (S.num : Rat) := by exact_mod_cast n0
    have dR : (0 : Rat) ≤ ((S.den : Int) : Rat) := by exact_mod_cast (show (0 : Int) ≤ (S.den : Int) by omega)
    refine Rat.not_lt.mp fun hlt => ?_
    have h1 : 0 < (-S⁻¹) * (S.num : Rat) := Rat.mul_pos (by grind) nR
    grind
  have pl := hp.lo
  have wl := hW.lo
  have pw : 0 ≤ p * W := Rat.mul_nonneg pl wl
  refine ⟨⟨a * b * (S.den : Int), ?_⟩, Rat.mul_nonneg pw i0, ?_⟩
  · rw [Rat.natCast_mul, eN, Rat.intCast_mul, Rat.intCast_mul, ← ha, ← hb, ← e3]
    have : ((3600 : Nat) : Rat) = ((60 : Nat) : Rat) * ((60 : Nat) : Rat) := by decide +kernel
    rw [this]
    grind
  · have il : S⁻¹ ≤ ((60 : Nat) : Rat) := by
      have h1 : (1 : Rat) ≤ (S.num : Rat) := by exact_mod_cast (show (1 : Int) ≤ S.num by omega)
      have h2 : S⁻¹ * 1 ≤ S⁻¹ * (S.num : Rat) := Rat.mul_le_mul_of_nonneg_left h1 i0
      rw [e3] at h2
      have h3 := hS.den (by decide)
      have h4 : ((S.den : Int) : Rat) ≤ ((60 : Nat) : Rat) := by exact_mod_cast natR_mono h3
      grind
    have h1 : p * W ≤ ((10 ^ 12 : Nat) : Rat) * ((6 * 10 ^ 12 : Nat) : Rat) := by
      have a1 : p * W ≤ ((10 ^ 12 : Nat) : Rat) * W := Rat.mul_le_mul_of_nonneg_right hp.hi wl
      have a2 : ((10 ^ 12 : Nat) : Rat) * W ≤ ((10 ^ 12 : Nat) : Rat) * ((6 * 10 ^ 12 : Nat) : Rat) := Rat.mul_le_mul_of_nonneg_left hW.hi (by decide +kernel)
      grind
    have h2 : p * W * S⁻¹ ≤ ((10 ^ 12 : Nat) : Rat) * ((6 * 10 ^ 12 : Nat) : Rat) * ((60 : Nat) : Rat) := by
      have a1 : p * W * S⁻¹ ≤ ((10 ^ 12 : Nat) : Rat) * ((6 * 10 ^ 12 : Nat) : Rat) * S⁻¹ := Rat.mul_le_mul_of_nonneg_right h1 i0
      have a2 : ((10 ^ 12 : Nat) : Rat) * ((6 * 10 ^ 12 : Nat) : Rat) * S⁻¹ ≤ ((10 ^ 12 : Nat) : Rat) * ((6 * 10 ^ 12 : Nat) : Rat) * ((60 : Nat) : Rat) := Rat.mul_le_mul_of_nonneg_left il (by decide +kernel)
      grind
    have h3 : ((10 ^ 12 : Nat) : Rat) * ((6 * 10 ^ 12 : Nat) : Rat) * ((60 : Nat) : Rat) ≤ ((2 ^ 90 : Nat) : Rat) := by decide +kernel
    grind
theorem sm_scale {α : Type} (c : Rat) : ∀ L : List (α × Rat), sm (L.map fun x => (x.1, x.2 * c)) = sm L * c
  | [] => by
    show (0 : Rat) = 0 * c
    grind
  | x :: L => by
    rw [List.map_cons, sm_cons, sm_cons, sm_scale c L]
    grind
theorem sm_gt {α : Type} {L : List (α × Rat)} (hn : L ≠ []) (h : ∀ x ∈ L, 0 < x.2) : 0 < sm L := by
  cases L with
  | nil => exact absurd rfl hn
  | cons x L =>
    rw [sm_cons]
    have h1 := h x List.mem_cons_self
    have h2 := sm_pos (L := L) fun y hy => h y (List.mem_cons_of_mem _ hy)
    grind
end ZD

set_option Elab.async false
set_option linter.all false
set_option maxRecDepth 100000
set_option maxHeartbeats 4000000
/-! general rules of our own -/
namespace Z
open PySem PySem.Spec PyProof.Rows L2

/-- nothing is let out -/
abbrev EN : L2.St → XK := fun _ _ _ _ => False
theorem cxN {P : Program} {w : World} {outer : List Env} {H : Hp} {s s' : Shared} {e : Value} (h : L2.CX P w outer H s (fun _ _ _ => False) e s') : False := by
  obtain ⟨_, _, _, _, _, _, _, _, _, _, _, _, z⟩ := h
  exact z
theorem passN {X : Cx} : ∀ σ, PassesAt (L2.CX X.prog X.w) X σ (EN σ) := fun σ pins H s e s' _ h => by
  obtain ⟨_, _, _, _, _, _, _, _, _, _, _, _, z⟩ := h
  exact z.elim

section
variable {X : Cx} {CX : CXT} {k : Nat} {f C g : Addr} {sp : Sp} {E : L2.St → XK} {x m : Str} {p pos apos : Pos} {e o : Expr} {es : List Expr} {ta te : TE} {t : TA}

theorem runR {pins : List (Addr × Obj)} {σ : L2.St} {H : Hp} {s : Shared} {Q : VK} {us : List Value} {vs : List V}
    (F : FnR X.prog X.w X.K X.mg X.base CX k f sp) (hr : Room k X.A) (hx : ∀ σ, PassesAt CX X σ (E σ)) (I : Inv X pins σ H s)
    (r : Vals vs us) (h : sp vs H Q (E σ)) : wpAny (model X.prog X.w) X.A (call (.ref f) us) (EP X pins σ Q) X.xe s := by
  refine wpAny_call (codeAny_mono (F X.A X.stack s H us vs Q (E σ) hr I.env0 r h) fun q s' hq => ?_)
  rcases q with e | fl
  · exact hx σ pins H s e s' I hq
  · rcases fl with _ | _ | _ | u
    · exact False.elim hq
    · exact False.elim hq
    · exact False.elim hq
    · exact I.after hq

/-- f(e, ..) -/
theorem z_call (F : FnR X.prog X.w X.K X.mg X.base CX k f sp) (hr : Room k X.A) (hm : X.mg x = some (.ref f)) (hk : PySem.W.keepIn X.K (.ref f) = true)
    (hx : ∀ σ, PassesAt CX X σ (E σ)) (ha : PA X (e :: es) t) (hg : Gl X x := by rfl) (hdb : (x == ("__debug__" : Str)) = false := by decide)
    (he : starEach (e :: es) X.env = (false, eval e X.env) :: starEach es X.env := by rfl)
    (hpl : (backTo pos (starEach es X.env)).any (·.1) = false := by rfl) : PE X (.Call (.Name x p) (e :: es) [] pos) (tCallS sp E t) := by
  constructor
  intro pins s σ H Q I h
  apply wpAny_Call_Name_kw
  apply ld_glob I hg hm _ hdb
  apply PySem.W.callWith_K (h₀ := X.base) I.ok.mod.kin hk _ he hpl
  refine thn (ha.run pos pins s σ H _ I h) fun us s1 hh => ?_
  obtain ⟨vs, H1, I1, r, q⟩ := hh
  exact ⟨I1.kIn, runR F hr hx I1 r q⟩
theorem z_call0 (F : FnR X.prog X.w X.K X.mg X.base CX k f sp) (hr : Room k X.A) (hm : X.mg x = some (.ref f)) (hk : PySem.W.keepIn X.K (.ref f) = true)
    (hx : ∀ σ, PassesAt CX X σ (E σ)) (hg : Gl X x := by rfl) (hdb : (x == ("__debug__" : Str)) = false := by decide) :
    PE X (.Call (.Name x p) [] [] pos) (tCallS sp E tNil) := by
  constructor
  intro pins s σ H Q I h
  apply wpAny_Call_Name_kw
  apply ld_glob I hg hm _ hdb
  exact PySem.W.callWith_K0 I.kIn hk (runR (us := []) F hr hx I .nil h)

/-- o.m(e, ..) -/
def tMethS (C : Addr) (m : Str) (sp : Sp) (E : L2.St → XK) (ta : TE) (t : TA) : TE := fun σ H Q => ta σ H fun x H1 =>
  ∃ a dx fs, x = .ref a ∧ H1 a = some (.ins C dx fs) ∧ fs.lookup m = none ∧ t σ H1 fun vs H2 => sp (x :: vs) H2 Q (E σ)
theorem z_meth {pl : Sem Bool} (he : PE X o ta) (c : Cls X.K C) (hm : Meth X.K C m f) (F : FnR X.prog X.w X.K X.mg X.base CX k f sp) (hr : Room k X.A)
    (hx : ∀ σ, PassesAt CX X σ (E σ)) (ha : PA X (e :: es) t)
    (hst : starEach (e :: es) X.env = (false, eval e X.env) :: starEach es X.env := by rfl)
    (hpl : (backTo pos (starEach es X.env)).any (·.1) = false := by rfl)
    (ht : eval (.Call (.Attribute o m apos) (e :: es) [] pos) X.env = (do
      let ov ← eval o X.env
      standAt apos.atName
      let (f, first) ← holding [ov] (getMethod ov m pl)
      callWith pos f first (backTo pos (starEach (e :: es) X.env)) (backToKw pos (keywordEach [] X.env))) := by rfl) :
    PE X (.Call (.Attribute o m apos) (e :: es) [] pos) (tMethS C m sp E ta t) := by
  constructor
  intro pins s σ H Q I h
  refine PySem.W.methodCall_KW (pl := pl) (thn (he.run pins s σ H _ I h) fun u s1 hh => ?_) ht
  obtain ⟨x, H1, I1, rx, a, dx, fs, ex, ea, l, q⟩ := hh
  subst ex
  obtain rfl : u = Value.ref a := rx
  apply getmeth_ok I1 ea c hm l
  apply PySem.W.callWith_K (first := [.ref a]) (h₀ := X.base) I.ok.mod.kin hm.kp _ hst hpl
  refine thn (ha.run pos pins s1 σ H1 _ I1 q) fun us s2 hh => ?_
  obtain ⟨vs, H2, I2, r, q2⟩ := hh
  exact ⟨I2.kIn, runR (us := .ref a :: us) (vs := .ref a :: vs) F hr hx I2 (.cons rfl r) q2⟩
theorem z_meth0 {pl : Sem Bool} (he : PE X o ta) (c : Cls X.K C) (hm : Meth X.K C m f) (F : FnR X.prog X.w X.K X.mg X.base CX k f sp) (hr : Room k X.A)
    (hx : ∀ σ, PassesAt CX X σ (E σ))
    (ht : eval (.Call (.Attribute o m apos) [] [] pos) X.env = (do
      let ov ← eval o X.env
      standAt apos.atName
      let (f, first) ← holding [ov] (getMethod ov m pl)
      callWith pos f first (backTo pos (starEach [] X.env)) (backToKw pos (keywordEach [] X.env))) := by rfl) :
    PE X (.Call (.Attribute o m apos) [] [] pos) (tMethS C m sp E ta tNil) := by
  constructor
  intro pins s σ H Q I h
  refine PySem.W.methodCall_KW (pl := pl) (thn (he.run pins s σ H _ I h) fun u s1 hh => ?_) ht
  obtain ⟨x, H1, I1, rx, a, dx, fs, ex, ea, l, q⟩ := hh
  subst ex
  obtain rfl : u = Value.ref a := rx
  apply getmeth_ok I1 ea c hm l
  exact PySem.W.callWith_K0 (first := [.ref a]) I1.kIn hm.kp (runR (us := [.ref a]) (vs := [.ref a]) F hr hx I1 (.cons rfl .nil) q)

/-- C(e, ..) -/
def tMakeS (C : Addr) (sp : Sp) (E : L2.St → XK) (t : TA) : TE := fun σ H Q => t σ H fun vs H1 => ∀ x dx, H1 x = Option.none → H1 dx = Option.none → dx ≠ x →
  sp (V.ref x :: vs) (upd (upd H1 dx (.own x)) x (.ins C dx [])) (fun v H2 => v = .non ∧ Q (.ref x) H2)
    (fun cls d H2 => E σ cls d H2)
theorem runMake {pins : List (Addr × Obj)} {σ : L2.St} {H : Hp} {s : Shared} {Q : VK} {us : List Value} {vs : List V} (M : Mk X.K C f)
    (F : FnR X.prog X.w X.K X.mg X.base CX k f sp) (hr : Room (k + 1) X.A) (hx : ∀ σ, PassesAt CX X σ (E σ)) (I : Inv X pins σ H s) (r : Vals vs us)
    (h : ∀ x dx, H x = Option.none → H dx = Option.none → dx ≠ x →
      sp (V.ref x :: vs) (upd (upd H dx (.own x)) x (.ins C dx [])) (fun v H2 => v = .non ∧ Q (.ref x) H2) (E σ)) :
    wpAny (model X.prog X.w) X.A (call (.ref C) us) (EP X pins σ Q) X.xe s := by
  have hq := h (s.heap.objs.size + 1) s.heap.objs.size (I.hok.fresh (Nat.le_succ _)) (I.hok.fresh (Nat.le_refl _)) (Nat.ne_of_lt (Nat.lt_succ_self _))
  have I2 := Inv.made (C := C) I
  have r2 : Vals (V.ref (s.heap.objs.size + 1) :: vs) (Value.ref (s.heap.objs.size + 1) :: us) := .cons rfl r
  refine wpAny_call (make_map (f := f) I.kIn M.makes M.init (beq_iff_eq.mp M.fn) (codeAny_mono (F _ X.stack _ _ _ _ _ (E σ)
    (hr.make C us []) (I2.env0.make C us []) r2 hq) fun q s' hq' => ?_))
  rcases q with e | fl
  · exact hx σ pins _ _ e s' I2 hq'
  · rcases fl with _ | _ | _ | u
    · exact False.elim hq'
    · exact False.elim hq'
    · exact False.elim hq'
    · obtain ⟨v, H', I3, rv, ev, q3⟩ := I2.after hq'
      subst ev
      exact ⟨rv, ⟨V.ref (s.heap.objs.size + 1), H', I3, rfl, q3⟩⟩
theorem z_make (M : Mk X.K C f) (F : FnR X.prog X.w X.K X.mg X.base CX k f sp) (hr : Room (k + 1) X.A) (hm : X.mg x = some (.ref C))
    (hx : ∀ σ, PassesAt CX X σ (E σ)) (ha : PA X (e :: es) t) (hg : Gl X x := by rfl) (hdb : (x == ("__debug__" : Str)) = false := by decide)
    (he : starEach (e :: es) X.env = (false, eval e X.env) :: starEach es X.env := by rfl)
    (hpl : (backTo pos (starEach es X.env)).any (·.1) = false := by rfl) : PE X (.Call (.Name x p) (e :: es) [] pos) (tMakeS C sp E t) := by
  constructor
  intro pins s σ H Q I h
  apply wpAny_Call_Name_kw
  apply ld_glob I hg hm _ hdb
  apply PySem.W.callWith_K (h₀ := X.base) I.ok.mod.kin M.kp _ he hpl
  refine thn (ha.run pos pins s σ H _ I h) fun us s1 hh => ?_
  obtain ⟨vs, H1, I1, r, q⟩ := hh
  exact ⟨I1.kIn, runMake M F hr hx I1 r q⟩
end
end Z

set_option Elab.async false
set_option linter.all false
set_option maxRecDepth 100000
set_option maxHeartbeats 4000000
namespace Z
open PySem PySem.Spec PyProof.Rows L2

/-- a special method of an own class -/
structure Spc (K : PySem.W.Frag) (C : Addr) (n : Str) (f : Addr) : Prop where
  at_ : PySem.W.findIn K (.ref C) n = some (some (.ref f))
  fn : PySem.W.isFn K (.ref f) = true

section
variable {X : Cx} {k : Nat} {f C g : Addr} {sp : Sp}

theorem instAt {pins : List (Addr × Obj)} {σ : L2.St} {H : Hp} {s : Shared} {a dx : Addr} {fs : List (Str × V)} (I : Inv X pins σ H s)
    (e : H a = some (.ins C dx fs)) : ∃ ox od, PySem.W.InstAt s.heap a ox C od := by
  obtain ⟨mA, O, _⟩ := ins_get I.hok e
  obtain ⟨od, J, _⟩ := O.look
  exact ⟨_, _, J⟩
theorem cmpBack {A : Around} {E : Value → Shared → Prop} {pins : List (Addr × Obj)} {σ : L2.St} {Q : VK} {f : Addr} {us : List Value} {s : Shared}
    (h : wpAny (model X.prog X.w) A (call (.ref f) us) (EP X pins σ Q) E s) :
    wpAny (model X.prog X.w) A (call (.ref f) us) (PySem.W.CmpBack (EP X pins σ Q)) E s := by
  refine wpAny_mono h (fun v s' hv => ?_) fun _ _ z => z
  have hne : v ≠ .notImplemented := by
    rintro rfl
    obtain ⟨x, H', _, r, _⟩ := hv
    cases x
    case int => obtain ⟨t, q⟩ := r; cases q
    case str => obtain ⟨t, q⟩ := r; cases q
    case byt => obtain ⟨t, q⟩ := r; cases q
    case flt => obtain ⟨t, q⟩ := r; cases q
    all_goals cases r
  cases v
  case notImplemented => exact absurd rfl hne
  all_goals exact hv

/-- a op b, both instances of the class at C that has the operator's def -/
def rOwn (C : Addr) (sp : Sp) : R2 := fun x y H Q => ∃ a b dx dy fs gs, x = .ref a ∧ y = .ref b ∧ H a = some (.ins C dx fs) ∧ H b = some (.ins C dy gs) ∧
  sp [x, y] H Q (fun _ _ _ => False)
theorem op_own {op : Operator} (F : FnR X.prog X.w X.K X.mg X.base (L2.CX X.prog X.w) k f sp) (hr : Room k X.A)
    (hf : PySem.W.selfFirst X.K C = true) (S : Spc X.K C (PySem.dunder op.info.2) f) : OpR X (binaryOp op) (rOwn C sp) := by
  intro pins s σ H x y v u Q I rx ry h
  obtain ⟨a, b, dx, dy, fs, gs, rfl, rfl, ea, eb, h⟩ := h
  obtain rfl : v = Value.ref a := rx
  obtain rfl : u = Value.ref b := ry
  obtain ⟨ox, od, Ja⟩ := instAt I ea
  obtain ⟨oy, oe, Jb⟩ := instAt I eb
  obtain ⟨m, fr⟩ := I.fr
  apply PySem.W.binop_K fr I.ok.mod.kin Ja Jb.type hf S.at_ S.fn
  exact cmpBack (runR (us := [.ref a, .ref b]) (vs := [.ref a, .ref b]) (E := EN) F hr passN I (.cons rfl (.cons rfl .nil)) h)
/-- -a -/
def rOwn1 (C : Addr) (sp : Sp) : V → Hp → VK → Prop := fun x H Q => ∃ a dx fs, x = .ref a ∧ H a = some (.ins C dx fs) ∧ sp [x] H Q (fun _ _ _ => False)
theorem un_own (F : FnR X.prog X.w X.K X.mg X.base (L2.CX X.prog X.w) k f sp) (hr : Room k X.A) (S : Spc X.K C "__neg__" f) :
    UnR X (unaryOp .USub) (rOwn1 C sp) := by
  intro pins s σ H x v Q I rx h
  obtain ⟨a, dx, fs, rfl, ea, h⟩ := h
  obtain rfl : v = Value.ref a := rx
  obtain ⟨ox, od, Ja⟩ := instAt I ea
  obtain ⟨m, fr⟩ := I.fr
  apply PySem.W.ksp_neg fr I.ok.mod.kin Ja S.at_ S.fn
  exact runR (us := [.ref a]) (vs := [.ref a]) (E := EN) F hr passN I (.cons rfl .nil) h

/-! ### == and != by an own __eq__ -/
/-- the class of a value, as the other side of == -/
inductive Side (K : PySem.W.Frag) (C : Addr) (H : Hp) : V → Value → Prop where
  | ins {b dy : Addr} {gs : List (Str × V)} (e : H b = some (.ins C dy gs)) : Side K C H (.ref b) (.ref C)
  | lst {b : Addr} {xs : List V} (e : H b = some (.lst xs)) : Side K C H (.ref b) (.type "list")
  | int (i : Int) : Side K C H (.int i) (.type "int")
  | str (z : Str) : Side K C H (.str z) (.type "str")
theorem Side.look {K : PySem.W.Frag} {pins : List (Addr × Obj)} {σ : L2.St} {H : Hp} {s : Shared} {y : V} {u t : Value} (S : Side X.K C H y t) (I : Inv X pins σ H s) (r : RelV y u) :
    PySem.W.Looks (model X.prog X.w) s.heap (typeOf u) t := by
  cases S with
  | @ins b dy gs e =>
    obtain rfl : u = Value.ref b := r
    obtain ⟨ox, od, J⟩ := instAt I e
    exact J.type
  | @lst b xs e =>
    obtain rfl : u = Value.ref b := r
    obtain ⟨_, its, n, _, h1⟩ := (show ObjOk X.prog X.w H s.heap b (.lst xs) from I.hok b _ e)
    intro A Q E s' k q
    exact wpAny_typeOf_ref (k _ _ h1) q
  | int i =>
    obtain ⟨t, rfl⟩ := r
    exact PySem.W.Looks.of_pure rfl
  | str z =>
    obtain ⟨t, rfl⟩ := r
    exact PySem.W.Looks.of_pure rfl

def rOwnC (K : PySem.W.Frag) (C : Addr) (sp : Sp) : R2 := fun x y H Q => ∃ a dx fs t, x = .ref a ∧ H a = some (.ins C dx fs) ∧ Side K C H y t ∧ PySem.W.notFirst K C t = true ∧
  sp [x, y] H Q (fun _ _ _ => False)
theorem op_eqOwn (F : FnR X.prog X.w X.K X.mg X.base (L2.CX X.prog X.w) k f sp) (hr : Room k X.A) (S : Spc X.K C "__eq__" f) :
    OpR X (compareOp .Eq) (rOwnC X.K C sp) := by
  intro pins s σ H x y v u Q I rx ry h
  obtain ⟨a, dx, fs, t, rfl, ea, sd, hn, h⟩ := h
  obtain rfl : v = Value.ref a := rx
  obtain ⟨ox, od, Ja⟩ := instAt I ea
  obtain ⟨m, fr⟩ := I.fr
  have hu := hr.units0
  apply PySem.W.cmp_K (op := .Eq) hu fr I.ok.mod.kin Ja (sd.look (K := X.K) I ry) hn S.at_ S.fn
  exact cmpBack (runR (us := [.ref a, u]) (vs := [.ref a, y]) (E := EN) F hr passN I (.cons rfl (.cons ry .nil)) h)

/-- what the class says of != : it is left to object -/
structure NeC (K : PySem.W.Frag) (C : Addr) : Prop where
  at_ : PySem.W.findIn K (.ref C) "__ne__" = some (some (.builtin "object.__ne__"))
  ob : PySem.W.subIn K (.ref C) (.type "object") = some true
theorem objNe {A : Around} {E : Value → Shared → Prop} {s : Shared} {K : PySem.W.Frag} {a : Addr} {ox : Obj} {od : Option Obj} {b : Value} {Q : Fin → Shared → Prop} {prog : Program} {w : World}
    (hk : K.In s.heap) (J : PySem.W.InstAt s.heap a ox C od) (S : Spc K C "__eq__" f) (hu : A.units < cLine)
    (h : wpAny (model prog w) A (call (.ref f) [.ref a, b]) (fun v s' => ∃ r, v = .bool r ∧ Q (.done (.ret (.bool (!r)))) s') E s) :
    wpAny (model prog w) A (Builtin.«object.__ne__» ⟨[.ref a, b], []⟩) Q E s := by
  have one : wpAny (model prog w) A (callSpecialIfBound? (.ref a) (Str.ofString "__eq__") [b]) (fun o s' => ∃ r, o = some (.bool r) ∧ Q (.done (.ret (.bool (!r)))) s') E s := by
    refine PySem.W.ifBound_K hk J S.at_ S.fn (wpAny_mono h (fun v s' hv => ?_) fun _ _ z => z)
    obtain ⟨r, rfl, q⟩ := hv
    exact ⟨r, rfl, q⟩
  unfold Builtin.«object.__ne__»
  repeat (first
    | with_reducible refine wpAny_cRoomFor hu ?_
    | (refine wpAny_bind (m := callSpecialIfBound? (.ref a) (Str.ofString "__eq__") [b]) (wpAny_mono one (fun o s' hv => by
          obtain ⟨r, rfl, q⟩ := hv
          repeat (first | exact q | exact wpAny_pure q | exact wpAny_truthy_bool q | (refine wpAny_bind (m := truthy (.bool _)) (wpAny_truthy_bool ?_)) | wp_step)) fun _ _ z => z))
    | wp_step)
theorem neTry {A : Around} {E : Value → Shared → Prop} {s : Shared} {K : PySem.W.Frag} {a : Addr} {ox : Obj} {od : Option Obj} {b : Value} {Q : Value → Shared → Prop} {prog : Program} {w : World}
    (hk : K.In s.heap) (J : PySem.W.InstAt s.heap a ox C od) (S : Spc K C "__eq__" f) (N : NeC K C) (hu : A.in1.units < cLine)
    (h : wpAny (model prog w) A.in1 (call (.ref f) [.ref a, b]) (fun v s' => ∃ r, v = .bool r ∧ Q (.bool (!r)) s') E s) :
    wpAny (model prog w) A (tryCompare (.ref a) "__ne__" b) (fun o s' => ∃ v, o = some v ∧ Q v s') E s := by
  have sub : PySem.W.Looks (model prog w) s.heap (isInstance (.ref a) (.type "object")) true := J.type.andThen (PySem.W.looks_subIn hk N.ob)
  have body : wpAny (model prog w) A (call (.builtin "object.__ne__") [.ref a, b]) (fun v s' => ∃ r, v = .bool r ∧ Q (.bool r) s') E s := by
    refine wpAny_call (codeAny_call_builtin PySem.F.cmp_object.ne.plain PySem.F.cmpEntry_ne (PySem.W.check_slot PySem.F.cmpKind_ne PySem.F.cmpSplit_ne sub (PySem.F.cmpArgs_ne _ _) ?_))
    refine objNe (A := A.in1) hk J S hu (wpAny_mono h (fun v s' hv => ?_) fun _ _ z => z)
    obtain ⟨r, rfl, q⟩ := hv
    exact ⟨r, rfl, ⟨!r, rfl, q⟩⟩
  unfold tryCompare callSpecialIfBound? bindSpecialIfBound?
  have fin : wpAny (model prog w) A (call (.builtin "object.__ne__") ([.ref a] ++ [b]) >>= fun v => pure (some v)) (fun o s' => ∃ v, o = some v ∧ v ≠ .notImplemented ∧ Q v s') E s := by
    refine wpAny_bind (wpAny_mono body (fun v s' hv => ?_) fun _ _ z => z)
    obtain ⟨r, rfl, q⟩ := hv
    exact wpAny_pure ⟨_, rfl, (fun z => nomatch z), q⟩
  have fin2 : wpAny (model prog w) A (callSpecialIfBound? (.ref a) "__ne__" [b]) (fun o s' => ∃ v, o = some v ∧ v ≠ .notImplemented ∧ Q v s') E s := by
    simp only [callSpecialIfBound?, bindSpecialIfBound?]
    refine wpAny_holding (wpAny_bind (wpAny_bind (wpAny_bind (J.type.here ((PySem.W.looks_findIn hk N.at_).here ?_)))))
    simp only [PySem.F.cmp_object.ne.bind]
    refine wpAny_bind (wpAny_askSetting (wpAny_ite ?_))
    split
    · exact wpAny_bind (wpAny_pure (wpAny_pure fin))
    · exact wpAny_tryCatch (wpAny_bind (wpAny_pure (wpAny_pure fin)))
  show wpAny _ _ (tryCompare _ _ _) _ _ _
  unfold tryCompare
  refine wpAny_bind (wpAny_mono fin2 (fun o s' hv => ?_) fun _ _ z => z)
  obtain ⟨v, rfl, hne, q⟩ := hv
  cases v
  case notImplemented => exact absurd rfl hne
  all_goals exact wpAny_pure ⟨_, rfl, q⟩
theorem richNe {A : Around} {E : Value → Shared → Prop} {s : Shared} {K : PySem.W.Frag} {a : Addr} {ox : Obj} {od : Option Obj} {b t : Value} {Q : Value → Shared → Prop} {prog : Program} {w : World}
    (hk : K.In s.heap) (J : PySem.W.InstAt s.heap a ox C od) (S : Spc K C "__eq__" f) (N : NeC K C) (hu : A.units < cLine) (hu1 : A.in1.units < cLine)
    (lt : PySem.W.Looks (model prog w) s.heap (typeOf b) t) (hn : PySem.W.notFirst K C t = true)
    (h : wpAny (model prog w) A.in1 (call (.ref f) [.ref a, b]) (fun v s' => ∃ r, v = .bool r ∧ Q (.bool (!r)) s') E s) :
    wpAny (model prog w) A (richCompare .NotEq (.ref a) b) Q E s := by
  have one := neTry hk J S N hu1 h
  unfold richCompare
  simp only [oneThing_ref]
  refine wpAny_holding (wpAny_bind (wpAny_cRoomFor hu ?_))
  rw [cmpInfo_NotEq]
  dsimp only
  refine wpAny_bind (J.type.here (wpAny_bind (lt.here ?_)))
  split
  · rename_i q
    have e : PySem.W.subIn K t (.ref C) = some false := by
      rcases Bool.or_eq_true_iff.mp hn with e | e
      · rw [beq_iff_eq.mp e] at q
        simp at q
      · exact beq_iff_eq.mp e
    refine wpAny_bind ((PySem.W.looks_subIn hk e).here ?_)
    simp only [Bool.false_eq_true, if_false]
    refine wpAny_bind (wpAny_mono one (fun o s' z => ?_) fun _ _ z => z)
    obtain ⟨v, rfl, q⟩ := z
    exact wpAny_pure q
  · refine wpAny_bind (wpAny_pure ?_)
    simp only [Bool.false_eq_true, if_false]
    refine wpAny_bind (wpAny_mono one (fun o s' z => ?_) fun _ _ z => z)
    obtain ⟨v, rfl, q⟩ := z
    exact wpAny_pure q
/-- what the own == hands back is a bool: Q of the other one -/
theorem op_neOwn (F : FnR X.prog X.w X.K X.mg X.base (L2.CX X.prog X.w) k f sp) (hr : Room (k + 1) X.A) (S : Spc X.K C "__eq__" f) (N : NeC X.K C) :
    OpR X (compareOp .NotEq) (fun x y H Q => ∃ a dx fs t, x = .ref a ∧ H a = some (.ins C dx fs) ∧ Side X.K C H y t ∧ PySem.W.notFirst X.K C t = true ∧
      sp [x, y] H (fun v H' => ∃ r, v = .bl r ∧ Q (.bl (!r)) H') (fun _ _ _ => False)) := by
  intro pins s σ H x y v u Q I rx ry h
  obtain ⟨a, dx, fs, t, rfl, ea, sd, hn, h⟩ := h
  obtain rfl : v = Value.ref a := rx
  obtain ⟨ox, od, Ja⟩ := instAt I ea
  have hr1 : Room k X.A.in1 := hr.in1
  apply richNe (t := t) I.kIn Ja S N hr.units0 hr1.units0 (sd.look (K := X.K) I ry) hn
  refine wpAny_call (codeAny_mono (F X.A.in1 X.stack s H [.ref a, u] [.ref a, y] _ (fun _ _ _ => False) hr1 I.env0.in1 (.cons rfl (.cons ry .nil)) h) fun q s' hq => ?_)
  rcases q with e | fl
  · exact (cxN hq).elim
  · rcases fl with _ | _ | _ | u'
    · exact False.elim hq
    · exact False.elim hq
    · exact False.elim hq
    · obtain ⟨v', H', J', rv, r, ev, q⟩ := I.after hq
      subst ev
      obtain rfl : u' = Value.bool r := rv
      exact ⟨r, rfl, ⟨.bl (!r), H', J', rfl, q⟩⟩
end
end Z

set_option Elab.async false
set_option linter.all false
set_option maxRecDepth 100000
set_option maxHeartbeats 4000000
namespace Z
open PySem PySem.Spec PyProof.Rows L2
section
variable {prog : Program} {w : World} {A : Around} {E : Value → Shared → Prop} {s : Shared}
/-- bool(x), by the truth of x -/
theorem newBool {x : Value} {R : Result → Shared → Prop} (h : wpAny (model prog w) A.in1 (truthy x) (fun b s' => R (.ok (.ret (.bool b))) s') (fun e s' => R (.error e) s') s) :
    wpAny (model prog w) A.in1 (Builtin.«bool.__new__» ⟨[.type "bool", x], []⟩)
      (fun fin s' => match fin with | .done f => R (.ok f) s' | .again c' => c'.quiet = true ∧ codeAny (model prog w) A c' R s') (fun e s' => R (.error e) s') s := by
  have f1 := F.conv_sub_bool
  obtain ⟨hp, g, d, tk, os⟩ := s
  unfold Builtin.«bool.__new__»
  repeat (any_goals (first | assumption | (refine wpAny_bind (m := truthy x) (wpAny_mono h (fun b s' q => ?_) fun _ _ z => z)) | wp_step))
  all_goals first | exact q | exact ⟨_, rfl, q⟩ | skip
theorem callBool {x : Value} {Q : Value → Shared → Prop} (h : wpAny (model prog w) A.in1.in1 (truthy x) (fun b s' => Q (.bool b) s') E s) :
    wpAny (model prog w) A (call (.type "bool") [x]) Q E s := by
  have ft := F.called_bool
  obtain ⟨c, tl, hmro⟩ := ft.mro
  have hmade := ft.made
  have hsub := ft.sub
  have h1 := ft.notType
  have h2 := ft.canCreate
  have hct := F.typeCall_bool_1 x
  apply wpAny_call
  apply codeAny_of_tree
  show wpAny _ _ (callAny (.type "bool") _) _ _ _
  have quiet := Code.quiet_builtin (id := "type.__call__") ⟨[.type "bool", x], []⟩ (by decide +kernel)
  refine wpAny_pure ⟨quiet, ?_⟩
  apply codeAny_builtin F.entry_type_call
  rw [Around.under_plain (weight_type_call_type "bool" [x] []) (units_type_call_type "bool" [x] [])]
  repeat (any_goals (first | assumption | wp_step))
  have body := newBool (A := A.in1) (R := wants (fun o s₁ => s₁.TypeIs o "bool" ∧ Q o s₁) E) (wpAny_mono h (fun b s' q => ⟨rfl, q⟩) fun _ _ z => z)
  refine codeAny_mono (codeAny_call_builtin ft.plain F.entry_bool_new (wpAny_of_eq (F.newCall_bool_1 x) body)) fun r s₁ hr => ?_
  rcases r with e | fl
  · exact hr
  rcases fl with _ | _ | _ | obj
  · exact False.elim hr
  · exact False.elim hr
  · exact False.elim hr
  obtain ⟨hT, hq⟩ := hr
  have hli := ft.init.lookup
  have hbi := ft.init.bind obj
  repeat (any_goals (first | assumption | wp_step))
  have last := object_init_meets (self := obj) (rest := [x]) hli hmade F.newNe_bool prog w A.in1 (wants (fun r s₂ => r = .none ∧ Q obj s₂) E) s₁ ⟨hT, rfl, hq⟩
  refine codeAny_mono (codeAny_call_builtin ft.init.plain F.entry_object_init (ft.init.check _ _ _ _ _ _ _ _ hT (F.args_object_init_2 obj x) last)) fun r₂ s₂ hr₂ => ?_
  rcases r₂ with e | fl
  · exact hr₂
  rcases fl with _ | _ | _ | r
  · exact False.elim hr₂
  · exact False.elim hr₂
  · exact False.elim hr₂
  obtain ⟨rfl, hq⟩ := hr₂
  repeat (any_goals (first | assumption | wp_step))
end
section
variable {X : Cx} {k : Nat} {f C : Addr} {sp : Sp}
/-- bool(x), x an instance with its own __bool__ -/
def rBoolOwn (C : Addr) (sp : Sp) : List V → Hp → VK → Prop := fun xs H Q => ∃ a dx fs, xs = [.ref a] ∧ H a = some (.ins C dx fs) ∧
  sp [.ref a] H (fun v H' => ∃ r, v = .bl r ∧ Q (.bl r) H') (fun _ _ _ => False)
theorem call_boolOwn (F : FnR X.prog X.w X.K X.mg X.base (L2.CX X.prog X.w) k f sp) (hr : Room (k + 2) X.A) (S : Spc X.K C "__bool__" f) :
    CallR X (.type "bool") (rBoolOwn C sp) := by
  intro pins s σ H xs us Q I r h
  obtain ⟨a, dx, fs, rfl, ea, h⟩ := h
  obtain rfl := Vals.ref1 r
  obtain ⟨ox, od, Ja⟩ := instAt I ea
  obtain ⟨m, fr⟩ := I.fr
  have hr1 : Room k X.A.in1.in1 := (hr.in1).in1
  apply callBool
  apply PySem.W.truthy_K fr I.ok.mod.kin Ja S.at_ S.fn
  refine wpAny_call (codeAny_mono (F X.A.in1.in1 X.stack s H [.ref a] [.ref a] _ (fun _ _ _ => False) hr1 I.env0.in1.in1 (.cons rfl .nil) h) fun q s' hq => ?_)
  rcases q with e | fl
  · exact (cxN hq).elim
  rcases fl with _ | _ | _ | u'
  · exact False.elim hq
  · exact False.elim hq
  · exact False.elim hq
  obtain ⟨v', H', J', rv, r, ev, q⟩ := I.after hq
  subst ev
  obtain rfl : u' = Value.bool r := rv
  exact ⟨.bl r, H', J', rfl, q⟩
end
end Z

set_option Elab.async false
set_option linter.all false
set_option maxRecDepth 100000
set_option maxHeartbeats 4000000
/-! readings, one step at a time -/
namespace Z
open PySem PySem.Spec PyProof.Rows L2
section
variable {X : Cx} {K : PySem.W.Frag} {σ σ' : L2.St} {H H1 : Hp} {D : Ends} {t u : TS} {te ta tb tc : TE} {tt tu : TT} {tr : TA} {g : TG} {Q : VK} {QB : Bool → Hp → Prop} {QA : List V → Hp → Prop} {QS : L2.St → Hp → Prop} {v x y : V} {i j : Nat} {A B : Prop}

theorem i_seq (h : t { D with nx := u D } σ H) : tSeq t u D σ H := h
theorem i_next (h : D.nx σ H) : tNext D σ H := h
theorem i_asg (h : te σ H (fun x H1 => g x σ H1 D.nx)) : tAsg te g D σ H := h
theorem i_gname (e : σ.set i (some v) = σ') (h : QS σ' H) : gName i v σ H QS := by
  subst e
  exact h
theorem i_ret (h : te σ H D.rt) : tRet te D σ H := h
theorem i_retN (h : D.rt .non H) : tRetN D σ H := h
theorem i_drop (h : te σ H (fun _ H1 => D.nx σ H1)) : tDrop te D σ H := h
theorem i_ifs (h : tt σ H (fun b H1 => if b = true then t D σ H1 else u D σ H1)) : tIfS tt t u D σ H := h
theorem i_test (h : te σ H (fun x H1 => ∃ k, x = .bl k ∧ QB k H1)) : tTest te σ H QB := h
theorem i_B (h : te σ H (fun x H1 => ∃ k, x = .bl k ∧ QB k H1)) : tB te σ H QB := h
theorem i_bl {b : Bool} (h : QB b H) : ∃ k, V.bl b = .bl k ∧ QB k H := ⟨b, rfl, h⟩
theorem i_bl' {b : Bool} {P : Bool → Prop} (h : P b) : ∃ k, V.bl b = .bl k ∧ P k := ⟨b, rfl, h⟩
theorem i_and (h : tt σ H (fun c H1 => if c = true then tu σ H1 QB else QB false H1)) : tAnd tt tu σ H QB := h
theorem i_or (h : tt σ H (fun c H1 => if c = true then QB true H1 else tu σ H1 QB)) : tOr tt tu σ H QB := h
theorem i_not (h : tt σ H (fun c H1 => QB (!c) H1)) : tNot tt σ H QB := h
theorem i_andV (h : ta σ H (fun x H1 => ∃ c, x = .bl c ∧ if c = true then tb σ H1 Q else Q (.bl false) H1)) : tAndV ta tb σ H Q := h
theorem i_orV (h : ta σ H (fun x H1 => ∃ c, x = .bl c ∧ if c = true then Q (.bl true) H1 else tb σ H1 Q)) : tOrV ta tb σ H Q := h
theorem i_notV (h : ta σ H (fun x H1 => ∃ c, x = .bl c ∧ Q (.bl (!c)) H1)) : tNotV ta σ H Q := h
theorem i_ifx (h : tt σ H (fun c H1 => if c = true then ta σ H1 Q else tb σ H1 Q)) : tIf tt ta tb σ H Q := h
theorem i_dec {p : Prop} [Decidable p] (h1 : p → A) (h2 : ¬p → B) : if decide p = true then A else B := by
  by_cases hp : p
  · rw [if_pos (decide_eq_true hp)]
    exact h1 hp
  · rw [if_neg (by simpa using hp)]
    exact h2 hp
theorem i_ndec {p : Prop} [Decidable p] (h1 : ¬p → A) (h2 : p → B) : if (!decide p) = true then A else B := by
  by_cases hp : p
  · rw [if_neg (by simpa using hp)]
    exact h2 hp
  · rw [if_pos (by simpa using hp)]
    exact h1 hp
theorem i_bool {b : Bool} (h1 : b = true → A) (h2 : b = false → B) : if b = true then A else B := by
  cases b
  · exact h2 rfl
  · exact h1 rfl
theorem i_tt (h : A) : if true = true then A else B := h
theorem i_ff (h : B) : if false = true then A else B := h
theorem i_nt (h : B) : if (!true) = true then A else B := h
theorem i_nf (h : A) : if (!false) = true then A else B := h
/-! values -/
theorem i_var (e : σ[i]? = some (some v)) (h : Q v H) : tVar i σ H Q := ⟨v, e, h⟩
theorem i_c (h : Q v H) : tC v σ H Q := h
theorem i_op {r : R2} (h : ta σ H (fun x H1 => tb σ H1 (fun y H2 => r x y H2 Q))) : tOp r ta tb σ H Q := h
theorem i_un {r : V → Hp → VK → Prop} (h : ta σ H (fun x H1 => r x H1 Q)) : tUn r ta σ H Q := h
theorem i_cons (h : te σ H (fun x H1 => tr σ H1 (fun xs H2 => QA (x :: xs) H2))) : tCons te tr σ H QA := h
theorem i_nil (h : QA [] H) : tNil σ H QA := h
theorem i_cb {r : List V → Hp → VK → Prop} (h : tr σ H (fun vs H1 => r vs H1 Q)) : tCB r tr σ H Q := h
theorem i_call {sp : Sp} {E : L2.St → XK} (h : tr σ H (fun vs H1 => sp vs H1 Q (E σ))) : tCallS sp E tr σ H Q := h
theorem sz_small {n : Nat} (h : n ≤ 100000) : n ≤ sizeLine := Nat.le_trans h (by decide)
/-- a new list, a new tuple: from here on the heap is another letter -/
theorem i_lst (h : tr σ H (fun xs H1 => xs.length ≤ 100000 ∧ ∀ p H2, H1 p = none → Same H1 H2 → H2 p = some (.lst xs) → (∀ b, b ≠ p → H2 b = H1 b) → Q (.ref p) H2))
    (mono : ∀ Q Q' : List V → Hp → Prop, (∀ xs H, Q xs H → Q' xs H) → tr σ H Q → tr σ H Q') : tLst tr σ H Q := by
  refine mono _ _ (fun xs H1 q => ?_) h
  exact ⟨sz_small q.1, fun p hp => q.2 p _ hp (fun b o e => by rw [upd_ne (ne_of_none e hp)]; exact e) upd_same (fun b hb => upd_ne hb)⟩
/-- what comes behind the items of a display -/
def rLst (xs : List V) (H1 : Hp) (Q : VK) : Prop := xs.length ≤ sizeLine ∧ ∀ p, H1 p = none → Q (.ref p) (upd H1 p (.lst xs))
def rTup (xs : List V) (H1 : Hp) (Q : VK) : Prop := xs.length ≤ sizeLine ∧ ∀ p, H1 p = none → Q (.ref p) (upd H1 p (.tup xs))
theorem i_lst0 (h : tr σ H (fun xs H1 => rLst xs H1 Q)) : tLst tr σ H Q := h
theorem i_tup0 (h : tr σ H (fun xs H1 => rTup xs H1 Q)) : tTup tr σ H Q := h
theorem i_lst1 {xs : List V} (hl : xs.length ≤ 100000) (h : ∀ p H2, H p = none → Same H H2 → H2 p = some (.lst xs) → (∀ b, b ≠ p → H2 b = H b) → Q (.ref p) H2) : rLst xs H Q :=
  ⟨sz_small hl, fun p hp => h p _ hp (fun b o e => by rw [upd_ne (ne_of_none e hp)]; exact e) upd_same (fun b hb => upd_ne hb)⟩
theorem i_tup1 {xs : List V} (hl : xs.length ≤ 100000) (h : ∀ p H2, H p = none → Same H H2 → H2 p = some (.tup xs) → (∀ b, b ≠ p → H2 b = H b) → Q (.ref p) H2) : rTup xs H Q :=
  ⟨sz_small hl, fun p hp => h p _ hp (fun b o e => by rw [upd_ne (ne_of_none e hp)]; exact e) upd_same (fun b hb => upd_ne hb)⟩
/-! attributes -/
def rFld (K : PySem.W.Frag) (f : Str) (x : V) (H1 : Hp) (Q : VK) : Prop := ∃ a C dx fs v, x = .ref a ∧ H1 a = some (.ins C dx fs) ∧ Cls K C ∧ NoAttr K C f ∧ fs.lookup f = some v ∧ Q v H1
theorem i_fld0 {f : Str} (h : ta σ H (fun x H1 => rFld K f x H1 Q)) : tFld K ta f σ H Q := h
theorem i_fld1 {f : Str} {a C dx : Addr} {fs : List (Str × V)} (e : H a = some (.ins C dx fs)) (c : Cls K C) (n : NoAttr K C f) (l : fs.lookup f = some v) (h : Q v H) : rFld K f (.ref a) H Q := ⟨a, C, dx, fs, v, rfl, e, c, n, l, h⟩
def rPut (K : PySem.W.Frag) (f : Str) (y x : V) (H2 : Hp) (Q : Hp → Prop) : Prop := ∃ a C dx fs, x = .ref a ∧ H2 a = some (.ins C dx fs) ∧ Cls K C ∧ NoAttr K C f ∧ fs.length < 1000 ∧ Q (upd H2 a (.ins C dx (putF f y fs)))
theorem i_put0 {f : Str} {tv : TE} (h : tv σ H (fun y H1 => ta σ H1 (fun x H2 => rPut K f y x H2 (fun H3 => D.nx σ H3)))) : sFld K ta tv f D σ H := h
theorem i_put1 {f : Str} {a C dx : Addr} {fs gs : List (Str × V)} {P : Hp → Prop} (e : H a = some (.ins C dx fs)) (c : Cls K C) (n : NoAttr K C f) (l : fs.length < 100) (w : putF f y fs = gs)
    (h : ∀ H2, H2 a = some (.ins C dx gs) → (∀ b, b ≠ a → H2 b = H b) → P H2) : rPut K f y (.ref a) H P :=
  ⟨a, C, dx, fs, rfl, e, c, n, by omega, by rw [w]; exact h _ upd_same (fun b hb => upd_ne hb)⟩
/-! methods, new instances -/
def rMeth (C : Addr) (m : Str) (x : V) (H1 : Hp) (P : Prop) : Prop := ∃ a dx fs, x = .ref a ∧ H1 a = some (.ins C dx fs) ∧ fs.lookup m = none ∧ P
theorem i_meth {C : Addr} {m : Str} {sp : Sp} {E : L2.St → XK} (h : ta σ H (fun x H1 => rMeth C m x H1 (tr σ H1 (fun vs H2 => sp (x :: vs) H2 Q (E σ))))) : tMethS C m sp E ta tr σ H Q := h
theorem i_meth1 {C a dx : Addr} {m : Str} {fs : List (Str × V)} {P : Prop} (e : H a = some (.ins C dx fs)) (l : fs.lookup m = none) (h : P) : rMeth C m (.ref a) H P := ⟨a, dx, fs, rfl, e, l, h⟩
def rNew (C : Addr) (sp : Sp) (vs : List V) (H1 : Hp) (Q : VK) (E : XK) : Prop := ∀ x dx, H1 x = Option.none → H1 dx = Option.none → dx ≠ x →
  sp (V.ref x :: vs) (upd (upd H1 dx (.own x)) x (.ins C dx [])) (fun v H2 => v = .non ∧ Q (.ref x) H2) (fun cls d H2 => E cls d H2)
theorem i_make {C : Addr} {sp : Sp} {E : L2.St → XK} (h : tr σ H (fun vs H1 => rNew C sp vs H1 Q (E σ))) : tMakeS C sp E tr σ H Q := h
/-! ints -/
theorem i_rI0 {f : Int → Int → V} {a b : Int} (h : Q (f a b) H) : rI0 f (.int a) (.int b) H Q := ⟨a, b, rfl, rfl, h⟩
theorem i_rI {C : Int → Int → Prop} {f : Int → Int → V} {a b : Int} (c : C a b) (h : Q (f a b) H) : rI C f (.int a) (.int b) H Q := ⟨a, b, rfl, rfl, c, h⟩
theorem i_rU {f : Int → V} {a : Int} (h : Q (f a) H) : rU f (.int a) H Q := ⟨a, rfl, h⟩
theorem i_eqI {a b : Int} (h : Q (.bl (decide (a = b))) H) : rEq (.int a) (.int b) H Q := ⟨rfl, by
  have e : decide (V.int a = V.int b) = decide (a = b) := by by_cases h : a = b <;> simp [h]
  rw [e]
  exact h⟩
theorem i_neI {a b : Int} (h : Q (.bl (!decide (a = b))) H) : rNe (.int a) (.int b) H Q := ⟨rfl, by
  have e : decide (V.int a = V.int b) = decide (a = b) := by by_cases h : a = b <;> simp [h]
  rw [e]
  exact h⟩
theorem i_eqB {a b : Bool} (h : Q (.bl (a == b)) H) : rEq (.bl a) (.bl b) H Q := ⟨rfl, by
  have e : decide (V.bl a = V.bl b) = (a == b) := by cases a <;> cases b <;> rfl
  rw [e]
  exact h⟩
theorem i_neB {a b : Bool} (h : Q (.bl (a != b)) H) : rNe (.bl a) (.bl b) H Q := ⟨rfl, by
  have e : (!decide (V.bl a = V.bl b)) = (a != b) := by cases a <;> cases b <;> rfl
  rw [e]
  exact h⟩
theorem i_eqS {a b : Str} (h : Q (.bl (decide (a = b))) H) : rEq (.str a) (.str b) H Q := ⟨rfl, by
  have e : decide (V.str a = V.str b) = decide (a = b) := by by_cases h : a = b <;> simp [h]
  rw [e]
  exact h⟩
theorem i_neS {a b : Str} (h : Q (.bl (!decide (a = b))) H) : rNe (.str a) (.str b) H Q := ⟨rfl, by
  have e : decide (V.str a = V.str b) = decide (a = b) := by by_cases h : a = b <;> simp [h]
  rw [e]
  exact h⟩
/-- // by a divisor of either sign -/
def CDivZ (_ j : Int) : Prop := j ≠ 0 ∧ j.natAbs.log2 < 9000
theorem op_fdivZ : OpR X (binaryOp .FloorDiv) (rI CDivZ fun i j => .int (i.fdiv j)) := opI fun i j _ _ _ _ _ hc q => floordiv_int hc.1 q (.inl (PyProof.noPylong_of_log2 hc.2))
theorem cdivZ {i j : Int} {n : Nat} (h : j ≠ 0) (s : ZR.Sz n j) (h0 : 0 < n := by decide) (h9 : n ≤ 9000 := by decide) : CDivZ i j := ⟨h, Nat.lt_of_lt_of_le (PySem.Flt.log2_lt_of h0 s) h9⟩
theorem cmulW {i j : Int} {n m : Nat} (s : ZR.Sz n i) (s' : ZR.Sz m j) (h0 : 0 < n := by decide) (h1 : 0 < m := by decide) (h : n + m ≤ 1000000 := by decide) : CMulW i j := wide_mul s s' h0 h1 h
/-! lists and tuples by place -/
theorem i_ixL {p : Addr} {xs : List V} {k : Nat} (s : SqL K H p xs) (e : xs[k]? = some v) (h : Q v H) : rIxL K (.ref p) (.int (k : Nat)) H Q := ⟨p, xs, _, v, rfl, rfl, s, atI_nat e, h⟩
theorem i_gcd {a b : Int} (h : Q (.int ((Nat.gcd a.natAbs b.natAbs : Nat) : Int)) H) : rGcd [.int a, .int b] H Q := ⟨a, b, rfl, h⟩
end
end Z

set_option Elab.async false
set_option linter.all false
set_option maxRecDepth 100000
set_option maxHeartbeats 4000000
/-! what is known of the text's defs, in short -/
namespace Z
open PySem PySem.Spec PyProof.Rows L2
section
variable (P : Program) (w : World) (K : PySem.W.Frag) (mg : Str → Option Value) (base : Heap)
/-- a def of the module -/
def Cal (x : Str) (k : Nat) (sp : Sp) : Prop := ∃ f, mg x = some (.ref f) ∧ PySem.W.keepIn K (.ref f) = true ∧ FnR P w K mg base (L2.CX P w) k f sp
/-- a method of the class at C -/
def CalM (C : Addr) (m : Str) (k : Nat) (sp : Sp) : Prop := ∃ f, Meth K C m f ∧ FnR P w K mg base (L2.CX P w) k f sp
/-- a class and its __init__ -/
def CalI (x : Str) (C : Addr) (k : Nat) (sp : Sp) : Prop := mg x = some (.ref C) ∧ ∃ f, Mk K C f ∧ FnR P w K mg base (L2.CX P w) k f sp
/-- an operator's def -/
def CalO (C : Addr) (n : Str) (k : Nat) (sp : Sp) : Prop := ∃ f, Spc K C n f ∧ PySem.W.selfFirst K C = true ∧ FnR P w K mg base (L2.CX P w) k f sp
/-- a classmethod -/
def CalK (C : Addr) (m : Str) (k : Nat) (sp : Sp) : Prop := ∃ mc p g, ClX.CRead K C mc ∧ ClX.CMet K C mc m p g ∧ FnR P w K mg base (L2.CX P w) k g sp
/-- an error class with its own __init__ -/
def CalX (x : Str) (C : Addr) (k : Nat) (ps : List Str) (sp : Sp) : Prop := mg x = some (.ref C) ∧ OexC K C ∧ ∃ fI fd, PySem.W.findIn K (.ref C) "__init__" = some (some (.ref fI)) ∧
  PySem.W.typeIn K (.ref fI) = some (.type "function") ∧ FnOk P w K mg base (L2.CX P w) k fI fd ps sp ∧ Binds K fd ps []
/-- the errors' common class, of which __init__ is called by name -/
def CalT (x : Str) : Prop := ∃ T mc, mg x = some (.ref T) ∧ ClX.CRead K T mc ∧ PySem.W.findCls K (.ref T) mc "__init__" = some (.val (.builtin "ValueError.__init__"))
end
section
variable {X : Cx} {k j : Nat} {C : Addr} {sp : Sp} {E : L2.St → XK} {x m : Str} {p pos apos : Pos} {e o : Expr} {es : List Expr} {ta te : TE} {t : TA}
theorem z_callC (c : Cal X.prog X.w X.K X.mg X.base x k sp) (hr : Room j X.A) (hx : ∀ σ, PassesAt (L2.CX X.prog X.w) X σ (E σ)) (ha : PA X (e :: es) t) (hj : k ≤ j := by decide) (hg : Gl X x := by rfl)
    (hdb : (x == ("__debug__" : Str)) = false := by decide) (he : starEach (e :: es) X.env = (false, eval e X.env) :: starEach es X.env := by rfl)
    (hpl : (backTo pos (starEach es X.env)).any (·.1) = false := by rfl) : PE X (.Call (.Name x p) (e :: es) [] pos) (tCallS sp E t) := by
  obtain ⟨f, hm, hk, F⟩ := c
  exact z_call F (hr.mono hj) hm hk hx ha hg hdb he hpl
theorem z_call0C (c : Cal X.prog X.w X.K X.mg X.base x k sp) (hr : Room j X.A) (hx : ∀ σ, PassesAt (L2.CX X.prog X.w) X σ (E σ)) (hj : k ≤ j := by decide) (hg : Gl X x := by rfl)
    (hdb : (x == ("__debug__" : Str)) = false := by decide) : PE X (.Call (.Name x p) [] [] pos) (tCallS sp E tNil) := by
  obtain ⟨f, hm, hk, F⟩ := c
  exact z_call0 F (hr.mono hj) hm hk hx hg hdb
theorem z_makeC (c : CalI X.prog X.w X.K X.mg X.base x C k sp) (hr : Room j X.A) (hx : ∀ σ, PassesAt (L2.CX X.prog X.w) X σ (E σ)) (ha : PA X (e :: es) t) (hj : k + 1 ≤ j := by decide) (hg : Gl X x := by rfl)
    (hdb : (x == ("__debug__" : Str)) = false := by decide) (he : starEach (e :: es) X.env = (false, eval e X.env) :: starEach es X.env := by rfl)
    (hpl : (backTo pos (starEach es X.env)).any (·.1) = false := by rfl) : PE X (.Call (.Name x p) (e :: es) [] pos) (tMakeS C sp E t) := by
  obtain ⟨hm, f, M, F⟩ := c
  exact z_make M F (hr.mono hj) hm hx ha hg hdb he hpl
/-- cls(e, ..), cls a local name that holds the class -/
def tMakeL (i : Nat) (C : Addr) (sp : Sp) (E : L2.St → XK) (t : TA) : TE := fun σ H Q => σ[i]? = some (some (.ref C)) ∧ tMakeS C sp E t σ H Q
theorem z_makeL {i : Nat} {y : Str} (c : CalI X.prog X.w X.K X.mg X.base y C k sp) (hr : Room j X.A) (hx : ∀ σ, PassesAt (L2.CX X.prog X.w) X σ (E σ)) (ha : PA X (e :: es) t) (hj : k + 1 ≤ j := by decide)
    (hN : X.N[i]? = some x := by rfl) (hv : Vis X.env.scope x := by first | exact Or.inl rfl | exact Or.inr (Or.inl rfl) | exact Or.inr (Or.inr rfl))
    (hdb : (x == ("__debug__" : Str)) = false := by decide) (hcd : (x == ("__classdict__" : Str)) = false := by decide)
    (he : starEach (e :: es) X.env = (false, eval e X.env) :: starEach es X.env := by rfl)
    (hpl : (backTo pos (starEach es X.env)).any (·.1) = false := by rfl) : PE X (.Call (.Name x p) (e :: es) [] pos) (tMakeL i C sp E t) := by
  obtain ⟨hm, f, M, F⟩ := c
  constructor
  intro pins s σ H Q I h
  obtain ⟨hs, h⟩ := h
  apply wpAny_Call_Name_kw
  refine thn ((pe_var (pos := p) (i := i) hN hv hdb hcd).run pins s σ H (fun v H1 => v = .ref C ∧ H1 = H) I ⟨.ref C, hs, rfl, rfl⟩) fun u s1 hh => ?_
  obtain ⟨v, H1, I1, r1, ev, eH⟩ := hh
  subst ev
  rw [eH] at I1
  obtain rfl : u = Value.ref C := r1
  apply PySem.W.callWith_K (h₀ := X.base) I.ok.mod.kin M.kp _ he hpl
  refine thn (ha.run pos pins s1 σ H _ I1 h) fun us s2 hh => ?_
  obtain ⟨vs, H2, I2, r, q⟩ := hh
  exact ⟨I2.kIn, runMake M F (hr.mono hj) hx I2 r q⟩
theorem z_methC {pl : Sem Bool} (he : PE X o ta) (c : Cls X.K C) (d : CalM X.prog X.w X.K X.mg X.base C m k sp) (hr : Room j X.A) (hx : ∀ σ, PassesAt (L2.CX X.prog X.w) X σ (E σ)) (ha : PA X (e :: es) t) (hj : k ≤ j := by decide)
    (hst : starEach (e :: es) X.env = (false, eval e X.env) :: starEach es X.env := by rfl)
    (hpl : (backTo pos (starEach es X.env)).any (·.1) = false := by rfl)
    (ht : eval (.Call (.Attribute o m apos) (e :: es) [] pos) X.env = (do
      let ov ← eval o X.env
      standAt apos.atName
      let (f, first) ← holding [ov] (getMethod ov m pl)
      callWith pos f first (backTo pos (starEach (e :: es) X.env)) (backToKw pos (keywordEach [] X.env))) := by rfl) :
    PE X (.Call (.Attribute o m apos) (e :: es) [] pos) (tMethS C m sp E ta t) := by
  obtain ⟨f, hm, F⟩ := d
  exact z_meth he c hm F (hr.mono hj) hx ha hst hpl ht
theorem z_meth0C {pl : Sem Bool} (he : PE X o ta) (c : Cls X.K C) (d : CalM X.prog X.w X.K X.mg X.base C m k sp) (hr : Room j X.A) (hx : ∀ σ, PassesAt (L2.CX X.prog X.w) X σ (E σ)) (hj : k ≤ j := by decide)
    (ht : eval (.Call (.Attribute o m apos) [] [] pos) X.env = (do
      let ov ← eval o X.env
      standAt apos.atName
      let (f, first) ← holding [ov] (getMethod ov m pl)
      callWith pos f first (backTo pos (starEach [] X.env)) (backToKw pos (keywordEach [] X.env))) := by rfl) :
    PE X (.Call (.Attribute o m apos) [] [] pos) (tMethS C m sp E ta tNil) := by
  obtain ⟨f, hm, F⟩ := d
  exact z_meth0 he c hm F (hr.mono hj) hx ht
/-- C.m(e, ..), m a classmethod -/
def tCMethS (C : Addr) (sp : Sp) (E : L2.St → XK) (ta : TE) (t : TA) : TE := fun σ H Q => ta σ H fun x H1 => x = .ref C ∧ t σ H1 fun vs H2 => sp (.ref C :: vs) H2 Q (E σ)
theorem z_cmethC {pl : Sem Bool} (ho : PE X o ta) (d : CalK X.prog X.w X.K X.mg X.base C m k sp) (hr : Room j X.A) (hx : ∀ σ, PassesAt (L2.CX X.prog X.w) X σ (E σ)) (ha : PA X (e :: es) t) (hj : k ≤ j := by decide)
    (hst : starEach (e :: es) X.env = (false, eval e X.env) :: starEach es X.env := by rfl)
    (hpl : (backTo pos (starEach es X.env)).any (·.1) = false := by rfl)
    (ht : eval (.Call (.Attribute o m apos) (e :: es) [] pos) X.env = (do
      let ov ← eval o X.env
      standAt apos.atName
      let (f, first) ← holding [ov] (getMethod ov m pl)
      callWith pos f first (backTo pos (starEach (e :: es) X.env)) (backToKw pos (keywordEach [] X.env))) := by rfl) :
    PE X (.Call (.Attribute o m apos) (e :: es) [] pos) (tCMethS C sp E ta t) := by
  obtain ⟨mc, pp, g, r, c, F⟩ := d
  constructor
  intro pins s σ H Q I h
  refine PySem.W.methodCall_KW (pl := pl) (thn (ho.run pins s σ H _ I h) fun u s1 hh => ?_) ht
  obtain ⟨x, H1, I1, rx, ex, q⟩ := hh
  subst ex
  obtain rfl : u = Value.ref C := rx
  apply ClX.getmethcm_ok I1 r c
  intro s2 I2
  apply ClX.callwith_cm I2 (ClX.base_none I1 (Nat.le_refl _)) c.fi _ hst hpl
  refine thn (ha.run pos _ s2 σ H1 _ I2 q) fun us s3 hh => ?_
  obtain ⟨vs, H2, I3, rv, q2⟩ := hh
  refine ⟨⟨ClX.pin_at I3, I3.kIn⟩, ?_⟩
  have z : wpAny (model X.prog X.w) X.A (call (.ref s1.heap.objs.size) us) (EP X ((s1.heap.objs.size, PySem.W.methodObj (.ref g) (.ref C)) :: pins) σ Q) X.xe s3 := by
    refine wpAny_call (PySem.W.method_call (ClX.pin_at I3) ?_)
    refine codeAny_mono (F X.A X.stack s3 H2 (.ref C :: us) (.ref C :: vs) Q (E σ) (hr.mono hj) I3.env0 (.cons rfl rv) q2) fun a s' hq => ?_
    rcases a with er | fl
    · exact hx σ _ H2 s3 er s' I3 hq
    · rcases fl with _ | _ | _ | v
      · exact False.elim hq
      · exact False.elim hq
      · exact False.elim hq
      · exact I3.after hq
  exact thn z fun _ _ y => ClX.unpinE y
/-! operators -/
theorem z_op {op : Operator} {nm : Str} (c : CalO X.prog X.w X.K X.mg X.base C nm k sp) (hr : Room j X.A) (hj : k ≤ j := by decide) (hn : nm = PySem.dunder op.info.2 := by rfl) : OpR X (binaryOp op) (rOwn C sp) := by
  obtain ⟨f, S, sf, F⟩ := c
  exact op_own F (hr.mono hj) sf (by rw [← hn]; exact S)
theorem z_neg (c : CalO X.prog X.w X.K X.mg X.base C "__neg__" k sp) (hr : Room j X.A) (hj : k ≤ j := by decide) : UnR X (unaryOp .USub) (rOwn1 C sp) := by
  obtain ⟨f, S, sf, F⟩ := c
  exact un_own F (hr.mono hj) S
theorem z_eqO (c : CalO X.prog X.w X.K X.mg X.base C "__eq__" k sp) (hr : Room j X.A) (hj : k ≤ j := by decide) : OpR X (compareOp .Eq) (rOwnC X.K C sp) := by
  obtain ⟨f, S, sf, F⟩ := c
  exact op_eqOwn F (hr.mono hj) S
def rOwnN (K : PySem.W.Frag) (C : Addr) (sp : Sp) : R2 := fun x y H Q => ∃ a dx fs t, x = .ref a ∧ H a = some (.ins C dx fs) ∧ Side K C H y t ∧ PySem.W.notFirst K C t = true ∧
      sp [x, y] H (fun v H' => ∃ r, v = .bl r ∧ Q (.bl (!r)) H') (fun _ _ _ => False)
theorem z_neO (c : CalO X.prog X.w X.K X.mg X.base C "__eq__" k sp) (n : NeC X.K C) (hr : Room j X.A) (hj : k + 1 ≤ j := by decide) : OpR X (compareOp .NotEq) (rOwnN X.K C sp) := by
  obtain ⟨f, S, sf, F⟩ := c
  exact op_neOwn F (hr.mono hj) S n
theorem z_bool (c : CalO X.prog X.w X.K X.mg X.base C "__bool__" k sp) (hr : Room j X.A) (hj : k + 2 ≤ j := by decide) : CallR X (.type "bool") (rBoolOwn C sp) := by
  obtain ⟨f, S, sf, F⟩ := c
  exact call_boolOwn F (hr.mono hj) S
/-! errors -/
theorem z_mkX {ps : List Str} (c : CalX X.prog X.w X.K X.mg X.base x C k ps sp) (hr : Room j X.A) (ha : PA X (e :: es) t) (hj : k + 1 ≤ j := by decide) (hg : Gl X x := by rfl)
    (hdb : (x == ("__debug__" : Str)) = false := by decide) (he : starEach (e :: es) X.env = (false, eval e X.env) :: starEach es X.env := by rfl)
    (hpl : (backTo pos (starEach es X.env)).any (·.1) = false := by rfl) : PMk X (.Call (.Name x p) (e :: es) [] pos) (tMkO C sp [] t) := by
  obtain ⟨hm, T, fI, fd, iC, tI, F, b⟩ := c
  exact pmk_oex T iC tI F (hr.mono hj) b .nil passL hg hm ha hdb he hpl
/-- ThrowError.__init__(self, ..) -/
theorem z_tinit {p1 p2 : Pos} {pl : Sem Bool} (hg : Gl X x) (c : CalT X.K X.mg x) (ha : PA X (e :: es) t)
    (hc : eval (.Call (.Attribute (.Name x p1) "__init__" p2) (e :: es) [] pos) X.env = (do
      let ov ← eval (.Name x p1) X.env
      standAt p2.atName
      let (f, first) ← holding [ov] (getMethod ov "__init__" pl)
      callWith pos f first (backTo pos (starEach (e :: es) X.env)) (backToKw pos (keywordEach [] X.env))) := by rfl)
    (hdb : (x == ("__debug__" : Str)) = false := by decide) (he : starEach (e :: es) X.env = (false, eval e X.env) :: starEach es X.env := by rfl)
    (hpl : (backTo pos (starEach es X.env)).any (·.1) = false := by rfl) :
    PE X (.Call (.Attribute (.Name x p1) "__init__" p2) (e :: es) [] pos) (tVeI X.K t) := by
  obtain ⟨T, mc, hm, r, vV⟩ := c
  constructor
  intro pins s σ H Q I h
  refine PySem.W.methodCall_KW (ld_glob I hg hm ?_ hdb) hc
  apply PySem.W.method_cls I.kIn r.ga
  apply PySem.W.cls_value I.kIn r.rd vV (by decide +kernel)
  show wpAny _ _ (callWith pos (Value.builtin "ValueError.__init__") [] (backTo pos (starEach (e :: es) X.env)) []) _ _ _
  refine PyProof.Rows.callWith_method1 (thn (ha.run pos pins _ σ H _ (I.tok _) h) fun us s1 hh => ?_) he hpl
  obtain ⟨vs, H1, I1, r1, a, C, ws, ev, hl, T', ea, q⟩ := hh
  subst ev
  cases r1 with
  | @cons _ u0 _ ur ra rw' =>
    obtain rfl : u0 = Value.ref a := ra
    have hlen : ur.length ≤ sizeLine := by
      rw [← Paired.length rw', sizeLine_eq]
      omega
    exact oinit_ok T' I1 ea hlen fun s' J => ⟨.non, H1, J, rfl, q⟩
end
/-! a def by its body -/
section
variable {P : Program} {w : World} {K : PySem.W.Frag} {mg : Str → Option Value} {base : Heap}
theorem fnOk_mk {x qual : Str} {st : Stmt} {f : Addr} {fd : FuncData} {N ps : List Str} {k : Nat} {sp : Sp} (F : L2.Fun K x qual st f fd) (S : FnScope N ps (defScope st)) (len : ∀ vs H Q E, sp vs H Q E → vs.length = ps.length)
    (hbody : ∀ (cdv : Value) (A : Around) (outer : List Env) (s : Shared) (H : Hp) (vs : List V) (Q : VK) (E : XK), Room k (A.deeper (envOfC qual (defScope st) s.heap.objs.size f cdv)) → sp vs H Q E →
      ∃ t, PSs (cxOf (L2.CX P w) P w K mg base N qual (defScope st) f cdv A outer s H E) (defBody st) t ∧ t { nx := fun _ H' => Q .non H', rt := Q } (start N vs) H) : FnOk P w K mg base (L2.CX P w) (k + 1) f fd ps sp :=
  F.okX S len hbody
theorem fnR_of {f : Addr} {fd : FuncData} {ps : List Str} {k : Nat} {sp : Sp} (F : FnOk P w K mg base (L2.CX P w) k f fd ps sp) (b : Binds K fd ps []) : FnR P w K mg base (L2.CX P w) k f sp := by
  have h := F.raw b .nil
  refine h.imp fun vs H Q E q => ?_
  rw [List.append_nil]
  exact q
end
end Z

set_option Elab.async false
set_option linter.all false
set_option maxRecDepth 100000
set_option maxHeartbeats 4000000
/-! in, not in over a list, by an own == -/
namespace Z
open PySem PySem.Spec PyProof.Rows L2
section
open PySem.SeqAt AutoSeq1 MeetsSeq MeetsSeq2 MeetsSeq3 SeqRoads2
variable {prog : Program} {w : World} {A : Around} {R : Result → Shared → Prop}
/-- turn i: the list stands, and == of its i-th item and x says r -/
def LookI (prog : Program) (w : World) (A : Around) (R : Result → Shared → Prop) (l : Addr) (x : Value) (N : Nat) (I : Nat → Shared → Prop) : Prop :=
  ∀ i s, I i s → ∃ (its : Array Value) (n : Nat), s.heap.get? l = some { cls := .type "list", data := .seq its n } ∧ its.size = N ∧
    ∀ h1 : i < its.size, wpAny (model prog w) A.in1 (eqBool its[i] x) (fun r s' => if r = true then R (.ok (.ret (.bool true))) s' else I (i + 1) s') (fun e s' => R (.error e) s') s
theorem lookLoop (l : Addr) (x : Value) (N : Nat) (I : Nat → Shared → Prop) (hl : LookI prog w A R l x N I)
    (fin : ∀ s, I N s → R (.ok (.ret (.bool false))) s) (k : Nat) : ∀ i : Nat, N - i = k → i ≤ N → ∀ s, I i s →
      wpAny (model prog w) A.in1 (Builtin.«list.__contains__.loop» ⟨[.ref l, x, rawInt i], []⟩) (GQ.FinOf prog w A R) (fun e s' => R (.error e) s') s := by
  induction k with
  | zero =>
    intro i hk hi s h
    obtain ⟨its, n, e1, e2, _⟩ := hl _ _ h
    have hN : i = N := by omega
    have last : R (.ok (.ret (.bool false))) s := fin s (hN ▸ h)
    obtain ⟨hp, g, d, tk, os⟩ := s
    wp_walk using wpAny_loadPart' e1
    have out : its[((i : Nat) : Int).toNat]? = none := by simp; omega
    rw [out]
    wp_walk
    exact last
  | succ k ih =>
    intro i hk hi s h
    obtain ⟨its, n, e1, e2, turn⟩ := hl _ _ h
    have lt : i < its.size := by omega
    have one := turn lt
    obtain ⟨hp, g, d, tk, os⟩ := s
    wp_walk using wpAny_loadPart' e1
    have at_ : its[((i : Nat) : Int).toNat]? = some its[i] := by simp [lt]
    have nx : ((i : Int) + 1) = ((i + 1 : Nat) : Int) := by omega
    rw [at_]
    refine wpAny_bind (wpAny_mono one (fun r s2 q => ?_) fun _ _ z => z)
    cases r with
    | true =>
      rw [if_pos rfl] at q
      wp_walk
      exact q
    | false =>
      rw [if_neg Bool.false_ne_true] at q
      have rec_ := ih (i + 1) (by omega) (by omega) s2 q
      obtain ⟨hp2, g2, d2, tk2, os2⟩ := s2
      wp_walk
      rw [nx]
      refine ⟨plainId_quiet plain_contains_loop _, codeAny_builtin entry_contains_loop ?_⟩
      rw [Around.under_plainId plain_contains_loop _]
      exact rec_
theorem lookList {E : Value → Shared → Prop} {s : Shared} {Q : Value → Shared → Prop} (l : Addr) (x : Value) (N : Nat) (I : Nat → Shared → Prop) (hl : LookI prog w A (wants Q E) l x N I)
    (fin : ∀ s, I N s → Q (.bool false) s) (h : I 0 s) : wpAny (model prog w) A (call (.builtin "list.__contains__") [.ref l, x]) Q E s := by
  obtain ⟨its, n, e1, e2, _⟩ := hl _ _ h
  refine GQ.call_here F.slot_list_contains ⟨_, e1, rfl⟩ F.entry_list_contains (F.args_list_contains_2 _ _) ?_
  have go := lookLoop (A := A) (R := wants Q E) l x N I hl (fun s q => fin s q) _ 0 rfl (Nat.zero_le _) s h
  obtain ⟨hp, g, d, tk, os⟩ := s
  wp_walk using wpAny_loadPart' e1
  refine ⟨plainId_quiet plain_contains_loop _, codeAny_builtin entry_contains_loop ?_⟩
  rw [Around.under_plainId plain_contains_loop _]
  exact go
end
section
variable {X : Cx} {k : Nat} {C : Addr} {sp : Sp}
/-- what == of two instances says here: some bool, and the objects stand -/
def EqSome (C : Addr) (sp : Sp) (H : Hp) (y x : V) : Prop := ∀ H', Same H H' → ∃ a dx fs b dy gs, y = .ref a ∧ x = .ref b ∧ H' a = some (.ins C dx fs) ∧ H' b = some (.ins C dy gs) ∧
  sp [y, x] H' (fun v H2 => (∃ r, v = .bl r) ∧ Same H' H2) (fun _ _ _ => False)
/-- x in xs, where x itself stands in xs -/
def rInO (C : Addr) (sp : Sp) (b : Bool) : R2 := fun x y H Q => ∃ p xs, y = .ref p ∧ H p = some (.lst xs) ∧ x ∈ xs ∧ (∀ z ∈ xs, EqSome C sp H z x) ∧ ∀ H', Same H H' → Q (.bl b) H'
theorem inO_run (c : CalO X.prog X.w X.K X.mg X.base C "__eq__" k sp) (hr : Room (k + 2) X.A) {pins : List (Addr × Obj)} {s : Shared} {σ : L2.St} {H : Hp} {x : V} {u : Value} {p : Addr} {xs : List V} (I : Inv X pins σ H s)
    (rx : RelV x u) (hp : H p = some (.lst xs)) (hx : x ∈ xs) (hz : ∀ z ∈ xs, EqSome C sp H z x) :
    wpAny (model X.prog X.w) X.A (call (.builtin "list.__contains__") [.ref p, u]) (fun v s' => v = .bool true ∧ ∃ H', Inv X pins σ H' s' ∧ Same H H') X.xe s := by
  obtain ⟨f, S, sf, F⟩ := c
  have hr1 : Room k X.A.in1 := hr.in1.mono (Nat.le_succ k)
  obtain ⟨j, hj⟩ := List.mem_iff_getElem?.mp hx
  refine lookList p u xs.length (fun i s' => (∃ H', Inv X pins σ H' s' ∧ Same H H') ∧ i ≤ j) (fun i s' hi => ?_) (fun s' hi => ?_) ⟨⟨H, I, Same.refl H⟩, Nat.zero_le _⟩
  · obtain ⟨⟨H', I', sm⟩, ij⟩ := hi
    obtain ⟨_, its, n, rv, e⟩ := (show ObjOk X.prog X.w H' s'.heap p (.lst xs) from I'.hok p _ (sm _ _ hp))
    refine ⟨its.toArray, n, e, by rw [List.size_toArray, ← rv.length], fun h1 => ?_⟩
    have h1' : i < xs.length := by rw [rv.length]; simpa using h1
    obtain ⟨v, hv, rz⟩ := rv.get (List.getElem?_eq_getElem h1')
    have ev : its.toArray[i] = v := by
      have h2 : i < its.length := by simpa using h1
      rw [List.getElem?_eq_getElem h2] at hv
      simpa using Option.some.inj hv
    rw [ev]
    obtain ⟨a, dx, fs, b, dy, gs, ey, ex, ha, hb, hsp⟩ := hz _ (List.getElem_mem h1') H' sm
    rw [ey] at rz
    subst ex
    obtain rfl : v = Value.ref a := rz
    obtain rfl : u = Value.ref b := rx
    by_cases hab : a = b
    · subst hab
      exact SeqAt.EqAt.same (A := X.A.in1) (s := s') (.ref a) X.prog X.w _ _ (by
        rw [if_pos rfl]
        exact ⟨rfl, H', I', sm⟩)
    · have ij' : i ≠ j := by
        rintro rfl
        rw [List.getElem?_eq_getElem h1', ey] at hj
        cases hj
        exact hab rfl
      refine GQ.eqBool_refG hab ?_
      obtain ⟨ox, od, Ja⟩ := instAt I' ha
      obtain ⟨oy, oe, Jb⟩ := instAt I' hb
      obtain ⟨m, fr⟩ := I'.fr
      apply PySem.W.cmp_K (op := .Eq) (tb := .ref C) hr1.units0 fr I'.ok.mod.kin Ja Jb.type (by simp [PySem.W.notFirst]) S.at_ S.fn
      refine wpAny_call (codeAny_mono (F X.A.in1 X.stack s' H' [.ref a, .ref b] [.ref a, .ref b] _ (fun _ _ _ => False) hr1 I'.env0.in1 (.cons rfl (.cons rfl .nil)) (by rw [ey] at hsp; exact hsp)) fun q s2 hq => ?_)
      rcases q with e | fl
      · exact (cxN hq).elim
      rcases fl with _ | _ | _ | u'
      · exact False.elim hq
      · exact False.elim hq
      · exact False.elim hq
      obtain ⟨v', H2, I2, rv', ⟨r, er⟩, sm2⟩ := I'.after hq
      subst er
      obtain rfl : u' = Value.bool r := rv'
      refine ⟨r, rfl, ?_⟩
      cases r with
      | true => exact ⟨rfl, H2, I2, sm.trans sm2⟩
      | false => exact ⟨⟨H2, I2, sm.trans sm2⟩, by omega⟩
  · have := (List.getElem?_eq_some_iff.mp hj).1
    omega
theorem z_inO (c : CalO X.prog X.w X.K X.mg X.base C "__eq__" k sp) {j : Nat} (hr : Room j X.A) (hj : k + 2 ≤ j := by decide) : OpR X (compareOp .In) (rInO C sp true) := by
  intro pins s σ H x y v u Q I rx ry h
  obtain ⟨p, xs, rfl, hp, hx, hz, q⟩ := h
  obtain rfl : u = Value.ref p := ry
  obtain ⟨_, its, n, _, e⟩ := (show ObjOk X.prog X.w H s.heap p (.lst xs) from I.hok p _ hp)
  show wpAny _ X.A (do return Value.bool (← contains (.ref p) v)) _ _ s
  refine wpAny_bind (wpAny_contains_slot ⟨_, e, rfl⟩ F.slot_list_contains (wpAny_mono (inO_run c (hr.mono hj) I rx hp hx hz) (fun r s' hv => ?_) fun _ _ z => z))
  obtain ⟨rfl, H', I', sm⟩ := hv
  exact wpAny_truthy_bool (wpAny_pure ⟨.bl true, H', I', rfl, q H' sm⟩)
theorem z_notInO (c : CalO X.prog X.w X.K X.mg X.base C "__eq__" k sp) {j : Nat} (hr : Room j X.A) (hj : k + 2 ≤ j := by decide) : OpR X (compareOp .NotIn) (rInO C sp false) := by
  intro pins s σ H x y v u Q I rx ry h
  obtain ⟨p, xs, rfl, hp, hx, hz, q⟩ := h
  obtain rfl : u = Value.ref p := ry
  obtain ⟨_, its, n, _, e⟩ := (show ObjOk X.prog X.w H s.heap p (.lst xs) from I.hok p _ hp)
  show wpAny _ X.A (do return Value.bool (!(← contains (.ref p) v))) _ _ s
  refine wpAny_bind (wpAny_contains_slot ⟨_, e, rfl⟩ F.slot_list_contains (wpAny_mono (inO_run c (hr.mono hj) I rx hp hx hz) (fun r s' hv => ?_) fun _ _ z => z))
  obtain ⟨rfl, H', I', sm⟩ := hv
  exact wpAny_truthy_bool (wpAny_pure ⟨.bl false, H', I', rfl, q H' sm⟩)
/-- xs != ys, two lists of the very same objects -/
def rNeL : R2 := fun x y H Q => ∃ a b xs, x = .ref a ∧ y = .ref b ∧ H a = some (.lst xs) ∧ H b = some (.lst xs) ∧ (∀ z ∈ xs, ∃ p, z = .ref p) ∧ Q (.bl false) H
theorem z_neL (hu : X.A.units < cLine) : OpR X (compareOp .NotEq) rNeL := by
  intro pins s σ H x y v u Q I rx ry h
  obtain ⟨a, b, xs, rfl, rfl, ha, hb, hz, q⟩ := h
  obtain rfl : v = Value.ref a := rx
  obtain rfl : u = Value.ref b := ry
  obtain ⟨_, its, n, rv, e⟩ := (show ObjOk X.prog X.w H s.heap a (.lst xs) from I.hok a _ ha)
  obtain ⟨_, its2, n2, rv2, e2⟩ := (show ObjOk X.prog X.w H s.heap b (.lst xs) from I.hok b _ hb)
  have same : ∀ {zs : List V} {us vs : List Value}, (∀ z ∈ zs, ∃ p, z = .ref p) → Vals zs us → Vals zs vs → us = vs := by
    intro zs
    induction zs with
    | nil =>
      intro us vs _ r1 r2
      cases r1; cases r2; rfl
    | cons z zs ih =>
      intro us vs hz r1 r2
      cases r1 with
      | cons a1 t1 =>
        cases r2 with
        | cons a2 t2 =>
          obtain ⟨p, ep⟩ := hz z (by simp)
          subst ep
          cases a1; cases a2
          rw [ih (fun z h => hz z (by simp [h])) t1 t2]
  obtain rfl := same hz rv rv2
  show wpAny _ X.A (richCompare .NotEq _ _) _ _ s
  refine SeqAt.RcNeAt.lists (e := fun _ => true) ⟨_, e, rfl, n, rfl⟩ ⟨_, e2, rfl, n2, rfl⟩ rfl hu (fun j h1 h2 => SeqAt.EqAt.same _) X.prog X.w _ _ ?_
  refine ⟨.bl false, H, I, ?_, q⟩
  have : (List.range its.toArray.size).all (fun _ => true) = true := by simp
  rw [this]
  rfl
end
end Z

set_option Elab.async false
set_option linter.all false
set_option maxRecDepth 100000
set_option maxHeartbeats 4000000
/-! ratios: what stands for them, and what their defs promise -/
namespace Z
open PySem PySem.Spec PyProof.Rows L2
/-- an own class whose instances are asked by isinstance -/
structure ClO (K : PySem.W.Frag) (C : Addr) : Prop extends Cls K C where
  ha : PySem.W.findIn K (.ref C) "__class__" = some (some (.builtin "object.__class__"))
  hn : PySem.W.specialIn K (.builtin "object.__class__") "__get__" = some (some (.builtin "getset_descriptor.__get__"))
  htk : PySem.W.takesIn K (.builtin "object.__class__") = some true
  hm : PySem.W.mroIn K C (.type "object") = some true
theorem ClO.ty {K : PySem.W.Frag} {C a dx : Addr} {H : Hp} {fs : List (Str × V)} (c : ClO K C) (e : H a = some (.ins C dx fs)) : TyX K H (.ref a) (.ref C) := .base (.ins e c.toCls c.ha c.hn c.htk c.hm)
theorem Same.at {H H' : Hp} {a : Addr} {o : HO} (s : Same H H') (e : H a = some o) : H' a = some o := s a o e
theorem Same.of_ne {H H' : Hp} {p : Addr} (hp : H p = none) (h : ∀ b, b ≠ p → H' b = H b) : Same H H' := fun b o e => (h b (ne_of_none e hp)).trans e

/-! ### an error with one attribute, made and raised -/
def rMkO (C : Addr) (sp : Sp) (vs : List V) (H1 : Hp) (Q : XK) : Prop := vs.length ≤ 1000 ∧ ∀ a, H1 a = none → sp (.ref a :: (vs ++ [])) (upd H1 a (exo a C none))
  (fun v H2 => v = .non ∧ ∃ (d : Addr) (fs : List (Str × V)), H2 a = some (exo a C (some d)) ∧ H2 d = some (exd d fs) ∧ H1 d = none ∧ Q (.ref C) (some d) (upd (del H2 a) d (.xd fs))) (fun _ _ _ => False)
theorem i_mkO {C : Addr} {sp : Sp} {ta : TA} {σ : L2.St} {H : Hp} {Q : XK} (h : ta σ H (fun vs H1 => rMkO C sp vs H1 Q)) : tMkO C sp [] ta σ H Q := h
/-- __init__ keeps the one argument under the name f -/
def spX1 (K : PySem.W.Frag) (C : Addr) (f : Str) (G : V → Hp → Prop) : Sp := fun vs H Q _ => vs.length = 2 ∧ ∃ a v, vs = [.ref a, v] ∧ H a = some (exo a C none) ∧ G v H ∧
  ∀ dx H1, H dx = none → dx ≠ a → Same H H1 → H1 dx = none → Q .non (upd (upd H1 dx (exd dx [(f, v)])) a (exo a C (some dx)))
theorem i_mkX1 {K : PySem.W.Frag} {C : Addr} {f : Str} {G : V → Hp → Prop} {v : V} {H : Hp} {Q : XK} (g : ∀ H', Same H H' → G v H') (h : ∀ d H', H d = none → Same H H' → H' d = some (.xd [(f, v)]) → Q (.ref C) (some d) H') :
    rMkO C (spX1 K C f G) [v] H Q := by
  refine ⟨by show 1 ≤ 1000; decide, fun a ha => ?_⟩
  have s0 : Same H (upd H a (exo a C none)) := fun b o e => by rw [upd_ne (ne_of_none e ha)]; exact e
  refine ⟨rfl, a, v, rfl, upd_same, g _ s0, fun dx H1 hd hne sm hd1 => ?_⟩
  have hdH : H dx = none := by rw [upd_ne hne] at hd; exact hd
  refine ⟨rfl, dx, [(f, v)], upd_same, by rw [upd_ne hne, upd_same], hdH, h dx _ hdH (fun b o e => ?_) upd_same⟩
  have nb : b ≠ dx := ne_of_none e hdH
  have na : b ≠ a := ne_of_none e ha
  rw [upd_ne nb, del_ne na, upd_ne na, upd_ne nb]
  exact sm b o (s0 b o e)

/-! ### f-strings, by parts -/
def rFmt (x : V) (H1 : Hp) (Q : VK) : Prop := (∃ y : Str, x = .str y ∧ y.length ≤ sizeLine ∧ Q (.str y) H1) ∨ ∃ i : Int, x = .int i ∧ i.natAbs.log2 < 1920 ∧ Q (.str (toString i)) H1
theorem i_fmt {te : TE} {σ : L2.St} {H : Hp} {Q : VK} (h : te σ H (fun x H1 => rFmt x H1 Q)) : tFmt te σ H Q := h
theorem i_fmtS {y : Str} {H : Hp} {Q : VK} (l : y.length ≤ sizeLine) (h : Q (.str y) H) : rFmt (.str y) H Q := .inl ⟨y, rfl, l, h⟩

/-! ### ratios -/
def rf (q : Rat) : List (Str × V) := [("top", .int q.num), ("bottom", .int (q.den : Int))]
def IsR (CR : Addr) (H : Hp) (a : Addr) (q : Rat) : Prop := ∃ dx, H a = some (.ins CR dx (rf q))
theorem IsR.mono {CR a : Addr} {H H' : Hp} {q : Rat} (s : Same H H') (h : IsR CR H a q) : IsR CR H' a q := let ⟨dx, e⟩ := h; ⟨dx, s _ _ e⟩
theorem rf_top (q : Rat) : (rf q).lookup ("top" : Str) = some (V.int q.num) := by unfold rf; simp [List.lookup]
theorem rf_bot (q : Rat) : (rf q).lookup ("bottom" : Str) = some (V.int (q.den : Int)) := by
  have h : (("bottom" : Str) == "top") = false := by decide +kernel
  unfold rf
  simp [List.lookup, h]
theorem rf_no {m : Str} (q : Rat) (h1 : (m == ("top" : Str)) = false) (h2 : (m == ("bottom" : Str)) = false) : (rf q).lookup m = none := by
  unfold rf
  simp [List.lookup, h1, h2]
theorem rf_put1 (v : V) : putF "top" v [] = [(("top" : Str), v)] := rfl
theorem rf_put2 (v u : V) : putF "bottom" v [(("top" : Str), u)] = [(("top" : Str), u), (("bottom" : Str), v)] := by
  show (if ("top" : Str) = "bottom" then _ else (("top" : Str), u) :: putF "bottom" v []) = _
  rw [if_neg (by decide +kernel)]
  rfl
theorem i_top {K : PySem.W.Frag} {CR a : Addr} {H : Hp} {q : Rat} {Q : VK} (h : IsR CR H a q) (c : ClO K CR) (n : NoAttr K CR "top") (k : Q (.int q.num) H) : rFld K "top" (.ref a) H Q :=
  let ⟨_, e⟩ := h; i_fld1 e c.toCls n (rf_top q) k
theorem i_bot {K : PySem.W.Frag} {CR a : Addr} {H : Hp} {q : Rat} {Q : VK} (h : IsR CR H a q) (c : ClO K CR) (n : NoAttr K CR "bottom") (k : Q (.int (q.den : Int)) H) : rFld K "bottom" (.ref a) H Q :=
  let ⟨_, e⟩ := h; i_fld1 e c.toCls n (rf_bot q) k

/-- the error of a bottom 0 -/
def EBad (CB : Addr) (n : Int) (H : Hp) (E : XK) : Prop := ∀ d H', Same H H' → H' d = some (.xd [("n", .int n)]) → E (.ref CB) (some d) H'
def spRInit (CR CB : Addr) : Sp := fun vs H Q E => vs.length = 3 ∧ ∃ a t b, vs = [.ref a, .int t, .int b] ∧ (∃ dx, H a = some (.ins CR dx [])) ∧ (b = 0 ∨ ZR.Sz 8000 b) ∧
  (b = 0 → EBad CB 0 H E) ∧ (b ≠ 0 → ∀ H', IsR CR H' a ((t : Rat) / (b : Rat)) → (∀ x, x ≠ a → H' x = H x) → Q .non H')
/-- Ratio(t, b) with b other than 0 -/
theorem i_newR {CR CB : Addr} {t b : Int} {H : Hp} {Q : VK} {E : XK} (hb : b ≠ 0) (hz : ZR.Sz 8000 b) (h : ∀ p H', H p = none → Same H H' → IsR CR H' p ((t : Rat) / (b : Rat)) → Q (.ref p) H') :
    rNew CR (spRInit CR CB) [.int t, .int b] H Q E := by
  intro x dx hx hdx hne
  refine ⟨rfl, x, t, b, rfl, ⟨dx, upd_same⟩, .inr hz, fun h0 => absurd h0 hb, fun _ H' hr hs => ⟨rfl, h x H' hx (fun c o e => ?_) hr⟩⟩
  have n1 : c ≠ x := ne_of_none e hx
  rw [hs c n1, upd_ne n1, upd_ne (ne_of_none e hdx)]
  exact e
/-- Ratio(t, 0) -/
theorem i_newR0 {CR CB : Addr} {t : Int} {H : Hp} {Q : VK} {E : XK} (h : EBad CB 0 H E) : rNew CR (spRInit CR CB) [.int t, .int 0] H Q E := by
  intro x dx hx hdx hne
  refine ⟨rfl, x, t, 0, rfl, ⟨dx, upd_same⟩, .inl rfl, fun _ d H' s e => h d H' (fun c o e => s c o ?_) e, fun h0 => absurd rfl h0⟩
  rw [upd_ne (ne_of_none e hx), upd_ne (ne_of_none e hdx)]
  exact e
/-- a def of two ratios that hands back a new one -/
def spR2 (CR : Addr) (f : Rat → Rat → Rat) : Sp := fun vs H Q _ => vs.length = 2 ∧ ∃ a b p q, vs = [.ref a, .ref b] ∧ IsR CR H a p ∧ IsR CR H b q ∧ ZR.Bd 2000 p ∧ ZR.Bd 2000 q ∧
  ∀ c H', H c = none → Same H H' → IsR CR H' c (f p q) → Q (.ref c) H'
def spR1 (CR : Addr) (f : Rat → Rat) : Sp := fun vs H Q _ => vs.length = 1 ∧ ∃ a p, vs = [.ref a] ∧ IsR CR H a p ∧ ZR.Bd 2000 p ∧
  ∀ c H', H c = none → Same H H' → IsR CR H' c (f p) → Q (.ref c) H'
/-- the other side of ==: another ratio, or no ratio -/
def spREq (K : PySem.W.Frag) (CR : Addr) : Sp := fun vs H Q _ => vs.length = 2 ∧ ∃ a p y, vs = [.ref a, y] ∧ IsR CR H a p ∧
  ((∃ b q, y = .ref b ∧ IsR CR H b q ∧ ∀ H', Same H H' → Q (.bl (decide (p = q))) H') ∨
   (∃ t, TyX K H y t ∧ PySem.W.kitOne K t (.ref CR) = some false ∧ ∀ H', Same H H' → Q (.bl false) H'))
def spRBool (CR : Addr) : Sp := fun vs H Q _ => vs.length = 1 ∧ ∃ a p, vs = [.ref a] ∧ IsR CR H a p ∧ ∀ H', Same H H' → Q (.bl (decide (p ≠ 0))) H'
def spRUnder (CR : Addr) : Sp := fun vs H Q _ => vs.length = 2 ∧ ∃ a b p q, vs = [.ref a, .ref b] ∧ IsR CR H a p ∧ IsR CR H b q ∧ ZR.Bd 2000 p ∧ ZR.Bd 2000 q ∧
  ∀ H', Same H H' → Q (.bl (decide (p < q))) H'
def spRQuot (CR CB : Addr) : Sp := fun vs H Q E => vs.length = 2 ∧ ∃ a b p q, vs = [.ref a, .ref b] ∧ IsR CR H a p ∧ IsR CR H b q ∧ ZR.Bd 2000 p ∧ ZR.Bd 2000 q ∧
  (q = 0 → EBad CB 0 H E) ∧ (q ≠ 0 → ∀ c H', H c = none → Same H H' → IsR CR H' c (p / q) → Q (.ref c) H')
def spRWhole (CR : Addr) : Sp := fun vs H Q _ => vs.length = 2 ∧ ∃ n, vs = [.ref CR, .int n] ∧ ∀ c H', H c = none → Same H H' → IsR CR H' c (n : Rat) → Q (.ref c) H'
theorem bd0 {n : Nat} (h : n ≠ 0) : ZR.Bd n 0 := ⟨Nat.two_pow_pos n, Nat.one_lt_two_pow h⟩
section
variable {K : PySem.W.Frag} {CR CB a b : Addr} {p q : Rat} {H : Hp} {Q : VK} {E : XK} {f : Rat → Rat → Rat} {f1 : Rat → Rat}
theorem i_R2 (ha : IsR CR H a p) (hb : IsR CR H b q) (bp : ZR.Bd 2000 p) (bq : ZR.Bd 2000 q) (h : ∀ c H', H c = none → Same H H' → IsR CR H' c (f p q) → Q (.ref c) H') : rOwn CR (spR2 CR f) (.ref a) (.ref b) H Q := by
  obtain ⟨dx, e1⟩ := id ha
  obtain ⟨dy, e2⟩ := id hb
  exact ⟨a, b, dx, dy, _, _, rfl, rfl, e1, e2, rfl, a, b, p, q, rfl, ha, hb, bp, bq, h⟩
theorem i_R1 (ha : IsR CR H a p) (bp : ZR.Bd 2000 p) (h : ∀ c H', H c = none → Same H H' → IsR CR H' c (f1 p) → Q (.ref c) H') : rOwn1 CR (spR1 CR f1) (.ref a) H Q := by
  obtain ⟨dx, e1⟩ := id ha
  exact ⟨a, dx, _, rfl, e1, rfl, a, p, rfl, ha, bp, h⟩
theorem self_first : PySem.W.notFirst K CR (.ref CR) = true := by simp [PySem.W.notFirst]
theorem i_Req (ha : IsR CR H a p) (hb : IsR CR H b q) (h : ∀ H', Same H H' → Q (.bl (decide (p = q))) H') : rOwnC K CR (spREq K CR) (.ref a) (.ref b) H Q := by
  obtain ⟨dx, e1⟩ := id ha
  obtain ⟨dy, e2⟩ := id hb
  exact ⟨a, dx, _, _, rfl, e1, .ins e2, self_first, rfl, a, p, _, rfl, ha, .inl ⟨b, q, rfl, hb, h⟩⟩
theorem i_Rne (ha : IsR CR H a p) (hb : IsR CR H b q) (h : ∀ H', Same H H' → Q (.bl (!decide (p = q))) H') : rOwnN K CR (spREq K CR) (.ref a) (.ref b) H Q := by
  obtain ⟨dx, e1⟩ := id ha
  obtain ⟨dy, e2⟩ := id hb
  exact ⟨a, dx, _, _, rfl, e1, .ins e2, self_first, rfl, a, p, _, rfl, ha, .inl ⟨b, q, rfl, hb, fun H' s => ⟨_, rfl, h H' s⟩⟩⟩
theorem i_ReqI {i : Int} (ha : IsR CR H a p) (hk : PySem.W.kitOne K (.type "int") (.ref CR) = some false) (hn : PySem.W.notFirst K CR (.type "int") = true) (h : ∀ H', Same H H' → Q (.bl false) H') : rOwnC K CR (spREq K CR) (.ref a) (.int i) H Q := by
  obtain ⟨dx, e1⟩ := id ha
  exact ⟨a, dx, _, _, rfl, e1, .int i, hn, rfl, a, p, _, rfl, ha, .inr ⟨_, .base (.int i), hk, h⟩⟩
theorem i_ReqS {z : Str} (ha : IsR CR H a p) (hk : PySem.W.kitOne K (.type "str") (.ref CR) = some false) (hn : PySem.W.notFirst K CR (.type "str") = true) (h : ∀ H', Same H H' → Q (.bl false) H') : rOwnC K CR (spREq K CR) (.ref a) (.str z) H Q := by
  obtain ⟨dx, e1⟩ := id ha
  exact ⟨a, dx, _, _, rfl, e1, .str z, hn, rfl, a, p, _, rfl, ha, .inr ⟨_, .base (.str z), hk, h⟩⟩
theorem i_Rbool (ha : IsR CR H a p) (h : ∀ H', Same H H' → Q (.bl (decide (p ≠ 0))) H') : rBoolOwn CR (spRBool CR) [.ref a] H Q := by
  obtain ⟨dx, e1⟩ := id ha
  exact ⟨a, dx, _, rfl, e1, rfl, a, p, rfl, ha, fun H' s => ⟨_, rfl, h H' s⟩⟩
theorem i_under0 {P : Prop} (ha : IsR CR H a p) (h : P) : rMeth CR "under" (.ref a) H P := let ⟨_, e⟩ := ha; i_meth1 e (rf_no p (by decide +kernel) (by decide +kernel)) h
theorem i_quot0 {P : Prop} (ha : IsR CR H a p) (h : P) : rMeth CR "quotient" (.ref a) H P := let ⟨_, e⟩ := ha; i_meth1 e (rf_no p (by decide +kernel) (by decide +kernel)) h
theorem i_under (ha : IsR CR H a p) (hb : IsR CR H b q) (bp : ZR.Bd 2000 p) (bq : ZR.Bd 2000 q) (h : ∀ H', Same H H' → Q (.bl (decide (p < q))) H') : spRUnder CR [.ref a, .ref b] H Q E :=
  ⟨rfl, a, b, p, q, rfl, ha, hb, bp, bq, h⟩
theorem i_quot (ha : IsR CR H a p) (hb : IsR CR H b q) (bp : ZR.Bd 2000 p) (bq : ZR.Bd 2000 q) (h0 : q ≠ 0) (h : ∀ c H', H c = none → Same H H' → IsR CR H' c (p / q) → Q (.ref c) H') : spRQuot CR CB [.ref a, .ref b] H Q E :=
  ⟨rfl, a, b, p, q, rfl, ha, hb, bp, bq, fun z => absurd z h0, fun _ => h⟩
theorem i_quot00 (ha : IsR CR H a p) (hb : IsR CR H b 0) (bp : ZR.Bd 2000 p) (h : EBad CB 0 H E) : spRQuot CR CB [.ref a, .ref b] H Q E :=
  ⟨rfl, a, b, p, 0, rfl, ha, hb, bp, bd0 (by decide), fun _ => h, fun z => absurd rfl z⟩
theorem i_whole {n : Int} (h : ∀ c H', H c = none → Same H H' → IsR CR H' c (n : Rat) → Q (.ref c) H') : spRWhole CR [.ref CR, .int n] H Q E := ⟨rfl, n, rfl, h⟩
end
/-! ### the law's own helpers -/
def Pool (H : Hp) (p : Addr) : Prop := ∃ (c k : Int) (f : Bool), H p = some (.lst [V.int c, V.int k, V.bl f])
def spPool : Sp := fun vs H Q _ => vs.length = 1 ∧ ∃ c, vs = [.int c] ∧ ∀ p H', H p = none → Same H H' → (∀ b, b ≠ p → H' b = H b) → Pool H' p → Q (.ref p) H'
def spTake : Sp := fun vs H Q _ => vs.length = 2 ∧ ∃ p l, vs = [.ref p, .int l] ∧ Pool H p ∧ 0 < l ∧ ZR.Sz 8000 l ∧ ∀ r H', 0 ≤ r → r < l → (∀ b, b ≠ p → H' b = H b) → Pool H' p → Q (.int r) H'
def spCell (K : PySem.W.Frag) : Sp := fun vs H Q _ => vs.length = 2 ∧ ∃ (a : Addr) (ns : List Int) (k : Nat), vs = [.ref a, .int k] ∧ SqL K H a (ns.map V.int) ∧ ∀ i, Q (.int i) H
section
variable {K : PySem.W.Frag} {p a : Addr} {H : Hp} {Q : VK} {E : XK}
theorem i_pool {c : Int} (h : ∀ p H', H p = none → Same H H' → (∀ b, b ≠ p → H' b = H b) → Pool H' p → Q (.ref p) H') : spPool [.int c] H Q E := ⟨rfl, c, rfl, h⟩
theorem i_take {l : Int} (hp : Pool H p) (h0 : 0 < l) (hz : ZR.Sz 8000 l) (h : ∀ r H', 0 ≤ r → r < l → (∀ b, b ≠ p → H' b = H b) → Pool H' p → Q (.int r) H') : spTake [.ref p, .int l] H Q E := ⟨rfl, p, l, rfl, hp, h0, hz, h⟩
theorem i_cell {ns : List Int} {k : Nat} (hs : SqL K H a (ns.map V.int)) (h : ∀ i, Q (.int i) H) : spCell K [.ref a, .int k] H Q E := ⟨rfl, a, ns, k, rfl, hs, h⟩
end
/-! ### lists of ints compared -/
theorem dp_ints {K : PySem.W.Frag} {H : Hp} : ∀ ns : List Int, DpAll K H (ns.map V.int) (ns.map PyData.int)
  | [] => .nil
  | n :: ns => .cons (.int n) (dp_ints ns)
theorem eqv_ints : ∀ ns ms : List Int, PyData.eqvAll (ns.map PyData.int) (ms.map PyData.int) = decide (ns = ms)
  | [], [] => rfl
  | [], _ :: _ => rfl
  | _ :: _, [] => rfl
  | n :: ns, m :: ms => by
    show (PyData.eqv (.int n) (.int m) && PyData.eqvAll _ _) = _
    rw [eqv_ints ns ms]
    show ((n == m) && _) = _
    by_cases h1 : n = m <;> by_cases h2 : ns = ms <;> simp [h1, h2]
theorem lay_ints : ∀ ns : List Int, PyData.canLayAll0 (ns.map PyData.int) = true
  | [] => rfl
  | n :: ns => by
    show (PyData.canLay0 (.int n) && PyData.canLayAll0 _) = true
    rw [lay_ints ns]
    rfl
end Z

set_option Elab.async false
set_option linter.all false
set_option maxRecDepth 100000
set_option maxHeartbeats 4000000
/-! more readings -/
namespace Z
open PySem PySem.Spec PyProof.Rows L2
section
variable {X : Cx} {K : PySem.W.Frag} {σ σ' : L2.St} {H H1 : Hp} {D : Ends} {t u : TS} {te ta tb tc to : TE} {tt tu : TT} {tr : TA} {g : TG} {gs : TGs} {Q : VK} {QB : Bool → Hp → Prop} {QA : List V → Hp → Prop} {QS : L2.St → Hp → Prop} {QH : Hp → Prop} {v w x y : V} {i j : Nat} {A B : Prop} {b : Bool}
theorem i_isiT {tv : Value} {s : String} (ty : TyX K H x tv) (hk : PySem.W.kitOne K tv (.type s) = some b) (h : Q (.bl b) H) : rIsi K [x, .ty s] H Q := ⟨x, _, tv, _, b, rfl, .ty s, ty, hk, h⟩
theorem i_isiO {tv : Value} {C : Addr} (ty : TyX K H x tv) (hk : PySem.W.kitOne K tv (.ref C) = some b) (h : Q (.bl b) H) : rIsi K [x, .ref C] H Q := ⟨x, _, tv, _, b, rfl, .own C, ty, hk, h⟩
theorem tyInt (n : Int) : TyX K H (.int n) (.type "int") := .base (.int n)
theorem tyStr (z : Str) : TyX K H (.str z) (.type "str") := .base (.str z)
def rBits (x : V) (H1 : Hp) (Q : VK) : Prop := ∃ i : Int, x = .int i ∧ Q (.int (Builtin.Int.intBits i : Nat)) H1
theorem i_bits {n : Int} (h : Q (.int (Builtin.Int.intBits n : Nat)) H) : rBits (.int n) H Q := ⟨n, rfl, h⟩
theorem i_bits0 (h : to σ H (fun x H1 => rBits x H1 Q)) : tBits to σ H Q := h
theorem i_jsC {ts : List TE} {acc : Str} {QJ : Str → Hp → Prop} (h : te σ H (fun x H1 => ∃ y : Str, x = .str y ∧ (acc ++ y).length ≤ sizeLine ∧ tJs ts (acc ++ y) σ H1 QJ)) : tJs (te :: ts) acc σ H QJ := h
theorem i_jsN {acc : Str} {QJ : Str → Hp → Prop} (h : QJ acc H) : tJs [] acc σ H QJ := h
theorem Same_seqT {H H' : Hp} {a : Addr} {xs : List V} (e : Same H H') (h : SqT K H a xs) : SqT K H' a xs := by
  rcases h with (h | ⟨o, h⟩) | h
  · exact .inl (.inl (e _ _ h))
  · exact .inl (.inr ⟨o, e _ _ h⟩)
  · exact .inr h
/-! loops -/
def rFor (it : It) (g : TG) (tb : TS) (D : Ends) (σ : L2.St) (H1 : Hp) : Prop := ∃ W : Nat → Nat → L2.St → Hp → Prop, (∃ m, W 0 m σ H1) ∧ ∀ i m σ H, W i m σ H →
  (it.stop i H ∧ D.nx σ H) ∨ (it.go i H ∧ ∃ N : L2.St → Hp → Prop, (∀ σ' H', N σ' H' → ∃ m', m' < m ∧ W (i + 1) m' σ' H') ∧ ∀ x H', it.yld i H x H' → g x σ H' fun σ2 H2 => tb { D with nx := N, ct := N, bk := D.nx } σ2 H2)
def rForL (K : PySem.W.Frag) (g : TG) (tb : TS) (D : Ends) (σ : L2.St) (x : V) (H1 : Hp) : Prop := ∃ a, x = .ref a ∧ (∃ xs, SqL K H1 a xs) ∧ rFor (Itl K a) g tb D σ H1
def rForT (K : PySem.W.Frag) (g : TG) (tb : TS) (D : Ends) (σ : L2.St) (x : V) (H1 : Hp) : Prop := ∃ a, x = .ref a ∧ (∃ xs, SqT K H1 a xs) ∧ rFor (Itt K a) g tb D σ H1
def rForR (g : TG) (tb : TS) (D : Ends) (σ : L2.St) (vs : List V) (H1 : Hp) : Prop := ∃ j : Int, vs = [.int j] ∧ -(2 ^ 62) ≤ j ∧ j < 2 ^ 62 ∧ rFor (Itr 0 j.toNat) g tb D σ H1
theorem i_forL0 {tl : TE} {tb : TS} (h : tl σ H (fun x H1 => rForL K g tb D σ x H1)) : tFor (iList K tl) g tb D σ H := h
theorem i_forT0 {tl : TE} {tb : TS} (h : tl σ H (fun x H1 => rForT K g tb D σ x H1)) : tFor (iTup K tl) g tb D σ H := h
theorem i_forR0 {tb : TS} (h : tr σ H (fun vs H1 => rForR g tb D σ vs H1)) : tFor (iRng1 tr) g tb D σ H := h
theorem i_forL {a : Addr} {xs : List V} {tb : TS} (Pv : Nat → L2.St → Hp → Prop) (s : SqL K H a xs) (h0 : Pv 0 σ H) (hl : ∀ i σ H, i ≤ xs.length → Pv i σ H → SqL K H a xs)
    (hs : ∀ i x σ H, xs[i]? = some x → Pv i σ H → g x σ H fun σ2 H2 => tb { D with nx := Pv (i + 1), ct := Pv (i + 1), bk := D.nx } σ2 H2) (hd : ∀ σ H, Pv xs.length σ H → D.nx σ H) : rForL K g tb D σ (.ref a) H :=
  ⟨a, rfl, ⟨xs, s⟩, for_list Pv h0 hl hs hd⟩
theorem i_forT {a : Addr} {xs : List V} {tb : TS} (Pv : Nat → L2.St → Hp → Prop) (s : SqT K H a xs) (h0 : Pv 0 σ H) (hl : ∀ i σ H, i ≤ xs.length → Pv i σ H → SqT K H a xs)
    (hs : ∀ i x σ H, xs[i]? = some x → Pv i σ H → g x σ H fun σ2 H2 => tb { D with nx := Pv (i + 1), ct := Pv (i + 1), bk := D.nx } σ2 H2) (hd : ∀ σ H, Pv xs.length σ H → D.nx σ H) : rForT K g tb D σ (.ref a) H := by
  refine ⟨a, rfl, ⟨xs, s⟩, fun i m σ H => m = xs.length - i ∧ i ≤ xs.length ∧ Pv i σ H, ⟨xs.length, by simp, Nat.zero_le _, h0⟩, ?_⟩
  rintro i m σ H ⟨rfl, hi, p⟩
  have q := hl i σ H hi p
  by_cases hlt : i < xs.length
  · refine .inr ⟨⟨xs, xs[i], q, by simp [hlt]⟩, Pv (i + 1), fun σ' H' p' => ⟨xs.length - (i + 1), by omega, rfl, hlt, p'⟩, fun x H' y => ?_⟩
    obtain ⟨e, y⟩ := y
    subst e
    exact hs i x σ _ (y xs q) p
  · have e : i = xs.length := by omega
    subst e
    exact .inl ⟨⟨xs, q, Nat.le_refl _⟩, hd σ H p⟩
theorem i_forR {n : Nat} {k : Int} {tb : TS} (hk : k = (n : Int)) (hn : n < 1000000) (Pv : Nat → L2.St → Hp → Prop) (h0 : Pv 0 σ H)
    (hs : ∀ i σ H, i < n → Pv i σ H → g (.int (i : Nat)) σ H fun σ2 H2 => tb { D with nx := Pv (i + 1), ct := Pv (i + 1), bk := D.nx } σ2 H2) (hd : ∀ σ H, Pv n σ H → D.nx σ H) : rForR g tb D σ [.int k] H := by
  refine ⟨k, rfl, by omega, by omega, ?_⟩
  have e : k.toNat = n := by omega
  rw [e]
  refine for_range Pv h0 (fun i σ H hi p => ?_) hd
  rw [Int.zero_add]
  exact hs i σ H hi p
/-! comprehensions over lists -/
def rLcL (K : PySem.W.Frag) (g : TG) (tt : TT) (te : TE) (vs : List Nat) (σ : L2.St) (Q : VK) (x : V) (H1 : Hp) : Prop := ∃ a, x = .ref a ∧ (∃ xs, SqL K H1 a xs) ∧ ∀ D, H1 D = none → ∃ W : Nat → Nat → Hp → Prop, (∃ m, W 0 m (upd H1 D (.lst []))) ∧ ∀ i m H, W i m H →
  ((Itl K a).stop i H ∧ Q (.ref D) H) ∨ ((Itl K a).go i H ∧ ∃ Nx : Hp → Prop, (∀ H', Nx H' → ∃ m', m' < m ∧ W (i + 1) m' H') ∧ ∀ x H', (Itl K a).yld i H x H' → g x (wipe σ vs) H' fun σ2 H2 => wipe σ2 vs = wipe σ vs ∧ tt σ2 H2 fun b H3 =>
    if b = true then te σ2 H3 fun y H4 => ∃ acc, H4 D = some (.lst acc) ∧ acc.length < sizeLine ∧ Nx (upd H4 D (.lst (acc ++ [y]))) else Nx H3)
theorem i_lcL0 {tl : TE} {vs : List Nat} (h : tl σ H (fun x H1 => rLcL K g tt te vs σ Q x H1)) : tLc (iList K tl) g tt te vs σ H Q := h
theorem i_yes (h : QB true H) : tYes σ H QB := h
def LcS (D : Addr) (Pv : Nat → List V → Hp → Prop) (i : Nat) (H : Hp) : Prop := ∃ ys, H D = some (.lst ys) ∧ Pv i ys H
def rLcE (D : Addr) (Pv : Nat → List V → Hp → Prop) (i : Nat) (y : V) (H4 : Hp) : Prop := ∃ acc, H4 D = some (.lst acc) ∧ acc.length < sizeLine ∧ LcS D Pv (i + 1) (upd H4 D (.lst (acc ++ [y])))
theorem i_lcE {D : Addr} {Pv : Nat → List V → Hp → Prop} {ys : List V} (e : H D = some (.lst ys)) (l : ys.length < 100000) (h : ∀ H5, H5 D = some (.lst (ys ++ [y])) → (∀ c, c ≠ D → H5 c = H c) → Pv (i + 1) (ys ++ [y]) H5) : rLcE D Pv i y H :=
  ⟨ys, e, Nat.lt_of_lt_of_le l (by decide), ys ++ [y], upd_same, h _ upd_same (fun c hc => upd_ne hc)⟩
/-- the results so far stand in D (a new list), Pv tells the rest -/
theorem i_lcL {a : Addr} {xs : List V} {vs : List Nat} (Pv : Nat → List V → Hp → Prop) (s : SqL K H a xs) (h0 : ∀ D H', H D = none → Same H H' → H' D = some (.lst []) → (∀ b, b ≠ D → H' b = H b) → Pv 0 [] H')
    (hl : ∀ i ys H, Pv i ys H → SqL K H a xs)
    (hs : ∀ i x D ys H1, H D = none → xs[i]? = some x → H1 D = some (.lst ys) → Pv i ys H1 → g x (wipe σ vs) H1 fun σ2 H2 => wipe σ2 vs = wipe σ vs ∧ tt σ2 H2 fun b H3 => if b = true then te σ2 H3 fun y H4 => rLcE D Pv i y H4 else LcS D Pv (i + 1) H3)
    (hd : ∀ D ys H1, H D = none → H1 D = some (.lst ys) → Pv xs.length ys H1 → Q (.ref D) H1) : rLcL K g tt te vs σ Q (.ref a) H := by
  refine ⟨a, rfl, ⟨xs, s⟩, fun D hD => ?_⟩
  refine lc_list (xs := xs) (LcS D Pv) ?_ ?_ ?_ ?_
  · exact ⟨[], upd_same, h0 D _ hD (fun b o e => by rw [upd_ne (ne_of_none e hD)]; exact e) upd_same (fun b hb => upd_ne hb)⟩
  · rintro i H' _ ⟨ys, _, p⟩
    exact hl i ys H' p
  · rintro i x H' hi ⟨ys, hD', p⟩
    exact hs i x D ys H' hD hi hD' p
  · rintro H' ⟨ys, hD', p⟩
    exact hd D ys H' hD hD' p
theorem i_wipe {A B : Prop} (a : A) (b : B) : A ∧ B := ⟨a, b⟩
/-! targets, stores -/
theorem i_gsub {ti : TE} {r : V → V → V → Hp → (Hp → Prop) → Prop} (h : to σ H (fun o H1 => ti σ H1 (fun i H2 => r o i v H2 (fun H3 => QS σ H3)))) : gSub to ti r v σ H QS := h
theorem i_setL {p : Addr} {xs ys : List V} {k : Int} {j : Nat} (e : H p = some (.lst xs)) (hj : ixN xs.length k = some j) (w : xs.set j v = ys) (h : ∀ H2, H2 p = some (.lst ys) → (∀ b, b ≠ p → H2 b = H b) → QH H2) : rSetL (.ref p) (.int k) v H QH :=
  ⟨p, xs, k, j, rfl, rfl, e, hj, h _ (by rw [w]; exact upd_same) (fun b hb => upd_ne hb)⟩
theorem i_par (h : tr σ H (fun vs H1 => ∃ v w, vs = [v, w] ∧ D.nx ((σ.set i (some v)).set j (some w)) H1)) : tPar i j tr D σ H := h
theorem i_par1 {P : V → V → Prop} (h : P v w) : ∃ v' w', [v, w] = [v', w'] ∧ P v' w' := ⟨v, w, rfl, h⟩
theorem i_glst {a : Addr} {xs : List V} {n : Nat} (s : SqL K H a xs) (hn : xs.length = n) (h : gs xs σ H QS) : gLst K n gs (.ref a) σ H QS := ⟨a, xs, rfl, s, hn, h⟩
theorem i_gtup {a : Addr} {xs : List V} {n : Nat} (s : SqT K H a xs) (hn : xs.length = n) (h : gs xs σ H QS) : gTup K n gs (.ref a) σ H QS := ⟨a, xs, rfl, s, hn, h⟩
theorem i_gc {vs : List V} (h : g v σ H (fun σ' H' => gs vs σ' H' QS)) : gCons g gs (v :: vs) σ H QS := ⟨v, vs, rfl, h⟩
theorem i_gn (h : QS σ H) : gNil [] σ H QS := ⟨rfl, h⟩
/-! methods of lists -/
theorem i_bm {T : String} {r : V → List V → Hp → VK → Prop} (h : to σ H (fun x H1 => tyV K T x H1 ∧ tr σ H1 (fun xs H2 => r x xs H2 Q))) : tBM K T r to tr σ H Q := h
theorem tyL {p : Addr} {xs : List V} (e : H p = some (.lst xs)) : tyV K "list" (.ref p) H := Or.inl ⟨rfl, _, SqL.of e⟩
theorem i_app {p : Addr} {xs : List V} (e : H p = some (.lst xs)) (l : xs.length < 100000) (h : ∀ H2, H2 p = some (.lst (xs ++ [y])) → (∀ b, b ≠ p → H2 b = H b) → Q .non H2) : rAppend (.ref p) [y] H Q :=
  ⟨p, xs, y, rfl, rfl, e, Nat.lt_of_lt_of_le l (by decide), h _ upd_same (fun b hb => upd_ne hb)⟩
/-! errors' __init__ -/
def rVeI (K : PySem.W.Frag) (vs : List V) (H1 : Hp) (Q : VK) : Prop := ∃ (a C : Addr) (ws : List V), vs = .ref a :: ws ∧ ws.length ≤ 1000 ∧ OexC K C ∧ H1 a = some (exo a C none) ∧ Q .non H1
theorem i_tve (h : tr σ H (fun vs H1 => rVeI K vs H1 Q)) : tVeI K tr σ H Q := h
theorem i_tve1 {a C : Addr} {ws : List V} (T : OexC K C) (e : H a = some (exo a C none)) (l : ws.length ≤ 1000) (h : Q .non H) : rVeI K (.ref a :: ws) H Q := ⟨a, C, ws, rfl, l, T, e, h⟩
def rOst (K : PySem.W.Frag) (f : Str) (y x : V) (H2 : Hp) (P : Hp → Prop) : Prop := ∃ a C : Addr, x = .ref a ∧ OexC K C ∧ PySem.W.findIn K (.ref C) f = some none ∧
  ((H2 a = some (exo a C none) ∧ ∀ dx, H2 dx = none → dx ≠ a → P (upd (upd H2 dx (exd dx [(f, y)])) a (exo a C (some dx)))) ∨
    ∃ (dx : Addr) (fs : List (Str × V)), H2 a = some (exo a C (some dx)) ∧ H2 dx = some (exd dx fs) ∧ fs.length ≤ 900 ∧ P (upd H2 dx (exd dx ((f, y) :: fs))))
theorem i_ost {f : Str} (h : te σ H (fun y H1 => to σ H1 (fun x H2 => rOst K f y x H2 (fun H3 => D.nx σ H3)))) : tOst K f to te D σ H := h
theorem i_ost1 {f : Str} {a C : Addr} (T : OexC K C) (n : PySem.W.findIn K (.ref C) f = some none) (e : H a = some (exo a C none)) (h : ∀ dx, H dx = none → dx ≠ a → QH (upd (upd H dx (exd dx [(f, y)])) a (exo a C (some dx)))) : rOst K f y (.ref a) H QH :=
  ⟨a, C, rfl, T, n, .inl ⟨e, h⟩⟩
theorem i_fmtI {n : Int} (l : ZR.Sz 1900 n) (h : Q (.str (toString n)) H) : rFmt (.int n) H Q := .inr ⟨n, rfl, PySem.Flt.log2_lt_of (by decide) (l.mono (by decide)), h⟩
theorem i_js1 {ts : List TE} {acc z : Str} {QJ : Str → Hp → Prop} (l : (acc ++ z).length ≤ sizeLine) (h : tJs ts (acc ++ z) σ H QJ) : ∃ y : Str, V.str z = .str y ∧ (acc ++ y).length ≤ sizeLine ∧ tJs ts (acc ++ y) σ H QJ := ⟨z, rfl, l, h⟩
theorem bits_small {n : Int} {k : Nat} (h : ZR.Sz k n) : ¬ ((k : Int) < (Builtin.Int.intBits n : Nat)) := by
  have := (intBits_le_iff (m := k) (x := n)).mpr h
  omega
theorem text_small {n : Int} (h : ZR.Sz 1900 n) : (Str.ofString (toString n)).length ≤ 1901 := by
  have := int_text_length_le10 (k := 1900) (a := n) (by decide) (Nat.lt_of_lt_of_le (show n.natAbs < 2 ^ 1900 from h) (Nat.pow_le_pow_left (by decide) 1900))
  rw [PySem.ofString_length]
  exact this
/-! items by written places -/
theorem i_ix0 {p : Addr} {x0 : V} {xs : List V} (s : SqL K H p (x0 :: xs)) (h : Q x0 H) : rIxL K (.ref p) (.int 0) H Q := i_ixL (k := 0) s rfl h
theorem i_ix1 {p : Addr} {x0 x1 : V} {xs : List V} (s : SqL K H p (x0 :: x1 :: xs)) (h : Q x1 H) : rIxL K (.ref p) (.int 1) H Q := i_ixL (k := 1) s rfl h
theorem i_ix2 {p : Addr} {x0 x1 x2 : V} {xs : List V} (s : SqL K H p (x0 :: x1 :: x2 :: xs)) (h : Q x2 H) : rIxL K (.ref p) (.int 2) H Q := i_ixL (k := 2) s rfl h
theorem i_ixT {p : Addr} {xs : List V} {k : Nat} (s : SqT K H p xs) (e : xs[k]? = some v) (h : Q v H) : rIxT K (.ref p) (.int (k : Nat)) H Q := ⟨p, xs, _, v, rfl, rfl, s, atI_nat e, h⟩
theorem i_ixT0 {p : Addr} {x0 : V} {xs : List V} (s : SqT K H p (x0 :: xs)) (h : Q x0 H) : rIxT K (.ref p) (.int 0) H Q := i_ixT (k := 0) s rfl h
theorem i_neLI {p q : Addr} {ns ms : List Int} (h1 : SqL K H p (ns.map V.int)) (h2 : SqL K H q (ms.map V.int)) (h : Q (.bl (!decide (ns = ms))) H) : rNeD K (.ref p) (.ref q) H Q := by
  refine ⟨_, _, .lst h1 (dp_ints ns), .lst h2 (dp_ints ms), ?_, ?_, ?_⟩
  · exact shp ns
  · exact shp ms
  · have e : PyData.eqv (.list (ns.map PyData.int)) (.list (ms.map PyData.int)) = decide (ns = ms) := by
      show PyData.eqvAll _ _ = _
      exact eqv_ints ns ms
    rw [e]
    exact h
where shp (ns : List Int) : SeqAt.shaped (.list (ns.map PyData.int)) = true := by
        unfold SeqAt.shaped
        have d : ∀ ns : List Int, PyData.depthAll (ns.map PyData.int) ≤ 1 := by
          intro ns
          induction ns with
          | nil => decide
          | cons n ns ih => simp [PyData.depthAll, PyData.depth] at *; omega
        have := d ns
        have l := lay_ints ns
        simp [PyData.depth, PyData.canLay0]
        exact ⟨l, by omega⟩
end
end Z
namespace Z
open PySem PySem.Spec PyProof.Rows L2
/-! the same rules where the written part stands by its own letter -/
section
variable {X : Cx} {K : PySem.W.Frag} {e : Expr} {te : TE} {f : Str} {pos : Pos}
theorem k_fld (hK : X.K = K) (he : PE X e te) (hb : attributeBase e f X.env (eval e X.env) = eval e X.env) : PE X (.Attribute e f pos) (tFld K te f) := by
  subst hK
  exact pe_fld he hb
theorem k_ixL (hK : X.K = K) : IxR X (rIxL K) := by
  subst hK
  exact ix_list
theorem k_ixT (hK : X.K = K) : IxR X (rIxT K) := by
  subst hK
  exact ix_tup
theorem k_lst {es : List Expr} {k n : Nat} {t : TGs} (hK : X.K = K) (hc : X.calm = true) (h : PGs X es t) (hn : (assignEach es X.env).length = n := by rfl) (hst : (assignEach es X.env).findIdx? (·.1) = none := by rfl) : PG X (.Tuple es k pos) (gLst K n t) := by
  subst hK
  exact pg_lst hc h hn hst
theorem k_tup {es : List Expr} {k n : Nat} {t : TGs} (hK : X.K = K) (hc : X.calm = true) (h : PGs X es t) (hn : (assignEach es X.env).length = n := by rfl) (hst : (assignEach es X.env).findIdx? (·.1) = none := by rfl) : PG X (.Tuple es k pos) (gTup K n t) := by
  subst hK
  exact pg_tup hc h hn hst
theorem k_list {tg l : Expr} {tl : TE} (hK : X.K = K) (hl : PE X l tl) : PI X tg l (iList K tl) := by
  subst hK
  exact pi_list hl
theorem k_tupI {tg l : Expr} {tl : TE} (hK : X.K = K) (hl : PE X l tl) : PI X tg l (iTup K tl) := by
  subst hK
  exact pi_tup hl
theorem k_eqO {C : Addr} {k j : Nat} {sp : Sp} (hK : X.K = K) (c : CalO X.prog X.w X.K X.mg X.base C "__eq__" k sp) (hr : Room j X.A) (hj : k ≤ j := by decide) : OpR X (compareOp .Eq) (rOwnC K C sp) := by
  subst hK
  exact z_eqO c hr hj
theorem k_neO {C : Addr} {k j : Nat} {sp : Sp} (hK : X.K = K) (c : CalO X.prog X.w X.K X.mg X.base C "__eq__" k sp) (n : NeC X.K C) (hr : Room j X.A) (hj : k + 1 ≤ j := by decide) : OpR X (compareOp .NotEq) (rOwnN K C sp) := by
  subst hK
  exact z_neO c n hr hj
theorem k_eqD (hK : X.K = K) (hu : X.A.units + 64 < cLine) : OpR X (compareOp .Eq) (rEqD K) := by
  subst hK
  exact op_eqD hu
theorem k_neD (hK : X.K = K) (hu : X.A.units + 64 < cLine) : OpR X (compareOp .NotEq) (rNeD K) := by
  subst hK
  exact op_neD hu
/-- len of a list or a tuple -/
def rLen (K : PySem.W.Frag) : List V → Hp → VK → Prop := fun xs H Q => ∃ p ys, xs = [.ref p] ∧ (SqL K H p ys ∨ SqT K H p ys) ∧ Q (.int ys.length) H
theorem k_len (hK : X.K = K) : CallR X (.builtin "len") (rLen K) := by
  subst hK
  exact call_len_seq
theorem i_lenL {p : Addr} {xs : List V} {H : Hp} {Q : VK} (s : SqL K H p xs) (h : Q (.int xs.length) H) : rLen K [.ref p] H Q := ⟨p, xs, rfl, .inl s, h⟩
theorem i_lenT {p : Addr} {xs : List V} {H : Hp} {Q : VK} (s : SqT K H p xs) (h : Q (.int xs.length) H) : rLen K [.ref p] H Q := ⟨p, xs, rfl, .inr s, h⟩
theorem k_isi (hK : X.K = K) : CallR X (.builtin "isinstance") (rIsi K) := by
  subst hK
  exact call_isi
end
section
variable {K : PySem.W.Frag} {σ : L2.St} {H : Hp} {D : Ends} {Q : VK} {te : TE}
theorem i_was {c cls : Value} {i : Nat} {ts : Addr → Value → Option Addr → TS} {Wout : WX} {d : Option Addr} (hx : PySem.W.exmOne K cls c = some true)
    (h : ∀ a, H a = none → ts a cls d { nx := fun σ' H' => D.nx (σ'.set i none) H', rt := D.rt, bk := fun σ' H' => D.bk (σ'.set i none) H', ct := fun σ' H' => D.ct (σ'.set i none) H' } (σ.set i (some (.ref a))) H) :
    wAs K c i ts Wout D cls d σ H := ⟨true, hx, fun _ => h, fun q => by cases q⟩
def rXf (a : Addr) (cls : Value) (d : Option Addr) (C : Addr) (f : Str) (x : V) (H1 : Hp) (Q : VK) : Prop := x = .ref a ∧ cls = .ref C ∧ ∃ (dd : Addr) (fs : List (Str × V)) (v : V), d = some dd ∧ H1 dd = some (.xd fs) ∧ fs.lookup f = some v ∧ Q v H1
theorem i_xf {a C : Addr} {cls : Value} {d : Option Addr} {f : Str} (h : te σ H (fun x H1 => rXf a cls d C f x H1 Q)) : tXf a cls d C f te σ H Q := h
theorem i_xf1 {a C dd : Addr} {f : Str} {v : V} (e : H dd = some (.xd [(f, v)])) (h : Q v H) : rXf a (.ref C) (some dd) C f (.ref a) H Q :=
  ⟨rfl, rfl, dd, _, v, rfl, e, by simp [List.lookup], h⟩
end
end Z
namespace Z
open PySem PySem.Spec PyProof.Rows L2
/-! facts put together -/
theorem exm_in {K : PySem.W.Frag} {C D : Addr} {b : Bool} (e : PySem.W.subIn K (.ref C) (.type "BaseException") = some true) (i : PySem.W.isClsIn K C = true) (ty : PySem.W.typeIn K (.ref C) = some (.type "type")) (s : PySem.W.subIn K (.ref D) (.ref C) = some b) :
    PySem.W.exmOne K (.ref D) (.ref C) = some b := by
  unfold PySem.W.exmOne
  rw [if_pos (by rw [e]; rfl)]
  unfold PySem.W.kitCls
  have hc : (PySem.W.clsIn K C).isSome = true := i
  show (if ((PySem.W.clsIn K C).isSome && PySem.W.typeIn K (.ref C) == some (.type "type")) = true then PySem.W.subIn K (.ref D) (.ref C) else none) = some b
  rw [if_pos, s]
  rw [hc, ty]
  simp
theorem refs_ve (T : Addr) : PySem.HandSPX.refsVE [.ref T, .type "ValueError", .type "Exception", .type "BaseException", .type "object"] = true := by
  show PySem.HandSPX.refsVE [.type "ValueError", .type "Exception", .type "BaseException", .type "object"] = true
  decide +kernel
theorem kit_self {K : PySem.W.Frag} {C : Addr} : PySem.W.kitOne K (.ref C) (.ref C) = some true := by
  unfold PySem.W.kitOne
  rw [if_pos (by simp)]
theorem kit_c {K : PySem.W.Frag} {C : Addr} {t : Value} {b : Bool} (i : PySem.W.isClsIn K C = true) (ty : PySem.W.typeIn K (.ref C) = some (.type "type")) (e : PySem.W.subIn K t (.ref C) = some b) (hne : (t == Value.ref C) = false) : PySem.W.kitOne K t (.ref C) = some b := by
  unfold PySem.W.kitOne
  rw [if_neg (by rw [hne]; simp)]
  unfold PySem.W.kitCls
  have hc : (PySem.W.clsIn K C).isSome = true := i
  show (if ((PySem.W.clsIn K C).isSome && PySem.W.typeIn K (.ref C) == some (.type "type")) = true then PySem.W.subIn K t (.ref C) else none) = some b
  rw [if_pos, e]
  rw [hc, ty]
  simp

section
variable {P : Program} {w : World} {K : PySem.W.Frag} {mg : Str → Option Value} {base h : Heap} {f C : Addr} {fd : FuncData} {ps : List Str} {x : Str} {k : Nat} {sp : Sp}
theorem mk_cal (X : K.In h) (G : h.Ns mainGlobals mg) (a : PySem.W.nsIn K mainGlobals x = some (some (.ref f))) (kk : PySem.W.keepIn K (.ref f) = true) (F : FnOk P w K mg base (L2.CX P w) k f fd ps sp) (b : Binds K fd ps []) : Cal P w K mg base x k sp :=
  ⟨f, PySem.W.mg_of X G a, kk, fnR_of F b⟩
theorem mk_calM (m : Meth K C x f) (F : FnOk P w K mg base (L2.CX P w) k f fd ps sp) (b : Binds K fd ps []) : CalM P w K mg base C x k sp := ⟨f, m, fnR_of F b⟩
theorem mk_calI (X : K.In h) (G : h.Ns mainGlobals mg) (a : PySem.W.nsIn K mainGlobals x = some (some (.ref C))) (m : Mk K C f) (F : FnOk P w K mg base (L2.CX P w) k f fd ps sp) (b : Binds K fd ps []) : CalI P w K mg base x C k sp :=
  ⟨PySem.W.mg_of X G a, f, m, fnR_of F b⟩
theorem mk_calO (a : PySem.W.findIn K (.ref C) x = some (some (.ref f))) (i : PySem.W.isFn K (.ref f) = true) (s : PySem.W.selfFirst K C = true) (F : FnOk P w K mg base (L2.CX P w) k f fd ps sp) (b : Binds K fd ps []) : CalO P w K mg base C x k sp :=
  ⟨f, ⟨a, i⟩, s, fnR_of F b⟩
theorem mk_calK {mc : Value} {p : Addr} (r : ClX.CRead K C mc) (m : ClX.CMet K C mc x p f) (F : FnOk P w K mg base (L2.CX P w) k f fd ps sp) (b : Binds K fd ps []) : CalK P w K mg base C x k sp := ⟨mc, p, f, r, m, fnR_of F b⟩
theorem mk_calX (X : K.In h) (G : h.Ns mainGlobals mg) (a : PySem.W.nsIn K mainGlobals x = some (some (.ref C))) (o : OexC K C) (i : PySem.W.findIn K (.ref C) "__init__" = some (some (.ref f))) (t : PySem.W.typeIn K (.ref f) = some (.type "function"))
    (F : FnOk P w K mg base (L2.CX P w) k f fd ps sp) (b : Binds K fd ps []) : CalX P w K mg base x C k ps sp := ⟨PySem.W.mg_of X G a, o, f, fd, i, t, F, b⟩
theorem mk_calT {mc : Value} (X : K.In h) (G : h.Ns mainGlobals mg) (a : PySem.W.nsIn K mainGlobals x = some (some (.ref C))) (r : ClX.CRead K C mc) (v : PySem.W.findCls K (.ref C) mc "__init__" = some (.val (.builtin "ValueError.__init__"))) : CalT K mg x :=
  ⟨C, mc, PySem.W.mg_of X G a, r, v⟩
end
end Z

set_option Elab.async false
set_option linter.all false
set_option maxRecDepth 100000
set_option maxHeartbeats 4000000
/-! texts: str(x) of own things, s * n, comprehensions over texts -/
namespace Z
open PySem PySem.Spec PyProof.Rows L2
section
variable {X : Cx} {k j : Nat} {f C : Addr} {sp : Sp}
def strO (Q : VK) : VK := fun v H' => ∃ z, v = .str z ∧ Q (.str z) H'
/-- str(x), x an instance with its own __str__ -/
def rStrOwn (C : Addr) (sp : Sp) : List V → Hp → VK → Prop := fun xs H Q => ∃ a dx fs, xs = [.ref a] ∧ H a = some (.ins C dx fs) ∧
  sp [.ref a] H (strO Q) (fun _ _ _ => False)
theorem call_strOwn (F : FnR X.prog X.w X.K X.mg X.base (L2.CX X.prog X.w) k f sp) (hr : Room (k + 2) X.A) (S : Spc X.K C "__str__" f) :
    CallR X (.type "str") (rStrOwn C sp) := by
  intro pins s σ H xs us Q I r h
  obtain ⟨a, dx, fs, rfl, ea, h⟩ := h
  obtain rfl := Vals.ref1 r
  obtain ⟨ox, od, Ja⟩ := instAt I ea
  have hr1 : Room k X.A.in1.in1 := (hr.in1).in1
  refine PySem.W.kso_call (f := f) hr1.units0 I.kIn Ja S.at_ S.fn ?_
  refine wpAny_call (codeAny_mono (F X.A.in1.in1 X.stack s H [.ref a] [.ref a] _ (fun _ _ _ => False) hr1 I.env0.in1.in1 (.cons rfl .nil) h) fun q s' hq => ?_)
  rcases q with e | fl
  · exact (cxN hq).elim
  rcases fl with _ | _ | _ | u'
  · exact False.elim hq
  · exact False.elim hq
  · exact False.elim hq
  obtain ⟨v', H', J', rv, z, ev, q⟩ := I.after hq
  subst ev
  obtain ⟨t, rfl⟩ := rv
  exact ⟨.str z, H', J', ⟨t, rfl⟩, q⟩
theorem z_strO (c : CalO X.prog X.w X.K X.mg X.base C "__str__" k sp) (hr : Room j X.A) (hj : k + 2 ≤ j := by decide) : CallR X (.type "str") (rStrOwn C sp) := by
  obtain ⟨f, S, sf, F⟩ := c
  exact call_strOwn F (hr.mono hj) S
/-- s * n -/
def rMulS : R2 := fun x y H Q => ∃ (z : Str) (n : Int), x = .str z ∧ y = .int n ∧ 2 ≤ n ∧ n ≤ 1000 ∧ z.length ≤ 1000 ∧ Q (.str (Txt.mul z n)) H
theorem op_mulS : OpR X (binaryOp .Mult) rMulS := by
  intro pins s σ H x y v u Q I rx ry h
  obtain ⟨z, n, rfl, rfl, h2, hn, hz, q⟩ := h
  obtain ⟨t, rfl⟩ := rx
  obtain ⟨u', rfl⟩ := ry
  have hlen : z.length * n.toNat ≤ 1000000 := by
    have : n.toNat ≤ 1000 := by omega
    exact Nat.le_trans (Nat.mul_le_mul hz this) (by decide)
  refine PySem.SB.mul ⟨?_, ?_, ?_⟩ fun t' k => ⟨.str _, H, I.tok _, ⟨_, rfl⟩, q⟩
  · rw [decide_eq_false (by omega), decide_eq_false (by omega)]
    rfl
  · intro _ _ hgt
    have : (2 ^ 63 - 1 : Int) / n ≥ 1000 := Int.le_ediv_of_mul_le (by omega) (by omega)
    omega
  · intro _ _
    unfold PySem.Builtin.Str.tooLong
    rw [sizeLine_eq]
    exact decide_eq_false (by omega)
theorem i_mulS {z : Str} {n : Int} {H : Hp} {Q : VK} (h2 : 2 ≤ n) (hn : n ≤ 1000) (hz : z.length ≤ 1000) (h : Q (.str (Txt.mul z n)) H) : rMulS (.str z) (.int n) H Q := ⟨z, n, rfl, rfl, h2, hn, hz, h⟩
end
/-! ### comprehensions over texts -/
section
variable {K : PySem.W.Frag} {σ : L2.St} {H : Hp} {D : Ends} {te : TE} {tt : TT} {g : TG} {Q : VK}
def rLcS (g : TG) (tt : TT) (te : TE) (vs : List Nat) (σ : L2.St) (Q : VK) (x : V) (H1 : Hp) : Prop := ∃ z, x = .str z ∧ ∀ D, H1 D = none → ∃ W : Nat → Nat → Hp → Prop, (∃ m, W 0 m (upd H1 D (.lst []))) ∧ ∀ i m H, W i m H →
  ((Its z).stop i H ∧ Q (.ref D) H) ∨ ((Its z).go i H ∧ ∃ Nx : Hp → Prop, (∀ H', Nx H' → ∃ m', m' < m ∧ W (i + 1) m' H') ∧ ∀ x H', (Its z).yld i H x H' → g x (wipe σ vs) H' fun σ2 H2 => wipe σ2 vs = wipe σ vs ∧ tt σ2 H2 fun b H3 =>
    if b = true then te σ2 H3 fun y H4 => ∃ acc, H4 D = some (.lst acc) ∧ acc.length < sizeLine ∧ Nx (upd H4 D (.lst (acc ++ [y]))) else Nx H3)
theorem i_lcS0 {tl : TE} {vs : List Nat} (h : tl σ H (fun x H1 => rLcS g tt te vs σ Q x H1)) : tLc (iStr tl) g tt te vs σ H Q := h
theorem i_lcS {z : Str} {vs : List Nat} (Pv : Nat → List V → Hp → Prop) (h0 : ∀ D H', H D = none → Same H H' → H' D = some (.lst []) → (∀ b, b ≠ D → H' b = H b) → Pv 0 [] H')
    (hs : ∀ i c D ys H1, H D = none → (TL.tl z)[i]? = some c → H1 D = some (.lst ys) → Pv i ys H1 → g (.str ⟨#[c]⟩) (wipe σ vs) H1 fun σ2 H2 => wipe σ2 vs = wipe σ vs ∧ tt σ2 H2 fun b H3 => if b = true then te σ2 H3 fun y H4 => rLcE D Pv i y H4 else LcS D Pv (i + 1) H3)
    (hd : ∀ D ys H1, H D = none → H1 D = some (.lst ys) → Pv (TL.tl z).length ys H1 → Q (.ref D) H1) : rLcS g tt te vs σ Q (.str z) H := by
  refine ⟨z, rfl, fun D hD => ?_⟩
  have hsz : z.cps.size = (TL.tl z).length := (Array.length_toList).symm
  refine ⟨fun i m H' => m = z.cps.size - i ∧ i ≤ z.cps.size ∧ LcS D Pv i H', ⟨z.cps.size, by simp, Nat.zero_le _, [], upd_same, h0 D _ hD (fun b o e => by rw [upd_ne (ne_of_none e hD)]; exact e) upd_same (fun b hb => upd_ne hb)⟩, ?_⟩
  rintro i m H' ⟨rfl, hi, ys, hD', p⟩
  by_cases hlt : i < z.cps.size
  · refine .inr ⟨hlt, LcS D Pv (i + 1), fun H'' p' => ⟨z.cps.size - (i + 1), by omega, rfl, hlt, p'⟩, fun x H'' y => ?_⟩
    obtain ⟨e, c, hc, rfl⟩ := y
    subst e
    refine hs i c D ys _ hD ?_ hD' p
    show z.cps.toList[i]? = some c
    rw [Array.getElem?_toList]
    exact hc
  · have e : i = z.cps.size := by omega
    refine .inl ⟨Nat.le_of_eq e.symm, hd D ys H' hD hD' ?_⟩
    rw [← hsz, ← e]
    exact p
end
end Z
namespace Z
open PySem PySem.Spec PyProof.Rows L2
section
variable {K : PySem.W.Frag} {σ : L2.St} {H : Hp} {D : Ends} {te ta tb tc : TE} {tlo thi : TO} {QO : Option Int → Hp → Prop} {Q : VK} {z : Str}
theorem i_chain {r r' : R2} (h : ta σ H (fun x H1 => tb σ H1 (fun y H2 => r x y H2 (fun v H3 => ∃ k, v = .bl k ∧ (if k = true then tc σ H3 (fun w' H4 => r' y w' H4 Q) else Q (.bl false) H3))))) : tChain r r' ta tb tc σ H Q := h
theorem i_sl {r : V → Option Int → Option Int → Hp → VK → Prop} (h : te σ H (fun x H1 => tlo σ H1 (fun l H2 => thi σ H2 (fun u H3 => r x l u H3 Q)))) : tSl r te tlo thi σ H Q := h
theorem i_noPart (h : QO none H) : tNoPart σ H QO := h
def rPart (x : V) (H1 : Hp) (QO : Option Int → Hp → Prop) : Prop := ∃ i, x = .int i ∧ QO (some i) H1
theorem i_part (h : te σ H (fun x H1 => rPart x H1 QO)) : tPart te σ H QO := h
theorem i_part1 {i : Int} (h : QO (some i) H) : rPart (.int i) H QO := ⟨i, rfl, h⟩
theorem i_slS {lo hi : Option Int} (hz : z.length ≤ 100000) (h : Q (.str (cutS z lo hi)) H) : rSlS (.str z) lo hi H Q := ⟨z, rfl, Nat.le_trans hz (by decide), h⟩
theorem i_slL {lo hi : Option Int} {a : Addr} {xs ys : List V} (s : SqL K H a xs) (e : cutV xs lo hi = ys) (h : ∀ p H', H p = none → Same H H' → H' p = some (.lst ys) → (∀ b, b ≠ p → H' b = H b) → Q (.ref p) H') : rSlL K (.ref a) lo hi H Q := by
  subst e
  exact ⟨a, xs, rfl, s, fun p hp => h p _ hp (fun b o e => by rw [upd_ne (ne_of_none e hp)]; exact e) upd_same (fun b hb => upd_ne hb)⟩
theorem i_ixS {k : Nat} {c : Nat} (hz : z.length ≤ 100000) (e : (TL.tl z)[k]? = some c) (h : Q (.str ⟨#[c]⟩) H) : rIxS (.str z) (.int (k : Nat)) H Q := ⟨z, _, c, rfl, rfl, Nat.le_trans hz (by decide), atI_nat e, h⟩
theorem i_ixS0 {c : Nat} {r : List Nat} (hz : z.length ≤ 100000) (e : TL.tl z = c :: r) (h : Q (.str ⟨#[c]⟩) H) : rIxS (.str z) (.int 0) H Q := i_ixS (k := 0) hz (by rw [e]; rfl) h
def rRevL (K : PySem.W.Frag) (x : V) (H1 : Hp) (Q : VK) : Prop := ∃ a xs, x = .ref a ∧ SqL K H1 a xs ∧ ∀ p, H1 p = none → Q (.ref p) (upd H1 p (.lst xs.reverse))
theorem i_revL (h : te σ H (fun x H1 => rRevL K x H1 Q)) : tRevL K te σ H Q := h
theorem i_revL1 {a : Addr} {xs : List V} (s : SqL K H a xs) (h : ∀ p H', H p = none → Same H H' → H' p = some (.lst xs.reverse) → (∀ b, b ≠ p → H' b = H b) → Q (.ref p) H') : rRevL K (.ref a) H Q :=
  ⟨a, xs, rfl, s, fun p hp => h p _ hp (fun b o e => by rw [upd_ne (ne_of_none e hp)]; exact e) upd_same (fun b hb => upd_ne hb)⟩
theorem tl_from (z : Str) (k : Nat) : TL.tl (cutS z (some (k : Int)) none) = (TL.tl z).drop k := by
  have hl := TL.len_tl z
  show ((TL.tl z).drop (HT.sIx z.length 0 (some (k : Int)))).take (HT.sIx z.length z.length none - HT.sIx z.length 0 (some (k : Int))) = _
  rw [HT.sIx_nat, HT.sIx_none, hl, List.take_of_length_le (by rw [List.length_drop]; omega)]
  by_cases h : k ≤ (TL.tl z).length
  · rw [Nat.min_eq_left h]
  · rw [Nat.min_eq_right (by omega), List.drop_length, List.drop_of_length_le (by omega)]
theorem tl_upto (z : Str) (k : Nat) : TL.tl (cutS z none (some (k : Int))) = (TL.tl z).take k := by
  have hl := TL.len_tl z
  show ((TL.tl z).drop (HT.sIx z.length 0 none)).take (HT.sIx z.length z.length (some (k : Int)) - HT.sIx z.length 0 none) = _
  rw [HT.sIx_nat, HT.sIx_none, hl, List.drop_zero, Nat.sub_zero, ← List.take_take, List.take_length]
end
end Z
namespace Z
open PySem PySem.Spec PyProof.Rows L2
section
variable {K : PySem.W.Frag} {H : Hp} {Q : VK}
theorem i_cat {l b : Addr} {xs zs : List V} (h1 : H l = some (.lst xs)) (h2 : H b = some (.lst zs)) (hl : xs.length + zs.length ≤ 100000) (h : ∀ p H', H p = none → Same H H' → H' p = some (.lst (xs ++ zs)) → (∀ b, b ≠ p → H' b = H b) → Q (.ref p) H') : rCat (.ref l) (.ref b) H Q :=
  ⟨l, b, xs, zs, rfl, rfl, h1, h2, Nat.le_trans hl (by decide), fun p hp => h p _ hp (fun b o e => by rw [upd_ne (ne_of_none e hp)]; exact e) upd_same (fun b hb => upd_ne hb)⟩
theorem i_newStrs {ys : List Str} (h : ∀ p H', H p = none → Same H H' → H' p = some (.lst (ys.map V.str)) → (∀ b, b ≠ p → H' b = H b) → Q (.ref p) H') : rNewStrs ys H Q :=
  fun p hp => h p _ hp (fun b o e => by rw [upd_ne (ne_of_none e hp)]; exact e) upd_same (fun b hb => upd_ne hb)
end
end Z
namespace Z
open PySem PySem.Spec PyProof.Rows L2
theorem ixN_n {n j : Nat} (hj : j < n) : ixN n (j : Int) = some j := by
  unfold ixN
  rw [if_pos (by omega), if_pos (by omega)]
  simp
/-! lists of ints and texts, the same ones -/
def sv : Int ⊕ Str → V
  | .inl i => .int i
  | .inr z => .str z
def sd : Int ⊕ Str → PyData
  | .inl i => .int i
  | .inr z => .str z
section
variable {K : PySem.W.Frag} {H : Hp} {Q : VK} {p q : Addr}
theorem dp_sv : ∀ ls : List (Int ⊕ Str), DpAll K H (ls.map sv) (ls.map sd)
  | [] => .nil
  | .inl i :: ls => .cons (.int i) (dp_sv ls)
  | .inr z :: ls => .cons (.str z) (dp_sv ls)
theorem eqv_sd : ∀ ls : List (Int ⊕ Str), PyData.eqvAll (ls.map sd) (ls.map sd) = true
  | [] => rfl
  | .inl i :: ls => by
    show (PyData.eqv (.int i) (.int i) && PyData.eqvAll _ _) = true
    rw [eqv_sd ls, Bool.and_true]
    show (i == i) = true
    simp
  | .inr z :: ls => by
    show (PyData.eqv (.str z) (.str z) && PyData.eqvAll _ _) = true
    rw [eqv_sd ls, Bool.and_true]
    show (z == z) = true
    simp
theorem shaped_sd (ls : List (Int ⊕ Str)) (hs : ∀ z, .inr z ∈ ls → PyData.strOk z = true) : SeqAt.shaped (.list (ls.map sd)) = true := by
  unfold SeqAt.shaped
  have d : ∀ ls : List (Int ⊕ Str), PyData.depthAll (ls.map sd) ≤ 1 := by
    intro ls
    induction ls with
    | nil => decide
    | cons n ns ih => cases n <;> simp [PyData.depthAll, PyData.depth, sd] at * <;> omega
  have l : ∀ ls : List (Int ⊕ Str), (∀ z, .inr z ∈ ls → PyData.strOk z = true) → PyData.canLayAll0 (ls.map sd) = true := by
    intro ls
    induction ls with
    | nil => intro _; rfl
    | cons n ns ih =>
      intro hs
      have ih2 := ih fun z hz => hs z (List.mem_cons_of_mem _ hz)
      cases n with
      | inl i =>
        simp [PyData.canLayAll0, PyData.canLay0, sd] at *
        exact ih2
      | inr z =>
        have := hs z List.mem_cons_self
        simp [PyData.canLayAll0, PyData.canLay0, sd] at *
        exact ⟨this, ih2⟩
  have := d ls
  simp [PyData.depth, PyData.canLay0]
  exact ⟨l ls hs, by omega⟩
theorem i_neSame {ls : List (Int ⊕ Str)} (hs : ∀ z, .inr z ∈ ls → PyData.strOk z = true) (h1 : H p = some (.lst (ls.map sv))) (h2 : H q = some (.lst (ls.map sv))) (h : Q (.bl false) H) : rNeD K (.ref p) (.ref q) H Q := by
  refine ⟨_, _, .lst (SqL.of h1) (dp_sv ls), .lst (SqL.of h2) (dp_sv ls), shaped_sd ls hs, shaped_sd ls hs, ?_⟩
  have e : PyData.eqv (.list (ls.map sd)) (.list (ls.map sd)) = true := eqv_sd ls
  rw [e]
  exact h
theorem i_eqSame {ls : List (Int ⊕ Str)} (hs : ∀ z, .inr z ∈ ls → PyData.strOk z = true) (h1 : H p = some (.lst (ls.map sv))) (h2 : H q = some (.lst (ls.map sv))) (h : Q (.bl true) H) : rEqD K (.ref p) (.ref q) H Q := by
  refine ⟨_, _, .lst (SqL.of h1) (dp_sv ls), .lst (SqL.of h2) (dp_sv ls), shaped_sd ls hs, shaped_sd ls hs, ?_⟩
  have e : PyData.eqv (.list (ls.map sd)) (.list (ls.map sd)) = true := eqv_sd ls
  rw [e]
  exact h
end
end Z
namespace Z
open PySem PySem.Spec PyProof.Rows L2
/-- what stands at the end of both branches -/
theorem i_cap {t u : TS} {c : Bool} {D : Ends} {σ : L2.St} {H : Hp} (P : L2.St → Hp → Prop) (hP : ∀ σ H, P σ H → D.nx σ H) (k : (∀ σ H, P σ H → D.nx σ H) → if c = true then t D σ H else u D σ H) : if c = true then t D σ H else u D σ H := k hP
end Z

set_option Elab.async false
set_option linter.all false
set_option maxRecDepth 100000
set_option maxHeartbeats 4000000
/-! texts of numbers, texts of ratios: the mathematics -/
namespace ZS
open PySem TL PySem.NumText
def dig (c : Nat) : Bool := decide (48 ≤ c ∧ c ≤ 57)
/-- the digits of a number from 1 on, at most thirty -/
def posL (l : List Nat) : Bool := decide (1 ≤ l.length ∧ l.length ≤ 30) && (!(l.head? == some 48) && l.all dig)
def sgnL (l : List Nat) : Bool := if l.head? = some 45 then posL l.tail else (decide (l = [48]) || posL l)
def iv (z : Str) : Int := (intText? z).getD 0
theorem posL_iff {l : List Nat} : posL l = true ↔ 1 ≤ l.length ∧ l.length ≤ 30 ∧ l.head? ≠ some 48 ∧ AllDigits l := by
  unfold posL AllDigits
  simp [dig, and_assoc]
theorem val_lt : ∀ (l : List Nat) (a : Nat), AllDigits l → l.foldl (fun acc c => acc * 10 + (c - 48)) a < (a + 1) * 10 ^ l.length
  | [], a, _ => by simp
  | c :: l, a, h => by
    rw [List.foldl_cons]
    have h1 := val_lt l (a * 10 + (c - 48)) h.tail
    have hc := h.head
    refine Nat.lt_of_lt_of_le h1 ?_
    rw [List.length_cons, Nat.pow_succ, Nat.mul_comm (10 ^ l.length) 10, ← Nat.mul_assoc]
    exact Nat.mul_le_mul_right _ (by omega)
theorem val_ge : ∀ (l : List Nat) (a : Nat), a ≤ l.foldl (fun acc c => acc * 10 + (c - 48)) a
  | [], a => Nat.le_refl _
  | c :: l, a => by
    rw [List.foldl_cons]
    exact Nat.le_trans (by omega) (val_ge l (a * 10 + (c - 48)))
theorem digits_lt {l : List Nat} (h : AllDigits l) (hl : l.length ≤ 30) : digitsVal l < 10 ^ 30 := by
  have := val_lt l 0 h
  unfold digitsVal
  rw [Nat.zero_add, Nat.one_mul] at this
  exact Nat.lt_of_lt_of_le this (Nat.pow_le_pow_right (by decide) hl)
theorem digits_pos {l : List Nat} (h : AllDigits l) (h1 : 1 ≤ l.length) (h0 : l.head? ≠ some 48) : 1 ≤ digitsVal l := by
  cases l with
  | nil => simp at h1
  | cons c l =>
    unfold digitsVal
    rw [List.foldl_cons]
    refine Nat.le_trans ?_ (val_ge l _)
    have := h.head
    simp at h0
    omega
theorem len_ne {l : List Nat} (h : 1 ≤ l.length) : l ≠ [] := by
  rintro rfl
  simp at h
theorem pos_int {z : Str} (h : posL (tl z) = true) : ∃ n : Nat, intText? z = some (n : Int) ∧ 1 ≤ n ∧ n < 10 ^ 30 ∧ z.length ≤ 30 := by
  obtain ⟨h1, h2, h3, h4⟩ := posL_iff.mp h
  have hl : z.length ≤ 30 := by rw [len_tl]; exact h2
  exact ⟨digitsVal (tl z), intText_digits h4 (len_ne h1) (by omega), digits_pos h4 h1 h3, digits_lt h4 h2, hl⟩
theorem sgn_cases {l : List Nat} (h : sgnL l = true) : (∃ r, l = 45 :: r ∧ posL r = true) ∨ l = [48] ∨ (posL l = true ∧ l.head? ≠ some 45) := by
  unfold sgnL at h
  by_cases e : l.head? = some 45
  · rw [if_pos e] at h
    cases l with
    | nil => simp at e
    | cons c r =>
      simp at e
      subst e
      exact .inl ⟨r, rfl, h⟩
  · rw [if_neg e] at h
    rcases Bool.or_eq_true_iff.mp h with h | h
    · exact .inr (.inl (of_decide_eq_true h))
    · exact .inr (.inr ⟨h, e⟩)
theorem sgn_int {z : Str} (h : sgnL (tl z) = true) : ∃ n : Int, intText? z = some n ∧ n.natAbs < 10 ^ 30 ∧ z.length ≤ 31 ∧ (1 ≤ n ↔ posL (tl z) = true) := by
  have hl := len_tl z
  rcases sgn_cases h with ⟨r, e, hp⟩ | e | ⟨hp, hne⟩
  · obtain ⟨h1, h2, h3, h4⟩ := posL_iff.mp hp
    have e2 : z.length = r.length + 1 := by rw [hl, e]; rfl
    refine ⟨_, intText_neg e h4 (len_ne h1) (by omega), ?_, by omega, ?_⟩
    · rw [Int.natAbs_neg]
      exact digits_lt h4 h2
    · constructor
      · intro hn
        have := digits_pos h4 h1 h3
        omega
      · intro hp2
        have := (posL_iff.mp hp2).2.2.2 45 (by rw [e]; exact List.mem_cons_self)
        omega
  · have ez : z.length = 1 := by rw [hl, e]; rfl
    have ed : AllDigits (tl z) := by
      rw [e]
      intro c hc
      obtain rfl := List.mem_singleton.mp hc
      decide
    refine ⟨_, intText_digits ed (by rw [show z.cps.toList = [48] from e]; simp) (by omega), ?_, by omega, ?_⟩
    · rw [show z.cps.toList = [48] from e]
      decide
    · rw [show z.cps.toList = [48] from e]
      constructor
      · intro hn
        exact absurd hn (by decide)
      · intro hp
        have := (posL_iff.mp (e ▸ hp)).2.2.1
        exact absurd rfl this
  · obtain ⟨n, hn, h1, h2, h3⟩ := pos_int hp
    exact ⟨n, hn, by omega, by omega, fun _ => hp, fun _ => by omega⟩
theorem iv_of {z : Str} {n : Int} (h : intText? z = some n) : iv z = n := by
  unfold iv
  rw [h]
  rfl
/-! ### the text of a number -/
def T (n : Int) : Str := Str.ofString (toString n)
theorem tl_pos (n : Nat) : tl (T (n : Int)) = numL n := tl_num n
theorem tl_neg {n : Nat} (h : 0 < n) : tl (T (-(n : Int))) = 45 :: numL n := by
  obtain ⟨m, rfl⟩ : ∃ m, n = m + 1 := ⟨n - 1, by omega⟩
  unfold T
  rw [tl_ofString]
  show ("-" ++ Nat.repr (m + 1)).toList.map Char.toNat = _
  rw [String.toList_append, List.map_append, Nat.toList_repr]
  rfl
theorem num_head : ∀ n : Nat, 1 ≤ n → (numL n).head? ≠ some 48 := by
  intro n
  induction n using Nat.strongRecOn with
  | ind n ih =>
    intro h
    by_cases h10 : n < 10
    · rw [numL_lt h10]
      simp
      omega
    · rw [numL_step (by omega)]
      have hne := numL_ne (n / 10)
      have := ih (n / 10) (by omega) (by omega)
      cases e : numL (n / 10) with
      | nil => exact absurd e hne
      | cons c r =>
        rw [e] at this
        simpa using this
theorem num_pos {n : Nat} (h : 1 ≤ n) (hn : n < 10 ^ 30) : posL (numL n) = true := by
  refine posL_iff.mpr ⟨?_, numL_len (by decide) hn, num_head n h, numL_digits n⟩
  have := numL_ne n
  cases e : numL n with
  | nil => exact absurd e this
  | cons c r => simp
theorem pos_head {l : List Nat} (h : posL l = true) : l.head? ≠ some 45 := by
  intro e
  cases l with
  | nil => simp at e
  | cons c r =>
    simp at e
    subst e
    have := (posL_iff.mp h).2.2.2.head
    omega
theorem T_sgn {n : Int} (h : n.natAbs < 10 ^ 30) : sgnL (tl (T n)) = true := by
  rcases Int.lt_trichotomy n 0 with hn | rfl | hn
  · obtain ⟨m, rfl⟩ : ∃ m : Nat, n = -(m : Int) := ⟨n.natAbs, by omega⟩
    rw [tl_neg (by omega)]
    show (if (45 :: numL m).head? = some 45 then posL (45 :: numL m).tail else _) = true
    rw [if_pos (show (45 :: numL m).head? = some 45 from rfl)]
    exact num_pos (by omega) (by omega)
  · decide +kernel
  · obtain ⟨m, rfl⟩ : ∃ m : Nat, n = (m : Int) := ⟨n.natAbs, by omega⟩
    rw [tl_pos]
    have hp := num_pos (n := m) (by omega) (by omega)
    unfold sgnL
    rw [if_neg (pos_head hp), hp]
    simp
theorem T_pos {n : Int} (h1 : 1 ≤ n) (h : n < 10 ^ 30) : posL (tl (T n)) = true := by
  obtain ⟨m, rfl⟩ : ∃ m : Nat, n = (m : Int) := ⟨n.natAbs, by omega⟩
  rw [tl_pos]
  exact num_pos (by omega) (by omega)
theorem T_int {n : Int} (h : n.natAbs < 10 ^ 30) : intText? (T n) = some n := by
  rcases Int.lt_trichotomy n 0 with hn | rfl | hn
  · obtain ⟨m, rfl⟩ : ∃ m : Nat, n = -(m : Int) := ⟨n.natAbs, by omega⟩
    have e := tl_neg (n := m) (by omega)
    have hl := numL_len (n := m) (k := 30) (by decide) (by omega)
    have h3 := intText_neg (x := T (-(m : Int))) e (numL_digits m) (numL_ne m) (by rw [len_tl, e, List.length_cons]; omega)
    rw [numL_val] at h3
    exact h3
  · decide +kernel
  · obtain ⟨m, rfl⟩ : ∃ m : Nat, n = (m : Int) := ⟨n.natAbs, by omega⟩
    have hl := numL_len (n := m) (k := 30) (by decide) (by omega)
    have h3 := intText_digits (x := T (m : Int)) (by rw [show (T (m : Int)).cps.toList = numL m from tl_pos m]; exact numL_digits m) (by rw [show (T (m : Int)).cps.toList = numL m from tl_pos m]; exact numL_ne m) (by rw [len_tl, tl_pos]; omega)
    rw [show (T (m : Int)).cps.toList = numL m from tl_pos m, numL_val] at h3
    exact h3
theorem T_free {n : Int} : 47 ∉ tl (T n) := by
  rcases Int.lt_or_le n 0 with hn | hn
  · obtain ⟨m, rfl⟩ : ∃ m : Nat, n = -(m : Int) := ⟨n.natAbs, by omega⟩
    rw [tl_neg (by omega)]
    intro h
    rcases List.mem_cons.mp h with h | h
    · exact absurd h (by decide)
    · exact numL_free (by decide) h
  · obtain ⟨m, rfl⟩ : ∃ m : Nat, n = (m : Int) := ⟨n.natAbs, by omega⟩
    rw [tl_pos]
    exact numL_free (by decide)
theorem T_len {n : Int} (h : n.natAbs < 10 ^ 30) : (T n).length ≤ 31 := by
  obtain ⟨_, _, _, h, _⟩ := sgn_int (T_sgn h)
  exact h
theorem T_neg {n : Int} (h : n < 0) : Str.ofString "-" ++ T (-n) = T n := by
  obtain ⟨m, rfl⟩ : ∃ m : Nat, n = -(m : Int) := ⟨n.natAbs, by omega⟩
  refine ext_tl ?_
  rw [tl_append, tl_neg (by omega), Int.neg_neg, tl_pos]
  rfl
/-! ### the stroke -/
abbrev slash : Str := Str.ofString "/"
theorem tl_slash : tl slash = [47] := by decide +kernel
theorem at_slash (z : Str) : (47 ∉ tl z ∧ Txt.partition z slash = (z, Str.empty, Str.empty) ∧ Txt.split z slash = [z]) ∨
    ∃ t b, z = t ++ slash ++ b ∧ 47 ∉ tl t ∧ Txt.partition z slash = (t, slash, b) ∧ Txt.split z slash = t :: Txt.split b slash := by
  have hk : ∀ x : Str, ¬ Builtin.Str.strKind x < Builtin.Str.strKind slash := fun x => kind_ok (by decide +kernel)
  have hne : tl slash ≠ [] := by rw [tl_slash]; simp
  by_cases h : 47 ∈ tl z
  · obtain ⟨as, bs, e, hn⟩ := List.eq_append_cons_of_mem h
    have ez : z = ⟨as.toArray⟩ ++ slash ++ ⟨bs.toArray⟩ := ext_tl (by rw [tl_append, tl_append, tl_slash]; show tl z = as ++ [47] ++ bs; rw [e]; simp)
    refine .inr ⟨⟨as.toArray⟩, ⟨bs.toArray⟩, ez, hn, ?_, ?_⟩
    · rw [ez]
      exact partition_app tl_slash hn
    · refine map_tl_inj ?_
      rw [List.map_cons, split_spl _ _ hne (hk _), split_spl _ _ hne (hk _), tl_slash, e, tl_mk]
      exact spl_part1 (S := []) (acc := []) hn
  · refine .inl ⟨h, partition_none tl_slash h, ?_⟩
    refine map_tl_inj ?_
    rw [split_spl _ _ hne (hk _), tl_slash, spl_last1 h]
    rfl
theorem split_ne (z : Str) : ∃ w ws, Txt.split z slash = w :: ws := by
  rcases at_slash z with ⟨_, _, e⟩ | ⟨t, b, _, _, _, e⟩
  · exact ⟨_, _, e⟩
  · exact ⟨_, _, e⟩
theorem pos_free {z : Str} (h : posL (tl z) = true) : 47 ∉ tl z := by
  intro hm
  have := (posL_iff.mp h).2.2.2 47 hm
  omega
/-- what read does: the place of the fault, or the two integers -/
def rdF (z : Str) : Int ⊕ (Int × Int) :=
  let p := Txt.partition z slash
  if sgnL (tl p.1) = true then (if p.2.1 = Str.empty then .inr (iv p.1, 1) else if posL (tl p.2.2) = true then .inr (iv p.1, iv p.2.2) else .inl 1) else .inl 0
theorem rdF_den {z : Str} {n d : Int} (h : rdF z = .inr (n, d)) : d ≠ 0 ∧ 1 ≤ d ∧ d < 10 ^ 30 ∧ n.natAbs < 10 ^ 30 := by
  unfold rdF at h
  by_cases h1 : sgnL (tl (Txt.partition z slash).1) = true
  · obtain ⟨m, hm, hb, _⟩ := sgn_int h1
    rw [if_pos h1] at h
    by_cases h2 : (Txt.partition z slash).2.1 = Str.empty
    · rw [if_pos h2] at h
      cases h
      rw [iv_of hm]
      exact ⟨by decide, by decide, by decide, hb⟩
    · rw [if_neg h2] at h
      by_cases h3 : posL (tl (Txt.partition z slash).2.2) = true
      · rw [if_pos h3] at h
        obtain ⟨k, hk, k1, k2, _⟩ := pos_int h3
        cases h
        rw [iv_of hm, iv_of hk]
        exact ⟨by omega, by omega, by omega, hb⟩
      · rw [if_neg h3] at h
        cases h
  · rw [if_neg h1] at h
    cases h
theorem slash_ne : slash ≠ Str.empty := by decide +kernel
theorem rd_T {n : Int} (h : n.natAbs < 10 ^ 30) : rdF (T n) = .inr (n, 1) := by
  unfold rdF
  rw [partition_none tl_slash T_free]
  show (if sgnL (tl (T n)) = true then (if Str.empty = Str.empty then Sum.inr (iv (T n), (1 : Int)) else _) else _) = _
  rw [if_pos (T_sgn h), if_pos (show Str.empty = Str.empty from rfl), iv_of (T_int h)]
theorem rd_TT {n d : Int} (h : n.natAbs < 10 ^ 30) (h1 : 1 ≤ d) (h2 : d < 10 ^ 30) : rdF (T n ++ slash ++ T d) = .inr (n, d) := by
  unfold rdF
  rw [partition_app tl_slash T_free]
  simp only []
  rw [if_pos (T_sgn h), if_neg slash_ne, if_pos (T_pos h1 h2), iv_of (T_int h), iv_of (T_int (by omega))]
theorem rd_nil : rdF Str.empty = .inl 0 := by decide +kernel
end ZS
namespace ZS
open PySem TL PySem.NumText
theorem starts_minus (z : Str) : Txt.startswith z (Str.ofString "-") = decide ((tl z).head? = some 45) := by
  have em : tl (Str.ofString "-") = [45] := by decide +kernel
  have el : (Str.ofString "-").length = 1 := by decide +kernel
  unfold Txt.startswith
  rw [StrLaws.subAt_eq, el, show (Str.ofString "-").cps.toList = [45] from em, len_tl, show z.cps.toList = tl z from rfl, List.drop_zero]
  cases tl z with
  | nil => rfl
  | cons c r =>
    show (decide (0 + 1 ≤ r.length + 1) && (([c] : List Nat) == [45])) = _
    rw [decide_eq_true (by omega), Bool.true_and]
    by_cases h : c = 45
    · subst h
      rfl
    · rw [decide_eq_false (by simpa using h)]
      simpa using h
end ZS
namespace ZS
open PySem TL
theorem join1 (y x : Str) : Txt.join y [x] = x := by
  refine ext_tl ?_
  rw [join_eq, tl_join]
  rfl
theorem join2 (y a b : Str) : Txt.join y [a, b] = a ++ y ++ b := by
  refine ext_tl ?_
  rw [join_eq, tl_join, tl_append, tl_append, List.append_assoc]
  rfl
end ZS
namespace ZS
open PySem TL PySem.NumText
/-- the law's own look: the digits d of the word l -/
def intB (d l : List Nat) : Bool := decide (1 ≤ d.length ∧ d.length ≤ 30) && (d.all dig && (!(d.head? == some 48) || decide (l = [48])))
theorem int_minus {l : List Nat} (h : l.head? = some 45) : sgnL l = intB l.tail l := by
  unfold sgnL intB posL
  rw [if_pos h]
  have : decide (l = [48]) = false := by
    refine decide_eq_false ?_
    rintro rfl
    simp at h
  rw [this, Bool.or_false]
  cases decide (1 ≤ l.tail.length ∧ l.tail.length ≤ 30) <;> cases l.tail.all dig <;> cases (l.tail.head? == some 48) <;> rfl
theorem int_plain {l : List Nat} (h : ¬ l.head? = some 45) : sgnL l = intB l l := by
  unfold sgnL intB posL
  rw [if_neg h]
  by_cases e : l = [48]
  · subst e
    rfl
  · rw [decide_eq_false e, Bool.false_or, Bool.or_false]
    cases decide (1 ≤ l.length ∧ l.length ≤ 30) <;> cases l.all dig <;> cases (l.head? == some 48) <;> rfl
theorem take1 {l : List Nat} : l.take 1 = [45] ↔ l.head? = some 45 := by
  cases l with
  | nil => simp
  | cons c r => simp
end ZS
namespace ZS
open PySem TL
theorem rd_plain {z : Str} (h : Txt.partition z slash = (z, Str.empty, Str.empty)) : rdF z = if sgnL (tl z) = true then .inr (iv z, 1) else .inl 0 := by
  unfold rdF
  rw [h]
  show (if sgnL (tl z) = true then (if Str.empty = Str.empty then Sum.inr (iv z, (1 : Int)) else _) else _) = _
  rw [if_pos (show Str.empty = Str.empty from rfl)]
theorem rd_two {z t b : Str} (h : Txt.partition z slash = (t, slash, b)) : rdF z = if sgnL (tl t) = true then (if posL (tl b) = true then .inr (iv t, iv b) else .inl 1) else .inl 0 := by
  unfold rdF
  rw [h]
  show (if sgnL (tl t) = true then (if slash = Str.empty then _ else if posL (tl b) = true then Sum.inr (iv t, iv b) else Sum.inl (1 : Int)) else _) = _
  rw [if_neg slash_ne]
end ZS
namespace ZS
open PySem TL
theorem joinL_len : ∀ l : List (List Nat), l ≠ [] → (joinL [47] l).length + 1 = (l.map List.length).sum + l.length
  | [], h => absurd rfl h
  | [p], _ => by simp [joinL]
  | p :: q :: r, _ => by
    have ih := joinL_len (q :: r) (by simp)
    show (p ++ ([47] ++ joinL [47] (q :: r))).length + 1 = _
    rw [List.length_append, List.length_append]
    simp only [List.map_cons, List.sum_cons, List.length_cons] at ih ⊢
    simp only [List.length_nil]
    omega
theorem join_len {ys : List Str} (h : ys ≠ []) : (Txt.join slash ys).length + 1 = (ys.map (·.length)).sum + ys.length := by
  have h1 := joinL_len (ys.map tl) (by simpa using h)
  have e : (ys.map tl).map List.length = ys.map (·.length) := by
    rw [List.map_map]
    refine List.map_congr_left fun z _ => ?_
    exact (len_tl z).symm
  rw [e, List.length_map] at h1
  rw [← h1, len_tl, join_eq, tl_join, tl_slash]
theorem sum_set : ∀ (l : List Nat) (i x : Nat), (l.set i x).sum ≤ l.sum + x
  | [], _, _ => by simp
  | a :: l, 0, x => by
    simp only [List.set_cons_zero, List.sum_cons]
    omega
  | a :: l, i + 1, x => by
    have := sum_set l i x
    simp only [List.set_cons_succ, List.sum_cons]
    omega
theorem split_sum (z : Str) : ((Txt.split z slash).map (·.length)).sum + (Txt.split z slash).length = z.length + 1 := by
  obtain ⟨w, ws, e⟩ := split_ne z
  rw [← join_len (by rw [e]; simp), join_eq, StrLaws.join_split]
theorem set_join (z m : Str) (j : Nat) : (((Txt.split z slash).set j m).map (·.length)).sum + ((Txt.split z slash).set j m).length ≤ z.length + 1 + m.length ∧ (Txt.join slash ((Txt.split z slash).set j m)).length ≤ z.length + m.length := by
  have h1 := split_sum z
  have h2 := sum_set ((Txt.split z slash).map (·.length)) j m.length
  have e : ((Txt.split z slash).set j m).map (·.length) = ((Txt.split z slash).map (·.length)).set j m.length := List.map_set
  obtain ⟨w, ws, ew⟩ := split_ne z
  have h3 := join_len (ys := (Txt.split z slash).set j m) (by
    intro h
    have := congrArg List.length h
    rw [List.length_set, ew] at this
    simp at this)
  rw [List.length_set, e] at *
  omega
end ZS

set_option linter.all false
namespace OM
variable {α : Type} [DecidableEq α]
inductive Rch (E : List (α × α)) : α → α → Prop
  | refl (a : α) : Rch E a a
  | step {a b c : α} : (a, b) ∈ E → Rch E b c → Rch E a c
theorem Rch.trans {E : List (α × α)} {a b c : α} (h : Rch E a b) (k : Rch E b c) : Rch E a c := by
  induction h with
  | refl => exact k
  | step e _ ih => exact .step e (ih k)
theorem Rch.one {E : List (α × α)} {a b : α} (h : (a, b) ∈ E) : Rch E a b := .step h (.refl _)
theorem Rch.mono {E F : List (α × α)} (hs : ∀ p ∈ E, Rch F p.1 p.2) {a b : α} (h : Rch E a b) : Rch F a b := by
  induction h with
  | refl => exact .refl _
  | step e _ ih => exact (hs _ e).trans ih
theorem Rch.mem {E : List (α × α)} {N : List α} (hE : ∀ p ∈ E, p.1 ∈ N ∧ p.2 ∈ N) {a b : α} (h : Rch E a b) : a = b ∨ (a ∈ N ∧ b ∈ N) := by
  induction h with
  | refl => exact .inl rfl
  | step e _ ih =>
    rcases ih with rfl | h
    · exact .inr (hE _ e)
    · exact .inr ⟨(hE _ e).1, h.2⟩
open Classical in
noncomputable def cl (E : List (α × α)) (a b : α) : Bool := decide (Rch E a b)
theorem cl_iff {E : List (α × α)} {a b : α} : cl E a b = true ↔ Rch E a b := by simp [cl]
theorem cl_false {E : List (α × α)} {a b : α} : cl E a b = false ↔ ¬ Rch E a b := by simp [cl]
theorem cl_refl (E : List (α × α)) (a : α) : cl E a a = true := cl_iff.mpr (.refl a)
theorem cl_trans {E : List (α × α)} {a b c : α} (h : cl E a b = true) (k : cl E b c = true) : cl E a c = true := cl_iff.mpr ((cl_iff.mp h).trans (cl_iff.mp k))
theorem cl_congr {E F : List (α × α)} (h : ∀ p ∈ E, Rch F p.1 p.2) (k : ∀ p ∈ F, Rch E p.1 p.2) : cl E = cl F := by
  funext a b
  rw [Bool.eq_iff_iff, cl_iff, cl_iff]
  exact ⟨Rch.mono h, Rch.mono k⟩
/-! ### Warshall -/
def wm (E : List (α × α)) : List α → α → α → Bool
  | [], a, b => decide (a = b) || decide ((a, b) ∈ E)
  | m :: ms, a, b => wm E ms a b || (wm E ms a m && wm E ms m b)
theorem wm_mono {E : List (α × α)} {m : α} {ms : List α} {a b : α} (h : wm E ms a b = true) : wm E (m :: ms) a b = true := by simp [wm, h]
theorem wm_base {E : List (α × α)} {a b : α} (h : wm E [] a b = true) : ∀ ms, wm E ms a b = true
  | [] => h
  | _ :: ms => wm_mono (wm_base h ms)
theorem wm_refl (E : List (α × α)) (ms : List α) (a : α) : wm E ms a a = true := wm_base (by simp [wm]) ms
theorem wm_edge {E : List (α × α)} {a b : α} (h : (a, b) ∈ E) (ms : List α) : wm E ms a b = true := wm_base (by simp [wm, h]) ms
theorem wm_trans {E : List (α × α)} : ∀ {ms : List α} {m a b : α}, m ∈ ms → wm E ms a m = true → wm E ms m b = true → wm E ms a b = true
  | m' :: ms, m, a, b, hm, h1, h2 => by
    simp only [wm, Bool.or_eq_true, Bool.and_eq_true] at h1 h2 ⊢
    by_cases e : m = m'
    · subst e
      have h1' : wm E ms a m = true := by rcases h1 with h | h; exact h; exact h.1
      have h2' : wm E ms m b = true := by rcases h2 with h | h; exact h; exact h.2
      exact .inr ⟨h1', h2'⟩
    · have hm : m ∈ ms := by
        rcases List.mem_cons.mp hm with h | h
        · exact absurd h e
        · exact h
      rcases h1 with h1 | ⟨h1, h1'⟩ <;> rcases h2 with h2 | ⟨h2, h2'⟩
      · exact .inl (wm_trans hm h1 h2)
      · exact .inr ⟨wm_trans hm h1 h2, h2'⟩
      · exact .inr ⟨h1, wm_trans hm h1' h2⟩
      · exact .inr ⟨h1, h2'⟩
theorem wm_rch {E : List (α × α)} : ∀ {ms : List α} {a b : α}, wm E ms a b = true → Rch E a b
  | [], a, b, h => by
    simp only [wm, Bool.or_eq_true, decide_eq_true_eq] at h
    rcases h with rfl | h
    · exact .refl _
    · exact .one h
  | m :: ms, a, b, h => by
    simp only [wm, Bool.or_eq_true, Bool.and_eq_true] at h
    rcases h with h | ⟨h, k⟩
    · exact wm_rch h
    · exact (wm_rch h).trans (wm_rch k)
theorem rch_wm {E : List (α × α)} {ms : List α} (hE : ∀ p ∈ E, p.2 ∈ ms) {a b : α} (h : Rch E a b) : wm E ms a b = true := by
  induction h with
  | refl => exact wm_refl _ _ _
  | step e _ ih => exact wm_trans (hE _ e) (wm_edge e ms) ih
theorem wm_cl {E : List (α × α)} {ms : List α} (hE : ∀ p ∈ E, p.2 ∈ ms) : wm E ms = cl E := by
  funext a b
  rw [Bool.eq_iff_iff, cl_iff]
  exact ⟨wm_rch, rch_wm hE⟩
/-! ### paths of a length -/
def Pth (E : List (α × α)) : Nat → α → α → Prop
  | 0, a, b => a = b
  | k + 1, a, b => a = b ∨ ∃ c, (a, c) ∈ E ∧ Pth E k c b
theorem Pth.refl (E : List (α × α)) : ∀ (k : Nat) (a : α), Pth E k a a
  | 0, _ => rfl
  | _ + 1, _ => .inl rfl
theorem Pth.succ {E : List (α × α)} : ∀ {k : Nat} {a b : α}, Pth E k a b → Pth E (k + 1) a b
  | 0, _, _, h => .inl h
  | k + 1, _, _, h => by
    rcases h with rfl | ⟨c, e, h⟩
    · exact .inl rfl
    · exact .inr ⟨c, e, h.succ⟩
theorem Pth.le {E : List (α × α)} {k j : Nat} (h : k ≤ j) {a b : α} (p : Pth E k a b) : Pth E j a b := by
  induction h with
  | refl => exact p
  | step _ ih => exact ih.succ
theorem rch_pth {E : List (α × α)} {a b : α} (h : Rch E a b) : ∃ k, Pth E k a b := by
  induction h with
  | refl => exact ⟨0, rfl⟩
  | step e _ ih => exact ⟨ih.choose + 1, .inr ⟨_, e, ih.choose_spec⟩⟩
theorem Pth.mem {E : List (α × α)} {N : List α} (hE : ∀ p ∈ E, p.1 ∈ N ∧ p.2 ∈ N) : ∀ {k : Nat} {a b : α}, Pth E k a b → b ∈ N → a ∈ N
  | 0, _, _, h, hb => h ▸ hb
  | k + 1, _, _, h, hb => by
    rcases h with rfl | ⟨c, e, _⟩
    · exact hb
    · exact (hE _ e).1
open Classical in
theorem stall {E : List (α × α)} {b : α} {k : Nat} (h : ∀ a, Pth E (k + 1) a b → Pth E k a b) : ∀ j a, Pth E j a b → Pth E k a b
  | 0, a, p => by
    cases p
    exact Pth.refl _ _ _
  | j + 1, a, p => by
    rcases p with rfl | ⟨c, e, p⟩
    · exact Pth.refl _ _ _
    · exact h a (.inr ⟨c, e, stall h j c p⟩)
theorem filter_sub_eq {p q : α → Bool} : ∀ {l : List α}, (∀ a ∈ l, p a = true → q a = true) → (l.filter q).length ≤ (l.filter p).length → ∀ a ∈ l, q a = true → p a = true
  | [], _, _, a, ha, _ => by cases ha
  | x :: l, hs, hl, a, ha, hq => by
    have hs' : ∀ a ∈ l, p a = true → q a = true := fun a h => hs a (List.mem_cons_of_mem _ h)
    have le : (l.filter p).length ≤ (l.filter q).length := by
      clear hl hq ha
      induction l with
      | nil => exact Nat.le_refl _
      | cons y l ih =>
        have ih := ih (fun a h => hs a (by
          rcases List.mem_cons.mp h with h | h
          · exact h ▸ List.mem_cons_self
          · exact List.mem_cons_of_mem _ (List.mem_cons_of_mem _ h))) fun a h => hs' a (List.mem_cons_of_mem _ h)
        have := hs' y List.mem_cons_self
        simp only [List.filter_cons]
        by_cases h1 : p y = true
        · rw [if_pos h1, if_pos (this h1)]
          simp; omega
        · rw [if_neg h1]
          split
          · simp; omega
          · exact ih
    have hx := hs x List.mem_cons_self
    simp only [List.filter_cons] at hl
    by_cases h1 : p x = true
    · rw [if_pos h1, if_pos (hx h1)] at hl
      rcases List.mem_cons.mp ha with h | h
      · exact h ▸ h1
      · exact filter_sub_eq hs' (by simpa using hl) a h hq
    · rw [if_neg h1] at hl
      by_cases h2 : q x = true
      · rw [if_pos h2] at hl
        simp at hl
        omega
      · rw [if_neg h2] at hl
        rcases List.mem_cons.mp ha with h | h
        · exact absurd (h ▸ hq) h2
        · exact filter_sub_eq hs' hl a h hq
open Classical in
theorem grows {E : List (α × α)} {N : List α} (hE : ∀ p ∈ E, p.1 ∈ N ∧ p.2 ∈ N) {b : α} (hb : b ∈ N) : ∀ k, (∀ a, Pth E (k + 1) a b → Pth E k a b) ∨ k + 1 ≤ (N.filter fun a => decide (Pth E k a b)).length
  | 0 => by
    right
    have : b ∈ N.filter fun a => decide (Pth E 0 a b) := List.mem_filter.mpr ⟨hb, by simp [Pth]⟩
    have := List.length_pos_of_mem this
    omega
  | k + 1 => by
    rcases grows hE hb k with h | h
    · exact .inl fun a p => (stall h _ a p).succ
    · by_cases q : k + 2 ≤ (N.filter fun a => decide (Pth E (k + 1) a b)).length
      · exact .inr q
      · left
        have st : ∀ a, Pth E (k + 1) a b → Pth E k a b := fun a p => by
          have := filter_sub_eq (l := N) (p := fun a => decide (Pth E k a b)) (q := fun a => decide (Pth E (k + 1) a b)) (fun a _ h => by simpa using (of_decide_eq_true h).succ) (by omega) a (p.mem hE hb) (by simpa using p)
          simpa using this
        exact fun a p => (stall st _ a p).succ
open Classical in
theorem rch_short {E : List (α × α)} {N : List α} (hE : ∀ p ∈ E, p.1 ∈ N ∧ p.2 ∈ N) {a b : α} (h : Rch E a b) : Pth E N.length a b := by
  rcases h.mem hE with rfl | ⟨_, hb⟩
  · exact Pth.refl _ _ _
  · obtain ⟨j, p⟩ := rch_pth h
    rcases grows hE hb N.length with q | q
    · exact stall q j a p
    · have := List.length_filter_le (fun a => decide (Pth E N.length a b)) N
      omega
/-! ### the law's own closure -/
def put (f : α → List α) (a : α) (l : List α) : α → List α := fun x => if x = a then l else f x
def turn1 (f : α → List α) (p : α × α) : α → List α := put f p.1 (f p.1 ++ (f p.2).filter fun x => !decide (x ∈ f p.1))
def turn (E : List (α × α)) (f : α → List α) : α → List α := E.foldl turn1 f
def turns (E : List (α × α)) : Nat → (α → List α) → α → List α
  | 0, f => f
  | n + 1, f => turns E n (turn E f)
theorem turn1_mono {f : α → List α} {p : α × α} {a b : α} (h : b ∈ f a) : b ∈ turn1 f p a := by
  unfold turn1 put
  split
  · rename_i e
    subst e
    exact List.mem_append_left _ h
  · exact h
theorem turn_mono {E : List (α × α)} : ∀ {f : α → List α} {a b : α}, b ∈ f a → b ∈ turn E f a := by
  induction E with
  | nil => exact fun h => h
  | cons p E ih => exact fun h => ih (turn1_mono h)
theorem turn_edge {E : List (α × α)} : ∀ {f : α → List α} {p : α × α} {b : α}, p ∈ E → b ∈ f p.2 → b ∈ turn E f p.1 := by
  induction E with
  | nil => intro f p b h; cases h
  | cons q E ih =>
    intro f p b h hb
    rcases List.mem_cons.mp h with rfl | h
    · show b ∈ turn E (turn1 f p) p.1
      refine turn_mono ?_
      unfold turn1 put
      rw [if_pos rfl]
      by_cases e : b ∈ f p.1
      · exact List.mem_append_left _ e
      · exact List.mem_append_right _ (List.mem_filter.mpr ⟨hb, by simp [e]⟩)
    · exact ih h (turn1_mono hb)
theorem turns_succ (E : List (α × α)) : ∀ (n : Nat) (f : α → List α), turns E (n + 1) f = turn E (turns E n f)
  | 0, _ => rfl
  | n + 1, f => turns_succ E n (turn E f)
theorem turns_pth {E : List (α × α)} : ∀ {k : Nat} {a b : α}, Pth E k a b → b ∈ turns E k (fun x => [x]) a
  | 0, a, b, h => by
    cases h
    exact List.mem_singleton.mpr rfl
  | k + 1, a, b, h => by
    rw [turns_succ]
    rcases h with rfl | ⟨c, e, h⟩
    · exact turn_mono (turns_pth (Pth.refl E k a))
    · exact turn_edge (p := (a, c)) e (turns_pth h)
theorem turn1_sound {E : List (α × α)} {f : α → List α} {p : α × α} (hp : p ∈ E) (h : ∀ a b, b ∈ f a → Rch E a b) : ∀ a b, b ∈ turn1 f p a → Rch E a b := by
  intro a b hb
  unfold turn1 put at hb
  split at hb
  · rename_i e
    subst e
    rcases List.mem_append.mp hb with hb | hb
    · exact h _ _ hb
    · exact .step hp (h _ _ (List.mem_filter.mp hb).1)
  · exact h _ _ hb
theorem turn_sound {E : List (α × α)} : ∀ {F : List (α × α)} {f : α → List α}, (∀ p ∈ F, p ∈ E) → (∀ a b, b ∈ f a → Rch E a b) → ∀ a b, b ∈ turn F f a → Rch E a b := by
  intro F
  induction F with
  | nil => exact fun _ h => h
  | cons p F ih => exact fun hs h => ih (fun q hq => hs q (List.mem_cons_of_mem _ hq)) (turn1_sound (hs p List.mem_cons_self) h)
theorem turns_sound {E : List (α × α)} : ∀ {k : Nat} {a b : α}, b ∈ turns E k (fun x => [x]) a → Rch E a b
  | 0, a, b, h => by
    rw [List.mem_singleton.mp h]
    exact .refl _
  | k + 1, a, b, h => by
    rw [turns_succ] at h
    exact turn_sound (fun _ h => h) (fun _ _ h => turns_sound h) a b h
theorem turn1_nodup {f : α → List α} {p : α × α} (h : ∀ a, (f a).Nodup) : ∀ a, (turn1 f p a).Nodup := by
  intro a
  unfold turn1 put
  split
  · refine List.nodup_append.mpr ⟨h _, (h _).filter _, ?_⟩
    intro x hx y hy e
    subst e
    have := (List.mem_filter.mp hy).2
    simp [hx] at this
  · exact h a
theorem turn_nodup : ∀ {F : List (α × α)} {f : α → List α}, (∀ a, (f a).Nodup) → ∀ a, (turn F f a).Nodup := by
  intro F
  induction F with
  | nil => exact fun h => h
  | cons p F ih => exact fun h => ih (turn1_nodup h)
theorem turns_nodup {E : List (α × α)} : ∀ {k : Nat} (a : α), (turns E k (fun x => [x]) a).Nodup
  | 0, a => by simp [turns]
  | k + 1, a => by
    rw [turns_succ]
    exact turn_nodup (fun a => turns_nodup a) a
/-- what the law's closure has -/
theorem turns_iff {E : List (α × α)} {N : List α} (hE : ∀ p ∈ E, p.1 ∈ N ∧ p.2 ∈ N) {a b : α} : b ∈ turns E N.length (fun x => [x]) a ↔ cl E a b = true := by
  rw [cl_iff]
  exact ⟨turns_sound, fun h => turns_pth (rch_short hE h)⟩
end OM

set_option linter.all false
namespace OM
variable {α : Type} [DecidableEq α]
/-! ### pairs and covers -/
def ab (N : List α) (R : α → α → Bool) (a : α) : List α := N.filter (R a)
def prs (N : List α) (R : α → α → Bool) : List (α × α) := N.flatMap fun a => ((ab N R a).filter fun b => !decide (a = b)).map fun b => (a, b)
def btw (N : List α) (R : α → α → Bool) (a b : α) : List α := (ab N R a).filter fun c => R c b
def cvs (N : List α) (R : α → α → Bool) : List (α × α) := (prs N R).filter fun p => decide ((btw N R p.1 p.2).length = 2)
theorem mem_ab {N : List α} {R : α → α → Bool} {a b : α} : b ∈ ab N R a ↔ b ∈ N ∧ R a b = true := List.mem_filter
theorem mem_prs {N : List α} {R : α → α → Bool} {a b : α} : (a, b) ∈ prs N R ↔ a ∈ N ∧ b ∈ N ∧ R a b = true ∧ a ≠ b := by
  simp only [prs, List.mem_flatMap, List.mem_map, List.mem_filter, Prod.mk.injEq, mem_ab]
  constructor
  · rintro ⟨x, hx, y, ⟨hy, hn⟩, rfl, rfl⟩
    exact ⟨hx, hy.1, hy.2, by simpa using hn⟩
  · rintro ⟨h1, h2, h3, h4⟩
    exact ⟨a, h1, b, ⟨⟨h2, h3⟩, by simpa using h4⟩, rfl, rfl⟩
theorem mem_btw {N : List α} {R : α → α → Bool} {a b c : α} : c ∈ btw N R a b ↔ c ∈ N ∧ R a c = true ∧ R c b = true := by
  simp only [btw, List.mem_filter, mem_ab, and_assoc]
theorem mem_cvs {N : List α} {R : α → α → Bool} {a b : α} : (a, b) ∈ cvs N R ↔ (a ∈ N ∧ b ∈ N ∧ R a b = true ∧ a ≠ b) ∧ (btw N R a b).length = 2 := by
  simp only [cvs, List.mem_filter, mem_prs, decide_eq_true_eq]
theorem nodup_two {l : List α} (h : l.Nodup) {a b : α} (ha : a ∈ l) (hb : b ∈ l) (ne : a ≠ b) : l.length = 2 + (l.filter fun c => !decide (c = a) && !decide (c = b)).length := by
  have one : ∀ {l : List α} {a : α}, l.Nodup → a ∈ l → l.length = 1 + (l.filter fun c => !decide (c = a)).length := by
    intro l a
    induction l with
    | nil => intro _ h; cases h
    | cons x l ih =>
      intro hn hm
      obtain ⟨h1, h2⟩ := List.nodup_cons.mp hn
      by_cases e : x = a
      · subst e
        have : l.filter (fun c => !decide (c = x)) = l := List.filter_eq_self.mpr fun c hc => by
          have : c ≠ x := fun e => h1 (e ▸ hc)
          simpa using this
        simp [this]
        omega
      · have hm : a ∈ l := by
          rcases List.mem_cons.mp hm with h | h
          · exact absurd h.symm e
          · exact h
        have := ih h2 hm
        simp [e]
        omega
  have h1 := one h ha
  have h2 := one (a := b) (h.filter fun c => !decide (c = a)) (List.mem_filter.mpr ⟨hb, by simpa using Ne.symm ne⟩)
  rw [List.filter_filter] at h2
  have e : (l.filter fun c => (!decide (c = b)) && !decide (c = a)) = l.filter fun c => !decide (c = a) && !decide (c = b) := by
    congr 1
    funext c
    exact Bool.and_comm _ _
  rw [e] at h2
  omega
theorem btw_two {N : List α} {R : α → α → Bool} (hN : N.Nodup) (hr : ∀ a, R a a = true) {a b : α} (ha : a ∈ N) (hb : b ∈ N) (h : R a b = true) (ne : a ≠ b) :
    (btw N R a b).length = 2 ↔ ∀ c ∈ N, R a c = true → R c b = true → c = a ∨ c = b := by
  have hn : (btw N R a b).Nodup := (hN.filter _).filter _
  have := nodup_two hn (mem_btw.mpr ⟨ha, hr a, h⟩) (mem_btw.mpr ⟨hb, h, hr b⟩) ne
  rw [this]
  constructor
  · intro e c hc h1 h2
    have z : ((btw N R a b).filter fun c => !decide (c = a) && !decide (c = b)) = [] := List.eq_nil_of_length_eq_zero (by omega)
    have := List.filter_eq_nil_iff.mp z c (mem_btw.mpr ⟨hc, h1, h2⟩)
    simp at this
    by_cases e : c = a
    · exact .inl e
    · exact .inr (this e)
  · intro k
    have z : ((btw N R a b).filter fun c => !decide (c = a) && !decide (c = b)) = [] := List.filter_eq_nil_iff.mpr fun c hc => by
      obtain ⟨hc, h1, h2⟩ := mem_btw.mp hc
      rcases k c hc h1 h2 with e | e <;> simp [e]
    rw [z]
    rfl
/-- covers as the law finds them: f tells what is above -/
def lcv (N : List α) (f : α → List α) (g : α → List α) : List (α × α) := N.flatMap fun a => ((g a).filter fun b => !decide (b = a) && decide (((f a).filter fun c => !(decide (c = a) || decide (c = b)) && decide (b ∈ f c)) = [])).map fun b => (a, b)
theorem lcv_eq {N : List α} {R : α → α → Bool} {f : α → List α} (hN : N.Nodup) (hr : ∀ a, R a a = true) (hf : ∀ a ∈ N, ∀ b, b ∈ f a ↔ b ∈ N ∧ R a b = true) : lcv N f (ab N R) = cvs N R := by
  unfold lcv cvs prs
  rw [List.filter_flatMap]
  have cong : ∀ {l : List α} {F G : α → List (α × α)}, (∀ a ∈ l, F a = G a) → l.flatMap F = l.flatMap G := by
    intro l F G h
    induction l with
    | nil => rfl
    | cons x l ih => rw [List.flatMap_cons, List.flatMap_cons, h x List.mem_cons_self, ih fun a ha => h a (List.mem_cons_of_mem _ ha)]
  refine cong fun a ha => ?_
  rw [List.filter_map, List.filter_filter]
  congr 1
  refine List.filter_congr fun b hb => ?_
  obtain ⟨hb, hR⟩ := mem_ab.mp hb
  by_cases e : b = a
  · simp [e]
  · have e' : ¬ a = b := fun z => e z.symm
    simp only [Function.comp, e, e', decide_false, Bool.not_false, Bool.true_and, Bool.and_true]
    refine decide_eq_decide.mpr ?_
    rw [btw_two hN hr ha hb hR e', List.filter_eq_nil_iff]
    constructor
    · intro k c hc h1 h2
      have := k c ((hf a ha c).mpr ⟨hc, h1⟩)
      have := this
      simp [(hf c hc b).mpr ⟨hb, h2⟩] at this
      by_cases z : c = a
      · exact .inl z
      · exact .inr (this z)
    · intro k c hc
      obtain ⟨hc, h1⟩ := (hf a ha c).mp hc
      by_cases h2 : b ∈ f c
      · rcases k c hc h1 ((hf c hc b).mp h2).2 with z | z <;> simp [z]
      · simp [h2]
/-- covers tell the order -/
theorem cvs_rch {N : List α} {R : α → α → Bool} (hN : N.Nodup) (hr : ∀ a, R a a = true) (ht : ∀ a b c, R a b = true → R b c = true → R a c = true) (hs : ∀ a b, a ∈ N → b ∈ N → R a b = true → R b a = true → a = b) :
    ∀ (n : Nat) (a b : α), (btw N R a b).length ≤ n → a ∈ N → b ∈ N → R a b = true → Rch (cvs N R) a b
  | 0, a, b, h, ha, hb, k => by
    have := List.length_pos_of_mem (mem_btw.mpr ⟨ha, hr a, k⟩)
    omega
  | n + 1, a, b, h, ha, hb, k => by
    by_cases e : a = b
    · exact e ▸ .refl _
    by_cases two : (btw N R a b).length = 2
    · exact .one (mem_cvs.mpr ⟨⟨ha, hb, k, e⟩, two⟩)
    · rw [btw_two hN hr ha hb k e] at two
      obtain ⟨c, hc, h1, h2, ca, cb⟩ : ∃ c, c ∈ N ∧ R a c = true ∧ R c b = true ∧ c ≠ a ∧ c ≠ b := by
        refine Classical.byContradiction fun no => two fun c hc h1 h2 => ?_
        by_cases z : c = a
        · exact .inl z
        · exact .inr (Classical.byContradiction fun z2 => no ⟨c, hc, h1, h2, z, z2⟩)
      have less : ∀ x y z, x ∈ btw N R a b → x ∉ btw N R y z → (∀ w, w ∈ btw N R y z → w ∈ btw N R a b) → (btw N R y z).length ≤ n := by
        intro x y z hx hn hsub
        have nd : (x :: btw N R y z).Nodup := List.nodup_cons.mpr ⟨hn, (hN.filter _).filter _⟩
        have := nd.length_le_of_subset (l₂ := btw N R a b) fun w hw => by
          rcases List.mem_cons.mp hw with rfl | hw
          · exact hx
          · exact hsub w hw
        simp at this
        omega
      refine (cvs_rch hN hr ht hs n a c (less b a c (mem_btw.mpr ⟨hb, k, hr b⟩) (fun z => cb (hs _ _ hc hb h2 (mem_btw.mp z).2.2)) fun w hw => ?_) ha hc h1).trans
        (cvs_rch hN hr ht hs n c b (less a c b (mem_btw.mpr ⟨ha, hr a, k⟩) (fun z => ca (hs _ _ hc ha (mem_btw.mp z).2.1 h1)) fun w hw => ?_) hc hb h2)
      · obtain ⟨x, y, z⟩ := mem_btw.mp hw
        exact mem_btw.mpr ⟨x, y, ht _ _ _ z h2⟩
      · obtain ⟨x, y, z⟩ := mem_btw.mp hw
        exact mem_btw.mpr ⟨x, ht _ _ _ h1 y, z⟩
/-- no two below each other -/
def Anti (E : List (α × α)) : Prop := ∀ a b, Rch E a b → Rch E b a → a = b
theorem cvs_cl {E : List (α × α)} {N : List α} (hN : N.Nodup) (hE : ∀ p ∈ E, p.1 ∈ N ∧ p.2 ∈ N) (ha : Anti E) : cl (cvs N (cl E)) = cl E := by
  refine cl_congr (fun p hp => ?_) fun p hp => ?_
  · exact cl_iff.mp (mem_cvs.mp hp).1.2.2.1
  · exact cvs_rch hN (cl_refl E) (fun _ _ _ => cl_trans) (fun a b _ _ h k => ha a b (cl_iff.mp h) (cl_iff.mp k)) _ _ _ (Nat.le_refl _) (hE _ hp).1 (hE _ hp).2 (cl_iff.mpr (.one hp))
theorem prs_cl {E : List (α × α)} {N : List α} (hE : ∀ p ∈ E, p.1 ∈ N ∧ p.2 ∈ N) : cl (prs N (cl E)) = cl E := by
  refine cl_congr (fun p hp => cl_iff.mp (mem_prs.mp hp).2.2.1) fun p hp => ?_
  by_cases e : p.1 = p.2
  · rw [e]; exact .refl _
  · exact .one (mem_prs.mpr ⟨(hE _ hp).1, (hE _ hp).2, cl_iff.mpr (.one hp), e⟩)
/-- one pair more -/
theorem rch_more {E : List (α × α)} {l h a b : α} : Rch (E ++ [(l, h)]) a b ↔ Rch E a b ∨ (Rch E a l ∧ Rch E h b) := by
  constructor
  · intro k
    induction k with
    | refl => exact .inl (.refl _)
    | step e _ ih =>
      rcases List.mem_append.mp e with e | e
      · rcases ih with ih | ⟨ih, k⟩
        · exact .inl (.step e ih)
        · exact .inr ⟨.step e ih, k⟩
      · cases List.mem_singleton.mp e
        rcases ih with ih | ⟨ih, k⟩
        · exact .inr ⟨.refl _, ih⟩
        · exact .inr ⟨.refl _, k⟩
  · have up : ∀ {a b}, Rch E a b → Rch (E ++ [(l, h)]) a b := Rch.mono fun p hp => .one (List.mem_append_left _ hp)
    rintro (k | ⟨k1, k2⟩)
    · exact up k
    · exact (up k1).trans (.step (List.mem_append_right _ (List.mem_singleton.mpr rfl)) (up k2))
theorem anti_more {E : List (α × α)} {l h : α} (ha : Anti E) (hn : ¬ Rch E h l) : Anti (E ++ [(l, h)]) := by
  intro a b k1 k2
  rw [rch_more] at k1 k2
  rcases k1 with k1 | ⟨k1, k1'⟩ <;> rcases k2 with k2 | ⟨k2, k2'⟩
  · exact ha _ _ k1 k2
  · exact absurd (k2'.trans (k1.trans k2)) hn
  · exact absurd (k1'.trans (k2.trans k1)) hn
  · exact absurd (k1'.trans k2) hn
theorem cl_more {E : List (α × α)} {N : List α} {l h : α} (hl : l ∈ N) (hh : h ∈ N) : (∀ a ∈ N, ∀ b ∈ N, cl E a b = cl (E ++ [(l, h)]) a b) ↔ cl E l h = true := by
  constructor
  · intro k
    rw [k l hl h hh, cl_iff, rch_more]
    exact .inr ⟨.refl _, .refl _⟩
  · intro k a _ b _
    rw [Bool.eq_iff_iff, cl_iff, cl_iff, rch_more]
    constructor
    · exact .inl
    · rintro (q | ⟨q1, q2⟩)
      · exact q
      · exact (q1.trans (cl_iff.mp k)).trans q2
/-- pairs along a line -/
theorem anti_rank {E : List (α × α)} (r : α → Nat) (h : ∀ p ∈ E, p.1 = p.2 ∨ r p.1 < r p.2) : Anti E := by
  have up : ∀ {a b}, Rch E a b → a = b ∨ r a < r b := by
    intro a b k
    induction k with
    | refl => exact .inl rfl
    | step e _ ih =>
      have := h _ e
      rcases this with z | z <;> rcases ih with y | y
      · exact .inl (z.trans y)
      · exact .inr (by dsimp only at z; rw [z]; exact y)
      · exact .inr (by rw [← y]; exact z)
      · exact .inr (Nat.lt_trans z y)
  intro a b k1 k2
  rcases up k1 with e | e
  · exact e
  · rcases up k2 with e2 | e2
    · exact e2.symm
    · omega
theorem anti_sub {E F : List (α × α)} (hs : ∀ p ∈ E, Rch F p.1 p.2) (h : Anti F) : Anti E := fun a b k1 k2 => h a b (k1.mono hs) (k2.mono hs)
end OM

set_option Elab.async false
set_option linter.all false
set_option maxRecDepth 100000
set_option maxHeartbeats 4000000
/-! own __contains__, __len__, __iter__ (which hands back iter of a tuple), list(o) -/
namespace Z
open PySem PySem.Spec PyProof.Rows L2
section
variable {X : Cx} {k j : Nat} {f C : Addr} {sp : Sp}
/-- x in o, o an instance with its own __contains__ -/
def rInOwn (C : Addr) (sp : Sp) (neg : Bool) : R2 := fun x y H Q => ∃ a dx fs, y = .ref a ∧ H a = some (.ins C dx fs) ∧
  sp [.ref a, x] H (fun v H' => ∃ r : Bool, v = .bl r ∧ Q (.bl (r != neg)) H') (fun _ _ _ => False)
theorem backBl {A : Around} {pins : List (Addr × Obj)} {σ : L2.St} {H : Hp} {s : Shared} {g : Bool → Bool} {Q : VK} {us : List Value} {vs : List V} (F : FnR X.prog X.w X.K X.mg X.base (L2.CX X.prog X.w) k f sp) (hr : Room k A) (e0 : Env0 X.prog X.w X.K X.mg X.base A X.stack s H)
    (I : Inv X pins σ H s) (r : Vals vs us) (h : sp vs H (fun v H' => ∃ r : Bool, v = .bl r ∧ Q (.bl (g r)) H') (fun _ _ _ => False)) :
    wpAny (model X.prog X.w) A (call (.ref f) us) (fun v s' => ∃ r : Bool, v = .bool r ∧ EP X pins σ Q (.bool (g r)) s') X.xe s := by
  refine wpAny_call (codeAny_mono (F A X.stack s H us vs _ (fun _ _ _ => False) hr e0 r h) fun q s' hq => ?_)
  rcases q with e | fl
  · exact (cxN hq).elim
  rcases fl with _ | _ | _ | u'
  · exact False.elim hq
  · exact False.elim hq
  · exact False.elim hq
  obtain ⟨v', H', J', rv, r, ev, q⟩ := I.after hq
  subst ev
  obtain rfl : u' = Value.bool r := rv
  exact ⟨r, rfl, .bl (g r), H', J', rfl, q⟩
theorem z_inOwn (c : CalO X.prog X.w X.K X.mg X.base C "__contains__" k sp) (hr : Room j X.A) (hj : k ≤ j := by decide) : OpR X (compareOp .In) (rInOwn C sp false) := by
  intro pins s σ H x y v u Q I rx ry h
  obtain ⟨f, S, sf, F⟩ := c
  obtain ⟨a, dx, fs, rfl, ea, h⟩ := h
  obtain rfl : u = Value.ref a := ry
  obtain ⟨ox, od, Ja⟩ := instAt I ea
  obtain ⟨m, fr⟩ := I.fr
  refine PySem.W.in_K fr I.ok.mod.kin Ja S.at_ S.fn (wpAny_mono (backBl (vs := [.ref a, x]) F (hr.mono hj) I.env0 I (.cons rfl (.cons rx .nil)) h) (fun v s' hv => ?_) fun _ _ z => z)
  obtain ⟨r, rfl, q⟩ := hv
  refine wpAny_truthy_bool ?_
  have e : (r != false) = r := by cases r <;> rfl
  rw [e] at q
  exact q
theorem z_notInOwn (c : CalO X.prog X.w X.K X.mg X.base C "__contains__" k sp) (hr : Room j X.A) (hj : k ≤ j := by decide) : OpR X (compareOp .NotIn) (rInOwn C sp true) := by
  intro pins s σ H x y v u Q I rx ry h
  obtain ⟨f, S, sf, F⟩ := c
  obtain ⟨a, dx, fs, rfl, ea, h⟩ := h
  obtain rfl : u = Value.ref a := ry
  obtain ⟨ox, od, Ja⟩ := instAt I ea
  obtain ⟨m, fr⟩ := I.fr
  refine PySem.W.notIn_K fr I.ok.mod.kin Ja S.at_ S.fn (wpAny_mono (backBl (vs := [.ref a, x]) F (hr.mono hj) I.env0 I (.cons rfl (.cons rx .nil)) h) (fun v s' hv => ?_) fun _ _ z => z)
  obtain ⟨r, rfl, q⟩ := hv
  refine wpAny_truthy_bool ?_
  have e : (r != true) = !r := by cases r <;> rfl
  rw [e] at q
  exact q
/-- len(o) by an own __len__ -/
def rLenOwn (C : Addr) (sp : Sp) : List V → Hp → VK → Prop := fun xs H Q => ∃ a dx fs, xs = [.ref a] ∧ H a = some (.ins C dx fs) ∧
  sp [.ref a] H (fun v H' => ∃ n : Int, v = .int n ∧ (0 ≤ n ∧ n < 2 ^ 63) ∧ Q (.int n) H') (fun _ _ _ => False)
theorem lenRun {Ex : Value → Shared → Prop} {A : Around} {pins : List (Addr × Obj)} {σ : L2.St} {H : Hp} {s : Shared} {Q : VK} {a dx : Addr} {fs : List (Str × V)} (F : FnR X.prog X.w X.K X.mg X.base (L2.CX X.prog X.w) k f sp) (S : Spc X.K C "__len__" f) (hr : Room k A.in1) (e0 : Env0 X.prog X.w X.K X.mg X.base A.in1 X.stack s H)
    (I : Inv X pins σ H s) (ea : H a = some (.ins C dx fs)) (h : sp [.ref a] H (fun v H' => ∃ n : Int, v = .int n ∧ (0 ≤ n ∧ n < 2 ^ 63) ∧ Q (.int n) H') (fun _ _ _ => False)) :
    wpAny (model X.prog X.w) A (call (.builtin "len") [.ref a]) (fun v s' => ∃ n t, v = .int n t ∧ (0 ≤ n ∧ n < 2 ^ 63) ∧ ∃ H', Inv X pins σ H' s' ∧ Q (.int n) H') Ex s := by
  obtain ⟨ox, od, Ja⟩ := instAt I ea
  obtain ⟨m, fr⟩ := I.fr
  refine PySem.W.len_K fr I.ok.mod.kin Ja S.at_ S.fn (wpAny_call (codeAny_mono (F A.in1 X.stack s H [.ref a] [.ref a] _ (fun _ _ _ => False) hr e0 (.cons rfl .nil) h) fun q s' hq => ?_))
  rcases q with e | fl
  · exact (cxN hq).elim
  rcases fl with _ | _ | _ | u'
  · exact False.elim hq
  · exact False.elim hq
  · exact False.elim hq
  obtain ⟨v', H', J', rv, n, ev, hn, q⟩ := I.after hq
  subst ev
  obtain ⟨t, rfl⟩ := rv
  exact ⟨hn, n, _, rfl, hn, H', J'.tok _, q⟩
theorem z_lenOwn (c : CalO X.prog X.w X.K X.mg X.base C "__len__" k sp) (hr : Room j X.A) (hj : k + 1 ≤ j := by decide) : CallR X (.builtin "len") (rLenOwn C sp) := by
  intro pins s σ H xs us Q I r h
  obtain ⟨f, S, sf, F⟩ := c
  obtain ⟨a, dx, fs, rfl, ea, h⟩ := h
  obtain rfl := Vals.ref1 r
  refine wpAny_mono (lenRun F S (hr.mono hj).in1 I.env0.in1 I ea h) (fun v s' hv => ?_) fun _ _ z => z
  obtain ⟨n, t, rfl, _, H', I', q⟩ := hv
  exact ⟨.int n, H', I', ⟨t, rfl⟩, q⟩
/-- iter(t), a tuple: an iterator at its start -/
def TupIt (q t : Addr) (i : Nat) : HO := .ext fun h => h.IsTupleIter q t i
theorem tupIt_ok {P : Program} {w : World} {H : Hp} {h : Heap} {q t : Addr} {i : Nat} (e : h.IsTupleIter q t i) : ObjOk P w H h q (TupIt q t i) := by
  obtain ⟨o, ho, hc, hd⟩ := id e
  refine ⟨e, ⟨o, ho⟩, fun h1 h2 ⟨o1, e1, c1, d1⟩ k => ⟨o1, k _ e1, c1, d1⟩⟩
def rIterT (K : PySem.W.Frag) : List V → Hp → VK → Prop := fun xs H Q => ∃ t ys, xs = [.ref t] ∧ SqT K H t ys ∧ ∀ q, H q = none → Q (.ref q) (upd H q (TupIt q t 0))
theorem cr_iterT : CallR X (.builtin "iter") (rIterT X.K) := by
  intro pins s σ H xs us Q I r h
  obtain ⟨t, ys, rfl, ht, h⟩ := h
  obtain rfl := Vals.ref1 r
  obtain ⟨its, rv, hl, _⟩ := I.tuple ht
  refine Calls.call_function_entry (by decide +kernel) (by decide +kernel) PySem.W.kdk_entry_iter (PySem.W.kdk_args_iter _) ?_
  unfold Builtin.«iter»
  refine wpAny_bind (m := someArgs "iter" 1 2 _) (wpAny_of_eq (a := [Value.ref t]) (by first | rfl | kernel_rfl!) ?_)
  show wpAny _ _ (pyIter (.ref t) >>= _) _ _ _
  refine wpAny_bind (wpAny_pyIter_tuple hl ?_)
  refine wpAny_pure ⟨_, rfl, .ref s.heap.objs.size, _, I.laid (a := s.heap.objs.size) (o := TupIt s.heap.objs.size t 0) (t' := s.toks) (fun b o e => Heap.get?_push_of_some _ e) (Nat.le_refl _) (tupIt_ok ⟨_, Heap.get?_push_size _ rfl, rfl, rfl⟩), rfl, h _ (I.hok.fresh (Nat.le_refl _))⟩
/-- what is known of an iterator that is used up: it stands -/
def DeadIt (q : Addr) : HO := .ext fun h => ∃ o, h.get? q = some o
theorem deadIt_ok {P : Program} {w : World} {H : Hp} {h : Heap} {q : Addr} (e : ∃ o, h.get? q = some o) : ObjOk P w H h q (DeadIt q) := ⟨e, e, fun h1 h2 ⟨o1, e1⟩ k => ⟨o1, k _ e1⟩⟩
theorem nextEnd {prog : Program} {w : World} {A : Around} {E : Value → Shared → Prop} {s : Shared} {q t : Addr} {i : Nat} {its : Array Value} {Q : Option Value → Shared → Prop} (calm : A.handled = none)
    (hit : s.heap.IsTupleIter q t i) (ht : s.heap.IsTuple t its) (out : its[i]? = none) (hQ : ∀ h', (∀ b o, b ≠ q → s.heap.get? b = some o → h'.get? b = some o) → (∃ o, h'.get? q = some o) → Q none { s with heap := h' }) :
    wpAny (model prog w) A (pyNext (.ref q)) Q E s := by
  obtain ⟨ob, ho, hc, hd⟩ := id hit
  obtain ⟨ot, hot, _, nn, hdt⟩ := ht
  have st : ∃ o, (s.heap.update q (Obj.mapFields (·.setIfInBounds 0 Value.none))).get? q = some o := ⟨_, Heap.get?_update_self _ ho (Obj.isFreed_of_fields (Obj.data_mapFields hd _))⟩
  have ot2 : ∀ b o, b ≠ q → s.heap.get? b = some o → (s.heap.update q (Obj.mapFields (·.setIfInBounds 0 Value.none))).get? b = some o := fun b o hb e => (Heap.get?_update_other s.heap _ (Ne.symm hb)).trans e
  unfold pyNext
  refine wpAny_bind (wpAny_attempt (wpAny_callSpecial?_slot (name := Str.ofString "__next__") hit.typeIs F.slot_tuple_iterator_next (wpAny_call_entry F.slot_tuple_iterator_next hit.typeIs F.entry_tuple_iterator_next ?_
    (F.args_tuple_iterator_next_1 _))))
  show wpAny _ _ (field (.ref q) 0 >>= _) _ _ s
  refine wpAny_bind (wpAny_field ho hd (x := .ref t) rfl ?_); show wpAny _ _ (if (Value.ref t == Value.none) = true then _ else _) _ _ s
  rw [if_neg (show ¬ ((Value.ref t == Value.none) = true) from Bool.false_ne_true)]; show wpAny _ _ (field (.ref q) 1 >>= _) _ _ s
  refine wpAny_bind (wpAny_field ho hd (x := .int i 0) rfl ?_); show wpAny _ _ (seqItems? (.ref t) >>= _) _ _ s
  refine wpAny_bind (wpAny_seqItems hot hdt ?_); simp only [Int.toNat_natCast, out]
  refine wpAny_bind (wpAny_rule (wpAny_bind (wpAny_setField ho hd (by simp) ?_))); show wpAny _ _ (newExc (.type "StopIteration") [] >>= _) _ _ _
  refine wpAny_bind ?_; simp only [newExc, newTuple]
  refine wpAny_bind (wpAny_newObj_type ?_ (by size_fits)); refine wpAny_bind (m := firstArgMember _ _) (wpAny_of_eq (a := Value.none) (by first | rfl | (simp only [firstArgMember]; rfl)) ?_)
  refine wpAny_newObj_type ?_ (by size_fits); simp only [raiseNew]
  refine wpAny_bind (wpAny_handled ?_); first | rw [show A.in1.handled = none from calm] | rw [calm]
  refine wpAny_bind (wpAny_pure (wpAny_throw ?_)); refine wpAny_bind (wpAny_isInstance (T := "StopIteration") (b := true) ⟨_, Heap.get?_push_size _ rfl, rfl⟩ isSubtype_stop ?_)
  refine wpAny_pure (hQ _ (fun b o hb e => Heap.get?_push_of_some _ (Heap.get?_push_of_some _ (ot2 b o hb e))) ?_)
  obtain ⟨o, e⟩ := st
  exact ⟨o, Heap.get?_push_of_some _ (Heap.get?_push_of_some _ e)⟩
/-- the walk of a tuple's iterator at q that fills the list at l -/
theorem fillLoop {pins : List (Addr × Obj)} {σ : L2.St} {H : Hp} {q t l : Addr} {ys : List V} {A1 : Around} {Rs : Result → Shared → Prop} (calm : A1.in1.handled = none) (hl : H l = none) (hq : H q = none) (ht : SqT X.K H t ys) (hz : ys.length < 1000) (hlq : l ≠ q)
    (done : ∀ H' s, Inv X pins σ H' s → Same H H' → H' l = some (.lst ys) → Rs (.ok (.ret .none)) s) :
    ∀ (n i : Nat), i + n = ys.length → ∀ (H' : Hp) (s : Shared), Inv X pins σ H' s → Same H H' → H' l = some (.lst (ys.take i)) → H' q = some (TupIt q t i) → codeAny (model X.prog X.w) A1 (.builtin "list.extend.loop" ⟨[.ref l, .ref q, .none], []⟩) Rs s := by
  intro n
  induction n with
  | zero =>
    intro i hi H' s I sm el eq
    refine codeAny_builtin PySem.F.entry_extend_loop ?_
    rw [Around.under_plainId PySem.F.plain_extend_loop _]
    show wpAny _ A1.in1 (pyNext (.ref q) >>= _) _ _ s
    obtain ⟨its, rv, p, _⟩ := I.tuple (Same_seqT sm ht)
    have hit : s.heap.IsTupleIter q t i := (I.hok q _ eq).1
    have out : its.toArray[i]? = none := by
      have := rv.length
      simp
      omega
    refine wpAny_bind (nextEnd calm hit p out fun h' kp ex => wpAny_pure ?_)
    have I2 := I.write (x := q) (e := q) (o := DeadIt q) (h' := h') (t' := s.toks) (by rw [eq]; exact trivial) (.inl rfl) kp ex (deadIt_ok ex)
    refine done _ _ I2 (fun b o e => ?_) ?_
    · rw [upd_ne (ne_of_none e hq)]
      exact sm _ _ e
    · rw [upd_ne hlq, el, List.take_of_length_le (by omega)]
  | succ n ih =>
    intro i hi H' s I sm el eq
    refine codeAny_builtin PySem.F.entry_extend_loop ?_
    rw [Around.under_plainId PySem.F.plain_extend_loop _]
    show wpAny _ A1.in1 (pyNext (.ref q) >>= _) _ _ s
    obtain ⟨its, rv, p, _⟩ := I.tuple (Same_seqT sm ht)
    have hit : s.heap.IsTupleIter q t i := (I.hok q _ eq).1
    have hlen := rv.length
    have lt : i < ys.length := by omega
    obtain ⟨u, hu, ru⟩ := rv.get (List.getElem?_eq_getElem lt)
    have hx : its.toArray[i]? = some u := by simpa using hu
    refine wpAny_bind (wpAny_pyNext_tuple_item hit p hx fun h' hit' sb => ?_)
    have ex : ∃ o, h'.get? q = some o := let ⟨o, e, _⟩ := hit'; ⟨o, e⟩
    have I2 := I.write (x := q) (e := q) (o := TupIt q t (i + 1)) (h' := h') (t' := s.toks) (by rw [eq]; exact trivial) (.inl rfl) (fun b o hb e => sb.extBut b o hb e) ex (tupIt_ok hit')
    show wpAny _ A1.in1 (updateSeq l (·.push u) >>= _) _ _ _
    have el2 : upd H' q (TupIt q t (i + 1)) l = some (.lst (ys.take i)) := by rw [upd_ne hlq]; exact el
    obtain ⟨z, ls, kk, r2, hl2, e2⟩ := I2.lstM el2
    have hti : (ys.take i).length = i := by rw [List.length_take]; omega
    have h1000 : (1000 : Nat) < sizeLine := by rw [sizeLine_eq]; decide
    refine wpAny_bind (wpAny_updateSeq e2 rfl (wpAny_pure ⟨plainId_quiet PySem.F.plain_extend_loop _, ?_⟩) (by rw [List.size_toArray]; omega) (by show (ls.toArray.push u).size ≤ sizeLine + 1; rw [Array.size_push, List.size_toArray]; omega))
    have tk : ys.take (i + 1) = ys.take i ++ [ys[i]] := by rw [List.take_add_one, List.getElem?_eq_getElem lt]; rfl
    refine ih (i + 1) (by omega) _ _ (I2.lset (its' := ls ++ [u]) (ys := ys.take i ++ [ys[i]]) (t' := s.toks) el2 e2 (by simp) (r2.append (.cons ru .nil)) (by rw [List.length_append, List.length_singleton]; omega)) (fun b o e => ?_) ?_ ?_
    · rw [upd_ne (ne_of_none e hl), upd_ne (ne_of_none e hq)]
      exact sm _ _ e
    · rw [upd_same, tk]
    · rw [upd_ne (Ne.symm hlq), upd_same]
/-- list(o), where __iter__ hands back iter of a tuple, and __len__ says how long that is -/
def rListOwn (K : PySem.W.Frag) (C : Addr) (spI spL : Sp) : List V → Hp → VK → Prop := fun xs H Q => ∃ a dx fs t ys, xs = [.ref a] ∧ H a = some (.ins C dx fs) ∧ SqT K H t ys ∧ ys.length < 1000 ∧
  (∀ H1, Same H H1 → spI [.ref a] H1 (fun v H2 => ∃ q, v = .ref q ∧ H1 q = none ∧ H2 = upd H1 q (TupIt q t 0)) fun _ _ _ => False) ∧
  (∀ H1, Same H H1 → spL [.ref a] H1 (fun v H2 => ∃ n : Int, v = .int n ∧ (0 ≤ n ∧ n < 2 ^ 63) ∧ (fun v H' => v = V.int ys.length ∧ Same H1 H') (V.int n) H2) fun _ _ _ => False) ∧
  ∀ l H', H l = none → Same H H' → H' l = some (.lst ys) → Q (.ref l) H'
theorem z_listOwn {spI spL : Sp} {kI kL : Nat} (hc : X.calm = true) (cI : CalO X.prog X.w X.K X.mg X.base C "__iter__" kI spI) (cL : CalO X.prog X.w X.K X.mg X.base C "__len__" kL spL) (hr : Room j X.A) (hI : kI + 2 ≤ j := by decide) (hL : kL + 3 ≤ j := by decide) :
    CallR X (.type "list") (rListOwn X.K C spI spL) := by
  intro pins s σ H xs us Q I rv h
  obtain ⟨a, dx, fs, t, ys, rfl, ha, ht, hz, pI, pL, q⟩ := h
  obtain ⟨u, rfl, ru⟩ := rv.one
  cases ru
  obtain ⟨fI, SI, _, FI⟩ := cI
  obtain ⟨fL, SL, _, FL⟩ := cL
  refine callType_codes (Q₁ := fun obj s₁ => obj = .ref s.heap.objs.size ∧ s₁ = { s with heap := s.heap.push { cls := .type "list", data := .seq #[] } }) PySem.F.called_list (PySem.F.typeCall_list_1 _) PySem.F.entry_list_init (code_list_new _ ⟨rfl, rfl⟩) fun obj s₁ h₁ => ?_
  obtain ⟨rfl, rfl⟩ := h₁
  have hS : (s.heap.push { cls := .type "list", data := .seq #[] }).get? s.heap.objs.size = some { cls := .type "list", data := .seq #[] } := Heap.get?_push_size _ rfl
  refine ⟨⟨_, hS, rfl⟩, PySem.F.args_list_init_2 _ _, ?_⟩
  have fr : H s.heap.objs.size = none := I.hok.fresh (Nat.le_refl _)
  generalize hl : s.heap.objs.size = l at *
  have I1 : Inv X pins σ (upd H l (.lst [])) { s with heap := s.heap.push { cls := .type "list", data := .seq #[] } } := by
    rw [← hl]
    exact I.lnew (its := []) (t' := s.toks) .nil (Nat.zero_le _)
  show wpAny _ _ (do let old ← Builtin.List.listItems (.ref l); Builtin.List.listUpdate (.ref l) (fun _ => #[]); letGo old.toList.reverse; Builtin.List.listExtendWith (.ref l) (.ref a) .none) _ _ _
  refine wpAny_bind ?_
  unfold Builtin.List.listItems
  refine wpAny_bind (wpAny_seqItems hS rfl (wpAny_pure ?_))
  show wpAny _ _ (updateSeq l (fun _ => #[]) >>= fun _ => letGo (#[] : Array Value).toList.reverse >>= fun _ => Builtin.List.listExtendWith (.ref l) (.ref a) .none) _ _ _
  refine wpAny_bind (wpAny_updateSeq hS rfl ?_)
  have I2 := I1.lset (f := fun _ => #[]) (its := []) (its' := []) (ys := []) (t' := s.toks) upd_same hS rfl .nil (Nat.zero_le _)
  rw [upd_upd] at I2
  refine wpAny_bind (wpAny_letGo ?_)
  have s1 : Same H (upd H l (.lst [])) := fun b o e => by rw [upd_ne (ne_of_none e fr)]; exact e
  have ha2 := s1 _ _ ha
  have hne : l ≠ a := Ne.symm (ne_of_none ha fr)
  obtain ⟨ox, od, J⟩ := instAt I2 ha2
  obtain ⟨m0, hF⟩ := I2.fr
  unfold Builtin.List.listExtendWith
  refine wpAny_bind (J.type.here ?_)
  have h1 : Builtin.List.listSameRef (.ref l) (.ref a) = false := by simp [Builtin.List.listSameRef, hne]
  have h2 : (Value.ref C == Value.type "list") = false := rfl
  have h3 : (Value.ref C == Value.type "tuple") = false := rfl
  simp only [h1, h2, h3, Bool.or_false, Bool.false_eq_true, if_false]
  have hrI : Room kI X.A.in1.in1 := ((hr.mono hI).in1).in1
  have hrL : Room kL X.A.in1.in1.in1 := (((hr.mono hL).in1).in1).in1
  refine wpAny_bind (PySem.W.owit_iter hF I2.ok.mod.kin J SI.at_ SI.fn ?_)
  refine wpAny_call (codeAny_mono (FI X.A.in1.in1 X.stack _ _ [.ref a] [.ref a] _ (fun _ _ _ => False) hrI I2.env0.in1.in1 (.cons rfl .nil) (pI _ s1)) fun r s' hq' => ?_)
  rcases r with e | fl
  · exact (cxN hq').elim
  rcases fl with _ | _ | _ | u'
  · exact False.elim hq'
  · exact False.elim hq'
  · exact False.elim hq'
  obtain ⟨v', H3, I3, rv3, q0, ev, hq0, eH⟩ := I2.after hq'
  subst ev
  obtain rfl : u' = Value.ref q0 := rv3
  have hq1 : H q0 = none := by
    cases e : H q0 with
    | none => rfl
    | some o => rw [s1 _ _ e] at hq0; cases hq0
  have s2 : Same (upd H l (.lst [])) H3 := fun b o e => by rw [eH, upd_ne (ne_of_none e hq0)]; exact e
  have eq3 : H3 q0 = some (TupIt q0 t 0) := by rw [eH, upd_same]
  have hit : s'.heap.IsTupleIter q0 t 0 := (I3.hok q0 _ eq3).1
  unfold PySem.W.OwitIt
  refine wpAny_bind (wpAny_typeOf hit.typeIs (wpAny_of_eq PySem.F.slot_tuple_iterator_next.lookup ?_))
  refine wpAny_bind (wpAny_holding ?_)
  -- the length
  have e3 : H3 l = some (.lst []) := s2 _ _ upd_same
  have ha3 := s2 _ _ ha2
  obtain ⟨ox3, od3, J3⟩ := instAt I3 ha3
  unfold Builtin.List.listLengthHint
  refine wpAny_bind (wpAny_bind (J3.type.here ((PySem.W.looks_findIn I3.kIn SL.at_).here ?_)))
  dsimp only
  refine PySem.W.KFB.if_not rfl ?_
  refine PySem.W.KFB.if_so rfl ?_
  refine wpAny_bind (wpAny_rule ?_)
  refine wpAny_bind (wpAny_attempt (wpAny_mono (lenRun (Ex := fun _ _ => False) (Q := fun v H' => v = V.int ys.length ∧ Same H3 H') FL SL hrL I3.env0.in1.in1.in1 I3 ha3 (pL _ (s1.trans s2))) (fun v s'' hv => ?_) fun e s'' he => ?_))
  · obtain ⟨n, tn, rfl, hn, H4, I4, en, s4⟩ := hv
    injection en with en
    subst en
    have long : Builtin.List.listTooLong ((ys.length : Nat) : Int).toNat = false := by
      unfold Builtin.List.listTooLong
      rw [sizeLine_eq] at *
      simp
      omega
    dsimp only
    refine wpAny_bind (m := asInt? _) (wpAny_of_eq (a := some ((ys.length : Nat) : Int)) rfl ?_)
    dsimp only
    refine PySem.W.KFB.if_not long ?_
    refine wpAny_pure ?_
    have e4 := s4 _ _ e3
    have eq4 := s4 _ _ eq3
    have hlq : l ≠ q0 := ne_of_none upd_same hq0
    have loop : ∀ (H5 : Hp) (s5 : Shared), Inv X pins σ H5 s5 → Same H H5 → H5 l = some (.lst []) → H5 q0 = some (TupIt q0 t 0) → codeAny (model X.prog X.w) X.A.in1 (.builtin "list.extend.loop" ⟨[.ref l, .ref q0, .none], []⟩) (wants (fun r s₂ => r = .none ∧ EP X pins σ Q (.ref l) s₂) X.xe) s5 := fun H5 s5 I5 sm el eq =>
      fillLoop (show X.A.in1.in1.handled = none from I.ok.hd hc) fr hq1 ht hz hlq (fun H' s' I' sm el => ⟨rfl, .ref l, H', I', rfl, q l H' fr sm el⟩) ys.length 0 (by omega) H5 s5 I5 sm (by rw [List.take_zero]; exact el) eq
    obtain ⟨z, its, kk, r3, hl3, e5⟩ := I4.lstM e4
    cases r3
    have s14 : Same H H4 := (s1.trans s2).trans s4
    refine wpAny_ite_split (fun _ => ?_) (fun _ => wpAny_pure ⟨plainId_quiet PySem.F.plain_extend_loop _, loop H4 _ I4 s14 e4 eq4⟩)
    refine wpAny_bind (wpAny_rule ?_)
    refine wpAny_bind ?_
    show wpAny _ _ (updateSeq l (·.push .none) >>= fun _ => updateSeq l (·.pop)) _ _ _
    refine wpAny_bind (wpAny_updateSeq e5 rfl ?_)
    have I6 := I4.lset (f := (·.push Value.none)) (its' := [Value.none]) (ys := [.non]) (t' := s''.toks) e4 e5 (by simp) (.cons rfl .nil) (by rw [List.length_singleton, sizeLine_eq]; decide)
    obtain ⟨z4, its4, k4, r4, hl4, e6⟩ := I6.lstM upd_same
    obtain ⟨u4, rfl, ru4⟩ := r4.one
    refine wpAny_updateSeq e6 rfl ?_ (by show 1 ≤ sizeLine; rw [sizeLine_eq]; decide) (by show 0 ≤ sizeLine + 1; exact Nat.zero_le _)
    refine wpAny_pure ⟨plainId_quiet PySem.F.plain_extend_loop _, loop H4 _ ?_ s14 e4 eq4⟩
    have I7 := I6.lset (f := (·.pop)) (its := [u4]) (its' := []) (ys := []) (t' := s''.toks) upd_same e6 (by rfl) .nil (Nat.zero_le _)
    rw [upd_upd] at I7
    have hH : upd H4 l (.lst []) = H4 := by
      funext b
      by_cases hb : b = l
      · rw [hb, upd_same, e4]
      · rw [upd_ne hb]
    rw [hH] at I7
    exact I7
  · exact he.elim
end
end Z

set_option Elab.async false
set_option linter.all false
set_option maxRecDepth 100000
set_option maxHeartbeats 4000000
/-! {**a, **b}; sorted of a tuple of texts; == of dicts of tuples -/
namespace Z
open PySem PySem.Spec PyProof.Rows L2
section
variable {P : Program} {w : World} {A : Around} {E : Value → Shared → Prop} {s : Shared}
theorem putDict {d : Addr} {kvs : List (Key × Value)} {k : Key} {key v : Value} {Q : Unit → Shared → Prop} (hkey : (mixKind P w).is k key = true) (hm : s.heap.DictOf (mixKind P w) d kvs)
    (hQ : ∀ h', h'.DictOf (mixKind P w) d (stored kvs k v) → Heap.SameBut d s.heap h' → Q () { s with heap := h' }) (hsz : kvs.length ≤ sizeLine) :
    wpAny (model P w) A (dictPut d ((mixKind P w).hash k) key v) Q E s := by
  obtain ⟨o, es, ep, ho, hc, hd, hk, hp, hn⟩ := hm
  have hes : es.size ≤ sizeLine := by
    have e1 := hp.length
    have e2 : es.toList.length = es.size := by simp
    omega
  unfold dictPut
  refine wpAny_bind (wpAny_dictFind_of hkey ho hd hk ?_)
  have hidx : (es.findIdx? fun e => (mixKind P w).is k e.key) = kvs.findIdx? fun kv => decide (kv.1 = k) := by rw [← hp.findIdx k]; obtain ⟨l⟩ := es; simp
  cases hi : es.findIdx? fun e => (mixKind P w).is k e.key with
  | some i =>
    refine wpAny_updateDict ho hd (hQ _ ⟨_, _, ep, Heap.get?_update_self _ ho (Obj.isFreed_of_dict (Obj.data_mapDict hd _)), hc.mapDict _, Obj.data_mapDict hd _, hk.modify _ _, ?_, ?_⟩ (Heap.SameBut.update ..))
    · rw [stored, if_pos (any_of_findIdx_some (hidx ▸ hi))]
      have hl : (es.toList.findIdx? fun e => (mixKind P w).is k e.key) = some i := by rw [← hi]; obtain ⟨l⟩ := es; simp
      have := hp.modify hn hl v
      obtain ⟨l⟩ := es
      simpa using this
    · rw [stored, if_pos (any_of_findIdx_some (hidx ▸ hi)), keys_map_store]; exact hn
  | none =>
    have hnot : k ∉ kvs.map (·.1) := not_mem_of_findIdx_none (hidx ▸ hi)
    have hany : ¬ (kvs.any fun kv => decide (kv.1 = k)) = true := by
      rw [List.any_eq_true]; rintro ⟨kv, hkv, he⟩; exact hnot (List.mem_map.mpr ⟨kv, hkv, of_decide_eq_true he⟩)
    refine wpAny_updateDictKeys (hz := hes) ho hd (hQ _ ⟨_, _, ep + 1, Heap.get?_update_self _ ho (Obj.isFreed_of_dict (Obj.data_mapDictKeys hd _)), hc.mapDictKeys _, Obj.data_mapDictKeys hd _, hk.push hkey _, ?_, ?_⟩ (Heap.SameBut.update ..))
    · rw [stored, if_neg hany]
      have := hp.append hkey ((mixKind P w).hash k) v
      obtain ⟨l⟩ := es
      simpa using this
    · rw [stored, if_neg hany, List.map_append, List.nodup_append]
      refine ⟨hn, by simp, ?_⟩
      intro a ha b hb
      simp only [List.map_cons, List.map_nil, List.mem_singleton] at hb
      subst hb
      exact fun e => hnot (e ▸ ha)
theorem iteBoth {α : Type} {M : Model} {A : Around} {E : Value → Shared → Prop} {s : Shared} {c : Bool} {a b : Sem α} {Q : α → Shared → Prop} (hb : wpAny M A b Q E s) (ha : wpAny M A b Q E s → wpAny M A a Q E s) : wpAny M A (if c = true then a else b) Q E s := by
  cases c
  · exact hb
  · exact ha hb
theorem mergeIn {d o : Addr} {kvs more : List (Key × Value)} {Q : Unit → Shared → Prop} (hdo : d ≠ o) (hoS : (o == sysModules) = false) (hd : s.heap.DictOf (mixKind P w) d kvs) (ho : s.heap.DictOf (mixKind P w) o more)
    (hQ : ∀ h', h'.DictOf (mixKind P w) d (merged kvs more) → Heap.SameBut d s.heap h' → Q () { s with heap := h' }) (hsz : kvs.length + more.length ≤ sizeLine) :
    wpAny (model P w) A (mergeMapping d (.ref o) false) Q E s := by
  obtain ⟨od, esd, epd, hod, hcd, hdd, hkd, hpd, hnd⟩ := id hd
  obtain ⟨oo, eso, epo, hoo, hco, hdo', hko, hpo, hno⟩ := id ho
  have hlen : more.length = eso.size := by rw [← hpo.length]; simp
  unfold mergeMapping
  refine wpAny_bind (wpAny_isInstance (T := "dict") ho.typeIs PySem.F.sub_dict_dict ?_)
  refine PySem.W.KFB.if_so rfl ?_
  refine wpAny_bind (wpAny_specialOf ho.typeIs PySem.F.slot_dict_iter.lookup ?_)
  refine wpAny_bind (wpAny_of_eq (a := true) (by rw [show (some (Value.builtin "dict.__iter__") == some (Value.builtin "dict.__iter__")) = true by decide]) ?_)
  dsimp only
  refine PySem.W.KFB.if_not (by rw [hoS]) ?_
  refine wpAny_bind (wpAny_dictEntries hod hdd ?_)
  refine iteBoth ?_ fun loop => ?_
  · refine wpAny_bind (wpAny_dictEntries hoo hdo' (wpAny_bind (wpAny_dictEpoch hoo hdo' (wpAny_bind ?_))))
    refine wpAny_forIn_list _ (fun rest _ s' => ∃ h' i, s' = { s with heap := h' } ∧ rest = List.range' i (eso.size - i) ∧ i ≤ eso.size ∧ h'.DictOf (mixKind P w) d (merged kvs (more.take i)) ∧ h'.get? o = some oo ∧ Heap.SameBut d s.heap h') _ ?_ ?_ _ _ ⟨s.heap, 0, rfl, by rw [List.range_eq_range']; rfl, Nat.zero_le _, hd, hoo, Heap.SameBut.refl _ _⟩
    · rintro x rest b s' ⟨h', i, rfl, hr, hi, hd', hoo', hs'⟩
      have hlt : i < eso.size := by
        rcases Nat.lt_or_ge i eso.size with h | h
        · exact h
        · rw [Nat.sub_eq_zero_of_le h] at hr; simp at hr
      obtain ⟨rfl, hrest⟩ : x = i ∧ rest = List.range' (i + 1) (eso.size - (i + 1)) := by
        have e : eso.size - i = (eso.size - (i + 1)) + 1 := by omega
        rw [e, List.range'_succ] at hr
        injection hr with h1 h2; exact ⟨h1, h2⟩
      refine wpAny_bind (wpAny_dictEntries hoo' hdo' ?_)
      rw [Array.getElem?_eq_getElem hlt]
      obtain ⟨kv, hkv⟩ : ∃ kv, more[x]? = some kv := ⟨more[x]'(by rw [hlen]; exact hlt), List.getElem?_eq_getElem _⟩
      obtain ⟨k, v⟩ := kv
      obtain ⟨hkey, hval⟩ := hpo.get? (e := eso[x]) (by simp [hlt]) hkv
      obtain ⟨k', hkey', hhash⟩ := hko eso[x] (Array.getElem_mem hlt)
      obtain rfl : k' = k := (mixKind P w).inj _ _ _ hkey' hkey
      refine wpAny_bind (wpAny_holding ?_)
      refine PySem.W.KFB.if_not rfl ?_
      rw [hhash, hval]
      have hmx : (merged kvs (more.take x)).length ≤ sizeLine := by
        have e1 := merged_length_le kvs (more.take x)
        have e2 : (more.take x).length ≤ more.length := by rw [List.length_take]; omega
        omega
      refine putDict hkey hd' (fun h'' hd'' hs'' => ?_) hmx
      have hoo'' : h''.get? o = some oo := (hs''.2 o (Ne.symm hdo)).trans hoo'
      refine wpAny_bind (wpAny_dictEpoch hoo'' hdo' ?_)
      rw [if_neg (by simp)]
      refine wpAny_pure ⟨h'', x + 1, rfl, hrest, hlt, ?_, hoo'', hs'.trans hs''⟩
      rw [merged_take_succ kvs more x (k', v) hkv]
      exact hd''
    · rintro b s' ⟨h', i, rfl, hr, hi, hd', hoo', hs'⟩
      have hin : i = eso.size := by
        rcases Nat.lt_or_ge i eso.size with h | h
        · have e : eso.size - i = (eso.size - (i + 1)) + 1 := by omega
          rw [e, List.range'_succ] at hr; exact nomatch hr
        · exact Nat.le_antisymm hi h
      rw [hin, ← hlen, List.take_length] at hd'
      exact wpAny_pure (hQ h' hd' hs')
  · refine wpAny_bind (wpAny_dictEntries hoo hdo' (wpAny_bind ?_))
    rw [← Array.forIn_toList]
    refine wpAny_forIn_list _ (fun rest _ s' => s' = s ∧ ∀ e ∈ rest, e ∈ eso) _ ?_ ?_ _ _ ⟨rfl, fun e h => by simpa using h⟩
    · rintro e rest b s' ⟨rfl, hm⟩
      obtain ⟨k, hk, _⟩ := hko e (hm e List.mem_cons_self)
      have hm' : ∀ e ∈ rest, e ∈ eso := fun e h => hm e (List.mem_cons_of_mem _ h)
      rcases keyIs_shape hk with ⟨i, t, _, ek⟩ | ⟨x, t, _, ek⟩
      · rw [ek]
        exact wpAny_pure ⟨rfl, hm'⟩
      · rw [ek]
        exact wpAny_pure ⟨rfl, hm'⟩
    · rintro b s' ⟨rfl, _⟩
      exact loop
end
/-- {**a, **b}: two dicts with keys ints and texts -/
def tMerge2 (t1 t2 : TE) : TE := fun σ H Q => ∀ p, H p = Option.none → t1 σ (upd H p (.dK [])) fun x H1 => ∃ a ks, x = .ref a ∧ p ≠ a ∧ H1 a = some (.dK ks) ∧ H1 p = some (.dK []) ∧ ks.length ≤ 1000 ∧
  t2 σ (upd H1 p (.dK (mergeK [] ks))) fun y H2 => ∃ b ls, y = .ref b ∧ p ≠ b ∧ H2 b = some (.dK ls) ∧ H2 p = some (.dK (mergeK [] ks)) ∧ ls.length ≤ 1000 ∧ Q (.ref p) (upd H2 p (.dK (mergeK (mergeK [] ks) ls)))
section
variable {X : Cx} {pos : Pos} {e1 e2 : Expr} {t1 t2 : TE} {pins : List (Addr × Obj)} {σ : L2.St} {H : Hp} {s : Shared}
theorem mergeStep {p a : Addr} {kvs ks : List (Key × V)} {E : Value → Shared → Prop} {Q : Unit → Shared → Prop} (I : Inv X pins σ H s) (hne : p ≠ a) (ha : H a = some (.dK ks)) (hp : H p = some (.dK kvs)) (z1 : kvs.length ≤ 1000) (z2 : ks.length ≤ 1000)
    (h : ∀ s', Inv X pins σ (upd H p (.dK (mergeK kvs ks))) s' → Q () s') : wpAny (model X.prog X.w) X.A (mergeMapping p (.ref a) false) Q E s := by
  obtain ⟨_, sa, vs, ra, da⟩ := dk_of I.hok ha
  obtain ⟨_, sp, us, rp, dp⟩ := dk_of I.hok hp
  have l1 := ra.length
  have l2 := rp.length
  have big : (3000 : Nat) ≤ sizeLine := by rw [sizeLine_eq]; decide
  refine mergeIn hne sa dp da (fun h' dd hs => h _ ?_) (by omega)
  have he : ∃ q, h'.get? p = some q := let ⟨q, _, _, hq, _⟩ := dd; ⟨q, hq⟩
  have hz := length_mergeK ks kvs
  exact d_write I (by rw [hp]; exact True.intro) hs he (dk_new (by omega) sp (ra.merge rp) dd)
theorem pe_merge2 (h1 : PE X e1 t1) (h2 : PE X e2 t2) : PE X (.Dict [Option.none, Option.none] [e1, e2] pos) (tMerge2 t1 t2) := by
  refine ⟨fun pins s σ H Q I q => ?_⟩
  have hn := I.hok.fresh (Nat.le_refl s.heap.objs.size)
  have I1 := I.laid (a := s.heap.objs.size) (o := .dK []) (h' := s.heap.push { cls := .type "dict", data := .dict #[] }) (t' := s.toks) (fun _ _ q => Heap.get?_push_of_some _ q) (Nat.le_refl _) (dk_empty s.heap I.big)
  have q1 := q _ hn
  generalize hp : s.heap.objs.size = p at *
  rw [arm_eval_Dict]
  refine wpAny_bind (wpAny_standAt ?_)
  show wpAny _ _ (dictDisplay [(Option.none, (do let x ← eval e1 X.env; standAt pos; pure x)), (Option.none, (do let x ← eval e2 X.env; standAt pos; pure x))]) _ _ s
  unfold dictDisplay
  dsimp only
  refine wpAny_bind ?_
  rw [List.forIn_cons]
  refine wpAny_bind ?_
  dsimp only
  refine wpAny_bind (PySem.W.KFB.if_so rfl (wpAny_pure ?_))
  dsimp only
  refine wpAny_bind (wpAny_alloc ?_)
  rw [hp]
  refine wpAny_bind (wpAny_holding (wpAny_bind (thn (h1.run pins _ σ _ _ I1 q1) fun u s1 hh => ?_)))
  obtain ⟨x, H1, I2, rx, a, ks, ex, hne, ha, hpp, z, q2⟩ := hh
  subst ex
  obtain rfl : u = Value.ref a := rx
  refine wpAny_bind (wpAny_standAt (wpAny_pure ?_))
  have h0 : ([] : List (Key × V)).length ≤ 1000 := by decide
  refine wpAny_bind (wpAny_onRaise (wpAny_tryCatch (wpAny_onRaise (wpAny_holding (mergeStep I2 hne ha hpp h0 z fun s2 I3 => ?_)))))
  refine wpAny_pure ?_
  dsimp only
  rw [List.forIn_cons]
  refine wpAny_bind ?_
  dsimp only
  refine wpAny_bind (PySem.W.KFB.if_so rfl (wpAny_pure ?_))
  dsimp only
  refine wpAny_bind (wpAny_pure ?_)
  refine wpAny_bind (wpAny_holding (wpAny_bind (thn (h2.run pins _ σ _ _ I3 q2) fun u s3 hh => ?_)))
  obtain ⟨y, H2, I4, ry, b, ls, ey, hne2, hb, hpp2, z2, q3⟩ := hh
  subst ey
  obtain rfl : u = Value.ref b := ry
  refine wpAny_bind (wpAny_standAt (wpAny_pure ?_))
  have zm : (mergeK [] ks).length ≤ 1000 := by
    have := length_mergeK ks []
    simp only [List.length_nil] at this
    omega
  refine wpAny_bind (wpAny_onRaise (wpAny_tryCatch (wpAny_onRaise (wpAny_holding (mergeStep I4 hne2 hb hpp2 zm z2 fun s4 I5 => ?_)))))
  refine wpAny_pure ?_
  dsimp only
  rw [List.forIn_nil]
  refine wpAny_pure ?_
  refine wpAny_bind (PySem.W.KFB.if_so rfl (wpAny_pure ?_))
  exact wpAny_pure ⟨.ref p, _, I5, rfl, q3⟩
end
end Z

set_option Elab.async false
set_option linter.all false
set_option maxRecDepth 100000
set_option maxHeartbeats 4000000
/-! sorted of a list or a tuple of texts; == of dicts whose values are data; texts in order -/
namespace Z
open PySem PySem.Spec PyProof.Rows L2
/-! ### ascending texts -/
def ltS (a b : Str) : Bool := ltCps a.cps.toList b.cps.toList
theorem ltCps_irr : ∀ l : List Nat, ltCps l l = false
  | [] => rfl
  | x :: l => by
    unfold ltCps
    simp [ltCps_irr l]
theorem ltCps_tri : ∀ l m : List Nat, ltCps l m = false → ltCps m l = false → l = m
  | [], [], _, _ => rfl
  | [], y :: m, h, _ => by simp [ltCps] at h
  | x :: l, [], _, h => by simp [ltCps] at h
  | x :: l, y :: m, h, k => by
    unfold ltCps at h k
    by_cases e1 : x < y
    · simp [e1] at h
    · by_cases e2 : y < x
      · simp [e2] at k
      · have e : x = y := by omega
        subst e
        simp at h k
        rw [ltCps_tri l m h k]
theorem ltS_tri {a b : Str} (h : ltS a b = false) (k : ltS b a = false) : a = b := by
  have := ltCps_tri _ _ h k
  cases a; cases b
  congr 1
  exact Array.toList_inj.mp this
theorem ltCps_tr : ∀ l m n : List Nat, ltCps m l = false → ltCps n m = false → ltCps n l = false
  | [], m, n, _, _ => by cases n <;> rfl
  | x :: l, [], n, h, _ => by simp [ltCps] at h
  | x :: l, y :: m, [], _, h => by simp [ltCps] at h
  | x :: l, y :: m, z :: n, h, k => by
    unfold ltCps at h k ⊢
    by_cases e1 : y < x
    · simp [e1] at h
    · by_cases e2 : z < y
      · simp [e2] at k
      · by_cases e3 : z < x
        · omega
        · simp only [e3, if_false]
          by_cases e4 : x < z
          · simp [e4]
            intro h
            omega
          · have exz : x = z := by omega
            have exy : x = y := by omega
            subst exz; subst exy
            simp at h k ⊢
            exact ltCps_tr l m n h k
theorem risingS_pw : ∀ (l : List Str) (p : Str), risingS p l = true → (∀ x ∈ l, ltS x p = false) ∧ l.Pairwise fun a b => ltS b a = false
  | [], p, _ => ⟨(fun x h => (by cases h)), .nil⟩
  | x :: r, p, h => by
    unfold risingS at h
    rw [Bool.and_eq_true] at h
    obtain ⟨h1, h2⟩ := h
    have h1' : ltS x p = false := by simpa [ltS] using h1
    obtain ⟨a, b⟩ := risingS_pw r x h2
    refine ⟨fun y hy => ?_, List.pairwise_cons.mpr ⟨a, b⟩⟩
    rcases List.mem_cons.mp hy with rfl | hy
    · exact h1'
    · exact ltCps_tr _ _ _ h1' (a y hy)
theorem sortedS_pw {l : List Str} (h : sortedS l = true) : l.Pairwise fun a b => ltS b a = false := by
  cases l with
  | nil => exact .nil
  | cons x r =>
    obtain ⟨a, b⟩ := risingS_pw r x h
    exact List.pairwise_cons.mpr ⟨a, b⟩
/-- texts of the same members that ascend are the same list -/
theorem sort_uniq {l m : List Str} (hp : l.Perm m) (hl : l.Pairwise fun a b => ltS b a = false) (hm : m.Pairwise fun a b => ltS b a = false) : l = m :=
  hp.eq_of_pairwise (fun a b _ _ h k => (ltS_tri k h)) hl hm
noncomputable def srt (l : List Str) : List Str := l.mergeSort fun a b => !ltS b a
theorem srt_perm (l : List Str) : (srt l).Perm l := List.mergeSort_perm l _
theorem srt_pw (l : List Str) : (srt l).Pairwise fun a b => ltS b a = false := by
  have h := List.pairwise_mergeSort (le := fun a b => !ltS b a) (fun a b c h k => ?_) (fun a b => ?_) l
  · exact h.imp fun {a b} h => by simpa using h
  · simp only [Bool.not_eq_true'] at h k ⊢
    exact ltCps_tr _ _ _ h k
  · by_cases h : ltS b a = true
    · by_cases k : ltS a b = true
      · exfalso
        have := ltCps_tr a.cps.toList b.cps.toList a.cps.toList
        -- a < b and b < a: by totality of the order
        have asym : ∀ l m : List Nat, ltCps l m = true → ltCps m l = false := by
          intro l
          induction l with
          | nil => intro m h; cases m <;> rfl
          | cons x l ih =>
            intro m h
            cases m with
            | nil => simp [ltCps] at h
            | cons y m =>
              unfold ltCps at h ⊢
              by_cases e1 : x < y
              · have : ¬ y < x := by omega
                simp [this, e1]
                intro h
                omega
              · by_cases e2 : y < x
                · simp [e1, e2] at h
                  omega
                · have e : x = y := by omega
                  subst e
                  simp at h ⊢
                  exact ih m h
        have := asym _ _ k
        unfold ltS at h
        rw [this] at h
        cases h
      · simp [k]
    · simp [h]
theorem srt_eq {l m : List Str} (hp : m.Perm l) (hs : sortedS m = true) : m = srt l := sort_uniq (hp.trans (srt_perm l).symm) (sortedS_pw hs) (srt_pw l)
theorem srt_congr {l m : List Str} (h : l.Perm m) : srt l = srt m := sort_uniq ((srt_perm l).trans (h.trans (srt_perm m).symm)) (srt_pw l) (srt_pw m)
theorem srt_of_pw {l : List Str} (h : l.Pairwise fun a b => ltS b a = false) : srt l = l := sort_uniq (srt_perm l) (srt_pw l) h
theorem srt_nodup {l : List Str} (h : l.Nodup) : (srt l).Nodup := (srt_perm l).nodup_iff.mpr h
theorem mem_srt {l : List Str} {a : Str} : a ∈ srt l ↔ a ∈ l := (srt_perm l).mem_iff
/-- the members of a rising list that are in another one, sorted, are a filter -/
theorem srt_filter {N l : List Str} {p : Str → Bool} (hN : N.Nodup) (hs : N.Pairwise fun a b => ltS b a = false) (hl : l.Nodup) (h : ∀ a, a ∈ l ↔ a ∈ N ∧ p a = true) : srt l = N.filter p := by
  refine sort_uniq ?_ (srt_pw l) (hs.filter p)
  refine (srt_perm l).trans ((List.perm_ext_iff_of_nodup hl (hN.filter p)).mpr fun a => ?_)
  rw [h, List.mem_filter]
section
variable {X : Cx}
/-- sorted of a list or a tuple of texts -/
def rSortST (K : PySem.W.Frag) : List V → Hp → VK → Prop := fun vs H Q => ∃ (a : Addr) (xs : List Str), vs = [V.ref a] ∧ (SqL K H a (xs.map V.str) ∨ SqT K H a (xs.map V.str)) ∧ xs.length < 64 ∧
  ∀ p H', H p = none → Same H H' → (∀ b, b ≠ p → H' b = H b) → H' p = some (.lst ((srt xs).map V.str)) → Q (.ref p) H'
theorem cr_sortST : CallR X (.builtin "sorted") (rSortST X.K) := by
  intro pins s σ H xs us Q I r q
  obtain ⟨a, ks, ex, hd, h64, q⟩ := q
  subst ex
  obtain ⟨u, eu, rx⟩ := vals1 r
  subst eu
  cases rx
  obtain ⟨its, o, n, T, rv, ho, hc, hT, hdt⟩ : ∃ (its : List Value) (o : Obj) (n : Nat) (T : String), Vals (ks.map V.str) its ∧ s.heap.get? a = some o ∧ o.cls = .type T ∧ (T = "list" ∨ T = "tuple") ∧ o.data = .seq its.toArray n := by
    rcases hd with hd | hd
    · obtain ⟨its, rv, pl, _⟩ := I.list hd
      obtain ⟨o, ho, hc, n, hdt⟩ := pl.isList
      exact ⟨its, o, n, _, rv, ho, hc, .inl rfl, hdt⟩
    · obtain ⟨its, rv, ⟨o, ho, hc, n, hdt⟩, _⟩ := I.tuple hd
      exact ⟨its, o, n, _, rv, ho, hc, .inr rfl, hdt⟩
  have hlen := rv.length
  rw [List.length_map] at hlen
  have hsl : (64 : Nat) < sizeLine := by rw [sizeLine_eq]; decide
  refine Calls.call_function_entry PyProof.Rows.kind_sorted PyProof.Rows.plain_sorted PyProof.Rows.entry_sorted (PyProof.Rows.args_sorted1 _) ?_
  unfold Builtin.«sorted»
  refine wpAny_bind (m := checkCount "sorted" 1 1 _) (wpAny_pure ?_)
  refine wpAny_bind (wpAny_collect_seq a hT ho hc hdt (fun h' hk => ?_) (by rw [List.size_toArray]; omega))
  rw [show its.toArray.toList = its by simp]
  have hS := rv.strs
  have I1 : Inv X pins σ H { s with heap := h' } := I.kept (t' := s.toks) hk
  refine wpAny_bind (wpAny_newList ?_ (by omega))
  have hoL : (h'.push (seqObj "list" its.toArray 0)).get? h'.objs.size = some (seqObj "list" its.toArray 0) := Heap.get?_push_size _ rfl
  show wpAny _ _ _ _ _ { s with heap := h'.push (seqObj "list" its.toArray 0) }
  refine wpAny_bind (wpAny_holding (wpAny_call_entry PyProof.Rows.slot_list_sort ⟨_, hoL, rfl⟩ PyProof.Rows.entry_list_sort (list_sort_treeK strKind_oneLt (s := { s with heap := h'.push (seqObj "list" its.toArray 0) }) hoL hS.keysOf
    (fun v₁ v₂ rest e => keyKind_strs (by rw [← e]; exact hS)) (by omega) fun st' hp hs => ⟨_, rfl, ?_⟩) (PyProof.Rows.args_list_sort _)))
  obtain ⟨ys, g1, g2, g3⟩ := sorted_out_str hS hp hs
  obtain rfl := srt_eq g2 g3
  obtain ⟨e', he'⟩ := PyProof.Rows.sortedHeap_at (vs := its) (out := (arrOf st').map (·.2)) hoL
  have hlen2 : ((srt ks).map V.str).length ≤ sizeLine := by
    rw [List.length_map, g2.length_eq]
    omega
  have fr := I1.hok.fresh (Nat.le_refl h'.objs.size)
  refine wpAny_pure ⟨_, rfl, .ref h'.objs.size, upd H h'.objs.size (.lst ((srt ks).map V.str)), I1.laid (t' := s.toks) (fun b u e => ?_) (Nat.le_refl _)
    (show ObjOk X.prog X.w _ _ _ (.lst ((srt ks).map V.str)) from ⟨hlen2, ((arrOf st').map (·.2)).toList, e', vals_of_strs g1, by rw [Array.toArray_toList]; exact he'⟩), rfl, q _ _ fr (fun b o e => by rw [upd_ne (ne_of_none e fr)]; exact e) (fun b hb => upd_ne hb) upd_same⟩
  have hb : b < h'.objs.size := Heap.lt_size e
  rw [PyProof.Rows.sortedHeap_old (Nat.ne_of_lt hb) (by rw [size_push']; exact Nat.lt_succ_of_lt hb)]
  exact Heap.get?_push_of_some _ e
/-- two dicts of the same keys in the same order, whose values are data -/
def rEqDD (K : PySem.W.Frag) : R2 := fun x y H Q => ∃ (a b : Addr) (ks ls : List (Key × V)) (f g : Key → PyData), x = .ref a ∧ y = .ref b ∧ H a = some (.dK ks) ∧ H b = some (.dK ls) ∧ ks.map (·.1) = ls.map (·.1) ∧
  (∀ p ∈ ks, Dp K H p.2 (f p.1) ∧ SeqAt.shaped (f p.1) = true) ∧ (∀ p ∈ ls, Dp K H p.2 (g p.1) ∧ SeqAt.shaped (g p.1) = true) ∧ Q (.bl ((ks.map (·.1)).all fun k => PyData.eqv (f k) (g k))) H
theorem valV_mem : ∀ {ls : List (Key × V)} {k : Key}, k ∈ ls.map (·.1) → ∃ v, valV ls k = some v ∧ (k, v) ∈ ls
  | p :: ls, k, h => by
    by_cases e : p.1 = k
    · exact ⟨p.2, valV_pos e, by rw [← e]; exact List.mem_cons_self⟩
    · obtain ⟨v, h1, h2⟩ := valV_mem (ls := ls) (k := k) (by
        rcases List.mem_cons.mp h with h | h
        · exact absurd h.symm e
        · exact h)
      exact ⟨v, by rw [valV_neg e]; exact h1, List.mem_cons_of_mem _ h2⟩
theorem op_eqDD (hu : X.A.units + 66 < cLine) : OpR X (compareOp .Eq) (rEqDD X.K) := by
  intro pins s σ H x y v u Q I rx ry h
  obtain ⟨a, b, ks, ls, f, g, rfl, rfl, ea, eb, hkl, hf, hg, q⟩ := h
  obtain rfl : v = Value.ref a := rx
  obtain rfl : u = Value.ref b := ry
  obtain ⟨_, ya, va, ra, da⟩ := (show ObjOk X.prog X.w H s.heap a (.dK ks) from I.hok a _ ea)
  obtain ⟨_, yb, vb, rb, db⟩ := (show ObjOk X.prog X.w H s.heap b (.dK ls) from I.hok b _ eb)
  have hl : va.length = vb.length := by
    rw [← ra.length, ← rb.length]
    have := congrArg List.length hkl
    simpa using this
  have hits : ∀ {ks : List (Key × V)} {va : List (Key × Value)}, KV ks va → (∀ p ∈ ks, p.1 ∈ ls.map (·.1)) → (∀ p ∈ ks, Dp X.K H p.2 (f p.1) ∧ SeqAt.shaped (f p.1) = true) → PySem.W.KeqHits X.A.in1 s vb va ((ks.map (·.1)).all fun k => PyData.eqv (f k) (g k)) := by
    intro ks va r
    unfold KV at r
    induction r with
    | nil => intro _ _; exact .nil
    | @cons p q ps qs h t ih =>
      intro hm hd
      obtain ⟨h1, h2⟩ := h
      obtain ⟨v, hv, hin⟩ := valV_mem (hm p List.mem_cons_self)
      have rr : RelO (some v) (valueAt vb p.1) := by rw [← hv]; exact rb.val p.1
      obtain ⟨y, hy, ry⟩ := rr.some_of
      obtain ⟨key, w⟩ := q
      have h1' : p.1 = key := h1
      subst h1'
      obtain ⟨d1, s1⟩ := hd p List.mem_cons_self
      obtain ⟨d2, s2⟩ := hg _ hin
      obtain ⟨as, r1⟩ := Dp.reads I _ _ w d1 h2
      obtain ⟨bs, r2⟩ := Dp.reads I _ _ y d2 ry
      show PySem.W.KeqHits X.A.in1 s vb ((p.1, w) :: qs) (PyData.eqv (f p.1) (g p.1) && _)
      exact .hit hy (PySem.W.keq_at r1 r2 s1 s2 (by show X.A.units + 1 + 64 < cLine; omega)) (ih (fun p' h' => hm p' (List.mem_cons_of_mem _ h')) fun p' h' => hd p' (List.mem_cons_of_mem _ h'))
  refine PySem.W.keq_eq (knd := mixKind X.prog X.w) (r := (ks.map (·.1)).all fun k => PyData.eqv (f k) (g k)) ya yb da db (by omega) (fun _ => hits ra (fun p hp => by rw [← hkl]; exact List.mem_map_of_mem hp) hf) ⟨.bl _, H, I, ?_, q⟩
  rw [hl]
  show Value.bool _ = Value.bool _
  rw [show (vb.length == vb.length) = true by simp, Bool.true_and]
end
end Z

set_option Elab.async false
set_option linter.all false
set_option maxRecDepth 100000
set_option maxHeartbeats 4000000
/-! enumerate of a tuple -/
namespace Z
open PySem PySem.Spec PyProof.Rows L2
section
variable {prog : Program} {w : World} {A : Around} {E : Value → Shared → Prop} {s : Shared} {q t : Addr} {i : Nat} {its : Array Value} {x : Value} {Q : Value → Shared → Prop}
theorem tupItem (hit : s.heap.IsTupleIter q t i) (ht : s.heap.IsTuple t its) (hx : its[i]? = some x) (hQ : ∀ h', h'.IsTupleIter q t (i + 1) → Heap.SameBut q s.heap h' → Q x { s with heap := h' }) :
    wpAny (model prog w) A (Builtin.SmallTypes.nextOf (.ref q)) Q E s := by
  obtain ⟨ob, ho, hc, hd⟩ := id hit; obtain ⟨ot, hot, _, nn, hdt⟩ := ht
  unfold Builtin.SmallTypes.nextOf; refine wpAny_bind (wpAny_callSpecial?_slot (name := Str.ofString "__next__") hit.typeIs F.slot_tuple_iterator_next (wpAny_call_entry F.slot_tuple_iterator_next hit.typeIs F.entry_tuple_iterator_next ?_ (F.args_tuple_iterator_next_1 _)))
  show wpAny _ _ (field (.ref q) 0 >>= _) _ _ s; refine wpAny_bind (wpAny_field ho hd (x := .ref t) rfl ?_)
  show wpAny _ _ (if (Value.ref t == Value.none) = true then _ else _) _ _ s; rw [if_neg (show ¬ ((Value.ref t == Value.none) = true) from Bool.false_ne_true)]
  show wpAny _ _ (field (.ref q) 1 >>= _) _ _ s; refine wpAny_bind (wpAny_field ho hd (x := .int i 0) rfl ?_)
  show wpAny _ _ (seqItems? (.ref t) >>= _) _ _ s; refine wpAny_bind (wpAny_seqItems hot hdt ?_); simp only [Int.toNat_natCast, hx]
  refine wpAny_bind (wpAny_setField ho hd (by simp) (wpAny_pure ⟨x, rfl, wpAny_pure (hQ _ ⟨_, Heap.get?_update_self _ ho (Obj.isFreed_of_fields (Obj.data_mapFields hd _)), (Obj.cls_mapFields ..).trans hc, by rw [Obj.data_mapFields hd]; simp [rawInt]⟩ (Heap.SameBut.update ..))⟩))
theorem tupDone (calm : A.handled = none) (hit : s.heap.IsTupleIter q t i) (ht : s.heap.IsTuple t its) (out : its[i]? = none)
    (hE : ∀ h' e, Heap.ExtBut q s.heap h' → (∃ o, h'.get? e = some o ∧ o.cls = .type "StopIteration") → E (.ref e) { s with heap := h' }) : wpAny (model prog w) A (Builtin.SmallTypes.nextOf (.ref q)) Q E s := by
  obtain ⟨ob, ho, hc, hd⟩ := id hit; obtain ⟨ot, hot, _, nn, hdt⟩ := ht
  unfold Builtin.SmallTypes.nextOf; refine wpAny_bind (wpAny_callSpecial?_slot (name := Str.ofString "__next__") hit.typeIs F.slot_tuple_iterator_next (wpAny_call_entry F.slot_tuple_iterator_next hit.typeIs F.entry_tuple_iterator_next ?_ (F.args_tuple_iterator_next_1 _)))
  show wpAny _ _ (field (.ref q) 0 >>= _) _ _ s; refine wpAny_bind (wpAny_field ho hd (x := .ref t) rfl ?_)
  show wpAny _ _ (if (Value.ref t == Value.none) = true then _ else _) _ _ s; rw [if_neg (show ¬ ((Value.ref t == Value.none) = true) from Bool.false_ne_true)]
  show wpAny _ _ (field (.ref q) 1 >>= _) _ _ s; refine wpAny_bind (wpAny_field ho hd (x := .int i 0) rfl ?_)
  show wpAny _ _ (seqItems? (.ref t) >>= _) _ _ s; refine wpAny_bind (wpAny_seqItems hot hdt ?_); simp only [Int.toNat_natCast, out]
  refine wpAny_bind (wpAny_rule (wpAny_bind (wpAny_setField ho hd (by simp) ?_))); show wpAny _ _ (newExc (.type "StopIteration") [] >>= _) _ _ _
  refine wpAny_bind ?_; simp only [newExc, newTuple]
  refine wpAny_bind (wpAny_newObj_type ?_ (by size_fits)); refine wpAny_bind (m := firstArgMember _ _) (wpAny_of_eq (a := Value.none) (by first | rfl | (simp only [firstArgMember]; rfl)) ?_)
  refine wpAny_newObj_type ?_ (by size_fits); simp only [raiseNew]
  refine wpAny_bind (wpAny_handled ?_); first | rw [show A.in1.handled = none from calm] | rw [calm]
  refine wpAny_bind (wpAny_pure (wpAny_throw ?_)); exact hE _ _ (((Heap.SameBut.update ..).extBut.push _).push _) ⟨_, Heap.get?_push_size _ rfl, rfl⟩
end
theorem drawsTup {prog : Program} {w : World} {A : Around} (calm : A.handled = none) (q t : Addr) (hne : t ≠ q) (its : Array Value) :
    Draws prog w A q [q, t] its.size (fun i v => its[i]? = some v) (fun i h => h.IsTupleIter q t i ∧ h.IsTuple t its) where
  live := fun _ _ st => let ⟨o, ho, _⟩ := st.1; ⟨o, ho⟩
  frame := fun _ _ _ st hk => ⟨let ⟨o, ho, r⟩ := st.1; ⟨o, hk q (by simp) o ho, r⟩, let ⟨o, ho, r⟩ := st.2; ⟨o, hk t (by simp) o ho, r⟩⟩
  item := fun i s Q E hi st hQ => by
    refine tupItem st.1 st.2 (x := its[i]) (by simp [hi]) fun h' hit' sb => ?_
    exact hQ _ h' s.toks (by simp [hi]) ⟨hit', st.2.extBut sb.extBut hne⟩ sb
  done := fun s Q E st hE => tupDone calm st.1 st.2 (by simp) hE
/-- the end alone -/
theorem drawsEnd {prog : Program} {w : World} {A : Around} (calm : A.handled = none) (q t : Addr) (its : Array Value) (i : Nat) (out : its[i]? = none) :
    Draws prog w A q [q, t] i (fun _ _ => True) (fun j h => j = i ∧ h.IsTupleIter q t j ∧ h.IsTuple t its) where
  live := fun _ _ st => let ⟨o, ho, _⟩ := st.2.1; ⟨o, ho⟩
  frame := fun _ _ _ st hk => ⟨st.1, let ⟨o, ho, r⟩ := st.2.1; ⟨o, hk q (by simp) o ho, r⟩, let ⟨o, ho, r⟩ := st.2.2; ⟨o, hk t (by simp) o ho, r⟩⟩
  item := fun j s Q E hi st hQ => by
    have := st.1
    omega
  done := fun s Q E st hE => tupDone calm st.2.1 st.2.2 out hE
/-- the tuple at a, each item in a new pair -/
def IteT (K : PySem.W.Frag) (a : Addr) : It :=
  ⟨fun i H => ∃ (xs : List V) (x : V), SqT K H a xs ∧ xs[i]? = some x, fun i H v H' => ∃ T x, v = .ref T ∧ H T = none ∧ H' = upd H T (.tup [.int (i : Nat), x]) ∧ ∀ xs, SqT K H a xs → xs[i]? = some x, fun i H => ∃ xs : List V, SqT K H a xs ∧ xs.length ≤ i⟩
theorem turn_enumT {P : Program} {w : World} {K : PySem.W.Frag} {elts : List Expr} {kk : Nat} {tpos : Pos} (a e it : Addr) :
    Turn P w K (.Tuple elts kk tpos) (IteT K a) [e, it] e (fun i h => (∃ old, IsEnum h e it ((i : Nat) : Int) old) ∧ h.IsTupleIter it a i ∧ e ≠ it ∧ a ≠ it ∧ a ≠ e) where
  mem := by simp
  obj := fun i h st b hb => by
    obtain ⟨⟨old, he⟩, ⟨o, ho, hc, hd⟩, _⟩ := st
    have e' : b = e ∨ b = it := by simpa using hb
    rcases e' with z | z
    · rw [z]; exact ⟨_, he, fun v q => nomatch q⟩
    · rw [z]; exact ⟨o, ho, fun v q => by rw [hd] at q; cases q⟩
  keep := fun i h h' st k => let ⟨⟨old, he⟩, ⟨o, ho, r⟩, hne⟩ := st; ⟨⟨old, k e (by simp) _ he⟩, ⟨o, k it (by simp) _ ho, r⟩, hne⟩
  item := by
    intro X hP hw hK hc i pins s σ H E I hf st hg
    subst hP hw hK
    obtain ⟨⟨old, he⟩, hit, hne, hai, hae⟩ := st
    obtain ⟨xs, x, hq, hx⟩ := hg
    obtain ⟨its, rv, p, hz⟩ := I.tuple hq
    obtain ⟨u, hu, ru⟩ := rv.get hx
    have hel : e < s.heap.objs.size := Heap.lt_size he
    have hil : it < s.heap.objs.size := by obtain ⟨_, z, _⟩ := hit; exact Heap.lt_size z
    have hlt : i < its.toArray.size := by
      have := (List.getElem?_eq_some_iff.mp hu).1
      simpa using this
    refine wpAny_pyNext_enum_itemD (drawsTup (by first | exact I.ok.hd hc | (show X.A.in1.handled = none; exact I.ok.hd hc)) it a hai its.toArray) he ⟨hit, p⟩ hlt hne (by simp [hne, Ne.symm hae]) fun x' h' tk hx' ho hst' hT hsz hk => ?_
    obtain rfl : x' = u := by
      rw [show its.toArray[i]? = its[i]? by simp, hu] at hx'
      exact (Option.some.inj hx').symm
    refine ⟨_, rfl, wpAny_letOwnedTupleGo_enum (s := { s with heap := h', toks := tk + 1 }) ho fun h'' he' sb => ?_⟩
    have hT2 : h''.get? s.heap.objs.size = some { cls := .type "tuple", data := .seq #[.int i tk, x'] } := (sb.2 _ (Nat.ne_of_gt hel)).trans hT
    have new : ObjOk X.prog X.w (upd H s.heap.objs.size (.tup [.int (i : Nat), x])) h'' s.heap.objs.size (.tup [.int (i : Nat), x]) :=
      ⟨by show 2 ≤ sizeLine; decide, [.int i tk, x'], .cons ⟨_, rfl⟩ (.cons ru .nil), ⟨_, hT2, rfl, _, rfl⟩⟩
    have I1 : Inv X pins σ (upd H s.heap.objs.size (.tup [.int (i : Nat), x])) { s with heap := h'', toks := tk + 1 } :=
      I.turnedNew (ch := [e, it]) (fun b ob hb z => (sb.2 b (fun y => hb (by simp [y]))).trans (hk b ob (fun y => hb (by simp [y])) (fun y => hb (by simp [y])) z)) hf (Nat.le_refl _) new
    have hit2 : h''.IsTupleIter it a (i + 1) := let ⟨o, ho, r⟩ := hst'.1; ⟨o, (sb.2 it (Ne.symm hne)).trans ho, r⟩
    refine ⟨.ref s.heap.objs.size, _, I1, rfl, ⟨_, x, rfl, I.hok.fresh (Nat.le_refl _), rfl, fun ys hy => by rw [I.tuple_inj hy hq]; exact hx⟩, ⟨⟨x', ?_⟩, hit2, hne, hai, hae⟩, fun b hb => ?_⟩
    · have e1 : ((i + 1 : Nat) : Int) = (i : Int) + 1 := by omega
      rw [e1]; exact he'
    · have hb' : b < s.heap.objs.size := by
        have e' : b = e ∨ b = it := by simpa using hb
        rcases e' with z | z
        · rw [z]; exact hel
        · rw [z]; exact hil
      rw [upd_ne (Nat.ne_of_lt hb')]
      exact (hf b hb).1
  done := by
    intro X hP hw hK hc i pins s σ H E I hf st hg
    subst hP hw hK
    obtain ⟨⟨old, he⟩, hit, hne, hai, hae⟩ := st
    obtain ⟨xs, hq, hx⟩ := hg
    obtain ⟨its, rv, p, hz⟩ := I.tuple hq
    obtain ⟨f0, f1, f2, f3, f4, f5⟩ := hf it (by simp)
    have hl := rv.length
    refine wpAny_pyNext_enum_endD (drawsEnd (by first | exact I.ok.hd hc | (show X.A.in1.handled = none; exact I.ok.hd hc)) it a its.toArray i (by simp; omega)) he ⟨rfl, hit, p⟩ fun h' eb => ⟨rfl, I.turned (t' := s.toks) (fun b o hb q => eb b o hb q) f0 f1 f3 f4 f5⟩
  self := fun A i s Q E st h => let ⟨⟨_, he⟩, _⟩ := st; wpAny_pyIter_enum he h
set_option maxHeartbeats 4000000 in
theorem enumNewT (l : Addr) (its : Array Value) (n : Nat) (dct : Option Addr) (sl : Array (Option Value)) :
    Meets (Builtin.«enumerate.__new__» ⟨[.type "enumerate", .ref l], []⟩) (fun _ R s => s.heap.get? l = some { cls := .type "tuple", dict := dct, data := .seq its n, slots := sl } ∧
      R (.ok (.ret (.ref (s.heap.push { cls := .type "tuple_iterator", data := .fields #[.ref l, .int 0 0] }).objs.size)))
        { s with heap := (s.heap.push { cls := .type "tuple_iterator", data := .fields #[.ref l, .int 0 0] }).push { cls := .type "enumerate", data := .fields #[.none, .bool false, .ref s.heap.objs.size, rawInt 0, .none, .none] } }) :=
  .of_wp fun prog w A R s h => by
    obtain ⟨hl, h⟩ := h
    obtain ⟨hp, g, d, tk, os⟩ := s
    have hT : (⟨hp, g, d, tk, os⟩ : Shared).heap.IsTuple l its := ⟨_, hl, rfl, n, rfl⟩
    have hsub := sub_enumerate
    wp_walk
    refine wpAny_stack_any fun st => wpAny_pure ?_
    split
    · rename_i c _ _ _ _ _
      cases (c == Value.type "enumerate")
      · wp_walk using wpAny_loadPart' hl, wpAny_pyIter_tuple hT
        exact ⟨_, rfl, h⟩
      · wp_walk using wpAny_loadPart' hl, wpAny_pyIter_tuple hT
        exact ⟨_, rfl, h⟩
    · wp_walk using wpAny_loadPart' hl, wpAny_pyIter_tuple hT
      exact ⟨_, rfl, h⟩
theorem callEnumT {prog : Program} {w : World} {A : Around} {E : Value → Shared → Prop} {s : Shared} {l : Addr} {its : Array Value} {Q : Value → Shared → Prop} (hL : s.heap.IsTuple l its)
    (h : ∀ h', IsEnum h' (s.heap.objs.size + 1) s.heap.objs.size 0 .none → h'.IsTupleIter s.heap.objs.size l 0 → (∀ b o, s.heap.get? b = some o → h'.get? b = some o) → Q (.ref (s.heap.objs.size + 1)) { s with heap := h' }) :
    wpAny (model prog w) A (call (.type "enumerate") [.ref l]) Q E s := by
  obtain ⟨⟨c, dct, dt, sl⟩, hl, hc, n, hd⟩ := hL
  replace hc : c = .type "tuple" := hc
  replace hd : dt = .seq its n := hd
  subst hc hd
  refine callType_new F.called_enumerate (by decide) (F.typeCall_enumerate_1 _) (F.newCall_enumerate_1 _) (fun obj => F.args_object_init_2 obj _) F.entry_enumerate_new (enumNewT l its n dct sl) ⟨hl, ?_⟩
  have hz : (s.heap.push { cls := .type "tuple_iterator", data := .fields #[.ref l, .int 0 0] }).objs.size = s.heap.objs.size + 1 := Heap.size_push ..
  show _ ∧ _
  rw [hz]
  have he : IsEnum ((s.heap.push { cls := .type "tuple_iterator", data := .fields #[.ref l, .int 0 0] }).push { cls := .type "enumerate", data := .fields #[.none, .bool false, .ref s.heap.objs.size, rawInt 0, .none, .none] }) (s.heap.objs.size + 1) s.heap.objs.size 0 .none := by
    have := Heap.get?_push_size (s.heap.push { cls := .type "tuple_iterator", data := .fields #[.ref l, .int 0 0] }) (o := { cls := .type "enumerate", data := .fields #[.none, .bool false, .ref s.heap.objs.size, rawInt 0, .none, .none] }) rfl
    rw [hz] at this; exact this
  exact ⟨⟨_, he, rfl⟩, h _ he ⟨_, Heap.get?_push_of_some _ (Heap.get?_push_size _ rfl), rfl, rfl⟩ fun b o x => Heap.get?_push_of_some _ (Heap.get?_push_of_some _ x)⟩
def iEnumT (K : PySem.W.Frag) (ta : TA) : TI := fun σ H R => ta σ H fun vs H1 => ∃ a xs, vs = [.ref a] ∧ SqT K H1 a xs ∧ R (IteT K a) H1
theorem pi_enumT {X : Cx} {e : Expr} {ta : TA} {p pos tpos : Pos} {elts : List Expr} {kk : Nat} (hg : Gl X "enumerate") (hm : X.mg "enumerate" = none) (ha : PA X [e] ta) (hs : starEach [e] X.env = [(false, eval e X.env)] := by rfl) :
    PI X (.Tuple elts kk tpos) (.Call (.Name "enumerate" p) [e] [] pos) (iEnumT X.K ta) := by
  refine ⟨fun pins s σ H R I h => ?_⟩
  refine Call_ (ld_blt I hg hm boot_enumerate (PyProof.Rows.callWith_type1 (thn (ha.run pos pins s σ H _ I h) fun us s1 ⟨vs, H1, I1, r1, q1⟩ => ?_) hs rfl))
  obtain ⟨a, xs, ex, hq, q⟩ := q1
  subst ex
  obtain ⟨u, rfl, r⟩ := r1.one
  cases r
  obtain ⟨its, rv, p', hz⟩ := I1.tuple hq
  refine callEnumT p' fun h' he hit hk => wpAny_pyIter_enum he ?_
  have I2 : Inv X pins σ H1 { s1 with heap := h' } := I1.kept (t' := s1.toks) hk
  have hal : a < s1.heap.objs.size := by obtain ⟨_, z, _⟩ := p'; exact Heap.lt_size z
  refine ⟨s1.heap.objs.size + 1, [s1.heap.objs.size + 1, s1.heap.objs.size], _, _, H1, rfl, I2, turn_enumT a (s1.heap.objs.size + 1) s1.heap.objs.size, ⟨⟨.none, he⟩, hit, Nat.succ_ne_self _, Nat.ne_of_lt hal, Nat.ne_of_lt (Nat.lt_succ_of_lt hal)⟩, fun b hb => ?_, q⟩
  have e' : b = s1.heap.objs.size + 1 ∨ b = s1.heap.objs.size := by simpa using hb
  have hle : s1.heap.objs.size ≤ b := by
    rcases e' with z | z
    · rw [z]; exact Nat.le_add_right _ _
    · rw [z]; exact Nat.le_refl _
  exact I1.fpOk hle (I1.hok.fresh hle)
end Z

set_option Elab.async false
set_option linter.all false
set_option maxRecDepth 100000
set_option maxHeartbeats 4000000
/-! what is walked, be it a list or a tuple; readings of loops, comprehensions and dicts -/
namespace Z
open PySem PySem.Spec PyProof.Rows L2
def SqA (K : PySem.W.Frag) (H : Hp) (a : Addr) (xs : List V) : Prop := SqL K H a xs ∨ SqT K H a xs
/-- what stood at a stands there -/
def AtS (H : Hp) (a : Addr) (H' : Hp) : Prop := ∀ o, H a = some o → H' a = some o
section
variable {K : PySem.W.Frag} {H H' : Hp} {a : Addr} {xs : List V}
theorem AtS.refl : AtS H a H := fun _ e => e
theorem AtS.of (s : Same H H') : AtS H a H' := fun _ e => s _ _ e
theorem atL (s : AtS H a H') (h : SqL K H a xs) : SqL K H' a xs := by
  rcases h with (h | ⟨o, h⟩) | h
  · exact .inl (.inl (s _ h))
  · exact .inl (.inr ⟨o, s _ h⟩)
  · exact .inr h
theorem atT (s : AtS H a H') (h : SqT K H a xs) : SqT K H' a xs := by
  rcases h with (h | ⟨o, h⟩) | h
  · exact .inl (.inl (s _ h))
  · exact .inl (.inr ⟨o, s _ h⟩)
  · exact .inr h
theorem atA (s : AtS H a H') (h : SqA K H a xs) : SqA K H' a xs := h.elim (fun h => .inl (atL s h)) fun h => .inr (atT s h)
theorem sameA (s : Same H H') (h : SqA K H a xs) : SqA K H' a xs := atA (.of s) h
theorem SqA.l (h : H a = some (.lst xs)) : SqA K H a xs := .inl (.of h)
theorem SqA.t (h : H a = some (.tup xs)) : SqA K H a xs := .inr (.of h)
end
/-- e, a list or a tuple, item by item -/
def WkA (K : PySem.W.Frag) (H1 : Hp) (a : Addr) (xs : List V) (Y : Nat → Hp → V → Hp → Prop) (R : It → Prop) : Prop := (SqL K H1 a xs ∧ ∀ J, Walk J xs.length (fun H' => SqL K H' a xs) Y → R J) ∨ (SqT K H1 a xs ∧ ∀ J, Walk J xs.length (fun H' => SqT K H' a xs) Y → R J)
theorem WkA.intro {K : PySem.W.Frag} {H0 H1 : Hp} {a : Addr} {xs : List V} {Y : Nat → Hp → V → Hp → Prop} {R : It → Prop} (s : SqA K H0 a xs) (s1 : Same H0 H1) (h : ∀ J G, Walk J xs.length G Y → (∀ H', Same H0 H' → G H') → R J) : WkA K H1 a xs Y R := by
  rcases s with s | s
  · exact .inl ⟨atL (.of s1) s, fun J w => h J _ w fun H' z => atL (.of z) s⟩
  · exact .inr ⟨atT (.of s1) s, fun J w => h J _ w fun H' z => atT (.of z) s⟩
def iAny (K : PySem.W.Frag) (tl : TE) : TI := fun σ H R => tl σ H fun x H1 => ∃ a xs, x = .ref a ∧ WkA K H1 a xs (YAt xs) fun J => R J H1
theorem pi_any {X : Cx} {K : PySem.W.Frag} {tg l : Expr} {tl : TE} (hK : X.K = K) (hl : PE X l tl) : PI X tg l (iAny K tl) := by
  subst hK
  refine ⟨fun pins s σ H R I h => ?_⟩
  refine thn (hl.run pins s σ H _ I h) fun v s1 ⟨x, H1, I1, r1, q1⟩ => ?_
  obtain ⟨a, xs, e, hq⟩ := q1
  subst e
  cases r1
  have one : ∀ b ∈ [s1.heap.objs.size], FpOk X pins H1 b := fun b hb => by
    have e : b = s1.heap.objs.size := by simpa using hb
    subst e
    exact I1.fpOk (Nat.le_refl _) (I1.hok.fresh (Nat.le_refl _))
  rcases hq with ⟨hq, q⟩ | ⟨hq, q⟩
  · obtain ⟨its, rv, p, hz⟩ := I1.list hq
    exact wpAny_pyIter_list p.isList ⟨s1.heap.objs.size, [s1.heap.objs.size], _, _, H1, rfl, I1.kept (t' := s1.toks) fun b o e => Heap.get?_push_of_some _ e, turn_list a _, ⟨_, Heap.get?_push_size _ rfl, rfl, rfl⟩, one, q _ walk_list⟩
  · obtain ⟨its, rv, p, hz⟩ := I1.tuple hq
    exact wpAny_pyIter_tuple (show s1.heap.IsTuple a its.toArray from p) ⟨s1.heap.objs.size, [s1.heap.objs.size], _, _, H1, rfl, I1.kept (t' := s1.toks) fun b o e => Heap.get?_push_of_some _ e, turn_tuple a _, ⟨_, Heap.get?_push_size _ rfl, rfl, rfl⟩, one, q _ walk_tup⟩
theorem walk_enumT {K : PySem.W.Frag} {a : Addr} {xs : List V} : Walk (IteT K a) xs.length (fun H => SqT K H a xs) (YPair (fun i => some (.int (i : Nat))) (fun i => xs[i]?)) := by
  refine ⟨fun i _ hi q => ⟨xs, xs[i], q, by simp [hi]⟩, fun _ q => ⟨xs, q, Nat.le_refl _⟩, fun i H v H' _ q y => ?_⟩
  obtain ⟨T, x, h1, h2, h3, h4⟩ := y
  exact ⟨T, .int (i : Nat), x, h1, h2, h3, rfl, h4 xs q⟩
/-- enumerate of a list or a tuple -/
def iEnA (K : PySem.W.Frag) (ta : TA) : TI := fun σ H R => ta σ H fun vs H1 => ∃ a xs, vs = [.ref a] ∧ WkA K H1 a xs (YPair (fun i => some (.int (i : Nat))) (fun i => xs[i]?)) fun J => R J H1
theorem pi_enA {X : Cx} {K : PySem.W.Frag} {e : Expr} {ta : TA} {p pos tpos : Pos} {elts : List Expr} {kk : Nat} (hK : X.K = K) (hg : Gl X "enumerate") (hm : X.mg "enumerate" = none) (ha : PA X [e] ta) (hs : starEach [e] X.env = [(false, eval e X.env)] := by rfl) :
    PI X (.Tuple elts kk tpos) (.Call (.Name "enumerate" p) [e] [] pos) (iEnA K ta) := by
  subst hK
  refine ⟨fun pins s σ H R I h => ?_⟩
  refine Call_ (ld_blt I hg hm boot_enumerate (PyProof.Rows.callWith_type1 (thn (ha.run pos pins s σ H _ I h) fun us s1 ⟨vs, H1, I1, r1, q1⟩ => ?_) hs rfl))
  obtain ⟨a, xs, ex, hq⟩ := q1
  subst ex
  obtain ⟨u, rfl, r⟩ := r1.one
  cases r
  have two : ∀ b ∈ [s1.heap.objs.size + 1, s1.heap.objs.size], FpOk X pins H1 b := fun b hb => by
    have e' : b = s1.heap.objs.size + 1 ∨ b = s1.heap.objs.size := by simpa using hb
    have hle : s1.heap.objs.size ≤ b := by
      rcases e' with z | z
      · rw [z]; exact Nat.le_add_right _ _
      · rw [z]; exact Nat.le_refl _
    exact I1.fpOk hle (I1.hok.fresh hle)
  rcases hq with ⟨hq, q⟩ | ⟨hq, q⟩
  · obtain ⟨its, rv, p', hz⟩ := I1.list hq
    refine call_enumerate_list p'.isList fun h' he hit hsz hk => wpAny_pyIter_enum he ?_
    exact ⟨s1.heap.objs.size + 1, [s1.heap.objs.size + 1, s1.heap.objs.size], _, _, H1, rfl, I1.kept (t' := s1.toks) hk, turn_enum a (s1.heap.objs.size + 1) s1.heap.objs.size, ⟨⟨.none, he⟩, hit, Nat.succ_ne_self _⟩, two, q _ walk_enum⟩
  · obtain ⟨its, rv, p', hz⟩ := I1.tuple hq
    refine callEnumT p' fun h' he hit hk => wpAny_pyIter_enum he ?_
    have hal : a < s1.heap.objs.size := by obtain ⟨_, z, _⟩ := p'; exact Heap.lt_size z
    exact ⟨s1.heap.objs.size + 1, [s1.heap.objs.size + 1, s1.heap.objs.size], _, _, H1, rfl, I1.kept (t' := s1.toks) hk, turn_enumT a (s1.heap.objs.size + 1) s1.heap.objs.size, ⟨⟨.none, he⟩, hit, Nat.succ_ne_self _, Nat.ne_of_lt hal, Nat.ne_of_lt (Nat.lt_succ_of_lt hal)⟩, two, q _ walk_enumT⟩
/-! ### readings -/
section
variable {K : PySem.W.Frag} {σ : L2.St} {H H0 : Hp} {D : Ends} {te tl tk tv td ty : TE} {tt tt1 : TT} {tr : TA} {g g1 : TG} {tb : TS} {Q : VK} {a : Addr} {xs : List V} {n : Nat}
def rForA (K : PySem.W.Frag) (g : TG) (tb : TS) (D : Ends) (σ : L2.St) (x : V) (H1 : Hp) : Prop := ∃ a xs, x = .ref a ∧ WkA K H1 a xs (YAt xs) fun J => rFor J g tb D σ H1
theorem i_forA0 (h : tl σ H (fun x H1 => rForA K g tb D σ x H1)) : tFor (iAny K tl) g tb D σ H := h
theorem i_forA (Pv : Nat → L2.St → Hp → Prop) (s : SqA K H0 a xs) (h0 : Pv 0 σ H) (hl : ∀ i σ H1, Pv i σ H1 → Same H0 H1)
    (hs : ∀ i x σ H, xs[i]? = some x → Pv i σ H → g x σ H fun σ2 H2 => tb { D with nx := Pv (i + 1), ct := Pv (i + 1), bk := D.nx } σ2 H2) (hd : ∀ σ H, Pv xs.length σ H → D.nx σ H) : rForA K g tb D σ (.ref a) H :=
  ⟨a, xs, rfl, .intro s (hl _ _ _ h0) fun J G w hG => for_it w Pv h0 (fun i σ H1 _ p => hG _ (hl i σ H1 p)) (fun i x σ H H' _ p y => by obtain ⟨rfl, e⟩ := y; exact hs i x σ _ e p) hd⟩
def rEnA (K : PySem.W.Frag) (g : TG) (tb : TS) (D : Ends) (σ : L2.St) (vs : List V) (H1 : Hp) : Prop := ∃ a xs, vs = [.ref a] ∧ WkA K H1 a xs (YPair (fun i => some (.int (i : Nat))) (fun i => xs[i]?)) fun J => rFor J g tb D σ H1
theorem i_enA0 (h : tr σ H (fun vs H1 => rEnA K g tb D σ vs H1)) : tFor (iEnA K tr) g tb D σ H := h
theorem i_enA (Pv : Nat → L2.St → Hp → Prop) (s : SqA K H0 a xs) (h0 : Pv 0 σ H) (hl : ∀ i σ H1, Pv i σ H1 → Same H0 H1)
    (hs : ∀ i x T σ H H2, xs[i]? = some x → Pv i σ H → H T = none → Same H H2 → H2 T = some (.tup [.int (i : Nat), x]) → (∀ b, b ≠ T → H2 b = H b) → g (.ref T) σ H2 fun σ2 H2 => tb { D with nx := Pv (i + 1), ct := Pv (i + 1), bk := D.nx } σ2 H2)
    (hd : ∀ σ H, Pv xs.length σ H → D.nx σ H) : rEnA K g tb D σ [.ref a] H :=
  ⟨a, xs, rfl, .intro s (hl _ _ _ h0) fun J G w hG => for_it w Pv h0 (fun i σ H1 _ p => hG _ (hl i σ H1 p)) (fun i x σ H H' _ p y => by
    obtain ⟨T, v, z, rfl, hT, rfl, e1, e2⟩ := y
    cases e1
    exact hs i z T σ H _ e2 p hT (fun b o e => by rw [upd_ne (ne_of_none e hT)]; exact e) upd_same fun b hb => upd_ne hb) hd⟩
/-- list comprehensions over it -/
def rLcA (K : PySem.W.Frag) (g : TG) (tt : TT) (te : TE) (vs : List Nat) (σ : L2.St) (Q : VK) (x : V) (H1 : Hp) : Prop := ∃ a xs, x = .ref a ∧ WkA K H1 a xs (YAt xs) fun J => ∀ D, H1 D = none → ∃ W : Nat → Nat → Hp → Prop, (∃ m, W 0 m (upd H1 D (.lst []))) ∧ ∀ i m H, W i m H →
  (J.stop i H ∧ Q (.ref D) H) ∨ (J.go i H ∧ ∃ Nx : Hp → Prop, (∀ H', Nx H' → ∃ m', m' < m ∧ W (i + 1) m' H') ∧ ∀ x H', J.yld i H x H' → g x (wipe σ vs) H' fun σ2 H2 => wipe σ2 vs = wipe σ vs ∧ tt σ2 H2 fun b H3 =>
    if b = true then te σ2 H3 fun y H4 => ∃ acc, H4 D = some (.lst acc) ∧ acc.length < sizeLine ∧ Nx (upd H4 D (.lst (acc ++ [y]))) else Nx H3)
theorem i_lcA0 {vs : List Nat} (h : tl σ H (fun x H1 => rLcA K g tt te vs σ Q x H1)) : tLc (iAny K tl) g tt te vs σ H Q := h
theorem i_lcA {vs : List Nat} (Pv : Nat → List V → Hp → Prop) (s : SqA K H0 a xs) (s0 : Same H0 H) (h0 : ∀ D H', H D = none → Same H H' → H' D = some (.lst []) → (∀ b, b ≠ D → H' b = H b) → Pv 0 [] H')
    (hl : ∀ i ys H1, Pv i ys H1 → Same H0 H1)
    (hs : ∀ i x D ys H1, H D = none → xs[i]? = some x → H1 D = some (.lst ys) → Pv i ys H1 → g x (wipe σ vs) H1 fun σ2 H2 => wipe σ2 vs = wipe σ vs ∧ tt σ2 H2 fun b H3 => if b = true then te σ2 H3 fun y H4 => rLcE D Pv i y H4 else LcS D Pv (i + 1) H3)
    (hd : ∀ D ys H1, H D = none → H1 D = some (.lst ys) → Pv xs.length ys H1 → Q (.ref D) H1) : rLcA K g tt te vs σ Q (.ref a) H := by
  refine ⟨a, xs, rfl, .intro s s0 fun J G w hG D hD => ?_⟩
  refine lc_it w (LcS D Pv) ⟨[], upd_same, h0 D _ hD (fun b o e => by rw [upd_ne (ne_of_none e hD)]; exact e) upd_same (fun b hb => upd_ne hb)⟩ ?_ ?_ ?_
  · rintro i H' _ ⟨ys, _, p⟩
    exact hG _ (hl i ys H' p)
  · rintro i x H1 H2 hi ⟨ys, hD', p⟩ ⟨rfl, e⟩
    exact hs i x D ys _ hD e hD' p
  · rintro H' ⟨ys, hD', p⟩
    exact hd D ys H' hD hD' p
/-- dict comprehensions over it -/
def DcS (D : Addr) (Pv : Nat → List (Key × V) → Hp → Prop) (i : Nat) (H : Hp) : Prop := ∃ kvs, H D = some (.dK kvs) ∧ Pv i kvs H
def rDcE (D : Addr) (Pv : Nat → List (Key × V) → Hp → Prop) (i : Nat) (y z : V) (H5 : Hp) : Prop := ∃ kvs k, y = kV k ∧ H5 D = some (.dK kvs) ∧ kvs.length < sizeLine ∧ DcS D Pv (i + 1) (upd H5 D (.dK (putK kvs k z)))
theorem i_dcE {D : Addr} {Pv : Nat → List (Key × V) → Hp → Prop} {i : Nat} {y : Str} {z : V} {kvs : List (Key × V)} (e : H D = some (.dK kvs)) (l : kvs.length < 100000) (h : ∀ H5, H5 D = some (.dK (putK kvs (.inr y) z)) → (∀ c, c ≠ D → H5 c = H c) → Pv (i + 1) (putK kvs (.inr y) z) H5) : rDcE D Pv i (.str y) z H :=
  ⟨kvs, .inr y, rfl, e, Nat.lt_of_lt_of_le l (by decide), _, upd_same, h _ upd_same (fun c hc => upd_ne hc)⟩
def rDcA (K : PySem.W.Frag) (g : TG) (tt : TT) (tk tv : TE) (vs : List Nat) (σ : L2.St) (Q : VK) (x : V) (H1 : Hp) : Prop := ∃ a xs, x = .ref a ∧ WkA K H1 a xs (YAt xs) fun J => ∀ D, H1 D = none → ∃ W : Nat → Nat → Hp → Prop, (∃ m, W 0 m (upd H1 D (.dK []))) ∧ ∀ i m H, W i m H →
  (J.stop i H ∧ Q (.ref D) H) ∨ (J.go i H ∧ ∃ Nx : Hp → Prop, (∀ H', Nx H' → ∃ m', m' < m ∧ W (i + 1) m' H') ∧ ∀ x H', J.yld i H x H' → g x (wipe σ vs) H' fun σ2 H2 => wipe σ2 vs = wipe σ vs ∧ tt σ2 H2 fun b H3 =>
    if b = true then tk σ2 H3 fun y H4 => tv σ2 H4 fun z H5 => ∃ kvs k, y = kV k ∧ H5 D = some (.dK kvs) ∧ kvs.length < sizeLine ∧ Nx (upd H5 D (.dK (putK kvs k z))) else Nx H3)
theorem i_dcA0 {vs : List Nat} (h : tl σ H (fun x H1 => rDcA K g tt tk tv vs σ Q x H1)) : tDc (iAny K tl) g tt tk tv vs σ H Q := h
theorem i_dcA {vs : List Nat} (Pv : Addr → Nat → List (Key × V) → Hp → Prop) (s : SqA K H0 a xs) (s0 : Same H0 H) (h0 : ∀ D H', H D = none → Same H H' → H' D = some (.dK []) → (∀ b, b ≠ D → H' b = H b) → Pv D 0 [] H')
    (hl : ∀ D i ys H1, Pv D i ys H1 → Same H0 H1)
    (hs : ∀ i x D kvs H1, H D = none → xs[i]? = some x → H1 D = some (.dK kvs) → Pv D i kvs H1 → g x (wipe σ vs) H1 fun σ2 H2 => wipe σ2 vs = wipe σ vs ∧ tt σ2 H2 fun b H3 => if b = true then tk σ2 H3 fun y H4 => tv σ2 H4 fun z H5 => rDcE D (Pv D) i y z H5 else DcS D (Pv D) (i + 1) H3)
    (hd : ∀ D kvs H1, H D = none → H1 D = some (.dK kvs) → Pv D xs.length kvs H1 → Q (.ref D) H1) : rDcA K g tt tk tv vs σ Q (.ref a) H := by
  refine ⟨a, xs, rfl, .intro s s0 fun J G w hG D hD => ⟨fun i m H => m = xs.length - i ∧ i ≤ xs.length ∧ DcS D (Pv D) i H, ⟨xs.length, by simp, Nat.zero_le _, [], upd_same, h0 D _ hD (fun b o e => by rw [upd_ne (ne_of_none e hD)]; exact e) upd_same (fun b hb => upd_ne hb)⟩, ?_⟩⟩
  rintro i m H' ⟨rfl, hi, kvs, hD', p⟩
  have q := hG _ (hl D i kvs H' p)
  by_cases hlt : i < xs.length
  · refine .inr ⟨w.goes i H' hlt q, DcS D (Pv D) (i + 1), fun H'' p' => ⟨xs.length - (i + 1), by omega, rfl, hlt, p'⟩, fun x H'' y => ?_⟩
    obtain ⟨rfl, e⟩ := w.yields i H' x H'' hlt q y
    exact hs i x D kvs _ hD e hD' p
  · have e : i = xs.length := by omega
    subst e
    exact .inl ⟨w.stops H' q, hd D kvs H' hD hD' p⟩
/-! dicts -/
def rDGet (x y : V) (H2 : Hp) (Q : VK) : Prop := ∃ a v, x = .ref a ∧ DGet H2 a y (some v) ∧ Q v H2
theorem i_dget0 (h : td σ H (fun x H1 => ty σ H1 (fun y H2 => rDGet x y H2 Q))) : tDGet td ty σ H Q := h
theorem i_dget {kvs : List (Key × V)} {z : Str} {v : V} (e : H a = some (.dK kvs)) (l : valV kvs (.inr z) = some v) (h : Q v H) : rDGet (.ref a) (.str z) H Q := ⟨a, v, rfl, by rw [← l]; exact DGet.k (k := .inr z) e, h⟩
def rDIn (y x : V) (H2 : Hp) (Q : VK) : Prop := ∃ a o, x = .ref a ∧ DGet H2 a y o ∧ Q (.bl o.isSome) H2
theorem i_din0 (h : ty σ H (fun y H1 => td σ H1 (fun x H2 => rDIn y x H2 Q))) : tDIn ty td σ H Q := h
theorem i_din {kvs : List (Key × V)} {z : Str} {b : Bool} (e : H a = some (.dK kvs)) (l : (valV kvs (.inr z)).isSome = b) (h : Q (.bl b) H) : rDIn (.str z) (.ref a) H Q := ⟨a, _, rfl, DGet.k (k := .inr z) e, by rw [l]; exact h⟩
def rDPut (v x y : V) (H3 : Hp) (P : Hp → Prop) : Prop := ∃ a H4, x = .ref a ∧ DPut H3 a y v H4 ∧ P H4
theorem i_dput0 (h : tv σ H (fun v H1 => td σ H1 (fun x H2 => ty σ H2 (fun y H3 => rDPut v x y H3 (fun H4 => D.nx σ H4))))) : sDPut td ty tv D σ H := h
theorem i_dput {kvs : List (Key × V)} {z : Str} {v : V} {P : Hp → Prop} (e : H a = some (.dK kvs)) (l : kvs.length < 100000) (h : ∀ H4, H4 a = some (.dK (putK kvs (.inr z) v)) → (∀ b, b ≠ a → H4 b = H b) → P H4) : rDPut v (.ref a) (.str z) H P :=
  ⟨a, _, rfl, DPut.k (k := .inr z) e (Nat.lt_of_lt_of_le l (by decide)), h _ upd_same fun b hb => upd_ne hb⟩
/-- the merge of two dicts -/
def rMg2 (p : Addr) (kvs : List (Key × V)) (y : V) (H2 : Hp) (Q : VK) : Prop := ∃ b ls, y = .ref b ∧ p ≠ b ∧ H2 b = some (.dK ls) ∧ H2 p = some (.dK kvs) ∧ ls.length ≤ 1000 ∧ Q (.ref p) (upd H2 p (.dK (mergeK kvs ls)))
def rMg1 (p : Addr) (t2 : TE) (σ : L2.St) (x : V) (H1 : Hp) (Q : VK) : Prop := ∃ a ks, x = .ref a ∧ p ≠ a ∧ H1 a = some (.dK ks) ∧ H1 p = some (.dK []) ∧ ks.length ≤ 1000 ∧ t2 σ (upd H1 p (.dK (mergeK [] ks))) fun y H2 => rMg2 p (mergeK [] ks) y H2 Q
theorem i_mg0 {t1 t2 : TE} (h : ∀ p H1, H p = none → Same H H1 → H1 p = some (.dK []) → (∀ b, b ≠ p → H1 b = H b) → t1 σ H1 fun x H2 => rMg1 p t2 σ x H2 Q) : tMerge2 t1 t2 σ H Q :=
  fun p hp => h p _ hp (fun b o e => by rw [upd_ne (ne_of_none e hp)]; exact e) upd_same fun b hb => upd_ne hb
theorem i_mg1 {p : Addr} {ks : List (Key × V)} {t2 : TE} (ne : p ≠ a) (e : H a = some (.dK ks)) (ep : H p = some (.dK [])) (l : ks.length ≤ 1000) (h : ∀ H2, H2 p = some (.dK (mergeK [] ks)) → (∀ b, b ≠ p → H2 b = H b) → t2 σ H2 fun y H3 => rMg2 p (mergeK [] ks) y H3 Q) : rMg1 p t2 σ (.ref a) H Q :=
  ⟨a, ks, rfl, ne, e, ep, l, h _ upd_same fun b hb => upd_ne hb⟩
theorem i_mg2 {p : Addr} {kvs ls : List (Key × V)} (ne : p ≠ a) (e : H a = some (.dK ls)) (ep : H p = some (.dK kvs)) (l : ls.length ≤ 1000) (h : ∀ H2, H2 p = some (.dK (mergeK kvs ls)) → (∀ b, b ≠ p → H2 b = H b) → Q (.ref p) H2) : rMg2 p kvs (.ref a) H Q :=
  ⟨a, ls, rfl, ne, e, ep, l, h _ upd_same fun b hb => upd_ne hb⟩
/-- a display of one pair -/
theorem i_disp1 {tk tv : TE} (h : ∀ p H1, H p = none → Same H H1 → H1 p = some (.dK []) → (∀ b, b ≠ p → H1 b = H b) → tk σ H1 fun x H2 => tv σ H2 fun y H3 => H3 p = some (.dK []) ∧ ∃ z : Str, x = .str z ∧ ∀ H4, H4 p = some (.dK [(.inr z, y)]) → (∀ b, b ≠ p → H4 b = H3 b) → Q (.ref p) H4)
    (mono : ∀ (P P' : VK), (∀ x H, P x H → P' x H) → ∀ σ H, tk σ H P → tk σ H P') (mono2 : ∀ (P P' : VK), (∀ x H, P x H → P' x H) → ∀ σ H, tv σ H P → tv σ H P') : tDisp [(tk, tv)] σ H Q := by
  intro p hp
  refine mono _ _ (fun x H2 q => mono2 _ _ (fun y H3 q2 => ?_) _ _ q) _ _ (h p _ hp (fun b o e => by rw [upd_ne (ne_of_none e hp)]; exact e) upd_same fun b hb => upd_ne hb)
  obtain ⟨e, z, rfl, k⟩ := q2
  exact ⟨e, [(.inr z, y)], rfl, (by show 1 ≤ 15; decide), k _ upd_same fun b hb => upd_ne hb⟩
/-! comprehensions with two fors -/
def rLcIn (K : PySem.W.Frag) (D : Addr) (N : Hp → Prop) (g1 : TG) (tt1 : TT) (te : TE) (vs1 : List Nat) (σ2 : L2.St) (x1 : V) (H4 : Hp) : Prop := ∃ a xs, x1 = .ref a ∧ WkA K H4 a xs (YAt xs) fun J1 => ∃ W1 : Nat → Nat → Hp → Prop, (∃ m, W1 0 m H4) ∧ ∀ j k H, W1 j k H →
  (J1.stop j H ∧ N H) ∨ (J1.go j H ∧ ∃ Nx1 : Hp → Prop, (∀ H', Nx1 H' → ∃ k', k' < k ∧ W1 (j + 1) k' H') ∧ ∀ x H', J1.yld j H x H' → g1 x (wipe σ2 vs1) H' fun σ3 H5 => wipe σ3 vs1 = wipe σ2 vs1 ∧ tt1 σ3 H5 fun b H6 =>
    if b = true then te σ3 H6 fun y H7 => ∃ acc, H7 D = some (.lst acc) ∧ acc.length < sizeLine ∧ Nx1 (upd H7 D (.lst (acc ++ [y]))) else Nx1 H6)
def rLc2A (K : PySem.W.Frag) (g : TG) (tt : TT) (tl1 : TE) (g1 : TG) (tt1 : TT) (te : TE) (vs vs1 : List Nat) (σ : L2.St) (Q : VK) (x : V) (H1 : Hp) : Prop := ∃ a xs, x = .ref a ∧ WkA K H1 a xs (YAt xs) fun J => ∀ D, H1 D = none → ∃ W : Nat → Nat → Hp → Prop, (∃ m, W 0 m (upd H1 D (.lst []))) ∧ ∀ i m H, W i m H →
  (J.stop i H ∧ Q (.ref D) H) ∨ (J.go i H ∧ ∃ Nx : Hp → Prop, (∀ H', Nx H' → ∃ m', m' < m ∧ W (i + 1) m' H') ∧ ∀ x H', J.yld i H x H' → g x (wipe σ vs) H' fun σ2 H2 => wipe σ2 vs = wipe σ vs ∧ tt σ2 H2 fun b H3 =>
    if b = true then tl1 σ2 H3 fun x1 H4 => rLcIn K D Nx g1 tt1 te vs1 σ2 x1 H4 else Nx H3)
theorem i_lc2A0 {tl1 : TE} {vs vs1 : List Nat} (h : tl σ H (fun x H1 => rLc2A K g tt tl1 g1 tt1 te vs vs1 σ Q x H1)) : tLc2 (iAny K tl) g tt (iAny K tl1) g1 tt1 te vs vs1 σ H Q := h
theorem i_lcIn {D : Addr} {Pv Pw : Nat → List V → Hp → Prop} {i : Nat} {vs1 : List Nat} {ys : List V} (s : SqA K H0 a xs) (e : H D = some (.lst ys)) (h0 : Pw 0 ys H) (hl : ∀ j ys H1, Pw j ys H1 → Same H0 H1)
    (hs : ∀ j x ys H1, xs[j]? = some x → H1 D = some (.lst ys) → Pw j ys H1 → g1 x (wipe σ vs1) H1 fun σ3 H5 => wipe σ3 vs1 = wipe σ vs1 ∧ tt1 σ3 H5 fun b H6 => if b = true then te σ3 H6 fun y H7 => rLcE D Pw j y H7 else LcS D Pw (j + 1) H6)
    (hd : ∀ ys H1, H1 D = some (.lst ys) → Pw xs.length ys H1 → Pv (i + 1) ys H1) : rLcIn K D (LcS D Pv (i + 1)) g1 tt1 te vs1 σ (.ref a) H := by
  refine ⟨a, xs, rfl, .intro s (hl _ _ _ h0) fun J G w hG => ⟨fun j k H => k = xs.length - j ∧ j ≤ xs.length ∧ LcS D Pw j H, ⟨xs.length, by simp, Nat.zero_le _, ys, e, h0⟩, ?_⟩⟩
  rintro j k H' ⟨rfl, hj, zs, hD, p⟩
  have q := hG _ (hl j zs H' p)
  by_cases hlt : j < xs.length
  · refine .inr ⟨w.goes j H' hlt q, LcS D Pw (j + 1), fun H'' p' => ⟨xs.length - (j + 1), by omega, rfl, hlt, p'⟩, fun x H'' y => ?_⟩
    obtain ⟨rfl, e⟩ := w.yields j H' x H'' hlt q y
    exact hs j x zs _ e hD p
  · have e : j = xs.length := by omega
    subst e
    exact .inl ⟨w.stops H' q, zs, hD, hd zs H' hD p⟩
theorem i_lc2A {tl1 : TE} {vs vs1 : List Nat} (Pv : Nat → List V → Hp → Prop) (s : SqA K H0 a xs) (s0 : Same H0 H) (h0 : ∀ D H', H D = none → Same H H' → H' D = some (.lst []) → (∀ b, b ≠ D → H' b = H b) → Pv 0 [] H')
    (hl : ∀ i ys H1, Pv i ys H1 → Same H0 H1)
    (hs : ∀ i x D ys H1, H D = none → xs[i]? = some x → H1 D = some (.lst ys) → Pv i ys H1 → g x (wipe σ vs) H1 fun σ2 H2 => wipe σ2 vs = wipe σ vs ∧ tt σ2 H2 fun b H3 => if b = true then tl1 σ2 H3 fun x1 H4 => rLcIn K D (LcS D Pv (i + 1)) g1 tt1 te vs1 σ2 x1 H4 else LcS D Pv (i + 1) H3)
    (hd : ∀ D ys H1, H D = none → H1 D = some (.lst ys) → Pv xs.length ys H1 → Q (.ref D) H1) : rLc2A K g tt tl1 g1 tt1 te vs vs1 σ Q (.ref a) H := by
  refine ⟨a, xs, rfl, .intro s s0 fun J G w hG D hD => ⟨fun i m H => m = xs.length - i ∧ i ≤ xs.length ∧ LcS D Pv i H, ⟨xs.length, by simp, Nat.zero_le _, [], upd_same, h0 D _ hD (fun b o e => by rw [upd_ne (ne_of_none e hD)]; exact e) upd_same (fun b hb => upd_ne hb)⟩, ?_⟩⟩
  rintro i m H' ⟨rfl, hi, ys, hD', p⟩
  have q := hG _ (hl i ys H' p)
  by_cases hlt : i < xs.length
  · refine .inr ⟨w.goes i H' hlt q, LcS D Pv (i + 1), fun H'' p' => ⟨xs.length - (i + 1), by omega, rfl, hlt, p'⟩, fun x H'' y => ?_⟩
    obtain ⟨rfl, e⟩ := w.yields i H' x H'' hlt q y
    exact hs i x D ys _ hD e hD' p
  · have e : i = xs.length := by omega
    subst e
    exact .inl ⟨w.stops H' q, hd D ys H' hD hD' p⟩
end
end Z

set_option Elab.async false
set_option linter.all false
set_option maxRecDepth 100000
set_option maxHeartbeats 4000000
/-! more readings: lists and tuples of texts -/
namespace Z
open PySem PySem.Spec PyProof.Rows L2
theorem same_new {H : Hp} {p : Addr} {o : HO} (hp : H p = none) : Same H (upd H p o) := fun b q e => by rw [upd_ne (ne_of_none e hp)]; exact e
section
variable {X : Cx} {K : PySem.W.Frag}
theorem k_inS (hK : X.K = K) : OpR X (compareOp .In) (rIn K false) := by subst hK; exact op_in_seq
theorem k_notInS (hK : X.K = K) : OpR X (compareOp .NotIn) (rIn K true) := by subst hK; exact op_notIn_seq
theorem k_inD (hK : X.K = K) (hu : X.A.units + 65 < cLine) : OpR X (compareOp .In) (rInD K) := by subst hK; exact op_inD hu
theorem k_slA (hK : X.K = K) : SlR X (fun x lo hi H Q => rSlL K x lo hi H Q ∨ rSlT K x lo hi H Q) := by subst hK; exact sl_list.or sl_tup
def rListA (K : PySem.W.Frag) : List V → Hp → VK → Prop := fun xs H Q => ∃ p ys, xs = [.ref p] ∧ (SqL K H p ys ∨ SqT K H p ys) ∧ ∀ l, H l = none → Q (.ref l) (upd H l (.lst ys))
theorem k_listA (hK : X.K = K) : CallR X (.type "list") (rListA K) := by subst hK; exact call_list_of
def rTupA (K : PySem.W.Frag) : List V → Hp → VK → Prop := fun xs H Q => ∃ p ys, xs = [.ref p] ∧ ((SqL K H p ys ∧ ∀ l, H l = none → Q (.ref l) (upd H l (.tup ys))) ∨ (SqT K H p ys ∧ Q (.ref p) H))
theorem k_tupA (hK : X.K = K) : CallR X (.type "tuple") (rTupA K) := by subst hK; exact call_tuple_of
theorem k_sort (hK : X.K = K) : CallR X (.builtin "sorted") (rSortST K) := by subst hK; exact cr_sortST
theorem k_iterT (hK : X.K = K) : CallR X (.builtin "iter") (rIterT K) := by subst hK; exact cr_iterT
theorem k_eqDD (hK : X.K = K) (hu : X.A.units + 66 < cLine) : OpR X (compareOp .Eq) (rEqDD K) := by subst hK; exact op_eqDD hu
theorem k_any (hK : X.calm = true) (hK2 : X.K = K) : CallR X (.builtin "any") (rAny K) := by subst hK2; exact cr_any hK
theorem k_all (hK : X.calm = true) (hK2 : X.K = K) : CallR X (.builtin "all") (rAll K) := by subst hK2; exact cr_all hK
theorem k_listOwn {C : Addr} {j : Nat} {spI spL : Sp} {kI kL : Nat} (hK : X.K = K) (hc : X.calm = true) (cI : CalO X.prog X.w X.K X.mg X.base C "__iter__" kI spI) (cL : CalO X.prog X.w X.K X.mg X.base C "__len__" kL spL) (hr : Room j X.A) (hI : kI + 2 ≤ j := by decide) (hL : kL + 3 ≤ j := by decide) :
    CallR X (.type "list") (rListOwn K C spI spL) := by subst hK; exact z_listOwn hc cI cL hr hI hL
/-- the truth of any value -/
def tTruA (K : PySem.W.Frag) (ta : TE) : TT := fun σ H Q => ta σ H fun x H' => ∃ k, TruV K x H' k ∧ Q k H'
theorem k_truth {a : Expr} {ta : TE} (hK : X.K = K) (ha : PE X a ta) (he : ∀ whole, isTrue a X.env whole = (do let v ← whole; standAt a.pos; holding [v] (truthy v))) : PT X a (tTruA K ta) := by subst hK; exact pt_truth ha he
/-- a dict's own pairs, copied -/
def rDictD : List V → Hp → VK → Prop := fun xs H Q => ∃ (a : Addr) (kvs : List (Key × V)), xs = [.ref a] ∧ Rd H a (.dK kvs) ∧ ∀ p, H p = none → Q (.ref p) (upd H p (.dK kvs))
theorem k_dictD : CallR X (.type "dict") rDictD := call_dictD
def rSortD : List V → Hp → VK → Prop := fun xs H Q => ∃ (a : Addr) (kvs : List (Key × V)) (ks : List Str), xs = [.ref a] ∧ Rd H a (.dK kvs) ∧ kvs.map (·.1) = ks.map Sum.inr ∧ ks.length < 64 ∧
    ∀ ys p, ys.Perm ks → sortedS ys = true → H p = none → Q (.ref p) (upd H p (.lst (ys.map V.str)))
theorem k_sortD (hc : X.calm = true) : CallR X (.builtin "sorted") rSortD := call_sortedD hc
end
section
variable {K : PySem.W.Frag} {σ : L2.St} {H : Hp} {D : Ends} {te ta : TE} {Q : VK} {QB : Bool → Hp → Prop} {a p : Addr} {xs ys : List V} {zs : List Str} {x y : Str}
theorem flat_strs : ∀ zs : List Str, (zs.map V.str).all flatV = true
  | [] => rfl
  | z :: zs => by
    rw [List.map_cons, List.all_cons, flat_strs zs]
    rfl
theorem inV_strs : ∀ (zs : List Str) (x : Str), inV (.str x) (zs.map V.str) = decide (x ∈ zs)
  | [], x => by simp [inV]
  | z :: zs, x => by
    have ih := inV_strs zs x
    unfold inV at ih ⊢
    rw [List.map_cons, List.any_cons, ih]
    have e : eqV (.str z) (.str x) = decide (z = x) := by
      show (z == x) = decide (z = x)
      rfl
    rw [e]
    by_cases h : z = x
    · subst h
      simp
    · have : ¬ x = z := fun e => h e.symm
      simp [h, this]
theorem i_inS (s : SqA K H p (zs.map V.str)) (h : Q (.bl (decide (x ∈ zs))) H) : rIn K false (.str x) (.ref p) H Q := ⟨p, _, rfl, s, rfl, flat_strs zs, by rw [inV_strs]; exact h⟩
theorem i_notInS (s : SqA K H p (zs.map V.str)) (h : Q (.bl (!decide (x ∈ zs))) H) : rIn K true (.str x) (.ref p) H Q := ⟨p, _, rfl, s, rfl, flat_strs zs, by rw [inV_strs]; exact h⟩
theorem i_lenA (s : SqA K H p xs) (h : Q (.int xs.length) H) : rLen K [.ref p] H Q := s.elim (fun s => i_lenL s h) fun s => i_lenT s h
theorem i_tru0 (h : ta σ H (fun x H1 => ∃ k, TruV K x H1 k ∧ QB k H1)) : tTruA K ta σ H QB := h
theorem i_truL {b : Bool} (s : SqA K H p xs) (e : (!xs.isEmpty) = b) (h : QB b H) : ∃ k, TruV K (.ref p) H k ∧ QB k H := ⟨b, s.elim (fun s => .inl ⟨xs, s, e.symm⟩) fun s => .inr (.inl ⟨xs, s, e.symm⟩), h⟩
theorem i_listA (s : SqA K H p ys) (h : ∀ l H', H l = none → Same H H' → H' l = some (.lst ys) → (∀ b, b ≠ l → H' b = H b) → Q (.ref l) H') : rListA K [.ref p] H Q := ⟨p, ys, rfl, s, fun l hl => h l _ hl (same_new hl) upd_same fun b hb => upd_ne hb⟩
theorem i_tupL (s : SqL K H p ys) (h : ∀ l H', H l = none → Same H H' → H' l = some (.tup ys) → (∀ b, b ≠ l → H' b = H b) → Q (.ref l) H') : rTupA K [.ref p] H Q := ⟨p, ys, rfl, .inl ⟨s, fun l hl => h l _ hl (same_new hl) upd_same fun b hb => upd_ne hb⟩⟩
theorem i_tupA (s : SqA K H p ys) (h : ∀ l H', Same H H' → SqT K H' l ys → (∀ b, H b ≠ none → H' b = H b) → Q (.ref l) H') : rTupA K [.ref p] H Q := by
  rcases s with s | s
  · exact i_tupL s fun l H' hl sm e ho => h l H' sm (.of e) fun b hb => ho b fun z => hb (z ▸ hl)
  · exact ⟨p, ys, rfl, .inr ⟨s, h p H (Same.refl _) s fun _ _ => rfl⟩⟩
theorem i_sort (s : SqA K H p (zs.map V.str)) (l : zs.length < 64) (h : ∀ q H', H q = none → Same H H' → (∀ b, b ≠ q → H' b = H b) → H' q = some (.lst ((srt zs).map V.str)) → Q (.ref q) H') : rSortST K [.ref p] H Q := ⟨p, zs, rfl, s, l, h⟩
theorem i_sortD {kvs : List (Key × V)} (e : H a = some (.dK kvs)) (k : kvs.map (·.1) = zs.map Sum.inr) (l : zs.length < 64) (h : ∀ q H', H q = none → Same H H' → (∀ b, b ≠ q → H' b = H b) → H' q = some (.lst ((srt zs).map V.str)) → Q (.ref q) H') : rSortD [.ref a] H Q :=
  ⟨a, kvs, zs, rfl, .inl e, k, l, fun ys q hp hs hq => by obtain rfl := srt_eq hp hs; exact h q _ hq (same_new hq) (fun b hb => upd_ne hb) upd_same⟩
theorem i_iterT {t : Addr} (s : SqT K H t ys) (h : ∀ q, H q = none → Q (.ref q) (upd H q (TupIt q t 0))) : rIterT K [.ref t] H Q := ⟨t, ys, rfl, s, h⟩
/-- xs[:j], j below the length -/
theorem cut_to (xs : List V) (j : Nat) : cutV xs none (some (j : Int)) = xs.take j := by
  unfold cutV
  rw [HT.sIx_none, HT.sIx_nat, List.drop_zero, Nat.sub_zero]
  by_cases h : j ≤ xs.length
  · rw [Nat.min_eq_left h]
  · rw [Nat.min_eq_right (by omega), List.take_length, List.take_of_length_le (by omega)]
theorem i_slTo {j : Nat} (s : SqA K H a xs) (hj : j < xs.length) (h : ∀ q H2, H q = none → Same H H2 → SqA K H2 q (xs.take j) → (∀ b, b ≠ q → H2 b = H b) → Q (.ref q) H2) : (rSlL K (.ref a) none (some (j : Int)) H Q ∨ rSlT K (.ref a) none (some (j : Int)) H Q) := by
  rcases s with s | s
  · exact .inl ⟨a, xs, rfl, s, fun q hq => by rw [cut_to]; exact h q _ hq (same_new hq) (.l upd_same) fun b hb => upd_ne hb⟩
  · refine .inr ⟨a, xs, rfl, s, ?_, fun q hq => by rw [cut_to]; exact h q _ hq (same_new hq) (.t upd_same) fun b hb => upd_ne hb⟩
    rintro ⟨_, e⟩
    rw [HT.sIx_nat, Nat.min_eq_left (by omega)] at e
    omega
/-- {x!r} -/
def rFmtR (x : V) (H1 : Hp) (Q : VK) : Prop := (∃ y : Str, x = .str y ∧ (reprText y).length ≤ sizeLine ∧ Q (.str (reprText y)) H1) ∨ ∃ i : Int, x = .int i ∧ i.natAbs.log2 < 1920 ∧ Q (.str (toString i)) H1
theorem i_fmtR (h : te σ H (fun x H1 => rFmtR x H1 Q)) : tFmtR te σ H Q := h
theorem i_fmtRS (l : (reprText y).length ≤ 100000) (h : Q (.str (reprText y)) H) : rFmtR (.str y) H Q := .inl ⟨y, rfl, Nat.le_trans l (by decide), h⟩
/-! lists changed -/
theorem i_bm0 {T : String} {r : V → List V → Hp → VK → Prop} (h : te σ H (fun x H1 => tyV K T x H1 ∧ r x [] H1 Q)) : tBM0 K T r te σ H Q := h
theorem ix_seq {n k : Nat} (h : k < n) : seqIndex? (k : Int) n = some k := by
  have := ixN_seq (ixN_n h)
  exact this.1
theorem i_popAt {k : Nat} {v : V} (e : H p = some (.lst xs)) (l : xs.length ≤ 100000) (hk : xs[k]? = some v) (h : ∀ H2, H2 p = some (.lst (xs.eraseIdx k)) → (∀ b, b ≠ p → H2 b = H b) → Q v H2) : rPopAt (.ref p) [.int (k : Nat)] H Q := by
  have lt := (List.getElem?_eq_some_iff.mp hk).1
  exact ⟨p, xs, k, k, v, rfl, rfl, e, by omega, by omega, ix_seq lt, hk, h _ upd_same fun b hb => upd_ne hb⟩
theorem i_clear (e : H p = some (.lst xs)) (h : ∀ H2, H2 p = some (.lst []) → (∀ b, b ≠ p → H2 b = H b) → Q .non H2) : rClear (.ref p) [] H Q := ⟨p, xs, rfl, rfl, e, h _ upd_same fun b hb => upd_ne hb⟩
/-! data -/
theorem dp_strs : ∀ zs : List Str, DpAll K H (zs.map V.str) (zs.map PyData.str)
  | [] => .nil
  | z :: zs => .cons (.str z) (dp_strs zs)
theorem eqv_strs : ∀ zs ws : List Str, PyData.eqvAll (zs.map PyData.str) (ws.map PyData.str) = decide (zs = ws)
  | [], [] => rfl
  | [], _ :: _ => rfl
  | _ :: _, [] => rfl
  | z :: zs, w :: ws => by
    show (PyData.eqv (.str z) (.str w) && PyData.eqvAll _ _) = _
    rw [eqv_strs zs ws]
    show ((z == w) && _) = _
    by_cases h1 : z = w <;> by_cases h2 : zs = ws <;> simp [h1, h2]
end
end Z

set_option Elab.async false
set_option linter.all false
set_option maxRecDepth 100000
set_option maxHeartbeats 4000000
/-! orders in the heap; promises of the defs about them -/
namespace Z
open PySem PySem.Spec PyProof.Rows L2
theorem u65 {A : Around} {k : Nat} (hr : Room k A) : A.units + 65 < cLine := by have := hr.un; omega
theorem u66 {A : Around} {k : Nat} (hr : Room k A) : A.units + 66 < cLine := by have := hr.un; omega
/-- this promise is never asked -/
def spNo2 : Sp := fun vs _ _ _ => vs.length = 2 ∧ False
/-! ### words -/
def let_ (c : Nat) : Bool := decide (97 ≤ c ∧ c ≤ 122)
def nameL (l : List Nat) : Bool := decide (1 ≤ l.length ∧ l.length ≤ 8) && (l.head?.any let_ && l.all fun c => let_ c || ZS.dig c)
def nameB (z : Str) : Bool := nameL (TL.tl z)
theorem nameB_len {z : Str} (h : nameB z = true) : z.length ≤ 8 := by
  unfold nameB nameL at h
  rw [Bool.and_eq_true] at h
  have := of_decide_eq_true h.1
  have e := TL.len_tl z
  omega
theorem nameB_ok {z : Str} (h : nameB z = true) : PyData.strOk z = true := by
  unfold nameB nameL at h
  rw [Bool.and_eq_true, Bool.and_eq_true] at h
  have h2 := List.all_eq_true.mp h.2.2
  unfold PyData.strOk
  rw [← Array.all_toList, List.all_eq_true]
  intro c hc
  have := h2 c hc
  unfold let_ ZS.dig at this
  simp at this ⊢
  omega
def spIsName : Sp := fun vs H Q _ => vs.length = 1 ∧ ∃ z : Str, vs = [.str z] ∧ z.length ≤ 100000 ∧ ∀ H', Same H H' → Q (.bl (nameB z)) H'
def spCheckN (K : PySem.W.Frag) : Sp := fun vs H Q _ => vs.length = 1 ∧ ∃ (a : Addr) (zs : List Str), vs = [.ref a] ∧ SqA K H a (zs.map V.str) ∧ zs.length ≤ 60 ∧ (∀ z ∈ zs, nameB z = true) ∧ zs.Nodup ∧ ∀ H', Same H H' → Q .non H'
/-- a text whose printed form is not too long -/
def RB (z : Str) : Prop := (reprText z).length ≤ 10000
def GStr : V → Hp → Prop := fun v _ => ∃ z : Str, v = .str z ∧ RB z
/-- an error's own name -/
def EName (CU : Addr) (z : Str) (H : Hp) (E : XK) : Prop := ∀ d H', Same H H' → H' d = some (.xd [("name", .str z)]) → E (.ref CU) (some d) H'
def miss (ks zs : List Str) : Option Str := zs.find? fun z => !decide (z ∈ ks)
def spAmong (K : PySem.W.Frag) (CU : Addr) : Sp := fun vs H Q E => vs.length = 2 ∧ ∃ (a b : Addr) (ks zs : List Str), vs = [.ref a, .ref b] ∧ SqA K H a (ks.map V.str) ∧ SqA K H b (zs.map V.str) ∧
  (∀ z, miss ks zs = some z → RB z ∧ EName CU z H E) ∧ (miss ks zs = none → ∀ H', Same H H' → Q .non H')
theorem miss_none {ks zs : List Str} (h : ∀ z ∈ zs, z ∈ ks) : miss ks zs = none := by
  unfold miss
  rw [List.find?_eq_none]
  intro z hz
  simp [h z hz]
section
variable {K : PySem.W.Frag} {CU a b : Addr} {H : Hp} {Q : VK} {E : XK} {ks zs : List Str} {z : Str}
theorem i_isName (hz : z.length ≤ 100000) (h : ∀ H', Same H H' → Q (.bl (nameB z)) H') : spIsName [.str z] H Q E := ⟨rfl, z, rfl, hz, h⟩
theorem i_checkN (s : SqA K H a (zs.map V.str)) (l : zs.length ≤ 60) (n : ∀ z ∈ zs, nameB z = true) (d : zs.Nodup) (h : ∀ H', Same H H' → Q .non H') : spCheckN K [.ref a] H Q E := ⟨rfl, a, zs, rfl, s, l, n, d, h⟩
theorem i_among (s : SqA K H a (ks.map V.str)) (t : SqA K H b (zs.map V.str)) (m : ∀ z ∈ zs, z ∈ ks) (h : ∀ H', Same H H' → Q .non H') : spAmong K CU [.ref a, .ref b] H Q E := by
  refine ⟨rfl, a, b, ks, zs, rfl, s, t, ?_, fun _ => h⟩
  intro z hz
  rw [miss_none m] at hz
  cases hz
end
/-! ### pairs and orders in the heap -/
/-- tuples of two texts -/
def PrT (K : PySem.W.Frag) (H : Hp) (ps : List V) (E : List (Str × Str)) : Prop := ps.length = E.length ∧ ∀ (i : Nat) (p : V) (e : Str × Str), ps[i]? = some p → E[i]? = some e → ∃ q, p = .ref q ∧ SqT K H q [.str e.1, .str e.2]
def PrA (K : PySem.W.Frag) (H : Hp) (b : Addr) (E : List (Str × Str)) : Prop := ∃ ps, SqA K H b ps ∧ PrT K H ps E
theorem PrT.mono {K : PySem.W.Frag} {H H' : Hp} {ps : List V} {E : List (Str × Str)} (s : Same H H') (h : PrT K H ps E) : PrT K H' ps E :=
  ⟨h.1, fun i p e hp he => let ⟨q, e1, e2⟩ := h.2 i p e hp he; ⟨q, e1, Same_seqT s e2⟩⟩
theorem PrA.mono {K : PySem.W.Frag} {H H' : Hp} {b : Addr} {E : List (Str × Str)} (s : Same H H') (h : PrA K H b E) : PrA K H' b E := let ⟨ps, h1, h2⟩ := h; ⟨ps, sameA s h1, h2.mono s⟩
theorem PrT.nil {K : PySem.W.Frag} {H : Hp} : PrT K H [] [] := ⟨rfl, fun i p e hp => by simp at hp⟩
theorem PrT.snoc {K : PySem.W.Frag} {H : Hp} {ps : List V} {E : List (Str × Str)} {q : Addr} {a b : Str} (h : PrT K H ps E) (e : SqT K H q [.str a, .str b]) : PrT K H (ps ++ [.ref q]) (E ++ [(a, b)]) := by
  refine ⟨by rw [List.length_append, List.length_append, h.1]; rfl, fun i p e' hp he => ?_⟩
  by_cases lt : i < ps.length
  · rw [List.getElem?_append_left lt] at hp
    rw [List.getElem?_append_left (by rw [← h.1]; exact lt)] at he
    exact h.2 i p e' hp he
  · rw [List.getElem?_append_right (by omega)] at hp
    rw [List.getElem?_append_right (by rw [← h.1]; omega), ← h.1] at he
    cases hk : i - ps.length with
    | zero =>
      rw [hk] at hp he
      cases hp
      cases he
      exact ⟨q, rfl, e⟩
    | succ n =>
      rw [hk] at hp
      simp at hp
/-- an order at a: its names ascending, what is above each -/
def rowsOf (N : List Str) (A : Str → Addr) : List (Key × V) := N.map fun n => (.inr n, .ref (A n))
def OTab (H : Hp) (d : Addr) (N : List Str) (R : Str → Str → Bool) : Prop := ∃ A, H d = some (.dK (rowsOf N A)) ∧ ∀ n ∈ N, H (A n) = some (.tup ((OM.ab N R n).map V.str))
def IsO (CO : Addr) (H : Hp) (a : Addr) (N : List Str) (R : Str → Str → Bool) : Prop := ∃ dx t d, H a = some (.ins CO dx [("names", .ref t), ("_above", .ref d)]) ∧ H t = some (.tup (N.map V.str)) ∧ OTab H d N R ∧ N.length ≤ 8 ∧ N.Nodup ∧ ∀ n ∈ N, nameB n = true
theorem OTab.mono {H H' : Hp} {d : Addr} {N : List Str} {R : Str → Str → Bool} (s : Same H H') (h : OTab H d N R) : OTab H' d N R := let ⟨A, h1, h2⟩ := h; ⟨A, s _ _ h1, fun n hn => s _ _ (h2 n hn)⟩
theorem IsO.mono {CO : Addr} {H H' : Hp} {a : Addr} {N : List Str} {R : Str → Str → Bool} (s : Same H H') (h : IsO CO H a N R) : IsO CO H' a N R :=
  let ⟨dx, t, d, h1, h2, h3, h4⟩ := h; ⟨dx, t, d, s _ _ h1, s _ _ h2, h3.mono s, h4⟩
theorem rows_val {A : Str → Addr} {n : Str} : ∀ {N : List Str}, n ∈ N → valV (rowsOf N A) (.inr n) = some (.ref (A n))
  | m :: N, h => by
    by_cases e : m = n
    · subst e
      exact valV_pos rfl
    · have hm : n ∈ N := by
        rcases List.mem_cons.mp h with h | h
        · exact absurd h.symm e
        · exact h
      have := rows_val (A := A) hm
      unfold rowsOf at this ⊢
      rw [List.map_cons, valV_neg (fun z => e (Sum.inr.inj z))]
      exact this
def spClosure (K : PySem.W.Frag) : Sp := fun vs H Q _ => vs.length = 2 ∧ ∃ (a b : Addr) (N : List Str) (E : List (Str × Str)), vs = [.ref a, .ref b] ∧ SqA K H a (N.map V.str) ∧ PrA K H b E ∧ N.length ≤ 8 ∧ N.Nodup ∧ N.Pairwise (fun a b => ltS b a = false) ∧
  (∀ p ∈ E, p.1 ∈ N ∧ p.2 ∈ N) ∧ ∀ d H', H d = none → Same H H' → OTab H' d N (OM.cl E) → Q (.ref d) H'
/-- new tuples of two texts -/
def TPr (H : Hp) (qs : List Addr) (E : List (Str × Str)) : Prop := qs.length = E.length ∧ ∀ (i : Nat) (q : Addr) (e : Str × Str), qs[i]? = some q → E[i]? = some e → H q = some (.tup [.str e.1, .str e.2])
theorem TPr.keep {H H' : Hp} {qs : List Addr} {E : List (Str × Str)} (h : TPr H qs E) (t : ∀ c ys, H c = some (.tup ys) → H' c = some (.tup ys)) : TPr H' qs E := ⟨h.1, fun i q e a b => t _ _ (h.2 i q e a b)⟩
theorem TPr.mono {H H' : Hp} {qs : List Addr} {E : List (Str × Str)} (s : Same H H') (h : TPr H qs E) : TPr H' qs E := h.keep fun c ys e => s _ _ e
theorem TPr.nil {H : Hp} : TPr H [] [] := ⟨rfl, fun i q e h => by simp at h⟩
theorem TPr.snoc {H : Hp} {qs : List Addr} {E : List (Str × Str)} {q : Addr} {a b : Str} (h : TPr H qs E) (e : H q = some (.tup [.str a, .str b])) : TPr H (qs ++ [q]) (E ++ [(a, b)]) := by
  refine ⟨by rw [List.length_append, List.length_append, h.1]; rfl, fun i q' e' hq he => ?_⟩
  by_cases lt : i < qs.length
  · rw [List.getElem?_append_left lt] at hq
    rw [List.getElem?_append_left (by rw [← h.1]; exact lt)] at he
    exact h.2 i q' e' hq he
  · rw [List.getElem?_append_right (by omega)] at hq
    rw [List.getElem?_append_right (by rw [← h.1]; omega), ← h.1] at he
    cases hk : i - qs.length with
    | zero =>
      rw [hk] at hq he
      cases hq
      cases he
      exact e
    | succ n =>
      rw [hk] at hq
      simp at hq
theorem TPr.prt {K : PySem.W.Frag} {H : Hp} {qs : List Addr} {E : List (Str × Str)} (h : TPr H qs E) : PrT K H (qs.map V.ref) E := by
  refine ⟨by rw [List.length_map, h.1], fun i p e hp he => ?_⟩
  rw [List.getElem?_map] at hp
  cases hq : qs[i]? with
  | none => rw [hq] at hp; cases hp
  | some q =>
    rw [hq] at hp
    cases hp
    exact ⟨q, rfl, .of (h.2 i q e hq he)⟩
/-- a new list of pairs -/
def LPr (H : Hp) (p : Addr) (E : List (Str × Str)) : Prop := ∃ qs : List Addr, H p = some (.lst (qs.map V.ref)) ∧ TPr H qs E
theorem LPr.a {K : PySem.W.Frag} {H : Hp} {p : Addr} {E : List (Str × Str)} (h : LPr H p E) : PrA K H p E := let ⟨qs, h1, h2⟩ := h; ⟨_, .l h1, h2.prt⟩
theorem LPr.mono {H H' : Hp} {p : Addr} {E : List (Str × Str)} (s : Same H H') (h : LPr H p E) : LPr H' p E := let ⟨qs, h1, h2⟩ := h; ⟨qs, s _ _ h1, h2.mono s⟩
/-- the tuples stand when an object of another kind is changed -/
theorem tup_keep {H H' : Hp} {p : Addr} {o : HO} (e : H p = some o) (nt : ∀ ys, o ≠ .tup ys) (ho : ∀ b, b ≠ p → H' b = H b) : ∀ c ys, H c = some (.tup ys) → H' c = some (.tup ys) := fun c ys hc => by
  rw [ho c (ne_of hc e (fun z => nt ys z.symm))]
  exact hc
theorem lst_keep {H H' : Hp} {p : Addr} {xs : List V} (e : H p = some (.lst xs)) (ho : ∀ b, b ≠ p → H' b = H b) : ∀ c ys, H c = some (.tup ys) → H' c = some (.tup ys) := tup_keep e (fun _ z => nomatch z) ho
/-- one pair more -/
theorem LPr.snoc {H H2 : Hp} {p q : Addr} {E : List (Str × Str)} {xs : List V} {a b : Str} (h : LPr H p E) (e : H p = some (.lst xs)) (eq : H q = some (.tup [.str a, .str b])) (e2 : H2 p = some (.lst (xs ++ [.ref q]))) (ho : ∀ b, b ≠ p → H2 b = H b) : LPr H2 p (E ++ [(a, b)]) := by
  obtain ⟨qs, h1, h2⟩ := h
  have ex : xs = qs.map V.ref := by
    have := h1.symm.trans e
    cases this
    rfl
  subst ex
  exact ⟨qs ++ [q], by rw [e2, List.map_append]; rfl, (h2.snoc eq).keep (lst_keep e ho)⟩
def spPairs (CO : Addr) : Sp := fun vs H Q _ => vs.length = 1 ∧ ∃ a N R, vs = [.ref a] ∧ IsO CO H a N R ∧ ∀ p H', H p = none → Same H H' → LPr H' p (OM.prs N R) → Q (.ref p) H'
def spBtw (CO : Addr) : Sp := fun vs H Q _ => vs.length = 3 ∧ ∃ a N R x y, vs = [.ref a, .str x, .str y] ∧ IsO CO H a N R ∧ x ∈ N ∧ y ∈ N ∧ ∀ p H', H p = none → Same H H' → H' p = some (.lst ((OM.btw N R x y).map V.str)) → Q (.ref p) H'
def spCovers (CO : Addr) : Sp := fun vs H Q _ => vs.length = 1 ∧ ∃ a N R, vs = [.ref a] ∧ IsO CO H a N R ∧ ∀ p H', H p = none → Same H H' → LPr H' p (OM.cvs N R) → Q (.ref p) H'
def spBelow (CO CU : Addr) : Sp := fun vs H Q E => vs.length = 3 ∧ ∃ a N R x y, vs = [.ref a, .str x, .str y] ∧ IsO CO H a N R ∧ (∀ z, miss N [x, y] = some z → RB z ∧ EName CU z H E) ∧ (miss N [x, y] = none → ∀ H', Same H H' → Q (.bl (R x y)) H')
def spOInit (K : PySem.W.Frag) (CO : Addr) : Sp := fun vs H Q _ => vs.length = 3 ∧ ∃ (a b c : Addr) (zs : List Str) (E : List (Str × Str)), vs = [.ref a, .ref b, .ref c] ∧ (∃ dx, H a = some (.ins CO dx [])) ∧ SqA K H b (zs.map V.str) ∧ PrA K H c E ∧
  1 ≤ zs.length ∧ zs.length ≤ 8 ∧ (∀ z ∈ zs, nameB z = true) ∧ zs.Nodup ∧ (∀ p ∈ E, p.1 ∈ zs ∧ p.2 ∈ zs) ∧ E.length ≤ 10000 ∧ OM.Anti E ∧
  ∀ H', IsO CO H' a (srt zs) (OM.cl E) → (∀ x o, x ≠ a → H x = some o → H' x = some o) → Q .non H'
def spOIn (CO : Addr) : Sp := fun vs H Q _ => vs.length = 2 ∧ ∃ a N R z, vs = [.ref a, .str z] ∧ IsO CO H a N R ∧ ∀ H', Same H H' → Q (.bl (decide (z ∈ N))) H'
def spOLen (CO : Addr) : Sp := fun vs H Q _ => vs.length = 1 ∧ ∃ a N R, vs = [.ref a] ∧ IsO CO H a N R ∧ ∀ H', Same H H' → Q (.int (N.length : Nat)) H'
def spOIter (CO : Addr) : Sp := fun vs H Q _ => vs.length = 1 ∧ ∃ a dx t d ys, vs = [.ref a] ∧ H a = some (.ins CO dx [("names", .ref t), ("_above", .ref d)]) ∧ H t = some (.tup ys) ∧ ∀ q, H q = none → Q (.ref q) (upd H q (TupIt q t 0))
/-- the other side of ==: another order, or no order -/
def spOEq (K : PySem.W.Frag) (CO : Addr) : Sp := fun vs H Q _ => vs.length = 2 ∧ ∃ a N R y, vs = [.ref a, y] ∧ IsO CO H a N R ∧
  ((∃ b M S, y = .ref b ∧ IsO CO H b M S ∧ ∀ H', Same H H' → Q (.bl (decide (N = M) && N.all fun n => decide (OM.ab N R n = OM.ab M S n))) H') ∨
   (∃ t, TyX K H y t ∧ PySem.W.kitOne K t (.ref CO) = some false ∧ ∀ H', Same H H' → Q (.bl false) H'))
def spOStr (CO : Addr) : Sp := fun vs H Q _ => vs.length = 1 ∧ ∃ a N R, vs = [.ref a] ∧ IsO CO H a N R ∧ ∀ z H', Same H H' → Q (.str z) H'
/-! ### the closure's dict of dicts -/
def trues (l : List Str) : List (Key × V) := l.map fun k => (.inr k, .bl true)
def setF {α : Type} (f : Str → α) (n : Str) (v : α) : Str → α := fun x => if x = n then v else f x
theorem setF_same {α : Type} {f : Str → α} {n : Str} {v : α} : setF f n v n = v := by simp [setF]
theorem setF_ne {α : Type} {f : Str → α} {n m : Str} {v : α} (h : m ≠ n) : setF f n v m = f m := by simp [setF, h]
theorem valV_map_none {α : Type} {g : α → V} {f : α → Str} {k : Str} : ∀ {l : List α}, (∀ x ∈ l, f x ≠ k) → valV (l.map fun x => (Sum.inr (f x), g x)) (Sum.inr k : Key) = none
  | [], _ => rfl
  | x :: l, h => by
    rw [List.map_cons, valV_neg (fun z => h x List.mem_cons_self (Sum.inr.inj z))]
    exact valV_map_none fun y hy => h y (List.mem_cons_of_mem _ hy)
theorem trues_put {l : List Str} {k : Str} : putK (trues l) (.inr k) (.bl true) = trues (if k ∈ l then l else l ++ [k]) := by
  by_cases h : k ∈ l
  · rw [if_pos h]
    have hany : ((trues l).any fun kv => decide (kv.1 = Sum.inr k)) = true := List.any_eq_true.mpr ⟨((.inr k : Key), V.bl true), List.mem_map.mpr ⟨k, h, rfl⟩, by simp⟩
    unfold putK
    rw [if_pos hany]
    unfold trues
    rw [List.map_map]
    refine List.map_congr_left fun x _ => ?_
    show (if _ = _ then _ else _) = _
    split
    · rfl
    · rfl
  · have hno : valV (trues l) (.inr k) = none := valV_map_none (k := k) (f := fun x => x) (g := fun _ => V.bl true) fun x hx (e : x = k) => h (e ▸ hx)
    rw [if_neg h, putK_new _ hno]
    unfold trues
    rw [List.map_append]
    rfl
theorem trues_get {l : List Str} {k : Str} : (valV (trues l) (.inr k)).isSome = decide (k ∈ l) := by
  by_cases h : k ∈ l
  · obtain ⟨v, h1, _⟩ := valV_mem (ls := trues l) (k := .inr k) (by
      unfold trues
      rw [List.map_map]
      exact List.mem_map.mpr ⟨k, h, rfl⟩)
    rw [h1]
    simp [h]
  · unfold trues
    rw [valV_map_none (k := k) (f := fun x => x) (g := fun _ => V.bl true) fun x hx (e : x = k) => h (e ▸ hx)]
    simp [h]
def mk (l m : List Str) : List Str := m.foldl (fun acc k => if k ∈ acc then acc else acc ++ [k]) l
theorem trues_merge : ∀ (m l : List Str), mergeK (trues l) (trues m) = trues (mk l m)
  | [], l => rfl
  | k :: m, l => by
    show mergeK (putK (trues l) (.inr k) (.bl true)) (trues m) = trues (mk (if k ∈ l then l else l ++ [k]) m)
    rw [trues_put, trues_merge m]
theorem mem_mk : ∀ (m l : List Str) (x : Str), x ∈ mk l m ↔ x ∈ l ∨ x ∈ m
  | [], l, x => by simp [mk]
  | k :: m, l, x => by
    show x ∈ mk (if k ∈ l then l else l ++ [k]) m ↔ _
    rw [mem_mk m]
    by_cases h : k ∈ l
    · rw [if_pos h]
      constructor
      · rintro (q | q)
        · exact .inl q
        · exact .inr (List.mem_cons_of_mem _ q)
      · rintro (q | q)
        · exact .inl q
        · rcases List.mem_cons.mp q with rfl | q
          · exact .inl h
          · exact .inr q
    · rw [if_neg h]
      simp [or_assoc]
theorem put_nodup {l : List Str} {k : Str} (h : l.Nodup) : (if k ∈ l then l else l ++ [k]).Nodup := by
  split
  · exact h
  · rename_i hn
    refine List.nodup_append.mpr ⟨h, by simp, fun x hx y hy e => hn ?_⟩
    rw [← List.mem_singleton.mp hy, ← e]
    exact hx
theorem mk_nodup : ∀ (m : List Str) {l : List Str}, l.Nodup → (mk l m).Nodup
  | [], l, h => h
  | k :: m, l, h => mk_nodup m (put_nodup h)
theorem nodup_len {N l : List Str} (h : l.Nodup) (s : ∀ x ∈ l, x ∈ N) : l.length ≤ N.length := h.length_le_of_subset s
theorem rows_put {A : Str → Addr} {n : Str} {p : Addr} {N : List Str} (h : n ∈ N) : putK (rowsOf N A) (.inr n) (.ref p) = rowsOf N (setF A n p) := by
  have hany : ((rowsOf N A).any fun kv => decide (kv.1 = Sum.inr n)) = true := List.any_eq_true.mpr ⟨((.inr n : Key), V.ref (A n)), List.mem_map.mpr ⟨n, h, rfl⟩, by simp⟩
  unfold putK
  rw [if_pos hany]
  unfold rowsOf
  rw [List.map_map]
  refine List.map_congr_left fun x _ => ?_
  show (if (Sum.inr x : Key) = Sum.inr n then ((Sum.inr x : Key), V.ref p) else (Sum.inr x, V.ref (A x))) = _
  by_cases e : x = n
  · subst e
    rw [if_pos rfl, setF_same]
  · rw [if_neg (fun z => e (Sum.inr.inj z)), setF_ne e]
theorem rows_snoc {A : Str → Addr} {n : Str} {p : Addr} {N : List Str} (h : ¬ n ∈ N) : putK (rowsOf N A) (.inr n) (.ref p) = rowsOf (N ++ [n]) (setF A n p) := by
  unfold rowsOf
  rw [putK_new _ (valV_map_none (k := n) (f := fun x => x) (g := fun n => V.ref (A n)) fun x hx (e : x = n) => h (e ▸ hx)), List.map_append]
  congr 1
  · refine List.map_congr_left fun x hx => ?_
    rw [setF_ne fun (e : x = n) => h (e ▸ hx)]
  · show _ = [(_, V.ref (setF A n p n))]
    rw [setF_same]
/-- the dict at d0 has a dict of its own for each name: its keys are ks n -/
structure CSt (H : Hp) (d0 : Addr) (N : List Str) (A : Str → Addr) (ks : Str → List Str) (H1 : Hp) : Prop where
  same : Same H H1
  d0n : H d0 = none
  tab : H1 d0 = some (.dK (rowsOf N A))
  new : ∀ n ∈ N, H (A n) = none
  ne : ∀ n ∈ N, A n ≠ d0
  row : ∀ n ∈ N, H1 (A n) = some (.dK (trues (ks n)))
  nd : ∀ n ∈ N, (ks n).Nodup
  inj : ∀ n ∈ N, ∀ m ∈ N, A n = A m → n = m
/-- a key more in the row of n -/
theorem CSt.put {H H1 H2 : Hp} {d0 : Addr} {N : List Str} {A : Str → Addr} {ks : Str → List Str} {n k : Str} (c : CSt H d0 N A ks H1) (hn : n ∈ N) (e : H2 (A n) = some (.dK (putK (trues (ks n)) (.inr k) (.bl true)))) (ho : ∀ b, b ≠ A n → H2 b = H1 b) :
    CSt H d0 N A (setF ks n (if k ∈ ks n then ks n else ks n ++ [k])) H2 where
  same := fun b o eb => by
    rw [ho b (ne_of_none eb (c.new n hn))]
    exact c.same _ _ eb
  d0n := c.d0n
  tab := by
    rw [ho d0 (Ne.symm (c.ne n hn))]
    exact c.tab
  new := c.new
  ne := c.ne
  row := fun m hm => by
    by_cases em : m = n
    · subst em
      rw [e, trues_put, setF_same]
    · rw [setF_ne em, ho _ (fun z => em (c.inj m hm n hn z))]
      exact c.row m hm
  nd := fun m hm => by
    by_cases em : m = n
    · subst em
      rw [setF_same]
      exact put_nodup (c.nd m hm)
    · rw [setF_ne em]
      exact c.nd m hm
  inj := c.inj
/-- another dict for n -/
theorem CSt.set {H H1 H2 H3 : Hp} {d0 p : Addr} {N l : List Str} {A : Str → Addr} {ks : Str → List Str} {n : Str} (c : CSt H d0 N A ks H1) (hn : n ∈ N) (hp : H1 p = none) (hl : l.Nodup) (s2 : ∀ b, b ≠ p → H2 b = H1 b) (e2 : H2 p = some (.dK (trues l)))
    (e : H3 d0 = some (.dK (putK (rowsOf N A) (.inr n) (.ref p)))) (ho : ∀ b, b ≠ d0 → H3 b = H2 b) : CSt H d0 N (setF A n p) (setF ks n l) H3 := by
  have hpH : H p = none := by
    cases q : H p with
    | none => rfl
    | some o => rw [c.same _ _ q] at hp; cases hp
  have pd : p ≠ d0 := fun z => by rw [z, c.tab] at hp; cases hp
  have pA : ∀ m ∈ N, A m ≠ p := fun m hm z => by rw [← z, c.row m hm] at hp; cases hp
  refine ⟨fun b o eb => ?_, c.d0n, by rw [e, rows_put hn], fun m hm => ?_, fun m hm => ?_, fun m hm => ?_, fun m hm => ?_, fun m hm m' hm' z => ?_⟩
  · rw [ho b (ne_of_none eb c.d0n), s2 b (ne_of_none eb hpH)]
    exact c.same _ _ eb
  · by_cases em : m = n
    · subst em
      rw [setF_same]
      exact hpH
    · rw [setF_ne em]
      exact c.new m hm
  · by_cases em : m = n
    · subst em
      rw [setF_same]
      exact pd
    · rw [setF_ne em]
      exact c.ne m hm
  · by_cases em : m = n
    · subst em
      rw [setF_same, setF_same, ho p pd]
      exact e2
    · rw [setF_ne em, setF_ne em, ho _ (c.ne m hm), s2 _ (pA m hm)]
      exact c.row m hm
  · by_cases em : m = n
    · subst em
      rw [setF_same]
      exact hl
    · rw [setF_ne em]
      exact c.nd m hm
  · by_cases em : m = n <;> by_cases em' : m' = n
    · rw [em, em']
    · subst em
      rw [setF_same, setF_ne em'] at z
      exact absurd z.symm (pA m' hm')
    · subst em'
      rw [setF_same, setF_ne em] at z
      exact absurd z (pA m hm)
    · rw [setF_ne em, setF_ne em'] at z
      exact c.inj m hm m' hm' z
/-- a name more -/
theorem CSt.snoc {H H1 H2 H3 : Hp} {d0 p : Addr} {L : List Str} {A : Str → Addr} {ks : Str → List Str} {n : Str} (c : CSt H d0 L A ks H1) (hn : ¬ n ∈ L) (hp : H1 p = none) (hl : (ks n).Nodup) (s2 : ∀ b, b ≠ p → H2 b = H1 b) (e2 : H2 p = some (.dK (trues (ks n))))
    (e : H3 d0 = some (.dK (putK (rowsOf L A) (.inr n) (.ref p)))) (ho : ∀ b, b ≠ d0 → H3 b = H2 b) : CSt H d0 (L ++ [n]) (setF A n p) ks H3 := by
  have hpH : H p = none := by
    cases q : H p with
    | none => rfl
    | some o => rw [c.same _ _ q] at hp; cases hp
  have pd : p ≠ d0 := fun z => by rw [z, c.tab] at hp; cases hp
  have pA : ∀ m ∈ L, A m ≠ p := fun m hm z => by rw [← z, c.row m hm] at hp; cases hp
  have two : ∀ m, m ∈ L ++ [n] → (m ∈ L ∧ m ≠ n) ∨ m = n := fun m hm => by
    rcases List.mem_append.mp hm with h | h
    · exact .inl ⟨h, fun e => hn (e ▸ h)⟩
    · exact .inr (List.mem_singleton.mp h)
  refine ⟨fun b o eb => ?_, c.d0n, by rw [e, rows_snoc hn], fun m hm => ?_, fun m hm => ?_, fun m hm => ?_, fun m hm => ?_, fun m hm m' hm' z => ?_⟩
  · rw [ho b (ne_of_none eb c.d0n), s2 b (ne_of_none eb hpH)]
    exact c.same _ _ eb
  · rcases two m hm with ⟨h, em⟩ | rfl
    · rw [setF_ne em]
      exact c.new m h
    · rw [setF_same]
      exact hpH
  · rcases two m hm with ⟨h, em⟩ | rfl
    · rw [setF_ne em]
      exact c.ne m h
    · rw [setF_same]
      exact pd
  · rcases two m hm with ⟨h, em⟩ | rfl
    · rw [setF_ne em, ho _ (c.ne m h), s2 _ (pA m h)]
      exact c.row m h
    · rw [setF_same, ho p pd]
      exact e2
  · rcases two m hm with ⟨h, em⟩ | rfl
    · exact c.nd m h
    · exact hl
  · rcases two m hm with ⟨h, em⟩ | rfl <;> rcases two m' hm' with ⟨h', em'⟩ | rfl
    · rw [setF_ne em, setF_ne em'] at z
      exact c.inj m h m' h' z
    · rw [setF_same, setF_ne em] at z
      exact absurd z (pA m h)
    · rw [setF_same, setF_ne em'] at z
      exact absurd z.symm (pA m' h')
    · rfl
theorem CSt.keep {H H1 H2 : Hp} {d0 : Addr} {N : List Str} {A : Str → Addr} {ks : Str → List Str} (c : CSt H d0 N A ks H1) (h : ∀ b, H1 b ≠ none → H2 b = H1 b) : CSt H d0 N A ks H2 where
  same := fun b o e => by
    rw [h b (by rw [c.same _ _ e]; simp)]
    exact c.same _ _ e
  d0n := c.d0n
  tab := by
    rw [h d0 (by rw [c.tab]; simp)]
    exact c.tab
  new := c.new
  ne := c.ne
  row := fun n hn => by
    rw [h _ (by rw [c.row n hn]; simp)]
    exact c.row n hn
  nd := c.nd
  inj := c.inj
theorem mem_put {l : List Str} {k x : Str} : x ∈ (if k ∈ l then l else l ++ [k]) ↔ x ∈ l ∨ x = k := by
  split
  · rename_i h
    exact ⟨.inl, fun q => q.elim (fun q => q) fun e => e ▸ h⟩
  · simp
theorem wm_self {E : List (Str × Str)} {ms : List Str} {m q : Str} : OM.wm E (m :: ms) m q = OM.wm E ms m q := by
  have := OM.wm_refl E ms m
  show (OM.wm E ms m q || (OM.wm E ms m m && OM.wm E ms m q)) = _
  rw [this]
  simp
theorem trues_keys {l : List Str} : (trues l).map (·.1) = l.map Sum.inr := by
  unfold trues
  rw [List.map_map]
  rfl
theorem trues_len {l : List Str} : (trues l).length = l.length := by unfold trues; rw [List.length_map]
theorem rows_len {N : List Str} {A : Str → Addr} : (rowsOf N A).length = N.length := by unfold rowsOf; rw [List.length_map]
end Z

set_option Elab.async false
set_option linter.all false
set_option maxRecDepth 100000
set_option maxHeartbeats 4000000
/-! try with several clauses, each with its name -/
namespace Z
open PySem PySem.Spec PyProof.Rows L2
abbrev CTS := Value × (Addr → Value → Option Addr → TS)
/-- what the clauses wish, one after the other -/
def wAll (K : PySem.W.Frag) (i : Nat) (Wout : WX) (D : Ends) : List CTS → WX
  | [] => Wout
  | (c, ts) :: r => wAs K c i ts (wAll K i Wout D r) D
/-- the clauses' suites are understood -/
inductive Clauses (X : Cx) (n : Str) : List ExceptHandler → List CTS → Prop
  | nil : Clauses X n [] []
  | cons {x : Str} {c : Value} {ts : Addr → Value → Option Addr → TS} {b : Stmt} {bs : List Stmt} {np hp : Pos} {hds : List ExceptHandler} {l : List CTS} (hc : Names X x c)
      (hsu : ∀ (a : Addr) (oe : Obj) (cls : Value) (d : Option Addr) (pn : List (Addr × Obj)), Zc cls d oe → (∃ vs, oe.data = .fields vs) → PSs (X.suite a ((a, oe) :: pn)) (b :: bs) (ts a cls d)) (r : Clauses X n hds l) :
      Clauses X n (.ExceptHandler (some (.Name x np)) (some n) (b :: bs) hp :: hds) ((c, ts) :: l)
section
variable {X : Cx} {n : Str} {i : Nat} {body : List Stmt} {h₀ : ExceptHandler} {hds : List ExceptHandler} {l : List CTS} {pos : Pos} {tb : WX → TS} {Wout : WX}
theorem z_tryAll (hs : X.stack = X.env :: X.outer) (hf : X.env.frame = some X.env.locals) (hN : X.N.Nodup) (hi : X.N[i]? = some n) (hln : X.env.kindOf n = some .local) (tk : Takes X Wout)
    (hb : ∀ (W : WX) (pn : List (Addr × Obj)) (xe : Value → Shared → Prop), Takes (X.tr pn xe) W → PassesOwn (model X.prog X.w) X.A X.env xe → PSs (X.tr pn xe) body (tb W))
    (hh : Clauses X n (h₀ :: hds) l) : PS X (.Try body (h₀ :: hds) [] [] pos) (fun D σ H => tb (wAll X.K i Wout D l) D σ H) := by
  refine ⟨fun pins s σ H D I h => ?_⟩
  have ok := I.ok
  have hfr : X.A.frames = some (X.env :: X.outer) := by rw [ok.frames, hs]
  have hloc : Loc X.env.scope n := .inl hln
  refine wpAny_Try_except ?_
  refine wpAny_mono ((hb (wAll X.K i Wout D l) (X.pn ++ pins) (fun e s₁ => wpAny (model X.prog X.w) X.A (noteFrame e X.env) (fun _ s₂ => wpAny (model X.prog X.w) X.A (setFlight e none) (fun _ s₃ =>
    wpAny (model X.prog X.w) X.A (handleBy e X.env (h₀ :: hds)) (SP X pins D) X.xe s₃) X.xe s₂) X.xe s₁) (fun u s' xx => ?_) PassesOwn.looking).run [] s σ H D (I.toTry _) h) (fun f s1 hsp => ?_) (fun e s1 he => he)
  · obtain ⟨a, B, sI, pins', σ', H', cls, d, rfl, J', nb, up, sky, na, os, ag, w⟩ := xx
    have J : Inv X pins σ' H' sI := J'.ofTry ok
    have sk : Sky B (X.env :: X.outer) a (Zc cls d) X.env.locals s'.heap := hs ▸ sky
    show wpAny (model X.prog X.w) X.A (noteFrame (.ref a) X.env) _ _ _
    refine Sky.land Zc.steady hfr hf sk fun h3 fl up3 => ?_
    have u3 := up.trans up3
    have J3 : Inv X pins σ' H' { s' with heap := h3 } := J.landed nb fl.1 u3 os ag
    obtain ⟨oe, vs, he, hz, hd⟩ := fl.there
    -- the exception is no frame
    have far : a ∉ frs (X.env :: X.outer) := fun hm => by
      obtain ⟨_, o', e', hnf⟩ := fl.2.2.1.mem hm
      have := he.symm.trans e'
      cases this
      exact hnf _ hd
    have nL : a ≠ X.env.locals := fun z => far (List.mem_filterMap.mpr ⟨X.env, .head _, by rw [hf, z]⟩)
    have nF : a ∉ X.fs := fun hm => by
      obtain ⟨e, he', q⟩ := List.mem_filterMap.mp hm
      exact far (List.mem_filterMap.mpr ⟨e, .tail _ he', q⟩)
    have S3 := J3.suite he hd na nL nF
    have LT : PySem.W.Looks (model X.prog X.w) h3 (typeOf (.ref a)) cls := fun A Q E s k q => wpAny_typeOf_ref (k _ _ he) (by rw [hz.1]; exact q)
    have each : ∀ {cs : List ExceptHandler} {m : List CTS}, Clauses X n cs m → wAll X.K i Wout D m cls d σ' H' → wpAny (model X.prog X.w) X.A (handleBy (.ref a) X.env cs) (SP X pins D) X.xe { s' with heap := h3 } := by
      intro cs m k
      induction k with
      | nil =>
        intro w
        refine wpAny_handleBy_nil ?_
        obtain ⟨_, _, _, o2, v2, T, oT, t2, g1, _, g2, g3, _⟩ := id fl
        unfold PySem.passOn
        refine wpAny_bind (wpAny_field g1 g2 g3 ?_)
        rw [if_neg (show ¬ ((Value.ref T == Value.none) = true) by simp)]
        have out : wpAny (model X.prog X.w) X.A (setFlight (.ref a) X.env.frame) (fun _ s4 => wpAny (model X.prog X.w) X.A (throw (.ref a) : Sem Flow) (SP X pins D) X.xe s4) X.xe { s' with heap := h3 } := by
          rw [hf]
          exact HandSPX.setFlight_upZ fl fun h4 hh4 up4 => wpAny_throw (tk _ _ ⟨a, B, sI, pins, σ', H', cls, d, rfl, J, nb, u3.trans up4, .inr (.inr (hs ▸ hh4)), na, os, ag, w⟩)
        first
          | exact wpAny_bind (wpAny_pure (wpAny_bind out))
          | exact wpAny_bind out
      | @cons x c ts b bs np hp cs2 m2 hc hsu r ih =>
        rintro ⟨y, hy, yes, no⟩
        refine wpAny_handleBy_cons (codeAny_handlers_test ?_) (by intro q; cases q)
        have LM := (PySem.W.exm_one (M := model X.prog X.w) (J3.kIn) LT hy)
        have named : ∀ {Q E : Value → Shared → Prop}, Q c { s' with heap := h3 } → wpAny (model X.prog X.w) (X.A.mark (some (.ref a))) (eval (.Name x np) X.env) Q E { s' with heap := h3 } := by
          intro Q E q
          rcases hc with ⟨hg, hdb, hm | ⟨hm, hv, hnn⟩⟩
          · exact ld_glob (X := X.suite a ((a, oe) :: (X.pn ++ pins))) S3 hg hm q hdb
          · exact ld_blt (X := X.suite a ((a, oe) :: (X.pn ++ pins))) S3 hg hm hv q hnn hdb
        refine named (LM.here ?_)
        cases y
        · exact ih (no rfl)
        · refine codeAny_handlers_suite_as ?_
          refine HandSPX.lands_againZ fl fun h4 fl4 up4 => ?_
          obtain ⟨oe4, vs4, he4, hz4, hd4⟩ := fl4.there
          have S4 := (show Inv X pins σ' H' { s' with heap := h4 } from J.landed nb fl4.1 (u3.trans up4) os ag).suite he4 hd4 na nL nF
          refine store_ok (X := X.suite a ((a, oe4) :: (X.pn ++ pins))) (v := .ref a) S4 hN hi hloc rfl (fun s5 S5 => ?_) (.inr hln)
          have after : ∀ {s6 : Shared} {σ6 : L2.St} {H6 : Hp} {Q : Shared → Prop}, Inv (X.suite a ((a, oe4) :: (X.pn ++ pins))) [] σ6 H6 s6 → (∀ s7, Inv X pins (σ6.set i none) H6 s7 → Q s7) →
              wpAny (model X.prog X.w) X.A (do bindName X.env n .none; unbindBehindTheSuite X.env n hp) (fun _ s7 => Q s7) X.xe s6 := fun {s6 σ6 H6 Q} S6 hq => gone_ok (S6.unsuite ok) hN hi hln hq
          refine wpAny_mono ((hsu a oe4 cls d (X.pn ++ pins) hz4 ⟨_, hd4⟩).run [] s5 _ H' _ S5 (yes rfl a na)) (fun f s6 z => ?_) (fun _ _ z => z.elim)
          cases f
          case ret u =>
            obtain ⟨v6, σ6, H6, S6, r6, q6⟩ := z
            exact after S6 fun s7 J7 => ⟨_, _, _, J7, r6, q6⟩
          all_goals
            obtain ⟨σ6, H6, S6, q6⟩ := z
            exact after S6 fun s7 J7 => ⟨_, _, J7, q6⟩
    exact each hh w
  · cases f
    case next =>
      obtain ⟨σ', H', J', q⟩ := hsp
      exact wpAny_execs_nil ⟨σ', H', J'.ofTry ok, q⟩
    case ret u =>
      obtain ⟨v, σ', H', J', r, q⟩ := hsp
      exact ⟨v, σ', H', J'.ofTry ok, r, q⟩
    all_goals
      obtain ⟨σ', H', J', q⟩ := hsp
      exact ⟨σ', H', J'.ofTry ok, q⟩
end
/-- this clause is not the one -/
theorem i_wasNo {K : PySem.W.Frag} {σ : L2.St} {H : Hp} {D : Ends} {c cls : Value} {i : Nat} {ts : Addr → Value → Option Addr → TS} {Wout : WX} {d : Option Addr} (hx : PySem.W.exmOne K cls c = some false) (h : Wout cls d σ H) :
    wAs K c i ts Wout D cls d σ H := ⟨false, hx, (fun q => nomatch q), fun _ => h⟩
end Z

set_option Elab.async false
set_option linter.all false
set_option maxRecDepth 100000
set_option maxHeartbeats 4000000
/-! a list of texts in an f-string: some bounded text -/
namespace Z
open PySem PySem.Spec PyProof.Rows PySem.Sem
section
variable {prog : Program} {w : World} {A : Around} {E : Value → Shared → Prop} {s : Shared}
theorem dots_len : ("[...]" : Str).length ≤ 5 := by decide +kernel
theorem z_reprHead {M : Model} {Q : Fin → Shared → Prop} {a : Addr} {o : Obj} {x : Value} {l : List Value} {n : Nat} {b : Nat} (hget : s.heap.get? a = some o) (hd : o.data = .seq (x :: l).toArray n)
    (h1 : wpAny M A (do again (.builtin "list.__repr__.loop" ⟨[.ref a, rawInt 0, ← newList [], rawInt b], []⟩)) Q E s) (h2 : wpAny M A (do rule "list.__repr__.in-itself"; retStr "[...]") Q E s) : wpAny M A (Builtin.listReprAt b ⟨[.ref a], []⟩) Q E s := by
  intro Γ p hΓ
  have k1 := h1 Γ p hΓ
  have k2 := h2 Γ p hΓ
  unfold Builtin.listReprAt
  simp [slotArgs, Builtin.List.listItems, seqItems?, wp_load_of (h := hget), hd, PySem.stack]
  show wp M Γ (if (Γ.below.any _) = true then _ else _) _ _ p s
  split
  · exact k2
  · exact k1
theorem z_item {prog : Program} {w : World} : ∀ {l : List Value} {ts : List Str}, ReprAll prog w l ts → ∀ (i : Nat) (y : Value), l[i]? = some y → ∃ t, ts[i]? = some t ∧ ReprIs prog w y t
  | _, _, .nil, i, y, h => by simp at h
  | _, _, .cons h1 h2, 0, y, h => by
    have e := Option.some.inj h
    subst e
    exact ⟨_, rfl, h1⟩
  | _, _, .cons h1 h2, i + 1, y, h => z_item h2 i y h
theorem z_listRepr {a : Addr} {o : Obj} {x : Value} {l : List Value} {n : Nat} {ts : List Str} {Q : Value → Shared → Prop} (hT : s.TypeIs (.ref a) "list") (ha : s.heap.get? a = some o) (hd : o.data = .seq (x :: l).toArray n) (hA : ReprAll prog w (x :: l) ts) (hz : (listText ts).length ≤ sizeLine)
    (h : ∀ (m : Str) (u tk : Tok) (h' : Heap), (∀ b o, s.heap.get? b = some o → h'.get? b = some o) → m.length ≤ (listText ts).length + 5 → Q (.str m u) { s with heap := h', toks := tk }) : wpAny (model prog w) A (call (.builtin "list.__repr__") [.ref a]) Q E s := by
  refine wpAny_call (codeAny_call_builtin F.slot_list_repr.plain F.entry_list_repr (F.slot_list_repr.check _ _ _ _ _ _ _ _ hT (F.args_list_repr_1 _) ?_))
  refine z_reprHead (b := 0) ha hd ?_ ?_
  · refine wpAny_bind (m := newList []) (wpAny_newObj_type ?_)
    refine wpAny_pure ⟨F.quiet_list_repr_loop _, ?_⟩
    refine codeAny_list_repr_start (P := s.heap.objs.size) (ts := ts) (Nat.ne_of_lt (Heap.lt_size ha)) (by rw [hA.length_eq]; rfl) (fun i y hy => ?_) (Heap.get?_push_of_some _ ha) hd (Heap.get?_push_size _ rfl) (fun h' u tk hk => ?_) (by omega)
    · exact z_item hA i y (by simpa using hy)
    · exact h _ u tk h' (fun b o e => hk b o (Nat.ne_of_lt (Heap.lt_size e)) (Heap.get?_push_of_some _ e)) (Nat.le_add_right _ _)
  · refine wpAny_bind (wpAny_rule ?_)
    refine wpAny_bind (wpAny_mkStr (wpAny_pure ?_) (by decide +kernel))
    exact h "[...]" _ _ s.heap (fun _ _ e => e) (Nat.le_trans dots_len (Nat.le_add_left _ _))
theorem z_listFmt {a : Addr} {o : Obj} {x : Value} {l : List Value} {n : Nat} {ts : List Str} {Q : Value → Shared → Prop} (hu : A.units + 2 < cLine) (hT : s.TypeIs (.ref a) "list") (ha : s.heap.get? a = some o) (hd : o.data = .seq (x :: l).toArray n) (hA : ReprAll prog w (x :: l) ts) (hz : (listText ts).length ≤ sizeLine)
    (h : ∀ (m : Str) (u tk : Tok) (h' : Heap), (∀ b o, s.heap.get? b = some o → h'.get? b = some o) → m.length ≤ (listText ts).length + 5 → Q (.str m u) { s with heap := h', toks := tk }) : wpAny (model prog w) A (formatField (.ref a) Str.empty) Q E s :=
  wpAny_formatField_slot (fun _ _ => nofun) hu hT F.slot_list_format F.slot_list_str F.slot_list_repr.toG
    (z_listRepr (s := { s with toks := s.toks + 1 }) hT ha hd hA hz fun m u tk h' k hm => ⟨m, u, rfl, h m u tk h' k hm⟩)
end
theorem from_len : ∀ (ts : List Str) (k : Nat) (acc : Str), (textFrom k acc ts).length ≤ acc.length + piled ts
  | [], _, acc => by rw [piled_nil]; exact Nat.le_add_right _ _
  | t :: ts, k, acc => by
    have ih := from_len ts (k + 1) (acc ++ (if k > 0 then ", " else "" : String) ++ t)
    have e : (acc ++ (if k > 0 then ", " else "" : String) ++ t).length ≤ acc.length + 2 + t.length := by
      rw [strLen_append, strLen_append]
      have : ((if k > 0 then ", " else "" : String) : Str).length ≤ 2 := by split <;> decide +kernel
      omega
    rw [piled_cons]
    show (textFrom (k + 1) _ ts).length ≤ _
    omega
theorem listText_le (ts : List Str) : (listText ts).length ≤ piled ts + 2 := by
  have := from_len ts 0 "["
  have e1 : (("[" : String) : Str).length = 1 := rfl
  have e2 : (("]" : String) : Str).length = 1 := rfl
  unfold listText
  rw [strLen_append]
  omega
end Z
namespace Z
open PySem PySem.Spec PyProof.Rows L2
section
variable {X : Cx}
/-- {l}, l a list of texts, not empty: some text, no longer than ten times its signs and a little -/
def tFmtL (K : PySem.W.Frag) (te : TE) : TE := fun σ H Q => te σ H fun x H1 => ∃ (a : Addr) (y : Str) (l : List Str), x = .ref a ∧ SqL K H1 a ((y :: l).map V.str) ∧ (∀ z ∈ y :: l, ∀ c ∈ z.cps.toList, c < 16 ^ 8) ∧ fmtCost (y :: l) + 7 ≤ sizeLine ∧ ∀ m : Str, m.length ≤ fmtCost (y :: l) + 7 → Q (.str m) H1
theorem pe_fmtL {e : Expr} {te : TE} {pos : Pos} {k : Nat} (hr : Room k X.A) (he : PE X e te) : PE X (.FormattedValue e (-1) none pos) (tFmtL X.K te) := by
  refine ⟨fun pins s σ H Q I h => ?_⟩
  refine wpAny_FormattedValue_plain (thn (he.run pins s σ H _ I h) fun v s1 hv => ?_)
  obtain ⟨x, H1, I1, r1, a, y, l, rfl, ht, hc, hz, q⟩ := hv
  cases r1
  obtain ⟨its, rv, pl, _⟩ := I1.list ht
  obtain ⟨o, ho, hcl, n, hd⟩ := pl.isList
  have hp := fmt_piled (y :: l) hc
  have htx := listText_le ((y :: l).map reprText)
  have hu := hr.units
  cases rv with
  | @cons _ u _ us r1 r2 =>
    refine z_listFmt (ts := (y :: l).map reprText) (by omega) ⟨o, ho, hcl⟩ ho hd (repr_all (.cons r1 r2) fun z hz => ?_) (by omega) fun m u tk h' k hm => ⟨.str m, H1, I1.kept k, ⟨u, rfl⟩, q m (by omega)⟩
    have h1 := StrLaws.reprText_len z (hc z hz)
    have h2 := fmtCost_mem hz
    omega
end
end Z

set_option Elab.async false
set_option linter.all false
set_option maxRecDepth 100000
set_option maxHeartbeats 400000
/-! an exception that has a field already: its field read, its base's __init__ -/
namespace Z
open PySem PySem.Spec PyProof.Rows L2 PySem.OEX
section
variable {prog : Program} {w : World} {A : Around} {R : Result → Shared → Prop} {g : Array GenState} {d : Drawn} {t : Nat} {os : OsState} {h : Heap} {B newId initId : String} {bmB : List Value}
variable {C : Addr}
theorem z_initD (F : ExcBaseFacts B newId initId bmB) {e t0 : Addr} {od : Option Addr} {rest : List Value}
    (hk : ∀ {Q : Unit → Shared → Prop} {E : Value → Shared → Prop} {M : Model} {A' : Around}, Q () ⟨h, g, d, t, os⟩ → wpAny M A' (checkBuiltinCall initId ⟨.ref e :: rest, []⟩) Q E ⟨h, g, d, t, os⟩)
    (he : h.get? e = some ({ cls := .ref C, dict := od, data := .fields #[.ref t0, .none, .none, .none, .bool false, .none] } : Obj)) (hrest : rest.length ≤ sizeLine)
    (hq : ∀ h' t1, (∀ b o, b ≠ e → h.get? b = some o → h'.get? b = some o) → h'.get? e = some ({ cls := .ref C, dict := od, data := .fields #[.ref t1, .none, .none, .none, .bool false, .none] } : Obj) → R (.ok (.ret .none)) ⟨h', g, d, t, os⟩) :
    codeAny (model prog w) A (.call (.builtin initId) ⟨.ref e :: rest, []⟩) R ⟨h, g, d, t, os⟩ := by
  refine codeAny_call_builtin F.init.plain F.initEntry (hk ?_)
  wp_walk
  refine hq _ h.objs.size (fun b o hb ho => ?_) ?_
  · rw [Heap.get?_update_other _ _ (Ne.symm hb)]
    exact Heap.get?_push_of_some _ ho
  · rw [Heap.get?_update_self _ (Heap.get?_push_of_some _ he) rfl]
    rfl
end
end Z
namespace Z
open PySem PySem.Spec PyProof.Rows L2 PySem.OEX
section
variable {X : Cx} {pins : List (Addr × Obj)} {σ : L2.St} {H : Hp} {s : Shared} {a C : Addr} {dx : Option Addr} {E : Value → Shared → Prop}
theorem z_oinitD {us : List Value} {Q : Value → Shared → Prop} (T : OexC X.K C) (I : Inv X pins σ H s) (e : H a = some (exo a C dx)) (hl : us.length ≤ sizeLine) (h : ∀ s', Inv X pins σ H s' → Q .none s') :
    wpAny (model X.prog X.w) X.A (call (.builtin "ValueError.__init__") (.ref a :: us)) Q E s := by
  obtain ⟨nm, q, N, bs, bm, sn, sub, ab, col, dd, k0, k1, k2, k3, k5, hC, hbm⟩ := T.cls
  obtain ⟨t1, ho⟩ := exo_at I.hok e
  obtain ⟨hp, g, d, t, os⟩ := s
  refine wpAny_call (z_initD PySem.F.excBase_ValueError (fun {Q E M A'} hq => PySem.HandSPX.check_init_own PySem.F.excBase_ValueError (fun Y => PySem.HandSPX.refsVE_contains Y bm hbm) (I.kIn _ _ hC) ho rfl hq) ho hl fun h' t2 k hx => ?_)
  have J := I.write (t' := t) (x := a) (e := a) (o := exo a C dx) (by rw [e]; exact True.intro) (.inl rfl) k ⟨_, hx⟩ (exo_ok hx)
  have eu : upd H a (exo a C dx) = H := by
    funext b
    by_cases hb : b = a
    · rw [hb, upd_same, e]
    · rw [upd_ne hb]
  rw [eu] at J
  exact h _ J
end
/-- ThrowError.__init__(self, ..) behind a field that is set -/
def tVeD (K : PySem.W.Frag) (ta : TA) : TE := fun σ H Q => ta σ H fun vs H1 => ∃ (a C : Addr) (ws : List V) (d : Option Addr), vs = .ref a :: ws ∧ ws.length ≤ 1000 ∧ OexC K C ∧ H1 a = some (exo a C d) ∧ Q .non H1
/-- self.f of an exception in its own __init__ -/
def tXat (K : PySem.W.Frag) (f : Str) (te : TE) : TE := fun σ H Q => te σ H fun x H1 => ∃ (a C dd : Addr) (fs : List (Str × V)) (v : V), x = .ref a ∧ XfC K C ∧ PySem.W.findIn K (.ref C) f = some none ∧ H1 a = some (exo a C (some dd)) ∧ H1 dd = some (exd dd fs) ∧ fs.lookup f = some v ∧ Q v H1
section
variable {X : Cx} {x : Str} {e : Expr} {es : List Expr} {t : TA} {te : TE} {pos : Pos}
theorem z_tinitD {p1 p2 : Pos} {pl : Sem Bool} (hg : Gl X x) (c : CalT X.K X.mg x) (ha : PA X (e :: es) t)
    (hc : eval (.Call (.Attribute (.Name x p1) "__init__" p2) (e :: es) [] pos) X.env = (do
      let ov ← eval (.Name x p1) X.env
      standAt p2.atName
      let (f, first) ← holding [ov] (getMethod ov "__init__" pl)
      callWith pos f first (backTo pos (starEach (e :: es) X.env)) (backToKw pos (keywordEach [] X.env))) := by rfl)
    (hdb : (x == ("__debug__" : Str)) = false := by decide) (he : starEach (e :: es) X.env = (false, eval e X.env) :: starEach es X.env := by rfl)
    (hpl : (backTo pos (starEach es X.env)).any (·.1) = false := by rfl) :
    PE X (.Call (.Attribute (.Name x p1) "__init__" p2) (e :: es) [] pos) (tVeD X.K t) := by
  obtain ⟨T, mc, hm, r, vV⟩ := c
  constructor
  intro pins s σ H Q I h
  refine PySem.W.methodCall_KW (ld_glob I hg hm ?_ hdb) hc
  apply PySem.W.method_cls I.kIn r.ga
  apply PySem.W.cls_value I.kIn r.rd vV (by decide +kernel)
  show wpAny _ _ (callWith pos (Value.builtin "ValueError.__init__") [] (backTo pos (starEach (e :: es) X.env)) []) _ _ _
  refine PyProof.Rows.callWith_method1 (thn (ha.run pos pins _ σ H _ (I.tok _) h) fun us s1 hh => ?_) he hpl
  obtain ⟨vs, H1, I1, r1, a, C, ws, d, ev, hl, T', ea, q⟩ := hh
  subst ev
  cases r1 with
  | @cons _ u0 _ ur ra rw' =>
    obtain rfl : u0 = Value.ref a := ra
    have hlen : ur.length ≤ sizeLine := by
      rw [← Paired.length rw', sizeLine_eq]
      omega
    exact z_oinitD T' I1 ea hlen fun s' J => ⟨.non, H1, J, rfl, q⟩
theorem pe_xat {n : Str} (he : PE X e te) (hb : attributeBase e n X.env (eval e X.env) = eval e X.env := by rfl) : PE X (.Attribute e n pos) (tXat X.K n te) := by
  refine ⟨fun pins s σ H Q I h => ?_⟩
  refine attr_of hb (thn (he.run pins s σ H _ I h) fun u s1 hh => ?_)
  obtain ⟨x, H1, I1, rx, a, C, dd, fs, v, ex, T, hno, ea, ed, l, q⟩ := hh
  subst ex
  obtain rfl : u = Value.ref a := rx
  obtain ⟨t1, ho⟩ := exo_at I1.hok ea
  obtain ⟨mA, hns, hr⟩ := exd_at I1.hok ed
  obtain ⟨od, ho2, hl⟩ := lookIn_ns hns
  obtain ⟨u, hu, ru⟩ := RelO.some_of (v := v) (o := mA n) (by rw [← l]; exact hr n)
  have J : PySem.W.InstAt s1.heap a _ C (some od) := ⟨ho, rfl, rfl, ho2⟩
  exact HandSPX.exc_get I1.kIn J T.ga T.gg T.exC (PySem.W.findObj_own T.hdC hno rfl (by rw [hl, hu])) (handed_of ru) ⟨v, H1, I1.tok _, ru, q⟩
end
/-! readings -/
section
variable {K : PySem.W.Frag} {σ : L2.St} {H : Hp} {Q : VK} {te : TE} {tr : TA}
def rVeD (K : PySem.W.Frag) (vs : List V) (H1 : Hp) (Q : VK) : Prop := ∃ (a C : Addr) (ws : List V) (d : Option Addr), vs = .ref a :: ws ∧ ws.length ≤ 1000 ∧ OexC K C ∧ H1 a = some (exo a C d) ∧ Q .non H1
theorem i_tvd (h : tr σ H (fun vs H1 => rVeD K vs H1 Q)) : tVeD K tr σ H Q := h
theorem i_tvd1 {a C : Addr} {ws : List V} {d : Option Addr} (T : OexC K C) (e : H a = some (exo a C d)) (l : ws.length ≤ 1000) (h : Q .non H) : rVeD K (.ref a :: ws) H Q := ⟨a, C, ws, d, rfl, l, T, e, h⟩
def rXat (K : PySem.W.Frag) (f : Str) (x : V) (H1 : Hp) (Q : VK) : Prop := ∃ (a C dd : Addr) (fs : List (Str × V)) (v : V), x = .ref a ∧ XfC K C ∧ PySem.W.findIn K (.ref C) f = some none ∧ H1 a = some (exo a C (some dd)) ∧ H1 dd = some (exd dd fs) ∧ fs.lookup f = some v ∧ Q v H1
theorem i_xat {f : Str} (h : te σ H (fun x H1 => rXat K f x H1 Q)) : tXat K f te σ H Q := h
theorem i_xat1 {f : Str} {a C dd : Addr} {v : V} (T : XfC K C) (n : PySem.W.findIn K (.ref C) f = some none) (e : H a = some (exo a C (some dd))) (ed : H dd = some (exd dd [(f, v)])) (h : Q v H) : rXat K f (.ref a) H Q := ⟨a, C, dd, _, v, rfl, T, n, e, ed, by simp [List.lookup], h⟩
def rFmtL (K : PySem.W.Frag) (x : V) (H1 : Hp) (Q : VK) : Prop := ∃ (a : Addr) (y : Str) (l : List Str), x = .ref a ∧ SqL K H1 a ((y :: l).map V.str) ∧ (∀ z ∈ y :: l, ∀ c ∈ z.cps.toList, c < 16 ^ 8) ∧ fmtCost (y :: l) + 7 ≤ sizeLine ∧ ∀ m : Str, m.length ≤ fmtCost (y :: l) + 7 → Q (.str m) H1
theorem i_fmtL (h : te σ H (fun x H1 => rFmtL K x H1 Q)) : tFmtL K te σ H Q := h
end
end Z

set_option Elab.async false
set_option linter.all false
set_option maxRecDepth 100000
set_option maxHeartbeats 400000
/-! comprehensions over ranges, read -/
namespace Z
open PySem PySem.Spec PyProof.Rows L2
section
variable {K : PySem.W.Frag} {σ : L2.St} {H : Hp} {g g1 : TG} {tt tt1 : TT} {te tl1 : TE} {tr : TA} {Q : VK}
def rLcR2 (g : TG) (tt : TT) (te : TE) (vs : List Nat) (σ : L2.St) (Q : VK) (ws : List V) (H1 : Hp) : Prop := ∃ i j : Int, ws = [.int i, .int j] ∧ (-(2 ^ 62) ≤ i ∧ i < 2 ^ 62 ∧ -(2 ^ 62) ≤ j ∧ j < 2 ^ 62) ∧ ∀ D, H1 D = none → ∃ W : Nat → Nat → Hp → Prop, (∃ m, W 0 m (upd H1 D (.lst []))) ∧ ∀ k m H, W k m H →
  ((Itr i (j - i).toNat).stop k H ∧ Q (.ref D) H) ∨ ((Itr i (j - i).toNat).go k H ∧ ∃ Nx : Hp → Prop, (∀ H', Nx H' → ∃ m', m' < m ∧ W (k + 1) m' H') ∧ ∀ x H', (Itr i (j - i).toNat).yld k H x H' → g x (wipe σ vs) H' fun σ2 H2 => wipe σ2 vs = wipe σ vs ∧ tt σ2 H2 fun b H3 =>
    if b = true then te σ2 H3 fun y H4 => ∃ acc, H4 D = some (.lst acc) ∧ acc.length < sizeLine ∧ Nx (upd H4 D (.lst (acc ++ [y]))) else Nx H3)
theorem i_lcR20 {vs : List Nat} (h : tr σ H (fun ws H1 => rLcR2 g tt te vs σ Q ws H1)) : tLc (iRng2 tr) g tt te vs σ H Q := h
theorem i_lcR2 {vs : List Nat} {n : Nat} {i j : Int} (hj : j - i = (n : Int)) (hi : 0 ≤ i ∧ i < 1000) (hn : n < 100000) (Pv : Nat → List V → Hp → Prop) (h0 : ∀ D H', H D = none → Same H H' → H' D = some (.lst []) → (∀ b, b ≠ D → H' b = H b) → Pv 0 [] H')
    (hs : ∀ k D ys H1, H D = none → k < n → H1 D = some (.lst ys) → Pv k ys H1 → g (.int (i + (k : Nat))) (wipe σ vs) H1 fun σ2 H2 => wipe σ2 vs = wipe σ vs ∧ tt σ2 H2 fun b H3 => if b = true then te σ2 H3 fun y H4 => rLcE D Pv k y H4 else LcS D Pv (k + 1) H3)
    (hd : ∀ D ys H1, H D = none → H1 D = some (.lst ys) → Pv n ys H1 → Q (.ref D) H1) : rLcR2 g tt te vs σ Q [.int i, .int j] H := by
  refine ⟨i, j, rfl, by omega, fun D hD => ?_⟩
  have e : (j - i).toNat = n := by omega
  rw [e]
  refine lc_range (LcS D Pv) ⟨[], upd_same, h0 D _ hD (fun b o e => by rw [upd_ne (ne_of_none e hD)]; exact e) upd_same (fun b hb => upd_ne hb)⟩ ?_ ?_
  · rintro k H' hk ⟨ys, hD', p⟩
    exact hs k D ys H' hD hk hD' p
  · rintro H' ⟨ys, hD', p⟩
    exact hd D ys H' hD hD' p
/-- two fors, the outer one over a range -/
def rLc2R (K : PySem.W.Frag) (g : TG) (tt : TT) (tl1 : TE) (g1 : TG) (tt1 : TT) (te : TE) (vs vs1 : List Nat) (σ : L2.St) (Q : VK) (ws : List V) (H1 : Hp) : Prop := ∃ j : Int, ws = [.int j] ∧ -(2 ^ 62) ≤ j ∧ j < 2 ^ 62 ∧ ∀ D, H1 D = none → ∃ W : Nat → Nat → Hp → Prop, (∃ m, W 0 m (upd H1 D (.lst []))) ∧ ∀ i m H, W i m H →
  ((Itr 0 j.toNat).stop i H ∧ Q (.ref D) H) ∨ ((Itr 0 j.toNat).go i H ∧ ∃ Nx : Hp → Prop, (∀ H', Nx H' → ∃ m', m' < m ∧ W (i + 1) m' H') ∧ ∀ x H', (Itr 0 j.toNat).yld i H x H' → g x (wipe σ vs) H' fun σ2 H2 => wipe σ2 vs = wipe σ vs ∧ tt σ2 H2 fun b H3 =>
    if b = true then tl1 σ2 H3 fun x1 H4 => rLcIn K D Nx g1 tt1 te vs1 σ2 x1 H4 else Nx H3)
theorem i_lc2R0 {vs vs1 : List Nat} (h : tr σ H (fun ws H1 => rLc2R K g tt tl1 g1 tt1 te vs vs1 σ Q ws H1)) : tLc2 (iRng1 tr) g tt (iAny K tl1) g1 tt1 te vs vs1 σ H Q := h
theorem i_lc2R {vs vs1 : List Nat} {n : Nat} (hn : n < 100000) (Pv : Nat → List V → Hp → Prop) (h0 : ∀ D H', H D = none → Same H H' → H' D = some (.lst []) → (∀ b, b ≠ D → H' b = H b) → Pv 0 [] H')
    (hs : ∀ k D ys H1, H D = none → k < n → H1 D = some (.lst ys) → Pv k ys H1 → g (.int (k : Nat)) (wipe σ vs) H1 fun σ2 H2 => wipe σ2 vs = wipe σ vs ∧ tt σ2 H2 fun b H3 => if b = true then tl1 σ2 H3 fun x1 H4 => rLcIn K D (LcS D Pv (k + 1)) g1 tt1 te vs1 σ2 x1 H4 else LcS D Pv (k + 1) H3)
    (hd : ∀ D ys H1, H D = none → H1 D = some (.lst ys) → Pv n ys H1 → Q (.ref D) H1) : rLc2R K g tt tl1 g1 tt1 te vs vs1 σ Q [.int (n : Nat)] H := by
  refine ⟨_, rfl, by omega, by omega, fun D hD => ?_⟩
  rw [Int.toNat_natCast]
  refine ⟨fun i m H => m = n - i ∧ i ≤ n ∧ LcS D Pv i H, ⟨n, by simp, Nat.zero_le _, [], upd_same, h0 D _ hD (fun b o e => by rw [upd_ne (ne_of_none e hD)]; exact e) upd_same (fun b hb => upd_ne hb)⟩, ?_⟩
  rintro i m H' ⟨rfl, hi, ys, hD', p⟩
  by_cases hlt : i < n
  · refine .inr ⟨hlt, LcS D Pv (i + 1), fun H'' p' => ⟨n - (i + 1), by omega, rfl, hlt, p'⟩, fun x H'' y => ?_⟩
    obtain ⟨e, y⟩ := y
    subst e
    have := hs i D ys _ hD hlt hD' p
    obtain ⟨rfl⟩ := y
    simpa using this
  · have e : i = n := by omega
    subst e
    exact .inl ⟨Nat.le_refl _, hd D ys H' hD hD' p⟩
end
end Z

set_option Elab.async false
set_option linter.all false
set_option maxRecDepth 100000
set_option maxHeartbeats 4000000
/-! the truth of an own object; x[::-1] of a list or a tuple; xs != ys of lists of lists; a list's last item -/
namespace Z
open PySem PySem.Spec PyProof.Rows L2
section
variable {X : Cx} {k j : Nat} {f C : Addr} {sp : Sp}
/-- the truth of an instance with its own __bool__ -/
def rTruO (C : Addr) (sp : Sp) : V → Hp → (Bool → Hp → Prop) → Prop := fun x H Q => ∃ a dx fs, x = .ref a ∧ H a = some (.ins C dx fs) ∧
  sp [.ref a] H (fun v H' => ∃ r, v = .bl r ∧ Q r H') (fun _ _ _ => False)
theorem tru_own (F : FnR X.prog X.w X.K X.mg X.base (L2.CX X.prog X.w) k f sp) (hr : Room k X.A) (S : Spc X.K C "__bool__" f) : TruR X (rTruO C sp) := by
  intro pins s σ H x v Q I rx h
  obtain ⟨a, dx, fs, rfl, ea, h⟩ := h
  obtain rfl : v = Value.ref a := rx
  obtain ⟨ox, od, Ja⟩ := instAt I ea
  obtain ⟨m, fr⟩ := I.fr
  apply PySem.W.truthy_K fr I.ok.mod.kin Ja S.at_ S.fn
  refine wpAny_call (codeAny_mono (F X.A X.stack s H [.ref a] [.ref a] _ (fun _ _ _ => False) hr I.env0 (.cons rfl .nil) h) fun q s' hq => ?_)
  rcases q with e | fl
  · exact (cxN hq).elim
  rcases fl with _ | _ | _ | u'
  · exact False.elim hq
  · exact False.elim hq
  · exact False.elim hq
  obtain ⟨v', H', J', rv, r, ev, q⟩ := I.after hq
  subst ev
  obtain rfl : u' = Value.bool r := rv
  exact ⟨H', J', q⟩
def tTruO (C : Addr) (sp : Sp) (ta : TE) : TT := fun σ H Q => ta σ H fun x H' => rTruO C sp x H' Q
theorem z_truO {a : Expr} {ta : TE} (c : CalO X.prog X.w X.K X.mg X.base C "__bool__" k sp) (hr : Room j X.A) (ha : PE X a ta) (he : ∀ whole, isTrue a X.env whole = (do let v ← whole; standAt a.pos; holding [v] (truthy v))) (hj : k ≤ j := by decide) : PT X a (tTruO C sp ta) := by
  obtain ⟨f, S, sf, F⟩ := c
  exact pt_truthR ha (tru_own F (hr.mono hj) S) he
end
section
variable {prog : Program} {w : World} {A : Around} {E : Value → Shared → Prop} {s : Shared}
theorem places_back (n : Nat) : Builtin.Slice.slicePlaces ((n : Int) - 1) (-1) (-1) = n := by
  unfold Builtin.Slice.slicePlaces
  have h1 : ¬ ((-1 : Int) > 0) := by omega
  have h2 : (- (-1) : Int) = 1 := rfl
  simp only [h1, if_false, h2, Int.ediv_one]
  split <;> omega
theorem fm_congr {α β : Type} {f g : α → Option β} : ∀ {l : List α}, (∀ x ∈ l, f x = g x) → l.filterMap f = l.filterMap g
  | [], _ => rfl
  | x :: l, h => by
    rw [List.filterMap_cons, List.filterMap_cons, h x List.mem_cons_self, fm_congr fun y hy => h y (List.mem_cons_of_mem _ hy)]
theorem pick_back (xs : Array Value) : ((List.range xs.size).filterMap fun (m : Nat) => xs[(((xs.size : Int) - 1) + (m : Int) * (-1)).toNat]?).toArray = xs.toList.reverse.toArray := by
  have := PySem.W.krv_pick xs
  unfold slicePick at this
  rw [PySem.W.krv_bounds] at this
  rw [PySem.W.krv_sliceRange, List.filterMap_map] at this
  rw [← this]
  congr 1
  refine fm_congr fun m hm => ?_
  have hm := List.mem_range.mp hm
  have e : (((xs.size : Int) - 1) + (m : Int) * (-1)).toNat = xs.size - 1 - m := by omega
  rw [e]
  rfl
theorem backApplied {sl : Addr} {vs : Value} {n : Nat} {Q : Int × Int × Nat → Shared → Prop} (hs : s.heap.IsSliceOf sl .none .none vs) (ps : IsPart vs (some (-1)))
    (h : Q ((n : Int) - 1, -1, n) s) : wpAny (model prog w) A (Builtin.Slice.sliceApplied (.ref sl) (pure (n : Int))) Q E s := by
  obtain ⟨os, hos, hcs, hds⟩ := id hs
  unfold Builtin.Slice.sliceApplied Builtin.Slice.sliceFields
  refine wpAny_bind (wpAny_bind (wpAny_field hos hds (x := .none) rfl (wpAny_bind (wpAny_field hos hds (x := .none) rfl (wpAny_bind (wpAny_field hos hds (x := vs) rfl (wpAny_pure ?_)))))))
  refine wpAny_bind (HT.slicePart_ ps ?_)
  show wpAny _ _ (if ((-1 : Int) == 0) = true then _ else _) _ _ s
  rw [if_neg (by decide)]
  refine wpAny_bind (HT.slicePart_ .none (wpAny_bind (HT.slicePart_ .none (wpAny_bind (wpAny_pure ?_)))))
  have e : Builtin.Slice.sliceAdjust none none (-1) (n : Int) = ((n : Int) - 1, -1) := by
    unfold Builtin.Slice.sliceAdjust
    simp
  show wpAny _ _ (match Builtin.Slice.sliceAdjust none none (-1) (n : Int) with | (lo, hi) => pure (lo, (-1 : Int), Builtin.Slice.slicePlaces lo hi (-1))) _ _ s
  rw [e]
  show wpAny _ _ (pure ((n : Int) - 1, (-1 : Int), Builtin.Slice.slicePlaces ((n : Int) - 1) (-1) (-1))) _ _ s
  rw [places_back]
  exact wpAny_pure h
theorem tupBack {t sl : Addr} {its : Array Value} {vs : Value} {Q : Value → Shared → Prop} (ht : IsTup s.heap t its) (hs : s.heap.IsSliceOf sl .none .none vs) (ps : IsPart vs (some (-1)))
    (h : Q (.ref s.heap.objs.size) { s with heap := s.heap.push { cls := .type "tuple", data := .seq its.toList.reverse.toArray } }) (hsz : its.size ≤ sizeLine) : wpAny (model prog w) A (getItem (.ref t) (.ref sl)) Q E s := by
  have hz : sizeOk (.seq its.toList.reverse.toArray) := by
    show its.toList.reverse.toArray.size ≤ sizeLine
    simpa using hsz
  obtain ⟨os, hos, hcs, hds⟩ := id hs
  have hTs : s.TypeIs (.ref sl) "slice" := ⟨os, hos, hcs⟩
  unfold getItem; try with_reducible refine wpAny_holding ?_
  first | refine wpAny_bind (wpAny_pure ?_) | skip
  refine wpAny_bind (wpAny_sequenceKey ht.typeIs (by decide) ?_); refine wpAny_bind (wpAny_callSpecial?_slot (name := Str.ofString "__getitem__") ht.typeIs PyProof.Rows.slot_tuple_getitem (wpAny_call_entry PyProof.Rows.slot_tuple_getitem ht.typeIs entry_tuple_getitem ?_ (args_tuple_getitem _ _)))
  show wpAny _ _ (Builtin.Tuple.tupleItemsOf (.ref t) >>= _) _ _ s; refine wpAny_bind (tupleItemsOf_ ht ?_); refine wpAny_bind (wpAny_typeOf hTs ?_)
  rw [if_pos (by decide)]; refine wpAny_bind (backApplied (n := its.size) hs ps ?_)
  show wpAny _ _ (if ((((its.size : Int) - 1) == 0) && ((-1 : Int) == 1) && (its.size == its.size)) = true then _ else _) _ _ s
  rw [if_neg (by simp), pick_back]
  first
    | exact wpAny_bind (m := Builtin.Tuple.tupleExact _) (wpAny_newObj_type (wpAny_pure ⟨_, rfl, wpAny_pure h⟩) hz)
    | exact wpAny_bind (m := Builtin.Tuple.tupleExact _) (wpAny_newObj_type (wpAny_bind (wpAny_pure (wpAny_pure ⟨_, rfl, wpAny_pure h⟩))) hz)
    | exact wpAny_bind (wpAny_bind (m := Builtin.Tuple.tupleExact _) (wpAny_newObj_type (wpAny_pure (wpAny_pure ⟨_, rfl, wpAny_pure h⟩)) hz))
    | exact wpAny_bind (wpAny_bind (m := Builtin.Tuple.tupleExact _) (wpAny_newObj_type (wpAny_pure ⟨_, rfl, wpAny_pure h⟩) hz))
end
section
variable {X : Cx}
/-- x[::-1], x a list or a tuple -/
def tRevA (K : PySem.W.Frag) (te : TE) : TE := fun σ H Q => te σ H fun x H1 => ∃ a xs, x = .ref a ∧ ((SqL K H1 a xs ∧ ∀ p, H1 p = none → Q (.ref p) (upd H1 p (.lst xs.reverse))) ∨ (SqT K H1 a xs ∧ ∀ p, H1 p = none → Q (.ref p) (upd H1 p (.tup xs.reverse))))
theorem pe_revA {K : PySem.W.Frag} {e : Expr} {te : TE} {k : Nat} {p1 p2 p3 pos : Pos} (hK : X.K = K) (he : PE X e te) : PE X (.Subscript e (.Slice none none (some (.UnaryOp .USub (.Constant (.int 1) k p1) p2)) p3) pos) (tRevA K te) := by
  subst hK
  refine ⟨fun pins s σ H Q I h => ?_⟩
  refine Subscript_ (thn (he.run pins s σ H _ I h) fun v s1 ⟨x, H1, I1, r1, q1⟩ => ?_)
  obtain ⟨a, xs, ex, q⟩ := q1
  subst ex
  cases r1
  have hst : PO X (some (.UnaryOp .USub (.Constant (.int 1) k p1) p2)) (tPart (tUn (rU fun i => .int (-i)) (tC (.int 1)))) := po_some (pe_un un_neg pe_int)
  refine wpAny_Slice (thn (po_none.run pins s1 σ H1 (fun o H2 => o = none ∧ H2 = H1) I1 ⟨rfl, rfl⟩) fun vl s2 ⟨l, H2, I2, pl, el, e2⟩ => ?_)
  subst el e2
  refine thn (po_none.run pins s2 σ H2 (fun o H3 => o = none ∧ H3 = H2) I2 ⟨rfl, rfl⟩) fun vu s3 ⟨u, H3, I3, pu, eu, e3⟩ => ?_
  subst eu e3
  refine thn (hst.run pins s3 σ H3 (fun o H4 => o = some (-1) ∧ H4 = H3) I3 ⟨1, rfl, -1, rfl, rfl, rfl⟩) fun vs s4 ⟨o, H4, I4, ps, eo, e4⟩ => ?_
  subst eo e4
  have I5 : Inv X pins σ H4 { s4 with heap := s4.heap.push { cls := .type "slice", data := .fields #[vl, vu, vs] } } := I4.kept (t' := s4.toks) fun b ob q => Heap.get?_push_of_some _ q
  cases pl
  cases pu
  rcases q with ⟨hx, q⟩ | ⟨hx, q⟩
  · obtain ⟨its, r, ht, hz⟩ := I5.list hx
    have hlen := r.length
    show wpAny (model X.prog X.w) X.A (subscriptTail e (.Slice none none (some (.UnaryOp .USub (.Constant (.int 1) k p1) p2)) p3) (.ref a) (.ref s4.heap.objs.size)) (EP X pins σ Q) X.xe _
    refine tail_any (ops := [.ref a, .ref s4.heap.objs.size]) ht.isList.typeIs (PySem.slot_list_getitem.lookup) ?_ (by with_unfolding_all rfl)
    refine wpAny_getItem_list_slice ht.isList (Heap.IsSliceOf.new _ _ _ vs) .none .none ps (by decide) ?_ (by rw [List.size_toArray]; omega)
    rw [PySem.W.krv_pick]
    refine ⟨.ref _, _, I5.laid (t' := s4.toks) (o := .lst xs.reverse) (fun b ob q => Heap.get?_push_of_some _ q) (Nat.le_refl _) ?_, rfl, q _ (I5.hok.fresh (Nat.le_refl _))⟩
    exact ⟨by rw [List.length_reverse]; exact hz, _, 0, r.reverse, Heap.get?_push_size _ rfl⟩
  · obtain ⟨its, r, ht, hz⟩ := I5.tuple hx
    have hlen := r.length
    show wpAny (model X.prog X.w) X.A (subscriptTail e (.Slice none none (some (.UnaryOp .USub (.Constant (.int 1) k p1) p2)) p3) (.ref a) (.ref s4.heap.objs.size)) (EP X pins σ Q) X.xe _
    refine tail_any (ops := [.ref a, .ref s4.heap.objs.size]) ht.typeIs PyProof.Rows.slot_tuple_getitem.lookup ?_ (by with_unfolding_all rfl)
    refine tupBack ht (Heap.IsSliceOf.new _ _ _ vs) ps ?_ (by rw [List.size_toArray]; omega)
    refine ⟨.ref _, _, I5.laid (t' := s4.toks) (o := .tup xs.reverse) (fun b ob q => Heap.get?_push_of_some _ q) (Nat.le_refl _) ?_, rfl, q _ (I5.hok.fresh (Nat.le_refl _))⟩
    exact ⟨by rw [List.length_reverse]; exact hz, _, r.reverse, IsTup.new _ _⟩
theorem u1n {k : Nat} {A : Around} (r : Room k A) : A.units + 1 < cLine := by have := r.units; omega
/-- xs != ys, lists of lists of the very same objects -/
def rNeLL : R2 := fun x y H Q => ∃ a b ls ms, x = .ref a ∧ y = .ref b ∧ H a = some (.lst ls) ∧ H b = some (.lst ms) ∧ ls.length = ms.length ∧
  (∀ (i : Nat) (u v : V), ls[i]? = some u → ms[i]? = some v → ∃ p q xs, u = .ref p ∧ v = .ref q ∧ p ≠ q ∧ H p = some (.lst xs) ∧ H q = some (.lst xs) ∧ ∀ z ∈ xs, ∃ r, z = .ref r) ∧ Q (.bl false) H
theorem vals_one {zs : List V} (hz : ∀ z ∈ zs, ∃ p, z = .ref p) {us vs : List Value} (r1 : Vals zs us) (r2 : Vals zs vs) : us = vs := by
  induction zs generalizing us vs with
  | nil =>
    cases r1; cases r2; rfl
  | cons z zs ih =>
    cases r1 with
    | cons a1 t1 =>
      cases r2 with
      | cons a2 t2 =>
        obtain ⟨p, ep⟩ := hz z (by simp)
        subst ep
        cases a1; cases a2
        rw [ih (fun z h => hz z (by simp [h])) t1 t2]
theorem z_neLL (hu : X.A.units + 1 < cLine) : OpR X (compareOp .NotEq) rNeLL := by
  intro pins s σ H x y v u Q I rx ry h
  obtain ⟨a, b, ls, ms, rfl, rfl, ha, hb, hl, hz, q⟩ := h
  obtain rfl : v = Value.ref a := rx
  obtain rfl : u = Value.ref b := ry
  obtain ⟨_, its, n, rv, e⟩ := (show ObjOk X.prog X.w H s.heap a (.lst ls) from I.hok a _ ha)
  obtain ⟨_, its2, n2, rv2, e2⟩ := (show ObjOk X.prog X.w H s.heap b (.lst ms) from I.hok b _ hb)
  have l1 := rv.length
  have l2 := rv2.length
  show wpAny _ X.A (richCompare .NotEq _ _) _ _ s
  refine SeqAt.RcNeAt.lists (e := fun _ => true) ⟨_, e, rfl, n, rfl⟩ ⟨_, e2, rfl, n2, rfl⟩ (by simp; omega) (by omega) (fun j h1 h2 => ?_) X.prog X.w _ _ ?_
  · have j1 : j < its.length := by simpa using h1
    have j2 : j < its2.length := by simpa using h2
    obtain ⟨u1, g1, r1⟩ := rv.get (List.getElem?_eq_getElem (show j < ls.length by omega))
    obtain ⟨u2, g2, r2⟩ := rv2.get (List.getElem?_eq_getElem (show j < ms.length by omega))
    obtain ⟨p, t, xs, ep, et, hne, hp, ht, hr⟩ := hz j _ _ (List.getElem?_eq_getElem (show j < ls.length by omega)) (List.getElem?_eq_getElem (show j < ms.length by omega))
    rw [ep] at r1
    rw [et] at r2
    obtain rfl : u1 = Value.ref p := r1
    obtain rfl : u2 = Value.ref t := r2
    have f1 : its.toArray[j] = Value.ref p := by
      rw [List.getElem?_eq_getElem j1] at g1
      simpa using Option.some.inj g1
    have f2 : its2.toArray[j] = Value.ref t := by
      rw [List.getElem?_eq_getElem j2] at g2
      simpa using Option.some.inj g2
    rw [f1, f2]
    obtain ⟨_, i1, n3, rv3, e3⟩ := (show ObjOk X.prog X.w H s.heap p (.lst xs) from I.hok p _ hp)
    obtain ⟨_, i2, n4, rv4, e4⟩ := (show ObjOk X.prog X.w H s.heap t (.lst xs) from I.hok t _ ht)
    obtain rfl := vals_one hr rv3 rv4
    have key := SeqAt.RcAt.lists (A := X.A.in1) (s := s) (e := fun _ => true) ⟨_, e3, rfl, n3, rfl⟩ ⟨_, e4, rfl, n4, rfl⟩ rfl (by show X.A.units + 1 < cLine; omega) (fun j h1 h2 => SeqAt.EqAt.same _)
    have ea : (List.range i1.toArray.size).all (fun _ => true) = true := by simp
    rw [ea] at key
    exact SeqAt.EqAt.of_refs hne key
  · refine ⟨.bl false, H, I, ?_, q⟩
    have : (List.range its.toArray.size).all (fun _ => true) = true := by simp
    rw [this]
    rfl
end
/-! ### read -/
section
variable {K : PySem.W.Frag} {σ : L2.St} {H : Hp} {te : TE} {Q : VK} {a : Addr} {xs : List V} {n : Nat}
theorem i_popR {v : V} (h : H a = some (.lst (xs ++ [v]))) (q : ∀ H', H' a = some (.lst xs) → (∀ b, b ≠ a → H' b = H b) → Q v H') : rPop (.ref a) [] H Q :=
  ⟨a, _, v, rfl, rfl, h, by simp, q _ (by rw [upd_same, List.dropLast_concat]) fun b hb => upd_ne hb⟩
def rRevA (K : PySem.W.Frag) (x : V) (H1 : Hp) (Q : VK) : Prop := ∃ a xs, x = .ref a ∧ ((SqL K H1 a xs ∧ ∀ p, H1 p = none → Q (.ref p) (upd H1 p (.lst xs.reverse))) ∨ (SqT K H1 a xs ∧ ∀ p, H1 p = none → Q (.ref p) (upd H1 p (.tup xs.reverse))))
theorem i_revA0 (h : te σ H (fun x H1 => rRevA K x H1 Q)) : tRevA K te σ H Q := h
theorem i_revA (s : SqA K H a xs) (h : ∀ p H', H p = none → Same H H' → SqA K H' p xs.reverse → (∀ b, b ≠ p → H' b = H b) → Q (.ref p) H') : rRevA K (.ref a) H Q := by
  have sm : ∀ {p : Addr} {o : HO}, H p = none → Same H (upd H p o) := fun hp b q e => by rw [upd_ne (ne_of_none e hp)]; exact e
  refine ⟨a, xs, rfl, ?_⟩
  rcases s with s | s
  · exact .inl ⟨s, fun p hp => h p _ hp (sm hp) (.l upd_same) fun b hb => upd_ne hb⟩
  · exact .inr ⟨s, fun p hp => h p _ hp (sm hp) (.t upd_same) fun b hb => upd_ne hb⟩
theorem i_truO0 {C : Addr} {sp : Sp} {P : Bool → Hp → Prop} (h : te σ H (fun x H1 => rTruO C sp x H1 P)) : tTruO C sp te σ H P := h
end
end Z

set_option Elab.async false
set_option linter.all false
set_option maxRecDepth 100000
set_option maxHeartbeats 4000000
/-! a def called within an except suite, whatever is handled there -/
namespace Z
open PySem PySem.Spec PyProof.Rows L2 L2H
structure FnL (P : Program) (w : World) (K : PySem.W.Frag) (mg : Str → Option Value) (base : Heap) (k : Nat) (f : Addr) (fd : FuncData) (ps : List Str) (sp : Sp) : Prop where
  len : ∀ vs H Q E, sp vs H Q E → vs.length = ps.length
  run : ∀ (A : Around) (outer : List Env) (s : Shared) (H : Hp) (args : Args) (us : List Value) (vs : List V) (Q : VK) (E : XK) (p : Addr × Obj), RoomH k A → PinOk outer H s p → Env0 P w K mg base A outer s H → BindsTo s fd args (ps.zip us) → Vals vs us → sp vs H Q E → codeAny (model P w) A (.call (.ref f) args) (CR (L2.CX P w) outer P w H s Q E) s
theorem fnL_of {P : Program} {w : World} {K : PySem.W.Frag} {mg : Str → Option Value} {base : Heap} {k : Nat} {f : Addr} {x qual : Str} {st : Stmt} {fd : FuncData} {N ps : List Str} {sp : Sp} (F : L2.Fun K x qual st f fd) (S : FnScope N ps (defScope st)) (len : ∀ vs H Q E, sp vs H Q E → vs.length = ps.length)
    (hbody : ∀ (cdv : Value) (A : Around) (outer : List Env) (s : Shared) (H : Hp) (vs : List V) (Q : VK) (E : XK) (p : Addr × Obj), RoomH k (A.deeper (envOfC qual (defScope st) s.heap.objs.size f cdv)) → sp vs H Q E →
      ∃ t, PSs (cxH (L2.CX P w) P w K mg base N qual (defScope st) f cdv A outer s H E p) (defBody st) t ∧ t { nx := fun _ H' => Q .non H', rt := Q } (L2.start N vs) H) : FnL P w K mg base (k + 1) f fd ps sp := by
  obtain ⟨oc, od, kV, doc, pm, an, cdv, ct, osl, rfl, lk, hcd⟩ := F.ex
  refine ⟨len, fun A outer s H args us vs Q E p hr hpin e0 hb r hsp => ?_⟩
  have hl := len _ _ _ _ hsp
  have KX : K.In s.heap := e0.mod.kin.keeps (fun b o e => (e0.bs b o e).1); have lim : s.heap.NoLimit := e0.mod.nolimit.keeps fun b o e => (e0.bs b o e).1
  have kinds : ∀ y ∈ ps.zip us, (defScope st).names.lookup y.1 = some .local ∨ ((defScope st).names.lookup y.1 = some .cell ∧ ((cellsFrom (s.heap.objs.size + 1) (defScope st).names []).lookup y.1).isSome = true) := by
    rintro ⟨n, v⟩ hy
    exact (S.par n (List.of_mem_zip hy).1).elim .inl fun q => .inr ⟨q, PySem.W.cellsFrom_some _ _ _ (.inl q)⟩
  refine codeAny_call_function hr.depth (KX _ _ lk) rfl S.co S.gen rfl (PySem.W.codeRec_of KX hcd) (hb _ _ _ _ (wpAny_newFunctionEnv_cells S.kind kinds fun env he s1 x => ?_))
  subst he
  obtain ⟨t, ht, hq⟩ := hbody cdv A outer s H vs Q E p (hr.deeper _) hsp
  refine ⟨lim.keeps x.toInCall.keep, codeAny_func (wpAny_mono (ht.run [] s1 (L2.start N vs) H _ (inv_startH (CX := L2.CX P w) S hpin e0 hl r x) hq) (fun fl s' hs => ?_) fun e s' hs => hs)⟩
  rcases fl with _ | _ | _ | u
  · obtain ⟨σ', H', J, q⟩ := hs
    exact ⟨.non, H', J.os, J.bare, J.base, J.hok, rfl, q⟩
  · obtain ⟨_, _, _, q⟩ := hs; exact False.elim q
  · obtain ⟨_, _, _, q⟩ := hs; exact False.elim q
  · obtain ⟨v, σ', H', J, rv, q⟩ := hs
    exact ⟨v, H', J.os, J.bare, J.base, J.hok, rv, q⟩
/-- such a def by its name -/
def CalL (P : Program) (w : World) (K : PySem.W.Frag) (mg : Str → Option Value) (base : Heap) (x : Str) (k : Nat) (sp : Sp) : Prop := ∃ f fd ps, mg x = some (.ref f) ∧ PySem.W.keepIn K (.ref f) = true ∧ Binds K fd ps [] ∧ FnL P w K mg base k f fd ps sp
theorem roomL {k : Nat} {A : Around} {v : Option Value} (r : Room k A) : RoomH k (A.mark v) := ⟨r.dp, r.un⟩
theorem z_callL {X : Cx} {k j : Nat} {x : Str} {sp : Sp} {q pos : Pos} {e : Expr} {es : List Expr} {t : TA} {p : Addr × Obj} (c : CalL X.prog X.w X.K X.mg X.base x k sp) (hr : RoomH j X.A) (hp : p ∈ X.pn) (hx : ∀ σ, PassesAt (L2.CX X.prog X.w) X σ (EN σ)) (ha : PA X (e :: es) t) (hj : k ≤ j := by decide) (hg : Gl X x := by rfl)
    (hdb : (x == ("__debug__" : Str)) = false := by decide) (he : starEach (e :: es) X.env = (false, eval e X.env) :: starEach es X.env := by rfl) (hpl : (backTo pos (starEach es X.env)).any (·.1) = false := by rfl) :
    PE X (.Call (.Name x q) (e :: es) [] pos) (tCallS sp EN t) := by
  obtain ⟨f, fd, ps, hm, hk, hb, F⟩ := c
  refine ⟨fun pins s σ H Q I h => wpAny_Call_Name_kw (ld_glob I hg hm ?_ hdb)⟩
  refine PySem.W.callWith_K (h₀ := X.base) I.ok.mod.kin hk (thn (ha.run pos pins s σ H _ I h) fun us s1 ⟨vs, H1, I1, r, q⟩ => ⟨I1.kIn, ?_⟩) he hpl
  have hl : us.length = ps.length := by rw [← r.length]; exact F.len _ _ _ _ q
  have b := hb s1 us I1.kIn (by rw [List.append_nil]; exact hl)
  rw [List.append_nil] at b
  have P1 := I1.pin p (List.mem_append_left _ hp)
  have pk : PinOk X.stack H1 s1 p := ⟨P1.1, P1.2.1, (fun hm => (List.mem_cons.mp (I1.stkSub p.1 hm)).elim P1.2.2.1 P1.2.2.2.1), P1.2.2.2.2⟩
  refine wpAny_call (codeAny_mono (F.run X.A X.stack s1 H1 ⟨us, []⟩ us vs Q (EN σ) p (hr.mono hj) pk I1.env0 b r q) fun r s' hq => ?_)
  rcases r with e | fl
  · exact hx σ pins H1 s1 e s' I1 hq
  rcases fl with _ | _ | _ | u
  · exact False.elim hq
  · exact False.elim hq
  · exact False.elim hq
  · exact I1.after hq
theorem mk_calL {P : Program} {w : World} {K : PySem.W.Frag} {mg : Str → Option Value} {base h : Heap} {x : Str} {f : Addr} {fd : FuncData} {ps : List Str} {k : Nat} {sp : Sp} (X : K.In h) (G : h.Ns mainGlobals mg) (a : PySem.W.nsIn K mainGlobals x = some (some (.ref f))) (kk : PySem.W.keepIn K (.ref f) = true) (b : Binds K fd ps []) (F : FnL P w K mg base k f fd ps sp) :
    CalL P w K mg base x k sp := ⟨f, fd, ps, PySem.W.mg_of X G a, kk, b, F⟩
theorem kit_b {K : PySem.W.Frag} {C : Addr} {T : String} {b : Bool} (h : PySem.W.kitMeta T = true) (e : PySem.W.subIn K (.ref C) (.type T) = some b) : PySem.W.kitOne K (.ref C) (.type T) = some b := by
  unfold PySem.W.kitOne
  rw [if_neg (by simp)]
  unfold PySem.W.kitCls
  show (if PySem.W.kitMeta T = true then PySem.W.subIn K (.ref C) (.type T) else none) = some b
  rw [if_pos h, e]
end Z

set_option Elab.async false
set_option linter.all false
set_option maxRecDepth 100000
set_option maxHeartbeats 4000000
/-! errors that are made and not raised; isinstance of them; {x!s} of own things -/
namespace Z
open PySem PySem.Spec PyProof.Rows L2
section
variable {X : Cx} {C : Addr} {k j : Nat} {sp : Sp} {x : Str} {e : Expr} {es : List Expr} {t : TA} {te : TE} {p pos : Pos}
/-- C(e, ..), C an error class: the new object -/
def tMkV (C : Addr) (sp : Sp) (ta : TA) : TE := fun σ H Q => ta σ H fun vs H1 => vs.length ≤ 1000 ∧ ∀ a, H1 a = none → sp (.ref a :: (vs ++ [])) (upd H1 a (exo a C none)) (fun v H2 => v = .non ∧ Q (.ref a) H2) (fun _ _ _ => False)
theorem runMkV {pins : List (Addr × Obj)} {σ : L2.St} {H1 : Hp} {s1 : Shared} {Q : VK} {us : List Value} {vs : List V} {fI : Addr} {fd : FuncData} {ps : List Str} (T : OexC X.K C) (iC : PySem.W.findIn X.K (.ref C) "__init__" = some (some (.ref fI))) (tI : PySem.W.typeIn X.K (.ref fI) = some (.type "function"))
    (F1 : FnOk X.prog X.w X.K X.mg X.base (L2.CX X.prog X.w) k fI fd ps sp) (hr : Room (k + 1) X.A) (hb : Binds X.K fd ps []) (I1 : Inv X pins σ H1 s1) (r1 : Vals vs us) (hz : vs.length ≤ 1000)
    (q1 : ∀ a, H1 a = none → sp (.ref a :: (vs ++ [])) (upd H1 a (exo a C none)) (fun v H2 => v = .non ∧ Q (.ref a) H2) (fun _ _ _ => False)) : wpAny (model X.prog X.w) X.A (call (.ref C) us) (EP X pins σ Q) X.xe s1 := by
  obtain ⟨nm, q, N, bs, bm, sn, sub, ab, col, dd, k0, k1, k2, k3, k5, hC, hbm⟩ := T.cls
  obtain ⟨hp, g, dr, tk, os⟩ := s1
  have hsz : hp.objs.size ≤ hp.objs.size + 1 := Nat.le_succ _
  have hn : H1 (hp.objs.size + 1) = none := I1.hok.fresh hsz
  have hq := q1 (hp.objs.size + 1) hn
  have kk : ∀ b o, hp.get? b = some o → ((hp.push (PySem.W.kdv_tup us)).push (PySem.HandSPX.excO C hp.objs.size)).get? b = some o := fun b o e => Heap.get?_push_of_some _ (Heap.get?_push_of_some _ e)
  have hget : ((hp.push (PySem.W.kdv_tup us)).push (PySem.HandSPX.excO C hp.objs.size)).get? (hp.objs.size + 1) = some (PySem.HandSPX.excO C hp.objs.size) := by heap_get
  have I2 : Inv X pins σ (upd H1 (hp.objs.size + 1) (exo (hp.objs.size + 1) C none)) ⟨(hp.push (PySem.W.kdv_tup us)).push (PySem.HandSPX.excO C hp.objs.size), g, dr, tk, os⟩ :=
    I1.laid (t' := tk) (a := hp.objs.size + 1) (o := exo (hp.objs.size + 1) C none) (h' := (hp.push (PySem.W.kdv_tup us)).push (PySem.HandSPX.excO C hp.objs.size)) kk hsz (exo_ok hget)
  have r2 : Vals (V.ref (hp.objs.size + 1) :: (vs ++ [])) (Value.ref (hp.objs.size + 1) :: (us ++ [])) := .cons rfl (r1.append .nil)
  have hl : (Value.ref (hp.objs.size + 1) :: us ++ []).length = ps.length := by
    have e := r2.length
    rw [F1.len _ _ _ _ hq] at e
    exact e.symm
  have hus : us.length ≤ sizeLine := by
    rw [← Paired.length r1, sizeLine_eq]
    omega
  have hbb := hb _ (Value.ref (hp.objs.size + 1) :: us) I2.kIn hl
  rw [List.cons_append] at hbb
  refine wpAny_call (PySem.HandSPX.call_own F.excBase_ValueError (fun Y => PySem.HandSPX.refsVE_contains Y bm hbm) (I1.kIn _ _ hC) (PySem.W.looks_findIn I1.kIn iC) (fun self => PySem.W.bind_fn I1.kIn self tI) hus
    (codeAny_mono (F1.run _ X.stack _ _ ⟨Value.ref (hp.objs.size + 1) :: us, []⟩ (Value.ref (hp.objs.size + 1) :: (us ++ [])) _ _ (fun _ _ _ => False) (hr.make C us []) (I2.env0.make C us []) hbb r2 hq) fun r s' hq' => ?_))
  cases r with
  | error er => exact (cxN hq').elim
  | ok fl =>
    cases fl with
    | ret u =>
      obtain ⟨v, H', I3, rv, ev, q3⟩ := I2.after hq'
      subst ev
      exact ⟨rv, .ref (hp.objs.size + 1), H', I3, rfl, q3⟩
    | next => exact False.elim hq'
    | brk => exact False.elim hq'
    | cont => exact False.elim hq'
theorem z_mkV {ps : List Str} (c : CalX X.prog X.w X.K X.mg X.base x C k ps sp) (hr : Room j X.A) (ha : PA X (e :: es) t) (hj : k + 1 ≤ j := by decide) (hg : Gl X x := by rfl)
    (hdb : (x == ("__debug__" : Str)) = false := by decide) (he : starEach (e :: es) X.env = (false, eval e X.env) :: starEach es X.env := by rfl)
    (hpl : (backTo pos (starEach es X.env)).any (·.1) = false := by rfl) : PE X (.Call (.Name x p) (e :: es) [] pos) (tMkV C sp t) := by
  obtain ⟨hm, T, fI, fd, iC, tI, F, b⟩ := c
  refine ⟨fun pins s σ H Q I h => ?_⟩
  refine wpAny_Call_Name_kw (ld_glob I hg hm ?_ hdb)
  refine PySem.W.callWith_K (h₀ := X.base) I.ok.mod.kin T.kC (thn (ha.run pos pins s σ H _ I h) fun us s1 ⟨vs, H1, I1, r1, hz, q1⟩ => ⟨I1.kIn, ?_⟩) he hpl
  exact runMkV T iC tI F (hr.mono hj) b I1 r1 hz q1
theorem z_mkV0 {ps : List Str} (c : CalX X.prog X.w X.K X.mg X.base x C k ps sp) (hr : Room j X.A) (hj : k + 1 ≤ j := by decide) (hg : Gl X x := by rfl)
    (hdb : (x == ("__debug__" : Str)) = false := by decide) : PE X (.Call (.Name x p) [] [] pos) (tMkV C sp tNil) := by
  obtain ⟨hm, T, fI, fd, iC, tI, F, b⟩ := c
  refine ⟨fun pins s σ H Q I h => ?_⟩
  refine wpAny_Call_Name_kw (ld_glob I hg hm ?_ hdb)
  have h' : (([] : List V).length ≤ 1000 ∧ ∀ a, H a = none → sp (.ref a :: ([] ++ [])) (upd H a (exo a C none)) (fun v H2 => v = .non ∧ Q (.ref a) H2) (fun _ _ _ => False)) := h
  exact PySem.W.callWith_K0 I.kIn T.kC (runMkV (us := []) T iC tI F (hr.mono hj) b I .nil h'.1 h'.2)
/-- isinstance(e, c), e an error that stands -/
def rIsX (K : PySem.W.Frag) : List V → Hp → VK → Prop := fun xs H Q => ∃ (a D : Addr) (d : Option Addr) (c : V) (u : Value) (b : Bool), xs = [.ref a, c] ∧ ClsV c u ∧ ExcC K D ∧ H a = some (exo a D d) ∧ (∀ dd, d = some dd → ∃ fs, H dd = some (exd dd fs)) ∧ PySem.W.kitOne K (.ref D) u = some b ∧ Q (.bl b) H
theorem call_isX : CallR X (.builtin "isinstance") (rIsX X.K) := by
  intro pins s σ H xs us Q I r h
  obtain ⟨a, D, d, c, u, b, rfl, k, CD, ha, hd, e, q⟩ := h
  obtain ⟨u1, u2, rfl, r1, r2⟩ := vals2 r
  have e2 := k.eq r2
  subst e2
  obtain rfl : u1 = Value.ref a := r1
  obtain ⟨t1, ho⟩ := exo_at I.hok ha
  have hcl : (PySem.W.clsIn X.K D).isSome = true := by
    obtain ⟨cd, hc, _⟩ := PySem.W.any_some CD.hd
    rw [hc]
    rfl
  have go : ∀ od, PySem.W.InstAt s.heap a { cls := .ref D, dict := d, data := .fields #[.ref t1, .none, .none, .none, .bool false, .none] } D od → wpAny (model X.prog X.w) X.A (call (.builtin "isinstance") [.ref a, u2]) (EP X pins σ Q) X.xe s := fun od J =>
    PySem.W.kia_one (PySem.W.kitx_exc hcl CD.hg CD.hk CD.hs CD.ha CD.hn CD.ht CD.hm) I.kIn J e (fun z => nomatch z) fun tk => ⟨.bl b, H, I.tok tk, rfl, q⟩
  cases d with
  | none => exact go none ⟨ho, rfl, rfl, trivial⟩
  | some dd =>
    obtain ⟨fs, hdd⟩ := hd dd rfl
    obtain ⟨mA, hns, hr⟩ := exd_at I.hok hdd
    obtain ⟨od, ho2, hl⟩ := lookIn_ns hns
    exact go (some od) ⟨ho, rfl, rfl, ho2⟩
theorem k_isX {K : PySem.W.Frag} (hK : X.K = K) : CallR X (.builtin "isinstance") (rIsX K) := by
  subst hK
  exact call_isX
/-- {x!s}, x an instance with its own __str__ -/
def tFmtSO (C : Addr) (sp : Sp) (te : TE) : TE := fun σ H Q => te σ H fun x H1 => ∃ a dx fs, x = .ref a ∧ H1 a = some (.ins C dx fs) ∧ sp [.ref a] H1 (fun v H' => ∃ z, v = .str z ∧ z.length ≤ 100000 ∧ Q (.str z) H') (fun _ _ _ => False)
theorem pe_fmtSO (c : CalO X.prog X.w X.K X.mg X.base C "__str__" k sp) (hr : Room j X.A) (he : PE X e te) (hj : k + 2 ≤ j := by decide) : PE X (.FormattedValue e 115 none pos) (tFmtSO C sp te) := by
  obtain ⟨f, S, sf, F⟩ := c
  have hr := hr.mono hj
  refine ⟨fun pins s σ H Q I h => ?_⟩
  refine wpAny_FormattedValue_s (thn (he.run pins s σ H _ I h) fun v s1 ⟨x, H1, I1, r1, q⟩ => ?_)
  obtain ⟨a, dx, fs, rfl, ea, h⟩ := q
  obtain rfl : v = Value.ref a := r1
  show wpAny _ _ (pyStrObj (.ref a)) _ _ _
  obtain ⟨ox, od, Ja⟩ := instAt I1 ea
  unfold pyStrObj
  refine wpAny_bind (m := cRoomFor _ _) (wpAny_cRoomFor hr.units0 ?_)
  refine wpAny_bind (m := callSpecial? (.ref a) (Str.ofString "__str__")) (PySem.W.special_fn I1.kIn Ja S.at_ (beq_iff_eq.mp S.fn) ?_)
  have hr1 : Room k X.A := hr.mono (by omega)
  refine wpAny_call (codeAny_mono (F X.A X.stack s1 H1 [.ref a] [.ref a] _ (fun _ _ _ => False) hr1 I1.env0 (.cons rfl .nil) h) fun q s' hq => ?_)
  rcases q with e | fl
  · exact (cxN hq).elim
  rcases fl with _ | _ | _ | u'
  · exact False.elim hq
  · exact False.elim hq
  · exact False.elim hq
  obtain ⟨v', H', J', rv, z, ev, hz, q⟩ := I1.after hq
  subst ev
  obtain ⟨t, rfl⟩ := rv
  refine wpAny_bind (wpAny_isInstance (b := true) (typeIs_str _ _ _) isSubtype_str_str ?_)
  refine wpAny_pure ?_
  exact wpAny_formatField_str ⟨.str z, H', J', ⟨_, rfl⟩, q⟩ ⟨.str z, H', J'.tok _, ⟨_, rfl⟩, q⟩ (Nat.le_trans hz (by rw [sizeLine_eq]; decide))
/-- [x] * k -/
def rMulLI : R2 := fun x y H Q => ∃ (a : Addr) (v : V) (k : Nat), x = .ref a ∧ y = .int k ∧ H a = some (.lst [v]) ∧ k ≤ 1000 ∧ ∀ p, H p = none → Q (.ref p) (upd H p (.lst (List.replicate k v)))
theorem op_mulLI : OpR X (binaryOp .Mult) rMulLI := by
  intro pins s σ H x y v u Q I rx ry h
  obtain ⟨a, v1, k, rfl, rfl, ha, hk, q⟩ := h
  obtain rfl : v = Value.ref a := rx
  obtain ⟨tk, rfl⟩ := ry
  obtain ⟨hz0, its, n, rv, ho⟩ := (show ObjOk X.prog X.w H s.heap a (.lst [v1]) from I.hok a _ ha)
  have l1 : its.length = 1 := by rw [← rv.length]; rfl
  have key : ∀ z : Int, z = (k : Nat) → wpAny (model X.prog X.w) X.A (binaryOp .Mult (.ref a) (.int z tk)) (EP X pins σ Q) X.xe s := fun z hzk => by
    have hm : its.toArray.size * z.toNat = k := by rw [hzk, List.size_toArray, l1, Int.toNat_natCast, Nat.one_mul]
    have c0 : ¬(!Builtin.List.listFitsIndex z) = true := by
      unfold Builtin.List.listFitsIndex
      simp
      omega
    refine wpAny_binaryOp_repeat_ref (T := "list") (U := "int") (by decide) ⟨_, ho, rfl⟩ (fun s' => typeIs_int s' _ tk) noFill_list_mul F.fills_int_mul F.slot_int_rmul repeat_list F.slot_int_index.lookup
      (call_meets F.slot_int_rmul (typeIs_int s _ tk) F.entry_int_rmul (F.args_int_rmul_2 _ _) (int___rmul___int_list z tk a its.toArray n)
        ⟨ho, rfl, ⟨_, ho, rfl⟩, call_meets F.slot_list_mul ⟨_, ho, rfl⟩ F.entry_list_mul (F.args_list_mul_2 _ _)
          (AutoListH.list___mul___list_int_3 a its.toArray n z tk c0 (by rw [hm]; omega) (by rw [hm]; unfold Builtin.List.listTooLong; rw [sizeLine_eq, decide_eq_true_eq]; omega))
          ⟨ho, ?_⟩⟩)
    rw [listMul_foldl_if, hzk, Int.toNat_natCast]
    obtain ⟨u1, rfl⟩ : ∃ u1, its = [u1] := by
      match its, l1 with
      | [u1], _ => exact ⟨u1, rfl⟩
    obtain ⟨rv1, _⟩ : RelV v1 u1 ∧ True := by
      cases rv with
      | cons r t => exact ⟨r, trivial⟩
    have rep : ∀ k : Nat, Vals (List.replicate k v1) (List.replicate k [u1]).flatten := by
      intro k
      induction k with
      | zero => exact .nil
      | succ k ih =>
        rw [List.replicate_succ, List.replicate_succ, List.flatten_cons]
        exact .cons rv1 ih
    have hv := rep k
    have hl : (List.replicate k v1).length ≤ sizeLine := by rw [List.length_replicate, sizeLine_eq]; omega
    have hlist : [u1].toArray.toList = [u1] := rfl
    rw [hlist]
    refine ⟨.ref s.heap.objs.size, upd H s.heap.objs.size (.lst (List.replicate k v1)), I.laid (t' := s.toks) (fun b o e => Heap.get?_push_of_some _ e) (Nat.le_refl _) ⟨hl, _, 0, hv, Heap.get?_push_size _ rfl⟩, rfl, q _ (I.hok.fresh (Nat.le_refl _))⟩
  exact key _ rfl
end
/-! ### a def with a star parameter, as a classmethod -/
section
variable {P : Program} {w : World} {K : PySem.W.Frag} {mg : Str → Option Value} {base : Heap}
/-- what a call of def f(a, *v) asks: sp of the new tuple -/
def spStar (n : Nat) (sp : Sp) : Sp := fun vs H Q E => ∃ ws rest, vs = ws ++ rest ∧ ws.length = n ∧ rest.length ≤ sizeLine ∧ ∀ p, H p = Option.none → sp (ws ++ [V.ref p]) (upd H p (.tup rest)) Q E
theorem fnS_mk {x qual : Str} {st : Stmt} {f : Addr} {fd : FuncData} {N ps : List Str} {pv : Str} {k : Nat} {sp : Sp} (F : L2.Fun K x qual st f fd) (S : FnScope N (ps ++ [pv]) (defScope st))
    (hb : ∀ (kV doc pm : Value) (an : Option Addr) (cdv ct : Value) (us rest : List Value), us.length = ps.length → bindArgs (PySem.W.fnOf x qual (defArgs st) (defBody st) (defScope st) .none kV doc pm an cdv ct) ⟨us ++ rest, []⟩ = (newTuple rest >>= fun t => pure (ps.zip us ++ [(pv, t)])))
    (hbody : ∀ (cdv : Value) (A : Around) (outer : List Env) (s : Shared) (H : Hp) (vs : List V) (Q : VK) (E : XK), Room k (A.deeper (envOfC qual (defScope st) s.heap.objs.size f cdv)) → sp vs H Q E →
      ∃ t, PSs (cxOf (L2.CX P w) P w K mg base N qual (defScope st) f cdv A outer s H E) (defBody st) t ∧ t { nx := fun _ H' => Q .non H', rt := Q } (start N vs) H) : FnR P w K mg base (L2.CX P w) (k + 1) f (spStar ps.length sp) := by
  obtain ⟨oc, od, kV, doc, pm, an, cdv, ct, osl, rfl, lk, hcd⟩ := F.ex
  exact StX.fn_star lk hcd S StX.cxUp (hb _ _ _ _ _ _) (hbody cdv)
theorem fnS_mk1 {x qual : Str} {st : Stmt} {f : Addr} {fd : FuncData} {N : List Str} {p1 pv : Str} {k : Nat} {sp : Sp} (F : L2.Fun K x qual st f fd) (S : FnScope N [p1, pv] (defScope st))
    (h0 : ∀ (kV doc pm : Value) (an : Option Addr) (cdv ct : Value) (a : Value), bindArgs (PySem.W.fnOf x qual (defArgs st) (defBody st) (defScope st) .none kV doc pm an cdv ct) ⟨[a], []⟩ = (newTuple [] >>= fun t => pure [(p1, a), (pv, t)]))
    (h1 : ∀ (kV doc pm : Value) (an : Option Addr) (cdv ct : Value) (a r : Value) (rs : List Value), bindArgs (PySem.W.fnOf x qual (defArgs st) (defBody st) (defScope st) .none kV doc pm an cdv ct) ⟨a :: r :: rs, []⟩ = (newTuple (r :: rs) >>= fun t => pure [(p1, a), (pv, t)]))
    (hbody : ∀ (cdv : Value) (A : Around) (outer : List Env) (s : Shared) (H : Hp) (vs : List V) (Q : VK) (E : XK), Room k (A.deeper (envOfC qual (defScope st) s.heap.objs.size f cdv)) → sp vs H Q E →
      ∃ t, PSs (cxOf (L2.CX P w) P w K mg base N qual (defScope st) f cdv A outer s H E) (defBody st) t ∧ t { nx := fun _ H' => Q .non H', rt := Q } (start N vs) H) : FnR P w K mg base (L2.CX P w) (k + 1) f (spStar 1 sp) :=
  fnS_mk (ps := [p1]) (pv := pv) F S (fun kV doc pm an cdv ct => StX.bind_star1 (B := fun vs => bindArgs (PySem.W.fnOf x qual (defArgs st) (defBody st) (defScope st) .none kV doc pm an cdv ct) ⟨vs, []⟩) (h0 kV doc pm an cdv ct) (h1 kV doc pm an cdv ct)) hbody
theorem mk_calKS {C f : Addr} {k : Nat} {sp : Sp} {x : Str} {mc : Value} {p : Addr} (r : ClX.CRead K C mc) (m : ClX.CMet K C mc x p f) (F : FnR P w K mg base (L2.CX P w) k f sp) : CalK P w K mg base C x k sp := ⟨mc, p, f, r, m, F⟩
end
end Z

set_option Elab.async false
set_option linter.all false
set_option maxRecDepth 100000
set_option maxHeartbeats 1000000
/-! list(zip(xs, ys)), xs and ys tuples: the pairs that are kept -/
namespace Z
open PySem RZ
section
variable {prog : Program} {w : World} {A : Around} {E : Value → Shared → Prop} {s : Shared}
abbrev IsZipF (h : Heap) (z TI TO : Addr) (f0 : Value) (b : Bool) : Prop :=
  h.get? z = some { cls := .type "zip", dict := none, data := .fields #[f0, .bool b, .bool false, .ref TI, .ref TO], slots := #[] }
theorem zl_head {z TI TO T : Addr} {b : Bool} {oT : Obj} {F : Bool → Sem Fin} {Q : Fin → Shared → Prop} (hz : IsZipF s.heap z TI TO (rawInt T) b) (ha : s.heap.get? T = some oT)
    (h : ∀ h', IsZipF h' z TI TO (rawInt T) true → Heap.SameBut z s.heap h' → wpAny (model prog w) A (F false) Q E { s with heap := h' }) :
    wpAny (model prog w) A (Builtin.SmallTypes.ownedTupleIsFree (.ref z) >>= F) Q E s := by
  refine wpAny_bind ?_
  unfold Builtin.SmallTypes.ownedTupleIsFree
  refine wpAny_bind (wpAny_field hz rfl (x := rawInt T) rfl ?_)
  show wpAny _ _ (loadIfAlive (T : Int).toNat >>= _) _ _ _
  rw [Int.toNat_natCast]
  refine wpAny_bind (PySem.W.kdx_alive ha ?_)
  simp only [Option.isNone_some, Bool.false_eq_true, if_false]
  refine wpAny_bind (wpAny_field hz rfl (x := .bool b) rfl ?_)
  cases b with
  | true =>
    show wpAny _ _ (if (Value.bool true != Value.bool true) = true then _ else _) _ _ _
    rw [if_neg (by decide)]
    exact wpAny_pure (h _ hz ⟨rfl, fun _ _ => rfl⟩)
  | false =>
    show wpAny _ _ (if (Value.bool false != Value.bool true) = true then _ else _) _ _ _
    rw [if_pos (by decide)]
    refine wpAny_bind (wpAny_setField_rec hz (by simp) fun h₁ hz₁ hs₁ => ?_)
    exact wpAny_pure (h _ hz₁ hs₁)
theorem zl_item {z TI TO i1 i2 l1 l2 T : Addr} {k1 k2 : Nat} {b : Bool} {oT : Obj} {xs ys : Array Value} {x y : Value} {Q : Value → Shared → Prop} (D : ZipApart z TI TO i1 i2 l1 l2)
    (hz : IsZipF s.heap z TI TO (rawInt T) b) (hTI : IsPair s.heap TI (.ref i1) (.ref i2)) (ha : s.heap.get? T = some oT)
    (h1 : s.heap.IsTupleIter i1 l1 k1) (h2 : s.heap.IsTupleIter i2 l2 k2) (hl1 : s.heap.IsTuple l1 xs) (hl2 : s.heap.IsTuple l2 ys) (hx : xs[k1]? = some x) (hy : ys[k2]? = some y)
    (hQ : ∀ h', IsZipF h' z TI TO (rawInt T) true → h'.IsTupleIter i1 l1 (k1 + 1) → h'.IsTupleIter i2 l2 (k2 + 1) → IsPair h' s.heap.objs.size x y → h'.objs.size = s.heap.objs.size + 1 →
      (∀ c o, c ≠ z → c ≠ i1 → c ≠ i2 → s.heap.get? c = some o → h'.get? c = some o) → Q (.ref s.heap.objs.size) { s with heap := h' }) :
    wpAny (model prog w) A (Builtin.«zip.__next__» ⟨[.ref z], []⟩) (fun fin s' => ∃ v, fin = .done (.ret v) ∧ Q v s') E s := by
  show wpAny _ _ (field (.ref z) 2 >>= _) _ _ _
  refine wpAny_bind (wpAny_field hz rfl (x := .bool false) rfl ?_)
  show wpAny _ _ (field (.ref z) 3 >>= _) _ _ _
  refine wpAny_bind (wpAny_field hz rfl (x := .ref TI) rfl ?_)
  refine wpAny_bind (wpAny_seqItems hTI rfl ?_)
  show wpAny _ _ (Builtin.SmallTypes.ownedTupleIsFree (.ref z) >>= _) _ _ _
  refine zl_head hz ha fun h₁ hz₁ hs₁ => ?_
  simp only [Bool.false_eq_true, if_false]
  refine wpAny_bind ?_
  rw [← Array.forIn_toList]
  simp only [List.forIn_cons, List.forIn_nil]
  refine wpAny_bind (wpAny_bind (wpAny_holding ?_))
  show wpAny _ _ (Builtin.SmallTypes.nextOf (.ref i1) >>= _) _ _ _
  refine wpAny_bind (nextOf_tuple_item (h1.extBut hs₁.extBut D.i1z) (hl1.extBut hs₁.extBut D.l1z) hx fun h₂ h1₂ hs₂ => wpAny_pure ?_)
  refine wpAny_pure (wpAny_bind (wpAny_bind (wpAny_holding ?_)))
  show wpAny _ _ (Builtin.SmallTypes.nextOf (.ref i2) >>= _) _ _ _
  refine wpAny_bind (nextOf_tuple_item ((h2.extBut hs₁.extBut D.i2z).extBut hs₂.extBut D.i12.symm) ((hl2.extBut hs₁.extBut D.l2z).extBut hs₂.extBut D.l2i1) hy fun h₃ h2₃ hs₃ => wpAny_pure ?_)
  refine wpAny_pure (wpAny_pure ?_)
  show wpAny _ _ (newTuple [x, y] >>= fun t => ret t) _ _ _
  refine wpAny_bind (wpAny_newTuple ?_)
  have hsz : h₃.objs.size = s.heap.objs.size := by rw [hs₃.1, hs₂.1, hs₁.1]
  have hk : ∀ c o, c ≠ z → c ≠ i1 → c ≠ i2 → s.heap.get? c = some o → (h₃.push { cls := .type "tuple", data := .seq #[x, y] }).get? c = some o := fun c o c1 c2 c3 e =>
    Heap.get?_push_of_some _ (hs₃.extBut _ _ c3 (hs₂.extBut _ _ c2 (hs₁.extBut _ _ c1 e)))
  refine wpAny_pure ⟨_, rfl, ?_⟩
  show Q (.ref h₃.objs.size) _
  have hz3 : IsZipF h₃ z TI TO (rawInt T) true := hs₃.extBut _ _ D.i2z.symm (hs₂.extBut _ _ D.i1z.symm hz₁)
  have a1 : IsZipF (h₃.push { cls := .type "tuple", data := .seq #[x, y] }) z TI TO (rawInt T) true := Heap.get?_push_of_some _ hz3
  have a2 : IsPair (h₃.push { cls := .type "tuple", data := .seq #[x, y] }) h₃.objs.size x y := Heap.get?_push_size _ rfl
  rw [hsz] at a2 ⊢
  exact hQ _ a1 ((h1₂.extBut hs₃.extBut D.i12).at fun o e => Heap.get?_push_of_some _ e) (h2₃.at fun o e => Heap.get?_push_of_some _ e) a2 (by rw [Heap.size_push, hsz]) hk
theorem zl_end {z TI TO i1 i2 l1 l2 T : Addr} {k1 k2 : Nat} {b : Bool} {oT : Obj} {xs ys : Array Value} {Q : Fin → Shared → Prop} (hh : A.handled = none) (D : ZipApart z TI TO i1 i2 l1 l2)
    (hz : IsZipF s.heap z TI TO (rawInt T) b) (hTI : IsPair s.heap TI (.ref i1) (.ref i2)) (ha : s.heap.get? T = some oT)
    (h1 : s.heap.IsTupleIter i1 l1 k1) (h2 : s.heap.IsTupleIter i2 l2 k2) (hl1 : s.heap.IsTuple l1 xs) (hl2 : s.heap.IsTuple l2 ys) (hend : xs[k1]? = none ∨ ys[k2]? = none)
    (hE : ∀ h' e, (∀ c o, c ≠ z → c ≠ i1 → c ≠ i2 → s.heap.get? c = some o → h'.get? c = some o) → (∃ o, h'.get? e = some o ∧ o.cls = .type "StopIteration") → E (.ref e) { s with heap := h' }) :
    wpAny (model prog w) A (Builtin.«zip.__next__» ⟨[.ref z], []⟩) Q E s := by
  show wpAny _ _ (field (.ref z) 2 >>= _) _ _ _
  refine wpAny_bind (wpAny_field hz rfl (x := .bool false) rfl ?_)
  show wpAny _ _ (field (.ref z) 3 >>= _) _ _ _
  refine wpAny_bind (wpAny_field hz rfl (x := .ref TI) rfl ?_)
  refine wpAny_bind (wpAny_seqItems hTI rfl ?_)
  show wpAny _ _ (Builtin.SmallTypes.ownedTupleIsFree (.ref z) >>= _) _ _ _
  refine zl_head hz ha fun h₁ hz₁ hs₁ => ?_
  simp only [Bool.false_eq_true, if_false]
  refine wpAny_bind ?_
  rw [← Array.forIn_toList]
  simp only [List.forIn_cons, List.forIn_nil]
  refine wpAny_bind (wpAny_bind (wpAny_holding ?_))
  show wpAny _ _ (Builtin.SmallTypes.nextOf (.ref i1) >>= _) _ _ _
  cases hx : xs[k1]? with
  | none =>
    exact wpAny_bind (nextOf_tuple_end hh (h1.extBut hs₁.extBut D.i1z) (hl1.extBut hs₁.extBut D.l1z) hx fun h₂ e hs₂ he => hE h₂ e (fun c o c1 c2 c3 x => hs₂ _ _ c2 (hs₁.extBut _ _ c1 x)) he)
  | some x =>
    have hy : ys[k2]? = none := by rcases hend with h | h; rw [hx] at h; cases h; exact h
    refine wpAny_bind (nextOf_tuple_item (h1.extBut hs₁.extBut D.i1z) (hl1.extBut hs₁.extBut D.l1z) hx fun h₂ h1₂ hs₂ => wpAny_pure ?_)
    refine wpAny_pure (wpAny_bind (wpAny_bind (wpAny_holding ?_)))
    show wpAny _ _ (Builtin.SmallTypes.nextOf (.ref i2) >>= _) _ _ _
    exact wpAny_bind (nextOf_tuple_end hh ((h2.extBut hs₁.extBut D.i2z).extBut hs₂.extBut D.i12.symm) ((hl2.extBut hs₁.extBut D.l2z).extBut hs₂.extBut D.l2i1) hy fun h₃ e hs₃ he =>
      hE h₃ e (fun c o c1 c2 c3 x => hs₃ _ _ c3 (hs₂.extBut _ _ c2 (hs₁.extBut _ _ c1 x))) he)
theorem zl_nextItem {z TI TO i1 i2 l1 l2 T : Addr} {k1 k2 : Nat} {b : Bool} {oT : Obj} {xs ys : Array Value} {x y : Value} {Q : Option Value → Shared → Prop} (D : ZipApart z TI TO i1 i2 l1 l2)
    (hz : IsZipF s.heap z TI TO (rawInt T) b) (hTI : IsPair s.heap TI (.ref i1) (.ref i2)) (ha : s.heap.get? T = some oT)
    (h1 : s.heap.IsTupleIter i1 l1 k1) (h2 : s.heap.IsTupleIter i2 l2 k2) (hl1 : s.heap.IsTuple l1 xs) (hl2 : s.heap.IsTuple l2 ys) (hx : xs[k1]? = some x) (hy : ys[k2]? = some y)
    (hQ : ∀ h', IsZipF h' z TI TO (rawInt T) true → h'.IsTupleIter i1 l1 (k1 + 1) → h'.IsTupleIter i2 l2 (k2 + 1) → IsPair h' s.heap.objs.size x y → h'.objs.size = s.heap.objs.size + 1 →
      (∀ c o, c ≠ z → c ≠ i1 → c ≠ i2 → s.heap.get? c = some o → h'.get? c = some o) → Q (some (.ref s.heap.objs.size)) { s with heap := h' }) : wpAny (model prog w) A (pyNext (.ref z)) Q E s := by
  have hT : s.TypeIs (.ref z) "zip" := ⟨_, hz, rfl⟩
  unfold pyNext
  exact wpAny_bind (wpAny_attempt (wpAny_callSpecial?_slot (name := Str.ofString "__next__") hT F.slot_zip_next
    (wpAny_call_entry F.slot_zip_next hT F.entry_zip_next
      (zl_item D hz hTI ha h1 h2 hl1 hl2 hx hy fun h' a1 a3 a4 a5 a6 a7 => wpAny_pure (hQ h' a1 a3 a4 a5 a6 a7)) (F.args_zip_next_1 _))))
theorem zl_nextEnd {z TI TO i1 i2 l1 l2 T : Addr} {k1 k2 : Nat} {b : Bool} {oT : Obj} {xs ys : Array Value} {Q : Option Value → Shared → Prop} (hh : A.handled = none) (D : ZipApart z TI TO i1 i2 l1 l2)
    (hz : IsZipF s.heap z TI TO (rawInt T) b) (hTI : IsPair s.heap TI (.ref i1) (.ref i2)) (ha : s.heap.get? T = some oT)
    (h1 : s.heap.IsTupleIter i1 l1 k1) (h2 : s.heap.IsTupleIter i2 l2 k2) (hl1 : s.heap.IsTuple l1 xs) (hl2 : s.heap.IsTuple l2 ys) (hend : xs[k1]? = none ∨ ys[k2]? = none)
    (hQ : ∀ h', (∀ c o, c ≠ z → c ≠ i1 → c ≠ i2 → s.heap.get? c = some o → h'.get? c = some o) → Q none { s with heap := h' }) : wpAny (model prog w) A (pyNext (.ref z)) Q E s := by
  have hT : s.TypeIs (.ref z) "zip" := ⟨_, hz, rfl⟩
  unfold pyNext
  refine wpAny_bind (wpAny_attempt (wpAny_callSpecial?_slot (name := Str.ofString "__next__") hT F.slot_zip_next
    (wpAny_call_entry F.slot_zip_next hT F.entry_zip_next (zl_end hh D hz hTI ha h1 h2 hl1 hl2 hend fun h' e hk he => ?_) (F.args_zip_next_1 _))))
  obtain ⟨o, ho, hc⟩ := he
  refine wpAny_bind (wpAny_isInstance (T := "StopIteration") (b := true) ⟨o, ho, hc⟩ isSubtype_stop ?_)
  exact wpAny_pure (hQ _ hk)
/-- a zip of two tuples amid its walk, its pairs kept by others -/
def ZSt (h : Heap) (z TI TO i1 i2 l1 l2 S : Addr) (xs ys : Array Value) (i : Nat) : Prop :=
  IsPair h TI (.ref i1) (.ref i2) ∧ h.IsTupleIter i1 l1 i ∧ h.IsTupleIter i2 l2 i ∧ h.IsTuple l1 xs ∧ h.IsTuple l2 ys ∧
    ((IsZip h z TI TO .none ∧ ∃ a b, IsPair h TO a b) ∨ ∃ (T : Nat) (b : Bool) (oT : Obj), IsZipF h z TI TO (rawInt T) b ∧ h.get? T = some oT ∧ S < T)
theorem ZSt.keep {h h' : Heap} {z TI TO i1 i2 l1 l2 S : Addr} {xs ys : Array Value} {i : Nat} (x : ZSt h z TI TO i1 i2 l1 l2 S xs ys i) (hk : ∀ b o, b ≠ S → h.get? b = some o → h'.get? b = some o) (lo : ∀ c ∈ [z, TI, TO, i1, i2, l1, l2], c < S) : ZSt h' z TI TO i1 i2 l1 l2 S xs ys i := by
  have ne : ∀ c ∈ [z, TI, TO, i1, i2, l1, l2], c ≠ S := fun c hc => Nat.ne_of_lt (lo c hc)
  obtain ⟨hTI, h1, h2, hl1, hl2, hz⟩ := x
  refine ⟨hk _ _ (ne TI (by simp)) hTI, h1.at fun o e => hk _ o (ne i1 (by simp)) e, h2.at fun o e => hk _ o (ne i2 (by simp)) e, hl1.at fun o e => hk _ o (ne l1 (by simp)) e, hl2.at fun o e => hk _ o (ne l2 (by simp)) e, ?_⟩
  rcases hz with ⟨hz, a, b, hTO⟩ | ⟨T, b, oT, hz, hT, hS⟩
  · exact .inl ⟨hk _ _ (ne z (by simp)) hz, a, b, hk _ _ (ne TO (by simp)) hTO⟩
  · exact .inr ⟨T, b, oT, hk _ _ (ne z (by simp)) hz, hk _ _ (Nat.ne_of_gt hS) hT, hS⟩
structure ZG (xs ys : Array Value) (lo : Addr) (h : Heap) (as : List Addr) : Prop where
  rise : as.Pairwise (· < ·)
  above : ∀ a ∈ as, lo < a
  pairs : ∀ (j : Nat) (a : Addr), as[j]? = some a → ∃ x y, xs[j]? = some x ∧ ys[j]? = some y ∧ IsPair h a x y
variable {z TI TO i1 i2 l1 l2 S : Addr} {xs ys : Array Value} {R : Result → Shared → Prop}
theorem zl_step {i : Nat} {x y : Value} {Q : Option Value → Shared → Prop} (D : ZipApart z TI TO i1 i2 l1 l2) (lo : ∀ c ∈ [z, TI, TO, i1, i2, l1, l2], c < S) (hSh : S < s.heap.objs.size) (st : ZSt s.heap z TI TO i1 i2 l1 l2 S xs ys i) (hx : xs[i]? = some x) (hy : ys[i]? = some y)
    (hQ : ∀ h', ZSt h' z TI TO i1 i2 l1 l2 S xs ys (i + 1) → IsPair h' s.heap.objs.size x y → h'.objs.size = s.heap.objs.size + 1 →
      (∀ c o, c ≠ z → c ≠ TO → c ≠ i1 → c ≠ i2 → s.heap.get? c = some o → h'.get? c = some o) → Q (some (.ref s.heap.objs.size)) { s with heap := h' }) : wpAny (model prog w) A (pyNext (.ref z)) Q E s := by
  obtain ⟨hTI, h1, h2, hl1, hl2, hz⟩ := st
  rcases hz with ⟨hz, a, b, hTO⟩ | ⟨T, b, oT, hz, hT, hS⟩
  · refine pyNext_zipT_item D hz hTI hTO h1 h2 hl1 hl2 hx hy fun h' a1 a2 a3 a4 a5 a6 hk => hQ h' ⟨hk _ _ D.TIz D.TITO D.TIi1 D.TIi2 hTI, a3, a4, hl1.at fun o e => hk _ o D.l1z D.l1TO D.l1i1 D.l1i2 e, hl2.at fun o e => hk _ o D.l2z D.l2TO D.l2i1 D.l2i2 e, .inr ⟨_, false, _, a1, a5, hSh⟩⟩ a5 a6 hk
  · have tne : ∀ c ∈ [z, TI, TO, i1, i2, l1, l2], T ≠ c := fun c hc => Nat.ne_of_gt (Nat.lt_trans (lo c hc) hS)
    refine zl_nextItem D hz hTI hT h1 h2 hl1 hl2 hx hy fun h' a1 a3 a4 a5 a6 hk => hQ h' ⟨hk _ _ D.TIz D.TIi1 D.TIi2 hTI, a3, a4, hl1.at fun o e => hk _ o D.l1z D.l1i1 D.l1i2 e, hl2.at fun o e => hk _ o D.l2z D.l2i1 D.l2i2 e, .inr ⟨T, true, oT, a1, hk _ _ (tne z (by simp)) (tne i1 (by simp)) (tne i2 (by simp)) hT, hS⟩⟩ a5 a6 fun c o c1 _ c3 c4 e => hk c o c1 c3 c4 e
theorem zl_stop {i : Nat} {Q : Option Value → Shared → Prop} (hh : A.handled = none) (D : ZipApart z TI TO i1 i2 l1 l2) (st : ZSt s.heap z TI TO i1 i2 l1 l2 S xs ys i) (hend : xs[i]? = none ∨ ys[i]? = none)
    (hQ : ∀ h', (∀ c o, c ≠ z → c ≠ TO → c ≠ i1 → c ≠ i2 → s.heap.get? c = some o → h'.get? c = some o) → Q none { s with heap := h' }) : wpAny (model prog w) A (pyNext (.ref z)) Q E s := by
  obtain ⟨hTI, h1, h2, hl1, hl2, hz⟩ := st
  rcases hz with ⟨hz, a, b, hTO⟩ | ⟨T, b, oT, hz, hT, hS⟩
  · exact pyNext_zipT_end hh D hz hTI hTO h1 h2 hl1 hl2 hend hQ
  · exact zl_nextEnd hh D hz hTI hT h1 h2 hl1 hl2 hend fun h' hk => hQ h' fun c o c1 _ c3 c4 e => hk c o c1 c3 c4 e
theorem zl_loop {n : Nat} (hh : A.handled = none) (D : ZipApart z TI TO i1 i2 l1 l2) (lo : ∀ c ∈ [z, TI, TO, i1, i2, l1, l2], c < S) (hn : n = min xs.size ys.size) (hz : n ≤ sizeLine) (res : Value) {h₁ : Heap}
    (hR : ∀ h' tk acc c as, (∀ b o, b ≠ S → b ≠ z → b ≠ TO → b ≠ i1 → b ≠ i2 → h₁.get? b = some o → h'.get? b = some o) → h'.get? S = some { cls := .type "list", dict := none, data := .seq acc c, slots := #[] } → as.length = n → ZG xs ys S h' as →
      acc.toList = as.map Value.ref → R (.ok (.ret res)) { s with heap := h', toks := tk }) :
    ∀ (k i : Nat) (h : Heap) (tk c : Nat) (acc : Array Value) (as : List Addr), n - i = k → i ≤ n → ZSt h z TI TO i1 i2 l1 l2 S xs ys i → (∀ b o, b ≠ S → b ≠ z → b ≠ TO → b ≠ i1 → b ≠ i2 → h₁.get? b = some o → h.get? b = some o) →
      h.get? S = some { cls := .type "list", dict := none, data := .seq acc c, slots := #[] } → acc.toList = as.map Value.ref → as.length = i → ZG xs ys S h as →
      codeAny (model prog w) A (.builtin "list.extend.loop" ⟨[.ref S, .ref z, res], []⟩) R { s with heap := h, toks := tk } := by
  have ne : ∀ c ∈ [z, TI, TO, i1, i2, l1, l2], c ≠ S := fun c hc => Nat.ne_of_lt (lo c hc)
  have hi : ∀ {a : Addr}, S < a → a ≠ z ∧ a ≠ TO ∧ a ≠ i1 ∧ a ≠ i2 := fun {a} ha => by
    exact ⟨Nat.ne_of_gt (Nat.lt_trans (lo z (by simp)) ha), Nat.ne_of_gt (Nat.lt_trans (lo TO (by simp)) ha), Nat.ne_of_gt (Nat.lt_trans (lo i1 (by simp)) ha), Nat.ne_of_gt (Nat.lt_trans (lo i2 (by simp)) ha)⟩
  intro k
  induction k with
  | zero =>
    intro i h tk c acc as hk hi' hst hkeep hS hacc hal hG
    have hin : i = n := by omega
    refine codeAny_builtin PySem.F.entry_extend_loop ?_
    rw [Around.under_plainId PySem.F.plain_extend_loop _]
    show wpAny _ A.in1 (pyNext (.ref z) >>= _) _ _ _
    refine wpAny_bind (zl_stop (s := { s with heap := h, toks := tk }) (A := A.in1) hh D hst ?_ fun h' he => ?_)
    · rcases Nat.le_total xs.size ys.size with q | q
      · exact .inl (Array.getElem?_eq_none (by omega))
      · exact .inr (Array.getElem?_eq_none (by omega))
    refine wpAny_pure (hR h' tk acc c as (fun b o h1 h2 h3 h4 h5 e => he b o h2 h3 h4 h5 (hkeep b o h1 h2 h3 h4 h5 e)) (he S _ (ne z (by simp)).symm (ne TO (by simp)).symm (ne i1 (by simp)).symm (ne i2 (by simp)).symm hS) (by omega) ⟨hG.rise, hG.above, fun j a hj => ?_⟩ hacc)
    obtain ⟨x, y, e1, e2, e3⟩ := hG.pairs j a hj
    obtain ⟨n1, n2, n3, n4⟩ := hi (hG.above a (List.mem_of_getElem? hj))
    exact ⟨x, y, e1, e2, he a _ n1 n2 n3 n4 e3⟩
  | succ k ih =>
    intro i h tk c acc as hk hi' hst hkeep hS hacc hal hG
    have hlt : i < n := by omega
    have hsz : acc.size = i := by rw [← Array.length_toList, hacc, List.length_map, hal]
    have hSl : S < h.objs.size := Heap.lt_size hS
    have lx : i < xs.size := by omega
    have ly : i < ys.size := by omega
    refine codeAny_builtin PySem.F.entry_extend_loop ?_
    rw [Around.under_plainId PySem.F.plain_extend_loop _]
    show wpAny _ A.in1 (pyNext (.ref z) >>= _) _ _ _
    refine wpAny_bind (zl_step (s := { s with heap := h, toks := tk }) (S := S) D lo hSl hst (Array.getElem?_eq_getElem lx) (Array.getElem?_eq_getElem ly) fun h' hst' ht hz' hkp => ?_)
    dsimp only at ht hz' hkp ⊢
    have hS' := hkp S _ (ne z (by simp)).symm (ne TO (by simp)).symm (ne i1 (by simp)).symm (ne i2 (by simp)).symm hS
    have up : ∀ b o, b ≠ S → h'.get? b = some o → (h'.update S (Obj.mapSeq (·.push (Value.ref h.objs.size)))).get? b = some o := fun b o hb e => (Heap.get?_update_other _ _ (Ne.symm hb)).trans e
    show wpAny _ A.in1 (updateSeq S (·.push (Value.ref h.objs.size)) >>= _) _ _ _
    refine wpAny_bind ?_
    refine wpAny_updateSeq hS' rfl (wpAny_pure ⟨plainId_quiet PySem.F.plain_extend_loop _, ih (i + 1) _ tk _ (acc.push (Value.ref h.objs.size)) (as ++ [h.objs.size]) (by omega) hlt (hst'.keep up lo)
      (fun b o h1 h2 h3 h4 h5 e => up b o h1 (hkp b o h2 h3 h4 h5 (hkeep b o h1 h2 h3 h4 h5 e))) (Heap.get?_update_self _ hS' rfl) (by rw [Array.toList_push, hacc, List.map_append]; rfl) (by rw [List.length_append, hal]; rfl) ⟨?_, ?_, ?_⟩⟩) (by rw [hsz]; omega) (by show (acc.push (Value.ref h.objs.size)).size ≤ sizeLine + 1; rw [Array.size_push, hsz]; omega)
    · refine List.pairwise_append.mpr ⟨hG.rise, List.pairwise_singleton _ _, fun a ha b hb => ?_⟩
      rw [List.mem_singleton.mp hb]
      obtain ⟨j, hj⟩ := List.getElem?_of_mem ha
      obtain ⟨x, y, e1, e2, e3⟩ := hG.pairs j a hj
      exact Heap.lt_size e3
    · intro a ha
      rcases List.mem_append.mp ha with ha | ha
      · exact hG.above a ha
      · rw [List.mem_singleton.mp ha]; exact hSl
    · intro j b hj
      rcases Nat.lt_trichotomy j as.length with h1 | h1 | h1
      · rw [List.getElem?_append_left h1] at hj
        obtain ⟨x, y, e1, e2, e3⟩ := hG.pairs j b hj
        have hb := hG.above b (List.mem_of_getElem? hj)
        obtain ⟨n1, n2, n3, n4⟩ := hi hb
        exact ⟨x, y, e1, e2, up b _ (Nat.ne_of_gt hb) (hkp b _ n1 n2 n3 n4 e3)⟩
      · subst h1
        have hb : h.objs.size = b := by simpa using hj
        subst hb
        exact ⟨xs[i], ys[i], by rw [hal]; exact Array.getElem?_eq_getElem lx, by rw [hal]; exact Array.getElem?_eq_getElem ly, up _ _ (Nat.ne_of_gt hSl) ht⟩
      · have hnone : (as ++ [h.objs.size])[j]? = none := List.getElem?_eq_none (by rw [List.length_append, List.length_singleton]; omega)
        rw [hnone] at hj; cases hj
theorem zl_len_none : typeLookup (.type "zip") "__len__" = pure none := by rw [typeLookup_type, builtinLookup_eq_fast]; kernel_rfl
theorem zl_hint_none : typeLookup (.type "zip") "__length_hint__" = pure none := by rw [typeLookup_type, builtinLookup_eq_fast]; kernel_rfl
theorem zl_hint (hT : s.TypeIs (.ref z) "zip") {Q : Bool → Shared → Prop} (h : Q true s) : wpAny (model prog w) A (Builtin.List.listLengthHint (.ref z)) Q E s := by
  unfold Builtin.List.listLengthHint
  refine wpAny_bind (wpAny_specialOf hT zl_len_none ?_)
  show wpAny _ _ (specialOf (Value.ref z) (Str.ofString "__length_hint__") >>= _) _ _ _
  exact wpAny_bind (wpAny_specialOf hT zl_hint_none (wpAny_pure h))
theorem zl_extend {n : Nat} (hh : A.handled = none) (D : ZipApart z TI TO i1 i2 l1 l2) (lo : ∀ c ∈ [z, TI, TO, i1, i2, l1, l2], c < S) (hn : n = min xs.size ys.size) (hl : n ≤ sizeLine) (res : Value) (c₀ : Nat) (hz : IsZip s.heap z TI TO .none)
    (st : ∀ h', (∀ b o, b ≠ S → s.heap.get? b = some o → h'.get? b = some o) → ZSt h' z TI TO i1 i2 l1 l2 S xs ys 0) (hS : s.heap.get? S = some { cls := .type "list", data := .seq #[] c₀ })
    (hR : ∀ h' tk acc c as, (∀ b o, b ≠ S → b ≠ z → b ≠ TO → b ≠ i1 → b ≠ i2 → s.heap.get? b = some o → h'.get? b = some o) → h'.get? S = some { cls := .type "list", dict := none, data := .seq acc c, slots := #[] } → as.length = n → ZG xs ys S h' as →
      acc.toList = as.map Value.ref → R (.ok (.ret res)) { s with heap := h', toks := tk }) :
    wpAny (model prog w) A.in1 (Builtin.List.listExtendWith (.ref S) (.ref z) res)
      (fun fin s' => match fin with | .done f => R (.ok f) s' | .again c' => c'.quiet = true ∧ codeAny (model prog w) A c' R s') (fun e s' => R (.error e) s') s := by
  have hSz : S ≠ z := Nat.ne_of_gt (lo z (by simp))
  have key : ∀ (h : Heap) (c₁ tk : Nat), (∀ b o, b ≠ S → s.heap.get? b = some o → h.get? b = some o) →
      h.get? S = some { cls := .type "list", data := .seq #[] c₁ } → codeAny (model prog w) A (.builtin "list.extend.loop" ⟨[.ref S, .ref z, res], []⟩) R { s with heap := h, toks := tk } := by
    intro h c₁ tk hk hS₁
    exact zl_loop (n := n) (s := s) (h₁ := s.heap) hh D lo hn hl res hR n 0 h tk c₁ #[] [] (Nat.sub_zero _) (Nat.zero_le _) (st h hk) (fun b o hb _ _ _ _ e => hk b o hb e) hS₁ rfl rfl
      ⟨List.Pairwise.nil, (fun _ ha => nomatch ha), (fun j a hj => by simp at hj)⟩
  have hT : s.TypeIs (.ref z) "zip" := ⟨_, hz, rfl⟩
  unfold Builtin.List.listExtendWith
  refine wpAny_bind (wpAny_typeOf (T := "zip") hT ?_)
  have h1 : Builtin.List.listSameRef (.ref S) (.ref z) = false := by simp [Builtin.List.listSameRef, hSz]
  have h2 : (Value.type "zip" == Value.type "list") = false := by decide
  have h3 : (Value.type "zip" == Value.type "tuple") = false := by decide
  simp only [h1, h2, h3, Bool.or_false, Bool.false_eq_true, if_false]
  refine wpAny_bind (wpAny_pyIter_zip hz ?_)
  refine wpAny_bind (wpAny_holding (zl_hint hT ?_))
  refine wpAny_ite_split (fun _ => ?_) (fun _ => wpAny_pure ⟨plainId_quiet PySem.F.plain_extend_loop _, key _ c₀ _ (fun b o _ e => e) hS⟩)
  refine wpAny_bind (wpAny_rule ?_)
  refine wpAny_bind ?_
  show wpAny _ _ (updateSeq S (·.push .none) >>= fun _ => updateSeq S (·.pop)) _ _ _
  refine wpAny_bind (wpAny_updateSeq hS rfl ?_)
  have hS₂ := Heap.get?_update_self (Obj.mapSeq (·.push Value.none)) hS rfl
  refine wpAny_updateSeq (hz := by seq_fits) hS₂ rfl ?_
  have hS₃ := Heap.get?_update_self (Obj.mapSeq (·.pop)) hS₂ rfl
  refine wpAny_pure ⟨plainId_quiet PySem.F.plain_extend_loop _, key _ _ _ (fun b o hb e => ?_) hS₃⟩
  exact (Heap.get?_update_other _ _ (Ne.symm hb)).trans ((Heap.get?_update_other _ _ (Ne.symm hb)).trans e)
theorem zl_init {n : Nat} (hh : A.handled = none) (D : ZipApart z TI TO i1 i2 l1 l2) (lo : ∀ c ∈ [z, TI, TO, i1, i2, l1, l2], c < S) (hn : n = min xs.size ys.size) (hl : n ≤ sizeLine) (hz : IsZip s.heap z TI TO .none) (hS : s.heap.get? S = some { cls := .type "list", data := .seq #[] })
    (st : ∀ h', (∀ b o, b ≠ S → s.heap.get? b = some o → h'.get? b = some o) → ZSt h' z TI TO i1 i2 l1 l2 S xs ys 0)
    (hR : ∀ h' tk acc c as, (∀ b o, b ≠ S → b ≠ z → b ≠ TO → b ≠ i1 → b ≠ i2 → s.heap.get? b = some o → h'.get? b = some o) → h'.get? S = some { cls := .type "list", dict := none, data := .seq acc c, slots := #[] } → as.length = n → ZG xs ys S h' as →
      acc.toList = as.map Value.ref → R (.ok (.ret .none)) { s with heap := h', toks := tk }) :
    wpAny (model prog w) A.in1 (Builtin.«list.__init__» ⟨[.ref S, .ref z], []⟩)
      (fun fin s' => match fin with | .done f => R (.ok f) s' | .again c' => c'.quiet = true ∧ codeAny (model prog w) A c' R s') (fun e s' => R (.error e) s') s := by
  show wpAny _ _ (do let old ← Builtin.List.listItems (.ref S); Builtin.List.listUpdate (.ref S) (fun _ => #[]); letGo old.toList.reverse; Builtin.List.listExtendWith (.ref S) (.ref z) .none) _ _ s
  refine wpAny_bind ?_
  unfold Builtin.List.listItems
  refine wpAny_bind (wpAny_seqItems hS rfl (wpAny_pure ?_))
  show wpAny _ _ (updateSeq S (fun _ => #[]) >>= fun _ => letGo (#[] : Array Value).toList.reverse >>= fun _ => Builtin.List.listExtendWith (.ref S) (.ref z) .none) _ _ s
  refine wpAny_bind (wpAny_updateSeq hS rfl ?_)
  have hS₂ := Heap.get?_update_self (Obj.mapSeq (fun _ => (#[] : Array Value))) hS rfl
  have oth : ∀ b o, b ≠ S → s.heap.get? b = some o → (s.heap.update S (Obj.mapSeq (fun _ => (#[] : Array Value)))).get? b = some o :=
    fun b o hb e => (Heap.get?_update_other _ _ (Ne.symm hb)).trans e
  refine wpAny_bind (wpAny_letGo ?_)
  refine zl_extend (n := n) hh D lo hn hl .none _ (oth z _ (Nat.ne_of_lt (lo z (by simp))) hz) (fun h' hk => st h' fun b o hb e => hk b o hb (oth b o hb e)) hS₂ (fun h' tk acc c as hk hS' hl hG hacc => ?_)
  exact hR h' tk acc c as (fun b o hb n1 n2 n3 n4 e => hk b o hb n1 n2 n3 n4 (oth b o hb e)) hS' hl hG hacc
theorem zl_call {n : Nat} {Q : Value → Shared → Prop} (hh : A.handled = none) (D : ZipApart z TI TO i1 i2 l1 l2) (lo : ∀ c ∈ [z, TI, TO, i1, i2, l1, l2], c < s.heap.objs.size) (hn : n = min xs.size ys.size) (hl : n ≤ sizeLine)
    (hz : IsZip s.heap z TI TO .none) (hTI : IsPair s.heap TI (.ref i1) (.ref i2)) (hTO : IsPair s.heap TO .none .none) (h1 : s.heap.IsTupleIter i1 l1 0) (h2 : s.heap.IsTupleIter i2 l2 0) (hl1 : s.heap.IsTuple l1 xs) (hl2 : s.heap.IsTuple l2 ys)
    (hQ : ∀ h' tk acc c as, (∀ b o, b ≠ z → b ≠ TO → b ≠ i1 → b ≠ i2 → s.heap.get? b = some o → h'.get? b = some o) → h'.get? s.heap.objs.size = some { cls := .type "list", dict := none, data := .seq acc c, slots := #[] } → as.length = n → ZG xs ys s.heap.objs.size h' as →
      acc.toList = as.map Value.ref → Q (.ref s.heap.objs.size) { s with heap := h', toks := tk }) :
    wpAny (model prog w) A (call (.type "list") [.ref z]) Q E s := by
  refine callType_codes (Q₁ := fun obj s₁ => obj = .ref s.heap.objs.size ∧ s₁ = { s with heap := s.heap.push { cls := .type "list", data := .seq #[] } }) PySem.F.called_list (PySem.F.typeCall_list_1 _) PySem.F.entry_list_init
    (code_list_new _ ⟨rfl, rfl⟩) fun obj s₁ h₁ => ?_
  obtain ⟨rfl, rfl⟩ := h₁
  have hS : (s.heap.push { cls := .type "list", data := .seq #[] }).get? s.heap.objs.size = some { cls := .type "list", data := .seq #[] } := Heap.get?_push_size _ rfl
  have st0 : ZSt s.heap z TI TO i1 i2 l1 l2 s.heap.objs.size xs ys 0 := ⟨hTI, h1, h2, hl1, hl2, .inl ⟨hz, _, _, hTO⟩⟩
  refine ⟨⟨_, hS, rfl⟩, PySem.F.args_list_init_2 _ _, zl_init (n := n) (A := A.in1) hh D lo hn hl (Heap.get?_push_of_some _ hz) hS (fun h' hk => st0.keep (fun b o hb e => hk b o hb (Heap.get?_push_of_some _ e)) lo) (fun h' tk acc c as hk hS' hl hG hacc => ?_)⟩
  exact ⟨rfl, hQ h' tk acc c as (fun b o n1 n2 n3 n4 e => hk b o (Nat.ne_of_lt (Heap.lt_size e)) n1 n2 n3 n4 (Heap.get?_push_of_some _ e)) hS' hl hG hacc⟩
end
end Z

set_option Elab.async false
set_option linter.all false
set_option maxRecDepth 100000
set_option maxHeartbeats 1000000
namespace Z
open PySem PySem.Spec PyProof.Rows L2 RZ
theorem zipLook : ∀ {ps : List Addr} {ls : List (List V)} {i : Nat} {p : Addr} {l : List V}, ps.Pairwise (· < ·) → ps[i]? = some p → ls[i]? = some l → (ps.zip ls).lookup p = some l
  | [], _, _, _, _, _, h, _ => by simp at h
  | _ :: _, [], _, _, _, _, _, h => by simp at h
  | q :: ps, m :: ls, 0, p, l, _, h, h2 => by
    simp at h h2
    subst h h2
    simp [List.lookup]
  | q :: ps, m :: ls, i + 1, p, l, n, h, h2 => by
    have h' : ps[i]? = some p := by simpa using h
    have h2' : ls[i]? = some l := by simpa using h2
    have lt : q < p := (List.pairwise_cons.mp n).1 p (List.mem_of_getElem? h')
    have e : (p == q) = false := by simpa using Nat.ne_of_gt lt
    rw [List.zip_cons_cons, List.lookup, e]
    exact zipLook (List.pairwise_cons.mp n).2 h' h2'
theorem zipLookR : ∀ {ps : List Addr} {ls : List (List V)} {b : Addr} {l : List V}, (ps.zip ls).lookup b = some l → ∃ i : Nat, ps[i]? = some b ∧ ls[i]? = some l
  | [], _, _, _, h => by simp [List.lookup] at h
  | _ :: _, [], _, _, h => by simp [List.lookup] at h
  | q :: ps, m :: ls, b, l, h => by
    rw [List.zip_cons_cons, List.lookup] at h
    by_cases e : b = q
    · subst e
      simp at h
      exact ⟨0, by simp, by simp [h]⟩
    · have e' : (b == q) = false := by simpa using e
      rw [e'] at h
      obtain ⟨i, h1, h2⟩ := zipLookR h
      exact ⟨i + 1, by simpa using h1, by simpa using h2⟩
def hpZip (H : Hp) (q : Addr) (ps : List Addr) (ls : List (List V)) : Hp := fun b => if b = q then some (.lst (ps.map V.ref)) else match (ps.zip ls).lookup b with | some l => some (.tup l) | none => H b
/-- list(zip(x, y)), tuples -/
def tLZip (K : PySem.W.Frag) (ta : TA) : TE := fun σ H Q => ta σ H fun vs H1 => ∃ a b xs ys, vs = [.ref a, .ref b] ∧ SqT K H1 a xs ∧ SqT K H1 b ys ∧ ∀ (q : Addr) (ps : List Addr) (H2 : Hp), H1 q = none → (∀ c o, H1 c = some o → H2 c = some o) → H2 q = some (.lst (ps.map V.ref)) → ps.length = min xs.length ys.length →
  (∀ (i : Nat) (p : Addr), ps[i]? = some p → ∃ x y, xs[i]? = some x ∧ ys[i]? = some y ∧ H2 p = some (.tup [x, y])) → Q (.ref q) H2
section
variable {X : Cx} {e e2 : Expr} {ta : TA} {p1 p2 pos pos2 : Pos}
theorem pe_lzip {K : PySem.W.Frag} (hK : X.K = K) (hc : X.calm = true) (hg1 : Gl X "list") (hm1 : X.mg "list" = none) (hg : Gl X "zip") (hm : X.mg "zip" = none) (ha : PA X [e, e2] ta)
    (hs : starEach [e, e2] X.env = (false, eval e X.env) :: starEach [e2] X.env := by rfl) (hpl : (backTo pos2 (starEach [e2] X.env)).any (·.1) = false := by rfl)
    (hs1 : starEach [.Call (.Name "zip" p2) [e, e2] [] pos2] X.env = [(false, eval (.Call (.Name "zip" p2) [e, e2] [] pos2) X.env)] := by rfl) :
    PE X (.Call (.Name "list" p1) [.Call (.Name "zip" p2) [e, e2] [] pos2] [] pos) (tLZip K ta) := by
  subst hK
  refine ⟨fun pins s σ H Q I h => ?_⟩
  refine Call_ (ld_blt (u := .type "list") I hg1 hm1 (by decide +kernel) (PyProof.Rows.callWith_type1 (T := "list") ?_ hs1 (by rfl)))
  rw [hs1]
  show wpAny _ _ (spliced ((false, eval (.Call (.Name "zip" p2) [e, e2] [] pos2) X.env) :: backTo pos [])) _ _ _
  refine Calls.spliced_cons ?_
  refine Call_ (ld_blt I hg hm PyProof.Rows.boot_zip (PyProof.Rows.callWith_type1 (thn (ha.run pos2 pins _ σ H _ I h) fun us s1 ⟨vs, H1, I1, r1, q1⟩ => ?_) hs hpl))
  obtain ⟨a, b, xs, ys, ex, hqx, hqy, q⟩ := q1
  subst ex
  cases r1 with
  | cons r rr =>
    cases rr with
    | cons r' rr =>
      cases rr
      cases r
      cases r'
      obtain ⟨its, rv, p1, z1⟩ := I1.tuple hqx
      obtain ⟨its2, rv2, p2, z2⟩ := I1.tuple hqy
      obtain ⟨o1, ho1, _⟩ := id p1
      obtain ⟨o2, ho2, _⟩ := id p2
      have la := Heap.lt_size ho1
      have lb := Heap.lt_size ho2
      refine call_zipT (show s1.heap.IsTuple a its.toArray from p1) (show s1.heap.IsTuple b its2.toArray from p2) fun h' hz hTI hTO h1 h2 hsz hk => ?_
      refine Calls.spliced_nil ?_
      show wpAny _ _ (call (.type "list") [.ref (s1.heap.objs.size + 4)]) _ _ _
      have lo : ∀ c ∈ [s1.heap.objs.size + 4, s1.heap.objs.size + 2, s1.heap.objs.size + 3, s1.heap.objs.size, s1.heap.objs.size + 1, a, b], c < h'.objs.size := by
        intro c hc
        rw [hsz]
        simp at hc
        rcases hc with rfl | rfl | rfl | rfl | rfl | rfl | rfl
        · exact Nat.lt_succ_self _
        · exact Nat.add_lt_add_left (by decide) _
        · exact Nat.add_lt_add_left (by decide) _
        · exact Nat.lt_add_of_pos_right (by decide)
        · exact Nat.add_lt_add_left (by decide) _
        · exact Nat.lt_of_lt_of_le la (Nat.le_add_right _ _)
        · exact Nat.lt_of_lt_of_le lb (Nat.le_add_right _ _)
      have l1 := rv.length
      have l2 := rv2.length
      have hmin : min xs.length ys.length = min its.toArray.size its2.toArray.size := by rw [List.size_toArray, List.size_toArray, l1, l2]
      refine zl_call (s := { s1 with heap := h' }) (n := min xs.length ys.length) (I1.ok.hd hc) (PySem.W.ktu_apart s1.heap.objs.size a b la lb) lo hmin (by omega) hz hTI hTO h1 h2
        (let ⟨o, ho, x⟩ := p1; ⟨o, hk _ _ ho, x⟩) (let ⟨o, ho, x⟩ := p2; ⟨o, hk _ _ ho, x⟩) fun h2 tk acc c as hk2 hL hla hG hacc => ?_
      have lt5 : s1.heap.objs.size < h'.objs.size := by rw [hsz]; exact Nat.lt_add_of_pos_right (by decide)
      have kk : ∀ b o, s1.heap.get? b = some o → h2.get? b = some o := fun b o e => by
        have hb := Heap.lt_size e
        exact hk2 b o (Nat.ne_of_lt (Nat.lt_of_lt_of_le hb (Nat.le_add_right _ _))) (Nat.ne_of_lt (Nat.lt_of_lt_of_le hb (Nat.le_add_right _ _))) (Nat.ne_of_lt hb) (Nat.ne_of_lt (Nat.lt_of_lt_of_le hb (Nat.le_add_right _ _))) (hk b o e)
      have frs : ∀ c, h'.objs.size ≤ c → H1 c = none := fun c hc => I1.hok.fresh (Nat.le_trans (Nat.le_of_lt lt5) hc)
      have oldlt : ∀ b o, H1 b = some o → b < h'.objs.size := fun b o e => Nat.lt_of_not_le fun hc => by rw [frs b hc] at e; cases e
      have nolook : ∀ b, b < h'.objs.size → (as.zip (List.zipWith (fun x y => [x, y]) xs ys)).lookup b = none := fun b hb => by
        cases hl : (as.zip (List.zipWith (fun x y => [x, y]) xs ys)).lookup b with
        | none => rfl
        | some l =>
          obtain ⟨i, h1, _⟩ := zipLookR hl
          have := hG.above b (List.mem_of_getElem? h1)
          exact absurd (Nat.lt_trans hb this) (Nat.lt_irrefl _)
      have eold : ∀ b, b < h'.objs.size → hpZip H1 h'.objs.size as (List.zipWith (fun x y => [x, y]) xs ys) b = H1 b := fun b hb => by
        unfold hpZip
        rw [if_neg (Nat.ne_of_lt hb), nolook b hb]
      have lsl : (List.zipWith (fun x y => [x, y]) xs ys).length = as.length := by rw [List.length_zipWith, hla]
      have etup : ∀ (i : Nat) (p : Addr) (l : List V), as[i]? = some p → (List.zipWith (fun x y => [x, y]) xs ys)[i]? = some l → hpZip H1 h'.objs.size as (List.zipWith (fun x y => [x, y]) xs ys) p = some (.tup l) := fun i p l hp hl => by
        unfold hpZip
        rw [if_neg (Nat.ne_of_gt (hG.above p (List.mem_of_getElem? hp))), zipLook hG.rise hp hl]
      have Un1 : Un X.fs [] H1 (hpZip H1 h'.objs.size as (List.zipWith (fun x y => [x, y]) xs ys)) s1.heap h2 := {
        keep := fun b o q n _ _ => kk b o q
        slot := fun b o q n _ _ => ⟨o.slots, kk b o q⟩
        free := fun b o q n _ => by rw [eold b (Nat.lt_trans (Heap.lt_size q) lt5)]; exact n
        there := fun b o q _ => ⟨o, kk b o q⟩
        tups := fun b xs q => by rw [eold b (oldlt b _ q)]; exact q
        frzs := fun b o v q => by rw [eold b (oldlt b _ q)]; exact q
        tbls := fun b ps q => ⟨#[], by rw [eold b (oldlt b _ q), q]; simp⟩ }
      have J : L2.Inv X pins σ (hpZip H1 h'.objs.size as (List.zipWith (fun x y => [x, y]) xs ys)) { s1 with heap := h2, toks := tk } := I1.un (t' := tk) Un1 fun b o q => by
        by_cases hbq : b = h'.objs.size
        · subst hbq
          have e : hpZip H1 h'.objs.size as (List.zipWith (fun x y => [x, y]) xs ys) h'.objs.size = some (.lst (as.map V.ref)) := by
            unfold hpZip
            rw [if_pos rfl]
          rw [e] at q
          cases q
          have hv : ∀ ps : List Addr, Vals (ps.map V.ref) (ps.map Value.ref) := by
            intro ps
            induction ps with
            | nil => exact .nil
            | cons p ps ih => exact .cons rfl ih
          have el : acc = (as.map Value.ref).toArray := by rw [← hacc]
          refine ⟨by rw [List.length_map]; omega, _, c, hv as, ?_⟩
          rw [← el]
          exact hL
        · cases hlk : (as.zip (List.zipWith (fun x y => [x, y]) xs ys)).lookup b with
          | some l =>
            obtain ⟨i, hi, hli⟩ := zipLookR hlk
            rw [etup i b l hi hli] at q
            cases q
            obtain ⟨u, v, hu, hv, hp⟩ := hG.pairs i b hi
            rw [List.getElem?_zipWith] at hli
            cases hxi : xs[i]? with
            | none => rw [hxi] at hli; simp at hli
            | some x =>
              cases hyi : ys[i]? with
              | none => rw [hxi, hyi] at hli; simp at hli
              | some y =>
                rw [hxi, hyi] at hli
                have hli : [x, y] = l := by simpa using hli
                subst hli
                obtain ⟨u', hu', ru⟩ := rv.get hxi
                obtain ⟨v', hv', rv'⟩ := rv2.get hyi
                have e1 : u = u' := by
                  have : its[i]? = some u := by simpa using hu
                  rw [this] at hu'
                  exact Option.some.inj hu'
                have e2 : v = v' := by
                  have : its2[i]? = some v := by simpa using hv
                  rw [this] at hv'
                  exact Option.some.inj hv'
                subst e1 e2
                exact ⟨by show 2 ≤ sizeLine; decide, [u, v], .cons ru (.cons rv' .nil), ⟨_, hp, rfl, _, rfl⟩⟩
          | none =>
            have e : hpZip H1 h'.objs.size as (List.zipWith (fun x y => [x, y]) xs ys) b = H1 b := by
              unfold hpZip
              rw [if_neg hbq, hlk]
            rw [e] at q
            exact (I1.hok b o q).stay (fun c v hc z => kk c v z) (fun c hc => by rw [eold c (oldlt c _ hc)]; exact hc) (fun c xs hc => by rw [eold c (oldlt c _ hc)]; exact hc)
      refine ⟨.ref h'.objs.size, _, J, rfl, q _ as _ (frs _ (Nat.le_refl _)) (fun c o e => by rw [eold c (oldlt c o e)]; exact e) ?_ hla fun i p hp => ?_⟩
      · unfold hpZip
        rw [if_pos rfl]
      · have li : i < as.length := (List.getElem?_eq_some_iff.mp hp).1
        have lx : i < xs.length := by omega
        have ly : i < ys.length := by omega
        refine ⟨xs[i], ys[i], List.getElem?_eq_getElem lx, List.getElem?_eq_getElem ly, etup i p _ hp ?_⟩
        rw [List.getElem?_zipWith, List.getElem?_eq_getElem lx, List.getElem?_eq_getElem ly]
end
end Z
namespace Z
open PySem L2
section
variable {K : PySem.W.Frag} {σ : L2.St} {H : Hp} {Q : VK} {ta : TA} {te : TE}
/-! ### read -/
def rLZip (K : PySem.W.Frag) (vs : List V) (H1 : Hp) (Q : VK) : Prop := ∃ a b xs ys, vs = [.ref a, .ref b] ∧ SqT K H1 a xs ∧ SqT K H1 b ys ∧ ∀ (q : Addr) (ps : List Addr) (H2 : Hp), H1 q = none → (∀ c o, H1 c = some o → H2 c = some o) → H2 q = some (.lst (ps.map V.ref)) → ps.length = min xs.length ys.length →
  (∀ (i : Nat) (p : Addr), ps[i]? = some p → ∃ x y, xs[i]? = some x ∧ ys[i]? = some y ∧ H2 p = some (.tup [x, y])) → Q (.ref q) H2
theorem i_lzip (h : ta σ H (fun vs H1 => rLZip K vs H1 Q)) : tLZip K ta σ H Q := h
def rMkV (C : Addr) (sp : Sp) (vs : List V) (H1 : Hp) (Q : VK) : Prop := vs.length ≤ 1000 ∧ ∀ a, H1 a = none → sp (.ref a :: (vs ++ [])) (upd H1 a (exo a C none)) (fun v H2 => v = .non ∧ Q (.ref a) H2) (fun _ _ _ => False)
theorem i_mkV {C : Addr} {sp : Sp} (h : ta σ H (fun vs H1 => rMkV C sp vs H1 Q)) : tMkV C sp ta σ H Q := h
def rFmtSO (C : Addr) (sp : Sp) (x : V) (H1 : Hp) (Q : VK) : Prop := ∃ a dx fs, x = .ref a ∧ H1 a = some (.ins C dx fs) ∧ sp [.ref a] H1 (fun v H' => ∃ z, v = .str z ∧ z.length ≤ 100000 ∧ Q (.str z) H') (fun _ _ _ => False)
theorem i_fmtSO {C : Addr} {sp : Sp} (h : te σ H (fun x H1 => rFmtSO C sp x H1 Q)) : tFmtSO C sp te σ H Q := h
theorem i_mulLI {a : Addr} {v : V} {k : Nat} (e : H a = some (.lst [v])) (hk : k ≤ 1000) (h : ∀ p H', H p = none → Same H H' → H' p = some (.lst (List.replicate k v)) → Q (.ref p) H') : rMulLI (.ref a) (.int (k : Nat)) H Q :=
  ⟨a, v, k, rfl, rfl, e, hk, fun p hp => h p _ hp (fun b o eb => by rw [upd_ne (ne_of_none eb hp)]; exact eb) upd_same⟩
end
end Z
namespace Z
open PySem PySem.Spec PyProof.Rows L2
section
variable {K : PySem.W.Frag} {σ : L2.St} {H : Hp} {g : TG} {tt : TT} {te : TE} {tr : TA} {Q : VK}
def rLcR1 (g : TG) (tt : TT) (te : TE) (vs : List Nat) (σ : L2.St) (Q : VK) (ws : List V) (H1 : Hp) : Prop := ∃ j : Int, ws = [.int j] ∧ -(2 ^ 62) ≤ j ∧ j < 2 ^ 62 ∧ ∀ D, H1 D = none → ∃ W : Nat → Nat → Hp → Prop, (∃ m, W 0 m (upd H1 D (.lst []))) ∧ ∀ k m H, W k m H →
  ((Itr 0 j.toNat).stop k H ∧ Q (.ref D) H) ∨ ((Itr 0 j.toNat).go k H ∧ ∃ Nx : Hp → Prop, (∀ H', Nx H' → ∃ m', m' < m ∧ W (k + 1) m' H') ∧ ∀ x H', (Itr 0 j.toNat).yld k H x H' → g x (wipe σ vs) H' fun σ2 H2 => wipe σ2 vs = wipe σ vs ∧ tt σ2 H2 fun b H3 =>
    if b = true then te σ2 H3 fun y H4 => ∃ acc, H4 D = some (.lst acc) ∧ acc.length < sizeLine ∧ Nx (upd H4 D (.lst (acc ++ [y]))) else Nx H3)
theorem i_lcR10 {vs : List Nat} (h : tr σ H (fun ws H1 => rLcR1 g tt te vs σ Q ws H1)) : tLc (iRng1 tr) g tt te vs σ H Q := h
theorem i_lcR1 {vs : List Nat} {n : Nat} {j : Int} (hj : j = (n : Int)) (hn : n < 100000) (Pv : Nat → List V → Hp → Prop) (h0 : ∀ D H', H D = none → Same H H' → H' D = some (.lst []) → (∀ b, b ≠ D → H' b = H b) → Pv 0 [] H')
    (hs : ∀ k D ys H1, H D = none → k < n → H1 D = some (.lst ys) → Pv k ys H1 → g (.int ((0 : Int) + (k : Nat))) (wipe σ vs) H1 fun σ2 H2 => wipe σ2 vs = wipe σ vs ∧ tt σ2 H2 fun b H3 => if b = true then te σ2 H3 fun y H4 => rLcE D Pv k y H4 else LcS D Pv (k + 1) H3)
    (hd : ∀ D ys H1, H D = none → H1 D = some (.lst ys) → Pv n ys H1 → Q (.ref D) H1) : rLcR1 g tt te vs σ Q [.int j] H := by
  refine ⟨j, rfl, by omega, by omega, fun D hD => ?_⟩
  have e : j.toNat = n := by omega
  rw [e]
  refine lc_range (LcS D Pv) ⟨[], upd_same, h0 D _ hD (fun b o e => by rw [upd_ne (ne_of_none e hD)]; exact e) upd_same (fun b hb => upd_ne hb)⟩ ?_ ?_
  · rintro k H' hk ⟨ys, hD', p⟩
    exact hs k D ys H' hD hk hD' p
  · rintro H' ⟨ys, hD', p⟩
    exact hd D ys H' hD hD' p
end
end Z

set_option Elab.async false
set_option linter.all false
set_option maxRecDepth 100000
set_option maxHeartbeats 1000000
/-! a, *rest = xs -/
namespace Z
open PySem PySem.Spec PyProof.Rows L2
/-- a walk from a place on -/
theorem walksFrom {prog : Program} {w : World} {A : Around} {I : Addr} {fp wr : List Addr} {G : Array GenState → Array GenState → Prop} {n : Nat} {P : Nat → Value → Prop} {St : Nat → Shared → Prop} (W : WalksS prog w A I fp wr G n P St) (k : Nat) (hk : k ≤ n) :
    WalksS prog w A I fp wr G (n - k) (fun i => P (i + k)) (fun i => St (i + k)) where
  sub := W.sub
  grefl := W.grefl
  gtrans := W.gtrans
  frame := fun i => W.frame (i + k)
  item := fun i s Q E hi st hq => W.item (i + k) s Q E (by omega) st fun v s' p st' m => hq v s' p (Eq.mp (congrArg (fun z => St z s') (show i + k + 1 = i + 1 + k by omega)) st') m
  done := fun s Q E st hq => W.done s Q E (Eq.mp (congrArg (fun z => St z s) (show n - k + k = n by omega)) st) hq
  self := fun i => W.self (i + k)
section
variable {prog : Program} {w : World} {A : Around} {E : Value → Shared → Prop} {s : Shared} {l : Addr} {items : Array Value}
theorem starItems {Q : List Value → Shared → Prop} {x : Value} {rest : List Value} (hh : A.handled = none) (hl : s.heap.IsList l items) (hi : items.toList = x :: rest) (hz : items.size ≤ sizeLine)
    (hQ : ∀ h' tk q, (∀ b o, s.heap.get? b = some o → h'.get? b = some o) → s.heap.get? q = none → (∃ c, h'.get? q = some ({ cls := .type "list", data := .seq rest.toArray c } : Obj)) → Q [x, .ref q] { s with heap := h', toks := tk }) :
    wpAny (model prog w) A (unpackItems (.ref l) 2 (some 1)) Q E s := by
  have hls : l < s.heap.objs.size := by obtain ⟨o, ho, _⟩ := hl; exact Heap.lt_size ho
  have hlt : l ≠ s.heap.objs.size := Nat.ne_of_lt hls
  have hsz : items.size = rest.length + 1 := by rw [← Array.length_toList, hi]; rfl
  unfold unpackItems
  refine wpAny_bind ?_
  unfold notIterableAtAll
  refine wpAny_bind (wpAny_specialOf hl.typeIs PySem.F.slot_list_iter.lookup ?_)
  refine wpAny_pure ?_
  simp only [Bool.false_eq_true, if_false]
  refine wpAny_bind (wpAny_holding (wpAny_pyIter_list hl ?_))
  refine wpAny_bind (wpAny_holding (PySem.W.kun_draw hlt 1 0 _ _ ⟨_, Heap.get?_push_size _ rfl, rfl, rfl⟩ (hl.push _) (by omega) fun h₁ hit₁ hs₁ => ?_))
  have hall : (items.toList.drop 0).take 1 = [x] := by rw [hi]; rfl
  rw [hall]
  rw [if_neg (by simp)]
  have hl₁ : h₁.IsList l items := (hl.push _).extBut hs₁.extBut hlt
  have hsz1 : h₁.objs.size = s.heap.objs.size + 1 := by rw [hs₁.1]; exact Heap.size_push _ _
  refine wpAny_bind (wpAny_holding ?_)
  have W := walksFrom (Walks.list (prog := prog) (w := w) (A := A.in1) hh s.heap.objs.size l hlt items).toS 1 (by omega)
  refine wpAny_collect_iter (T := "list_iterator") (.inr (.inr (.inl rfl))) W (fun i s st => st.1.typeIs) ⟨hit₁, hl₁⟩ (fun b hb => ?_) (by simp) (fun s' acc hm hacc => ?_) (by omega)
  · simp at hb
    rcases hb with rfl | rfl
    · show s.heap.objs.size < h₁.objs.size
      rw [hsz1]
      exact Nat.lt_succ_self _
    · show b < h₁.objs.size
      rw [hsz1]
      exact Nat.lt_succ_of_lt hls
  have eacc : acc.toList = rest := by
    obtain ⟨h1, h2⟩ := hacc
    have h1' : acc.toList.length = rest.length := by rw [Array.length_toList, h1]; omega
    refine List.ext_getElem? fun j => ?_
    rcases Nat.lt_or_ge j rest.length with hj | hj
    · have hj' : j < acc.size := by rw [← Array.length_toList]; omega
      have this : items[j + 1]? = some acc[j] := h2 j acc[j] (by simp [hj'])
      have e2 : items[j + 1]? = rest[j]? := by
        rw [← Array.getElem?_toList, hi, List.getElem?_cons_succ]
      rw [e2] at this
      rw [this, Array.getElem?_toList]
      simp [hj']
    · rw [List.getElem?_eq_none (by omega), List.getElem?_eq_none hj]
  rw [eacc]
  have hz0 : rest.length ≤ sizeLine := by omega
  rw [if_neg (by simp)]
  show wpAny _ _ (newList (rest.take (rest.length - (2 - 1 - 1))) >>= _) _ _ _
  have et : rest.take (rest.length - (2 - 1 - 1)) = rest := List.take_of_length_le (by omega)
  rw [et]
  obtain ⟨hp, g, d, t, os⟩ := s
  obtain ⟨hp', g', d', t', os'⟩ := s'
  obtain ⟨m1, m2, m3, m4, m5⟩ := hm
  dsimp only at m1 m2 m3 m4 m5
  subst m2 m3 m4
  have kp : ∀ b o, hp.get? b = some o → hp'.get? b = some o := fun b o e => m1 b o (by
    have := Heap.lt_size e
    simp
    exact Nat.ne_of_lt this) (hs₁.extBut b o (Nat.ne_of_lt (Heap.lt_size e)) (Heap.get?_push_of_some _ e))
  unfold newList
  refine wpAny_bind (wpAny_newObj_type ?_ (by show rest.toArray.size ≤ sizeLine; rw [List.size_toArray]; exact hz0))
  refine wpAny_pure ?_
  have ed : rest.drop (rest.length - (2 - 1 - 1)) = [] := List.drop_of_length_le (by omega)
  rw [ed]
  have hq : hp.get? hp'.objs.size = none := by
    cases e : hp.get? hp'.objs.size with
    | none => rfl
    | some o => exact absurd (Heap.lt_size (kp _ _ e)) (Nat.lt_irrefl _)
  exact hQ _ _ _ (fun b o e => Heap.get?_push_of_some _ (kp b o e)) hq ⟨0, Heap.get?_push_size _ rfl⟩
end
section
variable {P : Program} {w : World} {H : Hp} {h h' : Heap} {a : Addr} {o : HO}
theorem objAlive (x : ObjOk P w H h a o) : ∃ u, h.get? a = some u := by
  cases o with
  | lst xs => obtain ⟨_, _, _, _, e⟩ := x; exact ⟨_, e⟩
  | tup xs => obtain ⟨_, _, _, u, e, _⟩ := x; exact ⟨u, e⟩
  | dK kvs => obtain ⟨_, _, _, _, u, _, _, e, _⟩ := x; exact ⟨u, e⟩
  | dT kvs => obtain ⟨_, _, _, _, u, _, _, e, _⟩ := x; exact ⟨u, e⟩
  | set S n => obtain ⟨u, _, _, _, e, _⟩ := x; exact ⟨u, e⟩
  | ins C dx fs => obtain ⟨_, _, _, e, _⟩ := x; exact ⟨_, e⟩
  | own y => obtain ⟨u, e⟩ := x; exact ⟨u, e⟩
  | xd fs => obtain ⟨_, ⟨u, _, _, e, _⟩, _⟩ := x; exact ⟨u, e⟩
  | rng lo hi => obtain ⟨_, _, _, e⟩ := x; exact ⟨_, e⟩
  | frz ob u => obtain ⟨e, _⟩ := x; exact ⟨_, e⟩
  | tbl ps => exact ⟨_, (show h.get? a = some _ from x)⟩
  | met f y => exact ⟨_, (show h.get? a = some _ from x)⟩
  | ext φ => obtain ⟨_, ⟨u, e⟩, _⟩ := x; exact ⟨u, e⟩
end
/-- a new list where nothing stood, all others kept -/
theorem invAt {X : Cx} {pins : List (Addr × Obj)} {σ : L2.St} {H : Hp} {s : Shared} {h' : Heap} {q : Addr} {o : HO} {t' : Nat} (I : L2.Inv X pins σ H s) (k : ∀ b u, s.heap.get? b = some u → h'.get? b = some u) (hq : s.heap.get? q = none) (new : ObjOk X.prog X.w (upd H q o) h' q o) :
    H q = none ∧ L2.Inv X pins σ (upd H q o) { s with heap := h', toks := t' } := by
  have hn : H q = none := by
    cases e : H q with
    | none => rfl
    | some u =>
      obtain ⟨v, ev⟩ := objAlive (I.hok q u e)
      rw [hq] at ev
      cases ev
  have ne : ∀ {b : Addr} {u : Obj}, s.heap.get? b = some u → b ≠ q := fun {b u} e z => by rw [z, hq] at e; cases e
  refine ⟨hn, I.un (t' := t') {
    keep := fun b o e n _ _ => k b o e
    slot := fun b o e n _ _ => ⟨o.slots, k b o e⟩
    free := fun b o e n _ => by rw [upd_ne (ne e)]; exact n
    there := fun b o e _ => ⟨o, k b o e⟩
    tups := fun b xs e => by rw [upd_ne (ne_of_none e hn)]; exact e
    frzs := fun b o v e => by rw [upd_ne (ne_of_none e hn)]; exact e
    tbls := fun b ps e => ⟨#[], by rw [upd_ne (ne_of_none e hn), e]; simp⟩ } fun b u e => ?_⟩
  by_cases hb : b = q
  · subst hb
    rw [upd_same] at e
    cases e
    exact new
  · rw [upd_ne hb] at e
    exact (I.hok b u e).stay (fun c v _ z => k c v z) (fun c z => by rw [upd_ne (ne_of_none z hn)]; exact z) (fun c xs z => by rw [upd_ne (ne_of_none z hn)]; exact z)
/-- a, *b = xs -/
def gStar (K : PySem.W.Frag) (t : TGs) : TG := fun v σ H Q => ∃ (a : Addr) (x : V) (xs : List V), v = .ref a ∧ SqL K H a (x :: xs) ∧ ∀ p, H p = none → t [x, .ref p] σ (upd H p (.lst xs)) Q
theorem pg_star1 {X : Cx} {e1 e2 : Expr} {ps pos : Pos} {k : Nat} {t : TGs} (hc : X.calm = true) (h : PGs X [e1, e2] t) (hn : (assignEach [e1, .Starred e2 ps] X.env).length = 2 := by rfl) (hst : (assignEach [e1, .Starred e2 ps] X.env).findIdx? (·.1) = some 1 := by rfl)
    (hm : (assignEach [e1, .Starred e2 ps] X.env).map (·.2) = (assignEach [e1, e2] X.env).map (·.2) := by rfl) : PG X (.Tuple [e1, .Starred e2 ps] k pos) (gStar X.K t) := by
  refine ⟨fun pins s σ H v u Q I r hw => ?_⟩
  obtain ⟨a, x, xs, e1, hq, hw⟩ := hw
  subst e1
  cases r
  obtain ⟨its, rv, pl, hz⟩ := I.list hq
  obtain ⟨ux, us, rfl, rx, rs⟩ : ∃ ux us, its = ux :: us ∧ RelV x ux ∧ Vals xs us := by
    cases rv with
    | cons r1 r2 => exact ⟨_, _, rfl, r1, r2⟩
  have hl := rs.length
  rw [PyProof.Rows.assign_Tuple]
  refine wpAny_bind (wpAny_standAt ?_)
  unfold unpack
  rw [hn, hst, hm]
  refine wpAny_bind (wpAny_holding (starItems (I.ok.hd hc) pl.isList rfl (by rw [List.size_toArray, List.length_cons]; rw [List.length_cons] at hz; omega) fun h' tk q hk hq' ⟨c, hc'⟩ => ?_))
  have hz' : xs.length ≤ sizeLine := by rw [List.length_cons] at hz; omega
  obtain ⟨hn', J⟩ := invAt (t' := tk) (o := .lst xs) I hk hq' ⟨hz', us, c, rs, hc'⟩
  exact h.run pins _ σ _ [x, .ref q] [ux, .ref q] Q J (.cons rx (.cons rfl .nil)) (hw q hn')
end Z

set_option Elab.async false
set_option linter.all false
set_option maxRecDepth 100000
set_option maxHeartbeats 4000000
/-! enumerate(xs, start=k), xs a list -/
namespace Z
open PySem PySem.Spec PyProof.Rows L2
section
variable {M : Model} {A : Around} {E : Value → Shared → Prop} {s : Shared} {env : Env}
theorem cw_typeArgs {pos : Pos} {T : String} {args : List (Bool × Sem Value)} {keywords : List (Option Str × Sem Value)} {Q : Value → Shared → Prop} (hplain : args.any (·.1) = false) (hkw : keywords.any (·.1.isNone) = false)
    (h : wpAny M A (evalArgs (.type T) true args keywords) (fun a s₁ => wpAny M A (call (.type T) a.pos a.kw) Q E s₁) E s) : wpAny M A (callWith pos (.type T) [] args keywords) Q E s := by
  unfold callWith
  refine wpAny_bind (wpAny_holding (wpAny_mono h (fun a s₁ h₁ => wpAny_bind (wpAny_standAt ?_)) fun _ _ x => x))
  simp only [hplain, hkw, Bool.or_false]
  refine wpAny_bind (wpAny_pure ?_)
  exact wpAny_bind (wpAny_mono h₁ (fun r s₂ hr => wpAny_bind (wpAny_holding (wpAny_point (wpAny_pure hr)))) fun _ _ x => x)
theorem cw_typeKw {pos : Pos} {T : String} {e : Expr} {rest : List Expr} {kws : List Keyword} {Q : Value → Shared → Prop}
    (h : wpAny M A (spliced (backTo pos (starEach (e :: rest) env))) (fun vs s₁ => wpAny M A (evalAll ((backToKw pos (keywordEach kws env)).map (·.2)))
      (fun kvs s₂ => wpAny M A (call (.type T) vs (((backToKw pos (keywordEach kws env)).filterMap (·.1)).zip kvs)) Q E s₂) E s₁) E s)
    (he : backTo pos (starEach (e :: rest) env) = (false, eval e env) :: backTo pos (starEach rest env) := by rfl)
    (hplain : (backTo pos (starEach (e :: rest) env)).any (·.1) = false := by rfl)
    (hall : (backToKw pos (keywordEach kws env)).all (·.1.isSome) = true := by rfl)
    (hkw : (backToKw pos (keywordEach kws env)).any (·.1.isNone) = false := by rfl) :
    wpAny M A (callWith pos (.type T) [] (backTo pos (starEach (e :: rest) env)) (backToKw pos (keywordEach kws env))) Q E s := by
  refine cw_typeArgs hplain hkw ?_
  rw [he] at h ⊢
  exact evalArgs_kwB hall h
end
/-- the end alone, of a list -/
theorem drawsEndL {prog : Program} {w : World} {A : Around} (calm : A.handled = none) (q t : Addr) (its : Array Value) (i : Nat) (out : its[i]? = none) :
    Draws prog w A q [q, t] i (fun _ _ => True) (fun j h => j = i ∧ h.IsListIter q t j ∧ h.IsList t its) where
  live := fun _ _ st => let ⟨o, ho, _⟩ := st.2.1; ⟨o, ho⟩
  frame := fun _ _ _ st hk => ⟨st.1, st.2.1.at fun o e => hk q (by simp) o e, st.2.2.at fun o e => hk t (by simp) o e⟩
  item := fun j s Q E hi st hQ => by
    have := st.1
    omega
  done := fun s Q E st hE => wpAny_nextOf_list_end calm st.2.1 st.2.2 out hE
/-- the list at a from the number k on, each item in a new pair -/
def IteS (K : PySem.W.Frag) (a : Addr) (k : Int) : It :=
  ⟨fun i H => ∃ (xs : List V) (x : V), SqL K H a xs ∧ xs[i]? = some x, fun i H v H' => ∃ T x, v = .ref T ∧ H T = none ∧ H' = upd H T (.tup [.int (k + (i : Nat)), x]) ∧ ∀ xs, SqL K H a xs → xs[i]? = some x, fun i H => ∃ xs : List V, SqL K H a xs ∧ xs.length ≤ i⟩
theorem turn_enumS {P : Program} {w : World} {K : PySem.W.Frag} {elts : List Expr} {kk : Nat} {tpos : Pos} (a e it : Addr) (k : Int) :
    Turn P w K (.Tuple elts kk tpos) (IteS K a k) [e, it] e (fun i h => (∃ old, IsEnum h e it (k + (i : Nat)) old) ∧ h.IsListIter it a i ∧ e ≠ it ∧ a ≠ it ∧ a ≠ e) where
  mem := by simp
  obj := fun i h st b hb => by
    obtain ⟨⟨old, he⟩, ⟨o, ho, hc, hd⟩, _⟩ := st
    have e' : b = e ∨ b = it := by simpa using hb
    rcases e' with z | z
    · rw [z]; exact ⟨_, he, fun v q => nomatch q⟩
    · rw [z]; exact ⟨o, ho, fun v q => by rw [hd] at q; cases q⟩
  keep := fun i h h' st k => let ⟨⟨old, he⟩, hit, hne⟩ := st; ⟨⟨old, k e (by simp) _ he⟩, hit.at fun o q => k it (by simp) o q, hne⟩
  item := by
    intro X hP hw hK hc i pins s σ H E I hf st hg
    subst hP hw hK
    obtain ⟨⟨old, he⟩, hit, hne, hai, hae⟩ := st
    obtain ⟨xs, x, hq, hx⟩ := hg
    obtain ⟨its, rv, p, hz⟩ := I.list hq
    obtain ⟨u, hu, ru⟩ := rv.get hx
    have hel : e < s.heap.objs.size := Heap.lt_size he
    have hil : it < s.heap.objs.size := by obtain ⟨_, z, _⟩ := hit; exact Heap.lt_size z
    have hlt : i < its.toArray.size := by
      have := (List.getElem?_eq_some_iff.mp hu).1
      simpa using this
    refine wpAny_pyNext_enum_itemC (Draws.list (by first | exact I.ok.hd hc | (show X.A.in1.handled = none; exact I.ok.hd hc)) it a hai its.toArray) he ⟨hit, p.isList⟩ hlt hne (by simp [hne, Ne.symm hae]) fun x' h' tk hx' ho hst' hT hsz hk => ?_
    obtain rfl : x' = u := by
      rw [show its.toArray[i]? = its[i]? by simp, hu] at hx'
      exact (Option.some.inj hx').symm
    refine ⟨_, rfl, wpAny_letOwnedTupleGo_enum (s := { s with heap := h', toks := tk + 1 }) ho fun h'' he' sb => ?_⟩
    have hT2 : h''.get? s.heap.objs.size = some { cls := .type "tuple", data := .seq #[.int (k + (i : Nat)) tk, x'] } := (sb.2 _ (Nat.ne_of_gt hel)).trans hT
    have new : ObjOk X.prog X.w (upd H s.heap.objs.size (.tup [.int (k + (i : Nat)), x])) h'' s.heap.objs.size (.tup [.int (k + (i : Nat)), x]) :=
      ⟨by show 2 ≤ sizeLine; decide, [.int (k + (i : Nat)) tk, x'], .cons ⟨_, rfl⟩ (.cons ru .nil), ⟨_, hT2, rfl, _, rfl⟩⟩
    have I1 : Inv X pins σ (upd H s.heap.objs.size (.tup [.int (k + (i : Nat)), x])) { s with heap := h'', toks := tk + 1 } :=
      I.turnedNew (ch := [e, it]) (fun b ob hb z => (sb.2 b (fun y => hb (by simp [y]))).trans (hk b ob (fun y => hb (by simp [y])) (fun y => hb (by simp [y])) z)) hf (Nat.le_refl _) new
    have hit2 : h''.IsListIter it a (i + 1) := hst'.1.at fun o z => (sb.2 it (Ne.symm hne)).trans z
    refine ⟨.ref s.heap.objs.size, _, I1, rfl, ⟨_, x, rfl, I.hok.fresh (Nat.le_refl _), rfl, fun ys hy => by rw [I.list_inj hy hq]; exact hx⟩, ⟨⟨x', ?_⟩, hit2, hne, hai, hae⟩, fun b hb => ?_⟩
    · have e1 : k + ((i + 1 : Nat) : Int) = k + (i : Nat) + 1 := by omega
      rw [e1]; exact he'
    · have hb' : b < s.heap.objs.size := by
        have e' : b = e ∨ b = it := by simpa using hb
        rcases e' with z | z
        · rw [z]; exact hel
        · rw [z]; exact hil
      rw [upd_ne (Nat.ne_of_lt hb')]
      exact (hf b hb).1
  done := by
    intro X hP hw hK hc i pins s σ H E I hf st hg
    subst hP hw hK
    obtain ⟨⟨old, he⟩, hit, hne, hai, hae⟩ := st
    obtain ⟨xs, hq, hx⟩ := hg
    obtain ⟨its, rv, p, hz⟩ := I.list hq
    obtain ⟨f0, f1, f2, f3, f4, f5⟩ := hf it (by simp)
    have hl := rv.length
    refine wpAny_pyNext_enum_endD (drawsEndL (by first | exact I.ok.hd hc | (show X.A.in1.handled = none; exact I.ok.hd hc)) it a its.toArray i (by simp; omega)) he ⟨rfl, hit, p.isList⟩ fun h' eb => ⟨rfl, I.turned (t' := s.toks) (fun b o hb q => eb b o hb q) f0 f1 f3 f4 f5⟩
  self := fun A i s Q E st h => let ⟨⟨_, he⟩, _⟩ := st; wpAny_pyIter_enum he h
theorem walk_enumS {K : PySem.W.Frag} {a : Addr} {xs : List V} {k : Int} : Walk (IteS K a k) xs.length (fun H => SqL K H a xs) (YPair (fun i => some (.int (k + (i : Nat)))) (fun i => xs[i]?)) := by
  refine ⟨fun i _ hi q => ⟨xs, xs[i], q, by simp [hi]⟩, fun _ q => ⟨xs, q, Nat.le_refl _⟩, fun i H v H' _ q y => ?_⟩
  obtain ⟨T, x, h1, h2, h3, h4⟩ := y
  exact ⟨T, .int (k + (i : Nat)), x, h1, h2, h3, rfl, h4 xs q⟩
/-- enumerate(xs, start=k) -/
def iEnS (K : PySem.W.Frag) (ta tk : TA) : TI := fun σ H R => ta σ H fun vs H1 => tk σ H1 fun ws H2 => ∃ a xs k, vs = [.ref a] ∧ ws = [.int k] ∧ -(2 ^ 62) ≤ k ∧ k < 2 ^ 62 ∧ SqL K H2 a xs ∧ R (IteS K a k) H2
theorem pi_enS {X : Cx} {K : PySem.W.Frag} {e : Expr} {kws : List Keyword} {ta tk : TA} {p pos tpos : Pos} {elts : List Expr} {kk : Nat} (hK : X.K = K) (hg : Gl X "enumerate") (hm : X.mg "enumerate" = none) (ha : PA X [e] ta) (hk : PK X kws tk)
    (he : backTo pos (starEach [e] X.env) = [(false, eval e X.env)] := by rfl) (hpl : (backTo pos (starEach [e] X.env)).any (·.1) = false := by rfl)
    (hall : (backToKw pos (keywordEach kws X.env)).all (·.1.isSome) = true := by rfl) (hnone : (backToKw pos (keywordEach kws X.env)).any (·.1.isNone) = false := by rfl) (hks : (backToKw pos (keywordEach kws X.env)).filterMap (·.1) = [Str.ofString "start"] := by rfl) :
    PI X (.Tuple elts kk tpos) (.Call (.Name "enumerate" p) [e] kws pos) (iEnS K ta tk) := by
  subst hK
  refine ⟨fun pins s σ H R I h => ?_⟩
  refine wpAny_Call_Name_kw (ld_blt I hg hm boot_enumerate ?_)
  refine cw_typeKw (thn (ha.run pos pins s σ H _ I h) fun us s1 ⟨vs, H1, I1, r1, q1⟩ => thn (hk.run pos pins s1 σ H1 _ I1 q1) fun ws s2 ⟨zs, H2, I2, r2, q2⟩ => ?_) he hpl hall hnone
  rw [hks]
  obtain ⟨a, xs, k, rfl, rfl, hk0, hk1, hq, q⟩ := q2
  obtain ⟨u, rfl, r⟩ := r1.one
  cases r
  obtain ⟨u2, rfl, r'⟩ := r2.one
  obtain ⟨tk', rfl⟩ := r'
  have two : ∀ b ∈ [s2.heap.objs.size + 1, s2.heap.objs.size], FpOk X pins H2 b := fun b hb => by
    have e' : b = s2.heap.objs.size + 1 ∨ b = s2.heap.objs.size := by simpa using hb
    have hle : s2.heap.objs.size ≤ b := by
      rcases e' with z | z
      · rw [z]; exact Nat.le_add_right _ _
      · rw [z]; exact Nat.le_refl _
    exact I2.fpOk hle (I2.hok.fresh hle)
  obtain ⟨its, rv, p', hz⟩ := I2.list hq
  have hal : a < s2.heap.objs.size := by obtain ⟨_, z, _⟩ := p'.isList; exact Heap.lt_size z
  refine enum_begins_start (begins_list a its.toArray) p'.isList (by omega) (by omega) fun h' he' hit hsz hk' => wpAny_pyIter_enum he' ?_
  refine ⟨s2.heap.objs.size + 1, [s2.heap.objs.size + 1, s2.heap.objs.size], _, _, H2, rfl, I2.kept (t' := s2.toks) hk', turn_enumS a (s2.heap.objs.size + 1) s2.heap.objs.size k, ⟨⟨.none, ?_⟩, ⟨_, hit, rfl, rfl⟩, Nat.succ_ne_self _, Nat.ne_of_lt hal, Nat.ne_of_lt (Nat.lt_succ_of_lt hal)⟩, two, q⟩
  have e0 : k + ((0 : Nat) : Int) = k := by omega
  rw [e0]
  exact he'
/-! ### read -/
section
variable {K : PySem.W.Frag} {σ : L2.St} {H H0 : Hp} {D : Ends} {ta tk : TA} {g : TG} {tb : TS} {a : Addr} {xs : List V} {k : Int}
def rEnS (K : PySem.W.Frag) (g : TG) (tb : TS) (D : Ends) (σ : L2.St) (vs ws : List V) (H2 : Hp) : Prop := ∃ a xs k, vs = [.ref a] ∧ ws = [.int k] ∧ -(2 ^ 62) ≤ k ∧ k < 2 ^ 62 ∧ SqL K H2 a xs ∧ rFor (IteS K a k) g tb D σ H2
theorem i_enS0 (h : ta σ H (fun vs H1 => tk σ H1 (fun ws H2 => rEnS K g tb D σ vs ws H2))) : tFor (iEnS K ta tk) g tb D σ H := h
theorem i_enS (Pv : Nat → L2.St → Hp → Prop) (s : H0 a = some (.lst xs)) (hk : -(2 ^ 62) ≤ k ∧ k < 2 ^ 62) (h0 : Pv 0 σ H) (hl : ∀ i σ H1, Pv i σ H1 → Same H0 H1)
    (hs : ∀ i x T σ H H2, xs[i]? = some x → Pv i σ H → H T = none → Same H H2 → H2 T = some (.tup [.int (k + (i : Nat)), x]) → (∀ b, b ≠ T → H2 b = H b) → g (.ref T) σ H2 fun σ2 H2 => tb { D with nx := Pv (i + 1), ct := Pv (i + 1), bk := D.nx } σ2 H2)
    (hd : ∀ σ H, Pv xs.length σ H → D.nx σ H) : rEnS K g tb D σ [.ref a] [.int k] H :=
  ⟨a, xs, k, rfl, rfl, hk.1, hk.2, .of (hl _ _ _ h0 _ _ s), for_it walk_enumS Pv h0 (fun i σ H1 _ p => .of (hl i σ H1 p _ _ s)) (fun i x σ H H' _ p y => by
    obtain ⟨T, v, z, rfl, hT, rfl, e1, e2⟩ := y
    cases e1
    exact hs i z T σ H _ e2 p hT (fun b o e => by rw [upd_ne (ne_of_none e hT)]; exact e) upd_same fun b hb => upd_ne hb) hd⟩
theorem i_gstar {x : V} {t : TGs} {QS : L2.St → Hp → Prop} (s : SqL K H a (x :: xs)) (h : ∀ p H', H p = none → Same H H' → H' p = some (.lst xs) → (∀ b, b ≠ p → H' b = H b) → t [x, .ref p] σ H' QS) : gStar K t (.ref a) σ H QS :=
  ⟨a, x, xs, rfl, s, fun p hp => h p _ hp (fun b o e => by rw [upd_ne (ne_of_none e hp)]; exact e) upd_same fun b hb => upd_ne hb⟩
end
theorem k_star1 {X : Cx} {K : PySem.W.Frag} {e1 e2 : Expr} {ps pos : Pos} {k : Nat} {t : TGs} (hK : X.K = K) (hc : X.calm = true) (h : PGs X [e1, e2] t) (hn : (assignEach [e1, .Starred e2 ps] X.env).length = 2 := by rfl) (hst : (assignEach [e1, .Starred e2 ps] X.env).findIdx? (·.1) = some 1 := by rfl)
    (hm : (assignEach [e1, .Starred e2 ps] X.env).map (·.2) = (assignEach [e1, e2] X.env).map (·.2) := by rfl) : PG X (.Tuple [e1, .Starred e2 ps] k pos) (gStar K t) := by
  subst hK
  exact pg_star1 hc h hn hst hm
end Z

set_option Elab.async false
set_option linter.all false
set_option maxRecDepth 100000
set_option maxHeartbeats 1000000
/-! own objects walked: `for x in o`, where __iter__ hands back iter of a tuple or of a dict; a dict known from now on; sums of a dict's values -/
namespace Z
open PySem PySem.Spec PyProof.Rows L2
section
variable {P : Program} {w : World} {K : PySem.W.Frag} {mg : Str → Option Value} {base : Heap}
/-- a promise that may speak of the size of the heap at the call -/
def FnT (P : Program) (w : World) (K : PySem.W.Frag) (mg : Str → Option Value) (base : Heap) (k : Nat) (f : Addr) (sp : Nat → Sp) : Prop :=
  ∀ (A : Around) (outer : List Env) (s : Shared) (H : Hp) (us : List Value) (vs : List V) (Q : VK) (E : XK), Room k A → Env0 P w K mg base A outer s H → Vals vs us → sp s.heap.objs.size vs H Q E →
    codeAny (model P w) A (.call (.ref f) ⟨us, []⟩) (CR (L2.CX P w) outer P w H s Q E) s
theorem fnT_mk {x qual : Str} {st : Stmt} {f : Addr} {fd : FuncData} {N ps : List Str} {k : Nat} {sp : Nat → Sp} (F : L2.Fun K x qual st f fd) (S : FnScope N ps (defScope st)) (b : Binds K fd ps []) (len : ∀ n vs H Q E, sp n vs H Q E → vs.length = ps.length)
    (hbody : ∀ (cdv : Value) (A : Around) (outer : List Env) (s : Shared) (H : Hp) (vs : List V) (Q : VK) (E : XK), Room k (A.deeper (envOfC qual (defScope st) s.heap.objs.size f cdv)) → sp s.heap.objs.size vs H Q E →
      ∃ t, PSs (cxOf (L2.CX P w) P w K mg base N qual (defScope st) f cdv A outer s H E) (defBody st) t ∧ t { nx := fun _ H' => Q .non H', rt := Q } (start N vs) H) : FnT P w K mg base (k + 1) f sp := by
  obtain ⟨oc, od, kV, doc, pm, an, cdv, ct, osl, rfl, lk, hcd⟩ := F.ex
  intro A outer s H us vs Q E hr e0 r h
  have hl := len _ _ _ _ _ h
  have KX : K.In s.heap := e0.mod.kin.keeps fun b o e => (e0.bs b o e).1
  have hb := b s us KX (by rw [List.append_nil, ← r.length]; exact hl)
  rw [List.append_nil] at hb
  exact LamX.run_ofS lk hcd S hr e0 hb r hl fun hr' => hbody cdv A outer s H vs Q E hr' h
/-- an own __iter__ -/
def ItO (P : Program) (w : World) (K : PySem.W.Frag) (mg : Str → Option Value) (base : Heap) (C : Addr) (k : Nat) (sp : Nat → Sp) : Prop := ∃ f, Spc K C "__iter__" f ∧ FnT P w K mg base k f sp
end
/-- iter(t), told with the heap's size at the def's entry -/
def rIterTS (K : PySem.W.Frag) (n : Nat) : List V → Hp → VK → Prop := fun xs H Q => ∃ t ys, xs = [.ref t] ∧ SqT K H t ys ∧ ∀ q, n ≤ q → H q = none → Q (.ref q) (upd H q (TupIt q t 0))
/-- the keys' iterator of a known dict -/
def KeyIt (q d : Addr) (i : Nat) (o : Obj) (m : Nat) : HO := .ext fun h => ∃ es ep, o.data = .dict es ep ∧ h.IsKeyIter q d i m ep
theorem keyIt_ok {P : Program} {w : World} {H : Hp} {h : Heap} {q d : Addr} {i m : Nat} {o : Obj} {es : Array DictEntry} {ep : Nat} (hd : o.data = .dict es ep) (e : h.IsKeyIter q d i m ep) : ObjOk P w H h q (KeyIt q d i o m) := by
  obtain ⟨ob, ho, hc, hdt⟩ := id e
  refine ⟨⟨es, ep, hd, e⟩, ⟨ob, ho⟩, fun h1 h2 ⟨es1, ep1, e1, o1, f1, c1, d1⟩ k => ⟨es1, ep1, e1, o1, k _ f1, c1, d1⟩⟩
def rIterDS (n : Nat) : List V → Hp → VK → Prop := fun xs H Q => ∃ d o kvs, xs = [.ref d] ∧ H d = some (.frz o (.dK kvs)) ∧ ∀ q, n ≤ q → H q = none → Q (.ref q) (upd H q (KeyIt q d 0 o kvs.length))
section
variable {X : Cx}
theorem cr_iterTS : CallR X (.builtin "iter") (rIterTS X.K X.s_0.heap.objs.size) := by
  intro pins s σ H xs us Q I r h
  obtain ⟨t, ys, rfl, ht, h⟩ := h
  obtain rfl := Vals.ref1 r
  obtain ⟨its, rv, hl, _⟩ := I.tuple ht
  refine Calls.call_function_entry (by decide +kernel) (by decide +kernel) PySem.W.kdk_entry_iter (PySem.W.kdk_args_iter _) ?_
  unfold Builtin.«iter»
  refine wpAny_bind (m := someArgs "iter" 1 2 _) (wpAny_of_eq (a := [Value.ref t]) (by first | rfl | kernel_rfl!) ?_)
  show wpAny _ _ (pyIter (.ref t) >>= _) _ _ _
  refine wpAny_bind (wpAny_pyIter_tuple hl ?_)
  refine wpAny_pure ⟨_, rfl, .ref s.heap.objs.size, _, I.laid (a := s.heap.objs.size) (o := TupIt s.heap.objs.size t 0) (t' := s.toks) (fun b o e => Heap.get?_push_of_some _ e) (Nat.le_refl _) (tupIt_ok ⟨_, Heap.get?_push_size _ rfl, rfl, rfl⟩), rfl, h _ I.sz (I.hok.fresh (Nat.le_refl _))⟩
theorem cr_iterDS : CallR X (.builtin "iter") (rIterDS X.s_0.heap.objs.size) := by
  intro pins s σ H xs us Q I r h
  obtain ⟨d, o, kvs, rfl, hd, h⟩ := h
  obtain rfl := Vals.ref1 r
  obtain ⟨hs, hgd, hx, es, ep, vs, hdt, hsz, kv, hm⟩ := I.frzK hd
  refine Calls.call_function_entry (by decide +kernel) (by decide +kernel) PySem.W.kdk_entry_iter (PySem.W.kdk_args_iter _) ?_
  unfold Builtin.«iter»
  refine wpAny_bind (m := someArgs "iter" 1 2 _) (wpAny_of_eq (a := [Value.ref d]) (by first | rfl | kernel_rfl!) ?_)
  show wpAny _ _ (pyIter (.ref d) >>= _) _ _ _
  refine wpAny_bind (iter_keys hs hgd hx hdt ?_)
  rw [hsz]
  refine wpAny_pure ⟨_, rfl, .ref s.heap.objs.size, _, I.laid (a := s.heap.objs.size) (o := KeyIt s.heap.objs.size d 0 o kvs.length) (t' := s.toks) (fun b o e => Heap.get?_push_of_some _ e) (Nat.le_refl _) (keyIt_ok hdt ⟨_, Heap.get?_push_size _ rfl, rfl, rfl⟩), rfl, h _ I.sz (I.hok.fresh (Nat.le_refl _))⟩
end
/-- the object at q is known no more -/
theorem Un.drop {fs ex : List Addr} {H : Hp} {h h' : Heap} {q : Addr} {o : HO} (u : Un fs ex H (upd H q o) h h') (hn : H q = none) : Un fs ex H H h h' where
  keep := u.keep
  slot := u.slot
  free := fun _ _ _ n _ => n
  there := u.there
  tups := fun _ _ e => e
  frzs := fun _ _ _ e => e
  tbls := fun _ ps e => ⟨#[], by simpa using e⟩
theorem HOk.drop {P : Program} {w : World} {H : Hp} {h : Heap} {q : Addr} {φ : Heap → Prop} (x : HOk P w (upd H q (.ext φ)) h) (hn : H q = none) : HOk P w H h := fun b u e => by
  have nb : b ≠ q := ne_of_none e hn
  have y := x b u (by rw [upd_ne nb]; exact e)
  refine y.stay (fun _ _ _ k => k) (fun c k => ?_) fun c xs k => ?_
  · by_cases hc : c = q
    · rw [hc, upd_same] at k; cases k
    · rw [upd_ne hc] at k; exact k
  · by_cases hc : c = q
    · rw [hc, upd_same] at k; cases k
    · rw [upd_ne hc] at k; exact k
section
variable {X : Cx} {k j : Nat} {C : Addr} {sp : Nat → Sp} {tg e : Expr} {te : TE}
/-- an own object whose __iter__ hands back iter of the tuple at t -/
def OwnT (K : PySem.W.Frag) (C : Addr) (sp : Nat → Sp) (a t : Addr) (ys : List V) (H1 : Hp) : Prop := (∃ dx fs, H1 a = some (.ins C dx fs)) ∧ SqT K H1 t ys ∧
  ∀ n, sp n [.ref a] H1 (fun v H' => ∃ q, v = .ref q ∧ n ≤ q ∧ H1 q = none ∧ H' = upd H1 q (TupIt q t 0)) fun _ _ _ => False
/-- .. of the known dict at d -/
def OwnD (C : Addr) (sp : Nat → Sp) (a d : Addr) (o : Obj) (kvs : List (Key × V)) (H1 : Hp) : Prop := (∃ dx fs, H1 a = some (.ins C dx fs)) ∧ H1 d = some (.frz o (.dK kvs)) ∧
  ∀ n, sp n [.ref a] H1 (fun v H' => ∃ q, v = .ref q ∧ n ≤ q ∧ H1 q = none ∧ H' = upd H1 q (KeyIt q d 0 o kvs.length)) fun _ _ _ => False
/-- the walk of an own object by its tuple -/
def iOwnT (K : PySem.W.Frag) (C : Addr) (sp : Nat → Sp) (te : TE) : TI := fun σ H R => te σ H fun x H1 => ∃ a t ys, x = .ref a ∧ OwnT K C sp a t ys H1 ∧ R (Itt K t) H1
/-- .. by its dict, which is known -/
def iOwnD (C : Addr) (sp : Nat → Sp) (te : TE) : TI := fun σ H R => te σ H fun x H1 => ∃ a d o kvs, x = .ref a ∧ OwnD C sp a d o kvs H1 ∧ R (Itk d o kvs) H1
theorem special_key {q : Addr} {s : Shared} {d : Addr} {i m ep : Nat} {M : Model} {A : Around} {E : Value → Shared → Prop} {Q : Option Value → Shared → Prop} (hit : s.heap.IsKeyIter q d i m ep) (h : ∀ g, Q (some g) s) : wpAny M A (specialOf (.ref q) "__next__") Q E s := by
  unfold specialOf
  exact wpAny_bind (wpAny_typeOf hit.typeIs (wpAny_of_eq PySem.F.slot_dict_keyiterator_next.lookup (h _)))
theorem pi_ownT (c : ItO X.prog X.w X.K X.mg X.base C k sp) (hr : Room j X.A) (he : PE X e te) (hj : k ≤ j := by decide) : PI X tg e (iOwnT X.K C sp te) := by
  obtain ⟨f, S, F⟩ := c
  refine ⟨fun pins s σ H R I h => ?_⟩
  refine thn (he.run pins s σ H _ I h) fun u s1 ⟨x, H1, I1, rx, a, t, ys, ex, ⟨⟨dx, fs, ea⟩, ht, hp⟩, q⟩ => ?_
  subst ex
  obtain rfl : u = Value.ref a := rx
  obtain ⟨ox, od, Ja⟩ := instAt I1 ea
  obtain ⟨m, fr⟩ := I1.fr
  refine PySem.W.owit_iter fr I1.ok.mod.kin Ja S.at_ S.fn ?_
  refine wpAny_call (codeAny_mono (F X.A X.stack s1 H1 [.ref a] [.ref a] _ (fun _ _ _ => False) (hr.mono hj) I1.env0 (.cons rfl .nil) (hp _)) fun r s' hq' => ?_)
  rcases r with e | fl
  · exact (cxN hq').elim
  rcases fl with _ | _ | _ | u'
  · exact False.elim hq'
  · exact False.elim hq'
  · exact False.elim hq'
  obtain ⟨v, H', os, bare, un, hok, rv, q0, ev, hle, hn, eH⟩ := hq'
  subst ev
  subst eH
  obtain rfl : u' = Value.ref q0 := rv
  have hit : s'.heap.IsTupleIter q0 t 0 := (hok q0 _ upd_same).1
  have I2 : Inv X pins σ H1 s' := I1.call' (ch := []) os (Un.drop un hn) (HOk.drop hok hn) bare (fun b z => absurd z (by simp))
  unfold PySem.W.OwitIt specialOf
  refine wpAny_bind (wpAny_typeOf hit.typeIs (wpAny_of_eq PySem.F.slot_tuple_iterator_next.lookup ?_))
  exact ⟨q0, [q0], _, _, H1, rfl, I2, turn_tuple t q0, hit, fun b hb => by
    have e : b = q0 := by simpa using hb
    subst e
    exact I1.fpOk hle hn, q⟩
theorem pi_ownD (c : ItO X.prog X.w X.K X.mg X.base C k sp) (hr : Room j X.A) (he : PE X e te) (hj : k ≤ j := by decide) : PI X tg e (iOwnD C sp te) := by
  obtain ⟨f, S, F⟩ := c
  refine ⟨fun pins s σ H R I h => ?_⟩
  refine thn (he.run pins s σ H _ I h) fun u s1 ⟨x, H1, I1, rx, a, d, o, kvs, ex, ⟨⟨dx, fs, ea⟩, hd, hp⟩, q⟩ => ?_
  subst ex
  obtain rfl : u = Value.ref a := rx
  obtain ⟨ox, od, Ja⟩ := instAt I1 ea
  obtain ⟨m, fr⟩ := I1.fr
  refine PySem.W.owit_iter fr I1.ok.mod.kin Ja S.at_ S.fn ?_
  refine wpAny_call (codeAny_mono (F X.A X.stack s1 H1 [.ref a] [.ref a] _ (fun _ _ _ => False) (hr.mono hj) I1.env0 (.cons rfl .nil) (hp _)) fun r s' hq' => ?_)
  rcases r with e | fl
  · exact (cxN hq').elim
  rcases fl with _ | _ | _ | u'
  · exact False.elim hq'
  · exact False.elim hq'
  · exact False.elim hq'
  obtain ⟨v, H', os, bare, un, hok, rv, q0, ev, hle, hn, eH⟩ := hq'
  subst ev
  subst eH
  obtain rfl : u' = Value.ref q0 := rv
  obtain ⟨es, ep, hdt, hit⟩ := (hok q0 _ upd_same).1
  have I2 : Inv X pins σ H1 s' := I1.call' (ch := []) os (Un.drop un hn) (HOk.drop hok hn) bare (fun b z => absurd z (by simp))
  unfold PySem.W.OwitIt
  refine special_key hit fun g => ?_
  exact ⟨q0, [q0], _, _, H1, rfl, I2, turn_keys q0 hdt, hit, fun b hb => by
    have e : b = q0 := by simpa using hb
    subst e
    exact I1.fpOk hle hn, q⟩
end
end Z

set_option Elab.async false
set_option linter.all false
set_option maxRecDepth 100000
set_option maxHeartbeats 1000000
/-! a dict known from now on; sum of a dict's values; != of lists and dicts that are equal in depth, dicts among them -/
namespace Z
open PySem PySem.Spec PyProof.Rows L2
section
variable {X : Cx} {st : Stmt} {t : TS} {e : Expr} {te : TE}
/-- from here on the thing at d is known and not written any more -/
def tFrz (t : TS) : TS := fun D σ H => ∃ d u, H d = some u ∧ Mut (some u) ∧ ∀ od, t D σ (upd H d (.frz od u))
theorem ps_frz (h : PS X st t) : PS X st (tFrz t) := by
  refine ⟨fun pins s σ H D I q => ?_⟩
  obtain ⟨d, u, hd, mu, q⟩ := q
  obtain ⟨od, I1⟩ := I.lock hd mu
  exact h.run pins s σ _ D I1 (q od)
end
/-! ### the values' sum -/
section
variable {prog : Program} {w : World} {A : Around} {E : Value → Shared → Prop} {s : Shared} {T : String} {r d : Addr} {n : Nat} {P : Nat → Value → Prop} {OK : Heap → Prop} {Q : Value → Shared → Prop}
theorem sumSrc (src : PySem.W.KdlSrc prog w T r d n P OK) (calm : A.handled = none) (ok : OK s.heap) (f : Nat → Int) (isf : ∀ (i : Nat) (v : Value), P i v → ∃ t : Tok, v = Value.int (f i) t)
    (fin : ∀ (h' : Heap) (tk : Nat) (t' : Tok), (∀ b o, s.heap.get? b = some o → h'.get? b = some o) → Q (.int (preSum f n) t') { s with heap := h', toks := tk }) :
    wpAny (model prog w) A (call (.builtin "sum") [.ref r]) Q E s := by
  refine call_sum_walkAnyS ?_
  obtain ⟨oI, St, begin_, W, st0⟩ := src.iter A.in1 s calm ok
  refine begin_ _ _ ⟨s.heap.objs.size, _, _, _, n, P, _, f, rfl, W.toS, st0, fun b hb => ?_, isf, fun s' t' mv => ?_⟩
  · rw [show (({ s with heap := s.heap.push oI } : Shared)).heap.objs.size = s.heap.objs.size + 1 from size_push' ..]
    rcases List.mem_cons.mp hb with e | hb
    · rw [e]
      exact Nat.lt_succ_self _
    · rw [List.mem_singleton.mp hb]
      exact Nat.lt_succ_of_lt (src.there _ ok).2
  · have kp : ∀ b o, s.heap.get? b = some o → s'.heap.get? b = some o := fun b o e => by
      refine mv.heap b o (fun z => ?_) (Heap.get?_push_of_some _ e)
      have := Heap.lt_size e
      rw [List.mem_singleton.mp z] at this
      exact absurd this (Nat.lt_irrefl _)
    rw [Moved.eq_with mv]
    exact fin s'.heap s'.toks t' kp
end
/-- d.values(), kept as a value -/
def ValO (q d : Addr) : HO := .ext fun h => h.get? q = some { cls := .type "dict_values", data := .fields #[.ref d] }
def tVals (td : TE) : TE := fun σ H Q => td σ H fun x H1 => ∃ d o kvs, x = .ref d ∧ H1 d = some (.frz o (.dK kvs)) ∧ ∀ q, H1 q = none → Q (.ref q) (upd H1 q (ValO q d))
section
variable {X : Cx} {e : Expr} {td : TE} {apos cpos : Pos}
theorem pe_vals (he : PE X e td) (hbase : attributeBase e "values" X.env (eval e X.env) = eval e X.env := by rfl) (hline : (apos.endLine == cpos.line) = true := by rfl) : PE X (.Call (.Attribute e "values" apos) [] [] cpos) (tVals td) := by
  refine ⟨fun pins s σ H Q I h => ?_⟩
  refine wpAny_Call_method (T := "dict") (id := "dict.values") hbase rfl hline F.plainAttrs_dict F.slot_dict_values F.type_dict_values (thn (he.run pins s σ H _ I h) fun u s1 ⟨x, H1, I1, rx, d, o, kvs, ex, hd, q⟩ => ?_)
  subst ex
  obtain rfl : u = Value.ref d := rx
  obtain ⟨hs, hgd, hx, es, ep, vs, hdt, hsz, kv, hm⟩ := I1.frzK hd
  refine ⟨hm.dictOf.typeIs, hm.dictOf.mapOf.noDict, ?_⟩
  have fin : EP X pins σ Q (.ref s1.heap.objs.size) { s1 with heap := s1.heap.push { cls := .type "dict_values", data := .fields #[.ref d] } } := by
    refine ⟨.ref s1.heap.objs.size, _, I1.laid (a := s1.heap.objs.size) (o := ValO s1.heap.objs.size d) (t' := s1.toks) (fun b o e => Heap.get?_push_of_some _ e) (Nat.le_refl _) ?_, rfl, q _ (I1.hok.fresh (Nat.le_refl _))⟩
    exact ⟨Heap.get?_push_size _ rfl, ⟨_, Heap.get?_push_size _ rfl⟩, fun h1 h2 e k => k _ e⟩
  show wpAny _ _ (callWith cpos (.builtin "dict.values") [.ref d] [] []) _ X.xe s1
  exact method_meetsIn F.slot_dict_values F.entry_dict_values rfl (PySem.evalArgs_none ⟨rfl, hm.dictOf.typeIs, F.args_dict_values_1 _, _, meets_dict_values (mixKind X.prog X.w) d hs, ⟨vs, hm.dictOf⟩, fin⟩)
/-- sum of them -/
def rSumV : List V → Hp → VK → Prop := fun xs H Q => ∃ q d o kvs, ∃ ns : List Int, xs = [.ref q] ∧ H q = some (ValO q d) ∧ H d = some (.frz o (.dK kvs)) ∧ kvs.map (·.2) = ns.map V.int ∧ Q (.int ns.sum) H
theorem preSum_list : ∀ (ns : List Int), preSum (fun i => ns.getD i 0) ns.length = ns.sum := by
  intro ns
  have key : ∀ (k : Nat), k ≤ ns.length → preSum (fun i => ns.getD i 0) k = (ns.take k).sum := by
    intro k
    induction k with
    | zero => intro _; simp [preSum]
    | succ k ih =>
      intro hk
      have e : ns.take (k + 1) = ns.take k ++ [ns[k]] := by rw [List.take_add_one, List.getElem?_eq_getElem (by omega)]; rfl
      show preSum (fun i => ns.getD i 0) k + ns.getD k 0 = _
      rw [ih (by omega), e, List.sum_append_int]
      simp [List.getD, List.getElem?_eq_getElem (show k < ns.length by omega)]
  rw [key _ (Nat.le_refl _), List.take_length]
theorem cr_sumV (hc : X.calm = true) : CallR X (.builtin "sum") rSumV := by
  intro pins s σ H xs us Q I r h
  obtain ⟨q, d, o, kvs, ns, rfl, hq, hd, hv, k⟩ := h
  obtain rfl := Vals.ref1 r
  obtain ⟨hs, hgd, hx, es, ep, vs, hdt, hsz, kv, hm⟩ := I.frzK hd
  have hq1 : s.heap.get? q = some { cls := .type "dict_values", data := .fields #[.ref d] } := (I.hok q _ hq).1
  have hl : kvs.length = vs.length := Paired.length kv
  have hn : ns.length = vs.length := by rw [← hl, ← List.length_map (f := V.int), ← hv, List.length_map]
  refine sumSrc (PySem.W.kdl_values (knd := mixKind X.prog X.w) (r := q) (d := d) (kvs := vs) (ep := ep)) (I.ok.hd hc) ⟨⟨_, hq1, rfl, rfl⟩, hm⟩ (fun i => ns.getD i 0) (fun i v hi => ?_) fun h' tk t' kp => ?_
  · obtain ⟨key, e⟩ := hi
    have lt : i < vs.length := (List.getElem?_eq_some_iff.mp e).1
    obtain ⟨b, hb⟩ : ∃ b, kvs[i]? = some b := ⟨kvs[i], List.getElem?_eq_getElem (by omega)⟩
    obtain ⟨c, hc', ec, rc⟩ := paired_get kv hb
    rw [e] at hc'
    cases hc'
    have e2 : (kvs.map (·.2))[i]? = some b.2 := by rw [List.getElem?_map, hb]; rfl
    rw [hv, List.getElem?_map] at e2
    obtain ⟨z, hz, ez⟩ := Option.map_eq_some_iff.mp e2
    rw [← ez] at rc
    obtain ⟨t, rfl⟩ := rc
    exact ⟨t, by simp [List.getD, hz]⟩
  · rw [← hn, preSum_list]
    exact ⟨.int _, H, I.kept kp, ⟨_, rfl⟩, k⟩
end
/-! ### equal in depth -/
section
variable {prog : Program} {w : World}
open SeqAt AutoSeq1 MeetsSeq MeetsSeq2 MeetsSeq3 in
theorem neLoop (a c : Addr) (p q : Array Value) (m m' : Nat) (da dc : Option Addr) (sa sc : Array (Option Value)) (hz : p.size = q.size) (k : Nat) :
    ∀ i : Nat, p.size - i = k → MeetsIn prog w (Builtin.«list.__eq__.loop» ⟨[.ref a, .ref c, rawInt i, rawInt 3], []⟩)
      (fun A R s => (s.heap.get? a = some { cls := .type "list", dict := da, data := .seq p m, slots := sa } ∧ s.heap.get? c = some { cls := .type "list", dict := dc, data := .seq q m', slots := sc }) ∧
        (∀ j (u : j < p.size) (v : j < q.size), SeqAt.EqP prog w A.in1 s p[j] q[j] true) ∧ R (.ok (.ret (.bool false))) s) := by
  induction k with
  | zero =>
    intro i hk A R st h
    obtain ⟨hp, gg, dd, tt, oo⟩ := st
    obtain ⟨⟨ea, ec⟩, _, fin⟩ := h
    have n1 : p[((i : Nat) : Int).toNat]? = none := by simp; omega
    have n2 : q[((i : Nat) : Int).toNat]? = none := by simp; omega
    wp_walk using AutoSeq1.wpAny_loadPart' ea, AutoSeq1.wpAny_loadPart' ec
    rw [n1, n2]
    wp_walk using AutoSeq1.wpAny_loadPart' ea, AutoSeq1.wpAny_loadPart' ec
    show R (.ok (.ret (.bool (p.size != q.size)))) _
    have e : (p.size != q.size) = false := by rw [hz]; simp
    rw [e]
    exact fin
  | succ k ih =>
    intro i hk A R st h
    obtain ⟨hp, gg, dd, tt, oo⟩ := st
    obtain ⟨⟨ea, ec⟩, he, fin⟩ := h
    have la : i < p.size := by omega
    have lc : i < q.size := by omega
    have n1 : p[((i : Nat) : Int).toNat]? = some p[i] := by simp [la]
    have n2 : q[((i : Nat) : Int).toNat]? = some q[i] := by simp [lc]
    have nx : ((i : Int) + 1) = ((i + 1 : Nat) : Int) := by push_cast; rfl
    wp_walk using AutoSeq1.wpAny_loadPart' ea, AutoSeq1.wpAny_loadPart' ec
    rw [n1, n2]
    refine wpAny_bind (he i la lc _ _ ?_)
    wp_walk
    rw [nx]
    refine ⟨plainId_quiet plain_eq_loop _, codeAny_builtin entry_eq_loop ?_⟩
    rw [Around.under_plainId plain_eq_loop _]
    exact ih (i + 1) (by omega) A R _ ⟨⟨ea, ec⟩, he, fin⟩
open SeqAt AutoSeq1 MeetsSeq MeetsSeq2 MeetsSeq3 in
theorem neAll (a c : Addr) (p q : Array Value) (m m' : Nat) (da dc : Option Addr) (sa sc : Array (Option Value)) (hz : p.size = q.size) :
    MeetsIn prog w (Builtin.«list.__ne__» ⟨[.ref a, .ref c], []⟩)
      (fun A R s => (s.heap.get? a = some { cls := .type "list", dict := da, data := .seq p m, slots := sa } ∧ s.heap.get? c = some { cls := .type "list", dict := dc, data := .seq q m', slots := sc }) ∧
        (∀ j (u : j < p.size) (v : j < q.size), SeqAt.EqP prog w A.in1 s p[j] q[j] true) ∧ R (.ok (.ret (.bool false))) s) := by
  intro A R st h
  obtain ⟨hp, gg, dd, tt, oo⟩ := st
  obtain ⟨⟨ea, ec⟩, he, fin⟩ := h
  have subl := AutoSeq1.sub_list_list
  have nz : ¬ (p.size != q.size) = true := by simp [hz]
  wp_walk using AutoSeq1.wpAny_loadPart' ea, AutoSeq1.wpAny_loadPart' ec
  refine ⟨plainId_quiet plain_eq_loop _, codeAny_builtin entry_eq_loop ?_⟩
  rw [Around.under_plainId plain_eq_loop _]
  exact neLoop a c p q m m' da dc sa sc hz _ 0 rfl A R _ ⟨⟨ea, ec⟩, he, fin⟩
end
section
variable {X : Cx} {pins : List (Addr × Obj)} {σ : L2.St} {H : Hp} {s : Shared}
/-- the same data -/
def W0 (K : PySem.W.Frag) (H : Hp) (x y : V) : Prop := ∃ d, Dp K H x d ∧ Dp K H y d ∧ SeqAt.shaped d = true ∧ PyData.eqv d d = true
/-- two dicts of the same keys with the same data -/
def WD (K : PySem.W.Frag) (H : Hp) (x y : V) : Prop := ∃ a b ks ls, x = .ref a ∧ y = .ref b ∧ Rd H a (.dK ks) ∧ Rd H b (.dK ls) ∧ ks.length = ls.length ∧ ∀ p ∈ ks, ∃ u, valV ls p.1 = some u ∧ W0 K H p.2 u
def W1 (K : PySem.W.Frag) (H : Hp) (x y : V) : Prop := W0 K H x y ∨ WD K H x y
theorem w0_run (I : Inv X pins σ H s) {A : Around} (hu : A.units + 64 < cLine) : ∀ x y v u, W0 X.K H x y → RelV x v → RelV y u → SeqAt.EqP X.prog X.w A s v u true := by
  rintro x y v u ⟨d, h1, h2, sh, ev⟩ rx ry
  obtain ⟨as, r1⟩ := Dp.reads I d x v h1 rx
  obtain ⟨bs, r2⟩ := Dp.reads I d y u h2 ry
  have k := SeqAt.eqAt_reads d d A s v u as bs r1 r2 (SeqAt.canLay_of_shaped sh) (SeqAt.canLay_of_shaped sh) (SeqAt.room_of_shaped sh hu)
  rw [ev] at k
  exact k.eqP
theorem wd_hits (I : Inv X pins σ H s) {A : Around} (hu : A.units + 65 < cLine) {a b : Addr} {ks ls : List (Key × V)} (ha : Rd H a (.dK ks)) (hb : Rd H b (.dK ls)) (hl : ks.length = ls.length) (hp : ∀ p ∈ ks, ∃ u, valV ls p.1 = some u ∧ W0 X.K H p.2 u) :
    ∃ va vb, (a == sysModules) = false ∧ (b == sysModules) = false ∧ s.heap.DictOf (mixKind X.prog X.w) a va ∧ s.heap.DictOf (mixKind X.prog X.w) b vb ∧ va.length = vb.length ∧ PySem.W.KeqHitsP X.prog X.w A.in1 s vb va true := by
  obtain ⟨_, ya, va, ra, da⟩ := dk_rd I.hok ha
  obtain ⟨_, yb, vb, rb, db⟩ := dk_rd I.hok hb
  refine ⟨va, vb, ya, yb, da, db, by rw [← ra.length, ← rb.length]; exact hl, hits_run (w0_run I (show A.units + 1 + 64 < cLine by omega)) rb ra hp⟩
theorem wd_run (I : Inv X pins σ H s) {A : Around} (hu : A.units + 65 < cLine) : ∀ x y v u, WD X.K H x y → RelV x v → RelV y u → SeqAt.EqP X.prog X.w A s v u true := by
  rintro x y v u ⟨a, b, ks, ls, rfl, rfl, ha, hb, hl, hp⟩ rx ry
  obtain rfl : v = Value.ref a := rx
  obtain rfl : u = Value.ref b := ry
  by_cases e : a = b
  · subst e
    exact (SeqAt.EqAt.same _).eqP
  · obtain ⟨va, vb, ya, yb, da, db, le, hits⟩ := wd_hits I hu ha hb hl hp
    refine SeqAt.eqP_refs e fun E Q q => ?_
    refine PySem.W.rcP_dicts (knd := mixKind X.prog X.w) (r := true) ya yb da db (by omega) (fun _ => hits) E Q ?_
    rw [show (va.length == vb.length && true) = true from by rw [le]; simp]
    exact q
theorem w1_run (I : Inv X pins σ H s) {A : Around} (hu : A.units + 65 < cLine) : ∀ x y v u, W1 X.K H x y → RelV x v → RelV y u → SeqAt.EqP X.prog X.w A s v u true := by
  rintro x y v u (h | h) rx ry
  · exact w0_run I (by omega) x y v u h rx ry
  · exact wd_run I hu x y v u h rx ry
/-- lists, item by item -/
def WL (K : PySem.W.Frag) (H : Hp) (x y : V) : Prop := ∃ a b xs ys, x = .ref a ∧ y = .ref b ∧ SqL K H a xs ∧ SqL K H b ys ∧ Paired (W1 K H) xs ys
/-- x == y, x != y, equal in depth -/
def rEqW (K : PySem.W.Frag) (r : Bool) : R2 := fun x y H Q => (WL K H x y ∨ WD K H x y) ∧ Q (.bl r) H
theorem op_eqW (hu : X.A.units + 66 < cLine) : OpR X (compareOp .Eq) (rEqW X.K true) := by
  intro pins s σ H x y v u Q I rx ry h
  obtain ⟨h, q⟩ := h
  rcases h with ⟨a, b, xs, ys, rfl, rfl, ha, hb, hp⟩ | ⟨a, b, ks, ls, rfl, rfl, ha, hb, hl, hp⟩
  · obtain rfl : v = Value.ref a := rx
    obtain rfl : u = Value.ref b := ry
    obtain ⟨us, r1, p1, _⟩ := I.list ha
    obtain ⟨ws, r2, p2, _⟩ := I.list hb
    have hsz : us.toArray.size = ws.toArray.size := by
      rw [List.size_toArray, List.size_toArray, ← r1.length, ← r2.length]
      exact Paired.length hp
    refine SeqAt.rcP_lists (e := fun _ => true) p1.isList p2.isList hsz (by omega) (fun j h1 h2 => ?_) _ _ ?_
    · have k := items_run (w1_run I (A := X.A.in1) (show X.A.units + 1 + 65 < cLine by omega)) hp r1 r2 j (by simpa using h1) (by simpa using h2)
      simpa using k
    · rw [show ((List.range us.toArray.size).all fun _ => true) = true from List.all_eq_true.mpr fun _ _ => rfl]
      exact ⟨.bl true, H, I, rfl, q⟩
  · obtain rfl : v = Value.ref a := rx
    obtain rfl : u = Value.ref b := ry
    obtain ⟨va, vb, ya, yb, da, db, le, hits⟩ := wd_hits I (A := X.A) (by omega) ha hb hl hp
    refine PySem.W.rcP_dicts (knd := mixKind X.prog X.w) (r := true) ya yb da db (by omega) (fun _ => hits) _ _ ?_
    rw [show (va.length == vb.length && true) = true from by rw [le]; simp]
    exact ⟨.bl true, H, I, rfl, q⟩
theorem op_neW (hu : X.A.units + 66 < cLine) : OpR X (compareOp .NotEq) (rEqW X.K false) := by
  intro pins s σ H x y v u Q I rx ry h
  obtain ⟨h, q⟩ := h
  rcases h with ⟨a, b, xs, ys, rfl, rfl, ha, hb, hp⟩ | ⟨a, b, ks, ls, rfl, rfl, ha, hb, hl, hp⟩
  · obtain rfl : v = Value.ref a := rx
    obtain rfl : u = Value.ref b := ry
    obtain ⟨us, r1, p1, _⟩ := I.list ha
    obtain ⟨ws, r2, p2, _⟩ := I.list hb
    have hsz : us.toArray.size = ws.toArray.size := by
      rw [List.size_toArray, List.size_toArray, ← r1.length, ← r2.length]
      exact Paired.length hp
    obtain ⟨⟨c1, d1, t1, l1⟩, ho, hc, n1, hd⟩ := id p1.isList
    obtain ⟨⟨c2, d2, t2, l2⟩, ho2, hc2, n2, hd2⟩ := id p2.isList
    simp only at hc hd hc2 hd2
    subst hc hd hc2 hd2
    have ta : s.TypeIs (.ref a) "list" := ⟨_, ho, rfl⟩
    have tb : s.TypeIs (.ref b) "list" := ⟨_, ho2, rfl⟩
    refine wpAny_richCompare_same_room (op := .NotEq) ta tb F.slot_list_ne (call_meetsIn F.slot_list_ne ta F.entry_list_ne (F.args_list_ne_2 _ _) (neAll a b us.toArray ws.toArray n1 n2 d1 d2 l1 l2 hsz) ⟨⟨ho, ho2⟩, fun j h1 h2 => ?_, ?_⟩) (by omega)
    · have k := items_run (w1_run I (A := X.A.in1) (show X.A.units + 1 + 65 < cLine by omega)) hp r1 r2 j (by simpa using h1) (by simpa using h2)
      simpa using k
    · exact ⟨(fun z => nomatch z), .bl false, H, I, rfl, q⟩
  · obtain rfl : v = Value.ref a := rx
    obtain rfl : u = Value.ref b := ry
    obtain ⟨va, vb, ya, yb, da, db, le, hits⟩ := wd_hits I (A := X.A) (by omega) ha hb hl hp
    refine wpAny_richCompare_same_room (op := .NotEq) da.typeIs db.typeIs PySem.F.slot_dict_ne (wpAny_call_entry PySem.F.slot_dict_ne da.typeIs PySem.F.entry_dict_ne ?_ (PySem.F.args_dict_ne_2 _ _)) (by omega)
    show wpAny _ _ (Builtin.Dict.dictSlotArgs "__ne__" ⟨[.ref a, .ref b], []⟩ >>= _) _ _ _
    unfold Builtin.Dict.dictSlotArgs
    refine wpAny_bind (wpAny_bind (wpAny_notOrdered_dict da.typeIs ?_))
    show wpAny _ _ (pure (Value.ref a, Value.ref b)) _ _ _
    refine wpAny_pure (wpAny_bind (wpAny_isInstance (T := "dict") db.typeIs PySem.F.sub_dict_dict ?_))
    simp only [Bool.not_true, Bool.false_eq_true, if_false]
    refine wpAny_bind (wpAny_pure (wpAny_bind (wpAny_pure (wpAny_bind (PySem.W.samePairsP ya yb da db (fun _ => hits) ?_)))))
    refine wpAny_pure ⟨_, rfl, (fun z => nomatch z), ?_⟩
    rw [show (va.length == vb.length && true) = true from by rw [le]; simp]
    exact ⟨.bl false, H, I, rfl, q⟩
end
end Z

set_option Elab.async false
set_option linter.all false
set_option maxRecDepth 100000
set_option maxHeartbeats 1000000
/-! readings: dicts with text keys (known or not), own objects walked by their dict, zip; lcm -/
namespace Z
open PySem PySem.Spec PyProof.Rows L2
/-- a dict by its keys in their order, which are texts, and their values -/
def dF (zs : List Str) (f : Str → V) : List (Key × V) := zs.map fun z => (.inr z, f z)
def upF {α : Type} (f : Str → α) (z : Str) (v : α) : Str → α := fun x => if x = z then v else f x
/-- a key more, or none -/
def adK (zs : List Str) (z : Str) : List Str := if z ∈ zs then zs else zs ++ [z]
theorem dF_len (zs : List Str) (f : Str → V) : (dF zs f).length = zs.length := by unfold dF; simp
theorem dF_keys (zs : List Str) (f : Str → V) : (dF zs f).map (·.1) = zs.map Sum.inr := by unfold dF; simp [List.map_map, Function.comp_def]
theorem dF_vals (zs : List Str) (f : Str → V) : (dF zs f).map (·.2) = zs.map f := by unfold dF; simp [List.map_map, Function.comp_def]
theorem dF_congr {zs : List Str} {f g : Str → V} (h : ∀ z ∈ zs, f z = g z) : dF zs f = dF zs g := List.map_congr_left fun z hz => by rw [h z hz]
theorem dF_cons (z : Str) (zs : List Str) (f : Str → V) : dF (z :: zs) f = (.inr z, f z) :: dF zs f := rfl
theorem dF_get {zs : List Str} {f : Str → V} {i : Nat} {k : Key} {v : V} (h : (dF zs f)[i]? = some (k, v)) : ∃ z, zs[i]? = some z ∧ k = .inr z ∧ v = f z := by
  unfold dF at h
  rw [List.getElem?_map] at h
  obtain ⟨z, hz, e⟩ := Option.map_eq_some_iff.mp h
  cases e
  exact ⟨z, hz, rfl, rfl⟩
theorem valV_dF (f : Str → V) (z : Str) : ∀ zs : List Str, valV (dF zs f) (.inr z) = if z ∈ zs then some (f z) else none
  | [] => rfl
  | y :: zs => by
    rw [dF_cons]
    by_cases h : y = z
    · subst h
      rw [if_pos List.mem_cons_self]
      exact valV_pos rfl
    · have hn : ¬ ((Sum.inr y : Key) = .inr z) := fun e => h (Sum.inr.inj e)
      rw [valV_neg hn, valV_dF f z zs]
      by_cases h2 : z ∈ zs
      · rw [if_pos h2, if_pos (List.mem_cons_of_mem _ h2)]
      · rw [if_neg h2, if_neg (fun g => (List.mem_cons.mp g).elim (fun e => h e.symm) h2)]
theorem valV_in {zs : List Str} {f : Str → V} {z : Str} (h : z ∈ zs) : valV (dF zs f) (.inr z) = some (f z) := by rw [valV_dF, if_pos h]
theorem valV_out {zs : List Str} {f : Str → V} {z : Str} (h : z ∉ zs) : valV (dF zs f) (.inr z) = none := by rw [valV_dF, if_neg h]
theorem putK_dF (zs : List Str) (f : Str → V) (z : Str) (v : V) : putK (dF zs f) (.inr z) v = dF (adK zs z) (upF f z v) := by
  unfold adK
  by_cases h : z ∈ zs
  · rw [if_pos h]
    unfold putK
    rw [valV_any, valV_in h, if_pos (by rfl)]
    unfold dF
    rw [List.map_map]
    refine List.map_congr_left fun y _ => ?_
    show (if (Sum.inr y : Key) = .inr z then ((Sum.inr y : Key), v) else (Sum.inr y, f y)) = (Sum.inr y, upF f z v y)
    unfold upF
    by_cases e : y = z
    · rw [if_pos (by rw [e]), if_pos e]
    · rw [if_neg (fun g => e (Sum.inr.inj g)), if_neg e]
  · rw [if_neg h, putK_new _ (valV_out h)]
    unfold dF
    rw [List.map_append]
    congr 1
    · refine List.map_congr_left fun y hy => ?_
      unfold upF
      rw [if_neg (fun e => h (by rw [← e]; exact hy))]
    · simp [upF]
theorem adK_new {zs : List Str} {z : Str} (h : z ∉ zs) : adK zs z = zs ++ [z] := if_neg h
theorem adK_old {zs : List Str} {z : Str} (h : z ∈ zs) : adK zs z = zs := if_pos h
theorem adK_nodup {zs : List Str} {z : Str} (h : zs.Nodup) : (adK zs z).Nodup := by
  unfold adK
  split
  · exact h
  · rename_i hn
    exact List.nodup_append.mpr ⟨h, by simp, fun a ha b hb e => by rw [List.mem_singleton.mp hb] at e; exact hn (by rw [← e]; exact ha)⟩
theorem mem_adK {zs : List Str} {z y : Str} : y ∈ adK zs z ↔ y ∈ zs ∨ y = z := by
  unfold adK
  split
  · rename_i h
    exact ⟨.inl, fun g => g.elim id fun e => by rw [e]; exact h⟩
  · rw [List.mem_append, List.mem_singleton]
theorem adK_len {zs : List Str} {z : Str} : (adK zs z).length ≤ zs.length + 1 := by
  unfold adK
  split
  · omega
  · simp
theorem mergeK_dF_go (f : Str → V) : ∀ (more zs : List Str), (zs ++ more).Nodup → mergeK (dF zs f) (dF more f) = dF (zs ++ more) f
  | [], zs, _ => by rw [List.append_nil]; rfl
  | y :: more, zs, h => by
    show mergeK (putK (dF zs f) (.inr y) (f y)) (dF more f) = _
    have hy : y ∉ zs := fun g => by
      have := (List.nodup_append.mp h).2.2 y g y List.mem_cons_self
      exact this rfl
    rw [putK_dF, adK_new hy, dF_congr (g := f) fun x _ => by unfold upF; by_cases e : x = y <;> simp [e]]
    rw [mergeK_dF_go f more (zs ++ [y]) (by rw [List.append_assoc]; exact h), List.append_assoc]
    rfl
theorem mergeK_dF {zs : List Str} {f : Str → V} (h : zs.Nodup) : mergeK [] (dF zs f) = dF zs f := by
  have := mergeK_dF_go f zs [] (by simpa using h)
  simpa [dF] using this
theorem dropK_dF (zs : List Str) (f : Str → V) (z : Str) : dropK (dF zs f) (.inr z) = dF (zs.filter fun y => decide (y ≠ z)) f := by
  unfold dropK dF
  rw [List.filter_map]
  congr 1
  refine List.filter_congr fun y _ => ?_
  simp
/-! ### walks -/
section
variable {K : PySem.W.Frag} {σ : L2.St} {H H0 : Hp} {D : Ends} {te tl tk tv td ty tx : TE} {tt : TT} {tr : TA} {g : TG} {tb : TS} {Q : VK} {a d : Addr} {o : Obj} {zs : List Str} {f : Str → V}
def rForKeys (g : TG) (tb : TS) (D : Ends) (σ : L2.St) (x : V) (H1 : Hp) : Prop := ∃ d o, x = .ref d ∧ ((∃ kvs, H1 d = some (.frz o (.dK kvs)) ∧ rFor (Itk d o kvs) g tb D σ H1) ∨ ∃ kvs, H1 d = some (.frz o (.dT kvs)) ∧ rFor (Itkt d o kvs) g tb D σ H1)
theorem i_forK0 (h : td σ H (fun x H1 => rForKeys g tb D σ x H1)) : tFor (iKeys td) g tb D σ H := h
theorem forKeys (Pv : Nat → L2.St → Hp → Prop) (e : H0 d = some (.frz o (.dK (dF zs f)))) (h0 : Pv 0 σ H) (hl : ∀ i σ H1, Pv i σ H1 → AtS H0 d H1)
    (hs : ∀ i z σ H, zs[i]? = some z → Pv i σ H → g (.str z) σ H fun σ2 H2 => tb { D with nx := Pv (i + 1), ct := Pv (i + 1), bk := D.nx } σ2 H2) (hd : ∀ σ H, Pv zs.length σ H → D.nx σ H) : rFor (Itk d o (dF zs f)) g tb D σ H := by
  refine for_it (walk_keys (kvs := dF zs f)) Pv h0 (fun i σ H1 _ p => hl i σ H1 p _ e) (fun i x σ H H' hi p y => ?_) fun σ H p => hd σ H (by rw [dF_len] at p; exact p)
  obtain ⟨rfl, k, v, e1, rfl⟩ := y
  obtain ⟨z, hz, rfl, _⟩ := dF_get e1
  exact hs i z σ _ hz p
theorem i_forK (Pv : Nat → L2.St → Hp → Prop) (e : H0 d = some (.frz o (.dK (dF zs f)))) (h0 : Pv 0 σ H) (hl : ∀ i σ H1, Pv i σ H1 → AtS H0 d H1)
    (hs : ∀ i z σ H, zs[i]? = some z → Pv i σ H → g (.str z) σ H fun σ2 H2 => tb { D with nx := Pv (i + 1), ct := Pv (i + 1), bk := D.nx } σ2 H2) (hd : ∀ σ H, Pv zs.length σ H → D.nx σ H) : rForKeys g tb D σ (.ref d) H :=
  ⟨d, o, rfl, .inl ⟨_, hl 0 σ H h0 _ e, forKeys Pv e h0 hl hs hd⟩⟩
/-- a comprehension over J -/
def rLcJ (J : It) (g : TG) (tt : TT) (te : TE) (vs : List Nat) (σ : L2.St) (Q : VK) (H1 : Hp) : Prop := ∀ D, H1 D = none → ∃ W : Nat → Nat → Hp → Prop, (∃ m, W 0 m (upd H1 D (.lst []))) ∧ ∀ i m H, W i m H →
  (J.stop i H ∧ Q (.ref D) H) ∨ (J.go i H ∧ ∃ Nx : Hp → Prop, (∀ H', Nx H' → ∃ m', m' < m ∧ W (i + 1) m' H') ∧ ∀ x H', J.yld i H x H' → g x (wipe σ vs) H' fun σ2 H2 => wipe σ2 vs = wipe σ vs ∧ tt σ2 H2 fun b H3 =>
    if b = true then te σ2 H3 fun y H4 => ∃ acc, H4 D = some (.lst acc) ∧ acc.length < sizeLine ∧ Nx (upd H4 D (.lst (acc ++ [y]))) else Nx H3)
theorem lcKeys {vs : List Nat} (Pv : Addr → Nat → List V → Hp → Prop) (e : H0 d = some (.frz o (.dK (dF zs f)))) (h0 : ∀ D H', H D = none → Same H H' → H' D = some (.lst []) → (∀ b, b ≠ D → H' b = H b) → Pv D 0 [] H')
    (hl : ∀ D i ys H1, Pv D i ys H1 → AtS H0 d H1)
    (hs : ∀ i z D ys H1, H D = none → zs[i]? = some z → H1 D = some (.lst ys) → Pv D i ys H1 → g (.str z) (wipe σ vs) H1 fun σ2 H2 => wipe σ2 vs = wipe σ vs ∧ tt σ2 H2 fun b H3 => if b = true then te σ2 H3 fun y H4 => rLcE D (Pv D) i y H4 else LcS D (Pv D) (i + 1) H3)
    (hd : ∀ D ys H1, H D = none → H1 D = some (.lst ys) → Pv D zs.length ys H1 → Q (.ref D) H1) : rLcJ (Itk d o (dF zs f)) g tt te vs σ Q H := by
  intro D hD
  refine lc_it (walk_keys (kvs := dF zs f)) (LcS D (Pv D)) ⟨[], upd_same, h0 D _ hD (fun b o e => by rw [upd_ne (ne_of_none e hD)]; exact e) upd_same (fun b hb => upd_ne hb)⟩ ?_ ?_ ?_
  · rintro i H' _ ⟨ys, _, p⟩
    exact hl D i ys H' p _ e
  · rintro i x H1 H2 hi ⟨ys, hD', p⟩ ⟨rfl, k, v, e1, rfl⟩
    obtain ⟨z, hz, rfl, _⟩ := dF_get e1
    exact hs i z D ys _ hD hz hD' p
  · rintro H' ⟨ys, hD', p⟩
    rw [dF_len] at p
    exact hd D ys H' hD hD' p
def rLcKeys (g : TG) (tt : TT) (te : TE) (vs : List Nat) (σ : L2.St) (Q : VK) (x : V) (H1 : Hp) : Prop := ∃ d o, x = .ref d ∧ ((∃ kvs, H1 d = some (.frz o (.dK kvs)) ∧ rLcJ (Itk d o kvs) g tt te vs σ Q H1) ∨ ∃ kvs, H1 d = some (.frz o (.dT kvs)) ∧ rLcJ (Itkt d o kvs) g tt te vs σ Q H1)
theorem i_lcK0 {vs : List Nat} (h : td σ H (fun x H1 => rLcKeys g tt te vs σ Q x H1)) : tLc (iKeys td) g tt te vs σ H Q := h
theorem i_lcK {vs : List Nat} (e : H d = some (.frz o (.dK (dF zs f)))) (h : rLcJ (Itk d o (dF zs f)) g tt te vs σ Q H) : rLcKeys g tt te vs σ Q (.ref d) H := ⟨d, o, rfl, .inl ⟨_, e, h⟩⟩
/-! own objects -/
def rForOwn (C : Addr) (sp : Nat → Sp) (g : TG) (tb : TS) (D : Ends) (σ : L2.St) (x : V) (H1 : Hp) : Prop := ∃ a d o kvs, x = .ref a ∧ OwnD C sp a d o kvs H1 ∧ rFor (Itk d o kvs) g tb D σ H1
theorem i_forO0 {C : Addr} {sp : Nat → Sp} (h : te σ H (fun x H1 => rForOwn C sp g tb D σ x H1)) : tFor (iOwnD C sp te) g tb D σ H := h
theorem i_forO {C : Addr} {sp : Nat → Sp} {kvs : List (Key × V)} (w : OwnD C sp a d o kvs H) (h : rFor (Itk d o kvs) g tb D σ H) : rForOwn C sp g tb D σ (.ref a) H := ⟨a, d, o, kvs, rfl, w, h⟩
def rLcOwn (C : Addr) (sp : Nat → Sp) (g : TG) (tt : TT) (te : TE) (vs : List Nat) (σ : L2.St) (Q : VK) (x : V) (H1 : Hp) : Prop := ∃ a d o kvs, x = .ref a ∧ OwnD C sp a d o kvs H1 ∧ rLcJ (Itk d o kvs) g tt te vs σ Q H1
theorem i_lcO0 {C : Addr} {sp : Nat → Sp} {vs : List Nat} (h : tl σ H (fun x H1 => rLcOwn C sp g tt te vs σ Q x H1)) : tLc (iOwnD C sp tl) g tt te vs σ H Q := h
theorem i_lcO {C : Addr} {sp : Nat → Sp} {vs : List Nat} {kvs : List (Key × V)} (w : OwnD C sp a d o kvs H) (h : rLcJ (Itk d o kvs) g tt te vs σ Q H) : rLcOwn C sp g tt te vs σ Q (.ref a) H := ⟨a, d, o, kvs, rfl, w, h⟩
/-! zip of two lists of one length -/
def rForZip (K : PySem.W.Frag) (g : TG) (tb : TS) (D : Ends) (σ : L2.St) (vs : List V) (H1 : Hp) : Prop := ∃ a b xs ys, vs = [.ref a, .ref b] ∧ SqL K H1 a xs ∧ SqL K H1 b ys ∧ rFor (Itz K a b) g tb D σ H1
theorem i_forZ0 (h : tr σ H (fun vs H1 => rForZip K g tb D σ vs H1)) : tFor (iZip K tr) g tb D σ H := h
theorem i_forZ {b : Addr} {xs ys : List V} (Pv : Nat → L2.St → Hp → Prop) (ha : SqL K H0 a xs) (hb : SqL K H0 b ys) (hl : xs.length = ys.length) (h0 : Pv 0 σ H) (hk : ∀ i σ H1, Pv i σ H1 → Same H0 H1)
    (hs : ∀ i x y T σ H H2, xs[i]? = some x → ys[i]? = some y → Pv i σ H → H T = none → Same H H2 → H2 T = some (.tup [x, y]) → (∀ b, b ≠ T → H2 b = H b) → g (.ref T) σ H2 fun σ2 H2 => tb { D with nx := Pv (i + 1), ct := Pv (i + 1), bk := D.nx } σ2 H2)
    (hd : ∀ σ H, Pv xs.length σ H → D.nx σ H) : rForZip K g tb D σ [.ref a, .ref b] H := by
  refine ⟨a, b, xs, ys, rfl, (hk _ _ _ h0).seq ha, (hk _ _ _ h0).seq hb, for_it (walk_zip (n := xs.length) (by omega)) Pv h0 (fun i σ H1 _ p => ⟨(hk i σ H1 p).seq ha, (hk i σ H1 p).seq hb⟩) (fun i v σ H H' hi p y => ?_) hd⟩
  obtain ⟨T, x, z, rfl, hT, rfl, e1, e2⟩ := y
  exact hs i x z T σ H _ e1 e2 p hT (fun b o e => by rw [upd_ne (ne_of_none e hT)]; exact e) upd_same fun b hb => upd_ne hb
/-! dicts, read -/
theorem i_dgetR {z : Str} {v : V} {kvs : List (Key × V)} (e : Rd H a (.dK kvs)) (l : valV kvs (.inr z) = some v) (h : Q v H) : rDGet (.ref a) (.str z) H Q := ⟨a, v, rfl, .inl ⟨kvs, .inr z, e, rfl, l.symm⟩, h⟩
theorem i_dinR {z : Str} {b : Bool} {kvs : List (Key × V)} (e : Rd H a (.dK kvs)) (l : (valV kvs (.inr z)).isSome = b) (h : Q (.bl b) H) : rDIn (.str z) (.ref a) H Q := ⟨a, _, rfl, .inl ⟨kvs, .inr z, e, rfl, rfl⟩, by rw [l]; exact h⟩
def rG2b (a : Addr) (y z : V) (H3 : Hp) (Q : VK) : Prop := ∃ o, DGet H3 a y o ∧ Q (o.getD z) H3
def rG2 (ty tx : TE) (σ : L2.St) (Q : VK) (x : V) (H1 : Hp) : Prop := ∃ a, x = .ref a ∧ IsD H1 a ∧ ty σ H1 fun y H2 => tx σ H2 fun z H3 => rG2b a y z H3 Q
theorem i_dget20 (h : td σ H (fun x H1 => rG2 ty tx σ Q x H1)) : tDGet2 td ty tx σ H Q := h
theorem i_dget2 {kvs : List (Key × V)} (e : Rd H a (.dK kvs)) (h : ty σ H fun y H2 => tx σ H2 fun z H3 => rG2b a y z H3 Q) : rG2 ty tx σ Q (.ref a) H := ⟨a, rfl, .inl ⟨kvs, e⟩, h⟩
theorem i_dget2b {kvs : List (Key × V)} {z : Str} {v : V} (e : Rd H a (.dK kvs)) (h : Q ((valV kvs (.inr z)).getD v) H) : rG2b a (.str z) v H Q := ⟨_, .inl ⟨kvs, .inr z, e, rfl, rfl⟩, h⟩
def rP1b (a : Addr) (y : V) (H2 : Hp) (Q : VK) : Prop := ∃ kvs k v, H2 a = some (.dK kvs) ∧ y = kV k ∧ valV kvs k = some v ∧ Q v (upd H2 a (.dK (dropK kvs k)))
def rP1 (ty : TE) (σ : L2.St) (Q : VK) (x : V) (H1 : Hp) : Prop := ∃ a, x = .ref a ∧ IsD H1 a ∧ ty σ H1 fun y H2 => rP1b a y H2 Q
theorem i_dpop0 (h : td σ H (fun x H1 => rP1 ty σ Q x H1)) : tDPop1 td ty σ H Q := h
theorem i_dpop {kvs : List (Key × V)} (e : H a = some (.dK kvs)) (h : ty σ H fun y H2 => rP1b a y H2 Q) : rP1 ty σ Q (.ref a) H := ⟨a, rfl, .inl ⟨kvs, .inl e⟩, h⟩
theorem i_dpopb {kvs : List (Key × V)} {z : Str} {v : V} (e : H a = some (.dK kvs)) (l : valV kvs (.inr z) = some v) (h : ∀ H', H' a = some (.dK (dropK kvs (.inr z))) → (∀ b, b ≠ a → H' b = H b) → Q v H') : rP1b a (.str z) H Q :=
  ⟨kvs, .inr z, v, e, rfl, l, h _ upd_same fun b hb => upd_ne hb⟩
theorem i_dputF {z : Str} {v : V} {P : Hp → Prop} (e : H a = some (.dK (dF zs f))) (l : zs.length < 100000) (h : ∀ H4, H4 a = some (.dK (dF (adK zs z) (upF f z v))) → (∀ b, b ≠ a → H4 b = H b) → P H4) : rDPut v (.ref a) (.str z) H P :=
  i_dput e (by rw [dF_len]; exact l) fun H4 e4 o4 => h H4 (by rw [e4, putK_dF]) o4
theorem i_sortR {kvs : List (Key × V)} (e : Rd H a (.dK kvs)) (k : kvs.map (·.1) = zs.map Sum.inr) (l : zs.length < 64) (h : ∀ q H', H q = none → Same H H' → (∀ b, b ≠ q → H' b = H b) → H' q = some (.lst ((srt zs).map V.str)) → Q (.ref q) H') : rSortD [.ref a] H Q :=
  ⟨a, kvs, zs, rfl, e, k, l, fun ys q hp hs hq => by obtain rfl := srt_eq hp hs; exact h q _ hq (same_new hq) (fun b hb => upd_ne hb) upd_same⟩
theorem i_dictR {kvs : List (Key × V)} (e : Rd H a (.dK kvs)) (h : ∀ q H', H q = none → Same H H' → (∀ b, b ≠ q → H' b = H b) → H' q = some (.dK kvs) → Q (.ref q) H') : rDictD [.ref a] H Q :=
  ⟨a, kvs, rfl, e, fun q hq => h q _ hq (same_new hq) (fun b hb => upd_ne hb) upd_same⟩
/-- the dict is known from here on -/
theorem i_frz {t : TS} {u : HO} (e : H d = some u) (mu : Mut (some u)) (h : ∀ od H', H' d = some (.frz od u) → (∀ b, b ≠ d → H' b = H b) → t D σ H') : tFrz t D σ H := ⟨d, u, e, mu, fun od => h od _ upd_same fun b hb => upd_ne hb⟩
theorem i_vals0 (h : td σ H (fun x H1 => ∃ d o kvs, x = .ref d ∧ H1 d = some (.frz o (.dK kvs)) ∧ ∀ q, H1 q = none → Q (.ref q) (upd H1 q (ValO q d)))) : tVals td σ H Q := h
end
/-- dict of a list of pairs -/
def rDictP (K : PySem.W.Frag) : List V → Hp → VK → Prop := fun xs H Q => ∃ (a : Addr) (ps : List Addr) (kvs : List (Key × V)), xs = [.ref a] ∧ SqL K H a (ps.map V.ref) ∧ Paired (fun p kv => SqT K H p [kV kv.1, kv.2]) ps kvs ∧
    ∀ p, H p = none → Q (.ref p) (upd H p (.dK (mergeK [] kvs)))
section
variable {X : Cx} {K : PySem.W.Frag}
theorem k_dictP (hc : X.calm = true) (hK : X.K = K) : CallR X (.type "dict") (rDictP K) := by subst hK; exact call_dictP hc
theorem k_listD (hc : X.calm = true) : CallR X (.type "list") rListD := call_list_dK hc
theorem k_eqW (hK : X.K = K) (hu : X.A.units + 66 < cLine) : OpR X (compareOp .Eq) (rEqW K true) := by subst hK; exact op_eqW hu
theorem k_neW (hK : X.K = K) (hu : X.A.units + 66 < cLine) : OpR X (compareOp .NotEq) (rEqW K false) := by subst hK; exact op_neW hu
/-- the least common multiple -/
def rLcm : List V → Hp → VK → Prop := fun vs H Q => ∃ a b : Int, vs = [.int a, .int b] ∧ a.natAbs.log2 < 9000 ∧ b.natAbs.log2 < 9000 ∧ Q (.int ((Nat.lcm a.natAbs b.natAbs : Nat) : Int)) H
theorem log2_max {n m k : Nat} (hn : n.log2 < k) (hm : m.log2 < k) : (max n m).log2 < k := by
  rcases Nat.le_total n m with h | h
  · rw [Nat.max_eq_right h]; exact hm
  · rw [Nat.max_eq_left h]; exact hn
theorem cr_lcm : CallR X (.builtin "math.lcm") rLcm := by
  intro pins s σ H vs us Q I r h
  obtain ⟨a, b, rfl, h1, h2, q⟩ := h
  obtain ⟨t, u, rfl⟩ := Vals.int2 r
  have e1 : (max 1 a.natAbs).log2 < 9000 := log2_max (by decide) h1
  have e2 := log2_max h1 h2
  have sz : ((((Nat.lcm 1 a.natAbs).lcm b.natAbs : Nat) : Int)).natAbs.log2 < bitsLine := by
    rw [PySem.W.mc_lcm_one, Int.natAbs_natCast]
    have la : a.natAbs < 2 ^ 9000 := by
      by_cases z : a.natAbs = 0
      · rw [z]; exact Nat.two_pow_pos _
      · exact (Nat.log2_lt z).mp h1
    have lb : b.natAbs < 2 ^ 9000 := by
      by_cases z : b.natAbs = 0
      · rw [z]; exact Nat.two_pow_pos _
      · exact (Nat.log2_lt z).mp h2
    have le := PySem.W.mc_lcm_le a.natAbs b.natAbs
    have lt : a.natAbs.lcm b.natAbs < 2 ^ 18000 := by
      refine Nat.lt_of_le_of_lt le (Nat.lt_of_lt_of_le (Nat.mul_lt_mul'' la lb) ?_)
      rw [← Nat.pow_add]
      exact Nat.le_refl _
    by_cases z : a.natAbs.lcm b.natAbs = 0
    · rw [z]; decide
    · have := (Nat.log2_lt z).mpr lt
      unfold bitsLine
      omega
  refine call_function_meets PySem.W.MGF.kind_lcm PySem.W.MGF.plain_lcm PySem.W.MGF.entry_lcm (PySem.W.MGF.args_lcm _ _) (PySem.W.mg_run_lcm a t b u (by omega) (by omega) sz).meets ?_
  rw [PySem.W.mc_lcm_one]
  exact ⟨.int _, H, I.tok _, ⟨_, rfl⟩, q⟩
end
end Z

set_option Elab.async false
set_option linter.all false
set_option maxRecDepth 100000
set_option maxHeartbeats 1000000
/-! data that can be compared: lists, tuples, known and unknown dicts -/
namespace Z
open PySem PySem.Spec PyProof.Rows L2
mutual
theorem dpMono {K : PySem.W.Frag} {H H' : Hp} (s : Same H H') : ∀ {v : V} {d : PyData}, Dp K H v d → Dp K H' v d
  | _, _, .non => .non
  | _, _, .bl b => .bl b
  | _, _, .int i => .int i
  | _, _, .str x => .str x
  | _, _, .lst h hs => .lst (s.seq h) (dpMonoAll s hs)
  | _, _, .tup h hs => .tup (Same_seqT s h) (dpMonoAll s hs)
theorem dpMonoAll {K : PySem.W.Frag} {H H' : Hp} (s : Same H H') : ∀ {vs : List V} {ds : List PyData}, DpAll K H vs ds → DpAll K H' vs ds
  | _, _, .nil => .nil
  | _, _, .cons h hs => .cons (dpMono s h) (dpMonoAll s hs)
end
def Lay (n : Nat) (d : PyData) : Prop := d.canLay0 = true ∧ d.depth ≤ n
theorem lay_all {n : Nat} : ∀ {ds : List PyData}, (∀ d ∈ ds, Lay n d) → PyData.canLayAll0 ds = true ∧ PyData.depthAll ds ≤ n
  | [], _ => ⟨rfl, Nat.zero_le _⟩
  | d :: ds, h => by
    obtain ⟨h1, h2⟩ := h d List.mem_cons_self
    obtain ⟨h3, h4⟩ := lay_all fun e he => h e (List.mem_cons_of_mem _ he)
    refine ⟨?_, ?_⟩
    · unfold PyData.canLayAll0
      rw [h1, h3]
      rfl
    · unfold PyData.depthAll
      omega
theorem lay_list {n : Nat} {ds : List PyData} (h : ∀ d ∈ ds, Lay n d) : Lay (n + 1) (.list ds) := by
  obtain ⟨h1, h2⟩ := lay_all h
  exact ⟨by unfold PyData.canLay0; exact h1, by unfold PyData.depth; omega⟩
theorem lay_tup {n : Nat} {ds : List PyData} (h : ∀ d ∈ ds, Lay n d) : Lay (n + 1) (.tuple ds) := by
  obtain ⟨h1, h2⟩ := lay_all h
  exact ⟨by unfold PyData.canLay0; exact h1, by unfold PyData.depth; omega⟩
theorem Lay.mono {n m : Nat} {d : PyData} (h : Lay n d) (l : n ≤ m) : Lay m d := ⟨h.1, Nat.le_trans h.2 l⟩
theorem Lay.shaped {n : Nat} {d : PyData} (h : Lay n d) (hn : n ≤ 64) : SeqAt.shaped d = true := by
  unfold SeqAt.shaped
  rw [h.1, decide_eq_true (Nat.le_trans h.2 hn)]
  rfl
theorem lay_int (n : Int) : Lay 0 (.int n) := ⟨rfl, Nat.le_refl _⟩
theorem lay_str {z : Str} (h : PyData.strOk z = true) : Lay 0 (.str z) := ⟨by unfold PyData.canLay0; exact h, Nat.le_refl _⟩
mutual
theorem eqv_refl : ∀ d : PyData, d.canLay0 = true → PyData.eqv d d = true
  | .none, _ => rfl
  | .bool a, _ => by show (a == a) = true; simp
  | .int a, _ => by show (a == a) = true; simp
  | .str a, _ => by show (a == a) = true; simp
  | .list xs, h => by
    unfold PyData.canLay0 at h
    show PyData.eqvAll xs xs = true
    exact eqv_reflAll xs h
  | .tuple xs, h => by
    unfold PyData.canLay0 at h
    show PyData.eqvAll xs xs = true
    exact eqv_reflAll xs h
  | .dict _, h => by unfold PyData.canLay0 at h; cases h
theorem eqv_reflAll : ∀ ds : List PyData, PyData.canLayAll0 ds = true → PyData.eqvAll ds ds = true
  | [], _ => rfl
  | d :: ds, h => by
    unfold PyData.canLayAll0 at h
    rw [Bool.and_eq_true] at h
    show (PyData.eqv d d && PyData.eqvAll ds ds) = true
    rw [eqv_refl d h.1, eqv_reflAll ds h.2]
    rfl
end

def rDNIn (y x : V) (H2 : Hp) (Q : VK) : Prop := ∃ a o, x = .ref a ∧ DGet H2 a y o ∧ Q (.bl (!o.isSome)) H2
theorem i_dnin0 {σ : L2.St} {H : Hp} {Q : VK} {ty td : TE} (h : ty σ H (fun y H1 => td σ H1 (fun x H2 => rDNIn y x H2 Q))) : tDNotIn ty td σ H Q := h
theorem i_dninT {H : Hp} {Q : VK} {a : Addr} {z : Str} {kvs : List (Key × V)} {v : V} (e : Rd H a (.dK kvs)) (l : valV kvs (.inr z) = some v) (h : Q (.bl false) H) : rDNIn (.str z) (.ref a) H Q := ⟨a, _, rfl, .inl ⟨kvs, .inr z, e, rfl, rfl⟩, by rw [l]; exact h⟩
theorem i_dninF {H : Hp} {Q : VK} {a : Addr} {z : Str} {kvs : List (Key × V)} (e : Rd H a (.dK kvs)) (l : valV kvs (.inr z) = none) (h : Q (.bl true) H) : rDNIn (.str z) (.ref a) H Q := ⟨a, _, rfl, .inl ⟨kvs, .inr z, e, rfl, rfl⟩, by rw [l]; exact h⟩
theorem i_neDR {K : PySem.W.Frag} {p q : Addr} {H : Hp} {Q : VK} {n : Nat} {d : PyData} (hd : Lay n d) (hn : n ≤ 64) (h1 : Dp K H (.ref p) d) (h2 : Dp K H (.ref q) d) (h : Q (.bl false) H) : rNeD K (.ref p) (.ref q) H Q := by
  refine ⟨_, _, h1, h2, hd.shaped hn, hd.shaped hn, ?_⟩
  rw [eqv_refl d hd.1]
  exact h
theorem w0_of {K : PySem.W.Frag} {H : Hp} {x y : V} {n : Nat} {d : PyData} (hd : Lay n d) (hn : n ≤ 64) (h1 : Dp K H x d) (h2 : Dp K H y d) : W0 K H x y := ⟨d, h1, h2, hd.shaped hn, eqv_refl d hd.1⟩
theorem w0_str {K : PySem.W.Frag} {H : Hp} {z : Str} (h : PyData.strOk z = true) : W0 K H (.str z) (.str z) := w0_of (lay_str h) (by decide) (.str z) (.str z)
theorem wd_of {K : PySem.W.Frag} {H : Hp} {a b : Addr} {zs ys : List Str} {f g : Str → V} (ha : Rd H a (.dK (dF zs f))) (hb : Rd H b (.dK (dF ys g))) (hl : zs.length = ys.length) (h : ∀ z ∈ zs, z ∈ ys ∧ W0 K H (f z) (g z)) : WD K H (.ref a) (.ref b) := by
  refine ⟨a, b, _, _, rfl, rfl, ha, hb, by rw [dF_len, dF_len]; exact hl, fun p hp => ?_⟩
  obtain ⟨z, hz, rfl⟩ := List.mem_map.mp hp
  obtain ⟨h1, h2⟩ := h z hz
  exact ⟨g z, valV_in h1, h2⟩
theorem wl2 {K : PySem.W.Frag} {H : Hp} {a b : Addr} {x y x' y' : V} (ha : H a = some (.lst [x, y])) (hb : H b = some (.lst [x', y'])) (h1 : W1 K H x x') (h2 : W1 K H y y') : WL K H (.ref a) (.ref b) := ⟨a, b, _, _, rfl, rfl, .of ha, .of hb, .cons h1 (.cons h2 .nil)⟩
theorem i_neW {K : PySem.W.Frag} {H : Hp} {x y : V} {Q : VK} (h : WL K H x y ∨ WD K H x y) (q : Q (.bl false) H) : rEqW K false x y H Q := ⟨h, q⟩
end Z

set_option Elab.async false
set_option linter.all false
set_option maxRecDepth 100000
set_option maxHeartbeats 1000000
/-! a dict that was known is open again; == and != of dicts with an answer of either kind -/
namespace Z
open PySem PySem.Spec PyProof.Rows L2
section
variable {X : Cx} {st : Stmt} {t : TS}
/-- from here on the dict at d may be written again (it was none of the caller's known ones) -/
def tUnf (H0 : Hp) (t : TS) : TS := fun D σ H => ∃ d od u, H d = some (.frz od u) ∧ (∀ o' u', H0 d ≠ some (.frz o' u')) ∧ t D σ (upd H d u)
theorem ps_unf (h : PS X st t) : PS X st (tUnf X.H_0 t) := by
  refine ⟨fun pins s σ H D I q => ?_⟩
  obtain ⟨d, od, u, hd, hn, q⟩ := q
  exact h.run pins s σ _ D (I.unlock hd hn) q
end
theorem i_unf {t : TS} {D : Ends} {σ : L2.St} {H H0 : Hp} {d : Addr} {od : Obj} {u : HO} (e : H d = some (.frz od u)) (n : H0 d = none) (h : ∀ H', H' d = some u → (∀ b, b ≠ d → H' b = H b) → t D σ H') : tUnf H0 t D σ H :=
  ⟨d, od, u, e, fun o' u' x => (by rw [n] at x; cases x), h _ upd_same fun b hb => upd_ne hb⟩
/-- what == of two dicts of data gives -/
def eqvD (ks ls : List (Key × V)) (f g : Key → PyData) : Bool := ks.length == ls.length && ks.all fun p => (valV ls p.1).isSome && PyData.eqv (f p.1) (g p.1)
def rEqDG (K : PySem.W.Frag) (neg : Bool) : R2 := fun x y H Q => ∃ (a b : Addr) (ks ls : List (Key × V)) (f g : Key → PyData), x = .ref a ∧ y = .ref b ∧ Rd H a (.dK ks) ∧ Rd H b (.dK ls) ∧
  (∀ p ∈ ks, Dp K H p.2 (f p.1) ∧ SeqAt.shaped (f p.1) = true) ∧ (∀ p ∈ ls, Dp K H p.2 (g p.1) ∧ SeqAt.shaped (g p.1) = true) ∧ Q (.bl (if neg then !eqvD ks ls f g else eqvD ks ls f g)) H
theorem valV_find : ∀ {ls : List (Key × V)} {k : Key} {v : V}, valV ls k = some v → (k, v) ∈ ls
  | p :: ls, k, v, h => by
    by_cases e : p.1 = k
    · rw [valV_pos e] at h
      cases h
      rw [← e]
      exact List.mem_cons_self
    · rw [valV_neg e] at h
      exact List.mem_cons_of_mem _ (valV_find h)
section
variable {X : Cx} {pins : List (Addr × Obj)} {σ : L2.St} {H : Hp} {s : Shared}
theorem dg_hits (I : Inv X pins σ H s) {A : Around} (hu : A.units + 65 < cLine) {ls : List (Key × V)} {vb : List (Key × Value)} {f g : Key → PyData} (rb : KV ls vb) (hg : ∀ p ∈ ls, Dp X.K H p.2 (g p.1) ∧ SeqAt.shaped (g p.1) = true) :
    ∀ {ks : List (Key × V)} {va : List (Key × Value)}, KV ks va → (∀ p ∈ ks, Dp X.K H p.2 (f p.1) ∧ SeqAt.shaped (f p.1) = true) → PySem.W.KeqHits A.in1 s vb va (ks.all fun p => (valV ls p.1).isSome && PyData.eqv (f p.1) (g p.1)) := by
  intro ks va r
  unfold KV at r
  induction r with
  | nil => intro _; exact .nil
  | @cons p q ps qs h t ih =>
    intro hd
    obtain ⟨h1, h2⟩ := h
    obtain ⟨key, w⟩ := q
    have h1' : p.1 = key := h1
    subst h1'
    cases hv : valV ls p.1 with
    | none =>
      have rr : RelO none (valueAt vb p.1) := by rw [← hv]; exact rb.val p.1
      have e : ((p :: ps).all fun p => (valV ls p.1).isSome && PyData.eqv (f p.1) (g p.1)) = false := by
        rw [List.all_cons, hv]
        rfl
      rw [e]
      refine .miss ?_
      cases z : valueAt vb p.1 with
      | none => rfl
      | some u => rw [z] at rr; exact absurd rr (by intro k; cases k)
    | some v =>
      have rr : RelO (some v) (valueAt vb p.1) := by rw [← hv]; exact rb.val p.1
      obtain ⟨y, hy, ry⟩ := rr.some_of
      obtain ⟨d1, s1⟩ := hd p List.mem_cons_self
      obtain ⟨d2, s2⟩ := hg _ (valV_find hv)
      obtain ⟨as, r1⟩ := Dp.reads I _ _ w d1 h2
      obtain ⟨bs, r2⟩ := Dp.reads I _ _ y d2 ry
      have e : ((p :: ps).all fun p => (valV ls p.1).isSome && PyData.eqv (f p.1) (g p.1)) = (PyData.eqv (f p.1) (g p.1) && (ps.all fun p => (valV ls p.1).isSome && PyData.eqv (f p.1) (g p.1))) := by
        rw [List.all_cons, hv]
        rfl
      rw [e]
      exact .hit hy (PySem.W.keq_at r1 r2 s1 s2 (by show A.units + 1 + 64 < cLine; omega)) (ih fun p' h' => hd p' (List.mem_cons_of_mem _ h'))
theorem op_eqDG (hu : X.A.units + 66 < cLine) : OpR X (compareOp .Eq) (rEqDG X.K false) := by
  intro pins s σ H x y v u Q I rx ry h
  obtain ⟨a, b, ks, ls, f, g, rfl, rfl, ea, eb, hf, hg, q⟩ := h
  obtain rfl : v = Value.ref a := rx
  obtain rfl : u = Value.ref b := ry
  obtain ⟨_, ya, va, ra, da⟩ := dk_rd I.hok ea
  obtain ⟨_, yb, vb, rb, db⟩ := dk_rd I.hok eb
  refine PySem.W.keq_eq (knd := mixKind X.prog X.w) ya yb da db (by omega) (fun _ => dg_hits I (A := X.A) (by omega) rb hg ra hf) ⟨.bl _, H, I, ?_, q⟩
  show Value.bool _ = Value.bool _
  rw [← ra.length, ← rb.length]
  rfl
end
end Z

set_option Elab.async false
set_option linter.all false
set_option maxRecDepth 100000
set_option maxHeartbeats 2000000
/-! sets of texts: set(names) of a list or a tuple, sorted(set(names)) -/
namespace Z
open PySem PySem.Spec PyProof.Rows L2
/-- the text that an entry holds -/
def enT (e : Int × Value) : Str := match e.2 with | .str x _ => x | _ => Str.empty
/-- an entry that holds a text, with its hash -/
def EnT (P : Program) (w : World) (e : Int × Value) : Prop := ∃ x tk, e.2 = .str x tk ∧ e.1 = (strKind P w).hash x
/-- the set at a has the texts zs -/
def TxSet (P : Program) (w : World) (h : Heap) (a : Addr) (zs : List Str) : Prop := ∃ o es ep tb,
  (h.get? a = some o ∧ o.ExactSet ∧ o.data = .set es ep tb) ∧ ((∀ e ∈ es.toList, EnT P w e) ∧ (es.toList.map enT).Perm zs ∧ zs.Nodup) ∧
    (es.size < scanBound ∧ tb.fits es.size = true) ∧ Ris tb.place.toList ∧ (w.params.followText "set-order" = true ∨ tb.led = true)
section
variable {P : Program} {w : World} {h h' : Heap} {a : Addr} {zs ys : List Str}
theorem TxSet.stay (R : TxSet P w h a zs) (k : ∀ o, h.get? a = some o → h'.get? a = some o) : TxSet P w h' a zs :=
  let ⟨o, es, ep, tb, ⟨ho, r1⟩, r2⟩ := R; ⟨o, es, ep, tb, ⟨k o ho, r1⟩, r2⟩
theorem TxSet.order (R : TxSet P w h a zs) (p : zs.Perm ys) : TxSet P w h a ys :=
  let ⟨o, es, ep, tb, r1, ⟨r2, r3, r4⟩, r5⟩ := R; ⟨o, es, ep, tb, r1, ⟨r2, r3.trans p, p.nodup_iff.mp r4⟩, r5⟩
theorem enT_is {e : Int × Value} (g : EnT P w e) (x : Str) : (strKind P w).is x e.2 = true ↔ enT e = x := by
  obtain ⟨y, tk, e1, _⟩ := g
  unfold enT
  rw [e1]
  show ((y == x) = true) ↔ _
  exact beq_iff_eq
theorem enT_all {l : List (Int × Value)} (g : ∀ e ∈ l, EnT P w e) : ElemsOf (strKind P w) l := by
  intro e he
  obtain ⟨y, tk, e1, e2⟩ := g e he
  refine ⟨⟨y, ?_, e2⟩, ?_⟩
  · rw [e1]; exact strKind_is P w y tk
  · rw [e1]; rfl
end
section
variable {P : Program} {w : World} {A : Around} {E : Value → Shared → Prop} {s : Shared} {a : Addr} {zs : List Str}
/-- what an add does after it found a place -/
theorem tx_tail {give : Bool → Sem Unit} (free : ∀ (b : Bool) (s1 : Shared) (T : Unit → Shared → Prop), T () s1 → wpAny (model P w) A (give b) T E s1)
    {o : Obj} {es l1 : Array (Int × Value)} {ep : Nat} {tb t1 : SetTable} {ys : List Str} {gone : Bool} {R : Option Bool → Shared → Prop}
    (at0 : s.heap.get? a = some o ∧ o.ExactSet ∧ o.data = .set es ep tb) (c1 : (∀ e ∈ l1.toList, EnT P w e) ∧ (l1.toList.map enT).Perm ys ∧ ys.Nodup) (c2 : l1.size < scanBound ∧ t1.fits l1.size = true)
    (c3 : Ris t1.place.toList) (c4 : w.params.followText "set-order" = true ∨ t1.led = true) (k : ∀ h1, s.heap.SameBut a h1 → TxSet P w h1 a ys → R (some true) { s with heap := h1 }) :
    wpAny (model P w) A (storeSet a l1 t1 >>= fun _ => if (!gone && t1.tooFull) = true then (give (relayAll t1 l1 (SetTable.grown l1.size)).2.2 >>= fun _ =>
      storeSet a (relayAll t1 l1 (SetTable.grown l1.size)).1 (relayAll t1 l1 (SetTable.grown l1.size)).2.1 >>= fun _ => pure (some true)) else pure (some true)) R E s := by
  obtain ⟨ho, ex, hd⟩ := at0
  obtain ⟨g, pm, nd⟩ := c1
  refine wpAny_bind (wpAny_storeSet_of ho hd ?_ (fits_of_scanBound c2.1))
  have at1 : (s.heap.update a (Obj.putSet l1 t1)).get? a = _ := store_at (es' := l1) (t' := t1) ho hd
  have same1 : s.heap.SameBut a (s.heap.update a (Obj.putSet l1 t1)) := Heap.SameBut.update ..
  by_cases full : (!gone && t1.tooFull) = true
  · rw [if_pos full]
    have p2 := relayAll_perm t1 l1 (SetTable.grown l1.size)
    have f2 := relayAll_fits t1 l1 (SetTable.grown l1.size)
    have r2 := relayAll_ris t1 l1 (SetTable.grown l1.size)
    have d2 := relayAll_led t1 l1 (SetTable.grown l1.size)
    revert p2 f2 r2 d2
    generalize relayAll t1 l1 (SetTable.grown l1.size) = out
    obtain ⟨l2, t2, gv⟩ := out
    intro p2 f2 r2 d2
    have n2 : l2.size = l1.size := by have := p2.length_eq; simpa using this
    have b2 : l2.size < scanBound := n2 ▸ c2.1
    refine wpAny_bind (free _ _ _ (wpAny_bind (wpAny_storeSet_of at1 rfl ?_ (fits_of_scanBound b2))))
    have at2 := store_at (es' := l2) (t' := t2) at1 rfl
    refine wpAny_pure (k _ (same1.trans (Heap.SameBut.update _ a _)) ⟨_, l2, _, t2, ⟨at2, ex, rfl⟩, ⟨fun e he => g e (p2.mem_iff.mp he), (p2.map enT).trans pm, nd⟩, ⟨b2, f2⟩, r2, ?_⟩)
    rcases c4 with c | c
    · exact .inl c
    · exact .inr (d2.trans c)
  · rw [if_neg full]
    exact wpAny_pure (k _ same1 ⟨_, l1, _, t1, ⟨at1, ex, rfl⟩, ⟨g, pm, nd⟩, c2, c3, c4⟩)
/-- a text is added -/
theorem tx_add {x : Str} {tk : Tok} {Q : Bool → Shared → Prop} (R : TxSet P w s.heap a zs) (room : zs.length + 1 < scanBound)
    (k : ∀ h1, s.heap.SameBut a h1 → TxSet P w h1 a (if x ∈ zs then zs else x :: zs) → Q (!decide (x ∈ zs)) { s with heap := h1 }) :
    wpAny (model P w) A (setAddHashed a (.str x tk) ((strKind P w).hash x)) Q E s := by
  obtain ⟨o, es, ep, tb, ⟨ho, ex, hd⟩, ⟨g, pm, nd⟩, ⟨bd, ft⟩, rs, ld⟩ := id R
  have key : (strKind P w).is x (.str x tk) = true := strKind_is P w x tk
  have els := enT_all g
  have scan : (Value.str x tk).scannable = true := rfl
  unfold setAddHashed setAddHashedIn
  refine wpAny_holding (wpAny_bind (wpAny_setState_of ho hd ft ?_))
  dsimp only
  rw [byScan_of scan bd els, if_pos rfl]
  unfold setAddByScan
  refine wpAny_bind (wpAny_bind (wpAny_rule (wpAny_bind (wpAny_setScan_of key ho hd ft els ?_))))
  have mem : x ∈ zs ↔ ∃ e ∈ es.toList, (strKind P w).is x e.2 = true := by
    rw [← pm.mem_iff, List.mem_map]
    exact ⟨fun ⟨e, he, q⟩ => ⟨e, he, (enT_is (g e he) x).mpr q⟩, fun ⟨e, he, q⟩ => ⟨e, he, (enT_is (g e he) x).mp q⟩⟩
  cases hf : es.toList.findIdx? (fun e => (strKind P w).is x e.2) with
  | some j =>
    obtain ⟨lt, q, _⟩ := List.findIdx?_eq_some_iff_getElem.mp hf
    have hx : x ∈ zs := mem.mpr ⟨_, List.getElem_mem lt, q⟩
    have k0 := k s.heap (Heap.SameBut.refl ..) (by rw [if_pos hx]; exact R)
    rw [decide_eq_true hx] at k0
    exact wpAny_pure (wpAny_pure k0)
  | none =>
    have hx : x ∉ zs := fun z => by
      obtain ⟨e, he, q⟩ := mem.mp z
      rw [List.findIdx?_eq_none_iff.mp hf e he] at q
      exact Bool.noConfusion q
    dsimp only
    have p1 := layNew_perm tb es ((strKind P w).hash x) (.str x tk)
    have f1 := layNew_fits tb es ((strKind P w).hash x) (.str x tk)
    have r1 := layNew_ris tb es ((strKind P w).hash x) (.str x tk) rs
    have d1 := layNew_led tb es ((strKind P w).hash x) (.str x tk)
    revert p1 f1 r1 d1
    generalize layNew tb es ((strKind P w).hash x) (.str x tk) = out
    obtain ⟨l1, t1, gone, gv⟩ := out
    intro p1 f1 r1 d1
    dsimp only at p1 f1 r1 d1 ⊢
    have q1 : l1.toList.Perm (((strKind P w).hash x, .str x tk) :: es.toList) := by
      rw [Array.toList_push] at p1
      exact p1.trans (List.perm_append_singleton _ _)
    have G1 : ∀ e ∈ l1.toList, EnT P w e := fun e he => (List.mem_cons.mp (q1.mem_iff.mp he)).elim (fun z => ⟨x, tk, by rw [z], by rw [z]⟩) (g e)
    have m1 : (l1.toList.map enT).Perm (x :: zs) := (q1.map enT).trans (.cons x pm)
    have n1 : (x :: zs).Nodup := List.nodup_cons.mpr ⟨hx, nd⟩
    have z1 : l1.size < scanBound := by
      have u := m1.length_eq
      rw [List.length_map, Array.length_toList, List.length_cons] at u
      rw [u]
      exact room
    have e1 : w.params.followText "set-order" = true ∨ t1.led = true := ld.elim .inl fun z => .inr (d1.trans z)
    have fin : ∀ h1, s.heap.SameBut a h1 → TxSet P w h1 a (x :: zs) → Q true { s with heap := h1 } := fun h1 u v => by
      have y := k h1 u (by rw [if_neg hx]; exact v)
      rw [decide_eq_false hx] at y
      exact y
    have nop : ∀ (b : Bool) (s1 : Shared) (T : Unit → Shared → Prop), T () s1 → wpAny (model P w) A (match b with | true => rule "set.scan.the-table-gave-way" | false => pure ()) T E s1 := by
      intro b s1 T y
      cases b
      · exact wpAny_pure y
      · exact wpAny_rule y
    refine wpAny_bind (nop gv _ _ ?_)
    by_cases pl : t1.plain = true
    · rw [if_pos pl]
      refine wpAny_bind ?_
      rw [hashByValue_scannable 8 scan]
      refine wpAny_pure (tx_tail (ys := x :: zs) nop ⟨ho, ex, hd⟩ ⟨G1, m1, n1⟩ ⟨z1, ?_⟩ ?_ ?_ fun h1 u v => wpAny_pure (fin h1 u v))
      all_goals split
      · exact f1
      · exact SetTable.fits_plain_off f1
      · exact r1
      · exact r1
      · exact e1
      · exact e1
    · rw [if_neg pl]
      refine wpAny_bind (wpAny_pure ?_)
      rw [if_pos rfl]
      exact tx_tail (ys := x :: zs) nop ⟨ho, ex, hd⟩ ⟨G1, m1, n1⟩ ⟨z1, f1⟩ r1 e1 fun h1 u v => wpAny_pure (fin h1 u v)
end

/-- the texts met, each once (the last first) -/
def ddp (xs : List Str) : List Str := xs.foldl (fun l z => if z ∈ l then l else z :: l) []
theorem ddp_snoc (xs : List Str) (z : Str) : ddp (xs ++ [z]) = if z ∈ ddp xs then ddp xs else z :: ddp xs := by unfold ddp; rw [List.foldl_append]; rfl
theorem mem_ddp (z : Str) : ∀ xs : List Str, z ∈ ddp xs ↔ z ∈ xs := by
  intro xs
  rw [← xs.reverse_reverse]
  generalize xs.reverse = m
  induction m with
  | nil => exact Iff.rfl
  | cons x m ih =>
    rw [List.reverse_cons, ddp_snoc, List.mem_append, List.mem_singleton]
    split
    · rename_i hx
      exact ⟨fun h => .inl (ih.mp h), fun h => h.elim ih.mpr fun e => by rw [e]; exact hx⟩
    · rw [List.mem_cons]
      exact ⟨fun h => h.elim .inr fun h => .inl (ih.mp h), fun h => h.elim (fun h => .inr (ih.mpr h)) .inl⟩
theorem ddp_len : ∀ xs : List Str, (ddp xs).length ≤ xs.length := by
  intro xs
  rw [← xs.reverse_reverse]
  generalize xs.reverse = m
  induction m with
  | nil => exact Nat.le_refl _
  | cons x m ih =>
    rw [List.reverse_cons, ddp_snoc, List.length_append, List.length_singleton]
    split
    · omega
    · rw [List.length_cons]; omega
section
variable {P : Program} {w : World} {A : Around} {I : Addr} {fp wr : List Addr} {G : Array GenState → Array GenState → Prop} {n : Nat} {Pv : Nat → Value → Prop} {St : Nat → Shared → Prop} {R : Result → Shared → Prop}
theorem tx_update (W : WalksS P w A.in1 I fp wr G n Pv St) {S : Addr} (out : S ∉ fp) {xs : List Str} (len : xs.length = n) (few : n + 1 < scanBound) (val : ∀ i v, Pv i v → ∃ z tk, xs[i]? = some z ∧ v = .str z tk) :
    ∀ (m i : Nat) (s : Shared), m + i = n → St i s → TxSet P w s.heap S (ddp (xs.take i)) → (∀ s', Moved (S :: wr) G s s' → TxSet P w s'.heap S (ddp xs) → R (.ok (.ret .none)) s') → codeAny (model P w) A (.builtin "set.update.loop" ⟨[.ref S, .ref I], []⟩) R s := by
  have nw : S ∉ wr := fun z => out (W.sub _ z)
  have up : ∀ b ∈ wr, b ∈ S :: wr := fun b z => .tail _ z
  intro m
  induction m with
  | zero =>
    intro i s hi st T k
    obtain rfl : i = n := by omega
    refine codeAny_builtin F.entry_set_update_loop ?_
    rw [Around.under_plainId F.plain_set_update_loop]
    refine wpAny_bind (W.done s _ _ st fun s1 mv => wpAny_pure (k s1 (mv.mono up) ?_))
    rw [← len, List.take_length] at T
    exact T.stay fun o e => mv.heap S o nw e
  | succ m ih =>
    intro i s hi st T k
    refine codeAny_builtin F.entry_set_update_loop ?_
    rw [Around.under_plainId F.plain_set_update_loop]
    refine wpAny_bind (W.item i s _ _ (by omega) st fun v s1 pv st1 mv => ?_)
    obtain ⟨z, tk, hz, rfl⟩ := val i v pv
    have T1 : TxSet P w s1.heap S (ddp (xs.take i)) := T.stay fun o e => mv.heap S o nw e
    refine wpAny_bind (wpAny_holding ?_)
    unfold setAdd
    refine wpAny_holding (wpAny_bind ((strKind P w).pyHash (k := z) (strKind_is P w z tk) ?_))
    have few1 : (ddp (xs.take i)).length + 1 < scanBound := by
      have u := ddp_len (xs.take i)
      rw [List.length_take] at u
      omega
    refine tx_add (s := { s1 with toks := s1.toks + 1 }) T1 few1 fun h1 sb T2 => ?_
    have nx : ddp (xs.take (i + 1)) = if z ∈ ddp (xs.take i) then ddp (xs.take i) else z :: ddp (xs.take i) := by rw [List.take_add_one, hz]; exact ddp_snoc _ z
    rw [← nx] at T2
    refine wpAny_pure ⟨plainId_quiet F.plain_set_update_loop _, ih (i + 1) _ (by omega) (W.frame _ s1 _ _ st1 (Nat.le_succ _) fun b hb o e => ?_) T2 fun s2 mv2 T3 => k s2 (Moved.trans W.gtrans ((mv.mono up).then_heap (Nat.le_succ _) fun b o hb e => ?_) mv2) T3⟩
    · exact (sb.2 b fun y => out (y ▸ hb)).trans e
    · exact (sb.2 b fun y => hb (y ▸ List.mem_cons_self)).trans e
end

/-- a new set -/
abbrev newS (w : World) : Obj := { cls := .type "set", dict := none, data := .set #[] 0 (.fresh 0 0 (!w.params.followText "set-order")) }
section
variable {P : Program} {w : World} {A : Around} {E : Value → Shared → Prop} {s : Shared}
theorem tx_new {h : Heap} {a : Addr} (e : h.get? a = some (newS w)) : TxSet P w h a [] := by
  have led : w.params.followText "set-order" = true ∨ (SetTable.fresh 0 0 (!w.params.followText "set-order")).led = true := by
    cases z : w.params.followText "set-order"
    · exact .inr rfl
    · exact .inl rfl
  unfold TxSet
  refine ⟨newS w, #[], 0, SetTable.fresh 0 0 (!w.params.followText "set-order"), ⟨e, ?_, rfl⟩, ⟨?_, ?_, List.nodup_nil⟩, ⟨?_, ?_⟩, ?_, led⟩
  · exact ⟨rfl, rfl, rfl⟩
  · intro x hx
    simp at hx
  · exact .nil
  · show (0 : Nat) < scanBound
    decide
  · rfl
  · exact .nil

set_option maxHeartbeats 8000000 in
theorem tx_setL {l : Addr} {items : Array Value} {xs : List Str} {Q : Value → Shared → Prop} (calm : A.handled = none) (hl : s.heap.IsList l items) (hi : StrsAre items.toList xs) (few : xs.length + 1 < scanBound)
    (k : ∀ (h1 : Heap) (tk : Nat), TxSet P w h1 s.heap.objs.size (ddp xs) → (∀ b o, s.heap.get? b = some o → h1.get? b = some o) → Q (.ref s.heap.objs.size) { s with heap := h1, toks := tk }) :
    wpAny (model P w) A (call (.type "set") [.ref l]) Q E s := by
  have szi : xs.length = items.size := by rw [← Array.length_toList]; exact (StrsAre.len_eq hi).symm
  obtain ⟨mc, mt, mro⟩ := F.called_set.mro
  have w1 := F.called_set.made
  have w2 := F.called_set.sub
  have w3 := F.called_set.notType
  have w4 := F.called_set.canCreate
  have w5 := F.typeCall_set_1 (.ref l)
  have w6 := F.called_set.init.lookup
  refine wpAny_call (codeAny_of_tree (wpAny_pure ⟨Code.quiet_builtin _ (by decide +kernel), codeAny_builtin F.entry_type_call ?_⟩))
  rw [Around.under_plain (weight_type_call_type "set" [.ref l] []) rfl]
  repeat (any_goals (first | assumption | wp_step))
  refine codeAny_mono (code_set_led1 (.ref l) (E := E) (Q₁ := fun v s1 => v = .ref s.heap.objs.size ∧ s1 = { s with heap := s.heap.push (newS w) }) ⟨rfl, rfl⟩) fun r s1 hr => ?_
  rcases r with e | fl
  · exact hr
  cases fl with
  | ret v =>
    obtain ⟨rfl, rfl⟩ := hr
    have hS : (s.heap.push (newS w)).get? s.heap.objs.size = some (newS w) := Heap.get?_push_size _ rfl
    have tS : ({ s with heap := s.heap.push (newS w) } : Shared).TypeIs (.ref s.heap.objs.size) "set" := ⟨_, hS, rfl⟩
    have w7 := F.called_set.init.bind (.ref s.heap.objs.size)
    repeat (any_goals (first | assumption | wp_step))
    refine codeAny_mono (codeAny_call_builtin (R := wants (fun v s2 => v = .none ∧ ∃ h1 tk, s2 = { s with heap := h1, toks := tk } ∧ TxSet P w h1 s.heap.objs.size (ddp xs) ∧ ∀ b o, s.heap.get? b = some o → h1.get? b = some o) E)
      F.called_set.init.plain F.entry_set_init (check_set_init_1 tS ?_)) fun r2 s2 hr2 => ?_
    · have hl1 : (s.heap.push (newS w)).IsList l items := hl.push _
      obtain ⟨⟨ocl, odi, oda, osl⟩, ol, oc, on, od⟩ := id hl
      cases oc
      cases od
      have ol1 := Heap.get?_push_of_some (newS w) ol
      have lt := Heap.lt_size ol
      have n1 := F.sub_list_set
      have n2 := F.sub_list_frozenset
      have n3 : (Value.type "list" == Value.type "dict") = false := by decide
      unfold Builtin.«set.__init__» noKeywords Builtin.Frozenset.updateFrom
      generalize it0 : pyIter = PI
      wp_walk
      subst it0
      refine wpAny_pyIter_list hl1 (wpAny_bind (wpAny_runValue ?_))
      have sz1 : (s.heap.push (newS w)).objs.size = s.heap.objs.size + 1 := Heap.size_push ..
      have ne1 : l ≠ (s.heap.push (newS w)).objs.size := by rw [sz1]; exact Nat.ne_of_lt (Nat.lt_succ_of_lt lt)
      have calm1 : A.in1.in1.in1.handled = none := by simp [calm]
      refine tx_update ((Walks.list calm1 _ l ne1 items).toS) (S := s.heap.objs.size) (by
          rw [sz1]
          intro z
          rcases List.mem_cons.mp z with z | z
          · exact Nat.ne_of_lt (Nat.lt_succ_self _) z
          · exact Nat.ne_of_gt lt (List.mem_singleton.mp z)) szi (by rw [← szi]; exact few) (fun i v hv => ?_) items.size 0 _ (by omega) ⟨⟨_, Heap.get?_push_size _ rfl, rfl, rfl⟩, hl1.push _⟩ (tx_new (Heap.get?_push_of_some _ hS)) fun s3 mv T => ?_
      · obtain ⟨tk, e⟩ := SS.strs_at hi i v (by rw [Array.getElem?_toList]; exact hv)
        have li : i < xs.length := by rw [szi]; exact (Array.getElem?_eq_some_iff.mp hv).1
        exact ⟨xs[i], tk, List.getElem?_eq_getElem li, by rw [e, List.getD_eq_getElem?_getD, List.getElem?_eq_getElem li]; rfl⟩
      · obtain ⟨h3, g3, d3, t3, o3⟩ := s3
        obtain rfl : g3 = s.gens := mv.gens
        obtain rfl : d3 = s.drawn := mv.drawn
        obtain rfl : o3 = s.os := mv.os
        refine wpAny_pure (wpAny_pure ⟨rfl, h3, t3, rfl, T, fun b o e => mv.heap b o (fun z => ?_) (Heap.get?_push_of_some _ (Heap.get?_push_of_some _ e))⟩)
        have lb := Heap.lt_size e
        rcases List.mem_cons.mp z with z | z
        · exact Nat.ne_of_lt lb z
        · rw [List.mem_singleton.mp z, sz1] at lb
          exact absurd lb (Nat.not_lt_of_lt (Nat.lt_succ_self _))
    · rcases r2 with e | fl2
      · exact hr2
      cases fl2 with
      | ret v =>
        obtain ⟨rfl, h1, tk, rfl, T, kp⟩ := hr2
        repeat (any_goals (first | assumption | wp_step))
        exact k _ _ T kp
      | _ => exact hr2.elim
  | _ => exact hr.elim

set_option maxHeartbeats 8000000 in
theorem tx_setT {l : Addr} {items : Array Value} {xs : List Str} {Q : Value → Shared → Prop} (calm : A.handled = none) (hl : s.heap.IsTuple l items) (hi : StrsAre items.toList xs) (few : xs.length + 1 < scanBound)
    (k : ∀ (h1 : Heap) (tk : Nat), TxSet P w h1 s.heap.objs.size (ddp xs) → (∀ b o, s.heap.get? b = some o → h1.get? b = some o) → Q (.ref s.heap.objs.size) { s with heap := h1, toks := tk }) :
    wpAny (model P w) A (call (.type "set") [.ref l]) Q E s := by
  have szi : xs.length = items.size := by rw [← Array.length_toList]; exact (StrsAre.len_eq hi).symm
  obtain ⟨mc, mt, mro⟩ := F.called_set.mro
  have w1 := F.called_set.made
  have w2 := F.called_set.sub
  have w3 := F.called_set.notType
  have w4 := F.called_set.canCreate
  have w5 := F.typeCall_set_1 (.ref l)
  have w6 := F.called_set.init.lookup
  refine wpAny_call (codeAny_of_tree (wpAny_pure ⟨Code.quiet_builtin _ (by decide +kernel), codeAny_builtin F.entry_type_call ?_⟩))
  rw [Around.under_plain (weight_type_call_type "set" [.ref l] []) rfl]
  repeat (any_goals (first | assumption | wp_step))
  refine codeAny_mono (code_set_led1 (.ref l) (E := E) (Q₁ := fun v s1 => v = .ref s.heap.objs.size ∧ s1 = { s with heap := s.heap.push (newS w) }) ⟨rfl, rfl⟩) fun r s1 hr => ?_
  rcases r with e | fl
  · exact hr
  cases fl with
  | ret v =>
    obtain ⟨rfl, rfl⟩ := hr
    have hS : (s.heap.push (newS w)).get? s.heap.objs.size = some (newS w) := Heap.get?_push_size _ rfl
    have tS : ({ s with heap := s.heap.push (newS w) } : Shared).TypeIs (.ref s.heap.objs.size) "set" := ⟨_, hS, rfl⟩
    have w7 := F.called_set.init.bind (.ref s.heap.objs.size)
    repeat (any_goals (first | assumption | wp_step))
    refine codeAny_mono (codeAny_call_builtin (R := wants (fun v s2 => v = .none ∧ ∃ h1 tk, s2 = { s with heap := h1, toks := tk } ∧ TxSet P w h1 s.heap.objs.size (ddp xs) ∧ ∀ b o, s.heap.get? b = some o → h1.get? b = some o) E)
      F.called_set.init.plain F.entry_set_init (check_set_init_1 tS ?_)) fun r2 s2 hr2 => ?_
    · have hl1 : (s.heap.push (newS w)).IsTuple l items := hl.push _
      obtain ⟨⟨ocl, odi, oda, osl⟩, ol, oc, on, od⟩ := id hl
      cases oc
      cases od
      have ol1 := Heap.get?_push_of_some (newS w) ol
      have lt := Heap.lt_size ol
      have n1 := F.sub_tuple_set
      have n2 := F.sub_tuple_frozenset
      have n3 : (Value.type "tuple" == Value.type "dict") = false := by decide
      unfold Builtin.«set.__init__» noKeywords Builtin.Frozenset.updateFrom
      generalize it0 : pyIter = PI
      wp_walk
      subst it0
      refine wpAny_pyIter_tuple hl1 (wpAny_bind (wpAny_runValue ?_))
      have sz1 : (s.heap.push (newS w)).objs.size = s.heap.objs.size + 1 := Heap.size_push ..
      have ne1 : l ≠ (s.heap.push (newS w)).objs.size := by rw [sz1]; exact Nat.ne_of_lt (Nat.lt_succ_of_lt lt)
      have calm1 : A.in1.in1.in1.handled = none := by simp [calm]
      refine tx_update ((Walks.tuple calm1 _ l ne1 items).toS) (S := s.heap.objs.size) (by
          rw [sz1]
          intro z
          rcases List.mem_cons.mp z with z | z
          · exact Nat.ne_of_lt (Nat.lt_succ_self _) z
          · exact Nat.ne_of_gt lt (List.mem_singleton.mp z)) szi (by rw [← szi]; exact few) (fun i v hv => ?_) items.size 0 _ (by omega) ⟨⟨_, Heap.get?_push_size _ rfl, rfl, rfl⟩, hl1.push _⟩ (tx_new (Heap.get?_push_of_some _ hS)) fun s3 mv T => ?_
      · obtain ⟨tk, e⟩ := SS.strs_at hi i v (by rw [Array.getElem?_toList]; exact hv)
        have li : i < xs.length := by rw [szi]; exact (Array.getElem?_eq_some_iff.mp hv).1
        exact ⟨xs[i], tk, List.getElem?_eq_getElem li, by rw [e, List.getD_eq_getElem?_getD, List.getElem?_eq_getElem li]; rfl⟩
      · obtain ⟨h3, g3, d3, t3, o3⟩ := s3
        obtain rfl : g3 = s.gens := mv.gens
        obtain rfl : d3 = s.drawn := mv.drawn
        obtain rfl : o3 = s.os := mv.os
        refine wpAny_pure (wpAny_pure ⟨rfl, h3, t3, rfl, T, fun b o e => mv.heap b o (fun z => ?_) (Heap.get?_push_of_some _ (Heap.get?_push_of_some _ e))⟩)
        have lb := Heap.lt_size e
        rcases List.mem_cons.mp z with z | z
        · exact Nat.ne_of_lt lb z
        · rw [List.mem_singleton.mp z, sz1] at lb
          exact absurd lb (Nat.not_lt_of_lt (Nat.lt_succ_self _))
    · rcases r2 with e | fl2
      · exact hr2
      cases fl2 with
      | ret v =>
        obtain ⟨rfl, h1, tk, rfl, T, kp⟩ := hr2
        repeat (any_goals (first | assumption | wp_step))
        exact k _ _ T kp
      | _ => exact hr2.elim
  | _ => exact hr.elim
end
end Z

set_option Elab.async false
set_option linter.all false
set_option maxRecDepth 100000
set_option maxHeartbeats 2000000
/-! sets of texts as rules: set(xs), sorted(set) -/
namespace Z
open PySem PySem.Spec PyProof.Rows L2
/-- the set of texts at a, as a thing of the heap -/
def TxO (P : Program) (w : World) (a : Addr) (zs : List Str) : HO := .ext fun h => TxSet P w h a zs
theorem txO_new {P : Program} {w : World} {H : Hp} {h : Heap} {a : Addr} {zs : List Str} (R : TxSet P w h a zs) : ObjOk P w H h a (TxO P w a zs) := by
  obtain ⟨o, _, _, _, ⟨ho, _⟩, _⟩ := id R
  exact ⟨R, ⟨o, ho⟩, fun h1 h2 p k => TxSet.stay p k⟩
section
variable {X : Cx}
/-- set(xs) of a list or a tuple of texts -/
def rSetX (P : Program) (w : World) (K : PySem.W.Frag) : List V → Hp → VK → Prop := fun xs H Q => ∃ (l : Addr) (zs : List Str), xs = [.ref l] ∧ SqA K H l (zs.map V.str) ∧ zs.length < 1000 ∧ ∀ p, H p = none → Q (.ref p) (upd H p (TxO P w p (ddp zs)))
theorem cr_setX (hc : X.calm = true) : CallR X (.type "set") (rSetX X.prog X.w X.K) := by
  intro pins s σ H xs us Q I r h
  obtain ⟨l, zs, rfl, hl, few, q⟩ := h
  obtain rfl := Vals.ref1 r
  have few1 : zs.length + 1 < scanBound := Nat.lt_of_lt_of_le (Nat.succ_lt_succ few) (by decide)
  have fin : ∀ (h1 : Heap) (tk : Nat), TxSet X.prog X.w h1 s.heap.objs.size (ddp zs) → (∀ b o, s.heap.get? b = some o → h1.get? b = some o) → EP X pins σ Q (.ref s.heap.objs.size) { s with heap := h1, toks := tk } := fun h1 tk T kp =>
    ⟨.ref s.heap.objs.size, _, I.laid kp (Nat.le_refl _) (txO_new T), rfl, q _ (I.hok.fresh (Nat.le_refl _))⟩
  rcases hl with hl | hl
  · obtain ⟨its, rv, pl, _⟩ := I.list hl
    exact tx_setL (I.ok.hd hc) pl.isList (by rw [show its.toArray.toList = its by simp]; exact rv.strs) few1 fin
  · obtain ⟨its, rv, pl, _⟩ := I.tuple hl
    exact tx_setT (I.ok.hd hc) pl (by rw [show its.toArray.toList = its by simp]; exact rv.strs) few1 fin
/-- sorted of a set of texts -/
def rSortX (P : Program) (w : World) : List V → Hp → VK → Prop := fun vs H Q => ∃ (a : Addr) (zs : List Str), vs = [.ref a] ∧ H a = some (TxO P w a zs) ∧ zs.length < 64 ∧
  ∀ p H', H p = none → Same H H' → (∀ b, b ≠ p → H' b = H b) → H' p = some (.lst ((srt zs).map V.str)) → Q (.ref p) H'
theorem strs_of_en {P : Program} {w : World} : ∀ {l : List (Int × Value)}, (∀ e ∈ l, EnT P w e) → StrsAre (l.map (·.2)) (l.map enT)
  | [], _ => .nil
  | e :: l, g => by
    obtain ⟨x, tk, e1, _⟩ := g e List.mem_cons_self
    have ih := strs_of_en fun y hy => g y (List.mem_cons_of_mem _ hy)
    show StrsAre (e.2 :: _) (enT e :: _)
    unfold enT
    rw [e1]
    exact .cons x tk ih
theorem strs_perm {us vs : List Value} (p : us.Perm vs) : ∀ {xs : List Str}, StrsAre vs xs → ∃ ys, StrsAre us ys ∧ ys.Perm xs := by
  induction p with
  | nil => intro xs h; exact ⟨xs, h, .refl _⟩
  | cons u _ ih =>
    intro xs h
    cases h with
    | cons x t hr =>
      obtain ⟨ys, a, b⟩ := ih hr
      exact ⟨_, .cons x t a, b.cons x⟩
  | swap u v l =>
    intro xs h
    cases h with
    | cons x t hr =>
      cases hr with
      | cons y t2 hr2 => exact ⟨_, .cons y t2 (.cons x t hr2), List.Perm.swap x y _⟩
  | trans _ _ ih1 ih2 =>
    intro xs h
    obtain ⟨ys, a, b⟩ := ih2 h
    obtain ⟨zs, c, d⟩ := ih1 a
    exact ⟨zs, c, d.trans b⟩
theorem cr_sortX (hc : X.calm = true) : CallR X (.builtin "sorted") (rSortX X.prog X.w) := by
  intro pins s σ H vs us Q I r h
  obtain ⟨a, zs, rfl, ha, few, q⟩ := h
  obtain rfl := Vals.ref1 r
  obtain ⟨o, es, ep, tb, ⟨ho, ex, hd⟩, ⟨g, pm, nd⟩, ⟨bd, ft⟩, rs, ld⟩ := (I.hok a _ ha).1
  refine Calls.call_function_entry PyProof.Rows.kind_sorted PyProof.Rows.plain_sorted PyProof.Rows.entry_sorted (PyProof.Rows.args_sorted1 _) ?_
  unfold Builtin.«sorted»
  refine wpAny_bind (m := checkCount "sorted" 1 1 _) (wpAny_pure ?_)
  refine wpAny_bind (collect_set (A := X.A.in1) (I.ok.hd hc) ⟨o, ho, ex.1, hd⟩ ft bd rs ld fun s1 its kp sz g1 o1 pi => ?_)
  obtain ⟨ys, hS, py⟩ := strs_perm pi (strs_of_en g)
  have pz : ys.Perm zs := py.trans pm
  have ln : its.length < 64 := by rw [StrsAre.len_eq hS, pz.length_eq]; exact few
  have big : (64 : Nat) < sizeLine := by rw [sizeLine_eq]; decide
  refine wpAny_bind (wpAny_newList ?_ (by omega))
  have oL : (s1.heap.push (seqObj "list" its.toArray 0)).get? s1.heap.objs.size = some (seqObj "list" its.toArray 0) := Heap.get?_push_size _ rfl
  refine wpAny_bind (wpAny_holding (wpAny_call_entry PyProof.Rows.slot_list_sort ⟨_, oL, rfl⟩ PyProof.Rows.entry_list_sort (list_sort_treeK strKind_oneLt (s := { s1 with heap := s1.heap.push (seqObj "list" its.toArray 0) }) oL hS.keysOf
    (fun v₁ v₂ rest e => keyKind_strs (by rw [← e]; exact hS)) ln fun st hp hs => ⟨_, rfl, ?_⟩) (PyProof.Rows.args_list_sort _)))
  obtain ⟨zs', u1, u2, u3⟩ := sorted_out_str hS hp hs
  have ez : zs' = srt zs := (srt_eq u2 u3).trans (sort_uniq ((srt_perm ys).trans (pz.trans (srt_perm zs).symm)) (srt_pw ys) (srt_pw zs))
  subst ez
  obtain ⟨c, hc'⟩ := PyProof.Rows.sortedHeap_at (vs := its) (out := (arrOf st).map (·.2)) oL
  have l2 : ((srt zs).map V.str).length ≤ sizeLine := by rw [List.length_map, (srt_perm zs).length_eq]; omega
  have fr : H s1.heap.objs.size = none := I.hok.fresh sz
  have kp2 : ∀ b u, s.heap.get? b = some u → (PyProof.Rows.sortedHeap (s1.heap.push (seqObj "list" its.toArray 0)) s1.heap.objs.size its ((arrOf st).map (·.2))).get? b = some u := fun b u e => by
    have y := kp b u e
    have lb := Heap.lt_size y
    rw [PyProof.Rows.sortedHeap_old (Nat.ne_of_lt lb) (by rw [size_push']; exact Nat.lt_succ_of_lt lb)]
    exact Heap.get?_push_of_some _ y
  have J : Inv X pins σ (upd H s1.heap.objs.size (.lst ((srt zs).map V.str))) { s1 with heap := PyProof.Rows.sortedHeap (s1.heap.push (seqObj "list" its.toArray 0)) s1.heap.objs.size its ((arrOf st).map (·.2)) } :=
    I.call' (ch := []) o1 (Un.laid kp2 sz fr) (I.hok.laid kp2 sz ⟨l2, ((arrOf st).map (·.2)).toList, c, vals_of_strs u1, by rw [Array.toArray_toList]; exact hc'⟩) (by show AllBare s1.gens; rw [g1]; exact I.bare) (fun _ z => nomatch z)
  exact wpAny_pure ⟨_, rfl, .ref s1.heap.objs.size, _, J, rfl, q _ _ fr (fun b o e => by rw [upd_ne (ne_of_none e fr)]; exact e) (fun b hb => upd_ne hb) upd_same⟩
end
end Z

set_option Elab.async false
set_option linter.all false
set_option maxRecDepth 100000
set_option maxHeartbeats 1000000
/-! a new dict known at once; d.items() walked -/
namespace Z
open PySem PySem.Spec PyProof.Rows L2
/-- what e makes is known from here on -/
def tFrzE (te : TE) : TE := fun σ H Q => te σ H fun x H1 => ∃ d u, x = .ref d ∧ H1 d = some u ∧ Mut (some u) ∧ ∀ od, Q x (upd H1 d (.frz od u))
theorem pe_frzE {X : Cx} {e : Expr} {te : TE} (h : PE X e te) : PE X e (tFrzE te) := by
  refine ⟨fun pins s σ H Q I q => thn (h.run pins s σ H _ I q) fun v s1 ⟨x, H1, I1, rx, d, u, ex, hd, mu, k⟩ => ?_⟩
  obtain ⟨od, I2⟩ := I1.lock hd mu
  exact ⟨x, _, I2, rx, k od⟩
section
variable {K : PySem.W.Frag} {σ : L2.St} {H H0 : Hp} {D : Ends} {te td tx : TE} {tt : TT} {g : TG} {Q : VK} {a d : Addr} {o : Obj} {zs : List Str} {f : Str → V}
def rFrzE (x : V) (H1 : Hp) (Q : VK) : Prop := ∃ d u, x = .ref d ∧ H1 d = some u ∧ Mut (some u) ∧ ∀ od, Q x (upd H1 d (.frz od u))
theorem i_frzE0 (h : te σ H (fun x H1 => rFrzE x H1 Q)) : tFrzE te σ H Q := h
theorem i_frzE {u : HO} (e : H d = some u) (mu : Mut (some u)) (h : ∀ od H', H' d = some (.frz od u) → (∀ b, b ≠ d → H' b = H b) → Q (.ref d) H') : rFrzE (.ref d) H Q := ⟨d, u, rfl, e, mu, fun od => h od _ upd_same fun b hb => upd_ne hb⟩
def rLcItems (g : TG) (tt : TT) (te : TE) (vs : List Nat) (σ : L2.St) (Q : VK) (x : V) (H1 : Hp) : Prop := ∃ d o kvs, x = .ref d ∧ H1 d = some (.frz o (.dK kvs)) ∧ rLcJ (Iti d o kvs) g tt te vs σ Q H1
theorem i_lcI0 {vs : List Nat} (h : td σ H (fun x H1 => rLcItems g tt te vs σ Q x H1)) : tLc (iItems td) g tt te vs σ H Q := h
theorem i_lcI {vs : List Nat} (e : H d = some (.frz o (.dK (dF zs f)))) (h : rLcJ (Iti d o (dF zs f)) g tt te vs σ Q H) : rLcItems g tt te vs σ Q (.ref d) H := ⟨d, o, _, rfl, e, h⟩
theorem lcItems {vs : List Nat} (Pv : Addr → Nat → List V → Hp → Prop) (e : H0 d = some (.frz o (.dK (dF zs f)))) (h0 : ∀ D H', H D = none → Same H H' → H' D = some (.lst []) → (∀ b, b ≠ D → H' b = H b) → Pv D 0 [] H')
    (hl : ∀ D i ys H1, Pv D i ys H1 → AtS H0 d H1)
    (hs : ∀ i z D ys T H1 H2, H D = none → zs[i]? = some z → H1 D = some (.lst ys) → Pv D i ys H1 → H1 T = none → Same H1 H2 → H2 T = some (.tup [.str z, f z]) → (∀ b, b ≠ T → H2 b = H1 b) →
      g (.ref T) (wipe σ vs) H2 fun σ2 H3 => wipe σ2 vs = wipe σ vs ∧ tt σ2 H3 fun b H4 => if b = true then te σ2 H4 fun y H5 => rLcE D (Pv D) i y H5 else LcS D (Pv D) (i + 1) H4)
    (hd : ∀ D ys H1, H D = none → H1 D = some (.lst ys) → Pv D zs.length ys H1 → Q (.ref D) H1) : rLcJ (Iti d o (dF zs f)) g tt te vs σ Q H := by
  intro D hD
  refine lc_it (walk_items (kvs := dF zs f)) (LcS D (Pv D)) ⟨[], upd_same, h0 D _ hD (fun b o e => by rw [upd_ne (ne_of_none e hD)]; exact e) upd_same (fun b hb => upd_ne hb)⟩ ?_ ?_ ?_
  · rintro i H' _ ⟨ys, _, p⟩
    exact hl D i ys H' p _ e
  · rintro i x H1 H2 hi ⟨ys, hD', p⟩ ⟨T, x1, x2, rfl, hT, rfl, e1, e2⟩
    obtain ⟨kv, hkv, rfl⟩ := Option.map_eq_some_iff.mp e1
    dsimp only at e2
    rw [hkv] at e2
    cases e2
    obtain ⟨z, hz, h1, h2⟩ := dF_get (k := kv.1) (v := kv.2) hkv
    rw [h1, h2]
    exact hs i z D ys T H1 _ hD hz hD' p hT (same_new hT) upd_same fun b hb => upd_ne hb
  · rintro H' ⟨ys, hD', p⟩
    rw [dF_len] at p
    exact hd D ys H' hD hD' p
end
/-- len of a dict, known or not -/
def rLenR : List V → Hp → VK → Prop := fun xs H Q => ∃ a kvs, xs = [V.ref a] ∧ Rd H a (.dK kvs) ∧ Q (.int (kvs.length : Nat)) H
theorem k_lenR {X : Cx} : CallR X (.builtin "len") rLenR := by
  intro pins s σ H xs us Q I r h
  obtain ⟨a, kvs, rfl, ha, q⟩ := h
  obtain rfl := Vals.ref1 r
  exact d_len I ha fun t s' I' => ⟨.int kvs.length, H, I', ⟨t, rfl⟩, q⟩
theorem k_eqDG {X : Cx} {K : PySem.W.Frag} (hK : X.K = K) (hu : X.A.units + 66 < cLine) : OpR X (compareOp .Eq) (rEqDG K false) := by subst hK; exact op_eqDG hu
theorem i_dclear {K : PySem.W.Frag} {H : Hp} {Q : VK} {a : Addr} {kvs : List (Key × V)} (e : H a = some (.dK kvs)) (h : ∀ H', H' a = some (.dK []) → (∀ b, b ≠ a → H' b = H b) → Q .non H') : tyV K "dict" (.ref a) H ∧ rDClear (.ref a) [] H Q :=
  ⟨.inr (.inr (.inl ⟨rfl, .inl ⟨kvs, e⟩⟩)), a, kvs, rfl, rfl, e, h _ upd_same fun b hb => upd_ne hb⟩
end Z

set_option Elab.async false
set_option linter.all false
set_option maxRecDepth 100000
set_option maxHeartbeats 1000000
/-! isinstance(e, c), e the caught error -/
namespace Z
open PySem PySem.Spec PyProof.Rows L2
def rIsXe (K : PySem.W.Frag) (a : Addr) (cls : Value) (d : Option Addr) : List V → Hp → VK → Prop := fun xs H Q => ∃ (D : Addr) (c : V) (u : Value) (b : Bool), xs = [.ref a, c] ∧ ClsV c u ∧ ExcC K D ∧ cls = .ref D ∧ (∀ dd, d = some dd → ∃ fs, H dd = some (.xd fs)) ∧ PySem.W.kitOne K (.ref D) u = some b ∧ Q (.bl b) H
theorem call_isXe {X : Cx} {a : Addr} {cls : Value} {d : Option Addr} {oe : Obj} {pn : List (Addr × Obj)} (hz : Zc cls d oe) (hf : ∃ vs, oe.data = .fields vs) : CallR (X.suite a ((a, oe) :: pn)) (.builtin "isinstance") (rIsXe X.K a cls d) := by
  intro pins s σ H xs us Q I r h
  obtain ⟨D, c, u, b, rfl, k, CD, rfl, hd, e, q⟩ := h
  obtain ⟨u1, u2, rfl, r1, r2⟩ := vals2 r
  have e2 := k.eq r2
  subst e2
  obtain rfl : u1 = Value.ref a := r1
  obtain ⟨hget, _⟩ := I.pin (a, oe) (List.mem_append.mpr (.inl List.mem_cons_self))
  obtain ⟨vs, hv⟩ := hf
  obtain ⟨h1, h2⟩ := hz
  have hcl : (PySem.W.clsIn X.K D).isSome = true := by
    obtain ⟨cd, hc, _⟩ := PySem.W.any_some CD.hd
    rw [hc]
    rfl
  have go : ∀ od, PySem.W.InstAt s.heap a oe D od → wpAny (model X.prog X.w) (X.suite a ((a, oe) :: pn)).A (call (.builtin "isinstance") [.ref a, u2]) (EP (X.suite a ((a, oe) :: pn)) pins σ Q) (X.suite a ((a, oe) :: pn)).xe s := fun od J =>
    PySem.W.kia_one (PySem.W.kitx_exc hcl CD.hg CD.hk CD.hs CD.ha CD.hn CD.ht CD.hm) I.kIn J e (fun z => nomatch z) fun tk => ⟨.bl b, H, I.tok tk, rfl, q⟩
  cases d with
  | none => exact go none ⟨hget, h1, by unfold PySem.W.notCls; rw [hv] <;> rfl, by rw [h2]; trivial⟩
  | some dd =>
    obtain ⟨fs, hdd⟩ := hd dd rfl
    have hx : ObjOk X.prog X.w H s.heap dd (.xd fs) := I.hok dd _ hdd
    obtain ⟨mA, hns, hr⟩ := hx
    obtain ⟨od, ho2, hl⟩ := lookIn_ns hns
    exact go (some od) ⟨hget, h1, by unfold PySem.W.notCls; rw [hv] <;> rfl, by rw [h2]; exact ho2⟩
theorem k_isXe {X : Cx} {K : PySem.W.Frag} {a : Addr} {cls : Value} {d : Option Addr} {oe : Obj} {pn : List (Addr × Obj)} (hK : X.K = K) (hz : Zc cls d oe) (hf : ∃ vs, oe.data = .fields vs) : CallR (X.suite a ((a, oe) :: pn)) (.builtin "isinstance") (rIsXe K a cls d) := by
  subst hK
  exact call_isXe hz hf
theorem i_isXe {K : PySem.W.Frag} {a D : Addr} {d : Option Addr} {c : V} {u : Value} {b : Bool} {H : Hp} {Q : VK} (k : ClsV c u) (X : ExcC K D) (hd : ∀ dd, d = some dd → ∃ fs, H dd = some (.xd fs)) (hk : PySem.W.kitOne K (.ref D) u = some b) (h : Q (.bl b) H) : rIsXe K a (.ref D) d [.ref a, c] H Q :=
  ⟨D, c, u, b, rfl, k, X, rfl, hd, hk, h⟩
end Z
namespace Z
open PySem PySem.Spec PyProof.Rows L2
/-- a statement that is never reached -/
theorem ps_no {X : Cx} {st : Stmt} : PS X st (fun _ _ _ => False) := ⟨fun _ _ _ _ _ _ h => h.elim⟩
end Z

set_option Elab.async false
set_option linter.all false
set_option maxRecDepth 100000
set_option maxHeartbeats 1000000
/-! dicts compared by !=, with an answer of either kind -/
namespace Z
open PySem PySem.Spec PyProof.Rows L2
section
variable {X : Cx}
theorem op_neDG (hu : X.A.units + 66 < cLine) : OpR X (compareOp .NotEq) (rEqDG X.K true) := by
  intro pins s σ H x y v u Q I rx ry h
  obtain ⟨a, b, ks, ls, f, g, rfl, rfl, ea, eb, hf, hg, q⟩ := h
  obtain rfl : v = Value.ref a := rx
  obtain rfl : u = Value.ref b := ry
  obtain ⟨_, ya, va, ra, da⟩ := dk_rd I.hok ea
  obtain ⟨_, yb, vb, rb, db⟩ := dk_rd I.hok eb
  refine PySem.W.keq_ne (knd := mixKind X.prog X.w) ya yb da db (by omega) (fun _ => dg_hits I (A := X.A) (by omega) rb hg ra hf) ⟨.bl _, H, I, ?_, q⟩
  show Value.bool _ = Value.bool _
  rw [← ra.length, ← rb.length]
  rfl
theorem k_neDG {K : PySem.W.Frag} (hK : X.K = K) (hu : X.A.units + 66 < cLine) : OpR X (compareOp .NotEq) (rEqDG K true) := by subst hK; exact op_neDG hu
end
end Z

set_option Elab.async false
set_option linter.all false
set_option maxRecDepth 100000
set_option maxHeartbeats 1000000
/-! an own object == a dict that is known -/
namespace Z
open PySem PySem.Spec PyProof.Rows L2
section
variable {X : Cx} {C f : Addr} {sp : Sp} {k j : Nat}
def rOwnCF (K : PySem.W.Frag) (C : Addr) (sp : Sp) : R2 := fun x y H Q => ∃ a dx fs b o kvs, x = .ref a ∧ H a = some (.ins C dx fs) ∧ y = .ref b ∧ H b = some (.frz o (.dK kvs)) ∧ PySem.W.notFirst K C (.type "dict") = true ∧
  sp [x, y] H Q (fun _ _ _ => False)
theorem op_eqOwnF (F : FnR X.prog X.w X.K X.mg X.base (L2.CX X.prog X.w) k f sp) (hr : Room k X.A) (S : Spc X.K C "__eq__" f) :
    OpR X (compareOp .Eq) (rOwnCF X.K C sp) := by
  intro pins s σ H x y v u Q I rx ry h
  obtain ⟨a, dx, fs, b, o, kvs, rfl, ea, rfl, eb, hn, h⟩ := h
  obtain rfl : v = Value.ref a := rx
  obtain rfl : u = Value.ref b := ry
  obtain ⟨ox, od, Ja⟩ := instAt I ea
  obtain ⟨m, fr⟩ := I.fr
  have hu := hr.units0
  have lk : PySem.W.Looks (model X.prog X.w) s.heap (typeOf (.ref b)) (.type "dict") := by
    obtain ⟨_, _, _, vs, _, o, es, ep, h1, h2, _⟩ := (show ObjOk X.prog X.w H s.heap b (.frz o (.dK kvs)) from I.hok b _ eb)
    intro A Q E s' k q
    have := wpAny_typeOf_ref (M := model X.prog X.w) (A := A) (E := E) (Q := Q) (s := s') (k _ _ h1) (by rw [h2.1]; exact q)
    exact this
  apply PySem.W.cmp_K (op := .Eq) hu fr I.ok.mod.kin Ja lk hn S.at_ S.fn
  exact cmpBack (runR (us := [.ref a, .ref b]) (vs := [.ref a, .ref b]) (E := EN) F hr passN I (.cons rfl (.cons rfl .nil)) h)
theorem z_eqOF (c : CalO X.prog X.w X.K X.mg X.base C "__eq__" k sp) (hr : Room j X.A) (hj : k ≤ j := by decide) : OpR X (compareOp .Eq) (rOwnCF X.K C sp) := by
  obtain ⟨f, S, sf, F⟩ := c
  exact op_eqOwnF F (hr.mono hj) S
end
end Z

set_option Elab.async false
set_option linter.all false
set_option maxRecDepth 100000
set_option maxHeartbeats 1000000
/-! xs[::2], xs[1::2]; a dict comprehension over zip -/
namespace Z
open PySem PySem.Spec PyProof.Rows L2
def evL {α : Type} : List α → List α
  | [] => []
  | [x] => [x]
  | x :: _ :: r => x :: evL r
theorem ev_pick {α : Type} : ∀ l : List α, ((List.range ((l.length + 1) / 2)).map fun k => 2 * k).filterMap (fun i => l[i]?) = evL l
  | [] => by simp [evL]
  | [x] => by simp [evL]
  | x :: y :: r => by
    have ih := ev_pick r
    have e : ((x :: y :: r).length + 1) / 2 = (r.length + 1) / 2 + 1 := by rw [List.length_cons, List.length_cons]; omega
    rw [e, List.range_succ_eq_map, List.map_cons, List.map_map]
    have h0 : (x :: y :: r)[2 * 0]? = some x := rfl
    rw [List.filterMap_cons_some h0]
    show _ = x :: evL r
    rw [← ih, List.filterMap_map, List.filterMap_map]
    congr 1
theorem ev_len {α : Type} : ∀ l : List α, (evL l).length = (l.length + 1) / 2
  | [] => by simp [evL]
  | [x] => by simp [evL]
  | x :: y :: r => by
    show (evL r).length + 1 = (r.length + 1 + 1 + 1) / 2
    rw [ev_len r]
    omega
theorem ev_map {α β : Type} (f : α → β) : ∀ l : List α, evL (l.map f) = (evL l).map f
  | [] => rfl
  | [x] => rfl
  | x :: y :: r => by
    show f x :: evL (r.map f) = f x :: (evL r).map f
    rw [ev_map f r]
theorem pick_even (its : List Value) : slicePick its.toArray none none (some 2) = (evL its).toArray := by
  unfold slicePick
  congr 1
  rw [← ev_pick its]
  have hb : sliceBounds none none (some 2) its.toArray.size = (0, (its.length : Int), 2) := by simp [sliceBounds]
  rw [hb]
  have hr : sliceRange 0 (its.length : Int) 2 = (List.range ((its.length + 1) / 2)).map fun k => 2 * k := by
    unfold sliceRange
    have hc : (if (2 : Int) > 0 then (if (0 : Int) < (its.length : Int) then ((its.length : Int) - 0 + 2 - 1) / 2 else 0) else (if (0 : Int) > (its.length : Int) then ((0 : Int) - (its.length : Int) - 2 - 1) / (-2) else 0)).toNat = (its.length + 1) / 2 := by
      rw [if_pos (by decide)]
      split <;> omega
    dsimp only
    rw [hc]
    refine List.map_congr_left fun k _ => ?_
    omega
  show (sliceRange 0 (its.length : Int) 2).filterMap _ = _
  rw [hr]
  congr 1
  funext i
  simp
theorem pick_odd (its : List Value) : slicePick its.toArray (some 1) none (some 2) = (evL (its.drop 1)).toArray := by
  unfold slicePick
  congr 1
  rw [← ev_pick (its.drop 1)]
  have hb : sliceBounds (some 1) none (some 2) its.toArray.size = (max 0 (min 1 (its.length : Int)), (its.length : Int), 2) := by simp [sliceBounds]
  rw [hb]
  have hr : sliceRange (max 0 (min 1 (its.length : Int))) (its.length : Int) 2 = (List.range (((its.drop 1).length + 1) / 2)).map fun k => 1 + 2 * k := by
    unfold sliceRange
    have hc : (if (2 : Int) > 0 then (if max 0 (min 1 (its.length : Int)) < (its.length : Int) then ((its.length : Int) - max 0 (min 1 (its.length : Int)) + 2 - 1) / 2 else 0) else (if max 0 (min 1 (its.length : Int)) > (its.length : Int) then (max 0 (min 1 (its.length : Int)) - (its.length : Int) - 2 - 1) / (-2) else 0)).toNat = ((its.drop 1).length + 1) / 2 := by
      rw [if_pos (by decide), List.length_drop]
      split <;> omega
    dsimp only
    rw [hc]
    refine List.map_congr_left fun k hk => ?_
    have := List.mem_range.mp hk
    rw [List.length_drop] at this
    omega
  show (sliceRange (max 0 (min 1 (its.length : Int))) (its.length : Int) 2).filterMap _ = _
  rw [hr, List.filterMap_map, List.filterMap_map]
  congr 1
  funext i
  simp [Nat.add_comm]
theorem vals_ev : ∀ {vs : List V} {us : List Value}, Vals vs us → Vals (evL vs) (evL us)
  | _, _, .nil => .nil
  | _, _, .cons h .nil => .cons h .nil
  | _, _, .cons h (.cons _ r) => .cons h (vals_ev r)
theorem vals_drop1 : ∀ {vs : List V} {us : List Value}, Vals vs us → Vals (vs.drop 1) (us.drop 1)
  | _, _, .nil => .nil
  | _, _, .cons _ r => r
section
variable {X : Cx}
def tEv (K : PySem.W.Frag) (j : Nat) (te : TE) : TE := fun σ H Q => te σ H fun x H1 => ∃ a xs, x = .ref a ∧ SqL K H1 a xs ∧ ∀ p, H1 p = none → Q (.ref p) (upd H1 p (.lst (evL (xs.drop j))))
theorem ev_core {e : Expr} {te : TE} {k : Nat} {p1 p3 pos : Pos} {el : Option Expr} {lo : Option Int} {j : Nat} (he : PE X e te) (hl : PO X el fun _ H Q => Q lo H)
    (pk : ∀ its : List Value, slicePick its.toArray lo none (some 2) = (evL (its.drop j)).toArray) (vd : ∀ {vs us}, Vals vs us → Vals (vs.drop j) (us.drop j))
    (hs : ∀ a b : Value, subscripted (.Slice el none (some (.Constant (.int 2) k p1)) p3) false a b = operate [a, b] (getItem a b) := by intros; with_unfolding_all rfl) :
    PE X (.Subscript e (.Slice el none (some (.Constant (.int 2) k p1)) p3) pos) (tEv X.K j te) := by
  refine ⟨fun pins s σ H Q I h => ?_⟩
  refine Subscript_ (thn (he.run pins s σ H _ I h) fun v s1 ⟨x, H1, I1, r1, q1⟩ => ?_)
  obtain ⟨a, xs, ex, hx, q⟩ := q1
  subst ex
  cases r1
  have hst : PO X (some (.Constant (.int 2) k p1)) (tPart (tC (.int 2))) := po_some pe_int
  refine wpAny_Slice (thn (hl.run pins s1 σ H1 (fun o H2 => o = lo ∧ H2 = H1) I1 ⟨rfl, rfl⟩) fun vl s2 ⟨l, H2, I2, pl, el, e2⟩ => ?_)
  subst el e2
  refine thn (po_none.run pins s2 σ H2 (fun o H3 => o = none ∧ H3 = H2) I2 ⟨rfl, rfl⟩) fun vu s3 ⟨u, H3, I3, pu, eu, e3⟩ => ?_
  subst eu e3
  refine thn (hst.run pins s3 σ H3 (fun o H4 => o = some 2 ∧ H4 = H3) I3 ⟨2, rfl, rfl, rfl⟩) fun vs s4 ⟨o, H4, I4, ps, eo, e4⟩ => ?_
  subst eo e4
  have I5 : Inv X pins σ H4 { s4 with heap := s4.heap.push { cls := .type "slice", data := .fields #[vl, vu, vs] } } := I4.kept (t' := s4.toks) fun b ob q => Heap.get?_push_of_some _ q
  obtain ⟨its, r, ht, hz⟩ := I5.list hx
  have hlen := r.length
  refine tail_any (ops := [.ref a, .ref s4.heap.objs.size]) ht.isList.typeIs (PySem.slot_list_getitem.lookup) ?_ (hs _ _)
  refine wpAny_getItem_list_slice ht.isList (Heap.IsSliceOf.new _ vl vu vs) pl pu ps (by decide) ?_ (by rw [List.size_toArray]; omega)
  rw [pk]
  refine ⟨.ref _, _, I5.laid (t' := s4.toks) (o := .lst (evL (xs.drop j))) (fun b ob q => Heap.get?_push_of_some _ q) (Nat.le_refl _) ?_, rfl, q _ (I5.hok.fresh (Nat.le_refl _))⟩
  exact ⟨by rw [ev_len, List.length_drop]; omega, _, 0, vals_ev (vd r), Heap.get?_push_size _ rfl⟩
theorem pe_ev {K : PySem.W.Frag} {e : Expr} {te : TE} {k : Nat} {p1 p3 pos : Pos} (hK : X.K = K) (he : PE X e te) : PE X (.Subscript e (.Slice none none (some (.Constant (.int 2) k p1)) p3) pos) (tEv K 0 te) := by
  subst hK
  exact ev_core he ⟨fun pins s σ H Q I h => by rw [evalPart_none]; exact wpAny_pure ⟨none, H, I, .none, h⟩⟩ pick_even fun h => h
theorem pe_od {K : PySem.W.Frag} {e : Expr} {te : TE} {k k2 : Nat} {p1 p2 p3 pos : Pos} (hK : X.K = K) (he : PE X e te) : PE X (.Subscript e (.Slice (some (.Constant (.int 1) k2 p2)) none (some (.Constant (.int 2) k p1)) p3) pos) (tEv K 1 te) := by
  subst hK
  exact ev_core he ⟨fun pins s σ H Q I h => (po_some (pe_int (X := X))).run pins s σ H Q I ⟨1, rfl, h⟩⟩ pick_odd vals_drop1
def rEv (K : PySem.W.Frag) (j : Nat) (x : V) (H1 : Hp) (Q : VK) : Prop := ∃ a xs, x = .ref a ∧ SqL K H1 a xs ∧ ∀ p, H1 p = none → Q (.ref p) (upd H1 p (.lst (evL (xs.drop j))))
theorem i_ev0 {K : PySem.W.Frag} {j : Nat} {te : TE} {σ : L2.St} {H : Hp} {Q : VK} (h : te σ H (fun x H1 => rEv K j x H1 Q)) : tEv K j te σ H Q := h
theorem i_ev {K : PySem.W.Frag} {j : Nat} {H : Hp} {Q : VK} {a : Addr} {zs : List Str} (e : SqL K H a (zs.map V.str)) (h : ∀ p H', H p = none → Same H H' → (∀ b, b ≠ p → H' b = H b) → H' p = some (.lst ((evL (zs.drop j)).map V.str)) → Q (.ref p) H') : rEv K j (.ref a) H Q :=
  ⟨a, _, rfl, e, fun p hp => h p _ hp (same_new hp) (fun b hb => upd_ne hb) (by rw [upd_same, ← List.map_drop, ev_map])⟩
end
end Z
namespace Z
open PySem PySem.Spec PyProof.Rows L2
section
variable {K : PySem.W.Frag} {g : TG} {tt : TT} {tk tv : TE} {σ : L2.St} {H H0 : Hp} {Q : VK}
/-- a dict comprehension over J -/
def rDcJ (J : It) (g : TG) (tt : TT) (tk tv : TE) (vs : List Nat) (σ : L2.St) (Q : VK) (H1 : Hp) : Prop := ∀ D, H1 D = none → ∃ W : Nat → Nat → Hp → Prop, (∃ m, W 0 m (upd H1 D (.dK []))) ∧ ∀ i m H, W i m H →
  (J.stop i H ∧ Q (.ref D) H) ∨ (J.go i H ∧ ∃ Nx : Hp → Prop, (∀ H', Nx H' → ∃ m', m' < m ∧ W (i + 1) m' H') ∧ ∀ x H', J.yld i H x H' → g x (wipe σ vs) H' fun σ2 H2 => wipe σ2 vs = wipe σ vs ∧ tt σ2 H2 fun b H3 =>
    if b = true then tk σ2 H3 fun y H4 => tv σ2 H4 fun z H5 => ∃ kvs k, y = kV k ∧ H5 D = some (.dK kvs) ∧ kvs.length < sizeLine ∧ Nx (upd H5 D (.dK (putK kvs k z))) else Nx H3)
def rDcZip (K : PySem.W.Frag) (g : TG) (tt : TT) (tk tv : TE) (vs : List Nat) (σ : L2.St) (Q : VK) (ws : List V) (H1 : Hp) : Prop := ∃ a b xs ys, ws = [.ref a, .ref b] ∧ SqL K H1 a xs ∧ SqL K H1 b ys ∧ rDcJ (Itz K a b) g tt tk tv vs σ Q H1
theorem i_dcZ0 {tr : TA} {vs : List Nat} (h : tr σ H (fun ws H1 => rDcZip K g tt tk tv vs σ Q ws H1)) : tDc (iZip K tr) g tt tk tv vs σ H Q := h
theorem i_dcZ {a b : Addr} {xs ys : List V} {vs : List Nat} (Pv : Addr → Nat → List (Key × V) → Hp → Prop) (ha : SqL K H0 a xs) (hb : SqL K H0 b ys) (hn : xs.length = ys.length) (s0 : Same H0 H) (h0 : ∀ D H', H D = none → Same H H' → H' D = some (.dK []) → (∀ b, b ≠ D → H' b = H b) → Pv D 0 [] H')
    (hl : ∀ D i ys H1, Pv D i ys H1 → Same H0 H1)
    (hs : ∀ i x y T D kvs H1 H2, H D = none → xs[i]? = some x → ys[i]? = some y → H1 D = some (.dK kvs) → Pv D i kvs H1 → H1 T = none → Same H1 H2 → H2 T = some (.tup [x, y]) → (∀ b, b ≠ T → H2 b = H1 b) → g (.ref T) (wipe σ vs) H2 fun σ2 H3 => wipe σ2 vs = wipe σ vs ∧ tt σ2 H3 fun b H4 => if b = true then tk σ2 H4 fun y H5 => tv σ2 H5 fun z H6 => rDcE D (Pv D) i y z H6 else DcS D (Pv D) (i + 1) H4)
    (hd : ∀ D kvs H1, H D = none → H1 D = some (.dK kvs) → Pv D xs.length kvs H1 → Q (.ref D) H1) : rDcZip K g tt tk tv vs σ Q [.ref a, .ref b] H := by
  have w := walk_zip (K := K) (a := a) (b := b) (xs := xs) (ys := ys) (n := xs.length) (by omega)
  refine ⟨a, b, xs, ys, rfl, s0.seq ha, s0.seq hb, fun D hD => ⟨fun i m H => m = xs.length - i ∧ i ≤ xs.length ∧ DcS D (Pv D) i H, ⟨xs.length, by simp, Nat.zero_le _, [], upd_same, h0 D _ hD (fun b o e => by rw [upd_ne (ne_of_none e hD)]; exact e) upd_same (fun b hb => upd_ne hb)⟩, ?_⟩⟩
  rintro i m H' ⟨rfl, hi, kvs, hD', p⟩
  have q := hl D i kvs H' p
  by_cases hlt : i < xs.length
  · refine .inr ⟨w.goes i H' hlt ⟨q.seq ha, q.seq hb⟩, DcS D (Pv D) (i + 1), fun H'' p' => ⟨xs.length - (i + 1), by omega, rfl, hlt, p'⟩, fun x H'' y => ?_⟩
    obtain ⟨T, x', z, rfl, hT, rfl, e1, e2⟩ := w.yields i H' x H'' hlt ⟨q.seq ha, q.seq hb⟩ y
    exact hs i x' z T D kvs H' _ hD e1 e2 hD' p hT (fun b o e => by rw [upd_ne (ne_of_none e hT)]; exact e) upd_same fun b hb => upd_ne hb
  · have e : i = xs.length := by omega
    subst e
    exact .inl ⟨w.stops H' ⟨q.seq ha, q.seq hb⟩, hd D kvs H' hD hD' p⟩
end
end Z
namespace Z
open PySem PySem.Spec PyProof.Rows L2
theorem k_slL {X : Cx} {K : PySem.W.Frag} (hK : X.K = K) : SlR X (rSlL K) := by subst hK; exact sl_list
end Z

set_option Elab.async false
set_option linter.all false
set_option maxRecDepth 100000
set_option maxHeartbeats 4000000
namespace Z
open PySem PySem.Spec PyProof.Rows L2

local macro_rules | `(tactic| walk_at "sm") => `(tactic| first | (with_reducible assumption) | ((with_reducible refine' IsR.mono ?s ?h); (case s => with_reducible assumption); (case h => walk_at "sm")) | ((with_reducible refine' Same.at ?s ?h); (case s => with_reducible assumption); (case h => walk_at "sm")) | ((with_reducible refine' Same.seq ?s ?h); (case s => with_reducible assumption); (case h => walk_at "sm")) | ((with_reducible refine' SqL.of ?h); (case h => walk_at "sm")))
local macro_rules | `(tactic| walk_at "cd") => `(tactic| first | assumption | exact cmulW (by assumption) (by assumption) | exact cmulW (ZR.Bd.n (by assumption)) (ZR.Bd.n (by assumption)) | exact cmulW (ZR.Bd.n (by assumption)) (ZR.Bd.d (by assumption)) | exact cmulW (ZR.Bd.d (by assumption)) (ZR.Bd.d (by assumption)) | exact cmulW (ZR.Bd.d (by assumption)) (ZR.Bd.n (by assumption)) | exact (by show (0 : Int) < _; decide) | exact .inr ⟨by decide, by decide⟩ | exact .inl ⟨by decide, by decide⟩ | exact ⟨by decide, by decide⟩ | exact ⟨by decide, by decide, by decide⟩)
local macro_rules | `(tactic| walk_at "r1") => `(tactic| first
  | (with_reducible first
  | refine i_seq ?_ | refine i_next ?_ | refine i_asg ?_ | refine i_gname (by with_unfolding_all rfl) ?_ | refine i_ret ?_ | refine i_retN ?_ | refine i_drop ?_ | refine i_ifs ?_ | refine i_test ?_ | refine i_B ?_
  | refine i_bl ?_ | refine i_bl' ?_ | refine i_and ?_ | refine i_or ?_ | refine i_not ?_ | refine i_andV ?_ | refine i_orV ?_ | refine i_notV ?_ | refine i_ifx ?_
  | refine i_tt ?_ | refine i_ff ?_ | refine i_nt ?_ | refine i_nf ?_
  | refine i_var (by with_unfolding_all rfl) ?_ | refine i_c ?_ | refine i_op ?_ | refine i_un ?_ | refine i_cons ?_ | refine i_nil ?_ | refine i_cb ?_ | refine i_call ?_ | refine i_lst0 ?_ | refine i_tup0 ?_
  | refine i_fld0 ?_ | refine i_put0 ?_ | refine i_meth ?_ | refine i_make ?_ | refine i_mkO ?_ | refine i_fmt ?_ | refine i_jsC ?_ | refine i_jsN ?_ | refine i_bits0 ?_ | refine i_bits ?_
  | refine i_lcR10 ?_ | refine i_enS0 ?_ | refine i_lzip ?_ | refine i_mkV ?_ | refine i_fmtSO ?_ | refine i_revA0 ?_ | refine i_truO0 ?_ | refine i_lcR20 ?_ | refine i_lc2R0 ?_ | refine i_forR20 ?_ | refine i_tvd ?_ | refine i_xat ?_ | refine i_fmtL ?_ | refine i_forA0 ?_ | refine i_enA0 ?_ | refine i_lcA0 ?_ | refine i_lc2A0 ?_ | refine i_dcA0 ?_ | refine i_dget0 ?_ | refine i_din0 ?_ | refine i_dput0 ?_ | refine i_tru0 ?_ | refine i_fmtR ?_ | refine i_bm0 ?_ | refine i_gn ?_ | refine i_xf ?_ | refine i_chain ?_ | refine i_sl ?_ | refine i_noPart ?_ | refine i_part ?_ | refine i_part1 ?_ | refine i_revL ?_ | refine i_lcS0 ?_ | refine i_tve ?_ | refine i_ost ?_ | refine i_forL0 ?_ | refine i_forT0 ?_ | refine i_forR0 ?_ | refine i_lcL0 ?_ | refine i_yes ?_ | refine i_gsub ?_ | refine i_par ?_ | refine i_par1 ?_ | refine i_gc ?_ | refine i_gn ?_ | refine i_bm ?_
  | refine i_dnin0 ?_ | refine i_forK0 ?_ | refine i_lcK0 ?_ | refine i_forO0 ?_ | refine i_lcO0 ?_ | refine i_forZ0 ?_ | refine i_dget20 ?_ | refine i_dpop0 ?_ | refine i_vals0 ?_ | refine i_frzE0 ?_ | refine i_lcI0 ?_ | refine i_ev0 ?_ | refine i_dcZ0 ?_
  | refine i_rI0 ?_ | refine i_rU ?_ | refine i_eqI ?_ | refine i_neI ?_ | refine i_eqB ?_ | refine i_neB ?_ | refine i_eqS ?_ | refine i_neS ?_ | refine i_gcd ?_)
  | ((with_reducible refine i_rI ?c ?_); (case c => walk_at "cd"))
  | walk_at "r2")
local macro_rules | `(tactic| walk_at "rd") => `(tactic| repeat walk_at "r1")
local macro_rules | `(tactic| walk_at "rb") => `(tactic| ((try dsimp only); repeat walk_at "r1"))

local macro_rules | `(tactic| walk_at "r2") => `(tactic| with_reducible first | refine i_top (by walk_at "sm") (by assumption) (by assumption) ?_ | refine i_bot (by walk_at "sm") (by assumption) (by assumption) ?_ | refine i_mkO ?_)
def top (i : Nat) : Stmt := PySem.Challenge.pw_onethrow_k24_whole_sent_and_mixed.main.body.getD i (.Pass ⟨0, 0, 0, 0⟩)
def GInt : V → Hp → Prop := fun v _ => ∃ n : Int, v = .int n ∧ ZR.Sz 1000 n
theorem i_fmtRSW {z : Str} {H : Hp} {Q : VK} (l : (reprText z).length ≤ 400000) (h : Q (.str (reprText z)) H) : rFmtR (.str z) H Q := .inl ⟨z, rfl, Nat.le_trans l (by rw [sizeLine_eq]; decide), h⟩
def RW (z : Str) : Prop := (reprText z).length ≤ 400000
def spAmW (K : PySem.W.Frag) (CU : Addr) : Sp := fun vs H Q E => vs.length = 2 ∧ ∃ (a b : Addr) (ks zs : List Str), vs = [.ref a, .ref b] ∧ SqA K H a (ks.map V.str) ∧ SqA K H b (zs.map V.str) ∧
  (∀ z, miss ks zs = some z → RW z ∧ EName CU z H E) ∧ (miss ks zs = none → ∀ H', Same H H' → Q .non H')
def GStW : V → Hp → Prop := fun v _ => ∃ z : Str, v = .str z ∧ RW z
open TL ZS in
def spDec : Sp := fun vs H Q _ => vs.length = 1 ∧ ∃ n : Int, vs = [.int n] ∧ n.natAbs < 10 ^ 64 ∧ ∀ H', Same H H' → Q (.str (ZS.T n)) H'
def strR (p : Rat) : Str := if p.den = 1 then ZS.T p.num else ZS.T p.num ++ ZS.slash ++ ZS.T (p.den : Int)
def spRStr (CR : Addr) : Sp := fun vs H Q _ => vs.length = 1 ∧ ∃ (a : Addr) (p : Rat), vs = [.ref a] ∧ IsR CR H a p ∧ p.num.natAbs < 10 ^ 30 ∧ p.den < 10 ^ 30 ∧ ∀ H', Same H H' → Q (.str (strR p)) H'
section
variable {CR CX : Addr} {H : Hp} {Q : VK} {E : XK} {z : Str}
theorem i_decT {n : Int} (hz : n.natAbs < 10 ^ 64) (h : ∀ H', Same H H' → Q (.str (ZS.T n)) H') : spDec [.int n] H Q E := ⟨rfl, n, rfl, hz, h⟩
end
abbrev s_decimal : Stmt := top 21
theorem sc_decimal : FnScope ["n", "blocks", "rest", "block", "text"] ["n"] (defScope s_decimal) := ⟨rfl, rfl, rfl, by decide +kernel, rfl, by decide +kernel, by decide +kernel⟩
theorem ok_decimal {P : Program} {w : World} {K : PySem.W.Frag} {mg : Str → Option Value} {base : Heap} {f : Addr} {fd : FuncData} (F : L2.Fun K "decimal" "decimal" s_decimal f fd)
    (C_b_abs : mg "abs" = none)
    (C_b_divmod : mg "divmod" = none)
    (C_b_str : mg "str" = none) :
    FnOk P w K mg base (L2.CX P w) 1 f fd ["n"] spDec := by
  refine fnOk_mk F sc_decimal (fun vs H Q E h => h.1) (fun cdv A outer s H vs Q E hr h => ?_)
  obtain ⟨_, n, rfl, hz, k⟩ := h
  refine ⟨_, pss_cons (ps_set (i := 1) sc_decimal.nd rfl (Or.inl rfl) (pe_lst pa_nil))
    (pss_cons (ps_set (i := 2) sc_decimal.nd rfl (Or.inl rfl) (pe_callB call_abs (by rfl) C_b_abs (by decide +kernel) (pa_cons (pv 0) pa_nil)))
    (pss_cons (ps_while (passes_of rfl) (pt_cmpR op_ge (pv 2) (pe_op op_pow pe_int pe_int) (nomark _)) (pss_cons (ps_asg (pe_callB call_divmodW (by rfl) C_b_divmod (by decide +kernel) (pa_cons (pv 2) (pa_cons (pe_op op_pow pe_int pe_int) pa_nil))) (k_tup (K := K) (n := 2) rfl rfl (pgs_cons (pg_name (i := 2) sc_decimal.nd rfl (Or.inl rfl)) (pgs_cons (pg_name (i := 3) sc_decimal.nd rfl (Or.inl rfl)) pgs_nil))))
    (pss_one (ps_expr (pe_bm PySem.F.plainAttrs_list PySem.F.slot_list_append PySem.F.type_list_append mt_append (pv 1) (pa_cons (pe_bm PySem.F.plainAttrs_str PySem.F.slot_str_zfill PySem.F.type_str_zfill mt_zfill (pe_callTy call_str_int (by rfl) C_b_str (by decide +kernel) (pa_cons (pv 3) pa_nil)) (pa_cons pe_int pa_nil)) pa_nil))))))
    (pss_cons (ps_expr (pe_bm PySem.F.plainAttrs_list PySem.F.slot_list_append PySem.F.type_list_append mt_append (pv 1) (pa_cons (pe_callTy call_str_int (by rfl) C_b_str (by decide +kernel) (pa_cons (pv 2) pa_nil)) pa_nil)))
    (pss_cons (ps_set (i := 4) sc_decimal.nd rfl (Or.inl rfl) (pe_bm PySem.F.plainAttrs_str PySem.F.slot_str_join PySem.F.type_str_join mt_join pe_str (pa_cons (pe_revL (pv 1)) pa_nil)))
    (pss_one (ps_ret (pe_ifExp (pt_cmpR op_lt (pv 0) pe_int (nomark _)) (pe_joined (PJ.cons pe_str (PJ.cons (pe_fmt (pv 4)) PJ.nil))) (pv 4)))))))), ?_⟩
  try dsimp only [cxOf]
  walk_at "rd"
  refine i_lst1 (Nat.le_of_ble_eq_true rfl) fun p H1 hp s1 e1 ho1 => ?_
  walk_at "rd"
  refine ⟨n, rfl, ?_⟩
  walk_at "rd"
  have eabs : (if n < 0 then -n else n) = ((n.natAbs : Nat) : Int) := by split <;> omega
  rw [eabs]
  refine while_by (fun σ H' => σ = [some (.int n), some (.ref p), some (.int ((n.natAbs : Nat) : Int)), none, none] ∧ H' = H1) (fun _ _ => 0) ⟨rfl, rfl⟩ ?_ ?_
  · rintro σ H2 ⟨rfl, rfl⟩
    walk_at "rd"
    rw [decide_eq_false (show ¬ (10 : Int) ^ Int.toNat 64 ≤ ((n.natAbs : Nat) : Int) by
      have : (10 : Int) ^ Int.toNat 64 = ((10 ^ 64 : Nat) : Int) := by decide +kernel
      rw [this]
      omega)]
    walk_at "rd"
    refine ⟨tyL e1, ?_⟩
    walk_at "rd"
    refine ⟨_, rfl, ?_, ?_⟩
    · exact PySem.Flt.log2_lt_of (by decide) (show ((n.natAbs : Nat) : Int).natAbs < 2 ^ 1920 from Nat.lt_of_lt_of_le hz (by decide +kernel))
    walk_at "rd"
    refine i_app e1 (by decide) fun H3 e3 ho3 => ?_
    walk_at "rd"
    refine ⟨rfl, ?_⟩
    walk_at "rd"
    refine i_revL1 (xs := [V.str (ZS.T ((n.natAbs : Nat) : Int))]) (SqL.of e3) fun q H4 hq s4 e4 ho4 => ?_
    walk_at "rd"
    have hl : (ZS.T ((n.natAbs : Nat) : Int)).length ≤ 64 := by
      rw [TL.len_tl, ZS.tl_pos]
      exact TL.numL_len (by decide) hz
    refine ⟨Str.ofString "", q, [ZS.T ((n.natAbs : Nat) : Int)], rfl, rfl, .inl (SqL.of e4), ?_, ?_⟩
    · show ((ZS.T ((n.natAbs : Nat) : Int)).length + 0) + 1 * _ ≤ _
      have : (Str.ofString "").length = 0 := by decide +kernel
      rw [this]
      omega
    rw [ZS.join1]
    walk_at "rb"
    have s24 : Same H H4 := by
      intro b o e
      have nb : b ≠ p := ne_of_none e hp
      exact s4 _ _ ((ho3 b nb).trans (s1 _ _ e))
    refine i_dec (fun hn => ?_) (fun hn => ?_)
    · walk_at "rd"
      refine i_js1 (by decide +kernel) ?_
      walk_at "rd"
      refine i_fmtS (Nat.le_trans hl (by decide)) ?_
      refine i_js1 ?_ ?_
      · rw [Str.length_append, Str.length_append]
        have e : (Str.ofString "-").length = 1 := by decide +kernel
        have e0 : Str.empty.length = 0 := by decide +kernel
        rw [e, e0, sizeLine_eq]
        omega
      walk_at "rd"
      have en : ((n.natAbs : Nat) : Int) = -n := by omega
      have ee : Str.empty ++ Str.ofString "-" ++ ZS.T ((n.natAbs : Nat) : Int) = ZS.T n := by
        rw [en, ← ZS.T_neg hn]
        refine TL.ext_tl ?_
        rw [TL.tl_append, TL.tl_append, TL.tl_append]
        rfl
      rw [ee]
      exact k H4 s24
    · walk_at "rd"
      have en : ((n.natAbs : Nat) : Int) = n := by omega
      rw [en]
      exact k H4 s24
  · intro σ H Q Q' kk h
    obtain ⟨y, e, q⟩ := h
    refine ⟨y, e, ?_⟩
    obtain ⟨i, j, ei, ej, cc, q⟩ := q
    refine ⟨i, j, ei, ej, cc, ?_⟩
    obtain ⟨i, j, ei, ej, q⟩ := q
    refine ⟨i, j, ei, ej, ?_⟩
    obtain ⟨c, ec, q⟩ := q
    exact ⟨c, ec, kk _ _ q⟩
abbrev s_Ratio___str__ : Stmt := inClass (top 23) 11
theorem sc_Ratio___str__ : FnScope ["self"] ["self"] (defScope s_Ratio___str__) := ⟨rfl, rfl, rfl, by decide +kernel, rfl, by decide +kernel, by decide +kernel⟩
theorem ok_Ratio___str__ {P : Program} {w : World} {K : PySem.W.Frag} {mg : Str → Option Value} {base : Heap} {CR : Addr} {f : Addr} {fd : FuncData} (F : L2.Fun K "__str__" "Ratio.__str__" s_Ratio___str__ f fd)
    (C_c_Ratio : ClO K CR)
    (C_f_decimal : Cal P w K mg base "decimal" 1 spDec)
    (C_na_Ratio_bottom : NoAttr K CR "bottom")
    (C_na_Ratio_top : NoAttr K CR "top") :
    FnOk P w K mg base (L2.CX P w) 2 f fd ["self"] (spRStr CR) := by
  refine fnOk_mk F sc_Ratio___str__ (fun vs H Q E h => h.1) (fun cdv A outer s H vs Q E hr h => ?_)
  obtain ⟨_, a, p, rfl, ha, hn, hd, k⟩ := h
  have b64 : ∀ {m : Nat}, m < 10 ^ 30 → m < 10 ^ 64 := fun h => Nat.lt_of_lt_of_le h (by decide +kernel)
  have hdi : ((p.den : Int)).natAbs < 10 ^ 30 := hd
  refine ⟨_, pss_cons (ps_if (pt_cmpR op_eq (pe_fld (pv 0) rfl) pe_int (nomark _)) (pss_one (ps_ret (pe_joined1 (pe_fmt (z_callC C_f_decimal hr passN (pa_cons (pe_fld (pv 0) rfl) pa_nil)))))) (pss_nil))
    (pss_one (ps_ret (pe_joined (PJ.cons (pe_fmt (z_callC C_f_decimal hr passN (pa_cons (pe_fld (pv 0) rfl) pa_nil))) (PJ.cons pe_str (PJ.cons (pe_fmt (z_callC C_f_decimal hr passN (pa_cons (pe_fld (pv 0) rfl) pa_nil))) PJ.nil)))))), ?_⟩
  try dsimp only [cxOf]
  walk_at "rd"
  refine i_dec (fun e => ?_) (fun e => ?_)
  · walk_at "rd"
    refine i_decT (b64 hn) fun H1 s1 => ?_
    refine i_fmtS (Nat.le_trans (ZS.T_len hn) (by decide)) ?_
    have e1 : strR p = ZS.T p.num := by
      unfold strR
      rw [if_pos (by omega)]
    rw [← e1]
    exact k H1 s1
  · walk_at "rd"
    refine i_decT (b64 hn) fun H1 s1 => ?_
    refine i_fmtS (Nat.le_trans (ZS.T_len hn) (by decide)) ?_
    have h1 := ZS.T_len hn
    have h2 := ZS.T_len hdi
    have e0 : Str.empty.length = 0 := by decide +kernel
    have es : (Str.ofString "/").length = 1 := by decide +kernel
    refine i_js1 ?_ ?_
    · rw [Str.length_append, e0, sizeLine_eq]
      omega
    walk_at "rd"
    refine i_js1 ?_ ?_
    · rw [Str.length_append, Str.length_append, e0, es, sizeLine_eq]
      omega
    walk_at "rd"
    refine i_decT (b64 hdi) fun H2 s2 => ?_
    refine i_fmtS (Nat.le_trans h2 (by decide)) ?_
    refine i_js1 ?_ ?_
    · rw [Str.length_append, Str.length_append, Str.length_append, e0, es, sizeLine_eq]
      omega
    walk_at "rd"
    have e1 : strR p = Str.empty ++ ZS.T p.num ++ Str.ofString "/" ++ ZS.T (p.den : Int) := by
      unfold strR
      rw [if_neg (by omega)]
      refine TL.ext_tl ?_
      rw [TL.tl_append, TL.tl_append, TL.tl_append, TL.tl_append, TL.tl_append]
      rfl
    rw [← e1]
    exact k H2 (s1.trans s2)
def spShownR (CR : Addr) : Sp := fun vs H Q _ => vs.length = 1 ∧ ∃ (a : Addr) (p : Rat), vs = [.ref a] ∧ IsR CR H a p ∧ p.num.natAbs < 10 ^ 30 ∧ p.den < 10 ^ 30 ∧ ∀ (y : Str) H', Same H H' → y.length ≤ 200 → Q (.str y) H'
def GRat (CR : Addr) : V → Hp → Prop := fun v H => ∃ (a : Addr) (p : Rat), v = .ref a ∧ IsR CR H a p ∧ p.num.natAbs < 10 ^ 30 ∧ p.den < 10 ^ 30
theorem strR_len {p : Rat} (h : p.num.natAbs < 10 ^ 30) (g : p.den < 10 ^ 30) : (strR p).length ≤ 200 := by
  have h1 := ZS.T_len h
  have h2 := ZS.T_len (n := (p.den : Int)) (by exact g)
  have e : ZS.slash.length = 1 := by decide +kernel
  unfold strR
  split
  · omega
  · rw [Str.length_append, Str.length_append, e]
    omega
def spShownA (CR : Addr) : Sp := fun vs H Q _ => vs.length = 1 ∧ ((∃ n : Int, vs = [.int n] ∧ ZR.Sz 1000 n ∧ ∀ y : Str, y.length ≤ 2000 → Q (.str y) H) ∨ ∃ (a : Addr) (p : Rat), vs = [.ref a] ∧ IsR CR H a p ∧ p.num.natAbs < 10 ^ 30 ∧ p.den < 10 ^ 30 ∧ ∀ (y : Str) H', Same H H' → y.length ≤ 2000 → Q (.str y) H')
def GNum (CR : Addr) : V → Hp → Prop := fun v H => GInt v H ∨ GRat CR v H
theorem i_shownA {CR : Addr} {v : V} {H : Hp} {Q : VK} {E : XK} (g : GNum CR v H) (h : ∀ (y : Str) H', Same H H' → y.length ≤ 2000 → Q (.str y) H') : spShownA CR [v] H Q E := by
  refine ⟨rfl, ?_⟩
  rcases g with ⟨n, rfl, hz⟩ | ⟨a, p, rfl, ha, hn, hd⟩
  · exact .inl ⟨n, rfl, hz, fun y hy => h y H (Same.refl _) hy⟩
  · exact .inr ⟨a, p, rfl, ha, hn, hd, h⟩
abbrev s__shown : Stmt := top 3
theorem sc__shown : FnScope ["n"] ["n"] (defScope s__shown) := ⟨rfl, rfl, rfl, by decide +kernel, rfl, by decide +kernel, by decide +kernel⟩
theorem ok__shown {P : Program} {w : World} {K : PySem.W.Frag} {mg : Str → Option Value} {base : Heap} {CR : Addr} {f : Addr} {fd : FuncData} (F : L2.Fun K "_shown" "_shown" s__shown f fd)
    (C_b_int : mg "int" = none)
    (C_b_isinstance : mg "isinstance" = none)
    (C_b_str : mg "str" = none)
    (C_c_Ratio : ClO K CR)
    (C_ki_Ratio_int : PySem.W.kitOne K (.ref CR) (.type "int") = some false)
    (C_na_Ratio_bottom : NoAttr K CR "bottom")
    (C_na_Ratio_top : NoAttr K CR "top")
    (C_o_Ratio_str : CalO P w K mg base CR "__str__" 2 (spRStr CR)) :
    FnOk P w K mg base (L2.CX P w) 5 f fd ["n"] (spShownA CR) := by
  refine fnOk_mk F sc__shown (fun vs H Q E h => h.1) (fun cdv A outer s H vs Q E hr h => ?_)
  obtain ⟨_, h⟩ := h
  rcases h with ⟨n, rfl, hz, k⟩ | ⟨a, p, rfl, ha, hn, hd, k⟩
  · refine ⟨_, pss_cons (ps_if (PW.pt (pw_and (pt_val (pe_callB call_isi (by rfl) C_b_isinstance (by decide +kernel) (pa_cons (pv 0) (pa_cons ((pe_bltn (v := .ty "int") rfl C_b_int (by decide +kernel) rfl)) pa_nil)))) (pw_and1 (pt_cmpR op_gt (pe_bits (pv 0)) pe_int (nomark _))))) (pss_one (ps_ret pe_str)) (pss_nil))
    (pss_one (ps_ret (pe_callTy call_str_int (by rfl) C_b_str (by decide +kernel) (pa_cons (pv 0) pa_nil)))), ?_⟩
    try dsimp only [cxOf]
    walk_at "rd"
    refine i_isiT (tyInt n) (b := true) (kit_ty (by decide +kernel)) ?_
    walk_at "rd"
    refine i_dec (fun h => absurd h (bits_small hz)) fun _ => ?_
    walk_at "rd"
    exact ⟨n, rfl, PySem.Flt.log2_lt_of (by decide) (hz.mono (by decide)), k _ (Nat.le_trans (text_small (hz.mono (by decide))) (by decide))⟩
  · obtain ⟨dx, e0⟩ := id ha
    refine ⟨_, pss_cons (ps_if (PW.pt (pw_and (pt_val (pe_callB call_isi (by rfl) C_b_isinstance (by decide +kernel) (pa_cons (pv 0) (pa_cons ((pe_bltn (v := .ty "int") rfl C_b_int (by decide +kernel) rfl)) pa_nil)))) (pw_and1 (pt_cmpR op_gt (pe_bits (pv 0)) pe_int (nomark _))))) (pss_one (ps_ret pe_str)) (pss_nil))
    (pss_one (ps_ret (pe_callTy (z_strO C_o_Ratio_str hr) (by rfl) C_b_str (by decide +kernel) (pa_cons (pv 0) pa_nil)))), ?_⟩
    try dsimp only [cxOf]
    walk_at "rd"
    refine i_isiT (C_c_Ratio.ty e0) (b := false) C_ki_Ratio_int ?_
    walk_at "rd"
    exact ⟨a, dx, _, rfl, e0, rfl, a, p, rfl, ha, hn, hd, fun H' s => ⟨_, rfl, k _ H' s (Nat.le_trans (strR_len hn hd) (by decide))⟩⟩
abbrev s_BadNumber___init__ : Stmt := inClass (top 5) 0
theorem sc_BadNumber___init__ : FnScope ["self", "n"] ["self", "n"] (defScope s_BadNumber___init__) := ⟨rfl, rfl, rfl, by decide +kernel, rfl, by decide +kernel, by decide +kernel⟩
theorem ok_BadNumber___init__ {P : Program} {w : World} {K : PySem.W.Frag} {mg : Str → Option Value} {base : Heap} {CB CR : Addr} {f : Addr} {fd : FuncData} (F : L2.Fun K "__init__" "BadNumber.__init__" s_BadNumber___init__ f fd)
    (C_f_shown : Cal P w K mg base "_shown" 5 (spShownA CR))
    (C_ox_BadNumber : OexC K CB)
    (C_t_ThrowError : CalT K mg "ThrowError")
    (C_xn_BadNumber_n : PySem.W.findIn K (.ref CB) "n" = some none) :
    FnOk P w K mg base (L2.CX P w) 6 f fd ["self", "n"] (spX1 K CB "n" (GNum CR)) := by
  refine fnOk_mk F sc_BadNumber___init__ (fun vs H Q E h => h.1) (fun cdv A outer s H vs Q E hr h => ?_)
  obtain ⟨_, a, v, rfl, ha, g, k⟩ := h
  refine ⟨_, pss_cons (ps_expr (z_tinit (by rfl) C_t_ThrowError (pa_cons (pv 0) (pa_cons (pe_joined (PJ.cons pe_str (PJ.cons (pe_fmt (z_callC C_f_shown hr passN (pa_cons (pv 1) pa_nil))) PJ.nil))) pa_nil))))
    (pss_one (ps_ost (pv 0) (pv 1))), ?_⟩
  try dsimp only [cxOf]
  walk_at "rd"
  refine i_js1 (by decide +kernel) ?_
  walk_at "rd"
  refine i_shownA g fun y H1 s1 hy => ?_
  refine i_fmtS (Nat.le_trans hy (by decide)) ?_
  refine i_js1 ?_ ?_
  · rw [Str.length_append, Str.length_append]
    have e : (Str.ofString "bad number: ").length = 12 := by decide +kernel
    have e0 : Str.empty.length = 0 := by decide +kernel
    rw [e, e0, sizeLine_eq]
    omega
  walk_at "rd"
  refine i_tve1 C_ox_BadNumber (s1 _ _ ha) (by show 1 ≤ 1000; decide) ?_
  walk_at "rd"
  refine i_ost1 C_ox_BadNumber C_xn_BadNumber_n (s1 _ _ ha) fun dx hd' hn' => ?_
  refine k dx H1 ?_ hn' s1 hd'
  cases z : H dx with
  | none => rfl
  | some o => rw [s1 _ _ z] at hd'; cases hd'
abbrev s_BadText___init__ : Stmt := inClass (top 6) 0
theorem sc_BadText___init__ : FnScope ["self", "at"] ["self", "at"] (defScope s_BadText___init__) := ⟨rfl, rfl, rfl, by decide +kernel, rfl, by decide +kernel, by decide +kernel⟩
theorem ok_BadText___init__ {P : Program} {w : World} {K : PySem.W.Frag} {mg : Str → Option Value} {base : Heap} {CR CY : Addr} {f : Addr} {fd : FuncData} (F : L2.Fun K "__init__" "BadText.__init__" s_BadText___init__ f fd)
    (C_f_shown : Cal P w K mg base "_shown" 5 (spShownA CR))
    (C_ox_BadText : OexC K CY)
    (C_t_ThrowError : CalT K mg "ThrowError")
    (C_xn_BadText_at : PySem.W.findIn K (.ref CY) "at" = some none) :
    FnOk P w K mg base (L2.CX P w) 6 f fd ["self", "at"] (spX1 K CY "at" (GNum CR)) := by
  refine fnOk_mk F sc_BadText___init__ (fun vs H Q E h => h.1) (fun cdv A outer s H vs Q E hr h => ?_)
  obtain ⟨_, a, v, rfl, ha, g, k⟩ := h
  refine ⟨_, pss_cons (ps_expr (z_tinit (by rfl) C_t_ThrowError (pa_cons (pv 0) (pa_cons (pe_joined (PJ.cons pe_str (PJ.cons (pe_fmt (z_callC C_f_shown hr passN (pa_cons (pv 1) pa_nil))) PJ.nil))) pa_nil))))
    (pss_one (ps_ost (pv 0) (pv 1))), ?_⟩
  try dsimp only [cxOf]
  walk_at "rd"
  refine i_js1 (by decide +kernel) ?_
  walk_at "rd"
  refine i_shownA g fun y H1 s1 hy => ?_
  refine i_fmtS (Nat.le_trans hy (by decide)) ?_
  refine i_js1 ?_ ?_
  · rw [Str.length_append, Str.length_append]
    have e : (Str.ofString "bad text at ").length = 12 := by decide +kernel
    have e0 : Str.empty.length = 0 := by decide +kernel
    rw [e, e0, sizeLine_eq]
    omega
  walk_at "rd"
  refine i_tve1 C_ox_BadText (s1 _ _ ha) (by show 1 ≤ 1000; decide) ?_
  walk_at "rd"
  refine i_ost1 C_ox_BadText C_xn_BadText_at (s1 _ _ ha) fun dx hd' hn' => ?_
  refine k dx H1 ?_ hn' s1 hd'
  cases z : H dx with
  | none => rfl
  | some o => rw [s1 _ _ z] at hd'; cases hd'
abbrev s_DuplicateName___init__ : Stmt := inClass (top 8) 0
theorem sc_DuplicateName___init__ : FnScope ["self", "name"] ["self", "name"] (defScope s_DuplicateName___init__) := ⟨rfl, rfl, rfl, by decide +kernel, rfl, by decide +kernel, by decide +kernel⟩
theorem ok_DuplicateName___init__ {P : Program} {w : World} {K : PySem.W.Frag} {mg : Str → Option Value} {base : Heap} {CD : Addr} {f : Addr} {fd : FuncData} (F : L2.Fun K "__init__" "DuplicateName.__init__" s_DuplicateName___init__ f fd)
    (C_ox_DuplicateName : OexC K CD)
    (C_t_ThrowError : CalT K mg "ThrowError")
    (C_xn_DuplicateName_name : PySem.W.findIn K (.ref CD) "name" = some none) :
    FnOk P w K mg base (L2.CX P w) 1 f fd ["self", "name"] (spX1 K CD "name" GStW) := by
  refine fnOk_mk F sc_DuplicateName___init__ (fun vs H Q E h => h.1) (fun cdv A outer s H vs Q E hr h => ?_)
  obtain ⟨_, a, v, rfl, ha, g, k⟩ := h
  obtain ⟨z, rfl, hz⟩ := g
  refine ⟨_, pss_cons (ps_expr (z_tinit (by rfl) C_t_ThrowError (pa_cons (pv 0) (pa_cons (pe_joined (PJ.cons pe_str (PJ.cons (pe_fmtR (pv 1)) PJ.nil))) pa_nil))))
    (pss_one (ps_ost (pv 0) (pv 1))), ?_⟩
  try dsimp only [cxOf]
  walk_at "rd"
  refine i_js1 (by decide +kernel) ?_
  walk_at "rd"
  refine i_fmtRSW hz ?_
  refine i_js1 ?_ ?_
  · rw [Str.length_append, Str.length_append]
    have e : (Str.ofString "name comes again: ").length = 18 := by decide +kernel
    have e0 : Str.empty.length = 0 := by decide +kernel
    have hz' : (reprText z).length ≤ 400000 := hz
    rw [e, e0, sizeLine_eq]
    omega
  walk_at "rd"
  refine i_tve1 C_ox_DuplicateName ha (by show 1 ≤ 1000; decide) ?_
  walk_at "rd"
  refine i_ost1 C_ox_DuplicateName C_xn_DuplicateName_name ha fun dx hd hn => ?_
  exact k dx H hd hn (Same.refl _) hd
abbrev s_BadShares___init__ : Stmt := inClass (top 10) 0
theorem sc_BadShares___init__ : FnScope ["self", "total"] ["self", "total"] (defScope s_BadShares___init__) := ⟨rfl, rfl, rfl, by decide +kernel, rfl, by decide +kernel, by decide +kernel⟩
theorem ok_BadShares___init__ {P : Program} {w : World} {K : PySem.W.Frag} {mg : Str → Option Value} {base : Heap} {CR CX : Addr} {f : Addr} {fd : FuncData} (F : L2.Fun K "__init__" "BadShares.__init__" s_BadShares___init__ f fd)
    (C_f_shown : Cal P w K mg base "_shown" 5 (spShownA CR))
    (C_ox_BadShares : OexC K CX)
    (C_t_ThrowError : CalT K mg "ThrowError")
    (C_xn_BadShares_total : PySem.W.findIn K (.ref CX) "total" = some none) :
    FnOk P w K mg base (L2.CX P w) 6 f fd ["self", "total"] (spX1 K CX "total" (GNum CR)) := by
  refine fnOk_mk F sc_BadShares___init__ (fun vs H Q E h => h.1) (fun cdv A outer s H vs Q E hr h => ?_)
  obtain ⟨_, a, v, rfl, ha, g, k⟩ := h
  refine ⟨_, pss_cons (ps_expr (z_tinit (by rfl) C_t_ThrowError (pa_cons (pv 0) (pa_cons (pe_joined (PJ.cons pe_str (PJ.cons (pe_fmt (z_callC C_f_shown hr passN (pa_cons (pv 1) pa_nil))) PJ.nil))) pa_nil))))
    (pss_one (ps_ost (pv 0) (pv 1))), ?_⟩
  try dsimp only [cxOf]
  walk_at "rd"
  refine i_js1 (by decide +kernel) ?_
  walk_at "rd"
  refine i_shownA g fun y H1 s1 hy => ?_
  refine i_fmtS (Nat.le_trans hy (by decide)) ?_
  refine i_js1 ?_ ?_
  · rw [Str.length_append, Str.length_append]
    have e : (Str.ofString "bad sum of shares: ").length = 19 := by decide +kernel
    have e0 : Str.empty.length = 0 := by decide +kernel
    rw [e, e0, sizeLine_eq]
    omega
  walk_at "rd"
  refine i_tve1 C_ox_BadShares (s1 _ _ ha) (by show 1 ≤ 1000; decide) ?_
  walk_at "rd"
  refine i_ost1 C_ox_BadShares C_xn_BadShares_total (s1 _ _ ha) fun dx hd' hn' => ?_
  refine k dx H1 ?_ hn' s1 hd'
  cases z : H dx with
  | none => rfl
  | some o => rw [s1 _ _ z] at hd'; cases hd'
abbrev s_BadName___init__ : Stmt := inClass (top 7) 0
theorem sc_BadName___init__ : FnScope ["self", "name"] ["self", "name"] (defScope s_BadName___init__) := ⟨rfl, rfl, rfl, by decide +kernel, rfl, by decide +kernel, by decide +kernel⟩
theorem ok_BadName___init__ {P : Program} {w : World} {K : PySem.W.Frag} {mg : Str → Option Value} {base : Heap} {CN : Addr} {f : Addr} {fd : FuncData} (F : L2.Fun K "__init__" "BadName.__init__" s_BadName___init__ f fd)
    (C_ox_BadName : OexC K CN)
    (C_t_ThrowError : CalT K mg "ThrowError")
    (C_xn_BadName_name : PySem.W.findIn K (.ref CN) "name" = some none) :
    FnOk P w K mg base (L2.CX P w) 1 f fd ["self", "name"] (spX1 K CN "name" GStW) := by
  refine fnOk_mk F sc_BadName___init__ (fun vs H Q E h => h.1) (fun cdv A outer s H vs Q E hr h => ?_)
  obtain ⟨_, a, v, rfl, ha, g, k⟩ := h
  obtain ⟨z, rfl, hz⟩ := g
  refine ⟨_, pss_cons (ps_expr (z_tinit (by rfl) C_t_ThrowError (pa_cons (pv 0) (pa_cons (pe_joined (PJ.cons pe_str (PJ.cons (pe_fmtR (pv 1)) PJ.nil))) pa_nil))))
    (pss_one (ps_ost (pv 0) (pv 1))), ?_⟩
  try dsimp only [cxOf]
  walk_at "rd"
  refine i_js1 (by decide +kernel) ?_
  walk_at "rd"
  refine i_fmtRSW hz ?_
  refine i_js1 ?_ ?_
  · rw [Str.length_append, Str.length_append]
    have e : (Str.ofString "bad name: ").length = 10 := by decide +kernel
    have e0 : Str.empty.length = 0 := by decide +kernel
    have hz' : (reprText z).length ≤ 400000 := hz
    rw [e, e0, sizeLine_eq]
    omega
  walk_at "rd"
  refine i_tve1 C_ox_BadName ha (by show 1 ≤ 1000; decide) ?_
  walk_at "rd"
  refine i_ost1 C_ox_BadName C_xn_BadName_name ha fun dx hd hn => ?_
  exact k dx H hd hn (Same.refl _) hd
abbrev s_UnknownName___init__ : Stmt := inClass (top 9) 0
theorem sc_UnknownName___init__ : FnScope ["self", "name"] ["self", "name"] (defScope s_UnknownName___init__) := ⟨rfl, rfl, rfl, by decide +kernel, rfl, by decide +kernel, by decide +kernel⟩
theorem ok_UnknownName___init__ {P : Program} {w : World} {K : PySem.W.Frag} {mg : Str → Option Value} {base : Heap} {CU : Addr} {f : Addr} {fd : FuncData} (F : L2.Fun K "__init__" "UnknownName.__init__" s_UnknownName___init__ f fd)
    (C_ox_UnknownName : OexC K CU)
    (C_t_ThrowError : CalT K mg "ThrowError")
    (C_xn_UnknownName_name : PySem.W.findIn K (.ref CU) "name" = some none) :
    FnOk P w K mg base (L2.CX P w) 1 f fd ["self", "name"] (spX1 K CU "name" GStW) := by
  refine fnOk_mk F sc_UnknownName___init__ (fun vs H Q E h => h.1) (fun cdv A outer s H vs Q E hr h => ?_)
  obtain ⟨_, a, v, rfl, ha, g, k⟩ := h
  obtain ⟨z, rfl, hz⟩ := g
  refine ⟨_, pss_cons (ps_expr (z_tinit (by rfl) C_t_ThrowError (pa_cons (pv 0) (pa_cons (pe_joined (PJ.cons pe_str (PJ.cons (pe_fmtR (pv 1)) PJ.nil))) pa_nil))))
    (pss_one (ps_ost (pv 0) (pv 1))), ?_⟩
  try dsimp only [cxOf]
  walk_at "rd"
  refine i_js1 (by decide +kernel) ?_
  walk_at "rd"
  refine i_fmtRSW hz ?_
  refine i_js1 ?_ ?_
  · rw [Str.length_append, Str.length_append]
    have e : (Str.ofString "unknown name: ").length = 14 := by decide +kernel
    have e0 : Str.empty.length = 0 := by decide +kernel
    have hz' : (reprText z).length ≤ 400000 := hz
    rw [e, e0, sizeLine_eq]
    omega
  walk_at "rd"
  refine i_tve1 C_ox_UnknownName ha (by show 1 ≤ 1000; decide) ?_
  walk_at "rd"
  refine i_ost1 C_ox_UnknownName C_xn_UnknownName_name ha fun dx hd hn => ?_
  exact k dx H hd hn (Same.refl _) hd
abbrev s_Ratio___init__ : Stmt := inClass (top 23) 0
theorem sc_Ratio___init__ : FnScope ["self", "top", "bottom", "divisor"] ["self", "top", "bottom"] (defScope s_Ratio___init__) := ⟨rfl, rfl, rfl, by decide +kernel, rfl, by decide +kernel, by decide +kernel⟩
theorem ok_Ratio___init__ {P : Program} {w : World} {K : PySem.W.Frag} {mg : Str → Option Value} {base : Heap} {CB CR : Addr} {f : Addr} {fd : FuncData} (F : L2.Fun K "__init__" "Ratio.__init__" s_Ratio___init__ f fd)
    (C_c_Ratio : ClO K CR)
    (C_m_gcd : mg "gcd" = some (.builtin "math.gcd"))
    (C_na_Ratio_bottom : NoAttr K CR "bottom")
    (C_na_Ratio_top : NoAttr K CR "top")
    (C_x_BadNumber : CalX P w K mg base "BadNumber" CB 6 ["self", "n"] (spX1 K CB "n" (GNum CR))) :
    FnOk P w K mg base (L2.CX P w) 8 f fd ["self", "top", "bottom"] (spRInit CR CB) := by
  refine fnOk_mk F sc_Ratio___init__ (fun vs H Q E h => h.1) (fun cdv A outer s H vs Q E hr h => ?_)
  obtain ⟨_, a, t, b, rfl, ⟨dx, ha⟩, hz, h0, h1⟩ := h
  have tail : ∀ p : Int, p ≠ 0 → p.natAbs.log2 < 9000 → p = ZR.sg t b → b ≠ 0 → tSeq (sFld K (tVar 0) (tOp (rI CDivZ fun i j => V.int (i.fdiv j)) (tVar 1) (tVar 3)) "top") (sFld K (tVar 0) (tOp (rI CDivZ fun i j => V.int (i.fdiv j)) (tVar 2) (tVar 3)) "bottom")
      { nx := fun x H' => Q V.non H', rt := Q } [some (V.ref a), some (V.int t), some (V.int b), some (V.int p)] H := by
    intro p p0 pz e hb
    have cd : CDivZ t p := ⟨p0, pz⟩
    have cd2 : CDivZ b p := ⟨p0, pz⟩
    walk_at "rd"
    refine i_put1 ha C_c_Ratio.toCls C_na_Ratio_top (by show 0 < 100; decide) (rf_put1 _) fun H2 e2 s2 => ?_
    walk_at "rd"
    refine i_put1 e2 C_c_Ratio.toCls C_na_Ratio_bottom (by show 1 < 100; decide) (rf_put2 _ _) fun H3 e3 s3 => ?_
    subst e
    rw [ZR.norm_num t b hb, ZR.norm_den t b hb] at e3
    exact h1 hb H3 ⟨dx, e3⟩ fun x hx => (s3 x hx).trans (s2 x hx)
  refine ⟨_, pss_cons (ps_if (pt_cmpR op_eq (pv 2) pe_int (nomark _)) (pss_one (ps_raise rfl (takes_of rfl rfl rfl rfl) (z_mkX C_x_BadNumber hr (pa_cons pe_int pa_nil)))) (pss_nil))
    (pss_cons (ps_set (i := 3) sc_Ratio___init__.nd rfl (Or.inl rfl) (pe_callBfun cr_gcd (by rfl) C_m_gcd (pa_cons (pv 1) (pa_cons (pv 2) pa_nil))))
    (pss_cons (ps_if (pt_cmpR op_lt (pv 2) pe_int (nomark _)) (pss_one (ps_set (i := 3) sc_Ratio___init__.nd rfl (Or.inl rfl) (pe_un un_neg (pv 3)))) (pss_nil))
    (pss_cons (ps_fld (pv 0) (pe_op op_fdivZ (pv 1) (pv 3)) rfl)
    (pss_one (ps_fld (pv 0) (pe_op op_fdivZ (pv 2) (pv 3)) rfl))))), ?_⟩
  try dsimp only [cxOf]
  walk_at "rd"
  refine i_dec (fun e => ?_) (fun e => ?_)
  · walk_at "rd"
    exact i_mkX1 (fun H' s => .inl ⟨0, rfl, ZR.sz0⟩) fun d H' hd s e' => h0 e d H' s e'
  · walk_at "rd"
    have hb := (or_iff_right e).mp hz
    have gz : ((Nat.gcd t.natAbs b.natAbs : Nat) : Int).natAbs.log2 < 9000 := PySem.Flt.log2_lt_of (by decide) (show Nat.gcd t.natAbs b.natAbs < 2 ^ 9000 from Nat.lt_of_le_of_lt (Nat.gcd_le_right t.natAbs (show 0 < b.natAbs by omega)) (ZR.Sz.mono hb (by decide)))
    have g0 := ZR.gcd_ne t e
    refine i_dec (fun e1 => ?_) (fun e1 => ?_)
    · iterate 5 walk_at "r1"
      refine tail _ (by omega) (by rw [Int.natAbs_neg]; exact gz) (by unfold ZR.sg; rw [if_pos e1]) e
    · refine tail _ g0 gz (by unfold ZR.sg; rw [if_neg e1]) e
abbrev s_Ratio_whole : Stmt := inClass (top 23) 1
theorem sc_Ratio_whole : FnScope ["cls", "n"] ["cls", "n"] (defScope s_Ratio_whole) := ⟨rfl, rfl, rfl, by decide +kernel, rfl, by decide +kernel, by decide +kernel⟩
theorem ok_Ratio_whole {P : Program} {w : World} {K : PySem.W.Frag} {mg : Str → Option Value} {base : Heap} {CB CR : Addr} {f : Addr} {fd : FuncData} (F : L2.Fun K "whole" "Ratio.whole" s_Ratio_whole f fd)
    (C_i_Ratio : CalI P w K mg base "Ratio" CR 8 (spRInit CR CB)) :
    FnOk P w K mg base (L2.CX P w) 10 f fd ["cls", "n"] (spRWhole CR) := by
  refine fnOk_mk F sc_Ratio_whole (fun vs H Q E h => h.1) (fun cdv A outer s H vs Q E hr h => ?_)
  obtain ⟨_, n, rfl, k⟩ := h
  refine ⟨_, pss_one (ps_ret (z_makeL (i := 0) C_i_Ratio hr passN (pa_cons (pv 1) (pa_cons pe_int pa_nil)))), ?_⟩
  try dsimp only [cxOf]
  walk_at "rd"
  refine ⟨rfl, ?_⟩
  walk_at "rd"
  refine i_newR (by decide) (ZR.sz1 (by decide)) fun p H' hp s hr => k p H' hp s ?_
  have e : (n : Rat) / ((1 : Int) : Rat) = (n : Rat) := by
    have : ((1 : Int) : Rat) = 1 := rfl
    rw [this]
    grind
  rw [e] at hr
  exact hr
abbrev s_Ratio___add__ : Stmt := inClass (top 23) 5
theorem sc_Ratio___add__ : FnScope ["self", "other"] ["self", "other"] (defScope s_Ratio___add__) := ⟨rfl, rfl, rfl, by decide +kernel, rfl, by decide +kernel, by decide +kernel⟩
theorem ok_Ratio___add__ {P : Program} {w : World} {K : PySem.W.Frag} {mg : Str → Option Value} {base : Heap} {CB CR : Addr} {f : Addr} {fd : FuncData} (F : L2.Fun K "__add__" "Ratio.__add__" s_Ratio___add__ f fd)
    (C_c_Ratio : ClO K CR)
    (C_i_Ratio : CalI P w K mg base "Ratio" CR 8 (spRInit CR CB))
    (C_na_Ratio_bottom : NoAttr K CR "bottom")
    (C_na_Ratio_top : NoAttr K CR "top") :
    FnOk P w K mg base (L2.CX P w) 10 f fd ["self", "other"] (spR2 CR (· + ·)) := by
  refine fnOk_mk F sc_Ratio___add__ (fun vs H Q E h => h.1) (fun cdv A outer s H vs Q E hr h => ?_)
  obtain ⟨_, a, b, p, q, rfl, ha, hb, bp, bq, k⟩ := h
  refine ⟨_, pss_one (ps_ret (z_makeC C_i_Ratio hr passN (pa_cons (pe_op op_add (pe_op op_mulW (pe_fld (pv 0) rfl) (pe_fld (pv 1) rfl)) (pe_op op_mulW (pe_fld (pv 1) rfl) (pe_fld (pv 0) rfl))) (pa_cons (pe_op op_mulW (pe_fld (pv 0) rfl) (pe_fld (pv 1) rfl)) pa_nil)))), ?_⟩
  try dsimp only [cxOf]
  walk_at "rd"
  refine i_newR (Int.mul_ne_zero (ZR.den_ne p) (ZR.den_ne q)) ((bp.d.mul bq.d).mono (by decide)) fun c H' hc s hr => k c H' hc s ?_
  show IsR CR H' c (p + q)
  rw [← ZR.r_add]
  exact hr
abbrev s_Ratio___sub__ : Stmt := inClass (top 23) 6
theorem sc_Ratio___sub__ : FnScope ["self", "other"] ["self", "other"] (defScope s_Ratio___sub__) := ⟨rfl, rfl, rfl, by decide +kernel, rfl, by decide +kernel, by decide +kernel⟩
theorem ok_Ratio___sub__ {P : Program} {w : World} {K : PySem.W.Frag} {mg : Str → Option Value} {base : Heap} {CB CR : Addr} {f : Addr} {fd : FuncData} (F : L2.Fun K "__sub__" "Ratio.__sub__" s_Ratio___sub__ f fd)
    (C_c_Ratio : ClO K CR)
    (C_i_Ratio : CalI P w K mg base "Ratio" CR 8 (spRInit CR CB))
    (C_na_Ratio_bottom : NoAttr K CR "bottom")
    (C_na_Ratio_top : NoAttr K CR "top") :
    FnOk P w K mg base (L2.CX P w) 10 f fd ["self", "other"] (spR2 CR (· - ·)) := by
  refine fnOk_mk F sc_Ratio___sub__ (fun vs H Q E h => h.1) (fun cdv A outer s H vs Q E hr h => ?_)
  obtain ⟨_, a, b, p, q, rfl, ha, hb, bp, bq, k⟩ := h
  refine ⟨_, pss_one (ps_ret (z_makeC C_i_Ratio hr passN (pa_cons (pe_op op_sub (pe_op op_mulW (pe_fld (pv 0) rfl) (pe_fld (pv 1) rfl)) (pe_op op_mulW (pe_fld (pv 1) rfl) (pe_fld (pv 0) rfl))) (pa_cons (pe_op op_mulW (pe_fld (pv 0) rfl) (pe_fld (pv 1) rfl)) pa_nil)))), ?_⟩
  try dsimp only [cxOf]
  walk_at "rd"
  refine i_newR (Int.mul_ne_zero (ZR.den_ne p) (ZR.den_ne q)) ((bp.d.mul bq.d).mono (by decide)) fun c H' hc s hr => k c H' hc s ?_
  show IsR CR H' c (p - q)
  rw [← ZR.r_sub]
  exact hr
abbrev s_Ratio___eq__ : Stmt := inClass (top 23) 9
theorem sc_Ratio___eq__ : FnScope ["self", "other"] ["self", "other"] (defScope s_Ratio___eq__) := ⟨rfl, rfl, rfl, by decide +kernel, rfl, by decide +kernel, by decide +kernel⟩
theorem ok_Ratio___eq__ {P : Program} {w : World} {K : PySem.W.Frag} {mg : Str → Option Value} {base : Heap} {CR : Addr} {f : Addr} {fd : FuncData} (F : L2.Fun K "__eq__" "Ratio.__eq__" s_Ratio___eq__ f fd)
    (C_b_isinstance : mg "isinstance" = none)
    (C_c_Ratio : ClO K CR)
    (C_gRatio : mg "Ratio" = some (.ref CR))
    (C_ki_Ratio_Ratio : PySem.W.kitOne K (.ref CR) (.ref CR) = some true)
    (C_na_Ratio_bottom : NoAttr K CR "bottom")
    (C_na_Ratio_top : NoAttr K CR "top") :
    FnOk P w K mg base (L2.CX P w) 1 f fd ["self", "other"] (spREq K CR) := by
  refine fnOk_mk F sc_Ratio___eq__ (fun vs H Q E h => h.1) (fun cdv A outer s H vs Q E hr h => ?_)
  obtain ⟨_, a, p, y, rfl, ha, h⟩ := h
  refine ⟨_, pss_one (ps_ret (pe_and (pe_callB call_isi (by rfl) C_b_isinstance (by decide +kernel) (pa_cons (pv 1) (pa_cons ((pe_glob (v := .ref CR) rfl C_gRatio rfl)) pa_nil))) (pe_and (pe_cmpR op_eq (pe_fld (pv 0) rfl) (pe_fld (pv 1) rfl) (nomark _)) (pe_one (pe_cmpR op_eq (pe_fld (pv 0) rfl) (pe_fld (pv 1) rfl) (nomark _)))))), ?_⟩
  try dsimp only [cxOf]
  walk_at "rd"
  rcases h with ⟨b, q, rfl, hb, k⟩ | ⟨t, ty, hk, k⟩
  · obtain ⟨dy, e2⟩ := id hb
    refine i_isiO (C_c_Ratio.ty e2) (b := true) C_ki_Ratio_Ratio ?_
    walk_at "rd"
    have e : decide (p.num = q.num ∧ (p.den : Int) = (q.den : Int)) = decide (p = q) := decide_eq_decide.mpr (ZR.eq_nd p q)
    have k1 := k H (Same.refl _)
    rw [← e] at k1
    refine i_dec (fun n1 => ?_) (fun n1 => ?_)
    · walk_at "rd"
      simpa [n1] using k1
    · simpa [n1] using k1
  · refine i_isiO ty hk ?_
    walk_at "rd"
    exact k H (Same.refl _)
abbrev s_Ratio___mul__ : Stmt := inClass (top 23) 7
theorem sc_Ratio___mul__ : FnScope ["self", "other"] ["self", "other"] (defScope s_Ratio___mul__) := ⟨rfl, rfl, rfl, by decide +kernel, rfl, by decide +kernel, by decide +kernel⟩
theorem ok_Ratio___mul__ {P : Program} {w : World} {K : PySem.W.Frag} {mg : Str → Option Value} {base : Heap} {CB CR : Addr} {f : Addr} {fd : FuncData} (F : L2.Fun K "__mul__" "Ratio.__mul__" s_Ratio___mul__ f fd)
    (C_c_Ratio : ClO K CR)
    (C_i_Ratio : CalI P w K mg base "Ratio" CR 8 (spRInit CR CB))
    (C_na_Ratio_bottom : NoAttr K CR "bottom")
    (C_na_Ratio_top : NoAttr K CR "top") :
    FnOk P w K mg base (L2.CX P w) 10 f fd ["self", "other"] (spR2 CR (· * ·)) := by
  refine fnOk_mk F sc_Ratio___mul__ (fun vs H Q E h => h.1) (fun cdv A outer s H vs Q E hr h => ?_)
  obtain ⟨_, a, b, p, q, rfl, ha, hb, bp, bq, k⟩ := h
  refine ⟨_, pss_one (ps_ret (z_makeC C_i_Ratio hr passN (pa_cons (pe_op op_mulW (pe_fld (pv 0) rfl) (pe_fld (pv 1) rfl)) (pa_cons (pe_op op_mulW (pe_fld (pv 0) rfl) (pe_fld (pv 1) rfl)) pa_nil)))), ?_⟩
  try dsimp only [cxOf]
  walk_at "rd"
  refine i_newR (Int.mul_ne_zero (ZR.den_ne p) (ZR.den_ne q)) ((bp.d.mul bq.d).mono (by decide)) fun c H' hc s hr => k c H' hc s ?_
  show IsR CR H' c (p * q)
  rw [← ZR.r_mul]
  exact hr
theorem let_mem (c : Nat) : decide (c ∈ (Str.ofString "abcdefghijklmnopqrstuvwxyz").cps.toList) = let_ c := by
  have e : (Str.ofString "abcdefghijklmnopqrstuvwxyz").cps.toList = [97, 98, 99, 100, 101, 102, 103, 104, 105, 106, 107, 108, 109, 110, 111, 112, 113, 114, 115, 116, 117, 118, 119, 120, 121, 122] := by decide +kernel
  rw [e]
  unfold let_
  refine decide_eq_decide.mpr ?_
  simp
  omega
theorem dig_mem (c : Nat) : decide (c ∈ (Str.ofString "0123456789").cps.toList) = ZS.dig c := by
  have e : (Str.ofString "0123456789").cps.toList = [48, 49, 50, 51, 52, 53, 54, 55, 56, 57] := by decide +kernel
  rw [e]
  unfold ZS.dig
  refine decide_eq_decide.mpr ?_
  simp
  omega
theorem i_all {K : PySem.W.Frag} {D : Addr} {H : Hp} {Q : VK} {bs : List Bool} (e : H D = some (.lst (bs.map V.bl))) (h : Q (.bl (bs.all id)) H) : rAll K [.ref D] H Q := ⟨D, bs, rfl, SqL.of e, h⟩
theorem i_any {K : PySem.W.Frag} {D : Addr} {H : Hp} {Q : VK} {bs : List Bool} (e : H D = some (.lst (bs.map V.bl))) (h : Q (.bl (bs.any id)) H) : rAny K [.ref D] H Q := ⟨D, bs, rfl, SqL.of e, h⟩
theorem take_map {α β : Type} {l : List α} {f : α → β} {i : Nat} {c : α} (hc : l[i]? = some c) : (l.take (i + 1)).map f = (l.take i).map f ++ [f c] := by
  rw [List.take_add_one, hc, List.map_append]
  rfl
abbrev s_is_name : Stmt := top 16
theorem sc_is_name : FnScope ["text", "sign"] ["text"] (defScope s_is_name) := ⟨rfl, rfl, rfl, by decide +kernel, rfl, by decide +kernel, by decide +kernel⟩
theorem ok_is_name {P : Program} {w : World} {K : PySem.W.Frag} {mg : Str → Option Value} {base : Heap} {tk_DIGITS : Tok} {tk_LETTERS : Tok} {tk_MOST_SIGNS : Tok} {f : Addr} {fd : FuncData} (F : L2.Fun K "is_name" "is_name" s_is_name f fd)
    (C_b_all : mg "all" = none)
    (C_b_len : mg "len" = none)
    (C_n_DIGITS : mg "DIGITS" = some (.str "0123456789" tk_DIGITS))
    (C_n_LETTERS : mg "LETTERS" = some (.str "abcdefghijklmnopqrstuvwxyz" tk_LETTERS))
    (C_n_MOST_SIGNS : mg "MOST_SIGNS" = some (.int 8 tk_MOST_SIGNS)) :
    FnOk P w K mg base (L2.CX P w) 1 f fd ["text"] spIsName := by
  refine fnOk_mk F sc_is_name (fun vs H Q E h => h.1) (fun cdv A outer s H vs Q E hr h => ?_)
  obtain ⟨_, z, rfl, hz, k⟩ := h
  have hl := TL.len_tl z
  refine ⟨_, pss_cons (ps_if (pt_not (pt_chain op_le op_le pe_int (pe_callB call_len_str (by rfl) C_b_len (by decide +kernel) (pa_cons (pv 0) pa_nil)) ((pe_glob (v := .int 8) rfl C_n_MOST_SIGNS ⟨_, rfl⟩)))) (pss_one (ps_ret pe_bl)) (pss_nil))
    (pss_one (ps_ret (pe_and (pe_cmpR op_in_sign (pe_ix ix_str (pv 0) pe_int (fun _ _ => rfl)) ((pe_glob (v := .str "abcdefghijklmnopqrstuvwxyz") rfl C_n_LETTERS ⟨_, rfl⟩)) rfl) (pe_one (pe_callB (k_all rfl (K := K) rfl) (by rfl) C_b_all (by decide +kernel) (pa_cons (pe_lc (own := [("sign", 1)]) (by rfl) sc_is_name.nd (pi_str (pv 0)) (blkOk_by (N := ["text", "sign"]) (sc := defScope s_is_name) (by decide +kernel)) (fun _ _ _ _ _ => pg_name (i := 1) sc_is_name.nd rfl (Or.inl rfl)) (fun _ _ _ _ _ => pts_nil) (fun _ _ _ _ _ => pe_or (pe_cmpR op_in_sign (pv 1) ((pe_glob (v := .str "abcdefghijklmnopqrstuvwxyz") rfl C_n_LETTERS ⟨_, rfl⟩)) rfl) (pe_one (pe_cmpR op_in_sign (pv 1) ((pe_glob (v := .str "0123456789") rfl C_n_DIGITS ⟨_, rfl⟩)) rfl)))) pa_nil)))))), ?_⟩
  try dsimp only [cxOf]
  walk_at "rd"
  refine ⟨z, rfl, Nat.le_trans hz (by decide), ?_⟩
  walk_at "rb"
  have out : ∀ {b : Bool}, nameB z = b → Q (.bl b) H := fun e => e ▸ k H (Same.refl _)
  refine i_dec (fun e1 => ?_) (fun e1 => ?_)
  · walk_at "rd"
    refine i_ndec (fun e2 => ?_) (fun e2 => ?_)
    · walk_at "rd"
      refine out ?_
      unfold nameB nameL
      rw [decide_eq_false (by omega)]
      rfl
    · walk_at "rd"
      obtain ⟨c, r, ez⟩ : ∃ c r, TL.tl z = c :: r := by
        cases e : TL.tl z with
        | nil =>
          rw [e] at hl
          simp at hl
          omega
        | cons c r => exact ⟨c, r, rfl⟩
      refine i_ixS0 hz ez ?_
      walk_at "rd"
      refine ⟨c, _, rfl, rfl, ?_⟩
      rw [let_mem]
      have hlen : decide (1 ≤ (TL.tl z).length ∧ (TL.tl z).length ≤ 8) = true := decide_eq_true (by omega)
      refine ⟨_, rfl, ?_⟩
      refine i_bool (fun e3 => ?_) (fun e3 => ?_)
      · walk_at "rd"
        refine i_lcS (fun i ys H' => Same H H' ∧ ys = (((TL.tl z).take i).map fun c => let_ c || ZS.dig c).map V.bl) (fun D H' hD s e' ho => ⟨s, rfl⟩) ?_ ?_
        · rintro i c2 D ys H1 hD hc eD ⟨s1, rfl⟩
          walk_at "rd"
          refine ⟨by with_unfolding_all rfl, ?_⟩
          walk_at "rd"
          refine ⟨c2, _, rfl, rfl, ?_⟩
          rw [let_mem]
          have fin : ∀ b, b = (let_ c2 || ZS.dig c2) → rLcE D (fun i ys H' => Same H H' ∧ ys = (((TL.tl z).take i).map fun c => let_ c || ZS.dig c).map V.bl) i (V.bl b) H1 := by
            rintro b rfl
            refine i_lcE eD ?_ fun H2 e2 ho => ⟨?_, ?_⟩
            · have := (List.getElem?_eq_some_iff.mp hc).1
              simp
              omega
            · intro b o e
              exact (ho b (ne_of_none e hD)).trans (s1 _ _ e)
            · rw [take_map hc, List.map_append]
              rfl
          refine ⟨_, rfl, ?_⟩
          refine i_bool (fun e4 => ?_) (fun e4 => ?_)
          · exact fin _ (by rw [e4]; rfl)
          · walk_at "rd"
            refine ⟨c2, _, rfl, rfl, ?_⟩
            rw [dig_mem]
            exact fin _ (by rw [e4]; rfl)
        · rintro D ys H1 hD eD ⟨s1, rfl⟩
          walk_at "rd"
          refine i_all eD ?_
          have ep : (((TL.tl z).take (TL.tl z).length).map fun c => let_ c || ZS.dig c).all id = nameB z := by
            rw [List.take_length]
            unfold nameB nameL
            rw [hlen, ez]
            simp [List.all_map, Function.comp_def, e3]
          rw [ep]
          exact k H1 s1
      · refine out ?_
        unfold nameB nameL
        rw [hlen, ez]
        simp [e3]
  · walk_at "rd"
    refine out ?_
    unfold nameB nameL
    rw [decide_eq_false (by omega)]
    rfl
theorem strs_at {N : List Str} {i : Nat} {x : V} (h : (N.map V.str)[i]? = some x) : ∃ n, N[i]? = some n ∧ x = V.str n := by
  rw [List.getElem?_map] at h
  cases e : N[i]? with
  | none => rw [e] at h; cases h
  | some n => rw [e] at h; exact ⟨n, rfl, (Option.some.inj h).symm⟩
theorem take_snoc {α : Type} {N : List α} {i : Nat} {n : α} (h : N[i]? = some n) : N.take (i + 1) = N.take i ++ [n] := by rw [List.take_add_one, h]; rfl
theorem nodup_take {N : List Str} (hN : N.Nodup) {i : Nat} {n : Str} (h : N[i]? = some n) : ¬ n ∈ N.take i := fun hm => by
  obtain ⟨lt, e2⟩ := List.getElem?_eq_some_iff.mp h
  obtain ⟨j, hj, e⟩ := List.mem_iff_getElem.mp hm
  rw [List.length_take] at hj
  rw [List.getElem_take] at e
  have := (List.getElem_inj hN).mp (e.trans e2.symm)
  omega
/-! ### words of a text -/
theorem dig_take {z : Str} {i c : Nat} (hc : (TL.tl z)[i]? = some c) : ((TL.tl z).take (i + 1)).map ZS.dig = ((TL.tl z).take i).map ZS.dig ++ [ZS.dig c] := by
  rw [List.take_add_one, hc, List.map_append]
  rfl
def spPosi : Sp := fun vs H Q _ => vs.length = 1 ∧ ∃ z : Str, vs = [.str z] ∧ z.length ≤ 100000 ∧ ∀ H', Same H H' → Q (.bl (ZS.posL (TL.tl z))) H'
theorem i_posi {z : Str} {H : Hp} {Q : VK} {E : XK} (hz : z.length ≤ 100000) (h : ∀ H', Same H H' → Q (.bl (ZS.posL (TL.tl z))) H') : spPosi [.str z] H Q E := ⟨rfl, z, rfl, hz, h⟩
abbrev s_is_positive : Stmt := top 18
theorem sc_is_positive : FnScope ["text", "sign"] ["text"] (defScope s_is_positive) := ⟨rfl, rfl, rfl, by decide +kernel, rfl, by decide +kernel, by decide +kernel⟩
theorem ok_is_positive {P : Program} {w : World} {K : PySem.W.Frag} {mg : Str → Option Value} {base : Heap} {tk_DIGITS : Tok} {tk_MOST_DIGITS : Tok} {f : Addr} {fd : FuncData} (F : L2.Fun K "is_positive" "is_positive" s_is_positive f fd)
    (C_b_all : mg "all" = none)
    (C_b_len : mg "len" = none)
    (C_n_DIGITS : mg "DIGITS" = some (.str "0123456789" tk_DIGITS))
    (C_n_MOST_DIGITS : mg "MOST_DIGITS" = some (.int 30 tk_MOST_DIGITS)) :
    FnOk P w K mg base (L2.CX P w) 1 f fd ["text"] spPosi := by
  refine fnOk_mk F sc_is_positive (fun vs H Q E h => h.1) (fun cdv A outer s H vs Q E hr h => ?_)
  obtain ⟨_, z, rfl, hz, k⟩ := h
  have hl := TL.len_tl z
  refine ⟨_, pss_cons (ps_if (pt_not (pt_chain op_le op_le pe_int (pe_callB call_len_str (by rfl) C_b_len (by decide +kernel) (pa_cons (pv 0) pa_nil)) ((pe_glob (v := .int 30) rfl C_n_MOST_DIGITS ⟨_, rfl⟩)))) (pss_one (ps_ret pe_bl)) (pss_nil))
    (pss_one (ps_ret (pe_and (pe_cmpR op_ne (pe_ix ix_str (pv 0) pe_int (fun _ _ => rfl)) pe_str (nomark _)) (pe_one (pe_callB (k_all rfl (K := K) rfl) (by rfl) C_b_all (by decide +kernel) (pa_cons (pe_lc (own := [("sign", 1)]) (by rfl) sc_is_positive.nd (pi_str (pv 0)) (blkOk_by (N := ["text", "sign"]) (sc := defScope s_is_positive) (by decide +kernel)) (fun _ _ _ _ _ => pg_name (i := 1) sc_is_positive.nd rfl (Or.inl rfl)) (fun _ _ _ _ _ => pts_nil) (fun _ _ _ _ _ => pe_cmpR op_in_sign (pv 1) ((pe_glob (v := .str "0123456789") rfl C_n_DIGITS ⟨_, rfl⟩)) rfl)) pa_nil)))))), ?_⟩
  try dsimp only [cxOf]
  walk_at "rd"
  refine ⟨z, rfl, Nat.le_trans hz (by decide), ?_⟩
  walk_at "rb"
  have out : ∀ {b : Bool}, ZS.posL (TL.tl z) = b → Q (.bl b) H := fun e => e ▸ k H (Same.refl _)
  refine i_dec (fun e1 => ?_) (fun e1 => ?_)
  · walk_at "rd"
    refine i_ndec (fun e2 => ?_) (fun e2 => ?_)
    · walk_at "rd"
      refine out ?_
      unfold ZS.posL
      rw [decide_eq_false (by omega)]
      rfl
    · walk_at "rd"
      obtain ⟨c, r, ez⟩ : ∃ c r, TL.tl z = c :: r := by
        cases e : TL.tl z with
        | nil =>
          rw [e] at hl
          simp at hl
          omega
        | cons c r => exact ⟨c, r, rfl⟩
      refine i_ixS0 hz ez ?_
      walk_at "rd"
      have e0 : decide ((⟨#[c]⟩ : Str) = Str.ofString "0") = decide (c = 48) := by
        refine decide_eq_decide.mpr ⟨fun e => ?_, fun e => ?_⟩
        · have h2 : TL.tl (⟨#[c]⟩ : Str) = TL.tl (Str.ofString "0") := congrArg TL.tl e
          have h3 : TL.tl (Str.ofString "0") = [48] := by decide +kernel
          rw [h3] at h2
          injection h2
        · subst e
          decide +kernel
      rw [e0]
      have hlen : decide (1 ≤ (TL.tl z).length ∧ (TL.tl z).length ≤ 30) = true := decide_eq_true (by omega)
      refine i_ndec (fun e3 => ?_) (fun e3 => ?_)
      · walk_at "rd"
        refine i_lcS (fun i ys H' => Same H H' ∧ ys = (((TL.tl z).take i).map ZS.dig).map V.bl) (fun D H' hD s e' ho => ⟨s, rfl⟩) ?_ ?_
        · rintro i c2 D ys H1 hD hc eD ⟨s1, rfl⟩
          walk_at "rd"
          refine ⟨by with_unfolding_all rfl, ?_⟩
          walk_at "rd"
          refine ⟨c2, _, rfl, rfl, ?_⟩
          rw [dig_mem]
          refine i_lcE eD ?_ fun H2 e2 ho => ⟨?_, ?_⟩
          · have := (List.getElem?_eq_some_iff.mp hc).1
            simp
            omega
          · intro b o e
            exact (ho b (ne_of_none e hD)).trans (s1 _ _ e)
          · rw [dig_take hc, List.map_append]
            rfl
        · rintro D ys H1 hD eD ⟨s1, rfl⟩
          walk_at "rd"
          refine i_all eD ?_
          have ep : (((TL.tl z).take (TL.tl z).length).map ZS.dig).all id = ZS.posL (TL.tl z) := by
            rw [List.take_length]
            unfold ZS.posL
            rw [hlen, ez]
            have : ((c :: r).head? == some 48) = false := by simp [e3]
            rw [this]
            simp [List.all_map, Function.comp_def]
          rw [ep]
          exact k H1 s1
      · refine out ?_
        unfold ZS.posL
        rw [hlen, ez]
        simp [e3]
  · walk_at "rd"
    refine out ?_
    unfold ZS.posL
    rw [decide_eq_false (by omega)]
    rfl
/-- the first fault of names: no name (false), or one that came (true) -/
def nmF : List Str → List Str → Option (Bool × Str)
  | _, [] => none
  | seen, z :: zs => if nameB z = false then some (false, z) else if z ∈ seen then some (true, z) else nmF (seen ++ [z]) zs
theorem nmF_cons {seen zs : List Str} {z : Str} : nmF seen (z :: zs) = if nameB z = false then some (false, z) else if z ∈ seen then some (true, z) else nmF (seen ++ [z]) zs := rfl
theorem nmF_none : ∀ (zs seen : List Str), nmF seen zs = none → seen.Nodup → (∀ z ∈ zs, nameB z = true) ∧ (seen ++ zs).Nodup
  | [], seen, _, h => ⟨fun z hz => absurd hz (by simp), by simpa using h⟩
  | z :: zs, seen, h, hs => by
    unfold nmF at h
    split at h
    · cases h
    · rename_i h1
      split at h
      · cases h
      · rename_i h2
        have hs2 : (seen ++ [z]).Nodup := List.nodup_append.mpr ⟨hs, by simp, fun x hx y hy e => h2 (by rw [← List.mem_singleton.mp hy, ← e]; exact hx)⟩
        obtain ⟨a, b⟩ := nmF_none zs (seen ++ [z]) h hs2
        refine ⟨fun w hw => ?_, by simpa using b⟩
        rcases List.mem_cons.mp hw with rfl | hw
        · simpa using h1
        · exact a w hw
def spCheckG (K : PySem.W.Frag) (CN CD : Addr) : Sp := fun vs H Q E => vs.length = 1 ∧ ∃ (a : Addr) (zs : List Str), vs = [.ref a] ∧ SqA K H a (zs.map V.str) ∧ zs.length ≤ 30000 ∧ (∀ z ∈ zs, z.length ≤ 100000) ∧
  (∀ b z, nmF [] zs = some (b, z) → RW z ∧ EName (if b then CD else CN) z H E) ∧ (nmF [] zs = none → ∀ H', Same H H' → Q .non H')
abbrev s_check_names : Stmt := top 17
theorem sc_check_names : FnScope ["names", "at", "name"] ["names"] (defScope s_check_names) := ⟨rfl, rfl, rfl, by decide +kernel, rfl, by decide +kernel, by decide +kernel⟩
theorem ok_check_names {P : Program} {w : World} {K : PySem.W.Frag} {mg : Str → Option Value} {base : Heap} {CD CN : Addr} {f : Addr} {fd : FuncData} (F : L2.Fun K "check_names" "check_names" s_check_names f fd)
    (C_b_enumerate : mg "enumerate" = none)
    (C_f_is_name : Cal P w K mg base "is_name" 1 spIsName)
    (C_x_BadName : CalX P w K mg base "BadName" CN 1 ["self", "name"] (spX1 K CN "name" GStW))
    (C_x_DuplicateName : CalX P w K mg base "DuplicateName" CD 1 ["self", "name"] (spX1 K CD "name" GStW)) :
    FnOk P w K mg base (L2.CX P w) 3 f fd ["names"] (spCheckG K CN CD) := by
  refine fnOk_mk F sc_check_names (fun vs H Q E h => h.1) (fun cdv A outer s H vs Q E hr h => ?_)
  obtain ⟨_, a, zs, rfl, hs, hl, hlen, kx, k⟩ := h
  refine ⟨_, pss_one (ps_for (passes_of rfl) rfl (pi_enA (K := K) rfl (by rfl) C_b_enumerate (pa_cons (pv 0) pa_nil)) (k_tup (K := K) (n := 2) rfl rfl (pgs_cons (pg_name (i := 1) sc_check_names.nd rfl (Or.inl rfl)) (pgs_cons (pg_name (i := 2) sc_check_names.nd rfl (Or.inl rfl)) pgs_nil))) (pss_cons (ps_if (pt_not (pt_val (z_callC C_f_is_name hr passN (pa_cons (pv 2) pa_nil)))) (pss_one (ps_raise rfl (takes_of rfl rfl rfl rfl) (z_mkX C_x_BadName hr (pa_cons (pv 2) pa_nil)))) (pss_nil))
    (pss_one (ps_if (pt_cmpR (k_inS (K := K) rfl) (pv 2) (pe_slice (k_slA (K := K) rfl) (pv 0) po_none (po_some (pv 1))) rfl) (pss_one (ps_raise rfl (takes_of rfl rfl rfl rfl) (z_mkX C_x_DuplicateName hr (pa_cons (pv 2) pa_nil)))) (pss_nil))))), ?_⟩
  try dsimp only [cxOf]
  walk_at "rd"
  refine i_enA (fun i σ H1 => (∃ x y, σ = [some (.ref a), x, y]) ∧ Same H H1 ∧ nmF (zs.take i) (zs.drop i) = nmF [] zs) hs ⟨⟨_, _, rfl⟩, Same.refl _, rfl⟩ (fun i σ H1 p => p.2.1) ?_ ?_
  · rintro i x T σ H1 H2 hx ⟨⟨u, v, rfl⟩, s1, hf⟩ hT s2 eT ho
    obtain ⟨z, hz, rfl⟩ := strs_at hx
    have s02 := s1.trans s2
    have hm : z ∈ zs := List.mem_of_getElem? hz
    have lt := (List.getElem?_eq_some_iff.mp hz).1
    have hd : zs.drop i = z :: zs.drop (i + 1) := by rw [List.drop_eq_getElem_cons lt, (List.getElem?_eq_some_iff.mp hz).2]
    rw [hd, nmF_cons] at hf
    refine i_gtup (SqT.of eT) rfl ?_
    walk_at "rd"
    refine i_isName (hlen z hm) fun H3 s3 => ?_
    walk_at "rd"
    have s03 := s02.trans s3
    cases hb : nameB z
    · rw [if_pos hb] at hf
      walk_at "rd"
      obtain ⟨rb, kx⟩ := kx false z hf.symm
      exact i_mkX1 (fun H' s => ⟨z, rfl, rb⟩) fun d H' hd s e' => kx d H' (s03.trans s) e'
    · rw [if_neg (by rw [hb]; decide)] at hf
      walk_at "rd"
      refine i_slTo (sameA s03 hs) (by rw [List.length_map]; exact lt) fun q H4 hq s4 e4 ho4 => ?_
      rw [← List.map_take] at e4
      refine i_inS e4 ?_
      walk_at "rd"
      have s04 := s03.trans s4
      refine i_dec (fun g => ?_) (fun g => ?_)
      · rw [if_pos g] at hf
        walk_at "rd"
        obtain ⟨rb, kx⟩ := kx true z hf.symm
        exact i_mkX1 (fun H' s => ⟨z, rfl, rb⟩) fun d H' hd s e' => kx d H' (s04.trans s) e'
      · rw [if_neg g] at hf
        walk_at "rd"
        exact ⟨⟨_, _, rfl⟩, s04, by rw [take_snoc hz]; exact hf⟩
  · rintro σ H1 ⟨⟨u, v, rfl⟩, s1, hf⟩
    rw [List.length_map, List.drop_length] at hf
    exact k hf.symm H1 s1
theorem spl_in (S : List Nat) : ∀ (xs : List Nat) (k : Nat) (acc p : List Nat), p ∈ TL.spl S k acc xs → p.length ≤ acc.length + xs.length ∧ ∀ c ∈ p, c ∈ acc ∨ c ∈ xs
  | [], k, acc, p, h => by
    rw [TL.spl_nil, List.mem_singleton] at h
    subst h
    exact ⟨Nat.le_add_right _ _, fun c hc => .inl hc⟩
  | c :: r, 0, acc, p, h => by
    rw [TL.spl] at h
    split at h
    · rcases List.mem_cons.mp h with rfl | h
      · exact ⟨Nat.le_add_right _ _, fun c hc => .inl hc⟩
      · obtain ⟨h1, h2⟩ := spl_in S r _ _ p h
        refine ⟨?_, fun d hd => ?_⟩
        · rw [List.length_nil] at h1
          rw [List.length_cons]
          omega
        · rcases h2 d hd with z | z
          · cases z
          · exact .inr (List.mem_cons_of_mem _ z)
    · obtain ⟨h1, h2⟩ := spl_in S r _ _ p h
      refine ⟨?_, fun d hd => ?_⟩
      · rw [List.length_append, List.length_singleton] at h1
        rw [List.length_cons]
        omega
      · rcases h2 d hd with z | z
        · rcases List.mem_append.mp z with z | z
          · exact .inl z
          · rw [List.mem_singleton.mp z]
            exact .inr List.mem_cons_self
        · exact .inr (List.mem_cons_of_mem _ z)
  | c :: r, k + 1, acc, p, h => by
    rw [TL.spl] at h
    obtain ⟨h1, h2⟩ := spl_in S r _ _ p h
    refine ⟨?_, fun d hd => ?_⟩
    · rw [List.length_cons]
      omega
    · rcases h2 d hd with z | z
      · exact .inl z
      · exact .inr (List.mem_cons_of_mem _ z)
theorem spl_cnt (S : List Nat) : ∀ (xs : List Nat) (k : Nat) (acc : List Nat), 1 ≤ (TL.spl S k acc xs).length ∧ (TL.spl S k acc xs).length ≤ xs.length + 1
  | [], k, acc => by
    rw [TL.spl_nil]
    exact ⟨Nat.le_refl _, Nat.le_refl _⟩
  | c :: r, 0, acc => by
    rw [TL.spl]
    split
    · have := spl_cnt S r (S.length - 1) []
      rw [List.length_cons, List.length_cons]
      omega
    · have := spl_cnt S r 0 (acc ++ [c])
      rw [List.length_cons]
      omega
  | c :: r, k + 1, acc => by
    rw [TL.spl]
    have := spl_cnt S r k acc
    rw [List.length_cons]
    omega
/-- a text that may be read: not too long, its signs plain -/
def okT (n : Nat) (z : Str) : Prop := z.length ≤ n ∧ ∀ c ∈ TL.tl z, c < 128
theorem okT.rw {n : Nat} {z : Str} (h : okT n z) (hn : n ≤ 39999) : RW z := by
  have h1 := StrLaws.reprText_len z (fun c hc => Nat.lt_trans (h.2 c hc) (by decide))
  have h2 := h.1
  unfold RW
  omega
theorem okT.split {n : Nat} {z y : Str} (h : okT n z) (hy : TL.tl y ≠ []) (hk : y.cps.all (· < 256) = true) : (∀ p ∈ Txt.split z y, okT n p) ∧ 1 ≤ (Txt.split z y).length ∧ (Txt.split z y).length ≤ n + 1 := by
  have e := TL.split_spl z y hy (TL.kind_ok hk)
  have lz := TL.len_tl z
  have c := spl_cnt (TL.tl y) (TL.tl z) 0 []
  have el : (Txt.split z y).length = (TL.spl (TL.tl y) 0 [] (TL.tl z)).length := by rw [← e, List.length_map]
  refine ⟨fun p hp => ?_, by omega, ?_⟩
  · have hm : TL.tl p ∈ TL.spl (TL.tl y) 0 [] (TL.tl z) := by rw [← e]; exact List.mem_map_of_mem hp
    obtain ⟨h1, h2⟩ := spl_in _ _ _ _ _ hm
    have lp := TL.len_tl p
    have := h.1
    refine ⟨?_, fun d hd => ?_⟩
    · rw [List.length_nil] at h1
      omega
    · rcases h2 d hd with q | q
      · cases q
      · exact h.2 d q
  · have := h.1
    omega
theorem i_split {H : Hp} {Q : VK} {a b : Str} (hb : (b.length == 0) = false) (hl : a.length ≤ 100000) (h : ∀ p H', H p = none → Same H H' → H' p = some (.lst ((Txt.split a b).map V.str)) → (∀ c, c ≠ p → H' c = H c) → Q (.ref p) H') :
    ∃ a' b', V.str a = V.str a' ∧ [V.str b] = [V.str b'] ∧ (b'.length == 0) = false ∧ a'.length + 2 ≤ sizeLine ∧ rNewStrs (Txt.split a' b') H Q :=
  ⟨a, b, rfl, rfl, hb, by rw [sizeLine_eq]; omega, fun p hp => h p _ hp (fun c o e => by rw [upd_ne (ne_of_none e hp)]; exact e) upd_same fun c hc => upd_ne hc⟩

def EText (CY : Addr) (n : Int) (H : Hp) (E : XK) : Prop := ∀ d H', Same H H' → H' d = some (.xd [("at", .int n)]) → E (.ref CY) (some d) H'
/-- the place of the first word that is none: empty, or no number where one is due; or the end where one is wanting -/
def badAt (ws : List Str) (i : Nat) : Bool := match ws[i]? with
  | some w => decide (w = Str.ofString "") || (decide (i % 2 = 1) && !ZS.posL (TL.tl w))
  | none => false
def wrongW (ws : List Str) : Option Nat := match (List.range ws.length).find? (badAt ws) with
  | some i => some i
  | none => if ws.length % 2 = 1 then some ws.length else none
def optI : Option Nat → V
  | none => .non
  | some i => .int (i : Nat)
theorem wrong_at {ws : List Str} {i : Nat} (hk : ∀ j, j < i → badAt ws j = false) (h : badAt ws i = true) : wrongW ws = some i := by
  have hi : i < ws.length := by
    apply Classical.byContradiction
    intro n
    unfold badAt at h
    rw [List.getElem?_eq_none (by omega)] at h
    cases h
  unfold wrongW
  have : (List.range ws.length).find? (badAt ws) = some i := by
    rw [List.find?_eq_some_iff_getElem]
    exact ⟨h, i, by rw [List.length_range]; exact hi, by rw [List.getElem_range], fun j hj => by rw [List.getElem_range, hk j hj]; rfl⟩
  rw [this]
theorem wrong_end {ws : List Str} (hk : ∀ j, j < ws.length → badAt ws j = false) : wrongW ws = if ws.length % 2 = 1 then some ws.length else none := by
  unfold wrongW
  have : (List.range ws.length).find? (badAt ws) = none := by
    rw [List.find?_eq_none]
    intro j hj
    rw [hk j (List.mem_range.mp hj)]
    decide
  rw [this]
def spWrong (K : PySem.W.Frag) : Sp := fun vs H Q _ => vs.length = 1 ∧ ∃ (a : Addr) (ws : List Str), vs = [.ref a] ∧ SqA K H a (ws.map V.str) ∧ ws.length ≤ 50000 ∧ (∀ w ∈ ws, w.length ≤ 100000) ∧ ∀ H', Same H H' → Q (optI (wrongW ws)) H'
abbrev s_wrong_word : Stmt := top 19
theorem sc_wrong_word : FnScope ["words", "at", "word"] ["words"] (defScope s_wrong_word) := ⟨rfl, rfl, rfl, by decide +kernel, rfl, by decide +kernel, by decide +kernel⟩
theorem ok_wrong_word {P : Program} {w : World} {K : PySem.W.Frag} {mg : Str → Option Value} {base : Heap} {f : Addr} {fd : FuncData} (F : L2.Fun K "wrong_word" "wrong_word" s_wrong_word f fd)
    (C_b_enumerate : mg "enumerate" = none)
    (C_b_len : mg "len" = none)
    (C_f_is_positive : Cal P w K mg base "is_positive" 1 spPosi) :
    FnOk P w K mg base (L2.CX P w) 2 f fd ["words"] (spWrong K) := by
  refine fnOk_mk F sc_wrong_word (fun vs H Q E h => h.1) (fun cdv A outer s H vs Q E hr h => ?_)
  obtain ⟨_, a, ws, rfl, hs, hl, hlen, k⟩ := h
  refine ⟨_, pss_cons (ps_for (passes_of rfl) rfl (pi_enA (K := K) rfl (by rfl) C_b_enumerate (pa_cons (pv 0) pa_nil)) (k_tup (K := K) (n := 2) rfl rfl (pgs_cons (pg_name (i := 1) sc_wrong_word.nd rfl (Or.inl rfl)) (pgs_cons (pg_name (i := 2) sc_wrong_word.nd rfl (Or.inl rfl)) pgs_nil))) (pss_one (ps_if (PW.pt (pw_or (pt_cmpR op_eq (pv 2) pe_str (nomark _)) (pw_or1 (PW.pt (pw_and (pt_cmpR op_eq (pe_op op_mod (pv 1) pe_int) pe_int (nomark _)) (pw_and1 (pt_not (pt_val (z_callC C_f_is_positive hr passN (pa_cons (pv 2) pa_nil)))))))))) (pss_one (ps_ret (pv 1))) (pss_nil))))
    (pss_cons (ps_if (pt_cmpR op_eq (pe_op op_mod (pe_callB (k_len (K := K) rfl) (by rfl) C_b_len (by decide +kernel) (pa_cons (pv 0) pa_nil)) pe_int) pe_int (nomark _)) (pss_one (ps_ret (pe_callB (k_len (K := K) rfl) (by rfl) C_b_len (by decide +kernel) (pa_cons (pv 0) pa_nil)))) (pss_nil))
    (pss_one (ps_ret pe_non))), ?_⟩
  try dsimp only [cxOf]
  walk_at "rd"
  refine i_enA (fun i σ H1 => (∃ x y, σ = [some (.ref a), x, y]) ∧ Same H H1 ∧ ∀ j, j < i → badAt ws j = false) hs ⟨⟨_, _, rfl⟩, Same.refl _, fun j hj => by omega⟩ (fun i σ H1 p => p.2.1) ?_ ?_
  · rintro i x T σ H1 H2 hx ⟨⟨u, v, rfl⟩, s1, hk⟩ hT s2 eT ho
    obtain ⟨z, hz, rfl⟩ := strs_at hx
    have s02 := s1.trans s2
    have hm : z ∈ ws := List.mem_of_getElem? hz
    refine i_gtup (SqT.of eT) rfl ?_
    walk_at "rd"
    have next : badAt ws i = false → ∀ j, j < i + 1 → badAt ws j = false := fun h j hj => by
      by_cases e : j = i
      · rw [e]; exact h
      · exact hk j (by omega)
    have out : badAt ws i = true → ∀ H', Same H H' → Q (.int (i : Nat)) H' := fun h H' s => by
      have := k H' s
      rw [wrong_at hk h] at this
      exact this
    refine i_dec (fun e1 => ?_) (fun e1 => ?_)
    · walk_at "rd"
      exact out (by unfold badAt; rw [hz]; simp [e1]) H2 s02
    · walk_at "rd"
      refine i_dec (fun e2 => ?_) (fun e2 => ?_)
      · walk_at "rd"
        refine i_posi (hlen z hm) fun H3 s3 => ?_
        walk_at "rd"
        cases e3 : ZS.posL (TL.tl z) with
        | true =>
          walk_at "rd"
          exact ⟨⟨_, _, rfl⟩, s02.trans s3, next (by unfold badAt; rw [hz]; simp [e1, e3])⟩
        | false =>
          walk_at "rd"
          exact out (by unfold badAt; rw [hz]; simp [e3]; omega) H3 (s02.trans s3)
      · walk_at "rd"
        exact ⟨⟨_, _, rfl⟩, s02, next (by unfold badAt; rw [hz]; simp [e1]; intro h; omega)⟩
  · rintro σ H1 ⟨⟨u, v, rfl⟩, s1, hk⟩
    rw [List.length_map] at hk
    walk_at "rd"
    refine i_lenA (sameA s1 hs) ?_
    rw [List.length_map]
    walk_at "rd"
    have e := k H1 s1
    rw [wrong_end hk] at e
    refine i_dec (fun e2 => ?_) (fun e2 => ?_)
    · walk_at "rd"
      refine i_lenA (sameA s1 hs) ?_
      rw [List.length_map]
      walk_at "rd"
      rw [if_pos (by omega)] at e
      exact e
    · walk_at "rd"
      rw [if_neg (by omega)] at e
      exact e
/-! multiples of 1/D -/
def Gs (D B : Nat) (q : Rat) : Prop := ∃ n : Int, q * (D : Rat) = (n : Rat) ∧ n.natAbs ≤ B
section
variable {D D' B B' : Nat} {p q : Rat}
theorem Gs.zero : Gs D B 0 := ⟨0, by grind, Nat.zero_le _⟩
theorem Gs.mono (h : Gs D B q) (l : B ≤ B') : Gs D B' q := let ⟨n, e, b⟩ := h; ⟨n, e, Nat.le_trans b l⟩
theorem Gs.add (h : Gs D B p) (g : Gs D B' q) : Gs D (B + B') (p + q) := by
  obtain ⟨n, hn, bn⟩ := h
  obtain ⟨m, hm, bm⟩ := g
  refine ⟨n + m, ?_, by omega⟩
  rw [Rat.intCast_add, ← hn, ← hm]; grind
theorem Gs.sub (h : Gs D B p) (g : Gs D B' q) : Gs D (B + B') (p - q) := by
  obtain ⟨n, hn, bn⟩ := h
  obtain ⟨m, hm, bm⟩ := g
  refine ⟨n - m, ?_, by omega⟩
  rw [Rat.intCast_sub, ← hn, ← hm]; grind
theorem Gs.mul (h : Gs D B p) (g : Gs D' B' q) : Gs (D * D') (B * B') (p * q) := by
  obtain ⟨n, hn, bn⟩ := h
  obtain ⟨m, hm, bm⟩ := g
  refine ⟨n * m, ?_, by rw [Int.natAbs_mul]; exact Nat.mul_le_mul bn bm⟩
  rw [Rat.intCast_mul, ← hn, ← hm, Rat.natCast_mul]; grind
theorem Gs.scale (h : Gs D B q) (k : Nat) : Gs (D * k) (B * k) q := by
  obtain ⟨n, hn, bn⟩ := h
  refine ⟨n * k, ?_, by rw [Int.natAbs_mul]; exact Nat.mul_le_mul bn (by simp)⟩
  rw [Rat.natCast_mul, Rat.intCast_mul, ← hn]
  have : ((k : Int) : Rat) = (k : Rat) := rfl
  rw [this]
  grind
theorem Gs.scale' (h : Gs D B q) (k : Nat) : Gs (k * D) (k * B) q := by rw [Nat.mul_comm, Nat.mul_comm k B]; exact h.scale k
theorem Gs.bd (h : Gs D B q) {n : Nat} (hD : 0 < D) (l1 : D < 2 ^ n) (l2 : B < 2 ^ n) : ZR.Bd n q := by
  obtain ⟨z, hz, bz⟩ := h
  have hDi : ((D : Nat) : Int) ≠ 0 := by omega
  have hDr : (D : Rat) ≠ 0 := by
    have := ZR.ci hDi
    simpa using this
  have e : q = (z : Rat) / (((D : Nat) : Int) : Rat) := by
    rw [← hz]
    have : (((D : Nat) : Int) : Rat) = (D : Rat) := rfl
    rw [this]
    grind
  rw [e]
  exact ZR.Bd.of (show z.natAbs < 2 ^ n by omega) (show ((D : Nat) : Int).natAbs < 2 ^ n by simpa using l1) hDi
theorem Gs.frac {a : Int} {b : Nat} (hb : 0 < b) : Gs b a.natAbs ((a : Rat) / ((b : Nat) : Rat)) := by
  have hDr : (b : Rat) ≠ 0 := by
    have := ZR.ci (b := ((b : Nat) : Int)) (by omega)
    simpa using this
  exact ⟨a, by grind, Nat.le_refl _⟩
theorem Gs.sm {α : Type} : ∀ {L : List (α × Rat)}, (∀ x ∈ L, Gs D B x.2) → Gs D (L.length * B) (ZD.sm L)
  | [], _ => by rw [ZD.sm_nil]; exact Gs.zero
  | x :: L, h => by
    rw [ZD.sm_cons, List.length_cons]
    refine ((h x List.mem_cons_self).add (Gs.sm fun y hy => h y (List.mem_cons_of_mem _ hy))).mono ?_
    rw [Nat.succ_mul]
    omega
end
def RsAt (CR : Addr) (H : Hp) (ps : List (Addr × Rat)) : Prop := ∀ x ∈ ps, IsR CR H x.1 x.2
def rfs (ps : List (Addr × Rat)) : List V := ps.map fun x => V.ref x.1
def spTotG (K : PySem.W.Frag) (CR : Addr) : Sp := fun vs H Q _ => vs.length = 1 ∧ ∃ (l : Addr) (ps : List (Addr × Rat)), vs = [.ref l] ∧ SqL K H l (rfs ps) ∧ RsAt CR H ps ∧ (∀ x ∈ ps, ZR.Bd 2000 x.2) ∧ (∀ i, ZR.Bd 2000 (ZD.sm (ps.take i))) ∧
  ∀ c H', H c = none → Same H H' → IsR CR H' c (ZD.sm ps) → Q (.ref c) H'
abbrev s_total : Stmt := top 24
theorem sc_total : FnScope ["ratios", "found", "ratio"] ["ratios"] (defScope s_total) := ⟨rfl, rfl, rfl, by decide +kernel, rfl, by decide +kernel, by decide +kernel⟩
theorem ok_total {P : Program} {w : World} {K : PySem.W.Frag} {mg : Str → Option Value} {base : Heap} {CR : Addr} {f : Addr} {fd : FuncData} (F : L2.Fun K "total" "total" s_total f fd)
    (C_gRatio : mg "Ratio" = some (.ref CR))
    (C_k_Ratio_whole : CalK P w K mg base CR "whole" 10 (spRWhole CR))
    (C_o_Ratio_add : CalO P w K mg base CR "__add__" 10 (spR2 CR (· + ·))) :
    FnOk P w K mg base (L2.CX P w) 11 f fd ["ratios"] (spTotG K CR) := by
  refine fnOk_mk F sc_total (fun vs H Q E h => h.1) (fun cdv A outer s H vs Q E hr h => ?_)
  obtain ⟨_, l, ps, rfl, hl, hr0, hg, hs, k⟩ := h
  refine ⟨_, pss_cons (ps_set (i := 1) sc_total.nd rfl (Or.inl rfl) (z_cmethC (pe_glob (v := .ref CR) rfl C_gRatio rfl) C_k_Ratio_whole hr passN (pa_cons pe_int pa_nil)))
    (pss_cons (ps_for (passes_of rfl) rfl (pi_any (K := K) rfl (pv 0)) (pg_name (i := 2) sc_total.nd rfl (Or.inl rfl)) (pss_one (ps_set (i := 1) sc_total.nd rfl (Or.inl rfl) (pe_op (z_op C_o_Ratio_add hr) (pv 1) (pv 2)))))
    (pss_one (ps_ret (pv 1)))), ?_⟩
  try dsimp only [cxOf]
  walk_at "rd"
  refine ⟨rfl, ?_⟩
  walk_at "rd"
  refine i_whole fun c H1 hc s1 hr1 => ?_
  walk_at "rd"
  refine i_forA (H0 := H) (fun i σ H' => ∃ c v, σ = [some (.ref l), some (.ref c), v] ∧ Same H H' ∧ H c = none ∧ IsR CR H' c (ZD.sm (ps.take i))) (.inl hl)
    ⟨c, none, rfl, s1, hc, hr1⟩ (fun i σ H' => fun ⟨_, _, _, s, _⟩ => s) ?_ ?_
  · rintro i x σ H2 hi ⟨c2, v, rfl, s2, hc2, hr2⟩
    have hlt : i < ps.length := by
      have := (List.getElem?_eq_some_iff.mp hi).1
      unfold rfs at this
      simpa using this
    obtain rfl : x = V.ref ps[i].1 := by
      unfold rfs at hi
      simpa [hlt] using hi.symm
    have hm : ps[i] ∈ ps := List.getElem_mem hlt
    have b1 : ZR.Bd 2000 (ZD.sm (ps.take i)) := hs i
    have b2 : ZR.Bd 2000 ps[i].2 := hg _ hm
    walk_at "rd"
    refine i_R2 hr2 ((hr0 _ hm).mono s2) b1 b2 fun d H3 hd s3 hr3 => ?_
    walk_at "rd"
    have e : ZD.sm (ps.take (i + 1)) = ZD.sm (ps.take i) + ps[i].2 := by
      rw [List.take_succ_eq_append_getElem hlt, ZD.sm_snoc]
    refine ⟨d, _, rfl, s2.trans s3, s2.free hd, ?_⟩
    rw [e]
    exact hr3
  · rintro σ H2 ⟨c2, v, rfl, s2, hc2, hr2⟩
    walk_at "rd"
    have e : ps.take (rfs ps).length = ps := by
      unfold rfs
      simp
    rw [e] at hr2
    exact k c2 H2 hc2 s2 hr2
/-! the law's helpers -/
def PoolN (H : Hp) (p : Addr) (n : Nat) : Prop := ∃ (c k : Int) (f : Bool), H p = some (.lst [V.int c, V.int k, V.bl f]) ∧ 0 ≤ k ∧ k ≤ n
def spPoolN : Sp := fun vs H Q _ => vs.length = 1 ∧ ∃ c, vs = [.int c] ∧ ∀ p H', H p = none → Same H H' → (∀ b, b ≠ p → H' b = H b) → PoolN H' p 0 → Q (.ref p) H'
def spTakeN : Sp := fun vs H Q _ => vs.length = 2 ∧ ∃ p l n, vs = [.ref p, .int l] ∧ PoolN H p n ∧ n ≤ 1000 ∧ 0 < l ∧ l ≤ 4000 ∧ ∀ r H', 0 ≤ r → r < l → (∀ b, b ≠ p → H' b = H b) → PoolN H' p (n + 1) → Q (.int r) H'
abbrev s__law_pool : Stmt := top 32
theorem sc__law_pool : FnScope ["_law_cell_here"] ["_law_cell_here"] (defScope s__law_pool) := ⟨rfl, rfl, rfl, by decide +kernel, rfl, by decide +kernel, by decide +kernel⟩
theorem ok__law_pool {P : Program} {w : World} {K : PySem.W.Frag} {mg : Str → Option Value} {base : Heap} {f : Addr} {fd : FuncData} (F : L2.Fun K "_law_pool" "_law_pool" s__law_pool f fd)
    (C_b_abs : mg "abs" = none) :
    FnOk P w K mg base (L2.CX P w) 1 f fd ["_law_cell_here"] spPoolN := by
  refine fnOk_mk F sc__law_pool (fun vs H Q E h => h.1) (fun cdv A outer s H vs Q E hr h => ?_)
  obtain ⟨_, c, rfl, k⟩ := h
  refine ⟨_, pss_one (ps_ret (pe_lst (pa_cons (pe_callB call_abs (by rfl) C_b_abs (by decide +kernel) (pa_cons (pv 0) pa_nil)) (pa_cons pe_int (pa_cons (pe_cmpR op_ge (pe_callB call_abs (by rfl) C_b_abs (by decide +kernel) (pa_cons (pv 0) pa_nil)) (pe_op op_pow pe_int pe_int) (nomark _)) pa_nil))))), ?_⟩
  try dsimp only [cxOf]
  walk_at "rd"
  refine ⟨c, rfl, ?_⟩
  walk_at "rd"
  refine ⟨c, rfl, ?_⟩
  walk_at "rd"
  refine i_lst1 (Nat.le_of_ble_eq_true rfl) fun p H2 hp s e ho => ?_
  exact k p H2 hp s ho ⟨_, _, _, e, by decide, by decide⟩
abbrev s__law_cell : Stmt := top 31
theorem sc__law_cell : FnScope ["_law_script", "_law_k"] ["_law_script", "_law_k"] (defScope s__law_cell) := ⟨rfl, rfl, rfl, by decide +kernel, rfl, by decide +kernel, by decide +kernel⟩
theorem ok__law_cell {P : Program} {w : World} {K : PySem.W.Frag} {mg : Str → Option Value} {base : Heap} {f : Addr} {fd : FuncData} (F : L2.Fun K "_law_cell" "_law_cell" s__law_cell f fd)
    (C_b_len : mg "len" = none) :
    FnOk P w K mg base (L2.CX P w) 1 f fd ["_law_script", "_law_k"] (spCell K) := by
  refine fnOk_mk F sc__law_cell (fun vs H Q E h => h.1) (fun cdv A outer s H vs Q E hr h => ?_)
  obtain ⟨_, a, ns, i, rfl, hs, k⟩ := h
  refine ⟨_, pss_cons (ps_if (pt_cmpR op_lt (pv 1) (pe_callB (k_len (K := K) rfl) (by rfl) C_b_len (by decide +kernel) (pa_cons (pv 0) pa_nil)) (nomark _)) (pss_one (ps_ret (pe_ix ix_list (pv 0) (pv 1) (fun _ _ => rfl)))) (pss_nil))
    (pss_one (ps_ret pe_int)), ?_⟩
  try dsimp only [cxOf]
  walk_at "rd"
  refine ⟨a, _, rfl, .inl hs, ?_⟩
  walk_at "rd"
  refine i_dec (fun e => ?_) (fun e => ?_)
  · walk_at "rd"
    have hlt : i < ns.length := by
      rw [List.length_map] at e
      omega
    refine i_ixL hs (v := V.int ns[i]) (by simp [hlt]) ?_
    exact k _
  · walk_at "rd"
    exact k 0
abbrev s__law_take : Stmt := top 33
theorem sc__law_take : FnScope ["_law_pool_here", "_law_limit", "_law_digit", "_law_made"] ["_law_pool_here", "_law_limit"] (defScope s__law_take) := ⟨rfl, rfl, rfl, by decide +kernel, rfl, by decide +kernel, by decide +kernel⟩
theorem ok__law_take {P : Program} {w : World} {K : PySem.W.Frag} {mg : Str → Option Value} {base : Heap} {f : Addr} {fd : FuncData} (F : L2.Fun K "_law_take" "_law_take" s__law_take f fd)
    (C_b_int : mg "int" = none) :
    FnOk P w K mg base (L2.CX P w) 1 f fd ["_law_pool_here", "_law_limit"] spTakeN := by
  refine fnOk_mk F sc__law_take (fun vs H Q E h => h.1) (fun cdv A outer s H vs Q E hr h => ?_)
  obtain ⟨_, p, l, n, rfl, ⟨c, k0, fl, hp, kl, ku⟩, hn, h0, hz, k⟩ := h
  have hzl : ZR.Sz 8000 l := ZR.Sz.mono (n := 12) (Nat.lt_of_le_of_lt (show l.natAbs ≤ 4000 by omega) (by decide +kernel)) (by decide)
  refine ⟨_, pss_cons (ps_asg (pe_op op_add (pe_ix ix_list (pv 0) pe_int (fun _ _ => rfl)) pe_int) (pg_sub (pv 0) pe_int set_list))
    (pss_cons (ps_if (pt_val (pe_ix ix_list (pv 0) pe_int (fun _ _ => rfl))) (pss_cons (ps_set (i := 2) sc__law_take.nd rfl (Or.inl rfl) (pe_op op_mod (pe_callTy call_int1 (by rfl) C_b_int (by decide +kernel) (pa_cons (pe_ix ix_list (pv 0) pe_int (fun _ _ => rfl)) pa_nil)) (pv 1)))
    (pss_cons (ps_asg (pe_op op_fdivZ (pe_callTy call_int1 (by rfl) C_b_int (by decide +kernel) (pa_cons (pe_ix ix_list (pv 0) pe_int (fun _ _ => rfl)) pa_nil)) (pv 1)) (pg_sub (pv 0) pe_int set_list))
    (pss_one (ps_ret (pv 2))))) (pss_nil))
    (pss_cons (ps_set (i := 3) sc__law_take.nd rfl (Or.inl rfl) (pe_op op_mod (pe_op op_pow (pe_callTy call_int1 (by rfl) C_b_int (by decide +kernel) (pa_cons (pe_op op_add (pe_op op_add (pe_op op_mul (pe_op op_mod (pe_callTy call_int1 (by rfl) C_b_int (by decide +kernel) (pa_cons (pe_ix ix_list (pv 0) pe_int (fun _ _ => rfl)) pa_nil)) pe_int) pe_int) (pe_op op_mul (pe_ix ix_list (pv 0) pe_int (fun _ _ => rfl)) pe_int)) pe_int) pa_nil)) pe_int) pe_int))
    (pss_cons (ps_set (i := 3) sc__law_take.nd rfl (Or.inl rfl) (pe_op op_mod (pe_op op_pow (pe_callTy call_int1 (by rfl) C_b_int (by decide +kernel) (pa_cons (pe_op op_add (pe_op op_add (pe_op op_mul (pv 3) pe_int) (pe_op op_mul (pe_ix ix_list (pv 0) pe_int (fun _ _ => rfl)) pe_int)) pe_int) pa_nil)) pe_int) pe_int))
    (pss_one (ps_ret (pe_op op_mod (pe_op op_fdivZ (pv 3) pe_int) (pv 1))))))), ?_⟩
  try dsimp only [cxOf]
  walk_at "rd"
  refine i_ix1 (SqL.of hp) ?_
  walk_at "rd"
  refine i_setL (ys := [V.int c, V.int (k0 + 1), V.bl fl]) hp rfl rfl fun H2 e2 s2 => ?_
  have cl : ∀ i, CDivZ i l := fun i => cdivZ (by omega) hzl
  walk_at "rd"
  refine i_ix2 (SqL.of e2) ?_
  walk_at "rd"
  cases fl
  · walk_at "rd"
    refine i_ix0 (SqL.of e2) ?_
    walk_at "rd"
    refine .inl ⟨_, rfl, ?_⟩
    walk_at "rd"
    refine i_ix1 (SqL.of e2) ?_
    walk_at "rd"
    refine .inl ⟨_, rfl, ?_⟩
    walk_at "rd"
    have h1 := Int.emod_lt_of_pos c (show (0 : Int) < 2147483647 by decide)
    have h2 := Int.emod_nonneg c (show (2147483647 : Int) ≠ 0 by decide)
    refine i_rI ⟨by decide, by decide, ?_⟩ ?_
    · omega
    walk_at "rd"
    refine i_ix1 (SqL.of e2) ?_
    walk_at "rd"
    refine .inl ⟨_, rfl, ?_⟩
    walk_at "rd"
    have h3 := Int.emod_lt_of_pos ((c % 2147483647 * 48271 + (k0 + 1) * 69621 + 11) ^ (5 : Int).toNat) (show (0 : Int) < 2147483647 by decide)
    have h4 := Int.emod_nonneg ((c % 2147483647 * 48271 + (k0 + 1) * 69621 + 11) ^ (5 : Int).toNat) (show (2147483647 : Int) ≠ 0 by decide)
    refine i_rI ⟨by decide, by decide, ?_⟩ ?_
    · omega
    walk_at "rd"
    exact k _ H2 (Int.emod_nonneg _ (by omega)) (Int.emod_lt_of_pos _ h0) s2 ⟨_, _, _, e2, by omega, by omega⟩
  · walk_at "rd"
    refine i_ix0 (SqL.of e2) ?_
    walk_at "rd"
    refine .inl ⟨_, rfl, ?_⟩
    walk_at "rd"
    refine i_ix0 (SqL.of e2) ?_
    walk_at "rd"
    refine .inl ⟨_, rfl, ?_⟩
    walk_at "rd"
    refine i_rI (cl _) ?_
    walk_at "rd"
    refine i_setL (ys := [V.int (c.fdiv l), V.int (k0 + 1), V.bl true]) e2 rfl rfl fun H3 e3 s3 => ?_
    walk_at "rd"
    exact k _ H3 (Int.emod_nonneg _ (by omega)) (Int.emod_lt_of_pos _ h0) (fun b hb => (s3 b hb).trans (s2 b hb)) ⟨_, _, _, e3, by omega, by omega⟩
def pq (p : Rat) : List V := [.int p.num, .int (p.den : Int)]
def spFrac : Sp := fun vs H Q _ => vs.length = 2 ∧ ∃ a b : Int, vs = [.int a, .int b] ∧ 0 < b ∧ ZR.Sz 4000 a ∧ ZR.Sz 4000 b ∧
  ∀ p H', H p = none → Same H H' → H' p = some (.tup (pq ((a : Rat) / (b : Rat)))) → (∀ c, c ≠ p → H' c = H c) → Q (.ref p) H'
abbrev s__law_frac : Stmt := top 35
theorem sc__law_frac : FnScope ["_law_top", "_law_bottom", "_law_one", "_law_other"] ["_law_top", "_law_bottom"] (defScope s__law_frac) := ⟨rfl, rfl, rfl, by decide +kernel, rfl, by decide +kernel, by decide +kernel⟩
theorem ok__law_frac {P : Program} {w : World} {K : PySem.W.Frag} {mg : Str → Option Value} {base : Heap} {f : Addr} {fd : FuncData} (F : L2.Fun K "_law_frac" "_law_frac" s__law_frac f fd)
    (C_b_abs : mg "abs" = none)
    (C_b_int : mg "int" = none) :
    FnOk P w K mg base (L2.CX P w) 1 f fd ["_law_top", "_law_bottom"] spFrac := by
  refine fnOk_mk F sc__law_frac (fun vs H Q E h => h.1) (fun cdv A outer s H vs Q E hr h => ?_)
  obtain ⟨_, a, b, rfl, hb, za, zb, k⟩ := h
  refine ⟨_, pss_cons (ps_par (i := 2) (j := 3) (by rfl) sc__law_frac.nd rfl rfl (by decide) rfl rfl (pa_cons (pe_callB call_abs (by rfl) C_b_abs (by decide +kernel) (pa_cons (pv 0) pa_nil)) (pa_cons (pe_callB call_abs (by rfl) C_b_abs (by decide +kernel) (pa_cons (pv 1) pa_nil)) pa_nil)) (by rfl))
    (pss_cons (ps_while (passes_of rfl) (pt_cmpR op_ne (pv 3) pe_int (nomark _)) (pss_one (ps_par (i := 2) (j := 3) (by rfl) sc__law_frac.nd rfl rfl (by decide) rfl rfl (pa_cons (pv 3) (pa_cons (pe_op op_mod (pe_callTy call_int1 (by rfl) C_b_int (by decide +kernel) (pa_cons (pv 2) pa_nil)) (pv 3)) pa_nil)) (by rfl))))
    (pss_one (ps_ret (pe_tup (pa_cons (pe_op op_fdivZ (pe_callTy call_int1 (by rfl) C_b_int (by decide +kernel) (pa_cons (pv 0) pa_nil)) (pv 2)) (pa_cons (pe_op op_fdivZ (pe_callTy call_int1 (by rfl) C_b_int (by decide +kernel) (pa_cons (pv 1) pa_nil)) (pv 2)) pa_nil)))))), ?_⟩
  try dsimp only [cxOf]
  walk_at "rd"
  refine ⟨a, rfl, ?_⟩
  walk_at "rd"
  refine ⟨b, rfl, ?_⟩
  walk_at "rd"
  refine while_by (fun σ H' => ∃ f s : Int, σ = [some (.int a), some (.int b), some (.int f), some (.int s)] ∧ H' = H ∧ 0 ≤ f ∧ 0 ≤ s ∧ f.natAbs < 2 ^ 4000 ∧ s.natAbs < 2 ^ 4000 ∧ Nat.gcd f.natAbs s.natAbs = Nat.gcd a.natAbs b.natAbs)
    (fun σ _ => match σ with | [_, _, _, some (.int s)] => s.natAbs | _ => 0) ⟨_, _, rfl, rfl, ?_, ?_, ?_, ?_, ?_⟩ ?_ ?_
  · split <;> omega
  · split <;> omega
  · have := za; unfold ZR.Sz at this; split <;> omega
  · have := zb; unfold ZR.Sz at this; split <;> omega
  · congr 1 <;> split <;> omega
  · rintro σ H2 ⟨f, s, rfl, rfl, hf, hs, lf, ls, hg⟩
    walk_at "rd"
    refine i_ndec (fun e => ?_) (fun e => ?_)
    · have sp : 0 < s := by omega
      walk_at "rd"
      refine .inl ⟨_, rfl, ?_⟩
      walk_at "rd"
      have h1 : f % s < s := Int.emod_lt_of_pos f sp
      have h2 := Int.emod_nonneg f (show s ≠ 0 by omega)
      refine ⟨⟨_, _, rfl, rfl, hs, h2, ls, by omega, ?_⟩, ?_⟩
      · rw [ZR.euclid_step hf sp]
        exact hg
      · show (f % s).natAbs < s.natAbs
        omega
    · subst e
      have ef : f = ZR.sg a b := by
        unfold ZR.sg
        rw [if_neg (by omega), ← hg]
        simp
        omega
      have f0 : f ≠ 0 := by
        rw [ef]
        exact ZR.sg_ne a (by omega)
      have cf : ∀ i, CDivZ i f := fun i => ⟨f0, PySem.Flt.log2_lt_of (by decide) (Nat.lt_of_lt_of_le lf (Nat.pow_le_pow_right (by decide) (by decide)))⟩
      walk_at "rd"
      refine .inl ⟨_, rfl, ?_⟩
      walk_at "rd"
      refine i_rI (cf _) ?_
      walk_at "rd"
      refine .inl ⟨_, rfl, ?_⟩
      walk_at "rd"
      refine i_rI (cf _) ?_
      walk_at "rd"
      refine i_tup1 (Nat.le_of_ble_eq_true rfl) fun q H3 hq s3 e3 ho => ?_
      rw [ef, ZR.norm_num a b (by omega), ZR.norm_den a b (by omega)] at e3
      exact k q H3 hq s3 e3 ho
  · intro σ H Q Q' kk h
    obtain ⟨y, e, q1, q2⟩ := h
    refine ⟨y, e, q1, ?_⟩
    obtain ⟨c, ec, q⟩ := q2
    exact ⟨c, ec, kk _ _ q⟩
theorem i_frac {a b : Int} {H : Hp} {Q : VK} {E : XK} (hb : 0 < b) (za : ZR.Sz 4000 a) (zb : ZR.Sz 4000 b) (k : ∀ p H', H p = none → Same H H' → H' p = some (.tup (pq ((a : Rat) / (b : Rat)))) → (∀ c, c ≠ p → H' c = H c) → Q (.ref p) H') :
    spFrac [.int a, .int b] H Q E := ⟨rfl, a, b, rfl, hb, za, zb, k⟩
theorem den_pos (p : Rat) : (0 : Int) < (p.den : Int) := by have := p.den_nz; omega
theorem i_p0 {K : PySem.W.Frag} {a : Addr} {H : Hp} {Q : VK} {p : Rat} (s : SqT K H a (pq p)) (h : Q (.int p.num) H) : rIxT K (.ref a) (.int 0) H Q := i_ixT (k := 0) s rfl h
theorem i_p1 {K : PySem.W.Frag} {a : Addr} {H : Hp} {Q : VK} {p : Rat} (s : SqT K H a (pq p)) (h : Q (.int (p.den : Int)) H) : rIxT K (.ref a) (.int 1) H Q := i_ixT (k := 1) s rfl h
def spQ2 (f : Rat → Rat → Rat) : Sp := fun vs H Q _ => vs.length = 2 ∧ ∃ (a b : Addr) (p q : Rat), vs = [.ref a, .ref b] ∧ H a = some (.tup (pq p)) ∧ H b = some (.tup (pq q)) ∧ ZR.Bd 1900 p ∧ ZR.Bd 1900 q ∧
  ∀ c H', H c = none → Same H H' → H' c = some (.tup (pq (f p q))) → (∀ b, b ≠ c → H' b = H b) → Q (.ref c) H'
abbrev spQAdd : Sp := spQ2 (· + ·)
abbrev spQMul : Sp := spQ2 (· * ·)
abbrev s__law_add : Stmt := top 36
theorem sc__law_add : FnScope ["_law_one", "_law_other"] ["_law_one", "_law_other"] (defScope s__law_add) := ⟨rfl, rfl, rfl, by decide +kernel, rfl, by decide +kernel, by decide +kernel⟩
theorem ok__law_add {P : Program} {w : World} {K : PySem.W.Frag} {mg : Str → Option Value} {base : Heap} {f : Addr} {fd : FuncData} (F : L2.Fun K "_law_add" "_law_add" s__law_add f fd)
    (C_f_law_frac : Cal P w K mg base "_law_frac" 1 spFrac) :
    FnOk P w K mg base (L2.CX P w) 2 f fd ["_law_one", "_law_other"] spQAdd := by
  refine fnOk_mk F sc__law_add (fun vs H Q E h => h.1) (fun cdv A outer s H vs Q E hr h => ?_)
  obtain ⟨_, a, b, p, q, rfl, ha, hb, bp, bq, k⟩ := h
  refine ⟨_, pss_one (ps_ret (z_callC C_f_law_frac hr passN (pa_cons (pe_op op_add (pe_op op_mulW (pe_ix ix_tup (pv 0) pe_int (fun _ _ => rfl)) (pe_ix ix_tup (pv 1) pe_int (fun _ _ => rfl))) (pe_op op_mulW (pe_ix ix_tup (pv 1) pe_int (fun _ _ => rfl)) (pe_ix ix_tup (pv 0) pe_int (fun _ _ => rfl)))) (pa_cons (pe_op op_mulW (pe_ix ix_tup (pv 0) pe_int (fun _ _ => rfl)) (pe_ix ix_tup (pv 1) pe_int (fun _ _ => rfl))) pa_nil)))), ?_⟩
  try dsimp only [cxOf]
  walk_at "rd"
  refine i_p0 (.of ha) ?_
  walk_at "rd"
  refine i_p1 (.of hb) ?_
  walk_at "rd"
  refine i_p0 (.of hb) ?_
  walk_at "rd"
  refine i_p1 (.of ha) ?_
  walk_at "rd"
  refine i_p1 (.of ha) ?_
  walk_at "rd"
  refine i_p1 (.of hb) ?_
  walk_at "rd"
  refine i_frac (Int.mul_pos (den_pos p) (den_pos q)) (((bp.n.mul bq.d).add (bq.n.mul bp.d)).mono (by decide)) ((bp.d.mul bq.d).mono (by decide)) fun c H' hc s e ho => k c H' hc s ?_ ho
  show H' c = some (.tup (pq (p + q)))
  rw [← ZR.r_add]
  exact e
abbrev s__law_mul : Stmt := top 37
theorem sc__law_mul : FnScope ["_law_one", "_law_other"] ["_law_one", "_law_other"] (defScope s__law_mul) := ⟨rfl, rfl, rfl, by decide +kernel, rfl, by decide +kernel, by decide +kernel⟩
theorem ok__law_mul {P : Program} {w : World} {K : PySem.W.Frag} {mg : Str → Option Value} {base : Heap} {f : Addr} {fd : FuncData} (F : L2.Fun K "_law_mul" "_law_mul" s__law_mul f fd)
    (C_f_law_frac : Cal P w K mg base "_law_frac" 1 spFrac) :
    FnOk P w K mg base (L2.CX P w) 2 f fd ["_law_one", "_law_other"] spQMul := by
  refine fnOk_mk F sc__law_mul (fun vs H Q E h => h.1) (fun cdv A outer s H vs Q E hr h => ?_)
  obtain ⟨_, a, b, p, q, rfl, ha, hb, bp, bq, k⟩ := h
  refine ⟨_, pss_one (ps_ret (z_callC C_f_law_frac hr passN (pa_cons (pe_op op_mulW (pe_ix ix_tup (pv 0) pe_int (fun _ _ => rfl)) (pe_ix ix_tup (pv 1) pe_int (fun _ _ => rfl))) (pa_cons (pe_op op_mulW (pe_ix ix_tup (pv 0) pe_int (fun _ _ => rfl)) (pe_ix ix_tup (pv 1) pe_int (fun _ _ => rfl))) pa_nil)))), ?_⟩
  try dsimp only [cxOf]
  walk_at "rd"
  refine i_p0 (.of ha) ?_
  walk_at "rd"
  refine i_p0 (.of hb) ?_
  walk_at "rd"
  refine i_p1 (.of ha) ?_
  walk_at "rd"
  refine i_p1 (.of hb) ?_
  walk_at "rd"
  refine i_frac (Int.mul_pos (den_pos p) (den_pos q)) ((bp.n.mul bq.n).mono (by decide)) ((bp.d.mul bq.d).mono (by decide)) fun c H' hc s e ho => k c H' hc s ?_ ho
  show H' c = some (.tup (pq (p * q)))
  rw [← ZR.r_mul]
  exact e
def spOf (CR : Addr) : Sp := fun vs H Q _ => vs.length = 1 ∧ ∃ (a : Addr) (p : Rat), vs = [.ref a] ∧ IsR CR H a p ∧ ∀ c H', H c = none → Same H H' → H' c = some (.tup (pq p)) → (∀ b, b ≠ c → H' b = H b) → Q (.ref c) H'
abbrev s__law_of : Stmt := top 38
theorem sc__law_of : FnScope ["_law_ratio_here"] ["_law_ratio_here"] (defScope s__law_of) := ⟨rfl, rfl, rfl, by decide +kernel, rfl, by decide +kernel, by decide +kernel⟩
theorem ok__law_of {P : Program} {w : World} {K : PySem.W.Frag} {mg : Str → Option Value} {base : Heap} {CR : Addr} {f : Addr} {fd : FuncData} (F : L2.Fun K "_law_of" "_law_of" s__law_of f fd)
    (C_c_Ratio : ClO K CR)
    (C_na_Ratio_bottom : NoAttr K CR "bottom")
    (C_na_Ratio_top : NoAttr K CR "top") :
    FnOk P w K mg base (L2.CX P w) 1 f fd ["_law_ratio_here"] (spOf CR) := by
  refine fnOk_mk F sc__law_of (fun vs H Q E h => h.1) (fun cdv A outer s H vs Q E hr h => ?_)
  obtain ⟨_, a, p, rfl, ha, k⟩ := h
  refine ⟨_, pss_one (ps_ret (pe_tup (pa_cons (pe_fld (pv 0) rfl) (pa_cons (pe_fld (pv 0) rfl) pa_nil)))), ?_⟩
  try dsimp only [cxOf]
  walk_at "rd"
  exact i_tup1 (Nat.le_of_ble_eq_true rfl) fun c H' hc s e ho => k c H' hc s e ho

theorem i_q2 {f : Rat → Rat → Rat} {a b : Addr} {p q : Rat} {H : Hp} {Q : VK} {E : XK} (ha : H a = some (.tup (pq p))) (hb : H b = some (.tup (pq q))) (bp : ZR.Bd 1900 p) (bq : ZR.Bd 1900 q)
    (h : ∀ c H', H c = none → Same H H' → H' c = some (.tup (pq (f p q))) → (∀ b, b ≠ c → H' b = H b) → Q (.ref c) H') : spQ2 f [.ref a, .ref b] H Q E := ⟨rfl, a, b, p, q, rfl, ha, hb, bp, bq, h⟩
theorem i_takeN {H : Hp} {p : Addr} {l : Int} {n : Nat} {Q : VK} {E : XK} (h : PoolN H p n) (hn : n ≤ 1000) (h0 : 0 < l) (hl : l ≤ 4000) (k : ∀ r H', 0 ≤ r → r < l → (∀ b, b ≠ p → H' b = H b) → PoolN H' p (n + 1) → Q (.int r) H') : spTakeN [.ref p, .int l] H Q E :=
  ⟨rfl, p, l, n, rfl, h, hn, h0, hl, k⟩
/-! gcd and lcm of lists -/
def gcF (ns : List Int) : Nat := ns.foldl (fun g n => Nat.gcd g n.natAbs) 0
theorem gcF_go : ∀ (ns : List Int) (g : Nat), ns.foldl (fun g n => Nat.gcd g n.natAbs) g ∣ g ∧ ∀ n ∈ ns, ns.foldl (fun g n => Nat.gcd g n.natAbs) g ∣ n.natAbs
  | [], g => ⟨Nat.dvd_refl _, fun _ h => by cases h⟩
  | m :: ns, g => by
    obtain ⟨h1, h2⟩ := gcF_go ns (Nat.gcd g m.natAbs)
    refine ⟨Nat.dvd_trans h1 (Nat.gcd_dvd_left _ _), fun n hn => ?_⟩
    rcases List.mem_cons.mp hn with rfl | hn
    · exact Nat.dvd_trans h1 (Nat.gcd_dvd_right _ _)
    · exact h2 n hn
theorem gcF_dvd {ns : List Int} {n : Int} (h : n ∈ ns) : gcF ns ∣ n.natAbs := (gcF_go ns 0).2 n h
theorem gcF_pos {ns : List Int} {n : Int} (h : n ∈ ns) (h0 : n ≠ 0) : 0 < gcF ns := by
  rcases Nat.eq_zero_or_pos (gcF ns) with z | z
  · have := gcF_dvd h
    rw [z, Nat.zero_dvd] at this
    omega
  · exact z
theorem gcF_le {ns : List Int} {n : Int} (h : n ∈ ns) (h0 : n ≠ 0) : gcF ns ≤ n.natAbs := Nat.le_of_dvd (by omega) (gcF_dvd h)
theorem gcF_snoc {ns : List Int} {n : Int} : gcF (ns ++ [n]) = Nat.gcd (gcF ns) n.natAbs := by unfold gcF; rw [List.foldl_append]; rfl
def lcF (ds : List Nat) : Nat := ds.foldl (fun w d => Nat.lcm w d) 1
theorem lcF_snoc {ds : List Nat} {d : Nat} : lcF (ds ++ [d]) = Nat.lcm (lcF ds) d := by unfold lcF; rw [List.foldl_append]; rfl
theorem lcF_dvd_go (D : Nat) : ∀ (ds : List Nat) (w : Nat), w ∣ D → (∀ d ∈ ds, d ∣ D) → ds.foldl (fun w d => Nat.lcm w d) w ∣ D
  | [], w, h, _ => h
  | d :: ds, w, h, k => lcF_dvd_go D ds _ (Nat.lcm_dvd h (k d List.mem_cons_self)) fun e he => k e (List.mem_cons_of_mem _ he)
theorem lcF_dvd {D : Nat} {ds : List Nat} (k : ∀ d ∈ ds, d ∣ D) : lcF ds ∣ D := lcF_dvd_go D ds 1 (Nat.one_dvd _) k
theorem dvd_lcF_go : ∀ (ds : List Nat) (w : Nat), w ∣ ds.foldl (fun w d => Nat.lcm w d) w ∧ ∀ d ∈ ds, d ∣ ds.foldl (fun w d => Nat.lcm w d) w
  | [], w => ⟨Nat.dvd_refl _, fun _ h => by cases h⟩
  | d :: ds, w => by
    obtain ⟨h1, h2⟩ := dvd_lcF_go ds (Nat.lcm w d)
    refine ⟨Nat.dvd_trans (Nat.dvd_lcm_left _ _) h1, fun e he => ?_⟩
    rcases List.mem_cons.mp he with rfl | he
    · exact Nat.dvd_trans (Nat.dvd_lcm_right _ _) h1
    · exact h2 e he
theorem dvd_lcF {ds : List Nat} {d : Nat} (h : d ∈ ds) : d ∣ lcF ds := (dvd_lcF_go ds 1).2 d h
theorem log2_of {n k : Nat} (hk : 0 < k) (h : n < 2 ^ k) : n.log2 < k := by
  by_cases z : n = 0
  · rw [z]; exact hk
  · exact (Nat.log2_lt z).mpr h
/-- a dict from texts to integers -/
abbrev dI (zs : List Str) (w : Str → Int) : List (Key × V) := dF zs fun z => .int (w z)
/-- the positive ones, in order -/
noncomputable def posN (zs : List Str) (w : Str → Int) : List Str := (srt zs).filter fun z => decide (0 < w z)
def spLeast (K : PySem.W.Frag) : Sp := fun vs H Q _ => vs.length = 1 ∧ ∃ (d : Addr) (o : Obj) (zs : List Str) (w : Str → Int), vs = [.ref d] ∧ H d = some (.frz o (.dK (dI zs w))) ∧ zs.Nodup ∧ zs.length < 60 ∧ (∀ z ∈ zs, (w z).natAbs < 2 ^ 1000) ∧ (∃ z ∈ zs, 0 < w z) ∧
  ∀ q H', H q = none → Same H H' → H' q = some (.dK (dI (posN zs w) fun z => (w z).fdiv (gcF (zs.map w) : Nat))) → Q (.ref q) H'
abbrev s__least : Stmt := top 27
theorem sc__least : FnScope ["weights", "divisor", "name"] ["weights"] (defScope s__least) := ⟨rfl, rfl, rfl, by decide +kernel, rfl, by decide +kernel, by decide +kernel⟩
theorem ok__least {P : Program} {w : World} {K : PySem.W.Frag} {mg : Str → Option Value} {base : Heap} {f : Addr} {fd : FuncData} (F : L2.Fun K "_least" "_least" s__least f fd)
    (C_b_sorted : mg "sorted" = none)
    (C_m_gcd : mg "gcd" = some (.builtin "math.gcd")) :
    FnOk P w K mg base (L2.CX P w) 1 f fd ["weights"] (spLeast K) := by
  refine fnOk_mk F sc__least (fun vs H Q E h => h.1) (fun cdv A outer s H vs Q E hr h => ?_)
  obtain ⟨_, d, o, zs, w, rfl, hd, hnd, hl, hw, hp, k⟩ := h
  refine ⟨_, pss_cons (ps_set (i := 1) sc__least.nd rfl (Or.inr rfl) pe_int)
    (pss_cons (ps_for (passes_of rfl) rfl (pi_keys (pv 0)) (pg_name (i := 2) sc__least.nd rfl (Or.inl rfl)) (pss_one (ps_set (i := 1) sc__least.nd rfl (Or.inr rfl) (pe_callBfun cr_gcd (by rfl) C_m_gcd (pa_cons (pv 1) (pa_cons (pe_dget (hu_of hr) (pv 0) (pv 2) (fun _ _ => rfl)) pa_nil))))))
    (pss_one (ps_ret (pe_dc (own := [("name", 2)]) (by rfl) sc__least.nd (pi_any (K := K) rfl (pe_callB (k_sortD rfl) (by rfl) C_b_sorted (by decide +kernel) (pa_cons (pv 0) pa_nil))) (blkOk_by (N := ["weights", "divisor", "name"]) (sc := defScope s__least) (by decide +kernel)) (fun _ _ _ _ _ => pg_name (i := 2) sc__least.nd rfl (Or.inl rfl)) (fun _ _ _ _ _ => pts_one (pt_cmpR op_gt (pe_dget (hu_of hr) (pv 0) (pv 2) (fun _ _ => rfl)) pe_int (nomark _))) (fun _ _ _ _ _ => pv 2) (fun _ _ _ _ _ => pe_op op_fdivZ (pe_dget (hu_of hr) (pv 0) (pv 2) (fun _ _ => rfl)) (pv 1)))))), ?_⟩
  try dsimp only [cxOf]
  walk_at "rd"
  refine i_forK (H0 := H) (fun i σ H' => ∃ v, σ = [some (.ref d), some (.int ((gcF ((zs.take i).map w) : Nat) : Int)), v] ∧ H' = H) hd ⟨none, rfl, rfl⟩ (fun i σ H' h => by obtain ⟨_, _, rfl⟩ := h; exact AtS.refl) ?_ ?_
  · rintro i z σ H' hz ⟨v, rfl, rfl⟩
    have hm := List.mem_of_getElem? hz
    walk_at "rd"
    refine i_dgetR (.inr ⟨o, hd⟩) (valV_in hm) ?_
    walk_at "rd"
    refine ⟨some (.str z), ?_, rfl⟩
    rw [List.take_add_one, hz, List.map_append]
    show _ = [some (V.ref d), some (.int ((gcF ((zs.take i).map w ++ [w z]) : Nat) : Int)), _]
    rw [gcF_snoc]
    rfl
  · rintro σ H' ⟨v, rfl, rfl⟩
    rw [List.take_length]
    walk_at "rd"
    refine i_sortR (.inr ⟨o, hd⟩) (dF_keys _ _) (by omega) fun l H1 hl1 s1 o1 e1 => ?_
    walk_at "rd"
    obtain ⟨z0, hz0, p0⟩ := hp
    have gm : w z0 ∈ zs.map w := List.mem_map.mpr ⟨z0, hz0, rfl⟩
    have g0 := gcF_pos gm (by omega)
    have gl := gcF_le gm (by omega)
    have gc : ∀ i, CDivZ i ((gcF (zs.map w) : Nat) : Int) := fun i => ⟨by omega, by
      rw [Int.natAbs_natCast]
      exact Nat.lt_of_lt_of_le (log2_of (by decide) (Nat.lt_of_le_of_lt gl (hw _ hz0))) (by decide)⟩
    refine i_dcA (H0 := H1) (fun D i kvs H2 => Same H1 H2 ∧ kvs = dI (((srt zs).take i).filter fun z => decide (0 < w z)) fun z => (w z).fdiv (gcF (zs.map w) : Nat)) (SqA.l e1) (Same.refl _) (fun D H2 hD s e ho => ⟨s, rfl⟩) (fun D i kvs H2 p => p.1) ?_ ?_
    · rintro i x D kvs H2 hD hx eD ⟨s2, rfl⟩
      obtain ⟨z, hz, rfl⟩ := strs_at hx
      have hm : z ∈ zs := mem_srt.mp (List.mem_of_getElem? hz)
      have nz : z ∉ (srt zs).take i := nodup_take (srt_nodup hnd) hz
      have hd2 : H2 d = some (.frz o (.dK (dI zs w))) := s2 _ _ (s1 _ _ hd)
      walk_at "rd"
      refine ⟨by with_unfolding_all rfl, ?_⟩
      walk_at "rd"
      refine i_dgetR (.inr ⟨o, hd2⟩) (valV_in hm) ?_
      walk_at "rd"
      have tk : ((srt zs).take (i + 1)).filter (fun z => decide (0 < w z)) = ((srt zs).take i).filter (fun z => decide (0 < w z)) ++ if 0 < w z then [z] else [] := by
        rw [take_snoc hz, List.filter_append]
        by_cases h : 0 < w z
        · rw [if_pos h]; simp [h]
        · rw [if_neg h]; simp [h]
      refine i_dec (fun hp => ?_) (fun hp => ?_)
      · walk_at "rd"
        refine i_dgetR (.inr ⟨o, hd2⟩) (valV_in hm) ?_
        walk_at "rd"
        refine i_rI (gc _) ?_
        refine i_dcE eD (by rw [dF_len]; refine Nat.lt_of_le_of_lt (List.length_filter_le _ _) ?_; rw [List.length_take, (srt_perm zs).length_eq]; omega) fun H5 e5 o5 => ⟨fun b o e => ?_, ?_⟩
        · rw [o5 _ (ne_of_none e hD)]
          exact s2 _ _ e
        · rw [putK_dF, adK_new (fun g => nz (List.mem_filter.mp g).1), tk, if_pos hp]
          refine dF_congr fun y hy => ?_
          unfold upF
          split
          · rename_i e; rw [e]
          · rfl
      · refine ⟨_, eD, s2, ?_⟩
        rw [tk, if_neg hp, List.append_nil]
    · rintro D kvs H2 hD eD ⟨s2, rfl⟩
      rw [List.length_map, List.take_length] at eD
      refine k D H2 ?_ (s1.trans s2) eD
      cases z : H' D with
      | none => rfl
      | some o => rw [s1 _ _ z] at hD; cases hD
/-- p times L, an integer if L is a multiple of its bottom -/
def nOf (L : Nat) (p : Rat) : Int := p.num * ((L : Nat) : Int).fdiv (p.den : Int)
theorem nOf_eq {L : Nat} {p : Rat} (h : p.den ∣ L) : ((nOf L p : Int) : Rat) = p * (L : Rat) := by
  obtain ⟨m, rfl⟩ := h
  have hd : (p.den : Int) ≠ 0 := ZR.den_ne p
  have e : ((p.den * m : Nat) : Int).fdiv (p.den : Int) = (m : Int) := by
    rw [show ((p.den * m : Nat) : Int) = (p.den : Int) * (m : Int) by push_cast; rfl]
    exact Int.mul_fdiv_cancel_left _ hd
  have k : p * ((p.den : Nat) : Rat) = ((p.num : Int) : Rat) := by
    have e1 := ZR.r_self p
    have e2 := ZR.ci hd
    have e3 : (((p.den : Nat) : Int) : Rat) = ((p.den : Nat) : Rat) := rfl
    rw [e3] at e1 e2
    grind
  unfold nOf
  rw [e, Rat.intCast_mul, Rat.natCast_mul, ← k]
  have : ((m : Int) : Rat) = (m : Rat) := rfl
  rw [this]
  grind
def dens (ps : List (Addr × Rat)) : List Nat := ps.map fun x => x.2.den
def spScal (K : PySem.W.Frag) (CR : Addr) : Sp := fun vs H Q _ => vs.length = 1 ∧ ∃ (l : Addr) (ps : List (Addr × Rat)) (D : Nat), vs = [.ref l] ∧ SqL K H l (rfs ps) ∧ RsAt CR H ps ∧ ps.length ≤ 100 ∧ 0 < D ∧ D < 2 ^ 1000 ∧ (∀ x ∈ ps, x.2.den ∣ D ∧ x.2.num.natAbs < 2 ^ 1000) ∧
  ∀ T q H', H T = none → Same H H' → H' T = some (.tup [.ref q, .int ((lcF (dens ps) : Nat) : Int)]) → H' q = some (.lst ((ps.map fun x => nOf (lcF (dens ps)) x.2).map V.int)) → Q (.ref T) H'
theorem rfs_get {ps : List (Addr × Rat)} {i : Nat} {x : V} (h : (rfs ps)[i]? = some x) : ∃ y, ps[i]? = some y ∧ x = .ref y.1 := by
  unfold rfs at h
  rw [List.getElem?_map] at h
  obtain ⟨y, hy, e⟩ := Option.map_eq_some_iff.mp h
  exact ⟨y, hy, e.symm⟩
theorem lt2 {n m : Nat} (h : n ∣ m) (hm : 0 < m) {k : Nat} (l : m < 2 ^ k) : n < 2 ^ k := Nat.lt_of_le_of_lt (Nat.le_of_dvd hm h) l
abbrev s_scaled : Stmt := top 25
theorem sc_scaled : FnScope ["ratios", "whole", "ratio"] ["ratios"] (defScope s_scaled) := ⟨rfl, rfl, rfl, by decide +kernel, rfl, by decide +kernel, by decide +kernel⟩
theorem ok_scaled {P : Program} {w : World} {K : PySem.W.Frag} {mg : Str → Option Value} {base : Heap} {CR : Addr} {f : Addr} {fd : FuncData} (F : L2.Fun K "scaled" "scaled" s_scaled f fd)
    (C_c_Ratio : ClO K CR)
    (C_m_lcm : mg "lcm" = some (.builtin "math.lcm"))
    (C_na_Ratio_bottom : NoAttr K CR "bottom")
    (C_na_Ratio_top : NoAttr K CR "top") :
    FnOk P w K mg base (L2.CX P w) 1 f fd ["ratios"] (spScal K CR) := by
  refine fnOk_mk F sc_scaled (fun vs H Q E h => h.1) (fun cdv A outer s H vs Q E hr h => ?_)
  obtain ⟨_, l, ps, D, rfl, hl, hr, hn, hD, hD2, hp, k⟩ := h
  refine ⟨_, pss_cons (ps_set (i := 1) sc_scaled.nd rfl (Or.inr rfl) pe_int)
    (pss_cons (ps_for (passes_of rfl) rfl (pi_any (K := K) rfl (pv 0)) (pg_name (i := 2) sc_scaled.nd rfl (Or.inl rfl)) (pss_one (ps_set (i := 1) sc_scaled.nd rfl (Or.inr rfl) (pe_callBfun cr_lcm (by rfl) C_m_lcm (pa_cons (pv 1) (pa_cons (pe_fld (pv 2) rfl) pa_nil))))))
    (pss_one (ps_ret (pe_tup (pa_cons (pe_lc (own := [("ratio", 2)]) (by rfl) sc_scaled.nd (pi_any (K := K) rfl (pv 0)) (blkOk_by (N := ["ratios", "whole", "ratio"]) (sc := defScope s_scaled) (by decide +kernel)) (fun _ _ _ _ _ => pg_name (i := 2) sc_scaled.nd rfl (Or.inl rfl)) (fun _ _ _ _ _ => pts_nil) (fun _ _ _ _ _ => pe_op op_mulW (k_fld (K := K) rfl (pv 2) rfl) (pe_op op_fdivZ (pv 1) (k_fld (K := K) rfl (pv 2) rfl)))) (pa_cons (pv 1) pa_nil)))))), ?_⟩
  try dsimp only [cxOf]
  walk_at "rd"
  have dv : ∀ i, lcF (dens (ps.take i)) ∣ D := fun i => lcF_dvd fun d hd => by
    obtain ⟨x, hx, rfl⟩ := List.mem_map.mp hd
    exact (hp x (List.mem_of_mem_take hx)).1
  refine i_forA (H0 := H) (fun i σ H' => ∃ v, σ = [some (.ref l), some (.int ((lcF (dens (ps.take i)) : Nat) : Int)), v] ∧ H' = H) (.inl hl) ⟨none, rfl, rfl⟩ (fun i σ H' h => by obtain ⟨_, _, rfl⟩ := h; exact Same.refl _) ?_ ?_
  · rintro i x σ H' hx ⟨v, rfl, rfl⟩
    obtain ⟨y, hy, rfl⟩ := rfs_get hx
    have hm := List.mem_of_getElem? hy
    have hry := hr y hm
    walk_at "rd"
    refine ⟨_, _, rfl, ?_, ?_, ?_⟩
    · rw [Int.natAbs_natCast]
      exact Nat.lt_of_lt_of_le (log2_of (by decide) (lt2 (dv i) hD hD2)) (by decide)
    · rw [Int.natAbs_natCast]
      exact Nat.lt_of_lt_of_le (log2_of (by decide) (lt2 (hp y hm).1 hD hD2)) (by decide)
    walk_at "rd"
    refine ⟨some (.ref y.1), ?_, rfl⟩
    have e : dens (ps.take (i + 1)) = dens (ps.take i) ++ [y.2.den] := by
      unfold dens
      rw [List.take_add_one, hy, List.map_append]
      rfl
    rw [e, lcF_snoc]
    rfl
  · rintro σ H' ⟨v, rfl, rfl⟩
    have el : (rfs ps).length = ps.length := by unfold rfs; simp
    rw [el, List.take_length]
    have dv0 : lcF (dens ps) ∣ D := by have := dv ps.length; rwa [List.take_length] at this
    have cd : ∀ x ∈ ps, ∀ i, CDivZ i (x.2.den : Int) := fun x hx i => ⟨ZR.den_ne _, by
      rw [Int.natAbs_natCast]
      exact Nat.lt_of_lt_of_le (log2_of (by decide) (lt2 (hp x hx).1 hD hD2)) (by decide)⟩
    walk_at "rd"
    refine i_lcA (H0 := H') (fun i ys H2 => Same H' H2 ∧ ys = ((ps.take i).map fun x => nOf (lcF (dens ps)) x.2).map V.int) (.inl hl) (Same.refl _) (fun D H2 hD s e ho => ⟨s, rfl⟩) (fun i ys H2 p => p.1) ?_ ?_
    · rintro i x D2 ys H2 hD hx eD ⟨s2, rfl⟩
      obtain ⟨y, hy, rfl⟩ := rfs_get hx
      have hm := List.mem_of_getElem? hy
      have hry := (hr y hm).mono s2
      walk_at "rd"
      refine ⟨by with_unfolding_all rfl, ?_⟩
      walk_at "rd"
      refine i_rI (cd _ hm _) ?_
      have hdl : y.2.den ∣ lcF (dens ps) := dvd_lcF (List.mem_map.mpr ⟨y, hm, rfl⟩)
      have hq : ZR.Sz 1000 (((lcF (dens ps) : Nat) : Int).fdiv (y.2.den : Int)) := by
        obtain ⟨m, em⟩ := hdl
        rw [em, show ((y.2.den * m : Nat) : Int) = (y.2.den : Int) * (m : Int) by push_cast; rfl, Int.mul_fdiv_cancel_left _ (ZR.den_ne _)]
        show m < 2 ^ 1000
        refine Nat.lt_of_le_of_lt ?_ (lt2 dv0 (by assumption) hD2)
        rw [em]
        exact Nat.le_mul_of_pos_left _ (by have := y.2.den_nz; omega)
      refine i_rI (cmulW (n := 1000) (m := 1000) (hp y hm).2 hq) ?_
      refine i_lcE eD (by rw [List.length_map, List.length_map, List.length_take]; omega) fun H3 e3 o3 => ⟨fun b o e => ?_, ?_⟩
      · rw [o3 _ (ne_of_none e hD)]
        exact s2 _ _ e
      · rw [List.take_add_one, hy, List.map_append, List.map_append]
        rfl
    · rintro D2 ys H2 hD eD ⟨s2, rfl⟩
      rw [el, List.take_length] at eD
      walk_at "rd"
      refine i_tup1 (Nat.le_of_ble_eq_true rfl) fun c H3 hc s e ho => ?_
      refine k c D2 H3 ?_ (s2.trans s) e (s _ _ eD)
      cases z : H' c with
      | none => rfl
      | some o => rw [s2 _ _ z] at hc; cases hc
/-! rows of names and shares -/
/-- the sum of the shares of a name -/
def sumR (rs : List (Str × Rat)) (z : Str) : Rat := rs.foldl (fun s r => if r.1 = z then s + r.2 else s) 0
def keyR (rs : List (Str × Rat)) : List Str := rs.foldl (fun ks r => adK ks r.1) []
theorem sumR_snoc {rs : List (Str × Rat)} {r : Str × Rat} {z : Str} : sumR (rs ++ [r]) z = if r.1 = z then sumR rs z + r.2 else sumR rs z := by unfold sumR; rw [List.foldl_append]; rfl
theorem keyR_snoc {rs : List (Str × Rat)} {r : Str × Rat} : keyR (rs ++ [r]) = adK (keyR rs) r.1 := by unfold keyR; rw [List.foldl_append]; rfl
structure Row where
  q : Addr
  z : Str
  r : Addr
  p : Rat
def rowV (L : List Row) : List V := L.map fun x => V.ref x.q
def rowR (L : List Row) : List (Str × Rat) := L.map fun x => (x.z, x.p)
def rowP (L : List Row) : List (Addr × Rat) := L.map fun x => (x.r, x.p)
def RowsC (CR : Addr) (H : Hp) (L : List Row) : Prop := ∀ x ∈ L, H x.q = some (.tup [.str x.z, .ref x.r]) ∧ IsR CR H x.r x.p
theorem RowsC.mono {CR : Addr} {H H' : Hp} {L : List Row} (s : Same H H') (h : RowsC CR H L) : RowsC CR H' L := fun x hx => ⟨s _ _ (h x hx).1, (h x hx).2.mono s⟩
theorem rowV_get {L : List Row} {i : Nat} {x : V} (h : (rowV L)[i]? = some x) : ∃ y, L[i]? = some y ∧ x = .ref y.q := by
  unfold rowV at h
  rw [List.getElem?_map] at h
  obtain ⟨y, hy, e⟩ := Option.map_eq_some_iff.mp h
  exact ⟨y, hy, e.symm⟩
/-- integers in proportion -/
def amt (L : Nat) (rs : List (Str × Rat)) (z : Str) : Int := rs.foldl (fun s r => if r.1 = z then s + nOf L r.2 else s) 0
theorem amt_snoc {L : Nat} {rs : List (Str × Rat)} {r : Str × Rat} {z : Str} : amt L (rs ++ [r]) z = if r.1 = z then amt L rs z + nOf L r.2 else amt L rs z := by unfold amt; rw [List.foldl_append]; rfl
theorem i_dnew {σ : L2.St} {H : Hp} {Q : VK} (h : ∀ p H', H p = none → Same H H' → H' p = some (.dK []) → (∀ b, b ≠ p → H' b = H b) → Q (.ref p) H') : tDNewK σ H Q := fun p hp => h p _ hp (same_new hp) upd_same fun b hb => upd_ne hb
theorem getD_dI {zs : List Str} {w : Str → Int} {z : Str} (h : z ∉ zs → w z = 0) : (valV (dI zs w) (.inr z)).getD (.int 0) = .int (w z) := by
  rw [valV_dF]
  by_cases e : z ∈ zs
  · rw [if_pos e]; rfl
  · rw [if_neg e, h e]; rfl
theorem rowR_take {L : List Row} {i : Nat} {y : Row} (h : L[i]? = some y) : rowR (L.take (i + 1)) = rowR (L.take i) ++ [(y.z, y.p)] := by
  unfold rowR
  rw [List.take_add_one, h, List.map_append]
  rfl
theorem keyR_nodup_step {rs : List (Str × Rat)} {r : Str × Rat} (h : (keyR rs).Nodup) : (keyR (rs ++ [r])).Nodup := by rw [keyR_snoc]; exact adK_nodup h
def spInP (K : PySem.W.Frag) (CR : Addr) : Sp := fun vs H Q _ => vs.length = 1 ∧ ∃ (l : Addr) (L : List Row) (D : Nat), vs = [.ref l] ∧ SqL K H l (rowV L) ∧ RowsC CR H L ∧ L.length ≤ 100 ∧ 0 < D ∧ D < 2 ^ 1000 ∧ (∀ x ∈ L, x.p.den ∣ D ∧ x.p.num.natAbs < 2 ^ 1000) ∧
  ∀ q o H', H q = none → Same H H' → H' q = some (.frz o (.dK (dI (keyR (rowR L)) (amt (lcF (dens (rowP L))) (rowR L))))) → Q (.ref q) H'
abbrev s_in_proportion : Stmt := top 28
theorem sc_in_proportion : FnScope ["rows", "amounts", "_", "share", "weights", "name", "amount"] ["rows"] (defScope s_in_proportion) := ⟨rfl, rfl, rfl, by decide +kernel, rfl, by decide +kernel, by decide +kernel⟩
theorem ok_in_proportion {P : Program} {w : World} {K : PySem.W.Frag} {mg : Str → Option Value} {base : Heap} {CR : Addr} {f : Addr} {fd : FuncData} (F : L2.Fun K "in_proportion" "in_proportion" s_in_proportion f fd)
    (C_b_zip : mg "zip" = none)
    (C_f_scaled : Cal P w K mg base "scaled" 1 (spScal K CR)) :
    FnOk P w K mg base (L2.CX P w) 2 f fd ["rows"] (spInP K CR) := by
  refine fnOk_mk F sc_in_proportion (fun vs H Q E h => h.1) (fun cdv A outer s H vs Q E hr h => ?_)
  obtain ⟨_, l, L, D, rfl, hl, hR, hn, hD, hD2, hp, k⟩ := h
  refine ⟨_, pss_cons (ps_asg (z_callC C_f_scaled hr passN (pa_cons (pe_lc (own := [("_", 2), ("share", 3)]) (by rfl) sc_in_proportion.nd (pi_any (K := K) rfl (pv 0)) (blkOk_by (N := ["rows", "amounts", "_", "share", "weights", "name", "amount"]) (sc := defScope s_in_proportion) (by decide +kernel)) (fun _ _ _ _ _ => k_tup (K := K) (n := 2) rfl rfl (pgs_cons (pg_name (i := 2) sc_in_proportion.nd rfl (Or.inl rfl)) (pgs_cons (pg_name (i := 3) sc_in_proportion.nd rfl (Or.inl rfl)) pgs_nil))) (fun _ _ _ _ _ => pts_nil) (fun _ _ _ _ _ => pv 3)) pa_nil)) (k_tup (K := K) (n := 2) rfl rfl (pgs_cons (pg_name (i := 1) sc_in_proportion.nd rfl (Or.inl rfl)) (pgs_cons (pg_name (i := 2) sc_in_proportion.nd rfl (Or.inl rfl)) pgs_nil))))
    (pss_cons (ps_set (i := 4) sc_in_proportion.nd rfl (Or.inl rfl) pe_dnewK)
    (pss_cons (ps_for (passes_of rfl) rfl (pi_zip (by rfl) C_b_zip (pa_cons (pv 0) (pa_cons (pv 1) pa_nil))) (k_tup (K := K) (n := 2) rfl rfl (pgs_cons (k_tup (K := K) (n := 2) rfl rfl (pgs_cons (pg_name (i := 5) sc_in_proportion.nd rfl (Or.inl rfl)) (pgs_cons (pg_name (i := 2) sc_in_proportion.nd rfl (Or.inl rfl)) pgs_nil))) (pgs_cons (pg_name (i := 6) sc_in_proportion.nd rfl (Or.inl rfl)) pgs_nil))) (pss_one (ps_dput (hu_of hr) (pv 4) (pv 5) (pe_op op_add (pe_dget2 (hu_of hr) (pv 4) (pv 5) pe_int ⟨by rfl, by rfl, by rfl, by rfl⟩) (pv 6)) (by rfl))))
    (pss_one (ps_frz (ps_ret (pv 4)))))), ?_⟩
  try dsimp only [cxOf]
  walk_at "rd"
  refine i_lcA (H0 := H) (fun i ys H2 => Same H H2 ∧ ys = rfs ((rowP L).take i)) (.inl hl) (Same.refl _) (fun D H2 hD s e ho => ⟨s, rfl⟩) (fun i ys H2 p => p.1) ?_ ?_
  · rintro i x D2 ys H2 hD hx eD ⟨s2, rfl⟩
    obtain ⟨y, hy, rfl⟩ := rowV_get hx
    have hm := List.mem_of_getElem? hy
    obtain ⟨h1, h2⟩ := (hR.mono s2) y hm
    walk_at "rd"
    refine i_gtup (.of h1) rfl ?_
    walk_at "rd"
    refine ⟨by with_unfolding_all rfl, ?_⟩
    walk_at "rd"
    refine i_lcE eD (by unfold rfs rowP; rw [List.length_map, List.length_take, List.length_map]; omega) fun H3 e3 o3 => ⟨fun b o e => ?_, ?_⟩
    · rw [o3 _ (ne_of_none e hD)]
      exact s2 _ _ e
    · have e : (rowP L)[i]? = some (y.r, y.p) := by unfold rowP; rw [List.getElem?_map, hy]; rfl
      rw [List.take_add_one, e]
      unfold rfs
      rw [List.map_append]
      rfl
  · rintro D2 ys H2 hD2' eD ⟨s2, rfl⟩
    have el : (rowV L).length = (rowP L).length := by unfold rowV rowP; simp
    rw [el, List.take_length] at eD
    walk_at "rd"
    refine ⟨rfl, D2, rowP L, D, rfl, .of eD, fun x hx => ?_, by unfold rowP; simpa using hn, hD, hD2, fun x hx => ?_, fun T q H3 hT s3 e3 eq3 => ?_⟩
    · obtain ⟨y, hy, rfl⟩ := List.mem_map.mp hx
      exact ((hR.mono s2) y hy).2
    · obtain ⟨y, hy, rfl⟩ := List.mem_map.mp hx
      exact hp y hy
    refine i_gtup (.of e3) rfl ?_
    walk_at "rd"
    refine i_dnew fun dW H4 hdW s4 e4 o4 => ?_
    walk_at "rd"
    have hl3 : SqL K H3 l (rowV L) := (s2.trans s3).seq hl
    have hR3 : RowsC CR H3 L := hR.mono (s2.trans s3)
    generalize hLC : lcF (dens (rowP L)) = LC at *
    refine i_forZ (H0 := H3) (xs := rowV L) (ys := ((rowP L).map fun x => nOf LC x.2).map V.int) (fun i σ H' => ∃ v2 v3 v5 v6, σ = [some (.ref l), some (.ref q), v2, v3, some (.ref dW), v5, v6] ∧ Same H3 H' ∧ H' dW = some (.dK (dI (keyR (rowR (L.take i))) (amt LC (rowR (L.take i))))) ∧ (keyR (rowR (L.take i))).length ≤ i ∧ ∀ z, z ∉ keyR (rowR (L.take i)) → amt LC (rowR (L.take i)) z = 0)
      hl3 (.of eq3) (by unfold rowV rowP; simp) ⟨_, none, none, none, rfl, s4, e4, Nat.le_refl _, fun z _ => rfl⟩ (fun i σ H1 h => by obtain ⟨_, _, _, _, _, s, _⟩ := h; exact s) ?_ ?_
    · rintro i x v T5 σ H5 H6 hx hv ⟨v2, v3, v5, v6, rfl, s5, e5, l5, z5⟩ hT5 s6 e6 o6
      obtain ⟨y, hy, rfl⟩ := rowV_get hx
      have hm := List.mem_of_getElem? hy
      have hi : i < L.length := (List.getElem?_eq_some_iff.mp hy).1
      have ev : v = .int (nOf LC y.p) := by
        unfold rowP at hv
        rw [List.getElem?_map, List.getElem?_map, List.getElem?_map, hy] at hv
        exact (Option.some.inj hv).symm
      subst ev
      obtain ⟨h1, h2⟩ := hR3 y hm
      refine i_gtup (.of e6) rfl ?_
      walk_at "rd"
      refine i_gtup (.of (s6 _ _ (s5 _ _ h1))) rfl ?_
      walk_at "rd"
      have e56 : H6 dW = some (.dK (dI (keyR (rowR (L.take i))) (amt LC (rowR (L.take i))))) := s6 _ _ e5
      refine i_dget2 (.inl e56) ?_
      walk_at "rd"
      refine i_dget2b (.inl e56) ?_
      rw [getD_dI (z5 _)]
      walk_at "rd"
      refine i_dputF e56 (by omega) fun H7 e7 o7 => ?_
      walk_at "rd"
      refine ⟨_, _, _, _, rfl, fun b o e => ?_, ?_, ?_, ?_⟩
      · rw [o7 b (ne_of_none e hdW)]
        exact s6 _ _ (s5 _ _ e)
      · rw [e7, rowR_take hy, keyR_snoc]
        congr 3
        funext u
        rw [amt_snoc]
        unfold upF
        by_cases e : u = y.z
        · rw [if_pos e, if_pos e.symm, e]
        · rw [if_neg e, if_neg (fun g => e g.symm)]
      · rw [rowR_take hy, keyR_snoc]
        exact Nat.le_trans adK_len (by omega)
      · intro z hz
        rw [rowR_take hy, keyR_snoc, mem_adK] at hz
        rw [rowR_take hy, amt_snoc, if_neg (fun g => hz (.inr g.symm))]
        exact z5 z fun g => hz (.inl g)
    · rintro σ H5 ⟨v2, v3, v5, v6, rfl, s5, e5, l5, z5⟩
      have el2 : (rowV L).length = L.length := by unfold rowV; simp
      rw [el2, List.take_length] at e5
      refine i_frz e5 trivial fun od H6 e6 o6 => ?_
      walk_at "rd"
      refine k dW od H6 ?_ (fun b o e => ?_) e6
      · cases z : H dW with
        | none => rfl
        | some o => rw [s3 _ _ (s2 _ _ z)] at hdW; cases hdW
      · have nb : b ≠ dW := fun z => by rw [z] at e; rw [s3 _ _ (s2 _ _ e)] at hdW; cases hdW
        rw [o6 b nb]
        exact s5 _ _ (s3 _ _ (s2 _ _ e))
/-! ### chances -/
theorem gcF_great {k : Nat} : ∀ (ns : List Int) (g : Nat), k ∣ g → (∀ n ∈ ns, k ∣ n.natAbs) → k ∣ ns.foldl (fun g n => Nat.gcd g n.natAbs) g
  | [], g, h, _ => h
  | n :: ns, g, h, hs => gcF_great ns _ (Nat.dvd_gcd h (hs n List.mem_cons_self)) fun m hm => hs m (List.mem_cons_of_mem _ hm)
theorem gcF_scale (c : Nat) : ∀ (ns : List Int) (g : Nat), (ns.map fun n => n * (c : Int)).foldl (fun g n => Nat.gcd g n.natAbs) (g * c) = ns.foldl (fun g n => Nat.gcd g n.natAbs) g * c
  | [], g => rfl
  | n :: ns, g => by
    rw [List.map_cons, List.foldl_cons, List.foldl_cons, Int.natAbs_mul, Int.natAbs_natCast, Nat.gcd_mul_right]
    exact gcF_scale c ns _
structure ChD (B : Nat) (N : List Str) (w : Str → Int) (S : Int) : Prop where
  pos : ∀ z ∈ N, 0 < w z
  nodup : N.Nodup
  sorted : srt N = N
  sum : S = (N.map w).sum
  len : N.length < 60
  nm : ∀ z ∈ N, nameB z = true
  ne : 0 < S
  sz : S < (2 : Int) ^ B
  cop : gcF (N.map w) = 1
def cf (d : Addr) (S : Int) : List (Str × V) := [(("_weights" : Str), .ref d), (("_sum" : Str), .int S)]
def IsC (CC : Addr) (H : Hp) (a : Addr) (B : Nat) (N : List Str) (p : Str → Rat) : Prop := ∃ dx d o w S, H a = some (.ins CC dx (cf d S)) ∧ H d = some (.frz o (.dK (dI N w))) ∧ ChD B N w S ∧ ∀ z, p z = if z ∈ N then ((w z : Int) : Rat) / ((S : Int) : Rat) else 0
/-- and its dict is new -/
def IsCf (CC : Addr) (H0 H : Hp) (a : Addr) (B : Nat) (N : List Str) (p : Str → Rat) : Prop := ∃ dx d o w S, H a = some (.ins CC dx (cf d S)) ∧ H d = some (.frz o (.dK (dI N w))) ∧ ChD B N w S ∧ (∀ z, p z = if z ∈ N then ((w z : Int) : Rat) / ((S : Int) : Rat) else 0) ∧ H0 d = none
theorem IsCf.is {CC a : Addr} {H0 H : Hp} {B : Nat} {N : List Str} {p : Str → Rat} (h : IsCf CC H0 H a B N p) : IsC CC H a B N p := let ⟨dx, d, o, w, S, h1, h2, h3, h4, _⟩ := h; ⟨dx, d, o, w, S, h1, h2, h3, h4⟩
theorem IsC.mono {CC a : Addr} {H H' : Hp} {B : Nat} {N : List Str} {p : Str → Rat} (s : Same H H') (h : IsC CC H a B N p) : IsC CC H' a B N p := let ⟨dx, d, o, w, S, h1, h2, h3, h4⟩ := h; ⟨dx, d, o, w, S, s _ _ h1, s _ _ h2, h3, h4⟩
theorem cf_w (d : Addr) (S : Int) : List.lookup ("_weights" : Str) (cf d S) = some (V.ref d) := by simp [cf, List.lookup]
theorem cf_w1 {d : Addr} : List.lookup ("_weights" : Str) ([("_weights", V.ref d)] : List (Str × V)) = some (V.ref d) := by simp [List.lookup]
theorem cf_s (d : Addr) (S : Int) : List.lookup ("_sum" : Str) (cf d S) = some (V.int S) := by
  have : (("_sum" : Str) == ("_weights" : Str)) = false := by decide +kernel
  simp [cf, List.lookup, this]
theorem cf_p1 (t : V) : putF ("_weights" : Str) t [] = [(("_weights" : Str), t)] := rfl
theorem cf_p2 (d : Addr) (S : Int) : putF ("_sum" : Str) (.int S) [(("_weights" : Str), V.ref d)] = cf d S := by
  show (if ("_weights" : Str) = "_sum" then _ else (("_weights" : Str), V.ref d) :: putF "_sum" (.int S) []) = _
  rw [if_neg (by decide +kernel)]
  rfl
theorem sum_perm {l m : List Int} (h : l.Perm m) : l.sum = m.sum := by
  induction h with
  | nil => rfl
  | cons x _ ih => rw [List.sum_cons, List.sum_cons, ih]
  | swap x y l => rw [List.sum_cons, List.sum_cons, List.sum_cons, List.sum_cons]; omega
  | trans _ _ h1 h2 => exact h1.trans h2
theorem sum_pos_filter (w : Str → Int) : ∀ l : List Str, (∀ z ∈ l, 0 ≤ w z) → ((l.filter fun z => decide (0 < w z)).map w).sum = (l.map w).sum
  | [], _ => rfl
  | z :: l, h => by
    have ih := sum_pos_filter w l fun y hy => h y (List.mem_cons_of_mem _ hy)
    have h0 := h z List.mem_cons_self
    rw [List.map_cons, List.sum_cons]
    by_cases hp : 0 < w z
    · rw [List.filter_cons_of_pos (by simpa using hp), List.map_cons, List.sum_cons, ih]
    · rw [List.filter_cons_of_neg (by simpa using hp), ih]
      omega
theorem sum_posN {zs : List Str} {w : Str → Int} (h : ∀ z ∈ zs, 0 ≤ w z) : ((posN zs w).map w).sum = (zs.map w).sum := by
  unfold posN
  rw [sum_pos_filter w _ fun z hz => h z (mem_srt.mp hz)]
  exact sum_perm ((srt_perm zs).map w)
theorem sum_scale {g : Int} {w v : Str → Int} : ∀ l : List Str, (∀ z ∈ l, w z = g * v z) → (l.map w).sum = g * (l.map v).sum
  | [], _ => by simp
  | z :: l, h => by
    rw [List.map_cons, List.map_cons, List.sum_cons, List.sum_cons, sum_scale l fun y hy => h y (List.mem_cons_of_mem _ hy), h z List.mem_cons_self, Int.mul_add]
theorem sum_ge {v : Str → Int} : ∀ {l : List Str}, (∀ z ∈ l, 0 ≤ v z) → ∀ z ∈ l, v z ≤ (l.map v).sum
  | y :: l, h, z, hz => by
    have h0 := h y List.mem_cons_self
    have hs : 0 ≤ (l.map v).sum := by
      clear hz
      have : ∀ m : List Str, (∀ z ∈ m, 0 ≤ v z) → 0 ≤ (m.map v).sum := by
        intro m
        induction m with
        | nil => intro _; simp
        | cons x m ih =>
          intro h
          have := ih fun y hy => h y (List.mem_cons_of_mem _ hy)
          have := h x List.mem_cons_self
          rw [List.map_cons, List.sum_cons]
          omega
      exact this l fun y hy => h y (List.mem_cons_of_mem _ hy)
    rw [List.map_cons, List.sum_cons]
    rcases List.mem_cons.mp hz with rfl | hz
    · omega
    · have := sum_ge (fun y hy => h y (List.mem_cons_of_mem _ hy)) z hz
      omega
theorem mem_posN {zs : List Str} {w : Str → Int} {z : Str} : z ∈ posN zs w ↔ z ∈ zs ∧ 0 < w z := by
  unfold posN
  rw [List.mem_filter, mem_srt]
  simp
theorem posN_nodup {zs : List Str} {w : Str → Int} (h : zs.Nodup) : (posN zs w).Nodup := (srt_nodup h).filter _
theorem posN_len {zs : List Str} {w : Str → Int} : (posN zs w).length ≤ zs.length := by
  unfold posN
  exact Nat.le_trans (List.length_filter_le _ _) (by rw [(srt_perm zs).length_eq]; exact Nat.le_refl _)
theorem posN_srt {zs : List Str} {w : Str → Int} : srt (posN zs w) = posN zs w := srt_of_pw ((srt_pw zs).filter _)
/-- what a weighting gives -/
theorem chd_of {B : Nat} {zs : List Str} {w : Str → Int} (hnd : zs.Nodup) (hl : zs.length < 60) (hn : ∀ z ∈ zs, nameB z = true) (h0 : ∀ z ∈ zs, 0 ≤ w z) (hp : ∃ z ∈ zs, 0 < w z) (hB : (zs.map w).sum < (2 : Int) ^ B) :
    ChD B (posN zs w) (fun z => (w z).fdiv (gcF (zs.map w) : Nat)) (((posN zs w).map fun z => (w z).fdiv (gcF (zs.map w) : Nat)).sum) ∧
    ∀ z, (if z ∈ zs then ((w z : Int) : Rat) / (((zs.map w).sum : Int) : Rat) else 0) = if z ∈ posN zs w then (((w z).fdiv (gcF (zs.map w) : Nat) : Int) : Rat) / ((((posN zs w).map fun z => (w z).fdiv (gcF (zs.map w) : Nat)).sum : Int) : Rat) else 0 := by
  obtain ⟨z0, hz0, p0⟩ := hp
  have gp : 0 < gcF (zs.map w) := gcF_pos (List.mem_map.mpr ⟨z0, hz0, rfl⟩) (by omega)
  generalize hg : gcF (zs.map w) = g at *
  have gd : ∀ z ∈ zs, w z = (g : Int) * (w z).fdiv (g : Int) := fun z hz => by
    have : g ∣ (w z).natAbs := by rw [← hg]; exact gcF_dvd (List.mem_map.mpr ⟨z, hz, rfl⟩)
    obtain ⟨m, hm⟩ := Int.ofNat_dvd_left.mpr this
    rw [hm, Int.mul_fdiv_cancel_left _ (by omega)]
  have pv : ∀ z ∈ posN zs w, 0 < (w z).fdiv (g : Int) := fun z hz => by
    obtain ⟨h1, h2⟩ := mem_posN.mp hz
    have := gd z h1
    rcases Int.lt_trichotomy ((w z).fdiv (g : Int)) 0 with h | h | h
    · have := Int.mul_neg_of_pos_of_neg (show (0 : Int) < (g : Int) by omega) h
      omega
    · rw [h, Int.mul_zero] at this; omega
    · exact h
  have es : (zs.map w).sum = (g : Int) * ((posN zs w).map fun z => (w z).fdiv (g : Int)).sum := by
    rw [← sum_posN h0]
    exact sum_scale _ fun z hz => gd z (mem_posN.mp hz).1
  generalize hS : ((posN zs w).map fun z => (w z).fdiv (g : Int)).sum = S at *
  have m0 : z0 ∈ posN zs w := mem_posN.mpr ⟨hz0, p0⟩
  have Sp : 0 < S := by
    have := sum_ge (v := fun z => (w z).fdiv (g : Int)) (l := posN zs w) (fun z hz => by have := pv z hz; omega) z0 m0
    have := pv z0 m0
    rw [hS] at *
    omega
  have cop : gcF ((posN zs w).map fun z => (w z).fdiv (g : Int)) = 1 := by
    have hd : g * gcF ((posN zs w).map fun z => (w z).fdiv (g : Int)) ∣ g := by
      conv => rhs; rw [← hg]
      refine gcF_great _ 0 (Nat.dvd_zero _) fun n hn => ?_
      obtain ⟨z, hz, rfl⟩ := List.mem_map.mp hn
      by_cases h : 0 < w z
      · rw [gd z hz, Int.natAbs_mul, Int.natAbs_natCast]
        exact Nat.mul_dvd_mul_left g (gcF_dvd (List.mem_map.mpr ⟨z, mem_posN.mpr ⟨hz, h⟩, rfl⟩))
      · have : w z = 0 := by have := h0 z hz; omega
        rw [this]
        exact Nat.dvd_zero _
    have h2 : gcF ((posN zs w).map fun z => (w z).fdiv (g : Int)) ∣ 1 := (Nat.mul_dvd_mul_iff_left gp).mp (by rw [Nat.mul_one]; exact hd)
    exact Nat.dvd_one.mp h2
  refine ⟨⟨pv, posN_nodup hnd, posN_srt, hS.symm, Nat.lt_of_le_of_lt posN_len hl, fun z hz => hn z (mem_posN.mp hz).1, Sp, ?_, cop⟩, fun z => ?_⟩
  · refine Int.lt_of_le_of_lt ?_ hB
    rw [es]
    have : (1 : Int) * S ≤ (g : Int) * S := Int.mul_le_mul_of_nonneg_right (by omega) (by omega)
    omega
  · by_cases hz : z ∈ zs
    · rw [if_pos hz]
      by_cases h : 0 < w z
      · rw [if_pos (mem_posN.mpr ⟨hz, h⟩), es]
        conv => lhs; rw [gd z hz]
        have g0 : ((g : Int) : Rat) ≠ 0 := ZR.ci (by omega)
        have s0 : ((S : Int) : Rat) ≠ 0 := ZR.ci (by omega)
        rw [Rat.intCast_mul, Rat.intCast_mul]
        grind
      · rw [if_neg (fun q => h (mem_posN.mp q).2)]
        have : w z = 0 := by have := h0 z hz; omega
        rw [this, show ((0 : Int) : Rat) = 0 from rfl, Rat.div_def, Rat.zero_mul]
    · rw [if_neg hz, if_neg (fun q => hz (mem_posN.mp q).1)]
def But (a : Addr) (H H' : Hp) : Prop := ∀ x o, x ≠ a → H x = some o → H' x = some o
theorem But.same {a : Addr} {H H' : Hp} (t : But a H H') {H0 : Hp} (n : H0 a = none) (s : Same H0 H) : Same H0 H' := fun b o e => t b o (ne_of_none e n) (s _ _ e)
theorem But.trans {a : Addr} {H H1 H2 : Hp} (s : But a H H1) (t : But a H1 H2) : But a H H2 := fun x o hx e => t x o hx (s x o hx e)
theorem But.of {a : Addr} {H H' : Hp} (s : Same H H') : But a H H' := fun x o _ e => s _ _ e
theorem But.of' {a : Addr} {H H' : Hp} (o : ∀ b, b ≠ a → H' b = H b) : But a H H' := fun x y hx e => by rw [o x hx]; exact e
theorem same_noneV {H H' : Hp} {q : Addr} (s : Same H H') (h : H' q = none) : H q = none := by
  cases z : H q with
  | none => rfl
  | some o => rw [s _ _ z] at h; cases h
theorem dI_vals (zs : List Str) (w : Str → Int) : (dI zs w).map (·.2) = (zs.map w).map V.int := by rw [dF_vals, List.map_map]; rfl
/-- the first fault of a weighting: no name, or below zero -/
noncomputable def badW (zs : List Str) (w : Str → Int) : Option (Bool × Str) := ((srt zs).find? fun z => !nameB z || decide (w z < 0)).map fun z => (nameB z, z)
theorem badW_at {zs : List Str} {w : Str → Int} {i : Nat} {z : Str} {b : Bool} (hz : (srt zs)[i]? = some z) (hk : ∀ y ∈ (srt zs).take i, nameB y = true ∧ 0 ≤ w y) (hb : nameB z = b) (h : b = true → w z < 0) : badW zs w = some (b, z) := by
  unfold badW
  have : (srt zs).find? (fun z => !nameB z || decide (w z < 0)) = some z := by
    rw [List.find?_eq_some_iff_getElem]
    obtain ⟨lt, ez⟩ := List.getElem?_eq_some_iff.mp hz
    refine ⟨?_, i, lt, ez, fun j hj => ?_⟩
    · cases b
      · rw [hb]; rfl
      · rw [hb, decide_eq_true (h rfl)]; rfl
    · obtain ⟨h1, h2⟩ := hk (srt zs)[j] (List.mem_iff_getElem.mpr ⟨j, by rw [List.length_take]; omega, by simp⟩)
      rw [h1, decide_eq_false (by omega)]
      rfl
  rw [this]
  show some (nameB z, z) = _
  rw [hb]
theorem badW_none {zs : List Str} {w : Str → Int} (hk : ∀ y ∈ srt zs, nameB y = true ∧ 0 ≤ w y) : badW zs w = none := by
  unfold badW
  have : (srt zs).find? (fun z => !nameB z || decide (w z < 0)) = none := by
    rw [List.find?_eq_none]
    intro y hy
    obtain ⟨h1, h2⟩ := hk y hy
    rw [h1, decide_eq_false (by omega)]
    simp
  rw [this]
  rfl
theorem sum_pos_ex {w : Str → Int} : ∀ {l : List Str}, (∀ z ∈ l, 0 ≤ w z) → (l.map w).sum ≠ 0 → ∃ z ∈ l, 0 < w z
  | [], _, h => absurd rfl h
  | z :: l, h, hs => by
    have h0 := h z List.mem_cons_self
    by_cases p : 0 < w z
    · exact ⟨z, List.mem_cons_self, p⟩
    · rw [List.map_cons, List.sum_cons] at hs
      obtain ⟨y, hy, py⟩ := sum_pos_ex (l := l) (fun y hy => h y (List.mem_cons_of_mem _ hy)) (by omega)
      exact ⟨y, List.mem_cons_of_mem _ hy, py⟩
def spCInitG (K : PySem.W.Frag) (CR CC CB CN CX : Addr) : Sp := fun vs H Q E => vs.length = 2 ∧ ∃ (a d : Addr) (o : Obj) (zs : List Str) (w : Str → Int) (B : Nat), vs = [.ref a, .ref d] ∧ (∃ dx, H a = some (.ins CC dx [])) ∧ H d = some (.frz o (.dK (dI zs w))) ∧ zs.Nodup ∧ zs.length < 60 ∧ (∀ z ∈ zs, z.length ≤ 1000 ∧ RW z ∧ (w z).natAbs < 2 ^ 900) ∧ (zs.map w).sum < (2 : Int) ^ B ∧
  (∀ z, badW zs w = some (false, z) → EName CN z H E) ∧ (∀ z, badW zs w = some (true, z) → EBad CB (w z) H E) ∧
  (badW zs w = none → (zs.map w).sum = 0 → ∀ r d' H', Same H H' → H' d' = some (.xd [("total", .ref r)]) → IsR CR H' r 0 → E (.ref CX) (some d') H') ∧
  (badW zs w = none → (zs.map w).sum ≠ 0 → ∀ H', IsCf CC H H' a B (posN zs w) (fun z => if z ∈ zs then ((w z : Int) : Rat) / (((zs.map w).sum : Int) : Rat) else 0) → But a H H' → Q .non H')
abbrev s_Chance___init__ : Stmt := inClass (top 29) 0
theorem sc_Chance___init__ : FnScope ["self", "weights", "name"] ["self", "weights"] (defScope s_Chance___init__) := ⟨rfl, rfl, rfl, by decide +kernel, rfl, by decide +kernel, by decide +kernel⟩
theorem ok_Chance___init__ {P : Program} {w : World} {K : PySem.W.Frag} {mg : Str → Option Value} {base : Heap} {CB CC CN CR CX : Addr} {f : Addr} {fd : FuncData} (F : L2.Fun K "__init__" "Chance.__init__" s_Chance___init__ f fd)
    (C_b_sorted : mg "sorted" = none)
    (C_b_sum : mg "sum" = none)
    (C_c_Chance : ClO K CC)
    (C_f_is_name : Cal P w K mg base "is_name" 1 spIsName)
    (C_f_least : Cal P w K mg base "_least" 1 (spLeast K))
    (C_gRatio : mg "Ratio" = some (.ref CR))
    (C_k_Ratio_whole : CalK P w K mg base CR "whole" 10 (spRWhole CR))
    (C_na_Chance__sum : NoAttr K CC "_sum")
    (C_na_Chance__weights : NoAttr K CC "_weights")
    (C_x_BadName : CalX P w K mg base "BadName" CN 1 ["self", "name"] (spX1 K CN "name" GStW))
    (C_x_BadNumber : CalX P w K mg base "BadNumber" CB 6 ["self", "n"] (spX1 K CB "n" (GNum CR)))
    (C_x_BadShares : CalX P w K mg base "BadShares" CX 6 ["self", "total"] (spX1 K CX "total" (GNum CR))) :
    FnOk P w K mg base (L2.CX P w) 11 f fd ["self", "weights"] (spCInitG K CR CC CB CN CX) := by
  refine fnOk_mk F sc_Chance___init__ (fun vs H Q E h => h.1) (fun cdv A outer s H vs Q E hr h => ?_)
  obtain ⟨_, a, d, o, zs, w, B, rfl, ⟨dx, ha⟩, hd, hnd, hl, hw, hB, kN, kB, kS, k⟩ := h
  refine ⟨_, pss_cons (ps_for (passes_of rfl) rfl (pi_any (K := K) rfl (pe_callB (k_sortD rfl) (by rfl) C_b_sorted (by decide +kernel) (pa_cons (pv 1) pa_nil))) (pg_name (i := 2) sc_Chance___init__.nd rfl (Or.inl rfl)) (pss_cons (ps_if (pt_not (pt_val (z_callC C_f_is_name hr passN (pa_cons (pv 2) pa_nil)))) (pss_one (ps_raise rfl (takes_of rfl rfl rfl rfl) (z_mkX C_x_BadName hr (pa_cons (pv 2) pa_nil)))) (pss_nil))
    (pss_one (ps_if (pt_cmpR op_lt (pe_dget (hu_of hr) (pv 1) (pv 2) (fun _ _ => rfl)) pe_int (nomark _)) (pss_one (ps_raise rfl (takes_of rfl rfl rfl rfl) (z_mkX C_x_BadNumber hr (pa_cons (pe_dget (hu_of hr) (pv 1) (pv 2) (fun _ _ => rfl)) pa_nil)))) (pss_nil)))))
    (pss_cons (ps_if (pt_cmpR op_eq (pe_callB (cr_sumV rfl) (by rfl) C_b_sum (by decide +kernel) (pa_cons (pe_vals (pv 1)) pa_nil)) pe_int (nomark _)) (pss_one (ps_raise rfl (takes_of rfl rfl rfl rfl) (z_mkX C_x_BadShares hr (pa_cons (z_cmethC (pe_glob (v := .ref CR) rfl C_gRatio rfl) C_k_Ratio_whole hr passN (pa_cons pe_int pa_nil)) pa_nil)))) (pss_nil))
    (pss_cons (ps_fld (pv 0) (z_callC C_f_least hr passN (pa_cons (pv 1) pa_nil)) rfl)
    (pss_one (ps_frz (ps_fld (pv 0) (pe_callB (cr_sumV rfl) (by rfl) C_b_sum (by decide +kernel) (pa_cons (pe_vals (pe_fld (pv 0) rfl)) pa_nil)) rfl))))), ?_⟩
  try dsimp only [cxOf]
  walk_at "rd"
  refine i_sortR (.inr ⟨o, hd⟩) (dF_keys _ _) (by omega) fun l H1 hl1 s1 o1 e1 => ?_
  walk_at "rd"
  have hd1 := s1 _ _ hd
  refine i_forA (H0 := H1) (fun i σ H' => ∃ v, σ = [some (.ref a), some (.ref d), v] ∧ Same H1 H' ∧ ∀ y ∈ (srt zs).take i, nameB y = true ∧ 0 ≤ w y) (SqA.l e1) ⟨none, rfl, Same.refl _, fun y hy => by simp at hy⟩ (fun i σ H' h => by obtain ⟨_, _, s, _⟩ := h; exact s) ?_ ?_
  · rintro i x σ H2 hx ⟨v, rfl, s2, hk⟩
    obtain ⟨z, hz, rfl⟩ := strs_at hx
    have hm : z ∈ zs := mem_srt.mp (List.mem_of_getElem? hz)
    obtain ⟨w1, w2, w3⟩ := hw z hm
    walk_at "rd"
    refine ⟨rfl, z, rfl, Nat.le_trans w1 (by decide), fun H3 s3 => ?_⟩
    have s03 := (s1.trans s2).trans s3
    cases hn : nameB z with
    | false =>
      walk_at "rd"
      exact i_mkX1 (fun H' s => ⟨z, rfl, w2⟩) fun d' H' _ s e => kN z (badW_at hz hk hn (fun h => by cases h)) d' H' (s03.trans s) e
    | true =>
      walk_at "rd"
      refine i_dgetR (.inr ⟨o, s3 _ _ (s2 _ _ hd1)⟩) (valV_in hm) ?_
      walk_at "rd"
      refine i_dec (fun e => ?_) fun e => ?_
      · walk_at "rd"
        refine i_dgetR (.inr ⟨o, s3 _ _ (s2 _ _ hd1)⟩) (valV_in hm) ?_
        walk_at "rd"
        exact i_mkX1 (fun H' s => .inl ⟨w z, rfl, ZR.Sz.mono (n := 900) w3 (by decide)⟩) fun d' H' _ s e2 => kB z (badW_at hz hk hn fun _ => e) d' H' (s03.trans s) e2
      · walk_at "rd"
        refine ⟨_, rfl, s2.trans s3, fun y hy => ?_⟩
        rw [take_snoc hz] at hy
        rcases List.mem_append.mp hy with h | h
        · exact hk y h
        · rw [List.mem_singleton.mp h]; exact ⟨hn, by omega⟩
  · rintro σ H2 ⟨v, rfl, s2, hk⟩
    rw [List.length_map, List.take_length] at hk
    have bn := badW_none hk
    have hk' : ∀ z ∈ zs, nameB z = true ∧ 0 ≤ w z := fun z hz => hk z (mem_srt.mpr hz)
    have hd2 := s2 _ _ hd1
    walk_at "rd"
    refine ⟨d, o, _, rfl, hd2, fun q3 hq3 => ?_⟩
    have s3 : Same H2 (upd H2 q3 (ValO q3 d)) := same_new hq3
    have e3 : upd H2 q3 (ValO q3 d) q3 = some (ValO q3 d) := upd_same
    generalize upd H2 q3 (ValO q3 d) = H3 at *
    walk_at "rd"
    refine ⟨q3, d, o, _, zs.map w, rfl, e3, s3 _ _ hd2, dI_vals _ _, ?_⟩
    walk_at "rd"
    have t03 := (s1.trans s2).trans s3
    refine i_dec (fun e => ?_) fun e => ?_
    · walk_at "rd"
      refine ⟨rfl, ?_⟩
      walk_at "rd"
      refine i_whole fun r H4 hr4 s4 hR => ?_
      rw [show ((0 : Int) : Rat) = 0 from rfl] at hR
      walk_at "rd"
      exact i_mkX1 (fun H' s => .inr ⟨r, 0, rfl, hR.mono s, by decide +kernel, by decide +kernel⟩) fun d' H' _ s e2 => kS bn e r d' H' ((t03.trans s4).trans s) e2 (hR.mono s)
    · walk_at "rd"
      have ha3 := t03 _ _ ha
      have hp := sum_pos_ex (fun z hz => (hk' z hz).2) e
      refine ⟨rfl, d, o, zs, w, rfl, s3 _ _ hd2, hnd, hl, fun z hz => Nat.lt_of_lt_of_le (hw z hz).2.2 (Nat.pow_le_pow_right (by decide) (by decide)), hp, fun q H4 hq4 s4 e4 => ?_⟩
      walk_at "rd"
      refine i_put1 (s4 _ _ ha3) C_c_Chance.toCls C_na_Chance__weights (by show 0 < 100; decide) (cf_p1 _) fun H5 e5 o5 => ?_
      have qa : q ≠ a := fun z => by rw [z, ha3] at hq4; cases hq4
      have eq5 : H5 q = some (.dK (dI (posN zs w) fun z => (w z).fdiv (gcF (zs.map w) : Nat))) := by rw [o5 q qa]; exact e4
      have b05 : But a H H5 := (But.of (t03.trans s4)).trans (But.of' o5)
      obtain ⟨cd, cp⟩ := chd_of hnd hl (fun z hz => (hk' z hz).1) (fun z hz => (hk' z hz).2) hp hB
      generalize hS : ((posN zs w).map fun z => (w z).fdiv (gcF (zs.map w) : Nat)).sum = S at *
      refine i_frz eq5 trivial fun od H6 e6 o6 => ?_
      have e56 : H6 a = some (.ins CC dx [(("_weights" : Str), V.ref q)]) := by rw [o6 a (Ne.symm qa)]; exact e5
      walk_at "rd"
      refine i_fld1 e56 C_c_Chance.toCls C_na_Chance__weights cf_w1 ?_
      refine ⟨q, od, _, rfl, e6, fun q7 hq7 => ?_⟩
      have s7 : Same H6 (upd H6 q7 (ValO q7 q)) := same_new hq7
      have e7 : upd H6 q7 (ValO q7 q) q7 = some (ValO q7 q) := upd_same
      generalize upd H6 q7 (ValO q7 q) = H7 at *
      walk_at "rd"
      refine ⟨q7, q, od, _, (posN zs w).map fun z => (w z).fdiv (gcF (zs.map w) : Nat), rfl, e7, s7 _ _ e6, dI_vals _ _, ?_⟩
      rw [hS]
      walk_at "rd"
      refine i_put1 (s7 _ _ e56) C_c_Chance.toCls C_na_Chance__sum (by show 1 < 100; decide) (cf_p2 _ _) fun H8 e8 o8 => ?_
      refine k bn e H8 ⟨dx, q, od, _, S, e8, by rw [o8 q qa]; exact s7 _ _ e6, cd, cp, same_noneV t03 hq4⟩ ?_
      intro b u nb e
      have n6 : b ≠ q := fun z => by rw [z, same_noneV t03 hq4] at e; cases e
      rw [o8 b nb]
      refine s7 _ _ ?_
      rw [o6 b n6]
      exact b05 b u nb e
theorem cf_no {m : Str} {d : Addr} {S : Int} (h1 : (m == ("_weights" : Str)) = false) (h2 : (m == ("_sum" : Str)) = false) : List.lookup m (cf d S) = none := by simp [cf, List.lookup, h1, h2]
def spShare (K : PySem.W.Frag) (CR CC : Addr) : Sp := fun vs H Q _ => vs.length = 2 ∧ ∃ (a : Addr) (z : Str) (B : Nat) (N : List Str) (p : Str → Rat), vs = [.ref a, .str z] ∧ IsC CC H a B N p ∧ B ≤ 900 ∧ ∀ c H', H c = none → Same H H' → IsR CR H' c (p z) → Q (.ref c) H'
theorem pow_le9 {B : Nat} {S : Int} (h : S < (2 : Int) ^ B) (h0 : 0 < S) (hB : B ≤ 900) : ZR.Sz 900 S := by
  have e : (2 : Int) ^ B = ((2 ^ B : Nat) : Int) := by push_cast; rfl
  have : 2 ^ B ≤ 2 ^ 900 := Nat.pow_le_pow_right (by decide) hB
  unfold ZR.Sz
  omega
abbrev s_Chance_share : Stmt := inClass (top 29) 4
theorem sc_Chance_share : FnScope ["self", "name"] ["self", "name"] (defScope s_Chance_share) := ⟨rfl, rfl, rfl, by decide +kernel, rfl, by decide +kernel, by decide +kernel⟩
theorem ok_Chance_share {P : Program} {w : World} {K : PySem.W.Frag} {mg : Str → Option Value} {base : Heap} {CB CC CR : Addr} {f : Addr} {fd : FuncData} (F : L2.Fun K "share" "Chance.share" s_Chance_share f fd)
    (C_c_Chance : ClO K CC)
    (C_i_Ratio : CalI P w K mg base "Ratio" CR 8 (spRInit CR CB))
    (C_na_Chance__sum : NoAttr K CC "_sum")
    (C_na_Chance__weights : NoAttr K CC "_weights") :
    FnOk P w K mg base (L2.CX P w) 10 f fd ["self", "name"] (spShare K CR CC) := by
  refine fnOk_mk F sc_Chance_share (fun vs H Q E h => h.1) (fun cdv A outer s H vs Q E hr h => ?_)
  obtain ⟨_, a, z, B, N, p, rfl, ⟨dx, d, o, w, S, h1, h2, cd, hp⟩, hB, k⟩ := h
  refine ⟨_, pss_one (ps_ret (z_makeC C_i_Ratio hr passN (pa_cons (pe_dget2 (hu_of hr) (pe_fld (pv 0) rfl) (pv 1) pe_int ⟨by rfl, by rfl, by rfl, by rfl⟩) (pa_cons (pe_fld (pv 0) rfl) pa_nil)))), ?_⟩
  try dsimp only [cxOf]
  walk_at "rd"
  refine i_fld1 h1 C_c_Chance.toCls C_na_Chance__weights (cf_w d S) ?_
  refine i_dget2 (.inr ⟨o, h2⟩) ?_
  walk_at "rd"
  refine i_dget2b (.inr ⟨o, h2⟩) ?_
  have ev : (valV (dI N w) (.inr z)).getD (.int 0) = .int (if z ∈ N then w z else 0) := by
    rw [valV_dF]
    by_cases e : z ∈ N
    · rw [if_pos e, if_pos e]; rfl
    · rw [if_neg e, if_neg e]; rfl
  rw [ev]
  walk_at "rd"
  refine i_fld1 h1 C_c_Chance.toCls C_na_Chance__sum (cf_s d S) ?_
  have S0 := cd.ne
  refine i_newR (by omega) ((pow_le9 cd.sz S0 hB).mono (by decide)) fun c H' hc s hr => k c H' hc s ?_
  rw [hp z]
  by_cases e : z ∈ N
  · rw [if_pos e] at hr ⊢
    exact hr
  · rw [if_neg e] at hr ⊢
    rw [show ((0 : Int) : Rat) = 0 from rfl, Rat.div_def, Rat.zero_mul] at hr
    exact hr
def spCIter (CC : Addr) : Nat → Sp := fun n vs H Q _ => vs.length = 1 ∧ ∃ (a dx d : Addr) (S : Int) (o : Obj) (kvs : List (Key × V)), vs = [.ref a] ∧ H a = some (.ins CC dx (cf d S)) ∧ H d = some (.frz o (.dK kvs)) ∧ ∀ q, n ≤ q → H q = none → Q (.ref q) (upd H q (KeyIt q d 0 o kvs.length))
theorem ownC {CC a dx d : Addr} {S : Int} {o : Obj} {kvs : List (Key × V)} {H : Hp} (h1 : H a = some (.ins CC dx (cf d S))) (h2 : H d = some (.frz o (.dK kvs))) : OwnD CC (spCIter CC) a d o kvs H :=
  ⟨⟨dx, _, h1⟩, h2, fun n => ⟨rfl, a, dx, d, S, o, kvs, rfl, h1, h2, fun q hle hn => ⟨q, rfl, hle, hn, rfl⟩⟩⟩
abbrev s_Chance___iter__ : Stmt := inClass (top 29) 13
theorem sc_Chance___iter__ : FnScope ["self"] ["self"] (defScope s_Chance___iter__) := ⟨rfl, rfl, rfl, by decide +kernel, rfl, by decide +kernel, by decide +kernel⟩
theorem okT_Chance___iter__ {P : Program} {w : World} {K : PySem.W.Frag} {mg : Str → Option Value} {base : Heap} {CC : Addr} {f : Addr} {fd : FuncData} (F : L2.Fun K "__iter__" "Chance.__iter__" s_Chance___iter__ f fd)
    (C_b_iter : mg "iter" = none)
    (C_c_Chance : ClO K CC)
    (C_na_Chance__sum : NoAttr K CC "_sum")
    (C_na_Chance__weights : NoAttr K CC "_weights")
    (b : Binds K fd ["self"] []) :
    FnT P w K mg base 1 f (spCIter CC) := by
  refine fnT_mk F sc_Chance___iter__ b (fun _ vs H Q E h => h.1) (fun cdv A outer s H vs Q E hr h => ?_)
  obtain ⟨_, a, dx, d, S, o, kvs, rfl, h1, h2, k⟩ := h
  refine ⟨_, pss_one (ps_ret (pe_callB cr_iterDS (by rfl) C_b_iter (by decide +kernel) (pa_cons (pe_fld (pv 0) rfl) pa_nil))), ?_⟩
  try dsimp only [cxOf]
  walk_at "rd"
  refine i_fld1 h1 C_c_Chance.toCls C_na_Chance__weights (cf_w d S) ?_
  walk_at "rd"
  exact ⟨d, o, kvs, rfl, h2, fun q hle hn => k q hle hn⟩
def spChk (CC CU : Addr) : Sp := fun vs H Q E => vs.length = 2 ∧ ∃ (a t : Addr) (B : Nat) (N : List Str) (p : Str → Rat) (ks : List Str) (f : Str → V), vs = [.ref a, .ref t] ∧ IsC CC H a B N p ∧ Rd H t (.dK (dF ks f)) ∧
  (∀ z, miss ks N = some z → EName CU z H E) ∧ (miss ks N = none → Q .non H)
theorem name_chars {z : Str} (h : nameB z = true) : ∀ c ∈ z.cps.toList, c < 16 ^ 8 := by
  unfold nameB nameL at h
  rw [Bool.and_eq_true, Bool.and_eq_true] at h
  intro c hc
  have := List.all_eq_true.mp h.2.2 c hc
  unfold let_ ZS.dig at this
  simp at this
  omega
theorem rb_name {z : Str} (h : nameB z = true) : RB z := by
  have h1 := StrLaws.reprText_len z (name_chars h)
  have h2 := nameB_len h
  unfold RB
  omega
theorem nW {z : Str} (h : nameB z = true) : RW z := Nat.le_trans (rb_name h) (by decide)
abbrev s_Chance__check_keys : Stmt := inClass (top 29) 10
theorem sc_Chance__check_keys : FnScope ["self", "table", "name"] ["self", "table"] (defScope s_Chance__check_keys) := ⟨rfl, rfl, rfl, by decide +kernel, rfl, by decide +kernel, by decide +kernel⟩
theorem ok_Chance__check_keys {P : Program} {w : World} {K : PySem.W.Frag} {mg : Str → Option Value} {base : Heap} {CC CU : Addr} {f : Addr} {fd : FuncData} (F : L2.Fun K "_check_keys" "Chance._check_keys" s_Chance__check_keys f fd)
    (C_c_Chance : ClO K CC)
    (C_na_Chance__sum : NoAttr K CC "_sum")
    (C_na_Chance__weights : NoAttr K CC "_weights")
    (C_x_UnknownName : CalX P w K mg base "UnknownName" CU 1 ["self", "name"] (spX1 K CU "name" GStW)) :
    FnOk P w K mg base (L2.CX P w) 3 f fd ["self", "table"] (spChk CC CU) := by
  refine fnOk_mk F sc_Chance__check_keys (fun vs H Q E h => h.1) (fun cdv A outer s H vs Q E hr h => ?_)
  obtain ⟨_, a, t, B, N, p, ks, g, rfl, ⟨dx, d, o, w, S, h1, h2, cd, hp⟩, ht, kE, k⟩ := h
  refine ⟨_, pss_one (ps_for (passes_of rfl) rfl (pi_keys (pe_fld (pv 0) rfl)) (pg_name (i := 2) sc_Chance__check_keys.nd rfl (Or.inl rfl)) (pss_one (ps_if (pt_cmp (pc_dnotin (hu_of hr) (pv 2) (pv 1)) rfl) (pss_one (ps_raise rfl (takes_of rfl rfl rfl rfl) (z_mkX C_x_UnknownName hr (pa_cons (pv 2) pa_nil)))) (pss_nil)))), ?_⟩
  try dsimp only [cxOf]
  walk_at "rd"
  refine i_fld1 h1 C_c_Chance.toCls C_na_Chance__weights (cf_w d S) ?_
  refine i_forK (H0 := H) (fun i σ H' => ∃ v, σ = [some (.ref a), some (.ref t), v] ∧ H' = H ∧ ∀ z ∈ N.take i, z ∈ ks) h2 ⟨none, rfl, rfl, fun z hz => by simp at hz⟩ (fun i σ H' h => by obtain ⟨_, _, rfl, _⟩ := h; exact AtS.refl) ?_ ?_
  · rintro i z σ H' hz ⟨v, rfl, rfl, hk⟩
    walk_at "rd"
    by_cases e : z ∈ ks
    · refine i_dninT ht (valV_in e) ?_
      walk_at "rd"
      refine ⟨some (.str z), rfl, rfl, fun y hy => ?_⟩
      rw [List.take_add_one, hz] at hy
      rcases List.mem_append.mp hy with h | h
      · exact hk y h
      · rw [List.mem_singleton.mp h]; exact e
    · refine i_dninF ht (valV_out e) ?_
      walk_at "rd"
      have hm := List.mem_of_getElem? hz
      have me : miss ks N = some z := by
        unfold miss
        rw [List.find?_eq_some_iff_getElem]
        obtain ⟨lt, ez⟩ := List.getElem?_eq_some_iff.mp hz
        refine ⟨by simpa using e, i, lt, ez, fun j hj => ?_⟩
        have := hk N[j] (List.mem_iff_getElem.mpr ⟨j, by rw [List.length_take]; omega, by simp⟩)
        simpa using this
      exact i_mkX1 (fun H' s => ⟨z, rfl, nW (cd.nm z hm)⟩) fun d H' _ s e => kE z me d H' s e
  · rintro σ H' ⟨v, rfl, rfl, hk⟩
    walk_at "rd"
    rw [List.take_length] at hk
    exact k (miss_none hk)
/-- sums over the names -/
def sF (l : List Rat) : Rat := l.foldl (fun s q => s + q) 0
theorem sm_sF {α : Type} (L : List (α × Rat)) : ZD.sm L = sF (L.map (·.2)) := by unfold ZD.sm sF; rw [List.foldl_map]
def spAvg (K : PySem.W.Frag) (CR CC CU : Addr) : Sp := fun vs H Q E => vs.length = 2 ∧ ∃ (a t : Addr) (B : Nat) (N : List Str) (p v : Str → Rat) (ks : List Str) (f : Str → V), vs = [.ref a, .ref t] ∧ IsC CC H a B N p ∧ B ≤ 900 ∧ Rd H t (.dK (dF ks f)) ∧
  (∀ z ∈ ks, ∃ r, f z = .ref r ∧ IsR CR H r (v z)) ∧ (∀ z, ZR.Bd 2000 (p z)) ∧ (∀ z, ZR.Bd 2000 (v z)) ∧ (∀ z, ZR.Bd 2000 (p z * v z)) ∧ (∀ i, ZR.Bd 2000 (sF ((N.take i).map fun z => p z * v z))) ∧
  (∀ z, miss ks N = some z → EName CU z H E) ∧ (miss ks N = none → ∀ c H', H c = none → Same H H' → IsR CR H' c (sF (N.map fun z => p z * v z)) → Q (.ref c) H')
theorem miss_all {ks N : List Str} (h : miss ks N = none) : ∀ z ∈ N, z ∈ ks := fun z hz => by
  unfold miss at h
  have := List.find?_eq_none.mp h z hz
  simpa using this
abbrev s_Chance_average : Stmt := inClass (top 29) 7
theorem sc_Chance_average : FnScope ["self", "values", "name"] ["self", "values"] (defScope s_Chance_average) := ⟨rfl, rfl, rfl, by decide +kernel, rfl, by decide +kernel, by decide +kernel⟩
theorem ok_Chance_average {P : Program} {w : World} {K : PySem.W.Frag} {mg : Str → Option Value} {base : Heap} {CC CR CU : Addr} {f : Addr} {fd : FuncData} (F : L2.Fun K "average" "Chance.average" s_Chance_average f fd)
    (C_c_Chance : ClO K CC)
    (C_f_total : Cal P w K mg base "total" 11 (spTotG K CR))
    (C_m_Chance__check_keys : CalM P w K mg base CC "_check_keys" 3 (spChk CC CU))
    (C_m_Chance_share : CalM P w K mg base CC "share" 10 (spShare K CR CC))
    (C_na_Chance__sum : NoAttr K CC "_sum")
    (C_na_Chance__weights : NoAttr K CC "_weights")
    (C_o_Ratio_mul : CalO P w K mg base CR "__mul__" 10 (spR2 CR (· * ·))) :
    FnOk P w K mg base (L2.CX P w) 12 f fd ["self", "values"] (spAvg K CR CC CU) := by
  refine fnOk_mk F sc_Chance_average (fun vs H Q E h => h.1) (fun cdv A outer s H vs Q E hr h => ?_)
  obtain ⟨_, a, t, B, N, p, v, ks, g, rfl, hC, hB, ht, hg, bp, bv, bpv, bs, kE, k⟩ := h
  refine ⟨_, pss_cons (ps_expr (z_methC (pv 0) C_c_Chance.toCls C_m_Chance__check_keys hr (fun σ => passAt (takes_of rfl rfl rfl rfl) σ) (pa_cons (pv 1) pa_nil)))
    (pss_one (ps_ret (z_callC C_f_total hr passN (pa_cons (pe_lc (own := [("name", 2)]) (by rfl) sc_Chance_average.nd (pi_keys (pe_fld (pv 0) rfl)) (blkOk_by (N := ["self", "values", "name"]) (sc := defScope s_Chance_average) (by decide +kernel)) (fun _ _ _ _ _ => pg_name (i := 2) sc_Chance_average.nd rfl (Or.inl rfl)) (fun _ _ _ _ _ => pts_nil) (fun _ _ _ _ _ => pe_op (z_op C_o_Ratio_mul hr) (z_methC (pv 0) C_c_Chance.toCls C_m_Chance_share hr passN (pa_cons (pv 2) pa_nil)) (pe_dget (hu_of hr) (pv 1) (pv 2) (fun _ _ => rfl)))) pa_nil)))), ?_⟩
  try dsimp only [cxOf]
  walk_at "rd"
  obtain ⟨dx, d, o, w, S, h1, h2, cd, hp⟩ := id hC
  refine i_meth1 h1 (cf_no (by decide +kernel) (by decide +kernel)) ?_
  walk_at "rd"
  refine ⟨rfl, a, t, B, N, p, ks, g, rfl, hC, ht, kE, fun hm => ?_⟩
  have hin := miss_all hm
  walk_at "rd"
  refine i_fld1 h1 C_c_Chance.toCls C_na_Chance__weights (cf_w d S) ?_
  refine i_lcK h2 (lcKeys (H0 := H) (fun D i ys H' => Same H H' ∧ ∃ ps : List (Addr × Rat), ys = rfs ps ∧ ps.map (·.2) = (N.take i).map (fun z => p z * v z) ∧ RsAt CR H' ps ∧ H D = none) h2 (fun D H' hD s e ho => ⟨s, [], rfl, by simp, (fun x hx => by cases hx), hD⟩) (fun D i ys H' q => .of q.1) ?_ ?_)
  · rintro i z D ys H1 hD hz eD ⟨s1, ps, rfl, em, hR, _⟩
    have hm := List.mem_of_getElem? hz
    obtain ⟨r, er, hr'⟩ := hg z (hin z hm)
    walk_at "rd"
    refine ⟨by with_unfolding_all rfl, ?_⟩
    walk_at "rd"
    refine i_meth1 (s1 _ _ h1) (cf_no (by decide +kernel) (by decide +kernel)) ?_
    walk_at "rd"
    refine ⟨rfl, a, z, B, N, p, rfl, hC.mono s1, hB, fun c H2 hc s2 hrc => ?_⟩
    walk_at "rd"
    have ht2 : Rd H2 t (.dK (dF ks g)) := ht.elim (fun e => .inl (s2 _ _ (s1 _ _ e))) fun ⟨o, e⟩ => .inr ⟨o, s2 _ _ (s1 _ _ e)⟩
    refine i_dgetR ht2 (valV_in (hin z hm)) ?_
    rw [er]
    walk_at "rd"
    refine i_R2 hrc ((hr'.mono s1).mono s2) (bp z) (bv z) fun c2 H3 hc2 s3 hr3 => ?_
    refine i_lcE (s3 _ _ (s2 _ _ eD)) ?_ fun H4 e4 o4 => ?_
    · have := congrArg List.length em
      rw [List.length_map, List.length_map, List.length_take] at this
      have := cd.len
      unfold rfs
      rw [List.length_map]
      omega
    · have s14 : Same H H4 := fun b u e => by
        rw [o4 b (ne_of_none e hD)]
        exact s3 _ _ (s2 _ _ (s1 _ _ e))
      have k4 : ∀ x q, IsR CR H3 x q → IsR CR H4 x q := fun x q ⟨dx, e⟩ => ⟨dx, by rw [o4 x (fun z => by rw [z, s3 _ _ (s2 _ _ eD)] at e; cases e)]; exact e⟩
      refine ⟨s14, ps ++ [(c2, p z * v z)], by unfold rfs; rw [List.map_append]; rfl, ?_, fun x hx => ?_, hD⟩
      · rw [List.map_append, em, List.take_add_one, hz, List.map_append]
        rfl
      · rcases List.mem_append.mp hx with h | h
        · exact k4 _ _ (((hR x h).mono s2).mono s3)
        · rw [List.mem_singleton.mp h]
          exact k4 _ _ hr3
  · rintro D ys H1 hD eD ⟨s1, ps, rfl, em, hR, _⟩
    rw [List.take_length] at em
    walk_at "rd"
    refine ⟨rfl, D, ps, rfl, .of eD, hR, fun x hx => ?_, fun i => ?_, fun c H2 hc s2 hr2 => k hm c H2 (same_noneV s1 hc) (s1.trans s2) ?_⟩
    · have : x.2 ∈ ps.map (·.2) := List.mem_map.mpr ⟨x, hx, rfl⟩
      rw [em] at this
      obtain ⟨z, _, e⟩ := List.mem_map.mp this
      rw [← e]
      exact bpv z
    · rw [sm_sF, List.map_take, em, ← List.map_take]
      exact bs i
    · rw [sm_sF, em] at hr2
      exact hr2
theorem i_newCGf {K : PySem.W.Frag} {CR CC CB CN CX d : Addr} {o : Obj} {zs : List Str} {w : Str → Int} {B : Nat} {H : Hp} {Q : VK} {E : XK} (hd : H d = some (.frz o (.dK (dI zs w)))) (hnd : zs.Nodup) (hl : zs.length < 60) (hw : ∀ z ∈ zs, z.length ≤ 1000 ∧ RW z ∧ (w z).natAbs < 2 ^ 900) (hB : (zs.map w).sum < (2 : Int) ^ B)
    (kN : ∀ z, badW zs w = some (false, z) → EName CN z H E) (kB : ∀ z, badW zs w = some (true, z) → EBad CB (w z) H E)
    (kS : badW zs w = none → (zs.map w).sum = 0 → ∀ r d' H', Same H H' → H' d' = some (.xd [("total", .ref r)]) → IsR CR H' r 0 → E (.ref CX) (some d') H')
    (k : badW zs w = none → (zs.map w).sum ≠ 0 → ∀ p H', H p = none → Same H H' → IsCf CC H H' p B (posN zs w) (fun z => if z ∈ zs then ((w z : Int) : Rat) / (((zs.map w).sum : Int) : Rat) else 0) → Q (.ref p) H') : rNew CC (spCInitG K CR CC CB CN CX) [.ref d] H Q E := by
  intro x dx hx hdx hne
  have up : ∀ {H' : Hp}, Same (upd (upd H dx (.own x)) x (.ins CC dx [])) H' → Same H H' := fun s b u e => s b u (by rw [upd_ne (ne_of_none e hx), upd_ne (ne_of_none e hdx)]; exact e)
  refine ⟨rfl, x, d, o, zs, w, B, rfl, ⟨dx, upd_same⟩, ?_, hnd, hl, hw, hB, fun z hz d' H' s e => kN z hz d' H' (up s) e, fun z hz d' H' s e => kB z hz d' H' (up s) e, fun h1 h2 r d' H' s e hr => kS h1 h2 r d' H' (up s) e hr, fun h1 h2 H' hc bt => ⟨rfl, k h1 h2 x H' hx (fun b u e => bt b u (ne_of_none e hx) ?_) ?_⟩⟩
  · rw [upd_ne (ne_of_none hd hx), upd_ne (ne_of_none hd hdx)]
    exact hd
  · rw [upd_ne (ne_of_none e hx), upd_ne (ne_of_none e hdx)]
    exact e
  · obtain ⟨dx', d', o', w', S', g1, g2, g3, g4, g5⟩ := hc
    refine ⟨dx', d', o', w', S', g1, g2, g3, g4, ?_⟩
    cases z : H d' with
    | none => rfl
    | some u => rw [upd_ne (ne_of_none z hx), upd_ne (ne_of_none z hdx), z] at g5; cases g5
theorem i_newCG {K : PySem.W.Frag} {CR CC CB CN CX d : Addr} {o : Obj} {zs : List Str} {w : Str → Int} {B : Nat} {H : Hp} {Q : VK} {E : XK} (hd : H d = some (.frz o (.dK (dI zs w)))) (hnd : zs.Nodup) (hl : zs.length < 60) (hw : ∀ z ∈ zs, z.length ≤ 1000 ∧ RW z ∧ (w z).natAbs < 2 ^ 900) (hB : (zs.map w).sum < (2 : Int) ^ B)
    (kN : ∀ z, badW zs w = some (false, z) → EName CN z H E) (kB : ∀ z, badW zs w = some (true, z) → EBad CB (w z) H E)
    (kS : badW zs w = none → (zs.map w).sum = 0 → ∀ r d' H', Same H H' → H' d' = some (.xd [("total", .ref r)]) → IsR CR H' r 0 → E (.ref CX) (some d') H')
    (k : badW zs w = none → (zs.map w).sum ≠ 0 → ∀ p H', H p = none → Same H H' → IsC CC H' p B (posN zs w) (fun z => if z ∈ zs then ((w z : Int) : Rat) / (((zs.map w).sum : Int) : Rat) else 0) → Q (.ref p) H') : rNew CC (spCInitG K CR CC CB CN CX) [.ref d] H Q E :=
  i_newCGf hd hnd hl hw hB kN kB kS fun h1 h2 p H' hp s hc => k h1 h2 p H' hp s hc.is

theorem i_newC {K : PySem.W.Frag} {CR CC CB CN CX d : Addr} {o : Obj} {zs : List Str} {w : Str → Int} {B : Nat} {H : Hp} {Q : VK} {E : XK} (hd : H d = some (.frz o (.dK (dI zs w)))) (hnd : zs.Nodup) (hl : zs.length < 60) (hn : ∀ z ∈ zs, nameB z = true) (hw : ∀ z ∈ zs, 0 ≤ w z ∧ w z < (2 : Int) ^ 1000) (hp : ∃ z ∈ zs, 0 < w z) (hB : (zs.map w).sum < (2 : Int) ^ B)
    (k : ∀ p H', H p = none → Same H H' → IsC CC H' p B (posN zs w) (fun z => if z ∈ zs then ((w z : Int) : Rat) / (((zs.map w).sum : Int) : Rat) else 0) → Q (.ref p) H') (hB9 : B ≤ 900 := by first | assumption | omega) : rNew CC (spCInitG K CR CC CB CN CX) [.ref d] H Q E := by
  have bn : badW zs w = none := badW_none fun y hy => ⟨hn y (mem_srt.mp hy), (hw y (mem_srt.mp hy)).1⟩
  have sg := sum_ge (v := w) (l := zs) fun y hy => (hw y hy).1
  refine i_newCG (B := B) hd hnd hl (fun z hz => ⟨Nat.le_trans (nameB_len (hn z hz)) (by decide), nW (hn z hz), ?_⟩) hB (fun z h => by rw [bn] at h; cases h) (fun z h => by rw [bn] at h; cases h) (fun _ h0 => ?_) fun _ _ p H' hp s hC => k p H' hp s hC
  · have h1 := sg z hz
    have h2 := (hw z hz).1
    have e : (2 : Int) ^ B = ((2 ^ B : Nat) : Int) := by push_cast; rfl
    have h3 : 2 ^ B ≤ 2 ^ 900 := Nat.pow_le_pow_right (by decide) hB9
    omega
  · obtain ⟨z, hz, h1⟩ := hp
    have := sg z hz
    omega
/-! ### the mathematics of rows -/
theorem snoc_ind {α : Type} {P : List α → Prop} (h0 : P []) (hs : ∀ l x, P l → P (l ++ [x])) : ∀ l, P l := fun l => by
  rw [← l.reverse_reverse]
  generalize l.reverse = m
  induction m with
  | nil => exact h0
  | cons x m ih => rw [List.reverse_cons]; exact hs _ _ ih
theorem amt_eq {L : Nat} {z : Str} : ∀ rs : List (Str × Rat), (∀ r ∈ rs, r.2.den ∣ L) → ((amt L rs z : Int) : Rat) = sumR rs z * (L : Rat) := by
  refine snoc_ind (fun _ => ?_) fun l r ih h => ?_
  · show ((0 : Int) : Rat) = 0 * (L : Rat)
    rw [Rat.zero_mul]; rfl
  · have ih := ih fun x hx => h x (List.mem_append_left _ hx)
    rw [amt_snoc, sumR_snoc]
    by_cases e : r.1 = z
    · rw [if_pos e, if_pos e, Rat.intCast_add, ih, nOf_eq (h r (List.mem_append_right _ (List.mem_singleton.mpr rfl)))]
      grind
    · rw [if_neg e, if_neg e, ih]
theorem keyR_nodup : ∀ rs : List (Str × Rat), (keyR rs).Nodup := by
  refine snoc_ind List.nodup_nil fun l r ih => ?_
  rw [keyR_snoc]
  exact adK_nodup ih
theorem mem_keyR {z : Str} : ∀ rs : List (Str × Rat), z ∈ keyR rs ↔ ∃ r ∈ rs, r.1 = z := by
  refine snoc_ind (by simp [keyR]) fun l r ih => ?_
  rw [keyR_snoc, mem_adK, ih]
  constructor
  · rintro (⟨x, hx, e⟩ | e)
    · exact ⟨x, List.mem_append_left _ hx, e⟩
    · exact ⟨r, List.mem_append_right _ (List.mem_singleton.mpr rfl), e.symm⟩
  · rintro ⟨x, hx, e⟩
    rcases List.mem_append.mp hx with h | h
    · exact .inl ⟨x, h, e⟩
    · rw [List.mem_singleton.mp h] at e; exact .inr e.symm
theorem sumR_out {z : Str} : ∀ rs : List (Str × Rat), z ∉ keyR rs → sumR rs z = 0 := by
  refine snoc_ind (fun _ => rfl) fun l r ih h => ?_
  rw [keyR_snoc, mem_adK] at h
  rw [sumR_snoc, if_neg (fun e => h (.inr e.symm))]
  exact ih fun g => h (.inl g)
theorem sumR_nonneg {z : Str} : ∀ rs : List (Str × Rat), (∀ r ∈ rs, 0 ≤ r.2) → 0 ≤ sumR rs z := by
  refine snoc_ind (fun _ => by show (0 : Rat) ≤ 0; grind) fun l r ih h => ?_
  have ih := ih fun x hx => h x (List.mem_append_left _ hx)
  have := h r (List.mem_append_right _ (List.mem_singleton.mpr rfl))
  rw [sumR_snoc]
  split
  · grind
  · exact ih
theorem sF_snoc {l : List Rat} {q : Rat} : sF (l ++ [q]) = sF l + q := by unfold sF; rw [List.foldl_append]; rfl
theorem sF_nil : sF [] = 0 := rfl
theorem sF_one {f : Str → Rat} {r : Str} {n : Rat} : ∀ l : List Str, l.Nodup → sF (l.map fun u => if r = u then f u + n else f u) = sF (l.map f) + if r ∈ l then n else 0 := by
  refine snoc_ind (fun _ => by simp [sF]; grind) fun l u ih h => ?_
  obtain ⟨h1, _, h2⟩ := List.nodup_append.mp h
  rw [List.map_append, List.map_append, List.map_cons, List.map_nil, List.map_cons, List.map_nil, sF_snoc, sF_snoc, ih h1]
  by_cases e : r = u
  · have hu : r ∉ l := fun g => h2 r g u (List.mem_singleton.mpr rfl) e
    rw [if_pos e, if_neg hu, if_pos (List.mem_append_right _ (List.mem_singleton.mpr e))]
    grind
  · rw [if_neg e]
    by_cases g : r ∈ l
    · rw [if_pos g, if_pos (List.mem_append_left _ g)]; grind
    · rw [if_neg g, if_neg (fun k => (List.mem_append.mp k).elim g fun k => e (List.mem_singleton.mp k))]; grind
/-- the sums over the keys are the sum of all -/
theorem sF_keyR : ∀ rs : List (Str × Rat), sF ((keyR rs).map (sumR rs)) = sF (rs.map (·.2)) := by
  refine snoc_ind rfl fun l r ih => ?_
  rw [List.map_append, List.map_cons, List.map_nil, sF_snoc, ← ih, keyR_snoc]
  have e : (sumR (l ++ [r])) = fun u => if r.1 = u then sumR l u + r.2 else sumR l u := by funext u; exact sumR_snoc
  rw [e, sF_one _ (adK_nodup (keyR_nodup l)), if_pos (mem_adK.mpr (.inr rfl))]
  congr 1
  by_cases g : r.1 ∈ keyR l
  · rw [adK_old g]
  · rw [adK_new g, List.map_append, List.map_cons, List.map_nil, sF_snoc, sumR_out l g]
    grind
theorem isum_cast {f : Str → Int} : ∀ l : List Str, (((l.map f).sum : Int) : Rat) = sF (l.map fun z => ((f z : Int) : Rat)) := by
  refine snoc_ind (by simp [sF]) fun l u ih => ?_
  rw [List.map_append, List.map_append, List.sum_append, List.map_cons, List.map_nil, List.map_cons, List.map_nil, sF_snoc, ← ih, Rat.intCast_add]
  simp
theorem sF_mul {f : Str → Rat} {c : Rat} : ∀ l : List Str, sF (l.map fun z => f z * c) = sF (l.map f) * c := by
  refine snoc_ind (by simp [sF]) fun l u ih => ?_
  rw [List.map_append, List.map_append, List.map_cons, List.map_nil, List.map_cons, List.map_nil, sF_snoc, sF_snoc, ih]
  grind
theorem den_dvd {q : Rat} {D : Nat} {n : Int} (hD : 0 < D) (h : q * (D : Rat) = (n : Rat)) : q.den ∣ D := by
  have hd : (D : Rat) ≠ 0 := by
    have := ZR.ci (b := ((D : Nat) : Int)) (by omega)
    simpa using this
  have e : q = (n : Rat) / (((D : Nat) : Int) : Rat) := by
    have : (((D : Nat) : Int) : Rat) = (D : Rat) := rfl
    rw [this, ← h]
    grind
  rw [e, ← Rat.divInt_eq_div, Rat.den_divInt, if_neg (by omega)]
  rw [Int.natAbs_natCast]
  exact Nat.div_dvd_of_dvd (by have := Int.gcd_dvd_left (a := ((D : Nat) : Int)) (b := n); exact Int.natCast_dvd_natCast.mp this)
theorem IsC.congr {CC a : Addr} {H : Hp} {B : Nat} {N : List Str} {p q : Str → Rat} (h : IsC CC H a B N p) (e : ∀ z, q z = p z) : IsC CC H a B N q := let ⟨dx, d, o, w, S, h1, h2, h3, h4⟩ := h; ⟨dx, d, o, w, S, h1, h2, h3, fun z => (e z).trans (h4 z)⟩
theorem rat_pos {a b : Int} (ha : 0 < a) (hb : 0 < b) : 0 < (a : Rat) / (b : Rat) := by
  have h1 : (0 : Rat) < (a : Rat) := by exact_mod_cast ha
  have h2 : (0 : Rat) < (b : Rat) := by exact_mod_cast hb
  rw [Rat.div_def]
  exact Rat.mul_pos h1 (Rat.inv_pos.mpr h2)
theorem IsC.mem {CC a : Addr} {H : Hp} {B : Nat} {N : List Str} {p : Str → Rat} (h : IsC CC H a B N p) (z : Str) : z ∈ N ↔ 0 < p z := by
  obtain ⟨dx, d, o, w, S, h1, h2, h3, h4⟩ := h
  rw [h4 z]
  by_cases e : z ∈ N
  · rw [if_pos e]
    exact ⟨fun _ => rat_pos (h3.pos z e) h3.ne, fun _ => e⟩
  · rw [if_neg e]
    exact ⟨fun g => absurd g e, fun g => absurd g (by grind)⟩
theorem IsC.nonneg {CC a : Addr} {H : Hp} {B : Nat} {N : List Str} {p : Str → Rat} (h : IsC CC H a B N p) (z : Str) : 0 ≤ p z := by
  by_cases e : z ∈ N
  · have := (h.mem z).mp e; grind
  · obtain ⟨dx, d, o, w, S, h1, h2, h3, h4⟩ := h
    rw [h4 z, if_neg e]; grind
theorem IsC.one {CC a : Addr} {H : Hp} {B : Nat} {N : List Str} {p : Str → Rat} (h : IsC CC H a B N p) : sF (N.map p) = 1 := by
  obtain ⟨dx, d, o, w, S, h1, h2, h3, h4⟩ := h
  have s0 : ((S : Int) : Rat) ≠ 0 := ZR.ci (by have := h3.ne; omega)
  have e : N.map p = N.map fun z => ((w z : Int) : Rat) * ((S : Int) : Rat)⁻¹ := List.map_congr_left fun z hz => by rw [h4 z, if_pos hz, Rat.div_def]
  rw [e, sF_mul, ← isum_cast, ← h3.sum]
  exact Rat.mul_inv_cancel _ s0
theorem keyR_len (L : List Row) : (keyR (rowR L)).length ≤ L.length := by
  have : ∀ rs : List (Str × Rat), (keyR rs).length ≤ rs.length := by
    refine snoc_ind (Nat.le_refl _) fun l r ih => ?_
    rw [keyR_snoc, List.length_append]
    exact Nat.le_trans adK_len (by simp; omega)
  have := this (rowR L)
  unfold rowR at this ⊢
  simpa using this
theorem i_cmS {C : Addr} {sp : Sp} {E : L2.St → XK} {ta : TE} {t : TA} {σ : L2.St} {H : Hp} {Q : VK} (h : ta σ H fun x H1 => x = .ref C ∧ t σ H1 fun vs H2 => sp (.ref C :: vs) H2 Q (E σ)) : tCMethS C sp E ta t σ H Q := h
theorem rowP_snd (L : List Row) : (rowP L).map (·.2) = (rowR L).map (·.2) := by unfold rowP rowR; simp [List.map_map, Function.comp_def]
/-- the weights that rows give -/
theorem rows_weights {R : List (Str × Rat)} {LC : Nat} (h0 : 0 < LC) (hd : ∀ r ∈ R, r.2.den ∣ LC) (hp : ∀ r ∈ R, 0 ≤ r.2) (h1 : sF (R.map (·.2)) = 1) :
    (∀ z, 0 ≤ amt LC R z) ∧ ((keyR R).map (amt LC R)).sum = (LC : Int) ∧ ∀ z, (if z ∈ keyR R then ((amt LC R z : Int) : Rat) / ((((keyR R).map (amt LC R)).sum : Int) : Rat) else 0) = sumR R z := by
  have l0 : ((LC : Nat) : Rat) ≠ 0 := by
    have := ZR.ci (b := ((LC : Nat) : Int)) (by omega)
    simpa using this
  have ea : ∀ z, ((amt LC R z : Int) : Rat) = sumR R z * (LC : Rat) := fun z => amt_eq R hd
  have es : ((((keyR R).map (amt LC R)).sum : Int) : Rat) = (((LC : Nat) : Int) : Rat) := by
    rw [isum_cast, show ((keyR R).map fun z => ((amt LC R z : Int) : Rat)) = (keyR R).map fun z => sumR R z * (LC : Rat) from List.map_congr_left fun z _ => ea z, sF_mul, sF_keyR, h1]
    show (1 : Rat) * (LC : Rat) = (LC : Rat)
    grind
  have es2 : ((keyR R).map (amt LC R)).sum = (LC : Int) := by exact_mod_cast es
  refine ⟨fun z => ?_, es2, fun z => ?_⟩
  · have h2 : (0 : Rat) ≤ ((amt LC R z : Int) : Rat) := by
      rw [ea z]
      exact Rat.mul_nonneg (sumR_nonneg R hp) (by exact_mod_cast Nat.zero_le LC)
    exact_mod_cast h2
  · by_cases hz : z ∈ keyR R
    · rw [if_pos hz, es, ea z]
      show sumR R z * (LC : Rat) / (LC : Rat) = _
      grind
    · rw [if_neg hz, sumR_out R hz]
def spShared (K : PySem.W.Frag) (CR CC : Addr) : Sp := fun vs H Q _ => vs.length = 2 ∧ ∃ (l : Addr) (L : List Row) (D B : Nat), vs = [.ref CC, .ref l] ∧ SqL K H l (rowV L) ∧ RowsC CR H L ∧ L.length < 60 ∧ (∀ x ∈ L, nameB x.z = true ∧ 0 ≤ x.p ∧ ZR.Bd 900 x.p) ∧ (∀ i, ZR.Bd 2000 (sF (((rowR L).map (·.2)).take i))) ∧ sF ((rowR L).map (·.2)) = 1 ∧
  0 < D ∧ D < 2 ^ B ∧ B ≤ 900 ∧ (∀ x ∈ L, x.p.den ∣ D) ∧
  ∀ c H' N, H c = none → Same H H' → IsC CC H' c B N (sumR (rowR L)) → Q (.ref c) H'
theorem rat_num_nonneg {p : Rat} (h : 0 ≤ p) : 0 ≤ p.num := Rat.num_nonneg.mpr h
abbrev s_Chance_shared : Stmt := inClass (top 29) 2
theorem sc_Chance_shared : FnScope ["cls", "rows", "name", "share", "found", "_"] ["cls", "rows"] (defScope s_Chance_shared) := ⟨rfl, rfl, rfl, by decide +kernel, rfl, by decide +kernel, by decide +kernel⟩
theorem ok_Chance_shared {P : Program} {w : World} {K : PySem.W.Frag} {mg : Str → Option Value} {base : Heap} {CB CC CN CR CX : Addr} {f : Addr} {fd : FuncData} (F : L2.Fun K "shared" "Chance.shared" s_Chance_shared f fd)
    (C_c_Ratio : ClO K CR)
    (C_f_in_proportion : Cal P w K mg base "in_proportion" 2 (spInP K CR))
    (C_f_is_name : Cal P w K mg base "is_name" 1 spIsName)
    (C_f_total : Cal P w K mg base "total" 11 (spTotG K CR))
    (C_gRatio : mg "Ratio" = some (.ref CR))
    (C_i_Chance : CalI P w K mg base "Chance" CC 11 (spCInitG K CR CC CB CN CX))
    (C_k_Ratio_whole : CalK P w K mg base CR "whole" 10 (spRWhole CR))
    (C_na_Ratio_bottom : NoAttr K CR "bottom")
    (C_na_Ratio_top : NoAttr K CR "top")
    (C_ne_Ratio : NeC K CR)
    (C_o_Ratio_eq : CalO P w K mg base CR "__eq__" 1 (spREq K CR))
    (C_x_BadName : CalX P w K mg base "BadName" CN 1 ["self", "name"] (spX1 K CN "name" GStW))
    (C_x_BadNumber : CalX P w K mg base "BadNumber" CB 6 ["self", "n"] (spX1 K CB "n" (GNum CR)))
    (C_x_BadShares : CalX P w K mg base "BadShares" CX 6 ["self", "total"] (spX1 K CX "total" (GNum CR))) :
    FnOk P w K mg base (L2.CX P w) 13 f fd ["cls", "rows"] (spShared K CR CC) := by
  refine fnOk_mk F sc_Chance_shared (fun vs H Q E h => h.1) (fun cdv A outer s H vs Q E hr h => ?_)
  obtain ⟨_, l, L, D, B, rfl, hl, hR, hn, hx, hbs, h1, hD, hDB, hB, hdv, k⟩ := h
  refine ⟨_, pss_cons (ps_for (passes_of rfl) rfl (pi_any (K := K) rfl (pv 1)) (k_tup (K := K) (n := 2) rfl rfl (pgs_cons (pg_name (i := 2) sc_Chance_shared.nd rfl (Or.inl rfl)) (pgs_cons (pg_name (i := 3) sc_Chance_shared.nd rfl (Or.inl rfl)) pgs_nil))) (pss_cons (ps_if (pt_not (pt_val (z_callC C_f_is_name hr passN (pa_cons (pv 2) pa_nil)))) (pss_one (ps_raise rfl (takes_of rfl rfl rfl rfl) (z_mkX C_x_BadName hr (pa_cons (pv 2) pa_nil)))) (pss_nil))
    (pss_one (ps_if (pt_cmpR op_lt (pe_fld (pv 3) rfl) pe_int (nomark _)) (pss_one (ps_raise rfl (takes_of rfl rfl rfl rfl) (z_mkX C_x_BadNumber hr (pa_cons (pv 3) pa_nil)))) (pss_nil)))))
    (pss_cons (ps_set (i := 4) sc_Chance_shared.nd rfl (Or.inl rfl) (z_callC C_f_total hr passN (pa_cons (pe_lc (own := [("_", 5), ("share", 3)]) (by rfl) sc_Chance_shared.nd (pi_any (K := K) rfl (pv 1)) (blkOk_by (N := ["cls", "rows", "name", "share", "found", "_"]) (sc := defScope s_Chance_shared) (by decide +kernel)) (fun _ _ _ _ _ => k_tup (K := K) (n := 2) rfl rfl (pgs_cons (pg_name (i := 5) sc_Chance_shared.nd rfl (Or.inl rfl)) (pgs_cons (pg_name (i := 3) sc_Chance_shared.nd rfl (Or.inl rfl)) pgs_nil))) (fun _ _ _ _ _ => pts_nil) (fun _ _ _ _ _ => pv 3)) pa_nil)))
    (pss_cons (ps_if (pt_cmpR (z_neO C_o_Ratio_eq C_ne_Ratio hr) (pv 4) (z_cmethC (pe_glob (v := .ref CR) rfl C_gRatio rfl) C_k_Ratio_whole hr passN (pa_cons pe_int pa_nil)) (nomark _)) (pss_one (ps_raise rfl (takes_of rfl rfl rfl rfl) (z_mkX C_x_BadShares hr (pa_cons (pv 4) pa_nil)))) (pss_nil))
    (pss_one (ps_ret (z_makeL (i := 0) C_i_Chance hr passN (pa_cons (z_callC C_f_in_proportion hr passN (pa_cons (pv 1) pa_nil)) pa_nil)))))), ?_⟩
  try dsimp only [cxOf]
  walk_at "rd"
  have el : (rowV L).length = L.length := by unfold rowV; simp
  refine i_forA (H0 := H) (fun i σ H' => ∃ v2 v3, σ = [some (.ref CC), some (.ref l), v2, v3, none, none] ∧ Same H H') (.inl hl) ⟨none, none, rfl, Same.refl _⟩ (fun i σ H' h => by obtain ⟨_, _, _, s⟩ := h; exact s) ?_ ?_
  · rintro i x σ H1 hx1 ⟨v2, v3, rfl, s1⟩
    obtain ⟨y, hy, rfl⟩ := rowV_get hx1
    have hm := List.mem_of_getElem? hy
    obtain ⟨e1, e2⟩ := (hR.mono s1) y hm
    obtain ⟨n1, n2, n3⟩ := hx y hm
    refine i_gtup (.of e1) rfl ?_
    walk_at "rd"
    refine ⟨rfl, y.z, rfl, Nat.le_trans (nameB_len n1) (by decide), fun H2 s2 => ?_⟩
    rw [n1]
    have e2' := e2.mono s2
    walk_at "rd"
    refine i_dec (fun e => absurd (rat_num_nonneg n2) (by omega)) fun _ => ?_
    walk_at "rd"
    exact ⟨_, _, rfl, s1.trans s2⟩
  · rintro σ H1 ⟨v2, v3, rfl, s1⟩
    walk_at "rd"
    have hR1 := hR.mono s1
    refine i_lcA (H0 := H1) (fun i ys H2 => Same H1 H2 ∧ ys = rfs ((rowP L).take i)) (.inl (s1.seq hl)) (Same.refl _) (fun D H2 hD s e ho => ⟨s, rfl⟩) (fun i ys H2 p => p.1) ?_ ?_
    · rintro i x D2 ys H2 hD2 hx2 eD ⟨s2, rfl⟩
      obtain ⟨y, hy, rfl⟩ := rowV_get hx2
      have hm := List.mem_of_getElem? hy
      obtain ⟨e1, e2⟩ := (hR1.mono s2) y hm
      walk_at "rd"
      refine i_gtup (.of e1) rfl ?_
      walk_at "rd"
      refine ⟨by with_unfolding_all rfl, ?_⟩
      walk_at "rd"
      refine i_lcE eD (by unfold rfs rowP; rw [List.length_map, List.length_take, List.length_map]; omega) fun H3 e3 o3 => ⟨fun b o e => ?_, ?_⟩
      · rw [o3 _ (ne_of_none e hD2)]
        exact s2 _ _ e
      · have e : (rowP L)[i]? = some (y.r, y.p) := by unfold rowP; rw [List.getElem?_map, hy]; rfl
        rw [List.take_add_one, e]
        unfold rfs
        rw [List.map_append]
        rfl
    · rintro D2 ys H2 hD2 eD ⟨s2, rfl⟩
      have el2 : (rowP L).length = L.length := by unfold rowP; simp
      rw [el, ← el2, List.take_length] at eD
      walk_at "rd"
      have hRP : RsAt CR H2 (rowP L) := fun x hx => by
        obtain ⟨y, hy, rfl⟩ := List.mem_map.mp hx
        exact ((hR1.mono s2) y hy).2
      refine ⟨rfl, D2, rowP L, rfl, .of eD, hRP, fun x hx' => ?_, fun i => ?_, fun c H3 hc s3 hr3 => ?_⟩
      · obtain ⟨y, hy, rfl⟩ := List.mem_map.mp hx'
        exact (hx y hy).2.2.mono (by decide)
      · rw [sm_sF, List.map_take, rowP_snd]
        exact hbs i
      rw [sm_sF, rowP_snd, h1] at hr3
      walk_at "rd"
      refine i_cmS ?_
      walk_at "rd"
      refine ⟨rfl, ?_⟩
      walk_at "rd"
      refine i_whole fun c2 H4 hc2 s4 hr4 => ?_
      walk_at "rd"
      refine i_Rne (hr3.mono s4) hr4 fun H5 s5 => ?_
      rw [show (!decide ((1 : Rat) = ((1 : Int) : Rat))) = false from by simp]
      walk_at "rd"
      have t05 : Same H H5 := s1.trans (s2.trans (s3.trans (s4.trans s5)))
      refine ⟨rfl, ?_⟩
      walk_at "rd"
      refine ⟨rfl, l, L, D, rfl, t05.seq hl, hR.mono t05, by omega, hD, Nat.lt_of_lt_of_le hDB (Nat.pow_le_pow_right (by decide) (by omega)), fun x hx' => ⟨hdv x hx', Nat.lt_of_lt_of_le (hx x hx').2.2.num (Nat.pow_le_pow_right (by decide) (by decide))⟩, fun q o H6 hq6 s6 e6 => ?_⟩
      walk_at "rd"
      have hdl : ∀ r ∈ rowR L, r.2.den ∣ lcF (dens (rowP L)) := fun r hr => by
        obtain ⟨y, hy, rfl⟩ := List.mem_map.mp hr
        exact dvd_lcF (List.mem_map.mpr ⟨(y.r, y.p), List.mem_map.mpr ⟨y, hy, rfl⟩, rfl⟩)
      have lcd : lcF (dens (rowP L)) ∣ D := lcF_dvd fun d hd => by
        obtain ⟨x, hx', rfl⟩ := List.mem_map.mp hd
        obtain ⟨y, hy, rfl⟩ := List.mem_map.mp hx'
        exact hdv y hy
      have lc0 : 0 < lcF (dens (rowP L)) := Nat.pos_of_dvd_of_pos lcd hD
      generalize lcF (dens (rowP L)) = LC at *
      obtain ⟨a0, as, ap⟩ := rows_weights lc0 hdl (fun r hr => by obtain ⟨y, hy, rfl⟩ := List.mem_map.mp hr; exact (hx y hy).2.1) h1
      have LB : (LC : Int) < (2 : Int) ^ B := by
        have := Nat.le_of_dvd hD lcd
        have e : (2 : Int) ^ B = ((2 ^ B : Nat) : Int) := by push_cast; rfl
        omega
      have kl : (keyR (rowR L)).length ≤ L.length := keyR_len L
      have pz : ∃ z ∈ keyR (rowR L), 0 < amt LC (rowR L) z := by
        apply Classical.byContradiction
        intro hno
        have : ((keyR (rowR L)).map (amt LC (rowR L))).sum = 0 := by
          have z0 : ∀ z ∈ keyR (rowR L), amt LC (rowR L) z = 0 := fun z hz => by
            have := a0 z
            apply Classical.byContradiction
            intro h
            exact hno ⟨z, hz, by omega⟩
          have := sum_scale (g := 0) (w := amt LC (rowR L)) (v := amt LC (rowR L)) (keyR (rowR L)) fun z hz => by simp [z0 z hz]
          rw [this, Int.zero_mul]
        omega
      refine i_newC (B := B) e6 (keyR_nodup _) (by omega) (fun z hz => ?_) (fun z hz => ⟨a0 z, ?_⟩) pz (by rw [as]; exact LB) fun c7 H7 hc7 s7 hc => ?_
      · obtain ⟨r, hr, e⟩ := (mem_keyR _).mp hz
        obtain ⟨y, hy, rfl⟩ := List.mem_map.mp hr
        rw [← e]
        exact (hx y hy).1
      · have := sum_ge (v := amt LC (rowR L)) (l := keyR (rowR L)) (fun z _ => a0 z) z hz
        have e1 : (2 : Int) ^ B = ((2 ^ B : Nat) : Int) := by push_cast; rfl
        have e2 : (2 : Int) ^ 1000 = ((2 ^ 1000 : Nat) : Int) := by push_cast; rfl
        have e3 : 2 ^ B ≤ 2 ^ 1000 := Nat.pow_le_pow_right (by decide) (by omega)
        omega
      · walk_at "rd"
        exact k c7 H7 _ (same_noneV (t05.trans s6) hc7) ((t05.trans s6).trans s7) (hc.congr fun z => (ap z).symm)
/-- where the shares go -/
def goR (N : List Str) (g : Str → Str) (p : Str → Rat) : List (Str × Rat) := N.map fun z => (g z, p z)
def goI (N : List Str) (g : Str → Str) (w : Str → Int) (y : Str) : Int := N.foldl (fun s z => if g z = y then s + w z else s) 0
def goK (N : List Str) (g : Str → Str) : List Str := N.foldl (fun ks z => adK ks (g z)) []
theorem goI_snoc {N : List Str} {g : Str → Str} {w : Str → Int} {y z : Str} : goI (N ++ [z]) g w y = if g z = y then goI N g w y + w z else goI N g w y := by unfold goI; rw [List.foldl_append]; rfl
theorem goK_snoc {N : List Str} {g : Str → Str} {z : Str} : goK (N ++ [z]) g = adK (goK N g) (g z) := by unfold goK; rw [List.foldl_append]; rfl
theorem goK_keyR (g : Str → Str) (p : Str → Rat) : ∀ N : List Str, goK N g = keyR (goR N g p) := by
  refine snoc_ind rfl fun l z ih => ?_
  unfold goR at ih ⊢
  rw [goK_snoc, List.map_append, List.map_cons, List.map_nil, keyR_snoc, ih]
theorem goI_out {g : Str → Str} {w : Str → Int} {y : Str} : ∀ N : List Str, y ∉ goK N g → goI N g w y = 0 := by
  refine snoc_ind (fun _ => rfl) fun l z ih h => ?_
  rw [goK_snoc, mem_adK] at h
  rw [goI_snoc, if_neg (fun e => h (.inr e.symm))]
  exact ih fun k => h (.inl k)
theorem goI_cast {g : Str → Str} {w : Str → Int} {c : Rat} {y : Str} : ∀ N : List Str, ((goI N g w y : Int) : Rat) * c = sumR (goR N g fun z => ((w z : Int) : Rat) * c) y := by
  refine snoc_ind (by show ((0 : Int) : Rat) * c = 0; rw [show ((0 : Int) : Rat) = 0 from rfl, Rat.zero_mul]) fun l z ih => ?_
  unfold goR at ih ⊢
  rw [List.map_append, List.map_cons, List.map_nil, sumR_snoc, goI_snoc, ← ih]
  by_cases e : g z = y
  · rw [if_pos e, if_pos e, Rat.intCast_add]; grind
  · rw [if_neg e, if_neg e]
theorem goI_pos {g : Str → Str} {w : Str → Int} {y : Str} : ∀ N : List Str, (∀ z ∈ N, 0 < w z) → 0 ≤ goI N g w y ∧ (y ∈ goK N g → 0 < goI N g w y) := by
  refine snoc_ind (fun _ => ⟨Int.le_refl _, fun h => by cases h⟩) fun l z ih h => ?_
  obtain ⟨h1, h2⟩ := ih fun x hx => h x (List.mem_append_left _ hx)
  have h3 := h z (List.mem_append_right _ (List.mem_singleton.mpr rfl))
  rw [goI_snoc, goK_snoc, mem_adK]
  by_cases e : g z = y
  · rw [if_pos e]; exact ⟨by omega, fun _ => by omega⟩
  · rw [if_neg e]; exact ⟨h1, fun k => k.elim h2 fun k => absurd k.symm e⟩
theorem isum_one {f : Str → Int} {r : Str} {n : Int} : ∀ l : List Str, l.Nodup → (l.map fun u => if r = u then f u + n else f u).sum = (l.map f).sum + if r ∈ l then n else 0 := by
  refine snoc_ind (fun _ => by simp) fun l u ih h => ?_
  obtain ⟨h1, _, h2⟩ := List.nodup_append.mp h
  rw [List.map_append, List.map_append, List.map_cons, List.map_nil, List.map_cons, List.map_nil, List.sum_append, List.sum_append, ih h1]
  simp only [List.sum_cons, List.sum_nil, Int.add_zero]
  by_cases e : r = u
  · have hu : r ∉ l := fun g => h2 r g u (List.mem_singleton.mpr rfl) e
    rw [if_pos e, if_neg hu, if_pos (List.mem_append_right _ (List.mem_singleton.mpr e))]
    omega
  · rw [if_neg e]
    by_cases g : r ∈ l
    · rw [if_pos g, if_pos (List.mem_append_left _ g)]; omega
    · rw [if_neg g, if_neg (fun k => (List.mem_append.mp k).elim g fun k => e (List.mem_singleton.mp k))]; omega
theorem goK_nodup {g : Str → Str} (N : List Str) : (goK N g).Nodup := by rw [goK_keyR g fun _ => 0]; exact keyR_nodup _
theorem goI_sum {g : Str → Str} {w : Str → Int} : ∀ N : List Str, ((goK N g).map (goI N g w)).sum = (N.map w).sum := by
  refine snoc_ind rfl fun l z ih => ?_
  have e : goI (l ++ [z]) g w = fun u => if g z = u then goI l g w u + w z else goI l g w u := by funext u; exact goI_snoc
  rw [goK_snoc, e, isum_one _ (adK_nodup (goK_nodup l)), if_pos (mem_adK.mpr (.inr rfl)), List.map_append, List.sum_append, ← ih]
  simp only [List.map_cons, List.map_nil, List.sum_cons, List.sum_nil, Int.add_zero]
  congr 1
  by_cases h : g z ∈ goK l g
  · rw [adK_old h]
  · rw [adK_new h, List.map_append, List.sum_append]
    simp [goI_out l h]
theorem goK_len {g : Str → Str} : ∀ N : List Str, (goK N g).length ≤ N.length := by
  refine snoc_ind (Nat.le_refl _) fun l z ih => ?_
  rw [goK_snoc, List.length_append]
  exact Nat.le_trans adK_len (by simp; omega)
theorem mem_goK {g : Str → Str} {y : Str} : ∀ N : List Str, y ∈ goK N g ↔ ∃ z ∈ N, g z = y := by
  refine snoc_ind (by simp [goK]) fun l r ih => ?_
  rw [goK_snoc, mem_adK, ih]
  constructor
  · rintro (⟨x, hx, e⟩ | e)
    · exact ⟨x, List.mem_append_left _ hx, e⟩
    · exact ⟨r, List.mem_append_right _ (List.mem_singleton.mpr rfl), e.symm⟩
  · rintro ⟨x, hx, e⟩
    rcases List.mem_append.mp hx with h | h
    · exact .inl ⟨x, h, e⟩
    · rw [List.mem_singleton.mp h] at e; exact .inr e.symm
/-- the first name that goes to no name -/
def badG (N : List Str) (g : Str → Str) : Option Str := N.find? fun z => !nameB (g z)
def spSent (K : PySem.W.Frag) (CC CU CN : Addr) : Sp := fun vs H Q E => vs.length = 2 ∧ ∃ (a t : Addr) (B : Nat) (N : List Str) (p : Str → Rat) (ks : List Str) (f : Str → V) (g : Str → Str), vs = [.ref a, .ref t] ∧ IsC CC H a B N p ∧ B ≤ 900 ∧ Rd H t (.dK (dF ks f)) ∧
  (∀ z ∈ ks, f z = .str (g z) ∧ (g z).length ≤ 1000 ∧ RW (g z)) ∧
  (∀ z, miss ks N = some z → EName CU z H E) ∧ (miss ks N = none → (∀ z, badG N g = some z → EName CN (g z) H E) ∧ (badG N g = none → ∀ c H' M, H c = none → Same H H' → IsC CC H' c B M (sumR (goR N g p)) → Q (.ref c) H'))
abbrev s_Chance_sent : Stmt := inClass (top 29) 8
theorem sc_Chance_sent : FnScope ["self", "names", "name", "weights"] ["self", "names"] (defScope s_Chance_sent) := ⟨rfl, rfl, rfl, by decide +kernel, rfl, by decide +kernel, by decide +kernel⟩
theorem ok_Chance_sent {P : Program} {w : World} {K : PySem.W.Frag} {mg : Str → Option Value} {base : Heap} {CB CC CN CR CU CX : Addr} {f : Addr} {fd : FuncData} (F : L2.Fun K "sent" "Chance.sent" s_Chance_sent f fd)
    (C_c_Chance : ClO K CC)
    (C_f_is_name : Cal P w K mg base "is_name" 1 spIsName)
    (C_i_Chance : CalI P w K mg base "Chance" CC 11 (spCInitG K CR CC CB CN CX))
    (C_m_Chance__check_keys : CalM P w K mg base CC "_check_keys" 3 (spChk CC CU))
    (C_na_Chance__sum : NoAttr K CC "_sum")
    (C_na_Chance__weights : NoAttr K CC "_weights")
    (C_x_BadName : CalX P w K mg base "BadName" CN 1 ["self", "name"] (spX1 K CN "name" GStW)) :
    FnOk P w K mg base (L2.CX P w) 13 f fd ["self", "names"] (spSent K CC CU CN) := by
  refine fnOk_mk F sc_Chance_sent (fun vs H Q E h => h.1) (fun cdv A outer s H vs Q E hr h => ?_)
  obtain ⟨_, a, t, B, N, p, ks, f0, g, rfl, hC, hB, ht, hg, kE, k⟩ := h
  refine ⟨_, pss_cons (ps_expr (z_methC (pv 0) C_c_Chance.toCls C_m_Chance__check_keys hr (fun σ => passAt (takes_of rfl rfl rfl rfl) σ) (pa_cons (pv 1) pa_nil)))
    (pss_cons (ps_for (passes_of rfl) rfl (pi_keys (pe_fld (pv 0) rfl)) (pg_name (i := 2) sc_Chance_sent.nd rfl (Or.inl rfl)) (pss_one (ps_if (pt_not (pt_val (z_callC C_f_is_name hr passN (pa_cons (pe_dget (hu_of hr) (pv 1) (pv 2) (fun _ _ => rfl)) pa_nil)))) (pss_one (ps_raise rfl (takes_of rfl rfl rfl rfl) (z_mkX C_x_BadName hr (pa_cons (pe_dget (hu_of hr) (pv 1) (pv 2) (fun _ _ => rfl)) pa_nil)))) (pss_nil))))
    (pss_cons (ps_set (i := 3) sc_Chance_sent.nd rfl (Or.inl rfl) pe_dnewK)
    (pss_cons (ps_for (passes_of rfl) rfl (pi_keys (pe_fld (pv 0) rfl)) (pg_name (i := 2) sc_Chance_sent.nd rfl (Or.inl rfl)) (pss_one (ps_dput (hu_of hr) (pv 3) (pe_dget (hu_of hr) (pv 1) (pv 2) (fun _ _ => rfl)) (pe_op op_add (pe_dget2 (hu_of hr) (pv 3) (pe_dget (hu_of hr) (pv 1) (pv 2) (fun _ _ => rfl)) pe_int ⟨by rfl, by rfl, by rfl, by rfl⟩) (pe_dget (hu_of hr) (pe_fld (pv 0) rfl) (pv 2) (fun _ _ => rfl))) (by rfl))))
    (pss_one (ps_frz (ps_ret (z_makeC C_i_Chance hr (fun σ => passAt (takes_of rfl rfl rfl rfl) σ) (pa_cons (pv 3) pa_nil)))))))), ?_⟩
  try dsimp only [cxOf]
  walk_at "rd"
  obtain ⟨dx, d, o, w, S, h1, h2, cd, hp⟩ := id hC
  refine i_meth1 h1 (cf_no (by decide +kernel) (by decide +kernel)) ?_
  walk_at "rd"
  refine ⟨rfl, a, t, B, N, p, ks, f0, rfl, hC, ht, kE, fun hm => ?_⟩
  obtain ⟨kN, k⟩ := k hm
  have hin := miss_all hm
  walk_at "rd"
  refine i_fld1 h1 C_c_Chance.toCls C_na_Chance__weights (cf_w d S) ?_
  refine i_forK (H0 := H) (fun i σ H' => ∃ v, σ = [some (.ref a), some (.ref t), v, none] ∧ Same H H' ∧ ∀ z ∈ N.take i, nameB (g z) = true) h2 ⟨none, rfl, Same.refl _, fun z hz => by simp at hz⟩ (fun i σ H' h => by obtain ⟨_, _, s, _⟩ := h; exact .of s) ?_ ?_
  · rintro i z σ H1 hz ⟨v, rfl, s1, hk⟩
    have hmz := List.mem_of_getElem? hz
    obtain ⟨g1, g2, g3⟩ := hg z (hin z hmz)
    have rd : ∀ H', Same H1 H' → Rd H' t (.dK (dF ks f0)) := fun H' s => ht.elim (fun e => .inl (s _ _ (s1 _ _ e))) fun ⟨o, e⟩ => .inr ⟨o, s _ _ (s1 _ _ e)⟩
    walk_at "rd"
    refine i_dgetR (rd _ (Same.refl _)) (valV_in (hin z hmz)) ?_
    rw [g1]
    walk_at "rd"
    refine ⟨rfl, g z, rfl, Nat.le_trans g2 (by decide), fun H2 s2 => ?_⟩
    cases e : nameB (g z) with
    | true =>
      walk_at "rd"
      refine ⟨some (.str z), rfl, s1.trans s2, fun y hy => ?_⟩
      rw [List.take_add_one, hz] at hy
      rcases List.mem_append.mp hy with h | h
      · exact hk y h
      · rw [List.mem_singleton.mp h]; exact e
    | false =>
      walk_at "rd"
      refine i_dgetR (rd _ s2) (valV_in (hin z hmz)) ?_
      rw [g1]
      have me : badG N g = some z := by
        unfold badG
        rw [List.find?_eq_some_iff_getElem]
        obtain ⟨lt, ez⟩ := List.getElem?_eq_some_iff.mp hz
        refine ⟨by rw [e]; rfl, i, lt, ez, fun j hj => ?_⟩
        have := hk N[j] (List.mem_iff_getElem.mpr ⟨j, by rw [List.length_take]; omega, by simp⟩)
        rw [this]; rfl
      walk_at "rd"
      exact i_mkX1 (fun H' s => ⟨g z, rfl, g3⟩) fun d' H' _ s e => kN z me d' H' ((s1.trans s2).trans s) e
  · rintro σ H1 ⟨v, rfl, s1, hk⟩
    rw [List.take_length] at hk
    walk_at "rd"
    refine i_dnew fun dW H2 hdW s2 e2 o2 => ?_
    walk_at "rd"
    have h12 := s2 _ _ (s1 _ _ h1)
    have t02 := s1.trans s2
    have dWn : H dW = none := same_noneV s1 hdW
    refine i_fld1 h12 C_c_Chance.toCls C_na_Chance__weights (cf_w d S) ?_
    refine i_forK (H0 := H1) (fun i σ H' => ∃ v, σ = [some (.ref a), some (.ref t), v, some (.ref dW)] ∧ Same H1 H' ∧ H' dW = some (.dK (dI (goK (N.take i) g) (goI (N.take i) g w))) ∧ (goK (N.take i) g).length ≤ i) (s1 _ _ h2) ⟨v, rfl, s2, e2, Nat.le_refl _⟩ (fun i σ H' h => by obtain ⟨_, _, s, _⟩ := h; exact .of s) ?_ ?_
    · rintro i z σ H3 hz ⟨v, rfl, s3, e3, l3⟩
      have hmz := List.mem_of_getElem? hz
      have lt := (List.getElem?_eq_some_iff.mp hz).1
      have hl := cd.len
      obtain ⟨g1, g2, g3⟩ := hg z (hin z hmz)
      have t03 := s1.trans s3
      have rd : Rd H3 t (.dK (dF ks f0)) := ht.elim (fun e => .inl (t03 _ _ e)) fun ⟨o, e⟩ => .inr ⟨o, t03 _ _ e⟩
      walk_at "rd"
      refine i_dget2 (.inl e3) ?_
      walk_at "rd"
      refine i_dgetR rd (valV_in (hin z hmz)) ?_
      rw [g1]
      walk_at "rd"
      refine i_dget2b (.inl e3) ?_
      rw [getD_dI (fun h => goI_out _ h)]
      walk_at "rd"
      refine i_fld1 (t03 _ _ h1) C_c_Chance.toCls C_na_Chance__weights (cf_w d S) ?_
      walk_at "rd"
      refine i_dgetR (.inr ⟨o, t03 _ _ h2⟩) (valV_in hmz) ?_
      walk_at "rd"
      refine i_dgetR rd (valV_in (hin z hmz)) ?_
      rw [g1]
      refine i_dputF e3 (by omega) fun H4 e4 o4 => ?_
      walk_at "rd"
      have tk : N.take (i + 1) = N.take i ++ [z] := by rw [List.take_add_one, hz]; rfl
      refine ⟨_, rfl, fun b u e => ?_, ?_, ?_⟩
      · rw [o4 b (ne_of_none e hdW)]
        exact s3 _ _ e
      · rw [e4, tk, goK_snoc]
        congr 3
        funext u
        rw [goI_snoc]
        unfold upF
        by_cases e : u = g z
        · rw [if_pos e, if_pos e.symm, e]
        · rw [if_neg e, if_neg (fun h => e h.symm)]
      · rw [tk, goK_snoc]
        exact Nat.le_trans adK_len (by omega)
    · rintro σ H3 ⟨v, rfl, s3, e3, l3⟩
      rw [List.take_length] at e3
      refine i_frz e3 trivial fun od H4 e4 o4 => ?_
      walk_at "rd"
      have hbad : badG N g = none := by
        unfold badG
        rw [List.find?_eq_none]
        intro z hz
        rw [hk z hz]
        simp
      have hl := cd.len
      have gl := goK_len (g := g) N
      obtain ⟨z0, hz0⟩ : ∃ z0, z0 ∈ N := by
        cases hN : N with
        | nil => have := cd.ne; rw [cd.sum, hN] at this; simp at this
        | cons x l => exact ⟨x, List.mem_cons_self⟩
      have gs := goI_sum (g := g) (w := w) N
      rw [← cd.sum] at gs
      have a0 : ∀ y, 0 ≤ goI N g w y := fun y => (goI_pos N cd.pos).1
      refine i_newC (B := B) e4 (goK_nodup N) (by omega) (fun y hy => ?_) (fun y hy => ⟨a0 y, ?_⟩) ⟨g z0, (mem_goK N).mpr ⟨z0, hz0, rfl⟩, (goI_pos N cd.pos).2 ((mem_goK N).mpr ⟨z0, hz0, rfl⟩)⟩ (by rw [gs]; exact cd.sz) fun c H5 hc s5 hcC => ?_
      · obtain ⟨z, hz, rfl⟩ := (mem_goK N).mp hy
        exact hk z hz
      · have := sum_ge (v := goI N g w) (l := goK N g) (fun z _ => a0 z) y hy
        have sz := cd.sz
        have e1 : (2 : Int) ^ B = ((2 ^ B : Nat) : Int) := by push_cast; rfl
        have e2 : (2 : Int) ^ 1000 = ((2 ^ 1000 : Nat) : Int) := by push_cast; rfl
        have e3 : 2 ^ B ≤ 2 ^ 1000 := Nat.pow_le_pow_right (by decide) (by omega)
        omega
      · have t05 : Same H H5 := fun b u e => s5 _ _ (by
          rw [o4 b (ne_of_none e dWn)]
          exact s3 _ _ (s1 _ _ e))
        walk_at "rd"
        refine k hbad c H5 _ ?_ t05 (hcC.congr fun y => ?_)
        · cases z : H c with
          | none => rfl
          | some o => rw [t05 _ _ z |> fun _ => (by rw [o4 c (ne_of_none z dWn)]; exact s3 _ _ (s1 _ _ z) : H4 c = some o)] at hc; cases hc
        · have ec : sumR (goR N g p) y = ((goI N g w y : Int) : Rat) * ((S : Int) : Rat)⁻¹ := by
            rw [goI_cast]
            congr 1
            unfold goR
            refine List.map_congr_left fun z hz => ?_
            rw [hp z, if_pos hz, Rat.div_def]
          rw [ec, gs]
          by_cases hy : y ∈ goK N g
          · rw [if_pos hy, Rat.div_def]
          · rw [if_neg hy, goI_out N hy, show ((0 : Int) : Rat) = 0 from rfl, Rat.zero_mul]
theorem sF_app {l : List Rat} : ∀ m : List Rat, sF (l ++ m) = sF l + sF m := by
  refine snoc_ind (P := fun m => sF (l ++ m) = sF l + sF m) (by rw [List.append_nil, sF_nil]; grind) fun m q ih => ?_
  rw [← List.append_assoc, sF_snoc, sF_snoc, ih]
  grind
theorem sumR_app {l : List (Str × Rat)} {z : Str} : ∀ m : List (Str × Rat), sumR (l ++ m) z = sumR l z + sumR m z := by
  refine snoc_ind (by rw [List.append_nil]; show _ = _ + (0 : Rat); grind) fun m q ih => ?_
  rw [← List.append_assoc, sumR_snoc, sumR_snoc, ih]
  split <;> grind
theorem sumR_map {f : Str → Rat} {y : Str} : ∀ N : List Str, N.Nodup → sumR (N.map fun z => (z, f z)) y = if y ∈ N then f y else 0 := by
  refine snoc_ind (fun _ => rfl) fun l z ih h => ?_
  obtain ⟨h1, _, h2⟩ := List.nodup_append.mp h
  rw [List.map_append, List.map_cons, List.map_nil, sumR_snoc, ih h1]
  by_cases e : z = y
  · have hy : y ∉ l := fun g => h2 y g z (List.mem_singleton.mpr rfl) e.symm
    rw [if_pos e, if_neg hy, if_pos (List.mem_append_right _ (List.mem_singleton.mpr e.symm)), e]
    grind
  · rw [if_neg e]
    by_cases g : y ∈ l
    · rw [if_pos g, if_pos (List.mem_append_left _ g)]
    · rw [if_neg g, if_neg (fun k => (List.mem_append.mp k).elim g fun k => e (List.mem_singleton.mp k).symm)]
theorem gs_sF {D B : Nat} : ∀ l : List Rat, (∀ q ∈ l, Gs D B q) → Gs D (l.length * B) (sF l) := by
  refine snoc_ind (P := fun l => (∀ q ∈ l, Gs D B q) → Gs D (l.length * B) (sF l)) (fun _ => by rw [sF_nil]; exact Gs.zero) fun l q ih h => ?_
  rw [sF_snoc, List.length_append, List.length_singleton, Nat.add_mul, Nat.one_mul]
  exact (ih fun x hx => h x (List.mem_append_left _ hx)).add (h q (List.mem_append_right _ (List.mem_singleton.mpr rfl)))
theorem gs_unit {D : Nat} {q : Rat} (h : ∃ n : Int, q * (D : Rat) = (n : Rat)) (h0 : 0 ≤ q) (h1 : q ≤ 1) : Gs D D q := by
  obtain ⟨n, e⟩ := h
  have dn : (0 : Rat) ≤ (D : Rat) := by exact_mod_cast Nat.zero_le D
  have a : (0 : Rat) ≤ (n : Rat) := by rw [← e]; exact Rat.mul_nonneg h0 dn
  have b : (n : Rat) ≤ (((D : Nat) : Int) : Rat) := by
    rw [← e]
    show q * (D : Rat) ≤ (D : Rat)
    have := Rat.mul_le_mul_of_nonneg_right h1 dn
    grind
  have a' : 0 ≤ n := by exact_mod_cast a
  have b' : n ≤ ((D : Nat) : Int) := by exact_mod_cast b
  exact ⟨n, e, by omega⟩
/-- a share is a multiple of 1/S, from 0 to 1 -/
theorem IsC.unit {CC a : Addr} {H : Hp} {B : Nat} {N : List Str} {p : Str → Rat} (h : IsC CC H a B N p) : ∃ S : Nat, 0 < S ∧ S < 2 ^ B ∧ ∀ z, (∃ n : Int, p z * (S : Rat) = (n : Rat)) ∧ 0 ≤ p z ∧ p z ≤ 1 := by
  have hn := h.nonneg
  obtain ⟨dx, d, o, w, S, h1, h2, h3, h4⟩ := h
  have S0 := h3.ne
  have s0 : ((S : Int) : Rat) ≠ 0 := ZR.ci (by omega)
  have es : (((S.toNat : Nat) : Int)) = S := by omega
  have sz := h3.sz
  have e1 : (2 : Int) ^ B = ((2 ^ B : Nat) : Int) := by push_cast; rfl
  refine ⟨S.toNat, by omega, by omega, fun z => ?_⟩
  have ec : ((S.toNat : Nat) : Rat) = ((S : Int) : Rat) := by
    show (((S.toNat : Nat) : Int) : Rat) = _
    rw [es]
  rw [ec]
  refine ⟨?_, hn z, ?_⟩
  · rw [h4 z]
    by_cases hz : z ∈ N
    · rw [if_pos hz]
      exact ⟨w z, by grind⟩
    · rw [if_neg hz]
      exact ⟨0, by rw [Rat.zero_mul]; rfl⟩
  · rw [h4 z]
    by_cases hz : z ∈ N
    · rw [if_pos hz]
      have le := sum_ge (v := w) (fun y hy => by have := h3.pos y hy; omega) z hz
      rw [← h3.sum] at le
      have le2 : ((w z : Int) : Rat) ≤ ((S : Int) : Rat) := by exact_mod_cast le
      have sp : (0 : Rat) < ((S : Int) : Rat) := by exact_mod_cast S0
      rw [Rat.div_def]
      have := Rat.mul_le_mul_of_nonneg_right le2 (show (0 : Rat) ≤ ((S : Int) : Rat)⁻¹ by have := Rat.inv_pos.mpr sp; grind)
      rw [Rat.mul_inv_cancel _ s0] at this
      exact this
    · rw [if_neg hz]; grind
theorem unit_mul {p q : Rat} (p0 : 0 ≤ p) (p1 : p ≤ 1) (q0 : 0 ≤ q) (q1 : q ≤ 1) : 0 ≤ p * q ∧ p * q ≤ 1 := by
  refine ⟨Rat.mul_nonneg p0 q0, ?_⟩
  have h1 := Rat.mul_le_mul_of_nonneg_right p1 q0
  grind
theorem int_mul {p q : Rat} {D E : Nat} (h : ∃ n : Int, p * (D : Rat) = (n : Rat)) (g : ∃ n : Int, q * (E : Rat) = (n : Rat)) : ∃ n : Int, p * q * ((D * E : Nat) : Rat) = (n : Rat) := by
  obtain ⟨n, hn⟩ := h
  obtain ⟨m, hm⟩ := g
  exact ⟨n * m, by rw [Rat.natCast_mul, Rat.intCast_mul, ← hn, ← hm]; grind⟩
theorem int_scale {p : Rat} {D E : Nat} (h : ∃ n : Int, p * (D : Rat) = (n : Rat)) : ∃ n : Int, p * ((D * E : Nat) : Rat) = (n : Rat) := by
  obtain ⟨n, hn⟩ := h
  refine ⟨n * E, by
    rw [Rat.natCast_mul, Rat.intCast_mul, ← hn]
    have : ((E : Int) : Rat) = (E : Rat) := rfl
    rw [this]
    grind⟩
theorem int_den (s : Rat) : ∃ n : Int, s * (s.den : Rat) = (n : Rat) := ⟨s.num, by
  have e1 := ZR.r_self s
  have e2 := ZR.ci (ZR.den_ne s)
  have e3 : (((s.den : Nat) : Int) : Rat) = ((s.den : Nat) : Rat) := rfl
  rw [e3] at e1 e2
  grind⟩
theorem int_one_sub {s : Rat} {D : Nat} (h : ∃ n : Int, s * (D : Rat) = (n : Rat)) : ∃ n : Int, (1 - s) * (D : Rat) = (n : Rat) := by
  obtain ⟨n, hn⟩ := h
  refine ⟨D - n, ?_⟩
  rw [Rat.intCast_sub, ← hn]
  have : (((D : Nat) : Int) : Rat) = (D : Rat) := rfl
  rw [this]
  grind
/-- the rows of both chances -/
def mixR (N : List Str) (c : Rat) (p : Str → Rat) : List (Str × Rat) := N.map fun z => (z, c * p z)
theorem mix_sum {N M : List Str} {p q : Str → Rat} {s : Rat} (h1 : sF (N.map p) = 1) (h2 : sF (M.map q) = 1) : sF ((mixR N (1 - s) p ++ mixR M s q).map (·.2)) = 1 := by
  have e : ∀ (N : List Str) (c : Rat) (p : Str → Rat), (mixR N c p).map (·.2) = N.map fun z => p z * c := fun N c p => by
    unfold mixR
    rw [List.map_map]
    exact List.map_congr_left fun z _ => by show c * p z = p z * c; grind
  rw [List.map_append, sF_app, e, e, sF_mul, sF_mul, h1, h2]
  grind
theorem mix_at {N M : List Str} {p q : Str → Rat} {s : Rat} (hN : N.Nodup) (hM : M.Nodup) (hp : ∀ z, z ∉ N → p z = 0) (hq : ∀ z, z ∉ M → q z = 0) (z : Str) : sumR (mixR N (1 - s) p ++ mixR M s q) z = (1 - s) * p z + s * q z := by
  unfold mixR
  rw [sumR_app, sumR_map _ hN, sumR_map _ hM]
  by_cases a : z ∈ N
  · by_cases b : z ∈ M
    · rw [if_pos a, if_pos b]
    · rw [if_pos a, if_neg b, hq z b]; grind
  · by_cases b : z ∈ M
    · rw [if_neg a, if_pos b, hp z a]; grind
    · rw [if_neg a, if_neg b, hp z a, hq z b]; grind
theorem IsC.out {CC a : Addr} {H : Hp} {B : Nat} {N : List Str} {p : Str → Rat} (h : IsC CC H a B N p) {z : Str} (hz : z ∉ N) : p z = 0 := by
  obtain ⟨dx, d, o, w, S, h1, h2, h3, h4⟩ := h
  rw [h4 z, if_neg hz]
theorem IsC.chd {CC a : Addr} {H : Hp} {B : Nat} {N : List Str} {p : Str → Rat} (h : IsC CC H a B N p) : N.Nodup ∧ srt N = N ∧ N.length < 60 ∧ (∀ z ∈ N, nameB z = true) ∧ 0 < N.length := by
  obtain ⟨dx, d, o, w, S, h1, h2, h3, h4⟩ := h
  refine ⟨h3.nodup, h3.sorted, h3.len, h3.nm, ?_⟩
  cases hN : N with
  | nil => have := h3.ne; rw [h3.sum, hN] at this; simp at this
  | cons x l => simp
def spMixed (K : PySem.W.Frag) (CR CC CB : Addr) : Sp := fun vs H Q E => vs.length = 3 ∧ ∃ (a b r : Addr) (B B' C : Nat) (N M : List Str) (p q : Str → Rat) (s : Rat), vs = [.ref a, .ref b, .ref r] ∧ IsC CC H a B N p ∧ IsC CC H b B' M q ∧ IsR CR H r s ∧ N.length + M.length < 60 ∧ B + B' + C ≤ 900 ∧ s.num.natAbs < 10 ^ 30 ∧ s.den < 10 ^ 30 ∧ s.den < 2 ^ C ∧
  ((s < 0 ∨ 1 < s) → ∀ d H', Same H H' → H' d = some (.xd [("n", .ref r)]) → E (.ref CB) (some d) H') ∧
  (0 ≤ s → s ≤ 1 → ∀ c H' N', H c = none → Same H H' → IsC CC H' c (B + B' + C) N' (fun z => (1 - s) * p z + s * q z) → Q (.ref c) H')
abbrev s_Chance_mixed : Stmt := inClass (top 29) 9
theorem sc_Chance_mixed : FnScope ["self", "other", "share", "rest", "kept", "name", "come"] ["self", "other", "share"] (defScope s_Chance_mixed) := ⟨rfl, rfl, rfl, by decide +kernel, rfl, by decide +kernel, by decide +kernel⟩
theorem ok_Chance_mixed {P : Program} {w : World} {K : PySem.W.Frag} {mg : Str → Option Value} {base : Heap} {CB CC CR : Addr} {f : Addr} {fd : FuncData} (F : L2.Fun K "mixed" "Chance.mixed" s_Chance_mixed f fd)
    (C_c_Chance : ClO K CC)
    (C_c_Ratio : ClO K CR)
    (C_gChance : mg "Chance" = some (.ref CC))
    (C_gRatio : mg "Ratio" = some (.ref CR))
    (C_it_Chance : ItO P w K mg base CC 1 (spCIter CC))
    (C_k_Chance_shared : CalK P w K mg base CC "shared" 13 (spShared K CR CC))
    (C_k_Ratio_whole : CalK P w K mg base CR "whole" 10 (spRWhole CR))
    (C_m_Chance_share : CalM P w K mg base CC "share" 10 (spShare K CR CC))
    (C_na_Chance__sum : NoAttr K CC "_sum")
    (C_na_Chance__weights : NoAttr K CC "_weights")
    (C_na_Ratio_bottom : NoAttr K CR "bottom")
    (C_na_Ratio_top : NoAttr K CR "top")
    (C_o_Ratio_mul : CalO P w K mg base CR "__mul__" 10 (spR2 CR (· * ·)))
    (C_o_Ratio_sub : CalO P w K mg base CR "__sub__" 10 (spR2 CR (· - ·)))
    (C_x_BadNumber : CalX P w K mg base "BadNumber" CB 6 ["self", "n"] (spX1 K CB "n" (GNum CR))) :
    FnOk P w K mg base (L2.CX P w) 14 f fd ["self", "other", "share"] (spMixed K CR CC CB) := by
  refine fnOk_mk F sc_Chance_mixed (fun vs H Q E h => h.1) (fun cdv A outer s H vs Q E hr h => ?_)
  obtain ⟨_, a, b, r, B, B', C, N, M, p, q, s, rfl, hA, hB, hr0, hlen, hBC, sn, sd, sC, kE, k⟩ := h
  refine ⟨_, pss_cons (ps_set (i := 3) sc_Chance_mixed.nd rfl (Or.inr rfl) (pe_op (z_op C_o_Ratio_sub hr) (z_cmethC (pe_glob (v := .ref CR) rfl C_gRatio rfl) C_k_Ratio_whole hr passN (pa_cons pe_int pa_nil)) (pv 2)))
    (pss_cons (ps_if (PW.pt (pw_or (pt_cmpR op_lt (pe_fld (pv 2) rfl) pe_int (nomark _)) (pw_or1 (pt_cmpR op_lt (pe_fld (pv 3) rfl) pe_int (nomark _))))) (pss_one (ps_raise rfl (takes_of rfl rfl rfl rfl) (z_mkX C_x_BadNumber hr (pa_cons (pv 2) pa_nil)))) (pss_nil))
    (pss_cons (ps_setLc (i := 4) (own := [("name", 5)]) (by rfl) sc_Chance_mixed.nd rfl rfl (sw_true rfl rfl rfl (by decide +kernel)) (pi_ownD C_it_Chance hr (pv 0)) (blkOk_by (N := ["self", "other", "share", "rest", "kept", "name", "come"]) (sc := defScope s_Chance_mixed) (by decide +kernel)) (fun _ _ _ _ _ => pg_name (i := 5) sc_Chance_mixed.nd rfl (Or.inl rfl)) (fun _ _ _ _ _ => pts_nil) (fun _ _ _ _ _ => pe_tup (pa_cons (pv 5) (pa_cons (pe_op (z_op C_o_Ratio_mul hr) (pv 3) (z_methC (pv 0) C_c_Chance.toCls C_m_Chance_share hr passN (pa_cons (pv 5) pa_nil))) pa_nil))))
    (pss_cons (ps_setLc (i := 6) (own := [("name", 5)]) (by rfl) sc_Chance_mixed.nd rfl rfl (sw_true rfl rfl rfl (by decide +kernel)) (pi_ownD C_it_Chance hr (pv 1)) (blkOk_by (N := ["self", "other", "share", "rest", "kept", "name", "come"]) (sc := defScope s_Chance_mixed) (by decide +kernel)) (fun _ _ _ _ _ => pg_name (i := 5) sc_Chance_mixed.nd rfl (Or.inl rfl)) (fun _ _ _ _ _ => pts_nil) (fun _ _ _ _ _ => pe_tup (pa_cons (pv 5) (pa_cons (pe_op (z_op C_o_Ratio_mul hr) (pv 2) (z_methC (pv 1) C_c_Chance.toCls C_m_Chance_share hr passN (pa_cons (pv 5) pa_nil))) pa_nil))))
    (pss_one (ps_ret (z_cmethC (pe_glob (v := .ref CC) rfl C_gChance rfl) C_k_Chance_shared hr passN (pa_cons (pe_op op_cat (pv 4) (pv 6)) pa_nil))))))), ?_⟩
  try dsimp only [cxOf]
  walk_at "rd"
  refine i_cmS ?_
  walk_at "rd"
  refine ⟨rfl, ?_⟩
  walk_at "rd"
  refine i_whole fun c1 H1 hc1 s1 hr1 => ?_
  walk_at "rd"
  have sB : ZR.Bd 100 s := ⟨Nat.lt_trans sn (by decide +kernel), Nat.lt_trans sd (by decide +kernel)⟩
  refine i_R2 hr1 (hr0.mono s1) (show ZR.Bd 2000 ((1 : Int) : Rat) from ⟨by decide +kernel, by decide +kernel⟩) (sB.mono (by decide)) fun c2 H2 hc2 s2 hr2 => ?_
  rw [show (((1 : Int) : Rat) - s) = 1 - s from rfl] at hr2
  have t02 := s1.trans s2
  have hr02 := hr0.mono t02
  walk_at "rd"
  have bad : (s < 0 ∨ 1 < s) → rMkO CB (spX1 K CB "n" (GNum CR)) [.ref r] H2 fun cls d H' => E cls d H' := fun hs =>
    i_mkX1 (fun H' s' => .inr ⟨r, s, rfl, hr02.mono s', sn, sd⟩) fun d H' _ s' e => kE hs d H' (t02.trans s') e
  refine i_dec (fun e => ?_) (fun e => ?_)
  · walk_at "rd"
    refine bad (.inl ?_)
    apply Classical.byContradiction
    intro h
    have : 0 ≤ s := by grind
    have := Rat.num_nonneg.mpr this
    omega
  have s0 : 0 ≤ s := Rat.num_nonneg.mp (by omega)
  walk_at "rd"
  refine i_dec (fun e => ?_) (fun e => ?_)
  · walk_at "rd"
    refine bad (.inr ?_)
    apply Classical.byContradiction
    intro h
    have : 0 ≤ 1 - s := by grind
    have := Rat.num_nonneg.mpr this
    omega
  have r0 : 0 ≤ 1 - s := Rat.num_nonneg.mp (by omega)
  have s1' : s ≤ 1 := by grind
  have r1 : 1 - s ≤ 1 := by grind
  walk_at "rd"
  obtain ⟨SA, SA0, SAB, uA⟩ := hA.unit
  obtain ⟨SB, SB0, SBB, uB⟩ := hB.unit
  obtain ⟨nA, _, lA, mA, _⟩ := hA.chd
  obtain ⟨nB, _, lB, mB, _⟩ := hB.chd
  have bdP : ∀ z, ZR.Bd 900 (p z) := fun z => (gs_unit (uA z).1 (uA z).2.1 (uA z).2.2).bd SA0 (Nat.lt_of_lt_of_le SAB (Nat.pow_le_pow_right (by decide) (by omega))) (Nat.lt_of_lt_of_le SAB (Nat.pow_le_pow_right (by decide) (by omega)))
  have bdQ : ∀ z, ZR.Bd 900 (q z) := fun z => (gs_unit (uB z).1 (uB z).2.1 (uB z).2.2).bd SB0 (Nat.lt_of_lt_of_le SBB (Nat.pow_le_pow_right (by decide) (by omega))) (Nat.lt_of_lt_of_le SBB (Nat.pow_le_pow_right (by decide) (by omega)))
  have bdR : ZR.Bd 900 (1 - s) := (ZR.Bd.sub (n := 100) (p := 1) (q := s) ⟨by decide +kernel, by decide +kernel⟩ sB).mono (by decide)
  have bdS : ZR.Bd 900 s := sB.mono (by decide)
  obtain ⟨dxA, dA, oA, wA, vA, a1, a2, cdA, _⟩ := id hA
  obtain ⟨dxB, dB, oB, wB, vB, b1, b2, cdB, _⟩ := id hB
  refine i_lcO (ownC (t02 _ _ a1) (t02 _ _ a2)) ?_
  refine lcKeys (H0 := H2) (fun D i ys H' => Same H2 H' ∧ ∃ L : List Row, ys = rowV L ∧ rowR L = mixR (N.take i) (1 - s) p ∧ RowsC CR H' L ∧ H2 D = none) (t02 _ _ a2) (fun D H' hD s e ho => ⟨s, [], rfl, rfl, (fun x hx => by cases hx), hD⟩) (fun D i ys H' q => .of q.1) ?_ ?_
  · rintro i z D ys H3 hD hz eD ⟨s3, L, rfl, em, hL, _⟩
    have t03 := t02.trans s3
    walk_at "rd"
    refine ⟨by with_unfolding_all rfl, ?_⟩
    walk_at "rd"
    refine i_meth1 (t03 _ _ a1) (cf_no (by decide +kernel) (by decide +kernel)) ?_
    walk_at "rd"
    refine ⟨rfl, a, z, B, N, p, rfl, hA.mono t03, by omega, fun c4 H4 hc4 s4 hr4 => ?_⟩
    refine i_R2 ((hr2.mono s3).mono s4) hr4 (bdR.mono (by decide)) ((bdP z).mono (by decide)) fun c5 H5 hc5 s5 hr5 => ?_
    walk_at "rd"
    refine i_tup1 (Nat.le_of_ble_eq_true rfl) fun c6 H6 hc6 s6 e6 o6 => ?_
    have t36 := (s4.trans s5).trans s6
    refine i_lcE (t36 _ _ eD) ?_ fun H7 e7 o7 => ?_
    · have := congrArg List.length em
      unfold rowR mixR at this
      rw [List.length_map, List.length_map, List.length_take] at this
      unfold rowV
      rw [List.length_map]
      omega
    · have nb : ∀ b u, H6 b = some u → (∀ xs, u ≠ .lst xs) → H7 b = some u := fun b u e n => by
        rw [o7 b (fun z => by rw [z, t36 _ _ eD] at e; cases e; exact n _ rfl)]
        exact e
      refine ⟨fun b u e => by rw [o7 b (ne_of_none e hD)]; exact t36 _ _ (s3 _ _ e), L ++ [⟨c6, z, c5, (1 - s) * p z⟩], by unfold rowV; rw [List.map_append]; rfl, ?_, fun x hx => ?_, hD⟩
      · unfold rowR at em ⊢
        unfold mixR at em ⊢
        rw [List.map_append, em, List.take_add_one, hz, List.map_append]
        rfl
      · rcases List.mem_append.mp hx with h | h
        · obtain ⟨k1, dx, k2⟩ := hL x h
          exact ⟨nb _ _ (t36 _ _ k1) (fun xs z => by cases z), dx, nb _ _ (t36 _ _ k2) (fun xs z => by cases z)⟩
        · rw [List.mem_singleton.mp h]
          obtain ⟨dx, k2⟩ := hr5
          exact ⟨nb _ _ e6 (fun xs z => by cases z), dx, nb _ _ (s6 _ _ k2) (fun xs z => by cases z)⟩
  · rintro D1 ys H3 hD1 eD1 ⟨s3, L1, rfl, em1, hL1, _⟩
    rw [List.take_length] at em1
    have t03 := t02.trans s3
    walk_at "rd"
    refine i_lcO (ownC (t03 _ _ b1) (t03 _ _ b2)) ?_
    refine lcKeys (H0 := H3) (fun D i ys H' => Same H3 H' ∧ ∃ L : List Row, ys = rowV L ∧ rowR L = mixR (M.take i) s q ∧ RowsC CR H' L ∧ H3 D = none) (t03 _ _ b2) (fun D H' hD s e ho => ⟨s, [], rfl, rfl, (fun x hx => by cases hx), hD⟩) (fun D i ys H' q => .of q.1) ?_ ?_
    · rintro i z D ys H4 hD hz eD ⟨s34, L, rfl, em, hL, _⟩
      have t04 := t03.trans s34
      walk_at "rd"
      refine ⟨by with_unfolding_all rfl, ?_⟩
      walk_at "rd"
      refine i_meth1 (t04 _ _ b1) (cf_no (by decide +kernel) (by decide +kernel)) ?_
      walk_at "rd"
      refine ⟨rfl, b, z, B', M, q, rfl, hB.mono t04, by omega, fun c4 H5 hc4 s4 hr4 => ?_⟩
      refine i_R2 ((hr0.mono t04).mono s4) hr4 (bdS.mono (by decide)) ((bdQ z).mono (by decide)) fun c5 H6 hc5 s5 hr5 => ?_
      walk_at "rd"
      refine i_tup1 (Nat.le_of_ble_eq_true rfl) fun c6 H7 hc6 s6 e6 o6 => ?_
      have t36 := (s4.trans s5).trans s6
      refine i_lcE (t36 _ _ eD) ?_ fun H8 e7 o7 => ?_
      · have := congrArg List.length em
        unfold rowR mixR at this
        rw [List.length_map, List.length_map, List.length_take] at this
        unfold rowV
        rw [List.length_map]
        omega
      · have nb : ∀ b u, H7 b = some u → (∀ xs, u ≠ .lst xs) → H8 b = some u := fun b u e n => by
          rw [o7 b (fun z => by rw [z, t36 _ _ eD] at e; cases e; exact n _ rfl)]
          exact e
        refine ⟨fun b u e => by rw [o7 b (ne_of_none e hD)]; exact t36 _ _ (s34 _ _ e), L ++ [⟨c6, z, c5, s * q z⟩], by unfold rowV; rw [List.map_append]; rfl, ?_, fun x hx => ?_, hD⟩
        · unfold rowR at em ⊢
          unfold mixR at em ⊢
          rw [List.map_append, em, List.take_add_one, hz, List.map_append]
          rfl
        · rcases List.mem_append.mp hx with h | h
          · obtain ⟨k1, dx, k2⟩ := hL x h
            exact ⟨nb _ _ (t36 _ _ k1) (fun xs z => by cases z), dx, nb _ _ (t36 _ _ k2) (fun xs z => by cases z)⟩
          · rw [List.mem_singleton.mp h]
            obtain ⟨dx, k2⟩ := hr5
            exact ⟨nb _ _ e6 (fun xs z => by cases z), dx, nb _ _ (s6 _ _ k2) (fun xs z => by cases z)⟩
    · rintro D2 ys H4 hD2 eD2 ⟨s34, L2, rfl, em2, hL2, _⟩
      rw [List.take_length] at em2
      have t04 := t03.trans s34
      walk_at "rd"
      refine i_cmS ?_
      walk_at "rd"
      refine ⟨rfl, ?_⟩
      walk_at "rd"
      have l1 : L1.length = N.length := by have := congrArg List.length em1; unfold rowR mixR at this; simpa using this
      have l2 : L2.length = M.length := by have := congrArg List.length em2; unfold rowR mixR at this; simpa using this
      refine i_cat (s34 _ _ eD1) eD2 (by unfold rowV; rw [List.length_map, List.length_map]; omega) fun l5 H5 hl5 s5 e5 o5 => ?_
      walk_at "rd"
      have t05 := t04.trans s5
      have eR : rowR (L1 ++ L2) = mixR N (1 - s) p ++ mixR M s q := by rw [← em1, ← em2]; unfold rowR; rw [List.map_append]
      have D0 : 0 < s.den * (SA * SB) := Nat.mul_pos (by have := s.den_nz; omega) (Nat.mul_pos SA0 SB0)
      have DB : s.den * (SA * SB) < 2 ^ (B + B' + C) := by
        rw [show B + B' + C = C + (B + B') by omega, Nat.pow_add, Nat.pow_add]
        exact Nat.mul_lt_mul'' sC (Nat.mul_lt_mul'' SAB SBB)
      have hx : ∀ x ∈ mixR N (1 - s) p ++ mixR M s q, nameB x.1 = true ∧ (∃ n : Int, x.2 * ((s.den * (SA * SB) : Nat) : Rat) = (n : Rat)) ∧ 0 ≤ x.2 ∧ x.2 ≤ 1 := fun x hx => by
        rcases List.mem_append.mp hx with h | h
        · obtain ⟨z, hz, rfl⟩ := List.mem_map.mp h
          have u := unit_mul r0 r1 (uA z).2.1 (uA z).2.2
          refine ⟨mA z hz, ?_, u⟩
          have := int_scale (E := SB) (int_mul (int_one_sub (int_den s)) (uA z).1)
          rw [Nat.mul_assoc] at this
          exact this
        · obtain ⟨z, hz, rfl⟩ := List.mem_map.mp h
          have u := unit_mul s0 s1' (uB z).2.1 (uB z).2.2
          refine ⟨mB z hz, ?_, u⟩
          have := int_scale (E := SA) (int_mul (int_den s) (uB z).1)
          rw [Nat.mul_assoc, Nat.mul_comm SB SA] at this
          exact this
      have D9 : s.den * (SA * SB) < 2 ^ 900 := Nat.lt_of_lt_of_le DB (Nat.pow_le_pow_right (by decide) hBC)
      have gx : ∀ x ∈ rowR (L1 ++ L2), Gs (s.den * (SA * SB)) (s.den * (SA * SB)) x.2 := fun x h => by
        rw [eR] at h
        obtain ⟨_, u1, u2, u3⟩ := hx x h
        exact gs_unit u1 u2 u3
      have mem : ∀ x ∈ L1 ++ L2, (x.z, x.p) ∈ rowR (L1 ++ L2) := fun x h => List.mem_map.mpr ⟨x, h, rfl⟩
      generalize hDD : s.den * (SA * SB) = DD at *
      refine ⟨rfl, l5, L1 ++ L2, DD, B + B' + C, rfl, .of (by unfold rowV; rw [List.map_append]; exact e5), fun x h => ?_, by rw [List.length_append]; omega, fun x h => ?_, fun i => ?_, ?_, D0, DB, hBC, fun x h => ?_, fun c6 H6 N' hc6 s6 hC => ?_⟩
      · rcases List.mem_append.mp h with h | h
        · exact ((hL1.mono s34).mono s5) x h
        · exact (hL2.mono s5) x h
      · have m := mem x h
        have g := gx _ m
        rw [eR] at m
        obtain ⟨u0, u1, u2, u3⟩ := hx _ m
        exact ⟨u0, u2, g.bd D0 D9 D9⟩
      · have := gs_sF (D := DD) (B := DD) (((rowR (L1 ++ L2)).map (·.2)).take i) fun u hu => by
          obtain ⟨x, hx', rfl⟩ := List.mem_map.mp (List.mem_of_mem_take hu)
          exact gx x hx'
        refine this.bd D0 (Nat.lt_of_lt_of_le D9 (Nat.pow_le_pow_right (by decide) (by decide))) ?_
        have lt : (((rowR (L1 ++ L2)).map (·.2)).take i).length ≤ 60 := by
          rw [List.length_take]
          unfold rowR
          rw [List.length_map, List.length_map, List.length_append]
          omega
        refine Nat.lt_of_le_of_lt (Nat.mul_le_mul_right DD lt) ?_
        have : 60 * DD < 2 ^ 6 * 2 ^ 900 := Nat.mul_lt_mul'' (by decide) D9
        rw [← Nat.pow_add] at this
        exact Nat.lt_of_lt_of_le this (Nat.pow_le_pow_right (by decide) (by decide))
      · rw [eR]
        exact mix_sum hA.one hB.one
      · obtain ⟨n, hn⟩ := gx _ (mem x h)
        exact den_dvd D0 hn.1
      · walk_at "rd"
        refine k s0 s1' c6 H6 N' (same_noneV t05 hc6) (t05.trans s6) (hC.congr fun z => ?_)
        rw [eR, mix_at nA nB (fun z h => hA.out h) (fun z h => hB.out h)]
/-! ### Chance's other questions -/
def spWeights (CC : Addr) : Sp := fun vs H Q _ => vs.length = 1 ∧ ∃ (a : Addr) (dx d : Addr) (S : Int) (o : Obj) (kvs : List (Key × V)), vs = [.ref a] ∧ H a = some (.ins CC dx (cf d S)) ∧ H d = some (.frz o (.dK kvs)) ∧ ∀ q H', H q = none → Same H H' → H' q = some (.dK kvs) → Q (.ref q) H'
abbrev s_Chance_weights : Stmt := inClass (top 29) 6
theorem sc_Chance_weights : FnScope ["self"] ["self"] (defScope s_Chance_weights) := ⟨rfl, rfl, rfl, by decide +kernel, rfl, by decide +kernel, by decide +kernel⟩
theorem ok_Chance_weights {P : Program} {w : World} {K : PySem.W.Frag} {mg : Str → Option Value} {base : Heap} {CC : Addr} {f : Addr} {fd : FuncData} (F : L2.Fun K "weights" "Chance.weights" s_Chance_weights f fd)
    (C_b_dict : mg "dict" = none)
    (C_c_Chance : ClO K CC)
    (C_na_Chance__sum : NoAttr K CC "_sum")
    (C_na_Chance__weights : NoAttr K CC "_weights") :
    FnOk P w K mg base (L2.CX P w) 1 f fd ["self"] (spWeights CC) := by
  refine fnOk_mk F sc_Chance_weights (fun vs H Q E h => h.1) (fun cdv A outer s H vs Q E hr h => ?_)
  obtain ⟨_, a, dx, d, S, o, kvs, rfl, h1, h2, k⟩ := h
  refine ⟨_, pss_one (ps_ret (pe_callTy k_dictD (by rfl) C_b_dict (by decide +kernel) (pa_cons (pe_fld (pv 0) rfl) pa_nil))), ?_⟩
  try dsimp only [cxOf]
  walk_at "rd"
  refine i_fld1 h1 C_c_Chance.toCls C_na_Chance__weights (cf_w d S) ?_
  exact i_dictR (.inr ⟨o, h2⟩) fun q H1 hq s1 o1 e1 => k q H1 hq s1 e1
def spCLen (CC : Addr) : Sp := fun vs H Q _ => vs.length = 1 ∧ ∃ (a : Addr) (B : Nat) (N : List Str) (p : Str → Rat), vs = [.ref a] ∧ IsC CC H a B N p ∧ Q (.int (N.length : Nat)) H
def spCIn (CC : Addr) : Sp := fun vs H Q _ => vs.length = 2 ∧ ∃ (a : Addr) (z : Str) (B : Nat) (N : List Str) (p : Str → Rat), vs = [.ref a, .str z] ∧ IsC CC H a B N p ∧ Q (.bl (decide (z ∈ N))) H
def spMass (K : PySem.W.Frag) (CR CC : Addr) : Sp := fun vs H Q _ => vs.length = 2 ∧ ∃ (a l : Addr) (B : Nat) (N : List Str) (p : Str → Rat) (zs : List Str), vs = [.ref a, .ref l] ∧ IsC CC H a B N p ∧ B ≤ 900 ∧ SqA K H l (zs.map V.str) ∧ zs.length < 60 ∧ ∀ c H', H c = none → Same H H' → IsR CR H' c (sF ((srt (ddp zs)).map p)) → Q (.ref c) H'
abbrev s_Chance_mass : Stmt := inClass (top 29) 5
theorem sc_Chance_mass : FnScope ["self", "names", "name"] ["self", "names"] (defScope s_Chance_mass) := ⟨rfl, rfl, rfl, by decide +kernel, rfl, by decide +kernel, by decide +kernel⟩
theorem ok_Chance_mass {P : Program} {w : World} {K : PySem.W.Frag} {mg : Str → Option Value} {base : Heap} {CB CC CR : Addr} {f : Addr} {fd : FuncData} (F : L2.Fun K "mass" "Chance.mass" s_Chance_mass f fd)
    (C_b_set : mg "set" = none)
    (C_b_sorted : mg "sorted" = none)
    (C_b_sum : mg "sum" = none)
    (C_c_Chance : ClO K CC)
    (C_i_Ratio : CalI P w K mg base "Ratio" CR 8 (spRInit CR CB))
    (C_na_Chance__sum : NoAttr K CC "_sum")
    (C_na_Chance__weights : NoAttr K CC "_weights") :
    FnOk P w K mg base (L2.CX P w) 10 f fd ["self", "names"] (spMass K CR CC) := by
  refine fnOk_mk F sc_Chance_mass (fun vs H Q E h => h.1) (fun cdv A outer s H vs Q E hr h => ?_)
  obtain ⟨_, a, l, B, N, p, zs, rfl, hC, hB, hl, hz, k⟩ := h
  refine ⟨_, pss_one (ps_ret (z_makeC C_i_Ratio hr passN (pa_cons (pe_callB (cr_sum rfl) (by rfl) C_b_sum (by decide +kernel) (pa_cons (pe_lc (own := [("name", 2)]) (by rfl) sc_Chance_mass.nd (pi_any (K := K) rfl (pe_callB (cr_sortX rfl) (by rfl) C_b_sorted (by decide +kernel) (pa_cons (pe_callTy (cr_setX rfl) (by rfl) C_b_set (by decide +kernel) (pa_cons (pv 1) pa_nil)) pa_nil))) (blkOk_by (N := ["self", "names", "name"]) (sc := defScope s_Chance_mass) (by decide +kernel)) (fun _ _ _ _ _ => pg_name (i := 2) sc_Chance_mass.nd rfl (Or.inl rfl)) (fun _ _ _ _ _ => pts_nil) (fun _ _ _ _ _ => pe_dget2 (hu_of hr) (k_fld (K := K) rfl (pv 0) rfl) (pv 2) pe_int ⟨by rfl, by rfl, by rfl, by rfl⟩)) pa_nil)) (pa_cons (pe_fld (pv 0) rfl) pa_nil)))), ?_⟩
  try dsimp only [cxOf]
  walk_at "rd"
  refine ⟨l, zs, rfl, hl, by omega, fun t ht => ?_⟩
  have s1 : Same H (upd H t (TxO P w t (ddp zs))) := same_new ht
  have e1 : upd H t (TxO P w t (ddp zs)) t = some (TxO P w t (ddp zs)) := upd_same
  generalize upd H t (TxO P w t (ddp zs)) = H1 at *
  walk_at "rd"
  have lz := ddp_len zs
  refine ⟨t, ddp zs, rfl, e1, by omega, fun q H2 hq s2 o2 e2 => ?_⟩
  have s02 := s1.trans s2
  obtain ⟨dx, d, o, w', S, h1, h2, cd, hp⟩ := id hC
  walk_at "rd"
  have hv : ∀ z, (valV (dI N w') (.inr z)).getD (.int 0) = .int (if z ∈ N then w' z else 0) := fun z => by
    rw [valV_dF]
    by_cases h : z ∈ N
    · rw [if_pos h, if_pos h]; rfl
    · rw [if_neg h, if_neg h]; rfl
  refine i_lcA (H0 := H2) (fun i ys H' => Same H2 H' ∧ ys = (((srt (ddp zs)).take i).map fun z => if z ∈ N then w' z else 0).map V.int) (SqA.l e2) (Same.refl _) (fun D H' hD s e ho => ⟨s, rfl⟩) (fun i ys H' h => h.1) ?_ ?_
  · rintro i x D ys H3 hD hx eD ⟨s3, rfl⟩
    obtain ⟨z, hz, rfl⟩ := strs_at hx
    have hi := (List.getElem?_eq_some_iff.mp hz).1
    rw [(srt_perm _).length_eq] at hi
    have t03 := s02.trans s3
    walk_at "rd"
    refine ⟨by with_unfolding_all rfl, ?_⟩
    walk_at "rd"
    refine i_fld1 (t03 _ _ h1) C_c_Chance.toCls C_na_Chance__weights (cf_w d S) ?_
    refine i_dget2 (.inr ⟨o, t03 _ _ h2⟩) ?_
    walk_at "rd"
    refine i_dget2b (.inr ⟨o, t03 _ _ h2⟩) ?_
    rw [hv]
    refine i_lcE eD (by rw [List.length_map, List.length_map, List.length_take]; omega) fun H4 e4 o4 => ⟨fun b u e => ?_, ?_⟩
    · rw [o4 _ (ne_of_none e hD)]
      exact s3 _ _ e
    · rw [take_snoc hz, List.map_append, List.map_append]
      rfl
  rintro D ys H3 hD eD ⟨s3, rfl⟩
  rw [List.length_map, List.take_length] at eD
  walk_at "rd"
  refine ⟨D, _, rfl, .of eD, ?_⟩
  walk_at "rd"
  refine i_fld1 (s3 _ _ (s02 _ _ h1)) C_c_Chance.toCls C_na_Chance__sum (cf_s d S) ?_
  walk_at "rd"
  have S0 := cd.ne
  refine i_newR (by omega) ((pow_le9 cd.sz S0 hB).mono (by decide)) fun c H' hc s hr => k c H' (same_noneV (s02.trans s3) hc) ((s02.trans s3).trans s) ?_
  have e : ((((srt (ddp zs)).map fun z => if z ∈ N then w' z else 0).sum : Int) : Rat) / ((S : Int) : Rat) = sF ((srt (ddp zs)).map p) := by
    rw [isum_cast, Rat.div_def, ← sF_mul]
    congr 1
    refine List.map_congr_left fun z _ => ?_
    rw [hp z]
    by_cases h : z ∈ N
    · rw [if_pos h, if_pos h, Rat.div_def]
    · rw [if_neg h, if_neg h, show ((0 : Int) : Rat) = 0 from rfl, Rat.zero_mul]
  rw [e] at hr
  exact hr
/-- two chances are alike when their weights are -/
def fwD (w : Str → Int) : Key → PyData := fun k => match k with | .inr z => .int (w z) | .inl _ => .none
theorem eqvD_dI {N M : List Str} {w v : Str → Int} : eqvD (dI N w) (dI M v) (fwD w) (fwD v) = true ↔ N.length = M.length ∧ ∀ z ∈ N, z ∈ M ∧ w z = v z := by
  unfold eqvD
  rw [Bool.and_eq_true, beq_iff_eq, dF_len, dF_len, List.all_eq_true]
  refine and_congr Iff.rfl ⟨fun h z hz => ?_, fun h p hp => ?_⟩
  · have := h (.inr z, .int (w z)) (List.mem_map.mpr ⟨z, hz, rfl⟩)
    rw [Bool.and_eq_true] at this
    obtain ⟨h1, h2⟩ := this
    refine ⟨?_, ?_⟩
    · apply Classical.byContradiction
      intro n
      rw [show valV (dI M v) (.inr z) = none from valV_out n] at h1
      cases h1
    · have h3 : (w z == v z) = true := h2
      exact beq_iff_eq.mp h3
  · obtain ⟨z, hz, rfl⟩ := List.mem_map.mp hp
    obtain ⟨h1, h2⟩ := h z hz
    rw [Bool.and_eq_true]
    refine ⟨by rw [show valV (dI M v) (.inr z) = _ from valV_in h1]; rfl, ?_⟩
    show (w z == v z) = true
    rw [h2]
    simp
theorem cEq_iff {B B' : Nat} {N M : List Str} {w v : Str → Int} {S T : Int} {p q : Str → Rat} (c1 : ChD B N w S) (c2 : ChD B' M v T) (hp : ∀ z, p z = if z ∈ N then ((w z : Int) : Rat) / ((S : Int) : Rat) else 0) (hq : ∀ z, q z = if z ∈ M then ((v z : Int) : Rat) / ((T : Int) : Rat) else 0) :
    eqvD (dI N w) (dI M v) (fwD w) (fwD v) = true ↔ ∀ z, p z = q z := by
  rw [eqvD_dI]
  have S0 := c1.ne
  have T0 := c2.ne
  have s0 : ((S : Int) : Rat) ≠ 0 := ZR.ci (by omega)
  have t0 : ((T : Int) : Rat) ≠ 0 := ZR.ci (by omega)
  have eqN : (∀ z, z ∈ N ↔ z ∈ M) → N = M := fun h => by
    have pm : N.Perm M := (List.perm_ext_iff_of_nodup c1.nodup c2.nodup).mpr h
    have a1 := srt_pw N
    have a2 := srt_pw M
    rw [c1.sorted] at a1
    rw [c2.sorted] at a2
    exact sort_uniq pm a1 a2
  constructor
  · rintro ⟨hl, h⟩ z
    have hNM : N = M := eqN fun z => ⟨fun hz => (h z hz).1, fun hz => by
      apply Classical.byContradiction
      intro n
      have sub : ∀ y ∈ z :: N, y ∈ M := fun y hy => (List.mem_cons.mp hy).elim (fun e => by rw [e]; exact hz) fun hy => (h y hy).1
      have := List.Nodup.length_le_of_subset (List.nodup_cons.mpr ⟨n, c1.nodup⟩) sub
      rw [List.length_cons] at this
      omega⟩
    subst hNM
    have e : S = T := by
      rw [c1.sum, c2.sum]
      congr 1
      exact List.map_congr_left fun y hy => (h y hy).2
    rw [hp, hq, e]
    by_cases hz : z ∈ N
    · rw [if_pos hz, if_pos hz, (h z hz).2]
    · rw [if_neg hz, if_neg hz]
  · intro h
    have pos : ∀ {B : Nat} {N : List Str} {w : Str → Int} {S : Int} (c : ChD B N w S) (z : Str), z ∈ N → (0 : Rat) < ((w z : Int) : Rat) / ((S : Int) : Rat) := fun c z hz => rat_pos (c.pos z hz) c.ne
    have mem : ∀ z, z ∈ N ↔ z ∈ M := fun z => by
      have e := h z
      rw [hp, hq] at e
      by_cases h1 : z ∈ N
      · by_cases h2 : z ∈ M
        · exact ⟨fun _ => h2, fun _ => h1⟩
        · rw [if_pos h1, if_neg h2] at e
          have := pos c1 z h1
          grind
      · by_cases h2 : z ∈ M
        · rw [if_neg h1, if_pos h2] at e
          have := pos c2 z h2
          grind
        · exact ⟨fun k => absurd k h1, fun k => absurd k h2⟩
    have hNM := eqN mem
    subst hNM
    have cross : ∀ z ∈ N, w z * T = v z * S := fun z hz => by
      have e := h z
      rw [hp, hq, if_pos hz, if_pos hz] at e
      have : ((w z : Int) : Rat) * ((T : Int) : Rat) = ((v z : Int) : Rat) * ((S : Int) : Rat) := by grind
      rw [← Rat.intCast_mul, ← Rat.intCast_mul] at this
      exact Rat.intCast_inj.mp this
    have e : S = T := by
      have g1 := gcF_scale T.toNat (N.map w) 0
      have g2 := gcF_scale S.toNat (N.map v) 0
      rw [show (((T.toNat : Nat) : Int)) = T by omega] at g1
      rw [show (((S.toNat : Nat) : Int)) = S by omega] at g2
      rw [List.map_map, Nat.zero_mul] at g1 g2
      have em : N.map ((fun n => n * T) ∘ w) = N.map ((fun n => n * S) ∘ v) := List.map_congr_left fun z hz => cross z hz
      rw [em, g2] at g1
      have o1 : (N.map w).foldl (fun g n => Nat.gcd g n.natAbs) 0 = 1 := c1.cop
      have o2 : (N.map v).foldl (fun g n => Nat.gcd g n.natAbs) 0 = 1 := c2.cop
      rw [o1, o2] at g1
      omega
    refine ⟨rfl, fun z hz => ⟨hz, ?_⟩⟩
    have := cross z hz
    rw [e] at this
    exact Int.eq_of_mul_eq_mul_right (by omega) this
def spCEq (K : PySem.W.Frag) (CC : Addr) : Sp := fun vs H Q _ => vs.length = 2 ∧ ∃ (a : Addr) (B : Nat) (N : List Str) (p : Str → Rat) (y : V), vs = [.ref a, y] ∧ IsC CC H a B N p ∧
  ((∃ (b : Addr) (B' : Nat) (M : List Str) (q : Str → Rat), y = .ref b ∧ IsC CC H b B' M q ∧ ∀ c : Bool, (c = true ↔ ∀ z, p z = q z) → Q (.bl c) H) ∨ ∃ t, TyX K H y t ∧ PySem.W.kitOne K t (.ref CC) = some false ∧ Q (.bl false) H)
theorem dp_dI {K : PySem.W.Frag} {H : Hp} {N : List Str} {w : Str → Int} : ∀ p ∈ dI N w, Dp K H p.2 (fwD w p.1) ∧ SeqAt.shaped (fwD w p.1) = true := fun p hp => by
  obtain ⟨z, hz, rfl⟩ := List.mem_map.mp hp
  exact ⟨.int _, (lay_int (w z)).shaped (by decide)⟩
abbrev s_Chance___eq__ : Stmt := inClass (top 29) 14
theorem sc_Chance___eq__ : FnScope ["self", "other"] ["self", "other"] (defScope s_Chance___eq__) := ⟨rfl, rfl, rfl, by decide +kernel, rfl, by decide +kernel, by decide +kernel⟩
theorem ok_Chance___eq__ {P : Program} {w : World} {K : PySem.W.Frag} {mg : Str → Option Value} {base : Heap} {CC : Addr} {f : Addr} {fd : FuncData} (F : L2.Fun K "__eq__" "Chance.__eq__" s_Chance___eq__ f fd)
    (C_b_isinstance : mg "isinstance" = none)
    (C_c_Chance : ClO K CC)
    (C_gChance : mg "Chance" = some (.ref CC))
    (C_ki_Chance_Chance : PySem.W.kitOne K (.ref CC) (.ref CC) = some true)
    (C_na_Chance__sum : NoAttr K CC "_sum")
    (C_na_Chance__weights : NoAttr K CC "_weights") :
    FnOk P w K mg base (L2.CX P w) 1 f fd ["self", "other"] (spCEq K CC) := by
  refine fnOk_mk F sc_Chance___eq__ (fun vs H Q E h => h.1) (fun cdv A outer s H vs Q E hr h => ?_)
  obtain ⟨_, a, B, N, p, y, rfl, hA, h⟩ := h
  refine ⟨_, pss_one (ps_ret (pe_and (pe_callB call_isi (by rfl) C_b_isinstance (by decide +kernel) (pa_cons (pv 1) (pa_cons ((pe_glob (v := .ref CC) rfl C_gChance rfl)) pa_nil))) (pe_one (pe_cmpR (k_eqDG (K := K) rfl (u66 hr)) (pe_fld (pv 0) rfl) (pe_fld (pv 1) rfl) (nomark _))))), ?_⟩
  try dsimp only [cxOf]
  walk_at "rd"
  rcases h with ⟨b, B', M, q, rfl, hB, k⟩ | ⟨t, ty, hk, k⟩
  · obtain ⟨dx, d, o, w', S, h1, h2, cd, hp⟩ := hA
    obtain ⟨dy, d', o', v, T, g1, g2, cd', hq⟩ := hB
    refine i_isiO (C_c_Chance.ty g1) (b := true) C_ki_Chance_Chance ?_
    walk_at "rd"
    refine i_fld1 h1 C_c_Chance.toCls C_na_Chance__weights (cf_w d S) ?_
    walk_at "rd"
    refine i_fld1 g1 C_c_Chance.toCls C_na_Chance__weights (cf_w d' T) ?_
    exact ⟨d, d', _, _, fwD w', fwD v, rfl, rfl, .inr ⟨o, h2⟩, .inr ⟨o', g2⟩, dp_dI, dp_dI, k _ (cEq_iff cd cd' hp hq)⟩
  · refine i_isiO ty hk ?_
    walk_at "rd"
    exact k

/-- {name: 1} -/
def spSure (K : PySem.W.Frag) (CR CC CN : Addr) : Sp := fun vs H Q E => vs.length = 2 ∧ ∃ z : Str, vs = [.ref CC, .str z] ∧ z.length ≤ 1000 ∧ RW z ∧
  (nameB z = false → EName CN z H E) ∧ (nameB z = true → ∀ p H', H p = none → Same H H' → IsC CC H' p 1 [z] (fun y => if y = z then 1 else 0) → Q (.ref p) H')
theorem empty_app (x : Str) : Str.empty ++ x = x := by
  refine TL.ext_tl ?_
  rw [TL.tl_append]
  rfl
def spCStr (CC : Addr) : Sp := fun vs H Q _ => vs.length = 1 ∧ ∃ (a dx d : Addr) (B : Nat) (N : List Str) (w : Str → Int) (S : Int) (o : Obj), vs = [.ref a] ∧ H a = some (.ins CC dx (cf d S)) ∧ H d = some (.frz o (.dK (dI N w))) ∧ ChD B N w S ∧ (∀ z ∈ N, (w z).natAbs < 10 ^ 30) ∧
  ∀ H', Same H H' → Q (.str (Txt.join (Str.ofString " ") (N.map fun z => z ++ Str.ofString " " ++ ZS.T (w z)))) H'
abbrev s_Chance___str__ : Stmt := inClass (top 29) 15
theorem sc_Chance___str__ : FnScope ["self", "name", "weight"] ["self"] (defScope s_Chance___str__) := ⟨rfl, rfl, rfl, by decide +kernel, rfl, by decide +kernel, by decide +kernel⟩
theorem ok_Chance___str__ {P : Program} {w : World} {K : PySem.W.Frag} {mg : Str → Option Value} {base : Heap} {CC : Addr} {f : Addr} {fd : FuncData} (F : L2.Fun K "__str__" "Chance.__str__" s_Chance___str__ f fd)
    (C_c_Chance : ClO K CC)
    (C_f_decimal : Cal P w K mg base "decimal" 1 spDec)
    (C_na_Chance__sum : NoAttr K CC "_sum")
    (C_na_Chance__weights : NoAttr K CC "_weights") :
    FnOk P w K mg base (L2.CX P w) 2 f fd ["self"] (spCStr CC) := by
  refine fnOk_mk F sc_Chance___str__ (fun vs H Q E h => h.1) (fun cdv A outer s H vs Q E hr h => ?_)
  obtain ⟨_, a, dx, d, B, N, w', S, o, rfl, h1, h2, cd, hw, k⟩ := h
  refine ⟨_, pss_one (ps_ret (pe_bm PySem.F.plainAttrs_str PySem.F.slot_str_join PySem.F.type_str_join mt_join pe_str (pa_cons (pe_lc (own := [("name", 1), ("weight", 2)]) (by rfl) sc_Chance___str__.nd (pi_items (pe_fld (pv 0) rfl)) (blkOk_by (N := ["self", "name", "weight"]) (sc := defScope s_Chance___str__) (by decide +kernel)) (fun _ _ _ _ _ => k_tup (K := K) (n := 2) rfl rfl (pgs_cons (pg_name (i := 1) sc_Chance___str__.nd rfl (Or.inl rfl)) (pgs_cons (pg_name (i := 2) sc_Chance___str__.nd rfl (Or.inl rfl)) pgs_nil))) (fun _ _ _ _ _ => pts_nil) (fun _ _ _ _ _ => pe_joined (PJ.cons (pe_fmt (pv 1)) (PJ.cons pe_str (PJ.cons (pe_fmt (z_callC C_f_decimal hr passN (pa_cons (pv 2) pa_nil))) PJ.nil))))) pa_nil))), ?_⟩
  try dsimp only [cxOf]
  walk_at "rd"
  refine ⟨rfl, ?_⟩
  walk_at "rd"
  refine i_fld1 h1 C_c_Chance.toCls C_na_Chance__weights (cf_w d S) ?_
  have hd := cd.len
  refine i_lcI h2 (lcItems (H0 := H) (fun D i ys H' => Same H H' ∧ ys = ((N.take i).map fun z => z ++ Str.ofString " " ++ ZS.T (w' z)).map V.str ∧ H D = none) h2 (fun D H' hD s e ho => ⟨s, rfl, hD⟩) (fun D i ys H' q => .of q.1) ?_ ?_)
  · rintro i z D ys T H1 H2 hD hz eD ⟨s1, rfl, _⟩ hT s2 eT oT
    have hm := List.mem_of_getElem? hz
    walk_at "rd"
    refine i_gtup (.of eT) rfl ?_
    walk_at "rd"
    refine ⟨by with_unfolding_all rfl, ?_⟩
    walk_at "rd"
    have lz := nameB_len (cd.nm z hm)
    have hi := (List.getElem?_eq_some_iff.mp hz).1
    refine i_fmtS (by show z.length ≤ _; rw [sizeLine_eq]; omega) ?_
    have l0 : Str.empty.length = 0 := by decide +kernel
    have l1 : (Str.ofString " ").length = 1 := by decide +kernel
    have n1 : (Str.empty ++ z).length = z.length := by rw [Str.length_append, l0, Nat.zero_add]
    have n2 : (Str.empty ++ z ++ Str.ofString " ").length = z.length + 1 := by rw [Str.length_append, n1, l1]
    refine i_js1 (by rw [n1, sizeLine_eq]; omega) ?_
    walk_at "rd"
    refine i_js1 (by rw [n2, sizeLine_eq]; omega) ?_
    walk_at "rd"
    refine i_decT (Nat.lt_trans (hw z hm) (by decide +kernel)) fun H3 s3 => ?_
    have lT := ZS.T_len (hw z hm)
    walk_at "rd"
    refine i_fmtS (by show (ZS.T (w' z)).length ≤ _; rw [sizeLine_eq]; omega) ?_
    have n3 : (Str.empty ++ z ++ Str.ofString " " ++ ZS.T (w' z)).length = z.length + 1 + (ZS.T (w' z)).length := by rw [Str.length_append, n2]
    refine i_js1 (by rw [n3, sizeLine_eq]; omega) ?_
    walk_at "rd"
    have eD3 := s3 _ _ (s2 _ _ eD)
    refine i_lcE eD3 (by rw [List.length_map, List.length_map, List.length_take]; omega) fun H4 e4 o4 => ⟨fun b u e => ?_, ?_, hD⟩
    · rw [o4 _ (ne_of_none e hD)]
      exact s3 _ _ (s2 _ _ (s1 _ _ e))
    · rw [take_snoc hz, List.map_append, List.map_append, empty_app]
      rfl
  · rintro D ys H1 hD eD ⟨s1, rfl, _⟩
    rw [List.take_length] at eD
    walk_at "rd"
    refine ⟨_, D, _, rfl, rfl, .inl (.of eD), ?_, ?_⟩
    · have bd : ∀ l : List Str, (∀ z ∈ l, z ∈ N) → ((l.map fun z => z ++ Str.ofString " " ++ ZS.T (w' z)).map (·.length)).sum ≤ 40 * l.length := by
        intro l
        induction l with
        | nil => intro _; simp
        | cons z l ih =>
          intro h
          have ih := ih fun y hy => h y (List.mem_cons_of_mem _ hy)
          have hm := h z List.mem_cons_self
          have lz := nameB_len (cd.nm z hm)
          have lT := ZS.T_len (hw z hm)
          have l1 : (Str.ofString " ").length = 1 := by decide +kernel
          rw [List.map_cons, List.map_cons, List.sum_cons, Str.length_append, Str.length_append, l1, List.length_cons]
          omega
      have := bd N fun z h => h
      have l1 : (Str.ofString " ").length = 1 := by decide +kernel
      rw [List.length_map, l1]
      omega
    · exact k _ s1
/-! ### the law's own helpers -/
def NAMES : List Str := ["a", "b", "c", "d", "e", "f", "g", "h", "x", "x1", "x10", "xy", "y", "r0", "y9", "z", "low", "mid", "top", "p", "q22", "q", "step", "a1b2c3d4"]
def L0 : List Str := ["a", "b", "c", "d", "e", "f", "g", "h"]
def L1 : List Str := ["x", "x1", "x10", "xy", "y", "r0", "y9", "z"]
def L2' : List Str := ["low", "mid", "top", "p", "q22", "q", "step", "a1b2c3d4"]
def okL (L : List Str) : Bool := decide L.Nodup && L.all (fun z => decide (z ∈ NAMES)) && decide (L.length = 8)
theorem okL0 : okL L0 = true ∧ okL L1 = true ∧ okL L2' = true := by decide +kernel
theorem NAMES_ok : ∀ z ∈ NAMES, nameB z = true := by
  have h : (NAMES.all nameB) = true := by decide +kernel
  exact fun z hz => List.all_eq_true.mp h z hz
theorem erase_perm {α : Type} : ∀ {l : List α} {k : Nat} {v : α}, l[k]? = some v → (v :: l.eraseIdx k).Perm l
  | [], k, v, h => by simp at h
  | x :: l, 0, v, h => by
    have e : x = v := by simpa using h
    subst e
    exact .refl _
  | x :: l, k + 1, v, h => by
    have h2 : l[k]? = some v := by simpa using h
    exact (List.Perm.swap x v (l.eraseIdx k)).trans ((erase_perm h2).cons x)
theorem map_erase {α β : Type} (f : α → β) : ∀ (l : List α) (k : Nat), (l.map f).eraseIdx k = (l.eraseIdx k).map f
  | [], k => by simp
  | x :: l, 0 => rfl
  | x :: l, k + 1 => by
    show f x :: ((l.map f).eraseIdx k) = _
    rw [map_erase f l k]
    rfl
theorem draw_perm {zs rest : List Str} {k : Nat} {v : Str} {M : List Str} (h : (zs ++ rest).Perm M) (e : rest[k]? = some v) : ((zs ++ [v]) ++ rest.eraseIdx k).Perm M := by
  rw [List.append_assoc]
  exact ((erase_perm e).append_left zs).trans h
theorem PoolN.mono {H H' : Hp} {p : Addr} {n m : Nat} (h : PoolN H p n) (s : Same H H') (l : n ≤ m) : PoolN H' p m := let ⟨c, k, f, e, a, b⟩ := h; ⟨c, k, f, s _ _ e, a, by omega⟩
theorem PoolN.ne {H : Hp} {p q : Addr} {n : Nat} (h : PoolN H p n) {u : HO} (e : H q = some u) (d : ∀ x y z, u ≠ .lst [V.int x, V.int y, V.bl z]) : q ≠ p := fun z => by
  obtain ⟨c, k, f, ep, _⟩ := h
  rw [z, ep] at e
  cases e
  exact d _ _ _ rfl
theorem PoolN.nn {H : Hp} {p q : Addr} {n : Nat} (h : PoolN H p n) (e : H q = none) : q ≠ p := fun z => by
  obtain ⟨c, k, f, ep, _⟩ := h
  rw [z, ep] at e
  cases e
theorem PoolN.keep {H H' : Hp} {p : Addr} {n : Nat} (h : PoolN H p n) (e : H' p = H p) : PoolN H' p n := let ⟨c, k, f, e', a, b⟩ := h; ⟨c, k, f, by rw [e]; exact e', a, b⟩
def spShuf (K : PySem.W.Frag) : Sp := fun vs H Q _ => vs.length = 2 ∧ ∃ (p l : Addr) (n : Nat) (xs : List Str), vs = [.ref p, .ref l] ∧ PoolN H p n ∧ l ≠ p ∧ SqA K H l (xs.map V.str) ∧ xs.length ≤ 10 ∧ n + xs.length ≤ 1000 ∧
  ∀ (q : Addr) (H' : Hp) (ys : List Str), H q = none → But p H H' → PoolN H' p (n + xs.length) → H' q = some (.lst (ys.map V.str)) → ys.Perm xs → Q (.ref q) H'
abbrev s__law_shuffled : Stmt := top 34
theorem sc__law_shuffled : FnScope ["_law_pool_here", "_law_items", "_law_left", "_law_told", "_law_k"] ["_law_pool_here", "_law_items"] (defScope s__law_shuffled) := ⟨rfl, rfl, rfl, by decide +kernel, rfl, by decide +kernel, by decide +kernel⟩
theorem ok__law_shuffled {P : Program} {w : World} {K : PySem.W.Frag} {mg : Str → Option Value} {base : Heap} {f : Addr} {fd : FuncData} (F : L2.Fun K "_law_shuffled" "_law_shuffled" s__law_shuffled f fd)
    (C_b_len : mg "len" = none)
    (C_b_list : mg "list" = none)
    (C_b_range : mg "range" = none)
    (C_f_law_take : Cal P w K mg base "_law_take" 1 spTakeN) :
    FnOk P w K mg base (L2.CX P w) 2 f fd ["_law_pool_here", "_law_items"] (spShuf K) := by
  refine fnOk_mk F sc__law_shuffled (fun vs H Q E h => h.1) (fun cdv A outer s H vs Q E hr h => ?_)
  obtain ⟨_, p, l, n, xs, rfl, hp, hlp, hl, hx, hn, k⟩ := h
  refine ⟨_, pss_cons (ps_set (i := 2) sc__law_shuffled.nd rfl (Or.inl rfl) (pe_callTy (k_listA (K := K) rfl) (by rfl) C_b_list (by decide +kernel) (pa_cons (pv 1) pa_nil)))
    (pss_cons (ps_set (i := 3) sc__law_shuffled.nd rfl (Or.inl rfl) (pe_lst pa_nil))
    (pss_cons (ps_for (passes_of rfl) rfl (pi_range1 (by rfl) C_b_range (pa_cons (pe_callB (k_len (K := K) rfl) (by rfl) C_b_len (by decide +kernel) (pa_cons (pv 1) pa_nil)) pa_nil)) (pg_name (i := 4) sc__law_shuffled.nd rfl (Or.inl rfl)) (pss_one (ps_expr (pe_bm PySem.F.plainAttrs_list PySem.F.slot_list_append PySem.F.type_list_append mt_append (pv 3) (pa_cons (pe_bm PySem.F.plainAttrs_list PySem.F.slot_list_pop PySem.F.type_list_pop mt_popAt (pv 2) (pa_cons (z_callC C_f_law_take hr passN (pa_cons (pv 0) (pa_cons (pe_callB (k_len (K := K) rfl) (by rfl) C_b_len (by decide +kernel) (pa_cons (pv 2) pa_nil)) pa_nil))) pa_nil)) pa_nil)))))
    (pss_one (ps_ret (pv 3))))), ?_⟩
  try dsimp only [cxOf]
  walk_at "rd"
  refine i_listA hl fun pm H1 hpm s1 e1 o1 => ?_
  walk_at "rd"
  refine i_lst1 (Nat.le_of_ble_eq_true rfl) fun pf H2 hpf s2 e2 o2 => ?_
  walk_at "rd"
  refine i_lenA (sameA (s1.trans s2) hl) ?_
  rw [List.length_map]
  walk_at "rd"
  have pmn := hp.nn hpm
  have pfn := (hp.mono s1 (Nat.le_refl _)).nn hpf
  have pfm : pf ≠ pm := fun z => by rw [z, e1] at hpf; cases hpf
  have hpfH : H pf = none := same_noneV s1 hpf
  refine i_forR (n := xs.length) rfl (by omega) (fun i σ H' => ∃ (zs rest : List Str) (v : Option V), σ = [some (.ref p), some (.ref l), some (.ref pm), some (.ref pf), v] ∧ H' pm = some (.lst (rest.map V.str)) ∧ H' pf = some (.lst (zs.map V.str)) ∧ zs.length = i ∧ (zs ++ rest).Perm xs ∧ But p H H' ∧ PoolN H' p (n + i))
    ⟨[], xs, _, rfl, s2 _ _ e1, e2, rfl, .refl _, .of (s1.trans s2), hp.mono (s1.trans s2) (by omega)⟩ ?_ ?_
  · rintro i σ H3 hi ⟨zs, rest, v, rfl, em, ef, hz, perm, bt, pl⟩
    have hrl : zs.length + rest.length = xs.length := by have := perm.length_eq; rw [List.length_append] at this; exact this
    walk_at "rd"
    refine ⟨tyL ef, ?_⟩
    walk_at "rd"
    refine ⟨tyL em, ?_⟩
    walk_at "rd"
    refine i_lenL (SqL.of em) ?_
    rw [List.length_map]
    walk_at "rd"
    refine i_takeN pl (by omega) (by omega) (by omega) fun r H4 r0 r1 o4 pl4 => ?_
    obtain ⟨m, rfl⟩ : ∃ m : Nat, r = (m : Int) := ⟨r.toNat, by omega⟩
    walk_at "rd"
    have hm : m < rest.length := by omega
    have hv : rest[m]? = some rest[m] := by simp [hm]
    refine i_popAt (k := m) (v := .str rest[m]) (by rw [o4 _ pmn]; exact em) (by rw [List.length_map]; omega) (by rw [List.getElem?_map, hv]; rfl) fun H5 e5 o5 => ?_
    walk_at "rd"
    refine i_app (xs := zs.map V.str) (by rw [o5 _ pfm, o4 _ pfn]; exact ef) (by rw [List.length_map]; omega) fun H6 e6 o6 => ?_
    walk_at "rd"
    refine ⟨zs ++ [rest[m]], rest.eraseIdx m, _, rfl, ?_, by rw [e6, List.map_append]; rfl, by rw [List.length_append, hz]; rfl, draw_perm perm hv, ?_, ?_⟩
    · rw [o6 _ (Ne.symm pfm), e5, map_erase]
    · intro x o hx e
      rw [o6 x (ne_of_none e hpfH), o5 x (ne_of_none e hpm), o4 x hx]
      exact bt x o hx e
    · exact PoolN.keep (n := n + (i + 1)) (by rw [← Nat.add_assoc]; exact pl4) (by rw [o6 _ (Ne.symm pfn), o5 _ (Ne.symm pmn)])
  · rintro σ H3 ⟨zs, rest, v, rfl, em, ef, hz, perm, bt, pl⟩
    walk_at "rd"
    have r0 : rest = [] := by
      have := perm.length_eq
      rw [List.length_append] at this
      exact List.eq_nil_of_length_eq_zero (by omega)
    rw [r0, List.append_nil] at perm
    exact k pf H3 zs hpfH bt pl ef perm
def spNames (K : PySem.W.Frag) : Sp := fun vs H Q _ => vs.length = 2 ∧ ∃ (p : Addr) (m n : Nat), vs = [.ref p, .int (m : Nat)] ∧ PoolN H p n ∧ m ≤ 8 ∧ n ≤ 900 ∧
  ∀ (q : Addr) (H' : Hp) (zs : List Str), H q = none → But p H H' → PoolN H' p (n + 9) → H' q = some (.lst (zs.map V.str)) → zs.length = m → zs.Nodup → (∀ z ∈ zs, z ∈ NAMES) → Q (.ref q) H'
abbrev s__law_names : Stmt := top 39
theorem sc__law_names : FnScope ["_law_pool_here", "_law_many", "_law_lists"] ["_law_pool_here", "_law_many"] (defScope s__law_names) := ⟨rfl, rfl, rfl, by decide +kernel, rfl, by decide +kernel, by decide +kernel⟩
theorem ok__law_names {P : Program} {w : World} {K : PySem.W.Frag} {mg : Str → Option Value} {base : Heap} {f : Addr} {fd : FuncData} (F : L2.Fun K "_law_names" "_law_names" s__law_names f fd)
    (C_f_law_shuffled : Cal P w K mg base "_law_shuffled" 2 (spShuf K))
    (C_f_law_take : Cal P w K mg base "_law_take" 1 spTakeN) :
    FnOk P w K mg base (L2.CX P w) 3 f fd ["_law_pool_here", "_law_many"] (spNames K) := by
  refine fnOk_mk F sc__law_names (fun vs H Q E h => h.1) (fun cdv A outer s H vs Q E hr h => ?_)
  obtain ⟨_, p, m, n, rfl, hp, hm, hn, k⟩ := h
  refine ⟨_, pss_cons (ps_set (i := 2) sc__law_names.nd rfl (Or.inl rfl) (pe_lst (pa_cons (pe_lst (pa_cons pe_str (pa_cons pe_str (pa_cons pe_str (pa_cons pe_str (pa_cons pe_str (pa_cons pe_str (pa_cons pe_str (pa_cons pe_str pa_nil))))))))) (pa_cons (pe_lst (pa_cons pe_str (pa_cons pe_str (pa_cons pe_str (pa_cons pe_str (pa_cons pe_str (pa_cons pe_str (pa_cons pe_str (pa_cons pe_str pa_nil))))))))) pa_nil))))
    (pss_cons (ps_expr (pe_bm PySem.F.plainAttrs_list PySem.F.slot_list_append PySem.F.type_list_append mt_append (pv 2) (pa_cons (pe_lst (pa_cons pe_str (pa_cons pe_str (pa_cons pe_str (pa_cons pe_str (pa_cons pe_str (pa_cons pe_str (pa_cons pe_str (pa_cons pe_str pa_nil))))))))) pa_nil)))
    (pss_one (ps_ret (pe_slice sl_list (z_callC C_f_law_shuffled hr passN (pa_cons (pv 0) (pa_cons (pe_ix ix_list (pv 2) (z_callC C_f_law_take hr passN (pa_cons (pv 0) (pa_cons pe_int pa_nil))) (fun _ _ => rfl)) pa_nil))) po_none (po_some (pv 1)))))), ?_⟩
  try dsimp only [cxOf]
  walk_at "rd"
  refine i_lst1 (Nat.le_of_ble_eq_true rfl) fun a0 H1 ha0 s1 e0 o1 => ?_
  walk_at "rd"
  refine i_lst1 (Nat.le_of_ble_eq_true rfl) fun a1 H2 ha1 s2 e1 o2 => ?_
  walk_at "rd"
  refine i_lst1 (Nat.le_of_ble_eq_true rfl) fun al H3 hal s3 el o3 => ?_
  walk_at "rd"
  refine ⟨tyL el, ?_⟩
  walk_at "rd"
  refine i_lst1 (Nat.le_of_ble_eq_true rfl) fun a2 H4 ha2 s4 e2 o4 => ?_
  walk_at "rd"
  refine i_app (s4 _ _ el) (by simp only [List.length_cons, List.length_nil]; omega) fun H5 e5 o5 => ?_
  walk_at "rd"
  have t04 := ((s1.trans s2).trans s3).trans s4
  have hp4 := hp.mono t04 (Nat.le_refl _)
  have alp : al ≠ p := (hp.mono (s1.trans s2) (Nat.le_refl _)).nn hal
  have alH : H al = none := same_noneV (s1.trans s2) hal
  have hp5 : PoolN H5 p n := hp4.keep (o5 p (Ne.symm alp))
  refine i_takeN hp5 (by omega) (by decide) (by decide) fun r H6 r0 r1 o6 pl6 => ?_
  obtain ⟨j, rfl⟩ : ∃ m : Nat, r = (m : Int) := ⟨r.toNat, by omega⟩
  have b06 : But p H H6 := fun x u hx e => by
    rw [o6 x hx, o5 x (ne_of_none e alH)]
    exact t04 _ _ e
  have k0 : H6 a0 = some (.lst (L0.map V.str)) := by
    rw [o6 a0 (hp.nn ha0), o5 a0 (fun z => by rw [← z, s2 _ _ e0] at hal; cases hal)]
    exact s4 _ _ (s3 _ _ (s2 _ _ e0))
  have k1 : H6 a1 = some (.lst (L1.map V.str)) := by
    rw [o6 a1 ((hp.mono s1 (Nat.le_refl _)).nn ha1), o5 a1 (fun z => by rw [← z, e1] at hal; cases hal)]
    exact s4 _ _ (s3 _ _ e1)
  have k2 : H6 a2 = some (.lst (L2'.map V.str)) := by
    rw [o6 a2 ((hp.mono ((s1.trans s2).trans s3) (Nat.le_refl _)).nn ha2), o5 a2 (fun z => by rw [z, el] at ha2; cases ha2)]
    exact e2
  obtain ⟨b, L, eb, hb, hL⟩ : ∃ b L, ([V.ref a0, V.ref a1] ++ [V.ref a2])[j]? = some (V.ref b) ∧ H6 b = some (.lst (L.map V.str)) ∧ okL L = true := by
    have : j = 0 ∨ j = 1 ∨ j = 2 := by omega
    rcases this with rfl | rfl | rfl
    · exact ⟨a0, L0, rfl, k0, okL0.1⟩
    · exact ⟨a1, L1, rfl, k1, okL0.2.1⟩
    · exact ⟨a2, L2', rfl, k2, okL0.2.2⟩
  unfold okL at hL
  simp only [Bool.and_eq_true, decide_eq_true_eq, List.all_eq_true] at hL
  obtain ⟨⟨hLn, hLm⟩, hL8⟩ := hL
  refine i_ixL (k := j) (.of (by rw [o6 al alp]; exact e5)) eb ?_
  walk_at "rd"
  have bp : b ≠ p := pl6.ne hb fun x y z e => by
    injection e with e
    have := congrArg List.length e
    rw [List.length_map, hL8] at this
    cases this
  refine ⟨rfl, p, b, n + 1, L, rfl, pl6, bp, .l hb, by omega, by omega, fun q H7 ys hq bt7 pl7 eq7 perm => ?_⟩
  walk_at "rd"
  refine i_slL (.of eq7) (cut_to _ _) fun q8 H8 hq8 s8 e8 o8 => ?_
  rw [← List.map_take] at e8
  have yl : ys.length = 8 := by rw [perm.length_eq]; exact hL8
  refine k q8 H8 (ys.take m) ?_ ((b06.trans bt7).trans (.of s8)) (pl7.mono s8 (by omega)) e8 (by rw [List.length_take]; omega) ((perm.nodup_iff.mpr hLn).sublist (List.take_sublist _ _)) fun z hz => hLm z (perm.mem_iff.mp (List.mem_of_mem_take hz))
  cases z : H q8 with
  | none => rfl
  | some u =>
    by_cases e : q8 = p
    · obtain ⟨c, kk, f, ep, _⟩ := pl7
      rw [e, ep] at hq8
      cases hq8
    · rw [bt7 q8 u e (b06 q8 u e z)] at hq8
      cases hq8
def oneH (q : Addr) (xs : List V) : Hp := fun b => if b = q then some (.lst xs) else none
theorem one_seq {K : PySem.W.Frag} {q : Addr} {xs : List V} : SqA K (oneH q xs) q xs := SqA.l (if_pos rfl)
theorem one_same {q : Addr} {xs : List V} {H : Hp} (e : H q = some (.lst xs)) : Same (oneH q xs) H := fun b o h => by
  unfold oneH at h
  by_cases hb : b = q
  · rw [if_pos hb] at h; rw [hb, ← h]; exact e
  · rw [if_neg hb] at h; cases h
theorem upF_int {w : Str → Int} {z : Str} {c : Int} : upF (fun z => V.int (w z)) z (.int c) = fun y => V.int (upF w z c y) := by funext y; unfold upF; split <;> rfl
def wOk (n : Int) : Prop := 0 ≤ n ∧ n ≤ 10 ^ 7
def spWts (K : PySem.W.Frag) : Sp := fun vs H Q _ => vs.length = 2 ∧ ∃ (p l : Addr) (n : Nat) (xs : List Str), vs = [.ref p, .ref l] ∧ PoolN H p n ∧ H l = some (.lst (xs.map V.str)) ∧ 1 ≤ xs.length ∧ xs.length ≤ 8 ∧ xs.Nodup ∧ n ≤ 900 ∧
  ∀ (d : Addr) (o : Obj) (H' : Hp) (ys : List Str) (w : Str → Int), H d = none → But p H H' → PoolN H' p (n + 26) → H' d = some (.frz o (.dK (dI ys w))) → ys.Perm xs → (∀ z ∈ ys, wOk (w z)) → (∃ z ∈ ys, 0 < w z) → Q (.ref d) H'
def WV : List Int := [0, 1, 1, 2, 3, 5, 1000000, 10000000]
abbrev s__law_weights : Stmt := top 40
theorem sc__law_weights : FnScope ["_law_pool_here", "_law_names_here", "_law_found", "_law_name"] ["_law_pool_here", "_law_names_here"] (defScope s__law_weights) := ⟨rfl, rfl, rfl, by decide +kernel, rfl, by decide +kernel, by decide +kernel⟩
theorem ok__law_weights {P : Program} {w : World} {K : PySem.W.Frag} {mg : Str → Option Value} {base : Heap} {f : Addr} {fd : FuncData} (F : L2.Fun K "_law_weights" "_law_weights" s__law_weights f fd)
    (C_b_len : mg "len" = none)
    (C_f_law_shuffled : Cal P w K mg base "_law_shuffled" 2 (spShuf K))
    (C_f_law_take : Cal P w K mg base "_law_take" 1 spTakeN) :
    FnOk P w K mg base (L2.CX P w) 3 f fd ["_law_pool_here", "_law_names_here"] (spWts K) := by
  refine fnOk_mk F sc__law_weights (fun vs H Q E h => h.1) (fun cdv A outer s H vs Q E hr h => ?_)
  obtain ⟨_, p, l, n, xs, rfl, hp, hl, h1, h8, hnd, hn, k⟩ := h
  refine ⟨_, pss_cons (ps_set (i := 2) sc__law_weights.nd rfl (Or.inl rfl) pe_dnewK)
    (pss_cons (ps_for (passes_of rfl) rfl (pi_any (K := K) rfl (z_callC C_f_law_shuffled hr passN (pa_cons (pv 0) (pa_cons (pv 1) pa_nil)))) (pg_name (i := 3) sc__law_weights.nd rfl (Or.inl rfl)) (pss_one (ps_dput (hu_of hr) (pv 2) (pv 3) (pe_ix ix_list (pe_lst (pa_cons pe_int (pa_cons pe_int (pa_cons pe_int (pa_cons pe_int (pa_cons pe_int (pa_cons pe_int (pa_cons (pe_op op_pow pe_int pe_int) (pa_cons (pe_op op_pow pe_int pe_int) pa_nil))))))))) (z_callC C_f_law_take hr passN (pa_cons (pv 0) (pa_cons (pe_ix ix_list (pe_lst (pa_cons pe_int (pa_cons pe_int (pa_cons pe_int pa_nil)))) (z_callC C_f_law_take hr passN (pa_cons (pv 0) (pa_cons pe_int pa_nil))) (fun _ _ => rfl)) pa_nil))) (fun _ _ => rfl)) (by rfl))))
    (pss_cons (ps_dput (hu_of hr) (pv 2) (pe_ix ix_list (pv 1) (z_callC C_f_law_take hr passN (pa_cons (pv 0) (pa_cons (pe_callB (k_len (K := K) rfl) (by rfl) C_b_len (by decide +kernel) (pa_cons (pv 1) pa_nil)) pa_nil))) (fun _ _ => rfl)) (pe_op op_add pe_int (z_callC C_f_law_take hr passN (pa_cons (pv 0) (pa_cons pe_int pa_nil)))) (by rfl))
    (pss_one (ps_frz (ps_ret (pv 2)))))), ?_⟩
  try dsimp only [cxOf]
  walk_at "rd"
  have hlp : l ≠ p := hp.ne hl fun x y z e => by
    injection e with e
    cases xs with
    | nil => simp at h1
    | cons a as => rw [List.map_cons] at e; cases e
  refine i_dnew fun d H1 hd s1 e1 o1 => ?_
  walk_at "rd"
  have dp := hp.nn hd
  refine ⟨rfl, p, l, n, xs, rfl, hp.mono s1 (Nat.le_refl _), hlp, .l (s1 _ _ hl), by omega, by omega, fun q H2 ys hq2 b2 pl2 e2 perm => ?_⟩
  walk_at "rb"
  have qp : q ≠ p := (hp.mono s1 (Nat.le_refl _)).nn hq2
  have qd : q ≠ d := fun z => by rw [z, e1] at hq2; cases hq2
  have yl := perm.length_eq
  have ynd : ys.Nodup := perm.nodup_iff.mpr hnd
  have d2 : H2 d = some (.dK []) := b2 d _ dp e1
  have pl2' : PoolN H2 p (n + ys.length) := by rw [yl]; exact pl2
  refine i_forA (H0 := oneH q (ys.map V.str)) (fun i σ H' => ∃ v w, σ = [some (.ref p), some (.ref l), some (.ref d), v] ∧ (∀ b o, b ≠ p → b ≠ d → H2 b = some o → H' b = some o) ∧ PoolN H' p (n + ys.length + 2 * i) ∧ H' d = some (.dK (dI (ys.take i) w)) ∧ ∀ z ∈ ys.take i, wOk (w z)) one_seq
    ⟨none, fun _ => 0, rfl, fun b o _ _ e => e, pl2', d2, fun z hz => by simp at hz⟩ (fun i σ H' h => by obtain ⟨_, _, _, s, _⟩ := h; exact one_same (s _ _ qp qd e2)) ?_ ?_
  · rintro i x σ H3 hx ⟨v, w, rfl, s3, pl3, e3, hw⟩
    obtain ⟨z, hz, rfl⟩ := strs_at hx
    have hi := (List.getElem?_eq_some_iff.mp hz).1
    have nz := nodup_take ynd hz
    walk_at "rd"
    refine i_lst1 (Nat.le_of_ble_eq_true rfl) fun la H4 hla s4 e4 o4 => ?_
    walk_at "rd"
    refine i_lst1 (Nat.le_of_ble_eq_true rfl) fun lb H5 hlb s5 e5 o5 => ?_
    walk_at "rd"
    have pl5 := pl3.mono (s4.trans s5) (Nat.le_refl _)
    have lap : la ≠ p := pl3.nn hla
    have lbp : lb ≠ p := (pl3.mono s4 (Nat.le_refl _)).nn hlb
    refine i_takeN pl5 (by omega) (by decide) (by decide) fun r H6 r0 r1 o6 pl6 => ?_
    obtain ⟨j, rfl⟩ : ∃ m : Nat, r = (m : Int) := ⟨r.toNat, by omega⟩
    obtain ⟨m, em, m1, m8⟩ : ∃ m : Int, ([V.int 4, V.int 6, V.int 8] : List V)[j]? = some (.int m) ∧ 0 < m ∧ m ≤ 8 := by
      have : j = 0 ∨ j = 1 ∨ j = 2 := by omega
      rcases this with rfl | rfl | rfl
      · exact ⟨4, rfl, by decide, by decide⟩
      · exact ⟨6, rfl, by decide, by decide⟩
      · exact ⟨8, rfl, by decide, by decide⟩
    refine i_ixL (k := j) (.of (by rw [o6 lb lbp]; exact e5)) em ?_
    walk_at "rd"
    refine i_takeN pl6 (by omega) m1 (by omega) fun r2 H7 r20 r21 o7 pl7 => ?_
    obtain ⟨j2, rfl⟩ : ∃ m : Nat, r2 = (m : Int) := ⟨r2.toNat, by omega⟩
    obtain ⟨c, ec, hc⟩ : ∃ c : Int, ([V.int 0, V.int 1, V.int 1, V.int 2, V.int 3, V.int 5, V.int (10 ^ Int.toNat 6), V.int (10 ^ Int.toNat 7)] : List V)[j2]? = some (.int c) ∧ wOk c := by
      have : j2 = 0 ∨ j2 = 1 ∨ j2 = 2 ∨ j2 = 3 ∨ j2 = 4 ∨ j2 = 5 ∨ j2 = 6 ∨ j2 = 7 := by omega
      rcases this with rfl | rfl | rfl | rfl | rfl | rfl | rfl | rfl
      · exact ⟨_, rfl, by unfold wOk; decide⟩
      · exact ⟨_, rfl, by unfold wOk; decide⟩
      · exact ⟨_, rfl, by unfold wOk; decide⟩
      · exact ⟨_, rfl, by unfold wOk; decide⟩
      · exact ⟨_, rfl, by unfold wOk; decide⟩
      · exact ⟨_, rfl, by unfold wOk; decide⟩
      · exact ⟨_, rfl, by unfold wOk; decide +kernel⟩
      · exact ⟨_, rfl, by unfold wOk; decide +kernel⟩
    have t57 : ∀ b, b ≠ p → H7 b = H5 b := fun b hb => (o7 b hb).trans (o6 b hb)
    refine i_ixL (k := j2) (.of (by rw [t57 la lap]; exact s5 _ _ e4)) ec ?_
    walk_at "rd"
    have e7 : H7 d = some (.dK (dI (ys.take i) w)) := by rw [t57 d dp]; exact s5 _ _ (s4 _ _ e3)
    refine i_dputF e7 (by rw [List.length_take]; omega) fun H8 e8 o8 => ?_
    walk_at "rd"
    refine ⟨_, upF w z c, rfl, fun b u hbp hbd e => ?_, ?_, ?_, fun y hy => ?_⟩
    · rw [o8 b hbd, t57 b hbp]
      exact s5 _ _ (s4 _ _ (s3 b u hbp hbd e))
    · refine PoolN.keep (H := H7) ?_ (o8 p (Ne.symm dp))
      have : n + ys.length + 2 * (i + 1) = n + ys.length + 2 * i + 1 + 1 := by omega
      rw [this]
      exact pl7
    · rw [e8, adK_new nz, ← take_snoc hz, upF_int]
    · unfold upF
      split
      · exact hc
      · rename_i ne
        rw [take_snoc hz] at hy
        rcases List.mem_append.mp hy with h | h
        · exact hw y h
        · exact absurd (List.mem_singleton.mp h) ne
  · rintro σ H3 ⟨v, w, rfl, s3, pl3, e3, hw⟩
    rw [List.length_map] at e3 hw pl3
    rw [List.take_length] at e3 hw
    walk_at "rd"
    refine i_takeN pl3 (by omega) (by decide) (by decide) fun r H4 r0 r1 o4 pl4 => ?_
    walk_at "rd"
    have l0 : H2 l = some (.lst (xs.map V.str)) := b2 l _ hlp (s1 _ _ hl)
    have ld : l ≠ d := fun z => by rw [z, hd] at hl; cases hl
    have l4 : H4 l = some (.lst (xs.map V.str)) := by rw [o4 l hlp]; exact s3 l _ hlp ld l0
    refine i_lenL (.of l4) ?_
    rw [List.length_map]
    walk_at "rd"
    refine i_takeN pl4 (by omega) (by omega) (by omega) fun r2 H5 r20 r21 o5 pl5 => ?_
    obtain ⟨j, rfl⟩ : ∃ m : Nat, r2 = (m : Int) := ⟨r2.toNat, by omega⟩
    have hj : j < xs.length := by omega
    refine i_ixL (k := j) (v := .str xs[j]) (.of (by rw [o5 l hlp]; exact l4)) (by simp [hj]) ?_
    have e5 : H5 d = some (.dK (dI ys w)) := by rw [o5 d dp, o4 d dp]; exact e3
    have my : xs[j] ∈ ys := perm.mem_iff.mpr (List.getElem_mem hj)
    refine i_dputF e5 (by omega) fun H6 e6 o6 => ?_
    rw [adK_old my, upF_int] at e6
    refine i_frz e6 trivial fun od H7 e7 o7 => ?_
    walk_at "rd"
    have k7 : ∀ b, b ≠ d → b ≠ p → H7 b = H3 b := fun b hb hbp => by rw [o7 b hb, o6 b hb, o5 b hbp, o4 b hbp]
    refine k d od H7 ys (upF w xs[j] (1 + r)) hd (fun b u hb e => ?_) ?_ e7 perm (fun y hy => ?_) ⟨xs[j], my, ?_⟩
    · have nd : b ≠ d := ne_of_none e hd
      rw [k7 b nd hb]
      exact s3 b u hb nd (b2 b u hb (s1 _ _ e))
    · obtain ⟨c, kk, f, ep, u1, u2⟩ := pl5
      exact ⟨c, kk, f, by rw [o7 p (Ne.symm dp), o6 p (Ne.symm dp)]; exact ep, u1, by omega⟩
    · unfold upF
      split
      · exact ⟨by omega, Int.le_trans (show 1 + r ≤ 5 by omega) (by decide +kernel)⟩
      · exact hw y hy
    · unfold upF
      rw [if_pos rfl]
      omega

/-! ### shares of a weighting, what a chance shows, a pair, its ratio -/
def PQd (H : Hp) (ks : List Str) (f : Str → V) (v : Str → Rat) : Prop := ∀ z ∈ ks, ∃ c, f z = .ref c ∧ H c = some (.tup (pq (v z)))
theorem PQd.mono {H H' : Hp} {ks : List Str} {f : Str → V} {v : Str → Rat} (h : PQd H ks f v) (s : Same H H') : PQd H' ks f v := fun z hz => let ⟨c, e, g⟩ := h z hz; ⟨c, e, s _ _ g⟩
theorem PQd.nil {H : Hp} {f : Str → V} {v : Str → Rat} : PQd H [] f v := fun z hz => by cases hz
theorem PQd.snoc {H : Hp} {ks : List Str} {f : Str → V} {v : Str → Rat} {z : Str} {c : Addr} (h : PQd H ks f v) (e : H c = some (.tup (pq (v z)))) : PQd H (adK ks z) (upF f z (.ref c)) v := fun y hy => by
  by_cases e2 : y = z
  · subst e2
    exact ⟨c, if_pos rfl, e⟩
  · obtain ⟨c2, e3, g⟩ := h y ((mem_adK.mp hy).resolve_right e2)
    exact ⟨c2, by unfold upF; rw [if_neg e2]; exact e3, g⟩
theorem sz_wk {n : Int} (h0 : 0 ≤ n) (h : n ≤ 10 ^ 27) : ZR.Sz 4000 n := by
  have : (10 : Int) ^ 27 = ((10 ^ 27 : Nat) : Int) := by decide +kernel
  exact ZR.Sz.mono (n := 90) (Nat.lt_of_le_of_lt (show n.natAbs ≤ 10 ^ 27 by omega) (by decide +kernel)) (by decide)
theorem sum_le_wk {w : Str → Int} : ∀ {l : List Str}, (∀ z ∈ l, wOk (w z)) → 0 ≤ (l.map w).sum ∧ (l.map w).sum ≤ l.length * 10 ^ 7
  | [], _ => ⟨Int.le_refl _, by show (0 : Int) ≤ ((0 : Nat) : Int) * 10 ^ 7; rw [show (((0 : Nat) : Int)) = 0 from rfl, Int.zero_mul]; exact Int.le_refl _⟩
  | z :: l, h => by
    have ih := sum_le_wk (l := l) fun y hy => h y (List.mem_cons_of_mem _ hy)
    have hz := h z List.mem_cons_self
    rw [List.map_cons, List.sum_cons, List.length_cons]
    push_cast
    obtain ⟨a, b⟩ := hz
    obtain ⟨c, d⟩ := ih
    refine ⟨by omega, ?_⟩
    rw [Int.add_mul, Int.one_mul]
    omega
def spShs (K : PySem.W.Frag) : Sp := fun vs H Q _ => vs.length = 1 ∧ ∃ (d : Addr) (o : Obj) (zs : List Str) (w : Str → Int), vs = [.ref d] ∧ H d = some (.frz o (.dK (dI zs w))) ∧ zs.Nodup ∧ zs.length ≤ 8 ∧ (∀ z ∈ zs, wOk (w z)) ∧ (∃ z ∈ zs, 0 < w z) ∧
  ∀ (q : Addr) (o' : Obj) (H' : Hp) (f : Str → V), H q = none → Same H H' → H' q = some (.frz o' (.dK (dF (posN zs w) f))) → PQd H' (posN zs w) f (fun z => ((w z : Int) : Rat) / (((zs.map w).sum : Int) : Rat)) → Q (.ref q) H'
abbrev s__law_shares : Stmt := top 41
theorem sc__law_shares : FnScope ["_law_weights_here", "_law_whole", "_law_name", "_law_found"] ["_law_weights_here"] (defScope s__law_shares) := ⟨rfl, rfl, rfl, by decide +kernel, rfl, by decide +kernel, by decide +kernel⟩
theorem ok__law_shares {P : Program} {w : World} {K : PySem.W.Frag} {mg : Str → Option Value} {base : Heap} {f : Addr} {fd : FuncData} (F : L2.Fun K "_law_shares" "_law_shares" s__law_shares f fd)
    (C_b_sorted : mg "sorted" = none)
    (C_b_sum : mg "sum" = none)
    (C_f_law_frac : Cal P w K mg base "_law_frac" 1 spFrac) :
    FnOk P w K mg base (L2.CX P w) 2 f fd ["_law_weights_here"] (spShs K) := by
  refine fnOk_mk F sc__law_shares (fun vs H Q E h => h.1) (fun cdv A outer s H vs Q E hr h => ?_)
  obtain ⟨_, d, o, zs, w, rfl, hd, hnd, hl, hw, hp, k⟩ := h
  refine ⟨_, pss_cons (ps_set (i := 1) sc__law_shares.nd rfl (Or.inl rfl) (pe_callB (cr_sum rfl) (by rfl) C_b_sum (by decide +kernel) (pa_cons (pe_lc (own := [("_law_name", 2)]) (by rfl) sc__law_shares.nd (pi_keys (pv 0)) (blkOk_by (N := ["_law_weights_here", "_law_whole", "_law_name", "_law_found"]) (sc := defScope s__law_shares) (by decide +kernel)) (fun _ _ _ _ _ => pg_name (i := 2) sc__law_shares.nd rfl (Or.inl rfl)) (fun _ _ _ _ _ => pts_nil) (fun _ _ _ _ _ => pe_dget (hu_of hr) (pv 0) (pv 2) (fun _ _ => rfl))) pa_nil)))
    (pss_cons (ps_set (i := 3) sc__law_shares.nd rfl (Or.inl rfl) pe_dnewK)
    (pss_cons (ps_for (passes_of rfl) rfl (pi_any (K := K) rfl (pe_callB (k_sortD rfl) (by rfl) C_b_sorted (by decide +kernel) (pa_cons (pv 0) pa_nil))) (pg_name (i := 2) sc__law_shares.nd rfl (Or.inl rfl)) (pss_one (ps_if (pt_cmpR op_gt (pe_dget (hu_of hr) (pv 0) (pv 2) (fun _ _ => rfl)) pe_int (nomark _)) (pss_one (ps_dput (hu_of hr) (pv 3) (pv 2) (z_callC C_f_law_frac hr passN (pa_cons (pe_dget (hu_of hr) (pv 0) (pv 2) (fun _ _ => rfl)) (pa_cons (pv 1) pa_nil))) (by rfl))) (pss_nil))))
    (pss_one (ps_frz (ps_ret (pv 3)))))), ?_⟩
  try dsimp only [cxOf]
  walk_at "rd"
  refine i_lcK hd (lcKeys (H0 := H) (fun D i ys H' => Same H H' ∧ ys = ((zs.take i).map w).map V.int ∧ H D = none) hd (fun D H' hD s e ho => ⟨s, rfl, hD⟩) (fun D i ys H' q => .of q.1) ?_ ?_)
  · rintro i z D ys H1 hD hz eD ⟨s1, rfl, _⟩
    have hm := List.mem_of_getElem? hz
    walk_at "rd"
    refine ⟨by with_unfolding_all rfl, ?_⟩
    walk_at "rd"
    refine i_dgetR (.inr ⟨o, s1 _ _ hd⟩) (valV_in hm) ?_
    refine i_lcE eD (by rw [List.length_map, List.length_map, List.length_take]; omega) fun H3 e3 o3 => ⟨fun b u e => ?_, ?_, hD⟩
    · rw [o3 _ (ne_of_none e hD)]
      exact s1 _ _ e
    · rw [take_snoc hz, List.map_append, List.map_append]
      rfl
  rintro D ys H1 hD eD ⟨s1, rfl, _⟩
  rw [List.take_length] at eD
  walk_at "rd"
  refine ⟨D, zs.map w, rfl, .of eD, ?_⟩
  walk_at "rd"
  refine i_dnew fun q H2 hq s2 e2 o2 => ?_
  walk_at "rd"
  refine i_sortR (.inr ⟨o, s2 _ _ (s1 _ _ hd)⟩) (dF_keys _ _) (by omega) fun l H3 hl3 s3 o3 e3 => ?_
  walk_at "rd"
  have hqH : H q = none := same_noneV s1 hq
  have Sp : 0 < (zs.map w).sum := by
    obtain ⟨z0, hz0, p0⟩ := hp
    have := sum_ge (v := w) (fun z hz => (hw z hz).1) z0 hz0
    omega
  have Sb : (zs.map w).sum ≤ 10 ^ 27 := by
    have := (sum_le_wk hw).2
    have h2 : ((zs.length : Nat) : Int) ≤ 8 := by omega
    have h3 := Int.mul_le_mul_of_nonneg_right h2 (show (0 : Int) ≤ 10 ^ 7 by decide +kernel)
    have h4 : (8 : Int) * 10 ^ 7 ≤ 10 ^ 27 := by decide +kernel
    omega
  have s13 : Same H H3 := (s1.trans s2).trans s3
  have ql : q ≠ l := fun z => by rw [← z, e2] at hl3; cases hl3
  refine i_forA (H0 := oneH l ((srt zs).map V.str)) (fun i σ H' => ∃ v f, σ = [some (.ref d), some (.int (zs.map w).sum), v, some (.ref q)] ∧ But q H3 H' ∧ H' q = some (.dK (dF (((srt zs).take i).filter fun z => decide (0 < w z)) f)) ∧ PQd H' (((srt zs).take i).filter fun z => decide (0 < w z)) f (fun z => ((w z : Int) : Rat) / (((zs.map w).sum : Int) : Rat))) one_seq
    ⟨_, fun _ => .non, rfl, .of (Same.refl _), s3 _ _ e2, PQd.nil⟩ (fun i σ H' h => by obtain ⟨_, _, _, s, _⟩ := h; exact one_same (s _ _ (Ne.symm ql) e3)) ?_ ?_
  · rintro i x σ H4 hx ⟨v, f, rfl, s4, e4, hf⟩
    obtain ⟨z, hz, rfl⟩ := strs_at hx
    have hm : z ∈ zs := mem_srt.mp (List.mem_of_getElem? hz)
    have nz : z ∉ (srt zs).take i := nodup_take (srt_nodup hnd) hz
    have dq : d ≠ q := fun z => by rw [z, hqH] at hd; cases hd
    have d4 : H4 d = some (.frz o (.dK (dI zs w))) := s4 _ _ dq (s13 _ _ hd)
    have tk : ((srt zs).take (i + 1)).filter (fun z => decide (0 < w z)) = ((srt zs).take i).filter (fun z => decide (0 < w z)) ++ if 0 < w z then [z] else [] := by
      rw [take_snoc hz, List.filter_append]
      by_cases h : 0 < w z
      · rw [if_pos h]; simp [h]
      · rw [if_neg h]; simp [h]
    walk_at "rd"
    refine i_dgetR (.inr ⟨o, d4⟩) (valV_in hm) ?_
    walk_at "rd"
    refine i_dec (fun hp => ?_) (fun hp => ?_)
    · walk_at "rd"
      refine i_dgetR (.inr ⟨o, d4⟩) (valV_in hm) ?_
      walk_at "rd"
      have hwz := hw z hm
      have w27 : w z ≤ 10 ^ 27 := Int.le_trans hwz.2 (by decide +kernel)
      refine i_frac Sp (sz_wk hwz.1 w27) (sz_wk (by omega) Sb) fun c H5 hc s5 e5 o5 => ?_
      walk_at "rd"
      have e45 := s5 _ _ e4
      have nf : z ∉ ((srt zs).take i).filter (fun z => decide (0 < w z)) := fun g => nz (List.mem_filter.mp g).1
      refine i_dputF e45 (by refine Nat.lt_of_le_of_lt (List.length_filter_le _ _) ?_; rw [List.length_take, (srt_perm zs).length_eq]; omega) fun H6 e6 o6 => ?_
      walk_at "rd"
      have b56 : But q H5 H6 := But.of' o6
      have cq : c ≠ q := fun z => by rw [z, e4] at hc; cases hc
      have hf5 := hf.mono s5
      refine ⟨_, upF f z (.ref c), rfl, (s4.trans (.of s5)).trans b56, ?_, ?_⟩
      · rw [e6, tk, if_pos hp, adK_new nf]
      · rw [tk, if_pos hp, ← adK_new nf]
        have := hf5.snoc (z := z) e5
        intro y hy
        obtain ⟨c2, u1, u2⟩ := this y hy
        refine ⟨c2, u1, ?_⟩
        rw [o6 c2 (fun z => by rw [z, e45] at u2; cases u2)]
        exact u2
    · walk_at "rd"
      refine ⟨_, f, rfl, s4, ?_, ?_⟩
      · rw [tk, if_neg hp, List.append_nil]; exact e4
      · rw [tk, if_neg hp, List.append_nil]; exact hf
  · rintro σ H4 ⟨v, f, rfl, s4, e4, hf⟩
    rw [List.length_map, List.take_length] at e4 hf
    walk_at "rd"
    refine i_frz e4 trivial fun od H5 e5 o5 => ?_
    walk_at "rd"
    exact k q od H5 f hqH (fun b u e => by rw [o5 b (ne_of_none e hqH)]; exact s4 b u (ne_of_none e hqH) (s13 _ _ e)) e5 fun z hz => let ⟨c, u1, u2⟩ := hf z hz; ⟨c, u1, by rw [o5 c (fun x => by rw [x, e4] at u2; cases u2)]; exact u2⟩
def spRat (CR : Addr) : Sp := fun vs H Q _ => vs.length = 1 ∧ ∃ (a : Addr) (p : Rat), vs = [.ref a] ∧ H a = some (.tup (pq p)) ∧ ZR.Bd 2000 p ∧ ∀ c H', H c = none → Same H H' → IsR CR H' c p → Q (.ref c) H'
abbrev s__law_ratio : Stmt := top 43
theorem sc__law_ratio : FnScope ["_law_pair"] ["_law_pair"] (defScope s__law_ratio) := ⟨rfl, rfl, rfl, by decide +kernel, rfl, by decide +kernel, by decide +kernel⟩
theorem ok__law_ratio {P : Program} {w : World} {K : PySem.W.Frag} {mg : Str → Option Value} {base : Heap} {CB CR : Addr} {f : Addr} {fd : FuncData} (F : L2.Fun K "_law_ratio" "_law_ratio" s__law_ratio f fd)
    (C_i_Ratio : CalI P w K mg base "Ratio" CR 8 (spRInit CR CB)) :
    FnOk P w K mg base (L2.CX P w) 10 f fd ["_law_pair"] (spRat CR) := by
  refine fnOk_mk F sc__law_ratio (fun vs H Q E h => h.1) (fun cdv A outer s H vs Q E hr h => ?_)
  obtain ⟨_, a, p, rfl, ha, bp, k⟩ := h
  refine ⟨_, pss_one (ps_ret (z_makeC C_i_Ratio hr passN (pa_cons (pe_ix ix_tup (pv 0) pe_int (fun _ _ => rfl)) (pa_cons (pe_ix ix_tup (pv 0) pe_int (fun _ _ => rfl)) pa_nil)))), ?_⟩
  try dsimp only [cxOf]
  walk_at "rd"
  refine i_p0 (.of ha) ?_
  walk_at "rd"
  refine i_p1 (.of ha) ?_
  walk_at "rd"
  refine i_newR (by have := den_pos p; omega) (bp.d.mono (by decide)) fun c H' hc s hr => ?_
  walk_at "rd"
  rw [ZR.r_self] at hr
  exact k c H' hc s hr
def spPair : Sp := fun vs H Q _ => vs.length = 1 ∧ ∃ (p : Addr) (n : Nat), vs = [.ref p] ∧ PoolN H p n ∧ n ≤ 900 ∧
  ∀ c H' v, H c = none → But p H H' → PoolN H' p (n + 3) → H' c = some (.tup (pq v)) → Gs 27720 (2772000 * 10 ^ 22) v → Q (.ref c) H'
/-- pairs handed to dict(..) -/
def PsT (H : Hp) (ps : List Addr) (kvs : List (Key × V)) : Prop := Paired (fun p kv => H p = some (.tup [kV kv.1, kv.2])) ps kvs
theorem PsT.mono {H H' : Hp} {ps : List Addr} {kvs : List (Key × V)} (h : PsT H ps kvs) (s : ∀ b xs, H b = some (.tup xs) → H' b = some (.tup xs)) : PsT H' ps kvs := L2.Paired.mapP h fun _ _ e => s _ _ e
theorem PsT.snoc {H : Hp} {ps : List Addr} {zs : List Str} {f : Str → V} {z : Str} {t : Addr} {v : V} (h : PsT H ps (dF zs f)) (nz : z ∉ zs) (e : H t = some (.tup [.str z, v])) : PsT H (ps ++ [t]) (dF (zs ++ [z]) (upF f z v)) := by
  unfold dF
  rw [List.map_append]
  refine Paired.snoc ?_ (by show H t = some (.tup [.str z, upF f z v z]); unfold upF; rw [if_pos rfl]; exact e)
  have : (zs.map fun y => ((Sum.inr y : Key), upF f z v y)) = dF zs f := dF_congr (f := upF f z v) fun y hy => by
    unfold upF
    rw [if_neg (fun e => nz (by rw [← e]; exact hy))]
  rw [this]
  exact h
theorem i_dictP {K : PySem.W.Frag} {a : Addr} {ps : List Addr} {zs : List Str} {f : Str → V} {H : Hp} {Q : VK} (e : H a = some (.lst (ps.map V.ref))) (h : PsT H ps (dF zs f)) (hn : zs.Nodup)
    (k : ∀ q H', H q = none → Same H H' → (∀ b, b ≠ q → H' b = H b) → H' q = some (.dK (dF zs f)) → Q (.ref q) H') : rDictP K [.ref a] H Q :=
  ⟨a, ps, dF zs f, rfl, .of e, L2.Paired.mapP h fun _ _ e => .of e, fun q hq => by rw [mergeK_dF hn]; exact k q _ hq (same_new hq) (fun b hb => upd_ne hb) upd_same⟩
def spSeen (K : PySem.W.Frag) (CR CC : Addr) : Sp := fun vs H Q _ => vs.length = 1 ∧ ∃ (a : Addr) (B : Nat) (N : List Str) (p : Str → Rat), vs = [.ref a] ∧ IsC CC H a B N p ∧ B ≤ 900 ∧
  ∀ c H' f, H c = none → Same H H' → H' c = some (.dK (dF N f)) → PQd H' N f p → Q (.ref c) H'
abbrev s__law_seen : Stmt := top 42
theorem sc__law_seen : FnScope ["_law_chance", "_law_name"] ["_law_chance"] (defScope s__law_seen) := ⟨rfl, rfl, rfl, by decide +kernel, rfl, by decide +kernel, by decide +kernel⟩
theorem ok__law_seen {P : Program} {w : World} {K : PySem.W.Frag} {mg : Str → Option Value} {base : Heap} {CC CR : Addr} {f : Addr} {fd : FuncData} (F : L2.Fun K "_law_seen" "_law_seen" s__law_seen f fd)
    (C_b_dict : mg "dict" = none)
    (C_c_Chance : ClO K CC)
    (C_f_law_of : Cal P w K mg base "_law_of" 1 (spOf CR))
    (C_it_Chance : ItO P w K mg base CC 1 (spCIter CC))
    (C_m_Chance_share : CalM P w K mg base CC "share" 10 (spShare K CR CC))
    (C_na_Chance__sum : NoAttr K CC "_sum")
    (C_na_Chance__weights : NoAttr K CC "_weights") :
    FnOk P w K mg base (L2.CX P w) 11 f fd ["_law_chance"] (spSeen K CR CC) := by
  refine fnOk_mk F sc__law_seen (fun vs H Q E h => h.1) (fun cdv A outer s H vs Q E hr h => ?_)
  obtain ⟨_, a, B, N, p, rfl, hC, hB, k⟩ := h
  refine ⟨_, pss_one (ps_ret (pe_callTy (k_dictP (K := K) rfl rfl) (by rfl) C_b_dict (by decide +kernel) (pa_cons (pe_lc (own := [("_law_name", 1)]) (by rfl) sc__law_seen.nd (pi_ownD C_it_Chance hr (pv 0)) (blkOk_by (N := ["_law_chance", "_law_name"]) (sc := defScope s__law_seen) (by decide +kernel)) (fun _ _ _ _ _ => pg_name (i := 1) sc__law_seen.nd rfl (Or.inl rfl)) (fun _ _ _ _ _ => pts_nil) (fun _ _ _ _ _ => pe_tup (pa_cons (pv 1) (pa_cons (z_callC C_f_law_of hr passN (pa_cons (z_methC (pv 0) C_c_Chance.toCls C_m_Chance_share hr passN (pa_cons (pv 1) pa_nil)) pa_nil)) pa_nil)))) pa_nil))), ?_⟩
  try dsimp only [cxOf]
  walk_at "rd"
  obtain ⟨dx, d, o, w, S, h1, h2, cd, hp⟩ := id hC
  refine i_lcO (ownC h1 h2) ?_
  refine lcKeys (H0 := H) (fun D i ys H' => Same H H' ∧ H D = none ∧ ∃ (ps : List Addr) (f : Str → V), ys = ps.map V.ref ∧ ps.length = i ∧ PsT H' ps (dF (N.take i) f) ∧ PQd H' (N.take i) f p) h2 (fun D H' hD s e ho => ⟨s, hD, [], fun _ => .non, rfl, rfl, .nil, .nil⟩) (fun D i ys H' q => .of q.1) ?_ ?_
  · rintro i z D ys H1 hD hz eD ⟨s1, _, ps, f, rfl, hps, hT, hf⟩
    have nz : z ∉ N.take i := nodup_take cd.nodup hz
    have hi := (List.getElem?_eq_some_iff.mp hz).1
    walk_at "rd"
    refine ⟨by with_unfolding_all rfl, ?_⟩
    walk_at "rd"
    refine i_meth1 (s1 _ _ h1) (cf_no (by decide +kernel) (by decide +kernel)) ?_
    walk_at "rd"
    refine ⟨rfl, a, z, B, N, p, rfl, hC.mono s1, hB, fun c2 H2 hc2 s2 hr2 => ?_⟩
    walk_at "rd"
    refine ⟨rfl, c2, p z, rfl, hr2, fun c3 H3 hc3 s3 e3 o3 => ?_⟩
    walk_at "rd"
    refine i_tup1 (Nat.le_of_ble_eq_true rfl) fun c4 H4 hc4 s4 e4 o4 => ?_
    have t14 := (s2.trans s3).trans s4
    have hlN := cd.len
    refine i_lcE (t14 _ _ eD) (by rw [List.length_map]; omega) fun H5 e5 o5 => ?_
    have nb : ∀ b xs, H4 b = some (.tup xs) → H5 b = some (.tup xs) := fun b xs e => by rw [o5 b (fun z => by rw [z, t14 _ _ eD] at e; cases e)]; exact e
    refine ⟨fun b u e => by rw [o5 b (ne_of_none e hD)]; exact t14 _ _ (s1 _ _ e), hD, ps ++ [c4], upF f z (.ref c3), by rw [List.map_append]; rfl, by rw [List.length_append, hps]; rfl, ?_, ?_⟩
    · rw [take_snoc hz]
      exact ((hT.mono fun b xs e => t14 _ _ e).snoc nz e4).mono nb
    · rw [take_snoc hz, ← adK_new nz]
      have := ((hf.mono t14).snoc (z := z) (s4 _ _ e3))
      exact fun y hy => let ⟨c, u1, u2⟩ := this y hy; ⟨c, u1, nb _ _ u2⟩
  · rintro D ys H1 hD eD ⟨s1, _, ps, f, rfl, hps, hT, hf⟩
    rw [List.take_length] at hT hf
    walk_at "rd"
    refine i_dictP eD hT cd.nodup fun q H2 hq s2 o2 e2 => ?_
    exact k q H2 f (same_noneV s1 hq) (s1.trans s2) e2 (hf.mono s2)
/-! ### a chance read from a text -/
theorem ev_get {α : Type} : ∀ (l : List α) (i : Nat), (evL l)[i]? = l[2 * i]?
  | [], i => by simp [evL]
  | [x], 0 => by simp [evL]
  | [x], i + 1 => by simp [evL]
  | x :: y :: r, 0 => by simp [evL]
  | x :: y :: r, i + 1 => by
    show (evL r)[i]? = (x :: y :: r)[2 * i + 1 + 1]?
    rw [ev_get r i]
    simp
noncomputable def wvOf (ns ws : List Str) (x : Str) : Int := (((ns.zip ws).lookup x).map ZS.iv).getD 0
theorem nmF_in : ∀ (zs seen : List Str) (b : Bool) (z : Str), nmF seen zs = some (b, z) → z ∈ zs := by
  intro zs
  induction zs with
  | nil => intro seen b z h; cases h
  | cons y zs ih =>
    intro seen b z h
    rw [nmF_cons] at h
    split at h
    · cases h; exact List.mem_cons_self
    · split at h
      · cases h; exact List.mem_cons_self
      · exact List.mem_cons_of_mem _ (ih _ _ _ h)
theorem lookup_zip : ∀ {ns ws : List Str} {i : Nat} {n w : Str}, ns.Nodup → ns[i]? = some n → ws[i]? = some w → (ns.zip ws).lookup n = some w
  | m :: ns, v :: ws, 0, n, w, h, h1, h2 => by
    have e1 : m = n := by simpa using h1
    have e2 : v = w := by simpa using h2
    subst e1 e2
    simp [List.lookup]
  | m :: ns, v :: ws, i + 1, n, w, h, h1, h2 => by
    have h1' : ns[i]? = some n := by simpa using h1
    have h2' : ws[i]? = some w := by simpa using h2
    obtain ⟨h3, h4⟩ := List.nodup_cons.mp h
    have ne : (n == m) = false := by
      rw [beq_eq_false_iff_ne]
      intro e
      subst e
      exact h3 (List.mem_of_getElem? h1')
    show ((m, v) :: ns.zip ws).lookup n = _
    rw [List.lookup_cons, ne]
    exact lookup_zip h4 h1' h2'
  | [], _, i, n, w, h, h1, h2 => by simp at h1
  | m :: ns, [], i, n, w, h, h1, h2 => by simp at h2
theorem wvOf_at {ns ws : List Str} {i : Nat} {n w : Str} (hn : ns.Nodup) (h1 : ns[i]? = some n) (h2 : ws[i]? = some w) : wvOf ns ws n = ZS.iv w := by
  unfold wvOf
  rw [lookup_zip hn h1 h2]
  rfl
theorem wrong_none {ws : List Str} (h : wrongW ws = none) : ws.length % 2 = 0 ∧ ∀ i w, ws[i]? = some w → i % 2 = 1 → ZS.posL (TL.tl w) = true := by
  unfold wrongW at h
  cases e : (List.range ws.length).find? (badAt ws) with
  | some i => rw [e] at h; cases h
  | none =>
    rw [e] at h
    have h : (if ws.length % 2 = 1 then some ws.length else none) = none := h
    refine ⟨?_, fun i w hw hi => ?_⟩
    · split at h
      · cases h
      · omega
    · have lt := (List.getElem?_eq_some_iff.mp hw).1
      have := List.find?_eq_none.mp e i (List.mem_range.mpr lt)
      unfold badAt at this
      rw [hw] at this
      simp [hi] at this
      exact this.2
theorem sum_le_c {v : Str → Int} {c : Int} (h0 : 0 ≤ c) : ∀ l : List Str, (∀ z ∈ l, v z ≤ c) → (l.map v).sum ≤ l.length * c
  | [], _ => by show (0 : Int) ≤ ((0 : Nat) : Int) * c; rw [show (((0 : Nat) : Int)) = 0 from rfl, Int.zero_mul]; exact Int.le_refl _
  | z :: l, h => by
    have ih := sum_le_c h0 l fun y hy => h y (List.mem_cons_of_mem _ hy)
    have hz := h z List.mem_cons_self
    rw [List.map_cons, List.sum_cons, List.length_cons, Int.natCast_add, Int.add_mul, show (((1 : Nat) : Int)) = 1 from rfl, Int.one_mul]
    omega
/-- the words of a text of a chance, its names, its numbers -/
abbrev wrdC (z : Str) : List Str := Txt.split z (Str.ofString " ")
noncomputable abbrev nmC (z : Str) : List Str := evL (wrdC z)
noncomputable abbrev wvC (z : Str) : Str → Int := wvOf (nmC z) (evL ((wrdC z).drop 1))
def spCRead (K : PySem.W.Frag) (CC CN CD CY : Addr) : Sp := fun vs H Q E => vs.length = 2 ∧ ∃ z : Str, vs = [.ref CC, .str z] ∧ okT 4000 z ∧ (wrdC z).length ≤ 100 ∧
  (∀ i : Nat, wrongW (wrdC z) = some i → EText CY (i : Nat) H E) ∧ (wrongW (wrdC z) = none → (∀ b x, nmF [] (nmC z) = some (b, x) → EName (if b then CD else CN) x H E) ∧
  (nmF [] (nmC z) = none → ∀ c H', H c = none → Same H H' → IsC CC H' c 110 (posN (nmC z) (wvC z)) (fun x => if x ∈ nmC z then ((wvC z x : Int) : Rat) / ((((nmC z).map (wvC z)).sum : Int) : Rat) else 0) → Q (.ref c) H'))
abbrev s_Chance_read : Stmt := inClass (top 29) 3
theorem sc_Chance_read : FnScope ["cls", "text", "words", "at", "name", "word"] ["cls", "text"] (defScope s_Chance_read) := ⟨rfl, rfl, rfl, by decide +kernel, rfl, by decide +kernel, by decide +kernel⟩
theorem ok_Chance_read {P : Program} {w : World} {K : PySem.W.Frag} {mg : Str → Option Value} {base : Heap} {CB CC CD CN CR CX CY : Addr} {f : Addr} {fd : FuncData} (F : L2.Fun K "read" "Chance.read" s_Chance_read f fd)
    (C_b_int : mg "int" = none)
    (C_b_zip : mg "zip" = none)
    (C_f_check_names : Cal P w K mg base "check_names" 3 (spCheckG K CN CD))
    (C_f_wrong_word : Cal P w K mg base "wrong_word" 2 (spWrong K))
    (C_i_Chance : CalI P w K mg base "Chance" CC 11 (spCInitG K CR CC CB CN CX))
    (C_x_BadText : CalX P w K mg base "BadText" CY 6 ["self", "at"] (spX1 K CY "at" (GNum CR))) :
    FnOk P w K mg base (L2.CX P w) 13 f fd ["cls", "text"] (spCRead K CC CN CD CY) := by
  refine fnOk_mk F sc_Chance_read (fun vs H Q E h => h.1) (fun cdv A outer s H vs Q E hr h => ?_)
  obtain ⟨_, z, rfl, oz, hlen, kx, k⟩ := h
  dsimp only [nmC, wvC, wrdC] at hlen kx k
  have sp := oz.split (y := Str.ofString " ") (by decide +kernel) (by decide +kernel)
  obtain ⟨W, hW⟩ : ∃ W, Txt.split z (Str.ofString " ") = W := ⟨_, rfl⟩
  simp only [hW] at hlen kx k sp
  refine ⟨_, pss_cons (ps_set (i := 2) sc_Chance_read.nd rfl (Or.inl rfl) (pe_bm PySem.F.plainAttrs_str PySem.F.slot_str_split PySem.F.type_str_split mt_split (pv 1) (pa_cons pe_str pa_nil)))
    (pss_cons (ps_set (i := 3) sc_Chance_read.nd rfl (Or.inl rfl) (z_callC C_f_wrong_word hr passN (pa_cons (pv 2) pa_nil)))
    (pss_cons (ps_if (pt_cmpR op_notN (pv 3) pe_non (nomark _)) (pss_one (ps_raise rfl (takes_of rfl rfl rfl rfl) (z_mkX C_x_BadText hr (pa_cons (pv 3) pa_nil)))) (pss_nil))
    (pss_cons (ps_expr (z_callC C_f_check_names hr (fun σ => passAt (takes_of rfl rfl rfl rfl) σ) (pa_cons (pe_ev (K := K) rfl (pv 2)) pa_nil)))
    (pss_one (ps_ret (z_makeL (i := 0) C_i_Chance hr passN (pa_cons (pe_frzE (pe_dc (own := [("name", 4), ("word", 5)]) (by rfl) sc_Chance_read.nd (pi_zip (by rfl) C_b_zip (pa_cons (pe_ev (K := K) rfl (pv 2)) (pa_cons (pe_od (K := K) rfl (pv 2)) pa_nil))) (blkOk_by (N := ["cls", "text", "words", "at", "name", "word"]) (sc := defScope s_Chance_read) (by decide +kernel)) (fun _ _ _ _ _ => k_tup (K := K) (n := 2) rfl rfl (pgs_cons (pg_name (i := 4) sc_Chance_read.nd rfl (Or.inl rfl)) (pgs_cons (pg_name (i := 5) sc_Chance_read.nd rfl (Or.inl rfl)) pgs_nil))) (fun _ _ _ _ _ => pts_nil) (fun _ _ _ _ _ => pv 4) (fun _ _ _ _ _ => pe_callTy call_int_str (by rfl) C_b_int (by decide +kernel) (pa_cons (pv 5) pa_nil)))) pa_nil))))))), ?_⟩
  try dsimp only [cxOf]
  walk_at "rd"
  refine ⟨rfl, ?_⟩
  walk_at "rd"
  refine i_split (by decide +kernel) (by have := oz.1; omega) fun p1 H1 hp1 s1 e1 o1 => ?_
  walk_at "rd"
  rw [hW] at e1
  refine ⟨rfl, p1, W, rfl, .l e1, by omega, fun w hw => Nat.le_trans (sp.1 w hw).1 (by decide), fun H2 s2 => ?_⟩
  walk_at "rd"
  have s02 := s1.trans s2
  cases hwr : wrongW W with
  | some i =>
    refine ⟨rfl, ?_⟩
    walk_at "rb"
    refine i_ndec (fun _ => ?_) (fun e => by cases e)
    walk_at "rd"
    have hi : i ≤ W.length := by
      unfold wrongW at hwr
      cases e : (List.range W.length).find? (badAt W) with
      | some j =>
        rw [e] at hwr
        have : j = i := by simpa using hwr
        have := List.mem_range.mp (List.mem_of_find?_eq_some e)
        omega
      | none =>
        rw [e] at hwr
        have hwr : (if W.length % 2 = 1 then some W.length else none) = some i := hwr
        split at hwr
        · cases hwr; exact Nat.le_refl _
        · cases hwr
    exact i_mkX1 (fun H' s => .inl ⟨(i : Nat), rfl, show ((i : Nat) : Int).natAbs < 2 ^ 1000 from Nat.lt_of_le_of_lt (show ((i : Nat) : Int).natAbs ≤ 100 by omega) (by decide +kernel)⟩) fun d' H' _ s e2 => kx i hwr d' H' (s02.trans s) e2
  | none =>
    obtain ⟨kN, k⟩ := k hwr
    obtain ⟨w2, wp⟩ := wrong_none hwr
    refine ⟨rfl, ?_⟩
    walk_at "rb"
    refine i_ndec (fun n => absurd rfl n) (fun _ => ?_)
    walk_at "rd"
    refine i_ev (.of (s2 _ _ e1)) fun p3 H3 hp3 s3 o3 e3 => ?_
    rw [List.drop_zero] at e3
    walk_at "rd"
    have lev := ev_len W
    have hmem : ∀ w ∈ evL W, w ∈ W := fun w hw => by
      obtain ⟨i, hi⟩ := List.getElem?_of_mem hw
      rw [ev_get] at hi
      exact List.mem_of_getElem? hi
    have s03 := s02.trans s3
    refine ⟨rfl, p3, evL W, rfl, .l e3, by omega, fun w hw => Nat.le_trans (sp.1 w (hmem w hw)).1 (by decide), fun b x hx => ⟨(sp.1 x (hmem x (nmF_in _ _ _ _ hx))).rw (by decide), fun d' H' s e => kN b x hx d' H' (s03.trans s) e⟩, fun hnm H4 s4 => ?_⟩
    walk_at "rd"
    have e14 := s4 _ _ (s3 _ _ (s2 _ _ e1))
    obtain ⟨hgood, hnd⟩ := nmF_none (evL W) [] hnm List.nodup_nil
    rw [List.nil_append] at hnd
    refine ⟨rfl, ?_⟩
    walk_at "rd"
    refine i_ev (.of e14) fun p5 H5 hp5 s5 o5 e5 => ?_
    rw [List.drop_zero] at e5
    walk_at "rd"
    refine i_ev (.of (s5 _ _ e14)) fun p6 H6 hp6 s6 o6 e6 => ?_
    walk_at "rd"
    have lod := ev_len (W.drop 1)
    rw [List.length_drop] at lod
    have ll : (evL W).length = (evL (W.drop 1)).length := by omega
    refine i_dcZ (H0 := H6) (fun D i kvs H' => Same H6 H' ∧ kvs = dI ((evL W).take i) (wvOf (evL W) (evL (W.drop 1))) ∧ H6 D = none) (.of (s6 _ _ e5)) (.of e6) (by rw [List.length_map, List.length_map]; exact ll) (.refl _) (fun D H' hD s e o => ⟨s, rfl, hD⟩) (fun D i kvs H' h => h.1) ?_ ?_
    · rintro i x y T D kvs H7 H8 hD hx hy eD ⟨s7, rfl, _⟩ hT s8 eT oT
      obtain ⟨n, hn, rfl⟩ := strs_at hx
      obtain ⟨v, hv, rfl⟩ := strs_at hy
      refine i_gtup (.of eT) rfl ?_
      walk_at "rd"
      refine ⟨by with_unfolding_all rfl, ?_⟩
      walk_at "rd"
      have hv2 := hv
      rw [ev_get, List.getElem?_drop] at hv2
      have hpos := wp (1 + 2 * i) v hv2 (by omega)
      obtain ⟨m, hm, m1, m2, ml⟩ := ZS.pos_int hpos
      refine ⟨v, _, rfl, hm, by omega, ?_⟩
      have li := (List.getElem?_eq_some_iff.mp hn).1
      refine i_dcE (s8 _ _ eD) (by rw [dF_len, List.length_take]; omega) fun H9 e9 o9 => ?_
      refine ⟨fun b u e => by rw [o9 b (ne_of_none e hD)]; exact s8 _ _ (s7 _ _ e), ?_, hD⟩
      have hw : wvOf (evL W) (evL (W.drop 1)) n = (m : Int) := (wvOf_at hnd hn hv).trans (ZS.iv_of hm)
      rw [take_snoc hn]
      show putK (dF _ _) (.inr n) _ = _
      rw [putK_dF, adK_new (nodup_take hnd hn)]
      refine dF_congr fun y hy => ?_
      unfold upF
      split
      · rename_i e; rw [e, hw]
      · rfl
    · rintro D kvs H7 hD eD ⟨s7, rfl, _⟩
      rw [List.length_map, List.take_length] at eD
      walk_at "rd"
      refine i_frzE eD trivial fun od H8 e8 o8 => ?_
      have s48 : Same H4 H8 := fun b u e => by
        have := s6 _ _ (s5 _ _ e)
        rw [o8 b (ne_of_none this hD)]
        exact s7 _ _ this
      walk_at "rd"
      have hv : ∀ n ∈ evL W, 1 ≤ wvOf (evL W) (evL (W.drop 1)) n ∧ wvOf (evL W) (evL (W.drop 1)) n ≤ 10 ^ 30 := fun n hn => by
        obtain ⟨i, hi⟩ := List.getElem?_of_mem hn
        have li := (List.getElem?_eq_some_iff.mp hi).1
        have hv : (evL (W.drop 1))[i]? = some (evL (W.drop 1))[i] := List.getElem?_eq_getElem (by omega)
        have hv2 := hv
        rw [ev_get, List.getElem?_drop] at hv2
        obtain ⟨m, hm, m1, m2, ml⟩ := ZS.pos_int (wp (1 + 2 * i) _ hv2 (by omega))
        rw [wvOf_at hnd hi hv, ZS.iv_of hm]
        have e : (10 : Int) ^ 30 = ((10 ^ 30 : Nat) : Int) := by decide +kernel
        omega
      have ls : ((evL W).map (wvOf (evL W) (evL (W.drop 1)))).sum < (2 : Int) ^ 110 := by
        have h1 := sum_le_c (v := wvOf (evL W) (evL (W.drop 1))) (c := 10 ^ 30) (by decide +kernel) (evL W) fun n hn => (hv n hn).2
        have h2 := Int.mul_le_mul_of_nonneg_right (show (((evL W).length : Nat) : Int) ≤ 100 by omega) (show (0 : Int) ≤ 10 ^ 30 by decide +kernel)
        have h3 : (100 : Int) * 10 ^ 30 < 2 ^ 110 := by decide +kernel
        omega
      have l1 : (10 : Int) ^ 30 < 2 ^ 1000 := by decide +kernel
      refine i_newC (B := 110) e8 hnd (by omega) hgood (fun n hn => ⟨by have := (hv n hn).1; omega, Int.lt_of_le_of_lt (hv n hn).2 l1⟩) ?_ ls fun c H9 hc s9 hC => ?_
      · have l0 : 0 < (evL W).length := by omega
        exact ⟨(evL W)[0], List.getElem_mem l0, by have := (hv _ (List.getElem_mem l0)).1; omega⟩
      · have s08 := (s03.trans s4).trans s48
        exact k hnm c H9 (same_noneV s08 hc) (s08.trans s9) hC
theorem dp_pq0 {K : PySem.W.Frag} {H : Hp} {c : Addr} {q : Rat} (h : H c = some (.tup (pq q))) : Dp K H (.ref c) (.tuple [.int q.num, .int (q.den : Int)]) := .tup (.of h) (.cons (.int _) (.cons (.int _) .nil))
theorem lay_pq0 (q : Rat) : Lay 1 (.tuple [.int q.num, .int (q.den : Int)]) := lay_tup fun d hd => by
  rcases List.mem_cons.mp hd with rfl | hd
  · exact lay_int _
  · rw [List.mem_singleton.mp hd]; exact lay_int _
/-! ### dicts of pairs compared -/
theorem eqv_pq {p q : Rat} : PyData.eqv (.tuple [.int p.num, .int (p.den : Int)]) (.tuple [.int q.num, .int (q.den : Int)]) = true ↔ p = q := by
  show ((p.num == q.num) && (((p.den : Int) == (q.den : Int)) && true)) = true ↔ _
  rw [Bool.and_eq_true, Bool.and_eq_true, beq_iff_eq, beq_iff_eq]
  constructor
  · rintro ⟨h1, h2, _⟩
    exact Rat.ext h1 (Int.ofNat.inj h2)
  · rintro rfl
    exact ⟨rfl, rfl, rfl⟩
def pqD (v : Str → Rat) : Key → PyData := fun k => match k with
  | .inr z => .tuple [.int (v z).num, .int ((v z).den : Int)]
  | .inl _ => .none
theorem dp_pqD {K : PySem.W.Frag} {H : Hp} {M : List Str} {f : Str → V} {v : Str → Rat} (h : PQd H M f v) : ∀ p ∈ dF M f, Dp K H p.2 (pqD v p.1) ∧ SeqAt.shaped (pqD v p.1) = true := fun p hp => by
  obtain ⟨z, hz, rfl⟩ := List.mem_map.mp hp
  obtain ⟨c, e, g⟩ := h z hz
  show Dp K H (f z) _ ∧ _
  rw [e]
  exact ⟨dp_pq0 g, (lay_pq0 (v z)).shaped (by decide)⟩
theorem eqvD_pq {M N : List Str} {f g : Str → V} {v w : Str → Rat} : eqvD (dF M f) (dF N g) (pqD v) (pqD w) = true ↔ M.length = N.length ∧ ∀ z ∈ M, z ∈ N ∧ v z = w z := by
  unfold eqvD
  rw [Bool.and_eq_true, beq_iff_eq, dF_len, dF_len, List.all_eq_true]
  refine and_congr Iff.rfl ⟨fun h z hz => ?_, fun h p hp => ?_⟩
  · have := h (.inr z, f z) (List.mem_map.mpr ⟨z, hz, rfl⟩)
    rw [Bool.and_eq_true] at this
    obtain ⟨h1, h2⟩ := this
    refine ⟨?_, eqv_pq.mp h2⟩
    apply Classical.byContradiction
    intro n
    rw [show valV (dF N g) (.inr z) = none from valV_out n] at h1
    cases h1
  · obtain ⟨z, hz, rfl⟩ := List.mem_map.mp hp
    obtain ⟨h1, h2⟩ := h z hz
    rw [Bool.and_eq_true]
    exact ⟨by rw [show valV (dF N g) (.inr z) = _ from valV_in h1]; rfl, eqv_pq.mpr h2⟩
theorem i_eqDGpq {K : PySem.W.Frag} {H : Hp} {a b : Addr} {M M' : List Str} {f f' : Str → V} {v v' : Str → Rat} {Q : VK} (ha : Rd H a (.dK (dF M f))) (hb : Rd H b (.dK (dF M' f'))) (hf : PQd H M f v) (hf' : PQd H M' f' v')
    (q : ∀ c : Bool, (c = true ↔ M.length = M'.length ∧ ∀ z ∈ M, z ∈ M' ∧ v z = v' z) → Q (.bl c) H) : rEqDG K false (.ref a) (.ref b) H Q :=
  ⟨a, b, _, _, pqD v, pqD v', rfl, rfl, ha, hb, dp_pqD hf, dp_pqD hf', q _ eqvD_pq⟩
theorem i_eqDR {K : PySem.W.Frag} {x y : V} {H : Hp} {Q : VK} {n : Nat} {d : PyData} (hd : Lay n d) (hn : n ≤ 64) (h1 : Dp K H x d) (h2 : Dp K H y d) (h : Q (.bl true) H) : rEqD K x y H Q := by
  refine ⟨_, _, h1, h2, hd.shaped hn, hd.shaped hn, ?_⟩
  rw [eqv_refl d hd.1]
  exact h
theorem sF_cons {x : Rat} : ∀ l : List Rat, sF (x :: l) = x + sF l := by
  refine snoc_ind (by simp [sF]; grind) fun l q ih => ?_
  rw [← List.cons_append, sF_snoc, sF_snoc, ih]
  grind
theorem sF_perm {l m : List Rat} (h : l.Perm m) : sF l = sF m := by
  induction h with
  | nil => rfl
  | cons x _ ih => rw [sF_cons, sF_cons, ih]
  | swap x y l => rw [sF_cons, sF_cons, sF_cons, sF_cons]; grind
  | trans _ _ h1 h2 => exact h1.trans h2
theorem sF_filter {p : Str → Rat} {c : Str → Bool} : ∀ l : List Str, (∀ z ∈ l, c z = false → p z = 0) → sF (l.map p) = sF ((l.filter c).map p)
  | [], _ => rfl
  | z :: l, h => by
    have ih := sF_filter l fun y hy => h y (List.mem_cons_of_mem _ hy)
    rw [List.map_cons, sF_cons, ih]
    cases e : c z with
    | true => rw [List.filter_cons_of_pos e, List.map_cons, sF_cons]
    | false =>
      rw [List.filter_cons_of_neg (by rw [e]; decide), h z List.mem_cons_self e]
      grind
theorem sF_if {p : Str → Rat} {c : Str → Bool} : ∀ l : List Str, sF (l.map fun z => if c z = true then p z else 0) = sF ((l.filter c).map p)
  | [] => rfl
  | z :: l => by
    have ih := sF_if (p := p) (c := c) l
    rw [List.map_cons, sF_cons, ih]
    cases e : c z with
    | true => rw [List.filter_cons_of_pos e, List.map_cons, sF_cons, if_pos rfl]
    | false =>
      rw [List.filter_cons_of_neg (by rw [e]; decide), if_neg (by decide)]
      grind
theorem mass_eq {A N : List Str} {p : Str → Rat} (hA : A.Nodup) (hN : N.Nodup) (h : ∀ z, z ∉ N → p z = 0) : sF (A.map p) = sF (N.map fun z => if z ∈ A then p z else 0) := by
  have e1 := sF_filter (p := p) (c := fun z => decide (z ∈ N)) A fun z _ e => h z (of_decide_eq_false e)
  have e2 := sF_if (p := p) (c := fun z => decide (z ∈ A)) N
  simp only [decide_eq_true_eq] at e2
  rw [e1, e2]
  refine sF_perm (List.Perm.map _ ((List.perm_ext_iff_of_nodup (hA.filter _) (hN.filter _)).mpr fun z => ?_))
  rw [List.mem_filter, List.mem_filter, decide_eq_true_eq, decide_eq_true_eq]
  exact And.comm
theorem ddp_nodup : ∀ xs : List Str, (ddp xs).Nodup := by
  refine snoc_ind List.nodup_nil fun l z ih => ?_
  rw [ddp_snoc]
  by_cases e : z ∈ ddp l
  · rw [if_pos e]; exact ih
  · rw [if_neg e]; exact List.nodup_cons.mpr ⟨e, ih⟩
theorem mass_of {zs ss N : List Str} {p : Str → Rat} (hN : N.Nodup) (h : ∀ z, z ∉ N → p z = 0) (hs : ∀ z ∈ N, z ∈ zs ↔ z ∈ ss) : sF ((srt (ddp zs)).map p) = sF (N.map fun z => if z ∈ ss then p z else 0) := by
  rw [mass_eq (srt_nodup (ddp_nodup zs)) hN h]
  congr 1
  refine List.map_congr_left fun z hz => ?_
  have e : z ∈ srt (ddp zs) ↔ z ∈ ss := mem_srt.trans ((mem_ddp z zs).trans (hs z hz))
  by_cases k : z ∈ ss
  · rw [if_pos (e.mpr k), if_pos k]
  · rw [if_neg (fun x => k (e.mp x)), if_neg k]
theorem PQd.congr {H : Hp} {ks : List Str} {f : Str → V} {v w : Str → Rat} (h : PQd H ks f v) (e : ∀ z ∈ ks, w z = v z) : PQd H ks f w := fun z hz => let ⟨c, e1, g⟩ := h z hz; ⟨c, e1, by rw [e z hz]; exact g⟩
theorem weights_of {B B' : Nat} {N : List Str} {w v : Str → Int} {S T : Int} {p : Str → Rat} (c1 : ChD B N w S) (c2 : ChD B' N v T) (hp : ∀ z, p z = if z ∈ N then ((w z : Int) : Rat) / ((S : Int) : Rat) else 0) (hq : ∀ z, p z = if z ∈ N then ((v z : Int) : Rat) / ((T : Int) : Rat) else 0) : ∀ z ∈ N, w z = v z :=
  fun z hz => ((eqvD_dI.mp ((cEq_iff c1 c2 hp hq).mpr fun _ => rfl)).2 z hz).2
def TupS (H H' : Hp) : Prop := ∀ b xs, H b = some (.tup xs) → H' b = some (.tup xs)
theorem PQd.monoT {H H' : Hp} {ks : List Str} {f : Str → V} {v : Str → Rat} (h : PQd H ks f v) (s : TupS H H') : PQd H' ks f v := fun z hz => let ⟨c, e, g⟩ := h z hz; ⟨c, e, s _ _ g⟩
theorem Same.tups {H H' : Hp} (s : Same H H') : TupS H H' := fun _ _ e => s _ _ e
theorem PoolN.tups {H H' : Hp} {p : Addr} {n : Nat} (h : PoolN H p n) (b : But p H H') : TupS H H' := fun c xs e => b c _ (h.ne e fun _ _ _ z => by cases z) e
theorem PoolN.dk {H : Hp} {p q : Addr} {n : Nat} {kvs : List (Key × V)} (h : PoolN H p n) (e : H q = some (.dK kvs)) : q ≠ p := h.ne e fun _ _ _ z => by cases z
theorem PoolN.isC {CC : Addr} {H H' : Hp} {a p : Addr} {n B : Nat} {N : List Str} {P : Str → Rat} (h : PoolN H p n) (b : But p H H') (c : IsC CC H a B N P) : IsC CC H' a B N P := by
  obtain ⟨dx, d, o, w, S, h1, h2, h3, h4⟩ := c
  exact ⟨dx, d, o, w, S, b _ _ (h.ne h1 fun _ _ _ z => by cases z) h1, b _ _ (h.ne h2 fun _ _ _ z => by cases z) h2, h3, h4⟩
theorem tups_at {H H' : Hp} {d : Addr} {u : HO} (o : ∀ b, b ≠ d → H' b = H b) (e : H d = some u) (n : ∀ xs, u ≠ .tup xs) : TupS H H' := fun b xs g => by rw [o b (fun y => by rw [y, e] at g; injection g with g; exact n _ g)]; exact g
theorem But.up {p : Addr} {H H' H'' : Hp} (b : But p H H') {D : Addr} (hD : H D = none) (o : ∀ c, c ≠ D → H'' c = H' c) : But p H H'' := fun x u hx e => by rw [o x (ne_of_none e hD)]; exact b x u hx e
theorem rdS {H H' : Hp} {a : Addr} {u : HO} (h : Rd H a u) (s : Same H H') : Rd H' a u := h.elim (fun e => .inl (s _ _ e)) fun ⟨o, e⟩ => .inr ⟨o, s _ _ e⟩
def spLSum (K : PySem.W.Frag) : Sp := fun vs H Q _ => vs.length = 2 ∧ ∃ (d e : Addr) (o : Obj) (N M : List Str) (f g : Str → V) (p v : Str → Rat) (n : Nat), vs = [.ref d, .ref e] ∧ H d = some (.frz o (.dK (dF N f))) ∧ PQd H N f p ∧ Rd H e (.dK (dF M g)) ∧ PQd H M g v ∧ (∀ z ∈ N, z ∈ M) ∧ N.length ≤ 12 ∧ 0 < n ∧ n < 2 ^ 60 ∧
  (∀ z ∈ N, Gs n n (p z)) ∧ (∀ z ∈ M, Gs 60 1200 (v z)) ∧ ∀ c H', H c = none → Same H H' → H' c = some (.tup (pq (sF (N.map fun z => p z * v z)))) → Q (.ref c) H'
abbrev s__law_sum : Stmt := top 44
theorem sc__law_sum : FnScope ["_law_shares_here", "_law_values", "_law_whole", "_law_name"] ["_law_shares_here", "_law_values"] (defScope s__law_sum) := ⟨rfl, rfl, rfl, by decide +kernel, rfl, by decide +kernel, by decide +kernel⟩
theorem ok__law_sum {P : Program} {w : World} {K : PySem.W.Frag} {mg : Str → Option Value} {base : Heap} {f : Addr} {fd : FuncData} (F : L2.Fun K "_law_sum" "_law_sum" s__law_sum f fd)
    (C_f_law_add : Cal P w K mg base "_law_add" 2 spQAdd)
    (C_f_law_mul : Cal P w K mg base "_law_mul" 2 spQMul) :
    FnOk P w K mg base (L2.CX P w) 3 f fd ["_law_shares_here", "_law_values"] (spLSum K) := by
  refine fnOk_mk F sc__law_sum (fun vs H Q E h => h.1) (fun cdv A outer s H vs Q E hr h => ?_)
  obtain ⟨_, d, e, o, N, M, f, g, p, v, n, rfl, hd, hf, he, hg, hNM, hN, n0, nb, gp, gv, k⟩ := h
  refine ⟨_, pss_cons (ps_set (i := 2) sc__law_sum.nd rfl (Or.inl rfl) (pe_tup (pa_cons pe_int (pa_cons pe_int pa_nil))))
    (pss_cons (ps_for (passes_of rfl) rfl (pi_keys (pv 0)) (pg_name (i := 3) sc__law_sum.nd rfl (Or.inl rfl)) (pss_one (ps_set (i := 2) sc__law_sum.nd rfl (Or.inl rfl) (z_callC C_f_law_add hr passN (pa_cons (pv 2) (pa_cons (z_callC C_f_law_mul hr passN (pa_cons (pe_dget (hu_of hr) (pv 0) (pv 3) (fun _ _ => rfl)) (pa_cons (pe_dget (hu_of hr) (pv 1) (pv 3) (fun _ _ => rfl)) pa_nil))) pa_nil))))))
    (pss_one (ps_ret (pv 2)))), ?_⟩
  try dsimp only [cxOf]
  walk_at "rd"
  refine i_tup1 (Nat.le_of_ble_eq_true rfl) fun c0 H1 hc0 s1 e1 o1 => ?_
  walk_at "rd"
  have bd : ∀ {i : Nat} {q : Rat}, i ≤ 12 → Gs (n * 60) (i * (n * 1200)) q → ZR.Bd 1900 q := fun {i q} hi h => by
    have h1 := Nat.mul_le_mul_right (n * 1200) hi
    have e : (2 : Nat) ^ 80 = 1048576 * 2 ^ 60 := by decide +kernel
    exact (h.bd (n := 80) (by omega) (by omega) (by omega)).mono (by decide)
  have bp : ∀ z ∈ N, ZR.Bd 1900 (p z) := fun z hz => ((gp z hz).bd (n := 60) n0 nb nb).mono (by decide)
  have bv : ∀ z ∈ M, ZR.Bd 1900 (v z) := fun z hz => ((gv z hz).bd (n := 60) (by decide) (by decide +kernel) (by decide +kernel)).mono (by decide)
  refine i_forK (zs := N) (H0 := H1) (fun i σ H' => ∃ (c : Addr) (v3 : Option V), σ = [some (.ref d), some (.ref e), some (.ref c), v3] ∧ Same H1 H' ∧ H c = none ∧ H' c = some (.tup (pq (sF ((N.take i).map fun z => p z * v z)))) ∧ Gs (n * 60) (i * (n * 1200)) (sF ((N.take i).map fun z => p z * v z))) (s1 _ _ hd)
    ⟨c0, _, rfl, .refl _, hc0, e1, by rw [Nat.zero_mul]; exact Gs.zero⟩ (fun i σ H' ⟨_, _, _, s, _⟩ => .of s) ?_ ?_
  · rintro i z σ H2 hz ⟨c, v3, rfl, s2, hc, ec, gc⟩
    have iN : i < N.length := (List.getElem?_eq_some_iff.mp hz).1
    have hm : z ∈ N := List.mem_of_getElem? hz
    have s02 := s1.trans s2
    walk_at "rd"
    refine i_dgetR (.inr ⟨o, s02 _ _ hd⟩) (valV_in hm) ?_
    obtain ⟨c2, u1, u2⟩ := hf z hm
    rw [u1]
    walk_at "rd"
    refine i_dgetR (rdS he s02) (valV_in (hNM z hm)) ?_
    obtain ⟨c3, w1, w2⟩ := hg z (hNM z hm)
    rw [w1]
    walk_at "rd"
    refine ⟨rfl, c2, c3, p z, v z, rfl, s02 _ _ u2, s02 _ _ w2, bp z hm, bv z (hNM z hm), fun c4 H3 hc4 s3 e3 o3 => ?_⟩
    walk_at "rd"
    have gz : Gs (n * 60) (n * 1200) (p z * v z) := (gp z hm).mul (gv z (hNM z hm))
    refine ⟨rfl, c, c4, _, _, rfl, s3 _ _ ec, e3, bd (by omega) gc, bd (i := 1) (by decide) (by rw [Nat.one_mul]; exact gz), fun c5 H4 hc5 s4 e4 o4 => ?_⟩
    walk_at "rd"
    have tk : sF ((N.take (i + 1)).map fun z => p z * v z) = sF ((N.take i).map fun z => p z * v z) + p z * v z := by
      rw [take_snoc hz, List.map_append, List.map_cons, List.map_nil, sF_snoc]
    exact ⟨c5, _, rfl, (s2.trans s3).trans s4, same_noneV (s02.trans s3) hc5, by rw [tk]; exact e4, by rw [tk, Nat.succ_mul]; exact gc.add gz⟩
  · rintro σ H2 ⟨c, v3, rfl, s2, hc, ec, gc⟩
    rw [List.take_length] at ec
    walk_at "rd"
    exact k c H2 hc (s1.trans s2) ec
theorem name_plain {z : Str} (h : nameB z = true) : ∀ c ∈ TL.tl z, (97 ≤ c ∧ c ≤ 122) ∨ (48 ≤ c ∧ c ≤ 57) := by
  unfold nameB nameL at h
  rw [Bool.and_eq_true, Bool.and_eq_true] at h
  intro c hc
  have := List.all_eq_true.mp h.2.2 c hc
  unfold let_ ZS.dig at this
  simp at this
  omega
theorem join_tl (y : Str) (ws : List Str) : TL.tl (Txt.join y ws) = TL.joinL (TL.tl y) (ws.map TL.tl) := by
  rw [TL.join_eq, TL.tl_join]
theorem joinL_mem {S : List Nat} : ∀ (l : List (List Nat)) (c : Nat), c ∈ TL.joinL S l → (∃ p ∈ l, c ∈ p) ∨ c ∈ S
  | [], c, h => by cases h
  | [p], c, h => .inl ⟨p, List.mem_cons_self, by simpa [TL.joinL] using h⟩
  | p :: q :: r, c, h => by
    have h' : c ∈ p ++ (S ++ TL.joinL S (q :: r)) := h
    rcases List.mem_append.mp h' with h | h
    · exact .inl ⟨p, List.mem_cons_self, h⟩
    · rcases List.mem_append.mp h with h | h
      · exact .inr h
      · rcases joinL_mem (q :: r) c h with ⟨x, hx, hc⟩ | h
        · exact .inl ⟨x, List.mem_cons_of_mem _ hx, hc⟩
        · exact .inr h
theorem nmF_good : ∀ (zs seen : List Str), (∀ z ∈ zs, nameB z = true) → (seen ++ zs).Nodup → nmF seen zs = none := by
  intro zs
  induction zs with
  | nil => intro seen _ _; rfl
  | cons z zs ih =>
    intro seen h1 h2
    rw [nmF_cons, if_neg (by rw [h1 z List.mem_cons_self]; decide), if_neg fun h => (List.nodup_append.mp h2).2.2 z h z List.mem_cons_self rfl]
    exact ih _ (fun w hw => h1 w (List.mem_cons_of_mem _ hw)) (by simpa using h2)
/-! ### the text of a chance, read back -/
def txC (N : List Str) (w : Str → Int) : Str := Txt.join (Str.ofString " ") (N.map fun z => z ++ Str.ofString " " ++ ZS.T (w z))
def prW (N : List Str) (w : Str → Int) : List Str := N.flatMap fun z => [z, ZS.T (w z)]
theorem joinL_pairs (S : List Nat) {a b : Str → List Nat} : ∀ N : List Str, TL.joinL S (N.map fun z => a z ++ (S ++ b z)) = TL.joinL S (N.flatMap fun z => [a z, b z])
  | [] => rfl
  | [z] => rfl
  | z :: y :: r => by
    have ih := joinL_pairs S (a := a) (b := b) (y :: r)
    show (a z ++ (S ++ b z)) ++ (S ++ TL.joinL S ((y :: r).map fun z => a z ++ (S ++ b z))) = a z ++ (S ++ (b z ++ (S ++ TL.joinL S ((y :: r).flatMap fun z => [a z, b z]))))
    rw [ih]
    simp [List.append_assoc]
theorem tl_sp : TL.tl (Str.ofString " ") = [32] := by decide +kernel
theorem txC_join (N : List Str) (w : Str → Int) : txC N w = Txt.join (Str.ofString " ") (prW N w) := by
  unfold txC prW
  refine TL.ext_tl ?_
  rw [join_tl, join_tl, tl_sp]
  have e1 : (N.map fun z => z ++ Str.ofString " " ++ ZS.T (w z)).map TL.tl = N.map fun z => TL.tl z ++ ([32] ++ TL.tl (ZS.T (w z))) := by
    rw [List.map_map]
    refine List.map_congr_left fun z _ => ?_
    show TL.tl (z ++ Str.ofString " " ++ ZS.T (w z)) = _
    rw [TL.tl_append, TL.tl_append, tl_sp, List.append_assoc]
  have e2 : (N.flatMap fun z => [z, ZS.T (w z)]).map TL.tl = N.flatMap fun z => [TL.tl z, TL.tl (ZS.T (w z))] := by
    rw [List.map_flatMap]
    rfl
  rw [e1, e2]
  exact joinL_pairs [32] N
theorem prW_mem {N : List Str} {w : Str → Int} {x : Str} (h : x ∈ prW N w) : ∃ z ∈ N, x = z ∨ x = ZS.T (w z) := by
  obtain ⟨z, hz, hx⟩ := List.mem_flatMap.mp h
  refine ⟨z, hz, ?_⟩
  rcases List.mem_cons.mp hx with h | h
  · exact .inl h
  · exact .inr (List.mem_singleton.mp h)
theorem ev_pairs {α β : Type} {a b : α → β} : ∀ N : List α, evL (N.flatMap fun z => [a z, b z]) = N.map a ∧ evL ((N.flatMap fun z => [a z, b z]).drop 1) = N.map b
  | [] => ⟨rfl, rfl⟩
  | [z] => ⟨by simp [evL], by simp [evL]⟩
  | z :: y :: r => by
    obtain ⟨h1, h2⟩ := ev_pairs (a := a) (b := b) (y :: r)
    refine ⟨?_, ?_⟩
    · show a z :: evL ((y :: r).flatMap fun z => [a z, b z]) = _
      rw [h1]
      rfl
    · show evL (b z :: a y :: b y :: (r.flatMap fun z => [a z, b z])) = _
      show b z :: evL (((y :: r).flatMap fun z => [a z, b z]).drop 1) = _
      rw [h2]
      rfl
theorem T_dig {n : Int} (h1 : 1 ≤ n) (h : n < 10 ^ 30) : ∀ c ∈ TL.tl (ZS.T n), ZS.dig c = true := fun c hc => by
  have := ZS.T_pos h1 h
  unfold ZS.posL at this
  rw [Bool.and_eq_true, Bool.and_eq_true] at this
  exact List.all_eq_true.mp this.2.2 c hc
theorem prW_ok {N : List Str} {w : Str → Int} (hn : ∀ z ∈ N, nameB z = true) (hw : ∀ z ∈ N, 1 ≤ w z ∧ w z < 10 ^ 30) : ∀ x ∈ prW N w, (∀ c ∈ TL.tl x, 48 ≤ c ∧ c < 128) ∧ x ≠ Str.ofString "" ∧ x.length ≤ 31 := fun x hx => by
  obtain ⟨z, hz, rfl | rfl⟩ := prW_mem hx
  · refine ⟨fun c hc => by have := name_plain (hn _ hz) c hc; omega, fun e => ?_, Nat.le_trans (nameB_len (hn _ hz)) (by decide)⟩
    have := hn _ hz
    rw [e] at this
    exact absurd this (by decide +kernel)
  · obtain ⟨h1, h2⟩ := hw z hz
    have e30 : (10 : Int) ^ 30 = ((10 ^ 30 : Nat) : Int) := by decide +kernel
    refine ⟨fun c hc => ?_, fun e => ?_, ZS.T_len (by omega)⟩
    · have := T_dig h1 h2 c hc
      unfold ZS.dig at this
      have := of_decide_eq_true this
      omega
    · have := ZS.T_pos h1 h2
      rw [e] at this
      exact absurd this (by decide +kernel)
theorem txC_split {N : List Str} {w : Str → Int} (h0 : N ≠ []) (hn : ∀ z ∈ N, nameB z = true) (hw : ∀ z ∈ N, 1 ≤ w z ∧ w z < 10 ^ 30) : Txt.split (txC N w) (Str.ofString " ") = prW N w := by
  rw [txC_join]
  refine TL.split_join (s := 32) (S := []) (by decide +kernel) (by decide +kernel) (fun e => ?_) fun p hp hm => ?_
  · cases N with
    | nil => exact h0 rfl
    | cons z r => cases e
  · have := (prW_ok hn hw p hp).1 32 hm
    omega
theorem prW_at {N : List Str} {w : Str → Int} (i : Nat) : (prW N w)[2 * i]? = N[i]? ∧ (prW N w)[2 * i + 1]? = (N[i]?).map fun z => ZS.T (w z) := by
  obtain ⟨h1, h2⟩ := ev_pairs (a := fun z : Str => z) (b := fun z => ZS.T (w z)) N
  have e1 := ev_get (prW N w) i
  have e2 := ev_get ((prW N w).drop 1) i
  rw [show evL (prW N w) = N.map fun z => z from h1, List.getElem?_map] at e1
  rw [show evL ((prW N w).drop 1) = N.map fun z => ZS.T (w z) from h2, List.getElem?_map, List.getElem?_drop] at e2
  refine ⟨?_, ?_⟩
  · rw [← e1]
    cases N[i]? <;> rfl
  · rw [e2, Nat.add_comm]
theorem prW_len {N : List Str} {w : Str → Int} : (prW N w).length = 2 * N.length := by
  unfold prW
  induction N with
  | nil => rfl
  | cons z N ih => rw [List.flatMap_cons, List.length_append, ih, List.length_cons]; simp; omega
theorem prW_wrong {N : List Str} {w : Str → Int} (hn : ∀ z ∈ N, nameB z = true) (hw : ∀ z ∈ N, 1 ≤ w z ∧ w z < 10 ^ 30) : wrongW (prW N w) = none := by
  rw [wrong_end fun j hj => ?_, prW_len, if_neg (by omega)]
  unfold badAt
  have hj' : (prW N w)[j]? = some (prW N w)[j] := List.getElem?_eq_getElem hj
  rw [hj']
  have hm : (prW N w)[j] ∈ prW N w := List.getElem_mem hj
  have h1 := (prW_ok hn hw _ hm).2.1
  show (decide ((prW N w)[j] = Str.ofString "") || (decide (j % 2 = 1) && !ZS.posL (TL.tl (prW N w)[j]))) = false
  rw [decide_eq_false h1, Bool.false_or]
  by_cases e : j % 2 = 1
  · obtain ⟨_, g⟩ := prW_at (N := N) (w := w) (j / 2)
    rw [show 2 * (j / 2) + 1 = j by omega, hj'] at g
    obtain ⟨z, hz, ez⟩ := Option.map_eq_some_iff.mp g.symm
    obtain ⟨w1, w2⟩ := hw z (List.mem_of_getElem? hz)
    rw [← ez, ZS.T_pos w1 w2]
    simp
  · rw [decide_eq_false e]; rfl
theorem prW_wv {N : List Str} {w : Str → Int} (hd : N.Nodup) (hw : ∀ z ∈ N, 1 ≤ w z ∧ w z < 10 ^ 30) : ∀ z ∈ N, wvOf (evL (prW N w)) (evL ((prW N w).drop 1)) z = w z := fun z hz => by
  obtain ⟨h1, h2⟩ := ev_pairs (a := fun z : Str => z) (b := fun z => ZS.T (w z)) N
  rw [show evL (prW N w) = N.map fun z => z from h1, show evL ((prW N w).drop 1) = N.map fun z => ZS.T (w z) from h2, List.map_id']
  obtain ⟨i, hi⟩ := List.getElem?_of_mem hz
  obtain ⟨w1, w2⟩ := hw z hz
  rw [wvOf_at (w := ZS.T (w z)) hd hi (by rw [List.getElem?_map, hi]; rfl)]
  have e30 : (10 : Int) ^ 30 = ((10 ^ 30 : Nat) : Int) := by decide +kernel
  exact ZS.iv_of (ZS.T_int (by omega))
theorem joinL_len (S : List Nat) : ∀ (l : List (List Nat)) (k : Nat), (∀ p ∈ l, p.length ≤ k) → (TL.joinL S l).length ≤ l.length * (k + S.length)
  | [], k, _ => Nat.zero_le _
  | [p], k, h => by
    have := h p List.mem_cons_self
    show p.length ≤ 1 * (k + S.length)
    omega
  | p :: q :: r, k, h => by
    have ih := joinL_len S (q :: r) k fun x hx => h x (List.mem_cons_of_mem _ hx)
    have := h p List.mem_cons_self
    show (p ++ (S ++ TL.joinL S (q :: r))).length ≤ (r.length + 1 + 1) * (k + S.length)
    rw [List.length_append, List.length_append, Nat.succ_mul]
    have e : (q :: r).length * (k + S.length) = (r.length + 1) * (k + S.length) := rfl
    omega
theorem txC_ok {N : List Str} {w : Str → Int} (hn : ∀ z ∈ N, nameB z = true) (hw : ∀ z ∈ N, 1 ≤ w z ∧ w z < 10 ^ 30) (hl : N.length ≤ 60) : okT 4000 (txC N w) := by
  rw [txC_join]
  have hp := prW_ok hn hw
  refine ⟨?_, fun c hc => ?_⟩
  · have h := joinL_len [32] ((prW N w).map TL.tl) 31 fun p hp' => by
      obtain ⟨x, hx, rfl⟩ := List.mem_map.mp hp'
      have := (hp x hx).2.2
      rw [← TL.len_tl]
      exact this
    rw [List.length_map, prW_len] at h
    have := TL.len_tl (Txt.join (Str.ofString " ") (prW N w))
    rw [join_tl, tl_sp] at this
    have e : ([32] : List Nat).length = 1 := rfl
    rw [e] at h
    omega
  · rw [join_tl, tl_sp] at hc
    rcases joinL_mem _ _ hc with ⟨p, hp', h⟩ | h
    · obtain ⟨x, hx, rfl⟩ := List.mem_map.mp hp'
      exact ((hp x hx).1 c h).2
    · rw [List.mem_singleton.mp h]; decide
theorem posN_self {B : Nat} {N : List Str} {w : Str → Int} {S : Int} (cd : ChD B N w S) {v : Str → Int} (e : ∀ z ∈ N, v z = w z) : posN N v = N := by
  unfold posN
  rw [cd.sorted]
  exact List.filter_eq_self.mpr fun z hz => decide_eq_true (by rw [e z hz]; exact cd.pos z hz)
theorem ChD.w30 {B : Nat} {N : List Str} {w : Str → Int} {S : Int} (cd : ChD B N w S) (hB : B ≤ 90) : ∀ z ∈ N, 1 ≤ w z ∧ w z < 10 ^ 30 := fun z hz => by
  have h0 := sum_ge (v := w) (l := N) (fun y hy => by have := cd.pos y hy; omega) z hz
  have h1 := cd.pos z hz
  have h2 := cd.sum
  have h3 := cd.sz
  have e : (2 : Int) ^ B = ((2 ^ B : Nat) : Int) := by push_cast; rfl
  have e1 : 2 ^ B ≤ 2 ^ 90 := Nat.pow_le_pow_right (by decide) hB
  have e2 : (2 : Nat) ^ 90 < 10 ^ 30 := by decide +kernel
  have e3 : (10 : Int) ^ 30 = ((10 ^ 30 : Nat) : Int) := by decide +kernel
  omega
theorem ChD.ne0 {B : Nat} {N : List Str} {w : Str → Int} {S : Int} (cd : ChD B N w S) : N ≠ [] := fun e => by
  have := cd.ne
  rw [cd.sum, e] at this
  simp at this
theorem i_readC {K : PySem.W.Frag} {CC CN CD CY : Addr} {H : Hp} {Q : VK} {E : XK} {B : Nat} {N : List Str} {w : Str → Int} {S : Int} {p : Str → Rat} (cd : ChD B N w S) (hB : B ≤ 90) (hl : N.length ≤ 50) (hp : ∀ z, p z = if z ∈ N then ((w z : Int) : Rat) / ((S : Int) : Rat) else 0)
    (h : ∀ c H', H c = none → Same H H' → IsC CC H' c 110 N p → Q (.ref c) H') : spCRead K CC CN CD CY [.ref CC, .str (txC N w)] H Q E := by
  have hw := cd.w30 hB
  have es : wrdC (txC N w) = prW N w := txC_split cd.ne0 cd.nm hw
  have en : evL (prW N w) = N := (ev_pairs (a := fun z : Str => z) (b := fun z => ZS.T (w z)) N).1.trans (List.map_id' N)
  have ev := prW_wv cd.nodup hw
  have hwr := prW_wrong cd.nm hw
  have hnm : nmF [] N = none := nmF_good N [] cd.nm (by simpa using cd.nodup)
  refine ⟨rfl, _, rfl, txC_ok cd.nm hw (by omega), by rw [es, prW_len]; omega, fun i hi => ?_, fun _ => ⟨fun b x hx => ?_, fun _ c H' hc s hC => ?_⟩⟩
  · rw [es, hwr] at hi; cases hi
  · rw [nmC, es, en, hnm] at hx; cases hx
  · rw [nmC, wvC, nmC, es] at hC
    rw [en] at hC ev
    rw [posN_self cd ev] at hC
    refine h c H' hc s (hC.congr fun z => ?_)
    rw [hp z]
    have esum : (N.map (wvOf N (evL ((prW N w).drop 1)))).sum = S := by
      rw [cd.sum]
      congr 1
      exact List.map_congr_left ev
    rw [esum]
    by_cases hz : z ∈ N
    · rw [if_pos hz, if_pos hz, ev z hz]
    · rw [if_neg hz, if_neg hz]
theorem sF_add {f g : Str → Rat} : ∀ l : List Str, sF (l.map f) + sF (l.map g) = sF (l.map fun z => f z + g z)
  | [] => by simp [sF]; grind
  | z :: l => by
    have ih := sF_add (f := f) (g := g) l
    rw [List.map_cons, List.map_cons, List.map_cons, sF_cons, sF_cons, sF_cons, ← ih]
    grind
theorem i_eqT {K : PySem.W.Frag} {CC a c : Addr} {H : Hp} {Q : VK} {B B' : Nat} {N M : List Str} {p q : Str → Rat} (h1 : IsC CC H c B N p) (h2 : IsC CC H a B' M q) (e : ∀ z, p z = q z) (k : Q (.bl true) H) : rOwnC K CC (spCEq K CC) (.ref c) (.ref a) H Q := by
  obtain ⟨dx, d, o, w, S, g1, g2, g3, g4⟩ := id h1
  obtain ⟨dx', d', o', w', S', g1', g2', g3', g4'⟩ := id h2
  refine ⟨c, dx, _, _, rfl, g1, .ins g1', by simp [PySem.W.notFirst], rfl, c, B, N, p, _, rfl, h1, .inl ⟨a, B', M, q, rfl, h2, fun b hb => ?_⟩⟩
  rw [hb.mpr e]
  exact k
theorem i_shB {K : PySem.W.Frag} {CR CC a l : Addr} {H : Hp} {Q : VK} {E : XK} {B : Nat} {N M : List Str} {P : Str → Rat} {L : List Row} (hC : IsC CC H a B N P) (hB : B ≤ 90) (hl : N.length ≤ 12) (hM : M.Perm N) (e : SqL K H l (rowV L)) (eR : rowR L = M.map fun z => (z, P z)) (hR : RowsC CR H L)
    (k : ∀ c H' N', H c = none → Same H H' → IsC CC H' c B N' P → Q (.ref c) H') : spShared K CR CC [.ref CC, .ref l] H Q E := by
  obtain ⟨S, S0, SB, u⟩ := hC.unit
  obtain ⟨nN, _, _, mN, _⟩ := hC.chd
  have lL : L.length = N.length := by
    have := congrArg List.length eR
    unfold rowR at this
    rw [List.length_map, List.length_map, hM.length_eq] at this
    exact this
  have gP : ∀ z, Gs S S (P z) := fun z => gs_unit (u z).1 (u z).2.1 (u z).2.2
  have S9 : S < 2 ^ 90 := Nat.lt_of_lt_of_le SB (Nat.pow_le_pow_right (by decide) hB)
  have at_ : ∀ x ∈ L, x.z ∈ N ∧ x.p = P x.z := fun x hx => by
    have : (x.z, x.p) ∈ M.map fun z => (z, P z) := by rw [← eR]; exact List.mem_map.mpr ⟨x, hx, rfl⟩
    obtain ⟨z, hz, ez⟩ := List.mem_map.mp this
    injection ez with e1 e2
    rw [← e1, ← e2]
    exact ⟨hM.mem_iff.mp hz, rfl⟩
  have e2 : (rowR L).map (·.2) = M.map P := by rw [eR, List.map_map]; rfl
  refine ⟨rfl, l, L, S, B, rfl, e, hR, by omega, fun x hx => ?_, fun i => ?_, ?_, S0, SB, by omega, fun x hx => ?_, fun c H' N' hc s h => k c H' N' hc s (h.congr fun z => ?_)⟩
  · obtain ⟨h1, h2⟩ := at_ x hx
    rw [h2]
    exact ⟨mN _ h1, (u _).2.1, ((gP _).bd (n := 90) S0 S9 S9).mono (by decide)⟩
  · rw [e2]
    have g := gs_sF (D := S) (B := S) ((M.map P).take i) fun q hq => by
      obtain ⟨z, _, rfl⟩ := List.mem_map.mp (List.mem_of_mem_take hq)
      exact gP z
    have l1 : ((M.map P).take i).length ≤ 12 := by rw [List.length_take, List.length_map, hM.length_eq]; omega
    have := Nat.mul_le_mul_right S l1
    have e : (2 : Nat) ^ 94 = 16 * 2 ^ 90 := by decide +kernel
    exact (g.bd (n := 94) S0 (by omega) (by omega)).mono (by decide)
  · rw [e2, sF_perm (hM.map P)]
    exact hC.one
  · obtain ⟨h1, h2⟩ := at_ x hx
    rw [h2]
    obtain ⟨n, hn⟩ := (u x.z).1
    exact den_dvd S0 hn
  · rw [eR, sumR_map M (hM.nodup_iff.mpr nN)]
    by_cases hz : z ∈ M
    · rw [if_pos hz]
    · rw [if_neg hz]
      exact hC.out fun h => hz (hM.mem_iff.mpr h)
def spBack (K : PySem.W.Frag) (CC : Addr) : Sp := fun vs H Q _ => vs.length = 3 ∧ ∃ (p ln a : Addr) (n B : Nat) (zs N : List Str) (P : Str → Rat), vs = [.ref p, .ref ln, .ref a] ∧ PoolN H p n ∧ n ≤ 900 ∧ H ln = some (.lst (zs.map V.str)) ∧ 1 ≤ zs.length ∧ zs.length ≤ 8 ∧ zs.Nodup ∧ IsC CC H a B N P ∧ B ≤ 90 ∧ (∀ z ∈ N, z ∈ zs) ∧ N.length ≤ 12 ∧
  ∀ H', But p H H' → PoolN H' p (n + 8) → Q (.bl true) H'
abbrev s__law_back : Stmt := top 45
theorem sc__law_back : FnScope ["_law_pool_here", "_law_names_here", "_law_chance", "_law_rows", "_law_name", "_law_half", "_law_left"] ["_law_pool_here", "_law_names_here", "_law_chance"] (defScope s__law_back) := ⟨rfl, rfl, rfl, by decide +kernel, rfl, by decide +kernel, by decide +kernel⟩
theorem ok__law_back {P : Program} {w : World} {K : PySem.W.Frag} {mg : Str → Option Value} {base : Heap} {CB CC CD CN CR CX CY : Addr} {f : Addr} {fd : FuncData} (F : L2.Fun K "_law_back" "_law_back" s__law_back f fd)
    (C_b_str : mg "str" = none)
    (C_c_Chance : ClO K CC)
    (C_f_law_of : Cal P w K mg base "_law_of" 1 (spOf CR))
    (C_f_law_take : Cal P w K mg base "_law_take" 1 spTakeN)
    (C_f_total : Cal P w K mg base "total" 11 (spTotG K CR))
    (C_gChance : mg "Chance" = some (.ref CC))
    (C_i_Chance : CalI P w K mg base "Chance" CC 11 (spCInitG K CR CC CB CN CX))
    (C_it_Chance : ItO P w K mg base CC 1 (spCIter CC))
    (C_k_Chance_read : CalK P w K mg base CC "read" 13 (spCRead K CC CN CD CY))
    (C_k_Chance_shared : CalK P w K mg base CC "shared" 13 (spShared K CR CC))
    (C_m_Chance_mass : CalM P w K mg base CC "mass" 10 (spMass K CR CC))
    (C_m_Chance_share : CalM P w K mg base CC "share" 10 (spShare K CR CC))
    (C_m_Chance_weights : CalM P w K mg base CC "weights" 1 (spWeights CC))
    (C_na_Chance__sum : NoAttr K CC "_sum")
    (C_na_Chance__weights : NoAttr K CC "_weights")
    (C_o_Chance_eq : CalO P w K mg base CC "__eq__" 1 (spCEq K CC))
    (C_o_Chance_str : CalO P w K mg base CC "__str__" 2 (spCStr CC)) :
    FnOk P w K mg base (L2.CX P w) 15 f fd ["_law_pool_here", "_law_names_here", "_law_chance"] (spBack K CC) := by
  refine fnOk_mk F sc__law_back (fun vs H Q E h => h.1) (fun cdv A outer s H vs Q E hr h => ?_)
  obtain ⟨_, p, ln, a, n, B, zs, N, P, rfl, hp, hn, hln, z1, z8, znd, hC, hB, hNz, hN12, k⟩ := h
  refine ⟨_, pss_cons (ps_setLc (i := 3) (own := [("_law_name", 4)]) (by rfl) sc__law_back.nd rfl rfl (sw_true rfl rfl rfl (by decide +kernel)) (pi_ownD C_it_Chance hr (pv 2)) (blkOk_by (N := ["_law_pool_here", "_law_names_here", "_law_chance", "_law_rows", "_law_name", "_law_half", "_law_left"]) (sc := defScope s__law_back) (by decide +kernel)) (fun _ _ _ _ _ => pg_name (i := 4) sc__law_back.nd rfl (Or.inl rfl)) (fun _ _ _ _ _ => pts_nil) (fun _ _ _ _ _ => pe_tup (pa_cons (pv 4) (pa_cons (z_methC (pv 2) C_c_Chance.toCls C_m_Chance_share hr passN (pa_cons (pv 4) pa_nil)) pa_nil))))
    (pss_cons (ps_set (i := 5) sc__law_back.nd rfl (Or.inr rfl) (pe_lc (own := [("_law_name", 4)]) (by rfl) sc__law_back.nd (pi_any (K := K) rfl (pv 1)) (blkOk_by (N := ["_law_pool_here", "_law_names_here", "_law_chance", "_law_rows", "_law_name", "_law_half", "_law_left"]) (sc := defScope s__law_back) (by decide +kernel)) (fun _ _ _ _ _ => pg_name (i := 4) sc__law_back.nd rfl (Or.inl rfl)) (fun _ _ _ _ _ => pts_one (pt_cmpR op_eq (z_callC C_f_law_take hr passN (pa_cons (pv 0) (pa_cons pe_int pa_nil))) pe_int (nomark _))) (fun _ _ _ _ _ => pv 4)))
    (pss_cons (ps_setLc (i := 6) (own := [("_law_name", 4)]) (by rfl) sc__law_back.nd rfl rfl (sw_true rfl rfl rfl (by decide +kernel)) (pi_any (K := K) rfl (pv 1)) (blkOk_by (N := ["_law_pool_here", "_law_names_here", "_law_chance", "_law_rows", "_law_name", "_law_half", "_law_left"]) (sc := defScope s__law_back) (by decide +kernel)) (fun _ _ _ _ _ => pg_name (i := 4) sc__law_back.nd rfl (Or.inl rfl)) (fun _ _ _ _ _ => pts_one (pt_cmpR (k_notInS (K := K) rfl) (pv 4) (pv 5) rfl)) (fun _ _ _ _ _ => pv 4))
    (pss_cons (ps_if (pt_cmpR (k_neD (K := K) rfl hr.units) (z_callC C_f_law_of hr passN (pa_cons (z_callC C_f_total hr passN (pa_cons (pe_lst (pa_cons (z_methC (pv 2) C_c_Chance.toCls C_m_Chance_mass hr passN (pa_cons (pv 5) pa_nil)) (pa_cons (z_methC (pv 2) C_c_Chance.toCls C_m_Chance_mass hr passN (pa_cons (pv 6) pa_nil)) pa_nil))) pa_nil)) pa_nil)) (pe_tup (pa_cons pe_int (pa_cons pe_int pa_nil))) (nomark _)) (pss_one (ps_ret pe_bl)) (pss_nil))
    (pss_cons (ps_if (PW.pt (pw_or (pt_not (pt_cmpR (z_eqO C_o_Chance_eq hr) (z_cmethC (pe_glob (v := .ref CC) rfl C_gChance rfl) C_k_Chance_shared hr passN (pa_cons (pv 3) pa_nil)) (pv 2) (nomark _))) (pw_or1 (pt_not (pt_cmpR (z_eqO C_o_Chance_eq hr) (z_cmethC (pe_glob (v := .ref CC) rfl C_gChance rfl) C_k_Chance_shared hr passN (pa_cons (pe_revL (pv 3)) pa_nil)) (pv 2) (nomark _)))))) (pss_one (ps_ret pe_bl)) (pss_nil))
    (pss_one (ps_ret (pe_and (pe_cmpR (z_eqO C_o_Chance_eq hr) (z_makeC C_i_Chance hr passN (pa_cons (pe_frzE (z_meth0C (pv 2) C_c_Chance.toCls C_m_Chance_weights hr passN)) pa_nil)) (pv 2) (nomark _)) (pe_one (pe_cmpR (z_eqO C_o_Chance_eq hr) (z_cmethC (pe_glob (v := .ref CC) rfl C_gChance rfl) C_k_Chance_read hr passN (pa_cons (pe_callTy (z_strO C_o_Chance_str hr) (by rfl) C_b_str (by decide +kernel) (pa_cons (pv 2) pa_nil)) pa_nil)) (pv 2) (nomark _)))))))))), ?_⟩
  try dsimp only [cxOf]
  walk_at "rd"
  have lnp : ln ≠ p := hp.ne hln fun x y z e => by
    injection e with e
    cases zs with
    | nil => cases z1
    | cons a as => rw [List.map_cons] at e; cases e
  obtain ⟨nN, _, _, mN, N0⟩ := hC.chd
  obtain ⟨dx, dC, oC, w', S, a1, a2, cd, hP⟩ := id hC
  refine i_lcO (ownC a1 a2) ?_
  refine lcKeys (H0 := H) (fun D i ys H' => Same H H' ∧ ∃ L : List Row, ys = rowV L ∧ rowR L = (N.take i).map (fun z => (z, P z)) ∧ RowsC CR H' L ∧ H D = none) a2 (fun D H' hD s e ho => ⟨s, [], rfl, rfl, (fun x hx => by cases hx), hD⟩) (fun D i ys H' q => .of q.1) ?_ ?_
  · rintro i z D ys H3 hD hz eD ⟨s3, L, rfl, em, hL, _⟩
    walk_at "rd"
    refine ⟨by with_unfolding_all rfl, ?_⟩
    walk_at "rd"
    refine i_meth1 (s3 _ _ a1) (cf_no (by decide +kernel) (by decide +kernel)) ?_
    walk_at "rd"
    refine ⟨rfl, a, z, B, N, P, rfl, hC.mono s3, by omega, fun c5 H5 hc5 s5 hr5 => ?_⟩
    walk_at "rd"
    refine i_tup1 (Nat.le_of_ble_eq_true rfl) fun c6 H6 hc6 s6 e6 o6 => ?_
    have t36 := s5.trans s6
    refine i_lcE (t36 _ _ eD) ?_ fun H7 e7 o7 => ?_
    · have := congrArg List.length em
      unfold rowR at this
      rw [List.length_map, List.length_map, List.length_take] at this
      unfold rowV
      rw [List.length_map]
      omega
    · have nb : ∀ b u, H6 b = some u → (∀ xs, u ≠ .lst xs) → H7 b = some u := fun b u e n => by
        rw [o7 b (fun z => by rw [z, t36 _ _ eD] at e; cases e; exact n _ rfl)]
        exact e
      refine ⟨fun b u e => by rw [o7 b (ne_of_none e hD)]; exact t36 _ _ (s3 _ _ e), L ++ [⟨c6, z, c5, P z⟩], by unfold rowV; rw [List.map_append]; rfl, ?_, fun x hx => ?_, hD⟩
      · unfold rowR at em ⊢
        rw [List.map_append, em, take_snoc hz, List.map_append]
        rfl
      · rcases List.mem_append.mp hx with h | h
        · obtain ⟨k1, dx, k2⟩ := hL x h
          exact ⟨nb _ _ (t36 _ _ k1) (fun xs z => by cases z), dx, nb _ _ (t36 _ _ k2) (fun xs z => by cases z)⟩
        · rw [List.mem_singleton.mp h]
          obtain ⟨dx, k2⟩ := hr5
          exact ⟨nb _ _ e6 (fun xs z => by cases z), dx, nb _ _ (s6 _ _ k2) (fun xs z => by cases z)⟩
  rintro lr ys H1 hlr elr ⟨s1, L, rfl, em, hL, _⟩
  rw [List.take_length] at em
  walk_at "rd"
  have pl1 := hp.mono s1 (Nat.le_refl _)
  have hln1 := s1 _ _ hln
  refine i_lcA (H0 := oneH ln (zs.map V.str)) (fun i ys H' => But p H1 H' ∧ PoolN H' p (n + i) ∧ ∃ hs : List Str, ys = hs.map V.str ∧ hs.Sublist (zs.take i)) one_seq (one_same hln1) (fun D H' hD s e ho => ⟨.of s, pl1.mono s (by omega), [], rfl, List.nil_sublist _⟩) (fun i ys H' h => one_same (h.1 _ _ lnp hln1)) ?_ ?_
  · rintro i x D ys H2 hD hx eD ⟨b2, pl2, hs, rfl, hsub⟩
    obtain ⟨z, hz, rfl⟩ := strs_at hx
    have hi := (List.getElem?_eq_some_iff.mp hz).1
    walk_at "rd"
    refine ⟨by with_unfolding_all rfl, ?_⟩
    walk_at "rd"
    refine i_takeN pl2 (by omega) (by decide) (by decide) fun r H3 r0 r1 o3 pl3 => ?_
    walk_at "rd"
    have Dp := pl1.nn hD
    have b3 : But p H1 H3 := b2.trans (.of' o3)
    have eD3 : H3 D = some (.lst (hs.map V.str)) := by rw [o3 D Dp]; exact eD
    refine i_dec (fun e => ?_) (fun e => ?_)
    · walk_at "rd"
      have hl2 := hsub.length_le
      rw [List.length_take] at hl2
      refine i_lcE eD3 (by rw [List.length_map]; omega) fun H4 e4 o4 => ⟨b3.up hD o4, PoolN.keep (n := n + (i + 1)) (by rw [← Nat.add_assoc]; exact pl3) (o4 p (Ne.symm Dp)), hs ++ [z], by rw [List.map_append]; rfl, ?_⟩
      rw [take_snoc hz]
      exact hsub.append (.refl _)
    · exact ⟨_, eD3, b3, by rw [← Nat.add_assoc]; exact pl3, hs, rfl, by rw [take_snoc hz]; exact hsub.trans (List.sublist_append_left _ _)⟩
  rintro lh ys H2 hlh elh ⟨b2, pl2, hs, rfl, hsub⟩
  rw [List.length_map, List.take_length] at hsub
  rw [List.length_map] at pl2
  walk_at "rd"
  have hln2 := b2 _ _ lnp hln1
  refine i_lcA (H0 := H2) (fun i ys H' => Same H2 H' ∧ ys = ((zs.take i).filter fun z => !decide (z ∈ hs)).map V.str) (SqA.l hln2) (.refl _) (fun D H' hD s e ho => ⟨s, rfl⟩) (fun i ys H' h => h.1) ?_ ?_
  · rintro i x D ys H3 hD hx eD ⟨s3, rfl⟩
    obtain ⟨z, hz, rfl⟩ := strs_at hx
    have hi := (List.getElem?_eq_some_iff.mp hz).1
    walk_at "rd"
    refine ⟨by with_unfolding_all rfl, ?_⟩
    walk_at "rd"
    refine i_notInS (.l (s3 _ _ elh)) ?_
    walk_at "rd"
    refine i_ndec (fun e => ?_) (fun e => ?_)
    · walk_at "rd"
      refine i_lcE eD (by rw [List.length_map]; have := List.length_filter_le (fun z => !decide (z ∈ hs)) (zs.take i); rw [List.length_take] at this; omega) fun H4 e4 o4 => ⟨fun b u e => by rw [o4 b (ne_of_none e hD)]; exact s3 _ _ e, ?_⟩
      rw [take_snoc hz, List.filter_append, List.filter_cons_of_pos (by simpa using e), List.map_append]
      rfl
    · exact ⟨_, eD, s3, by rw [take_snoc hz, List.filter_append, List.filter_cons_of_neg (by simpa using e)]; simp⟩
  rintro lf ys H3 hlf elf ⟨s3, rfl⟩
  rw [List.length_map, List.take_length] at elf
  walk_at "rd"
  have b13 : But p H1 H3 := b2.trans (.of s3)
  have b03 : But p H H3 := (But.of s1).trans b13
  have pl3 := pl2.mono s3 (Nat.le_refl _)
  have hC3 := hp.isC b03 hC
  have ap : a ≠ p := hp.ne a1 fun x y z => by intro h; cases h
  have a13 := b03 _ _ ap a1
  have elh3 := s3 _ _ elh
  refine i_meth1 a13 (cf_no (by decide +kernel) (by decide +kernel)) ?_
  walk_at "rd"
  have hsl := hsub.length_le
  refine ⟨rfl, a, lh, B, N, P, _, rfl, hC3, by omega, .l elh3, by omega, fun r1 H4 hr1 s4 hR1 => ?_⟩
  walk_at "rd"
  refine i_meth1 (s4 _ _ a13) (cf_no (by decide +kernel) (by decide +kernel)) ?_
  walk_at "rd"
  have lfl := List.length_filter_le (fun z => !decide (z ∈ hs)) zs
  refine ⟨rfl, a, lf, B, N, P, _, rfl, hC3.mono s4, by omega, .l (s4 _ _ elf), by omega, fun r2 H5 hr2 s5 hR2 => ?_⟩
  walk_at "rd"
  have hP0 : ∀ z, z ∉ N → P z = 0 := fun z hz => hC.out hz
  rw [mass_of nN hP0 fun z hz => Iff.rfl] at hR1
  rw [mass_of nN hP0 fun z hz => Iff.rfl] at hR2
  refine i_lst1 (Nat.le_of_ble_eq_true rfl) fun lt H6 hlt s6 elt o6 => ?_
  walk_at "rd"
  obtain ⟨S0, S00, SB, u⟩ := hC.unit
  have S9 : S0 < 2 ^ 90 := Nat.lt_of_lt_of_le SB (Nat.pow_le_pow_right (by decide) hB)
  have gP : ∀ z, Gs S0 S0 (P z) := fun z => gs_unit (u z).1 (u z).2.1 (u z).2.2
  have gm : ∀ m : List Str, Gs S0 (12 * S0) (sF (N.map fun z => if z ∈ m then P z else 0)) := fun m => by
    have g := gs_sF (D := S0) (B := S0) (N.map fun z => if z ∈ m then P z else 0) fun q hq => by
      obtain ⟨z, _, rfl⟩ := List.mem_map.mp hq
      split
      · exact gP z
      · exact Gs.zero
    rw [List.length_map] at g
    exact g.mono (Nat.mul_le_mul_right S0 hN12)
  have e94 : (2 : Nat) ^ 95 = 32 * 2 ^ 90 := by decide +kernel
  have bm : ∀ {c : Nat} {q : Rat}, c ≤ 24 → Gs S0 (c * S0) q → ZR.Bd 2000 q := fun {c q} hc h => by
    have := Nat.mul_le_mul_right S0 hc
    exact (h.bd (n := 95) S00 (by omega) (by omega)).mono (by decide)
  generalize hm1 : sF (N.map fun z => if z ∈ hs then P z else 0) = m1 at *
  generalize hm2 : sF (N.map fun z => if z ∈ zs.filter (fun z => !decide (z ∈ hs)) then P z else 0) = m2 at *
  have g1 : Gs S0 (12 * S0) m1 := hm1 ▸ gm hs
  have g2 : Gs S0 (12 * S0) m2 := hm2 ▸ gm (zs.filter fun z => !decide (z ∈ hs))
  have m12 : m1 + m2 = 1 := by
    rw [← hm1, ← hm2, sF_add, ← hC.one]
    congr 1
    refine List.map_congr_left fun z hz => ?_
    have hzz := hNz z hz
    by_cases e : z ∈ hs
    · rw [if_pos e, if_neg (fun h => by have := (List.mem_filter.mp h).2; simp [e] at this)]
      grind
    · rw [if_neg e, if_pos (List.mem_filter.mpr ⟨hzz, by simp [e]⟩)]
      grind
  refine ⟨rfl, lt, [(r1, m1), (r2, m2)], rfl, .of elt, fun x hx => ?_, fun x hx => ?_, fun i => ?_, fun r3 H7 hr3 s7 hR3 => ?_⟩
  · rcases List.mem_cons.mp hx with rfl | hx
    · exact (hR1.mono s5).mono s6
    · rw [List.mem_singleton.mp hx]; exact hR2.mono s6
  · rcases List.mem_cons.mp hx with rfl | hx
    · exact bm (by decide) g1
    · rw [List.mem_singleton.mp hx]; exact bm (by decide) g2
  · have hi : i = 0 ∨ i = 1 ∨ 2 ≤ i := by omega
    rcases hi with rfl | rfl | hi
    · exact bm (c := 0) (by decide) (by rw [Nat.zero_mul]; exact Gs.zero)
    · rw [show ZD.sm ([(r1, m1), (r2, m2)].take 1) = 0 + m1 from rfl, show (0 : Rat) + m1 = m1 by grind]
      exact bm (by decide) g1
    · rw [List.take_of_length_le (by exact hi), show ZD.sm [(r1, m1), (r2, m2)] = 0 + m1 + m2 from rfl, show (0 : Rat) + m1 + m2 = m1 + m2 by grind, m12]
      exact ⟨by decide +kernel, by decide +kernel⟩
  rw [show ZD.sm [(r1, m1), (r2, m2)] = 0 + m1 + m2 from rfl, show (0 : Rat) + m1 + m2 = m1 + m2 by grind, m12] at hR3
  walk_at "rd"
  refine ⟨rfl, r3, 1, rfl, hR3, fun c8 H8 hc8 s8 e8 o8 => ?_⟩
  walk_at "rd"
  refine i_tup1 (Nat.le_of_ble_eq_true rfl) fun t9 H9 ht9 s9 e9 o9 => ?_
  refine i_neDR (lay_pq0 1) (by decide) (dp_pq0 (s9 _ _ e8)) (dp_pq0 e9) ?_
  walk_at "rd"
  have s39 := ((((s4.trans s5).trans s6).trans s7).trans s8).trans s9
  have b09 : But p H H9 := b03.trans (.of s39)
  have lrp : lr ≠ p := hp.nn hlr
  have elr9 : H9 lr = some (.lst (rowV L)) := s39 _ _ (b13 _ _ lrp elr)
  have hL9 : RowsC CR H9 L := fun x hx => by
    obtain ⟨k1, dx, k2⟩ := hL x hx
    exact ⟨s39 _ _ (b13 _ _ (pl1.ne k1 fun x y z => by intro h; cases h) k1), dx, s39 _ _ (b13 _ _ (pl1.ne k2 fun x y z => by intro h; cases h) k2)⟩
  have hC9 := hC3.mono s39
  refine i_cmS ?_
  walk_at "rd"
  refine ⟨rfl, ?_⟩
  walk_at "rd"
  refine i_shB hC9 hB hN12 (.refl N) (.of elr9) em hL9 fun c10 H10 N10 hc10 s10 hC10 => ?_
  walk_at "rd"
  refine i_eqT hC10 (hC9.mono s10) (fun z => rfl) ?_
  walk_at "rd"
  refine i_cmS ?_
  walk_at "rd"
  refine ⟨rfl, ?_⟩
  walk_at "rd"
  refine i_revL1 (.of (s10 _ _ elr9)) fun lv H11 hlv s11 elv o11 => ?_
  walk_at "rd"
  have s911 := s10.trans s11
  refine i_shB (L := L.reverse) (M := N.reverse) (hC9.mono s911) hB hN12 N.reverse_perm (.of (by rw [elv]; unfold rowV; rw [List.map_reverse])) (by unfold rowR at em ⊢; rw [List.map_reverse, em, List.map_reverse]) (fun x hx => (hL9.mono s911) x (List.mem_reverse.mp hx)) fun c12 H12 N12 hc12 s12 hC12 => ?_
  walk_at "rd"
  have s912 := s911.trans s12
  refine i_eqT hC12 (hC9.mono s912) (fun z => rfl) ?_
  walk_at "rd"
  obtain ⟨dxx, dCx, oCx, wx, Sx, x1, x2, cdx, hPx⟩ := id (hC9.mono s912)
  refine i_meth1 x1 (cf_no (by decide +kernel) (by decide +kernel)) ?_
  walk_at "rd"
  refine ⟨rfl, a, dxx, dCx, Sx, oCx, _, rfl, x1, x2, fun q13 H13 hq13 s13 e13 => ?_⟩
  refine i_frzE e13 trivial fun od H14 e14 o14 => ?_
  have s1214 : Same H12 H14 := fun b u e => by rw [o14 b (ne_of_none e hq13)]; exact s13 _ _ e
  walk_at "rd"
  have w30 := cdx.w30 hB
  have l1000 : (10 : Int) ^ 30 < 2 ^ 1000 := by decide +kernel
  refine i_newC (B := B) e14 cdx.nodup cdx.len cdx.nm (fun z hz => ⟨by have := (w30 z hz).1; omega, Int.lt_trans (w30 z hz).2 l1000⟩) ⟨N[0], List.getElem_mem N0, by have := (w30 _ (List.getElem_mem N0)).1; omega⟩ (by rw [← cdx.sum]; exact cdx.sz) (hB9 := by omega) fun c15 H15 hc15 s15 hC15 => ?_
  walk_at "rd"
  have s915 := (s912.trans s1214).trans s15
  refine i_eqT hC15 (hC9.mono s915) (fun z => by rw [hPx z, ← cdx.sum]) ?_
  walk_at "rd"
  refine i_cmS ?_
  walk_at "rd"
  refine ⟨rfl, ?_⟩
  walk_at "rd"
  have s1215 := s1214.trans s15
  have e30 : (10 : Int) ^ 30 = ((10 ^ 30 : Nat) : Int) := by decide +kernel
  refine ⟨a, dxx, _, rfl, s1215 _ _ x1, rfl, a, dxx, dCx, B, N, wx, Sx, oCx, rfl, s1215 _ _ x1, s1215 _ _ x2, cdx, fun z hz => by have := w30 z hz; omega, fun H16 s16 => ⟨_, rfl, ?_⟩⟩
  walk_at "rd"
  refine i_readC cdx hB (by omega) hPx fun c17 H17 hc17 s17 hC17 => ?_
  walk_at "rd"
  have s917 := (s915.trans s16).trans s17
  refine i_eqT hC17 (hC9.mono s917) (fun z => rfl) ?_
  exact k H17 (b09.trans (.of s917)) (pl3.mono (s39.trans s917) (by omega))
def RsD (CR : Addr) (H : Hp) (ks : List Str) (g : Str → V) (v : Str → Rat) : Prop := ∀ z ∈ ks, ∃ r, g z = .ref r ∧ IsR CR H r (v z)
theorem RsD.mono {CR : Addr} {H H' : Hp} {ks : List Str} {g : Str → V} {v : Str → Rat} (h : RsD CR H ks g v) (s : Same H H') : RsD CR H' ks g v := fun z hz => let ⟨r, e, x⟩ := h z hz; ⟨r, e, x.mono s⟩
theorem RsD.up {CR : Addr} {H : Hp} {ks : List Str} {g : Str → V} {v : Str → Rat} {z : Str} {r : Addr} (h : RsD CR H ks g v) (nz : z ∉ ks) (e : IsR CR H r (v z)) : RsD CR H (ks ++ [z]) (upF g z (.ref r)) v := fun y hy => by
  by_cases e2 : y = z
  · subst e2
    exact ⟨r, if_pos rfl, e⟩
  · obtain ⟨c2, e3, x⟩ := h y ((List.mem_append.mp hy).resolve_right fun k => e2 (List.mem_singleton.mp k))
    exact ⟨c2, by unfold upF; rw [if_neg e2]; exact e3, x⟩
theorem isR_at {CR : Addr} {H H' : Hp} {d r : Addr} {u : HO} {q : Rat} (o : ∀ b, b ≠ d → H' b = H b) (e : H d = some u) (n : ∀ C dx fs, u ≠ .ins C dx fs) (h : IsR CR H r q) : IsR CR H' r q := by
  obtain ⟨dx, g⟩ := h
  exact ⟨dx, by rw [o r (fun y => by rw [y, e] at g; injection g with g; exact n _ _ _ g)]; exact g⟩
/-! ### sums over all names -/
theorem sup_eq {N U : List Str} {f : Str → Rat} (hN : N.Nodup) (hU : U.Nodup) (h : ∀ z ∈ N, z ∈ U) (h0 : ∀ z, z ∉ N → f z = 0) : sF (N.map f) = sF (U.map f) := by
  rw [mass_eq hU hN h0]
  congr 1
  exact List.map_congr_left fun z hz => (if_pos (h z hz)).symm
theorem sF_lin {f g : Str → Rat} {a b : Rat} (l : List Str) : sF (l.map fun z => a * f z + b * g z) = a * sF (l.map f) + b * sF (l.map g) := by
  have e1 := sF_mul (f := f) (c := a) l
  have e2 := sF_mul (f := g) (c := b) l
  rw [← sF_add (f := fun z => a * f z) (g := fun z => b * g z), show (l.map fun z => a * f z) = l.map fun z => f z * a from List.map_congr_left fun z _ => by grind, show (l.map fun z => b * g z) = l.map fun z => g z * b from List.map_congr_left fun z _ => by grind, e1, e2]
  grind
def sentU (U : List Str) (g : Str → Str) (p : Str → Rat) (y : Str) : Rat := sF (U.map fun z => if g z = y then p z else 0)
theorem sumR_go {g : Str → Str} {p : Str → Rat} {y : Str} : ∀ N : List Str, sumR (goR N g p) y = sF (N.map fun z => if g z = y then p z else 0) := by
  refine snoc_ind rfl fun l z ih => ?_
  unfold goR at ih ⊢
  rw [List.map_append, List.map_cons, List.map_nil, sumR_snoc, ih, List.map_append, List.map_cons, List.map_nil, sF_snoc]
  split
  · rfl
  · grind
theorem sent_lin {U : List Str} {g : Str → Str} {p q : Str → Rat} {a b : Rat} {y : Str} : sentU U g (fun z => a * p z + b * q z) y = a * sentU U g p y + b * sentU U g q y := by
  unfold sentU
  rw [← sF_lin]
  congr 1
  refine List.map_congr_left fun z _ => ?_
  split <;> grind
theorem sent_avg {W : List Str} {g : Str → Str} {p v : Str → Rat} (hW : W.Nodup) : ∀ U : List Str, (∀ z ∈ U, g z ∈ W) → sF (W.map fun y => sentU U g p y * v y) = sF (U.map fun z => p z * v (g z)) := by
  refine snoc_ind (fun _ => ?_) fun l z ih h => ?_
  · have : (W.map fun y => sentU [] g p y * v y) = W.map fun y => (fun _ => (0 : Rat)) y * 0 := List.map_congr_left fun y _ => by unfold sentU; rw [List.map_nil, sF_nil]; grind
    rw [this, sF_mul]
    show _ = (0 : Rat)
    grind
  · have ih := ih fun x hx => h x (List.mem_append_left _ hx)
    rw [List.map_append, List.map_cons, List.map_nil, sF_snoc, ← ih]
    have hz := h z (List.mem_append_right _ (List.mem_singleton.mpr rfl))
    have e : (W.map fun y => sentU (l ++ [z]) g p y * v y) = W.map fun y => if g z = y then (sentU l g p y * v y) + p z * v (g z) else sentU l g p y * v y := List.map_congr_left fun y _ => by
      unfold sentU
      rw [List.map_append, List.map_cons, List.map_nil, sF_snoc]
      by_cases e : g z = y
      · rw [if_pos e, if_pos e, ← e]; grind
      · rw [if_neg e, if_neg e]; grind
    rw [e, sF_one W hW, if_pos hz]
theorem miss_of {ks N : List Str} (h : ∀ z ∈ N, z ∈ ks) : miss ks N = none := by
  unfold miss
  rw [List.find?_eq_none]
  intro z hz
  simp [h z hz]
section
variable {K : PySem.W.Frag} {CR CC CU CN CB : Addr} {H : Hp} {Q : VK} {E : XK}
theorem i_avgU {a t : Addr} {B : Nat} {N ks U : List Str} {p v : Str → Rat} {f : Str → V} (hC : IsC CC H a B N p) (hB : B ≤ 60) (hl : N.length ≤ 12) (ht : Rd H t (.dK (dF ks f))) (hf : ∀ z ∈ ks, ∃ r, f z = .ref r ∧ IsR CR H r (v z)) (hv : ∀ z, Gs 60 1200 (v z)) (hNk : ∀ z ∈ N, z ∈ ks)
    (hU : U.Nodup) (hNU : ∀ z ∈ N, z ∈ U) (k : ∀ c H', H c = none → Same H H' → IsR CR H' c (sF (U.map fun z => p z * v z)) → Q (.ref c) H') : spAvg K CR CC CU [.ref a, .ref t] H Q E := by
  obtain ⟨S, S0, SB, u⟩ := hC.unit
  obtain ⟨nN, _, _, _, _⟩ := hC.chd
  have S6 : S < 2 ^ 60 := Nat.lt_of_lt_of_le SB (Nat.pow_le_pow_right (by decide) hB)
  have gP : ∀ z, Gs S S (p z) := fun z => gs_unit (u z).1 (u z).2.1 (u z).2.2
  have gPV : ∀ z, Gs (S * 60) (S * 1200) (p z * v z) := fun z => (gP z).mul (hv z)
  have e80 : (2 : Nat) ^ 80 = 1048576 * 2 ^ 60 := by decide +kernel
  have bd : ∀ {i : Nat} {q : Rat}, i ≤ 12 → Gs (S * 60) (i * (S * 1200)) q → ZR.Bd 2000 q := fun {i q} hi h => by
    have h1 := Nat.mul_le_mul_right (S * 1200) hi
    exact (h.bd (n := 80) (by omega) (by omega) (by omega)).mono (by decide)
  refine ⟨rfl, a, t, B, N, p, v, ks, f, rfl, hC, by omega, ht, hf, fun z => ((gP z).bd (n := 60) S0 S6 S6).mono (by decide), fun z => ((hv z).bd (n := 60) (by decide) (by decide +kernel) (by decide +kernel)).mono (by decide), fun z => bd (i := 1) (by decide) (by rw [Nat.one_mul]; exact gPV z), fun i => ?_, (fun z h => by rw [miss_of hNk] at h; cases h), fun _ c H' hc s h => k c H' hc s ?_⟩
  · have g := gs_sF (D := S * 60) (B := S * 1200) ((N.take i).map fun z => p z * v z) fun q hq => by
      obtain ⟨z, _, rfl⟩ := List.mem_map.mp hq
      exact gPV z
    exact bd (by rw [List.length_map, List.length_take]; omega) g
  · rw [← sup_eq nN hU hNU fun z hz => by rw [hC.out hz]; grind]
    exact h
theorem i_sentU {a t : Addr} {B : Nat} {N ks U : List Str} {p : Str → Rat} {g : Str → Str} (hC : IsC CC H a B N p) (hB : B ≤ 900) (ht : Rd H t (.dK (dF ks fun z => .str (g z)))) (hg : ∀ z ∈ ks, nameB (g z) = true) (hNk : ∀ z ∈ N, z ∈ ks) (hU : U.Nodup) (hNU : ∀ z ∈ N, z ∈ U)
    (k : ∀ c H' M, H c = none → Same H H' → IsC CC H' c B M (sentU U g p) → Q (.ref c) H') : spSent K CC CU CN [.ref a, .ref t] H Q E := by
  obtain ⟨nN, _, _, _, _⟩ := hC.chd
  have bg : badG N g = none := by
    unfold badG
    rw [List.find?_eq_none]
    intro z hz
    simp [hg z (hNk z hz)]
  refine ⟨rfl, a, t, B, N, p, ks, _, g, rfl, hC, hB, ht, fun z hz => ⟨rfl, Nat.le_trans (nameB_len (hg z hz)) (by decide), nW (hg z hz)⟩, (fun z h => by rw [miss_of hNk] at h; cases h), fun _ => ⟨(fun z h => by rw [bg] at h; cases h), fun _ c H' M hc s h => k c H' M hc s (h.congr fun y => ?_)⟩⟩
  rw [sumR_go]
  exact (sup_eq nN hU hNU fun z hz => by rw [hC.out hz]; split <;> rfl).symm
theorem i_mixU {a b r : Addr} {B B' : Nat} {N M : List Str} {p q : Str → Rat} {s : Rat} (h1 : IsC CC H a B N p) (h2 : IsC CC H b B' M q) (hr : IsR CR H r s) (hl : N.length + M.length < 60) (hB : B + B' + 4 ≤ 900) (s0 : 0 ≤ s) (s1 : s ≤ 1) (sn : s.num.natAbs ≤ 10) (sd : s.den ≤ 10)
    (k : ∀ c H' N', H c = none → Same H H' → IsC CC H' c (B + B' + 4) N' (fun z => (1 - s) * p z + s * q z) → Q (.ref c) H') : spMixed K CR CC CB [.ref a, .ref b, .ref r] H Q E := by
  have e30 : (10 : Nat) < 10 ^ 30 := by decide +kernel
  refine ⟨rfl, a, b, r, B, B', 4, N, M, p, q, s, rfl, h1, h2, hr, hl, hB, by omega, by omega, by show s.den < 16; omega, fun h => ?_, fun _ _ => k⟩
  exfalso
  rcases h with h | h
  · grind
  · grind
end
theorem PQd.up {H : Hp} {ks : List Str} {f : Str → V} {v : Str → Rat} {z : Str} {c : Addr} {x : Rat} (h : PQd H ks f v) (nz : z ∉ ks) (e : H c = some (.tup (pq x))) : PQd H (ks ++ [z]) (upF f z (.ref c)) (upF v z x) := fun y hy => by
  by_cases e2 : y = z
  · subst e2
    exact ⟨c, if_pos rfl, by unfold upF; rw [if_pos rfl]; exact e⟩
  · obtain ⟨c2, e3, g⟩ := h y ((List.mem_append.mp hy).resolve_right fun k => e2 (List.mem_singleton.mp k))
    exact ⟨c2, by unfold upF; rw [if_neg e2]; exact e3, by unfold upF; rw [if_neg e2]; exact g⟩
/-! ### the law -/
structure WR where
  d : Addr
  o : Obj
  ys : List Str
  w : Str → Int
def WR.p (x : WR) (z : Str) : Rat := if z ∈ x.ys then ((x.w z : Int) : Rat) / (((x.ys.map x.w).sum : Int) : Rat) else 0
noncomputable def WR.N (x : WR) : List Str := posN x.ys x.w
structure WR.Ok (zs : List Str) (H : Hp) (x : WR) : Prop where
  at_ : H x.d = some (.frz x.o (.dK (dI x.ys x.w)))
  nd : x.ys.Nodup
  sub : ∀ z ∈ x.ys, z ∈ zs
  len : x.ys.length ≤ 6
  ok : ∀ z ∈ x.ys, wOk (x.w z)
  pos : ∃ z ∈ x.ys, 0 < x.w z
theorem WR.Ok.mono {zs : List Str} {H H' : Hp} {x : WR} (h : x.Ok zs H) (s : Same H H') : x.Ok zs H' := ⟨s _ _ h.at_, h.nd, h.sub, h.len, h.ok, h.pos⟩
theorem WR.Ok.but {zs : List Str} {H H' : Hp} {x : WR} {p : Addr} {n : Nat} (h : x.Ok zs H) (b : But p H H') (pl : PoolN H p n) : x.Ok zs H' := ⟨b _ _ (pl.ne h.at_ fun _ _ _ z => by cases z) h.at_, h.nd, h.sub, h.len, h.ok, h.pos⟩
theorem WR.Ok.nsub {zs : List Str} {H : Hp} {x : WR} (h : x.Ok zs H) : (∀ z ∈ x.N, z ∈ zs) ∧ x.N.length ≤ 6 ∧ x.N.Nodup := ⟨fun z hz => h.sub z (mem_posN.mp hz).1, Nat.le_trans posN_len h.len, posN_nodup h.nd⟩
def ShOk (H : Hp) (s : Addr) (x : WR) : Prop := ∃ o f, H s = some (.frz o (.dK (dF x.N f))) ∧ PQd H x.N f x.p
theorem ShOk.mono {H H' : Hp} {a : Addr} {x : WR} (h : ShOk H a x) (s : Same H H') : ShOk H' a x := let ⟨o, f, e, g⟩ := h; ⟨o, f, s _ _ e, g.mono s⟩
theorem ShOk.but {H H' : Hp} {a : Addr} {x : WR} {p : Addr} {n : Nat} (h : ShOk H a x) (b : But p H H') (pl : PoolN H p n) : ShOk H' a x := let ⟨o, f, e, g⟩ := h; ⟨o, f, b _ _ (pl.ne e fun _ _ _ z => by cases z) e, g.monoT (pl.tups b)⟩
theorem none_of {p q : Addr} {H H' : Hp} {n : Nat} (b : But p H H') (pl : PoolN H' p n) (h : H' q = none) : H q = none := by
  cases z : H q with
  | none => rfl
  | some u =>
    by_cases e : q = p
    · exact absurd e (pl.nn h)
    · rw [b q u e z] at h; cases h
theorem cut_from (xs : List V) (j : Nat) : cutV xs (some (j : Int)) none = xs.drop j := by
  unfold cutV
  rw [HT.sIx_none, HT.sIx_nat]
  by_cases h : j ≤ xs.length
  · rw [Nat.min_eq_left h, List.take_of_length_le (by rw [List.length_drop]; omega)]
  · rw [Nat.min_eq_right (by omega), List.drop_of_length_le (by omega), List.drop_of_length_le (by omega), List.take_nil]
theorem i_newW {K : PySem.W.Frag} {CR CC CB CN CX : Addr} {H : Hp} {Q : VK} {E : XK} {x : WR} {zs : List Str} (h : x.Ok zs H) (hz : ∀ z ∈ zs, z ∈ NAMES) (k : ∀ c H', H c = none → Same H H' → IsC CC H' c 26 x.N x.p → Q (.ref c) H') : rNew CC (spCInitG K CR CC CB CN CX) [.ref x.d] H Q E := by
  have e7 : (10 : Int) ^ 7 < 2 ^ 1000 := by decide +kernel
  have s := (sum_le_wk h.ok).2
  have hl := h.len
  have h6 := Int.mul_le_mul_of_nonneg_right (show ((x.ys.length : Nat) : Int) ≤ 6 by omega) (show (0 : Int) ≤ 10 ^ 7 by decide +kernel)
  have e6 : (6 : Int) * 10 ^ 7 < 2 ^ 26 := by decide +kernel
  exact i_newC (B := 26) h.at_ h.nd (by omega) (fun z hy => NAMES_ok z (hz z (h.sub z hy))) (fun z hy => ⟨(h.ok z hy).1, Int.lt_of_le_of_lt (h.ok z hy).2 e7⟩) h.pos (by omega) k (by decide)
theorem frac60 {a : Int} {m : Nat} (ha : a.natAbs ≤ 20) (hm : m < 6) : Gs 60 1200 ((a : Rat) / (((1 + m : Nat) : Int) : Rat)) := by
  have key : ∀ k : Nat, (1 + m) * k = 60 → k ≤ 60 → Gs 60 1200 ((a : Rat) / (((1 + m : Nat) : Int) : Rat)) := fun k e hk => by
    have g := (Gs.frac (a := a) (b := 1 + m) (by omega)).scale k
    rw [e] at g
    exact g.mono (Nat.le_trans (Nat.mul_le_mul ha hk) (by decide))
  have hm : m = 0 ∨ m = 1 ∨ m = 2 ∨ m = 3 ∨ m = 4 ∨ m = 5 := by omega
  rcases hm with rfl | rfl | rfl | rfl | rfl | rfl
  · exact key 60 rfl (by decide)
  · exact key 30 rfl (by decide)
  · exact key 20 rfl (by decide)
  · exact key 15 rfl (by decide)
  · exact key 12 rfl (by decide)
  · exact key 10 rfl (by decide)
theorem mix_sub {CC a b c : Addr} {H H' H'' : Hp} {B B' B'' : Nat} {N M K zs : List Str} {p q : Str → Rat} {s : Rat} (h1 : IsC CC H a B N p) (h2 : IsC CC H' b B' M q) (h3 : IsC CC H'' c B'' K (fun z => (1 - s) * p z + s * q z)) (hN : ∀ z ∈ N, z ∈ zs) (hM : ∀ z ∈ M, z ∈ zs) : ∀ z ∈ K, z ∈ zs := fun z hz => by
  have := (h3.mem z).mp hz
  by_cases e : z ∈ N
  · exact hN z e
  · by_cases e2 : z ∈ M
    · exact hM z e2
    · rw [h1.out e, h2.out e2] at this
      grind
theorem sent_sub {CC c : Addr} {H : Hp} {B : Nat} {K zs W : List Str} {p : Str → Rat} {g : Str → Str} (h : IsC CC H c B K (sentU zs g p)) (hg : ∀ z ∈ zs, g z ∈ W) : ∀ y ∈ K, y ∈ W := fun y hy => by
  have h0 := (h.mem y).mp hy
  apply Classical.byContradiction
  intro n
  have : sentU zs g p y = 0 := by
    unfold sentU
    have e : (zs.map fun z => if g z = y then p z else 0) = zs.map fun z => (fun _ => (0 : Rat)) z * 0 := List.map_congr_left fun z hz => by
      rw [if_neg fun e => n (by rw [← e]; exact hg z hz)]
      grind
    rw [e, sF_mul]
    grind
  rw [this] at h0
  grind
theorem nd_len {K W : List Str} (h : K.Nodup) (hs : ∀ y ∈ K, y ∈ W) : K.length ≤ W.length := List.Nodup.length_le_of_subset h hs
theorem avg_bd {CC a : Addr} {H : Hp} {B : Nat} {N U : List Str} {p v : Str → Rat} (hC : IsC CC H a B N p) (hB : B ≤ 60) (hv : ∀ z, Gs 60 1200 (v z)) (hU : U.length ≤ 12) : ZR.Bd 100 (sF (U.map fun z => p z * v z)) := by
  obtain ⟨S, S0, SB, u⟩ := hC.unit
  have S6 : S < 2 ^ 60 := Nat.lt_of_lt_of_le SB (Nat.pow_le_pow_right (by decide) hB)
  have g := gs_sF (D := S * 60) (B := S * 1200) (U.map fun z => p z * v z) fun q hq => by
    obtain ⟨z, _, rfl⟩ := List.mem_map.mp hq
    exact (gs_unit (u z).1 (u z).2.1 (u z).2.2).mul (hv z)
  rw [List.length_map] at g
  have h1 := Nat.mul_le_mul_right (S * 1200) hU
  have e80 : (2 : Nat) ^ 80 = 1048576 * 2 ^ 60 := by decide +kernel
  exact (g.bd (n := 80) (by omega) (by omega) (by omega)).mono (by decide)
theorem i_sumU {K : PySem.W.Frag} {CC c d e : Addr} {H H0 : Hp} {Q : VK} {E : XK} {B : Nat} {M U : List Str} {g : Str → V} {v : Str → Rat} {x : WR} (hC : IsC CC H0 c B x.N x.p) (hB : B ≤ 60) (hS : ShOk H d x) (hl : x.N.length ≤ 12) (he : Rd H e (.dK (dF M g))) (hg : PQd H M g v) (hv : ∀ z, Gs 60 1200 (v z)) (hNM : ∀ z ∈ x.N, z ∈ M) (hU : U.Nodup) (hNU : ∀ z ∈ x.N, z ∈ U)
    (k : ∀ c H', H c = none → Same H H' → H' c = some (.tup (pq (sF (U.map fun z => x.p z * v z)))) → Q (.ref c) H') : spLSum K [.ref d, .ref e] H Q E := by
  obtain ⟨S, S0, SB, u⟩ := hC.unit
  have S6 : S < 2 ^ 60 := Nat.lt_of_lt_of_le SB (Nat.pow_le_pow_right (by decide) hB)
  obtain ⟨nN, _, _, _, _⟩ := hC.chd
  obtain ⟨o, f, e1, e2⟩ := hS
  refine ⟨rfl, d, e, o, x.N, M, f, g, x.p, v, S, rfl, e1, e2, he, hg, hNM, hl, S0, S6, fun z _ => gs_unit (u z).1 (u z).2.1 (u z).2.2, fun z _ => hv z, fun c H' hc s h => k c H' hc s ?_⟩
  rw [← sup_eq nN hU hNU fun z hz => by rw [hC.out hz]; grind]
  exact h
theorem seen_iff {CC a b : Addr} {H : Hp} {B B' : Nat} {N M : List Str} {p q : Str → Rat} (c1 : IsC CC H a B N p) (c2 : IsC CC H b B' M q) (hN : N.Nodup) (hM : M.Nodup) : (∀ z, p z = q z) ↔ N.length = M.length ∧ ∀ z ∈ N, z ∈ M ∧ p z = q z := by
  constructor
  · intro h
    have e : ∀ z, z ∈ N ↔ z ∈ M := fun z => by rw [c1.mem, c2.mem, h z]
    exact ⟨((List.perm_ext_iff_of_nodup hN hM).mpr e).length_eq, fun z hz => ⟨(e z).mp hz, h z⟩⟩
  · rintro ⟨hl, h⟩ z
    by_cases hz : z ∈ N
    · exact (h z hz).2
    · have hz2 : z ∉ M := fun k => by
        have sub : ∀ y ∈ z :: N, y ∈ M := fun y hy => (List.mem_cons.mp hy).elim (fun e => by rw [e]; exact k) fun hy => (h y hy).1
        have := List.Nodup.length_le_of_subset (List.nodup_cons.mpr ⟨hz, hN⟩) sub
        rw [List.length_cons] at this
        omega
      obtain ⟨_, _, _, _, _, _, _, _, e1⟩ := c1
      obtain ⟨_, _, _, _, _, _, _, _, e2⟩ := c2
      rw [e1 z, e2 z, if_neg hz, if_neg hz2]
theorem two_of {α : Type} {l : List α} (h : l.length = 2) : ∃ a b, l = [a, b] := by
  match l, h with
  | [a, b], _ => exact ⟨a, b, rfl⟩
theorem pair_two {α β : Type} {F : α → β → Prop} {a b : α} {x y : β} (h : Paired F [a, b] [x, y]) : F a x ∧ F b y := by
  cases h with
  | cons h1 h => cases h with
    | cons h2 _ => exact ⟨h1, h2⟩
theorem part_ok : ∀ n : Nat, n < 11 → (0 : Rat) ≤ (((n : Int) : Rat) / ((10 : Int) : Rat)) ∧ (((n : Int) : Rat) / ((10 : Int) : Rat)) ≤ 1 ∧ (((n : Int) : Rat) / ((10 : Int) : Rat)).num.natAbs ≤ 10 ∧ (((n : Int) : Rat) / ((10 : Int) : Rat)).den ≤ 10 := by decide +kernel
theorem pq_neg (q : Rat) : pq (-q) = [.int (-q.num), .int (q.den : Int)] := by unfold pq; rw [Rat.neg_num, Rat.neg_den]
def spLaw (K : PySem.W.Frag) : Sp := fun vs H Q _ => vs.length = 1 ∧ ∃ (a : Addr) (ns : List Int), vs = [.ref a] ∧ SqL K H a (ns.map V.int) ∧ ∀ H', Q (.bl true) H'
abbrev s_law : Stmt := top 46
theorem sc_law : FnScope ["_law_script", "_law_pool_here", "_law_names_here", "_law_weights_here", "_law_k", "_law_chances", "_law_row", "_law_shares_here", "_law_part", "_law_share", "_law_rest", "_law_wide", "_law_sent", "_law_name", "_law_values", "_law_given", "_law_pulled", "_law_one", "_law_other", "_law_first", "_law_second", "_law_both", "_law_sums", "_law_due", "_law_ends", "_law_two", "_law_chance"] ["_law_script"] (defScope s_law) := ⟨rfl, rfl, rfl, by decide +kernel, rfl, by decide +kernel, by decide +kernel⟩
theorem ok_law {P : Program} {w : World} {K : PySem.W.Frag} {mg : Str → Option Value} {base : Heap} {CB CC CN CR CU CX : Addr} {f : Addr} {fd : FuncData} (F : L2.Fun K "law" "law" s_law f fd)
    (C_b_dict : mg "dict" = none)
    (C_b_range : mg "range" = none)
    (C_c_Chance : ClO K CC)
    (C_f_law_add : Cal P w K mg base "_law_add" 2 spQAdd)
    (C_f_law_back : Cal P w K mg base "_law_back" 15 (spBack K CC))
    (C_f_law_cell : Cal P w K mg base "_law_cell" 1 (spCell K))
    (C_f_law_frac : Cal P w K mg base "_law_frac" 1 spFrac)
    (C_f_law_mul : Cal P w K mg base "_law_mul" 2 spQMul)
    (C_f_law_names : Cal P w K mg base "_law_names" 3 (spNames K))
    (C_f_law_of : Cal P w K mg base "_law_of" 1 (spOf CR))
    (C_f_law_pool : Cal P w K mg base "_law_pool" 1 spPoolN)
    (C_f_law_ratio : Cal P w K mg base "_law_ratio" 10 (spRat CR))
    (C_f_law_seen : Cal P w K mg base "_law_seen" 11 (spSeen K CR CC))
    (C_f_law_shares : Cal P w K mg base "_law_shares" 2 (spShs K))
    (C_f_law_shuffled : Cal P w K mg base "_law_shuffled" 2 (spShuf K))
    (C_f_law_sum : Cal P w K mg base "_law_sum" 3 (spLSum K))
    (C_f_law_take : Cal P w K mg base "_law_take" 1 spTakeN)
    (C_f_law_weights : Cal P w K mg base "_law_weights" 3 (spWts K))
    (C_gRatio : mg "Ratio" = some (.ref CR))
    (C_i_Chance : CalI P w K mg base "Chance" CC 11 (spCInitG K CR CC CB CN CX))
    (C_k_Ratio_whole : CalK P w K mg base CR "whole" 10 (spRWhole CR))
    (C_m_Chance_average : CalM P w K mg base CC "average" 12 (spAvg K CR CC CU))
    (C_m_Chance_mixed : CalM P w K mg base CC "mixed" 14 (spMixed K CR CC CB))
    (C_m_Chance_sent : CalM P w K mg base CC "sent" 13 (spSent K CC CU CN))
    (C_ne_Ratio : NeC K CR)
    (C_o_Chance_eq : CalO P w K mg base CC "__eq__" 1 (spCEq K CC))
    (C_o_Ratio_eq : CalO P w K mg base CR "__eq__" 1 (spREq K CR)) :
    FnOk P w K mg base (L2.CX P w) 16 f fd ["_law_script"] (spLaw K) := by
  refine fnOk_mk F sc_law (fun vs H Q E h => h.1) (fun cdv A outer s H vs Q E hr h => ?_)
  obtain ⟨_, a, ns, rfl, ha, k⟩ := h
  refine ⟨_, pss_cons (ps_set (i := 1) sc_law.nd rfl (Or.inr rfl) (z_callC C_f_law_pool hr passN (pa_cons (z_callC C_f_law_cell hr passN (pa_cons (pv 0) (pa_cons pe_int pa_nil))) pa_nil)))
    (pss_cons (ps_set (i := 2) sc_law.nd rfl (Or.inr rfl) (z_callC C_f_law_names hr passN (pa_cons (pv 1) (pa_cons pe_int pa_nil))))
    (pss_cons (ps_setLc (i := 3) (own := [("_law_k", 4)]) (by rfl) sc_law.nd rfl rfl (sw_true rfl rfl rfl (by decide +kernel)) (pi_range1 (by rfl) C_b_range (pa_cons pe_int pa_nil)) (blkOk_by (N := ["_law_script", "_law_pool_here", "_law_names_here", "_law_weights_here", "_law_k", "_law_chances", "_law_row", "_law_shares_here", "_law_part", "_law_share", "_law_rest", "_law_wide", "_law_sent", "_law_name", "_law_values", "_law_given", "_law_pulled", "_law_one", "_law_other", "_law_first", "_law_second", "_law_both", "_law_sums", "_law_due", "_law_ends", "_law_two", "_law_chance"]) (sc := defScope s_law) (by decide +kernel)) (fun _ _ _ _ _ => pg_name (i := 4) sc_law.nd rfl (Or.inl rfl)) (fun _ _ _ _ _ => pts_nil) (fun _ _ _ _ _ => z_callC C_f_law_weights hr passN (pa_cons (pv 1) (pa_cons (pe_slice (k_slL (K := K) rfl) (pv 2) po_none (po_some (pe_op op_add pe_int (z_callC C_f_law_take hr passN (pa_cons (pv 1) (pa_cons pe_int pa_nil)))))) pa_nil))))
    (pss_cons (ps_setLc (i := 5) (own := [("_law_row", 6)]) (by rfl) sc_law.nd rfl rfl (sw_true rfl rfl rfl (by decide +kernel)) (pi_any (K := K) rfl (pv 3)) (blkOk_by (N := ["_law_script", "_law_pool_here", "_law_names_here", "_law_weights_here", "_law_k", "_law_chances", "_law_row", "_law_shares_here", "_law_part", "_law_share", "_law_rest", "_law_wide", "_law_sent", "_law_name", "_law_values", "_law_given", "_law_pulled", "_law_one", "_law_other", "_law_first", "_law_second", "_law_both", "_law_sums", "_law_due", "_law_ends", "_law_two", "_law_chance"]) (sc := defScope s_law) (by decide +kernel)) (fun _ _ _ _ _ => pg_name (i := 6) sc_law.nd rfl (Or.inl rfl)) (fun _ _ _ _ _ => pts_nil) (fun _ _ _ _ _ => z_makeC C_i_Chance hr passN (pa_cons (pv 6) pa_nil)))
    (pss_cons (ps_setLc (i := 7) (own := [("_law_row", 6)]) (by rfl) sc_law.nd rfl rfl (sw_true rfl rfl rfl (by decide +kernel)) (pi_any (K := K) rfl (pv 3)) (blkOk_by (N := ["_law_script", "_law_pool_here", "_law_names_here", "_law_weights_here", "_law_k", "_law_chances", "_law_row", "_law_shares_here", "_law_part", "_law_share", "_law_rest", "_law_wide", "_law_sent", "_law_name", "_law_values", "_law_given", "_law_pulled", "_law_one", "_law_other", "_law_first", "_law_second", "_law_both", "_law_sums", "_law_due", "_law_ends", "_law_two", "_law_chance"]) (sc := defScope s_law) (by decide +kernel)) (fun _ _ _ _ _ => pg_name (i := 6) sc_law.nd rfl (Or.inl rfl)) (fun _ _ _ _ _ => pts_nil) (fun _ _ _ _ _ => z_callC C_f_law_shares hr passN (pa_cons (pv 6) pa_nil)))
    (pss_cons (ps_set (i := 8) sc_law.nd rfl (Or.inl rfl) (z_callC C_f_law_frac hr passN (pa_cons (z_callC C_f_law_take hr passN (pa_cons (pv 1) (pa_cons pe_int pa_nil))) (pa_cons pe_int pa_nil))))
    (pss_cons (ps_set (i := 9) sc_law.nd rfl (Or.inl rfl) (z_callC C_f_law_ratio hr passN (pa_cons (pv 8) pa_nil)))
    (pss_cons (ps_set (i := 10) sc_law.nd rfl (Or.inl rfl) (z_callC C_f_law_add hr passN (pa_cons (pe_tup (pa_cons pe_int (pa_cons pe_int pa_nil))) (pa_cons (pe_tup (pa_cons (pe_un un_neg (pe_ix ix_tup (pv 8) pe_int (fun _ _ => rfl))) (pa_cons (pe_ix ix_tup (pv 8) pe_int (fun _ _ => rfl)) pa_nil))) pa_nil))))
    (pss_cons (ps_set (i := 11) sc_law.nd rfl (Or.inr rfl) (pe_op op_cat (pv 2) (pe_lst (pa_cons pe_str pa_nil))))
    (pss_cons (ps_set (i := 12) sc_law.nd rfl (Or.inr rfl) (pe_callTy (k_dictP (K := K) rfl rfl) (by rfl) C_b_dict (by decide +kernel) (pa_cons (pe_lc (own := [("_law_name", 13)]) (by rfl) sc_law.nd (pi_any (K := K) rfl (z_callC C_f_law_shuffled hr passN (pa_cons (pv 1) (pa_cons (pv 2) pa_nil)))) (blkOk_by (N := ["_law_script", "_law_pool_here", "_law_names_here", "_law_weights_here", "_law_k", "_law_chances", "_law_row", "_law_shares_here", "_law_part", "_law_share", "_law_rest", "_law_wide", "_law_sent", "_law_name", "_law_values", "_law_given", "_law_pulled", "_law_one", "_law_other", "_law_first", "_law_second", "_law_both", "_law_sums", "_law_due", "_law_ends", "_law_two", "_law_chance"]) (sc := defScope s_law) (by decide +kernel)) (fun _ _ _ _ _ => pg_name (i := 13) sc_law.nd rfl (Or.inl rfl)) (fun _ _ _ _ _ => pts_nil) (fun _ _ _ _ _ => pe_tup (pa_cons (pv 13) (pa_cons (pe_ix (k_ixL (K := K) rfl) (pv 11) (z_callC C_f_law_take hr passN (pa_cons (pv 1) (pa_cons pe_int pa_nil))) (fun _ _ => rfl)) pa_nil)))) pa_nil)))
    (pss_cons (ps_set (i := 14) sc_law.nd rfl (Or.inr rfl) (pe_callTy (k_dictP (K := K) rfl rfl) (by rfl) C_b_dict (by decide +kernel) (pa_cons (pe_lc (own := [("_law_name", 13)]) (by rfl) sc_law.nd (pi_any (K := K) rfl (pv 11)) (blkOk_by (N := ["_law_script", "_law_pool_here", "_law_names_here", "_law_weights_here", "_law_k", "_law_chances", "_law_row", "_law_shares_here", "_law_part", "_law_share", "_law_rest", "_law_wide", "_law_sent", "_law_name", "_law_values", "_law_given", "_law_pulled", "_law_one", "_law_other", "_law_first", "_law_second", "_law_both", "_law_sums", "_law_due", "_law_ends", "_law_two", "_law_chance"]) (sc := defScope s_law) (by decide +kernel)) (fun _ _ _ _ _ => pg_name (i := 13) sc_law.nd rfl (Or.inl rfl)) (fun _ _ _ _ _ => pts_nil) (fun _ _ _ _ _ => pe_tup (pa_cons (pv 13) (pa_cons (z_callC C_f_law_frac hr passN (pa_cons (pe_op op_sub (z_callC C_f_law_take hr passN (pa_cons (pv 1) (pa_cons pe_int pa_nil))) pe_int) (pa_cons (pe_op op_add pe_int (z_callC C_f_law_take hr passN (pa_cons (pv 1) (pa_cons pe_int pa_nil)))) pa_nil))) pa_nil)))) pa_nil)))
    (pss_cons (ps_frz (ps_set (i := 15) sc_law.nd rfl (Or.inl rfl) (pe_callTy (k_dictP (K := K) rfl rfl) (by rfl) C_b_dict (by decide +kernel) (pa_cons (pe_lc (own := [("_law_name", 13)]) (by rfl) sc_law.nd (pi_keys (pv 14)) (blkOk_by (N := ["_law_script", "_law_pool_here", "_law_names_here", "_law_weights_here", "_law_k", "_law_chances", "_law_row", "_law_shares_here", "_law_part", "_law_share", "_law_rest", "_law_wide", "_law_sent", "_law_name", "_law_values", "_law_given", "_law_pulled", "_law_one", "_law_other", "_law_first", "_law_second", "_law_both", "_law_sums", "_law_due", "_law_ends", "_law_two", "_law_chance"]) (sc := defScope s_law) (by decide +kernel)) (fun _ _ _ _ _ => pg_name (i := 13) sc_law.nd rfl (Or.inl rfl)) (fun _ _ _ _ _ => pts_nil) (fun _ _ _ _ _ => pe_tup (pa_cons (pv 13) (pa_cons (z_callC C_f_law_ratio hr passN (pa_cons (pe_dget (hu_of hr) (pv 14) (pv 13) (fun _ _ => rfl)) pa_nil)) pa_nil)))) pa_nil))))
    (pss_cons (ps_set (i := 16) sc_law.nd rfl (Or.inl rfl) (pe_callTy (k_dictP (K := K) rfl rfl) (by rfl) C_b_dict (by decide +kernel) (pa_cons (pe_lc (own := [("_law_name", 13)]) (by rfl) sc_law.nd (pi_any (K := K) rfl (pv 2)) (blkOk_by (N := ["_law_script", "_law_pool_here", "_law_names_here", "_law_weights_here", "_law_k", "_law_chances", "_law_row", "_law_shares_here", "_law_part", "_law_share", "_law_rest", "_law_wide", "_law_sent", "_law_name", "_law_values", "_law_given", "_law_pulled", "_law_one", "_law_other", "_law_first", "_law_second", "_law_both", "_law_sums", "_law_due", "_law_ends", "_law_two", "_law_chance"]) (sc := defScope s_law) (by decide +kernel)) (fun _ _ _ _ _ => pg_name (i := 13) sc_law.nd rfl (Or.inl rfl)) (fun _ _ _ _ _ => pts_nil) (fun _ _ _ _ _ => pe_tup (pa_cons (pv 13) (pa_cons (z_callC C_f_law_ratio hr passN (pa_cons (pe_dget (hu_of hr) (pv 14) (pe_dget (hu_of hr) (pv 12) (pv 13) (fun _ _ => rfl)) (fun _ _ => rfl)) pa_nil)) pa_nil)))) pa_nil)))
    (pss_cons (ps_for (passes_of rfl) rfl (pi_any (K := K) rfl (pe_lst (pa_cons (pe_tup (pa_cons pe_int (pa_cons pe_int (pa_cons pe_int (pa_cons pe_int pa_nil))))) (pa_cons (pe_tup (pa_cons pe_int (pa_cons pe_int (pa_cons pe_int (pa_cons pe_int pa_nil))))) (pa_cons (pe_tup (pa_cons pe_int (pa_cons pe_int (pa_cons pe_int (pa_cons pe_int pa_nil))))) pa_nil))))) (k_tup (K := K) (n := 4) rfl rfl (pgs_cons (pg_name (i := 17) sc_law.nd rfl (Or.inl rfl)) (pgs_cons (pg_name (i := 18) sc_law.nd rfl (Or.inl rfl)) (pgs_cons (pg_name (i := 19) sc_law.nd rfl (Or.inl rfl)) (pgs_cons (pg_name (i := 20) sc_law.nd rfl (Or.inl rfl)) pgs_nil))))) (pss_cons (ps_set (i := 21) sc_law.nd rfl (Or.inl rfl) (z_methC (pe_ix ix_list (pv 5) (pv 17) (fun _ _ => rfl)) C_c_Chance.toCls C_m_Chance_mixed hr passN (pa_cons (pe_ix ix_list (pv 5) (pv 18) (fun _ _ => rfl)) (pa_cons (pv 9) pa_nil))))
    (pss_cons (ps_set (i := 22) sc_law.nd rfl (Or.inl rfl) (pe_lst (pa_cons (z_callC C_f_law_sum hr passN (pa_cons (pe_ix ix_list (pv 7) (pv 19) (fun _ _ => rfl)) (pa_cons (pv 14) pa_nil))) (pa_cons (z_callC C_f_law_sum hr passN (pa_cons (pe_ix ix_list (pv 7) (pv 20) (fun _ _ => rfl)) (pa_cons (pv 14) pa_nil))) pa_nil))))
    (pss_cons (ps_set (i := 23) sc_law.nd rfl (Or.inl rfl) (z_callC C_f_law_add hr passN (pa_cons (z_callC C_f_law_mul hr passN (pa_cons (pv 10) (pa_cons (pe_ix ix_list (pv 22) pe_int (fun _ _ => rfl)) pa_nil))) (pa_cons (z_callC C_f_law_mul hr passN (pa_cons (pv 8) (pa_cons (pe_ix ix_list (pv 22) pe_int (fun _ _ => rfl)) pa_nil))) pa_nil))))
    (pss_cons (ps_if (PW.pt (pw_or (pt_cmpR (k_neD (K := K) rfl hr.units) (z_callC C_f_law_of hr passN (pa_cons (z_methC (pv 21) C_c_Chance.toCls C_m_Chance_average hr passN (pa_cons (pv 15) pa_nil)) pa_nil)) (pv 23) (nomark _)) (pw_or1 (pt_cmpR (k_neD (K := K) rfl hr.units) (z_callC C_f_law_of hr passN (pa_cons (z_methC (pe_ix ix_list (pv 5) (pv 17) (fun _ _ => rfl)) C_c_Chance.toCls C_m_Chance_average hr passN (pa_cons (pv 15) pa_nil)) pa_nil)) (pe_ix ix_list (pv 22) pe_int (fun _ _ => rfl)) (nomark _))))) (pss_one (ps_ret pe_bl)) (pss_nil))
    (pss_cons (ps_set (i := 24) sc_law.nd rfl (Or.inl rfl) (pe_lst (pa_cons (z_methC (pe_ix ix_list (pv 5) (pv 17) (fun _ _ => rfl)) C_c_Chance.toCls C_m_Chance_sent hr passN (pa_cons (pv 12) pa_nil)) (pa_cons (z_methC (pe_ix ix_list (pv 5) (pv 18) (fun _ _ => rfl)) C_c_Chance.toCls C_m_Chance_sent hr passN (pa_cons (pv 12) pa_nil)) pa_nil))))
    (pss_cons (ps_if (pt_not (pt_cmpR (z_eqO C_o_Chance_eq hr) (z_methC (pv 21) C_c_Chance.toCls C_m_Chance_sent hr passN (pa_cons (pv 12) pa_nil)) (z_methC (pe_ix ix_list (pv 24) pe_int (fun _ _ => rfl)) C_c_Chance.toCls C_m_Chance_mixed hr passN (pa_cons (pe_ix ix_list (pv 24) pe_int (fun _ _ => rfl)) (pa_cons (pv 9) pa_nil))) (nomark _))) (pss_one (ps_ret pe_bl)) (pss_nil))
    (pss_one (ps_if (PW.pt (pw_or (pt_cmpR (z_neO C_o_Ratio_eq C_ne_Ratio hr) (z_methC (z_methC (pv 21) C_c_Chance.toCls C_m_Chance_sent hr passN (pa_cons (pv 12) pa_nil)) C_c_Chance.toCls C_m_Chance_average hr passN (pa_cons (pv 15) pa_nil)) (z_methC (pv 21) C_c_Chance.toCls C_m_Chance_average hr passN (pa_cons (pv 16) pa_nil)) (nomark _)) (pw_or1 (pt_not (pt_val (z_callC C_f_law_back hr passN (pa_cons (pv 1) (pa_cons (pv 2) (pa_cons (pv 21) pa_nil))))))))) (pss_one (ps_ret pe_bl)) (pss_nil))))))))))
    (pss_cons (ps_asg (pv 5) (k_lst (K := K) (n := 2) rfl rfl (pgs_cons (pg_name (i := 17) sc_law.nd rfl (Or.inl rfl)) (pgs_cons (pg_name (i := 25) sc_law.nd rfl (Or.inl rfl)) pgs_nil))))
    (pss_cons (ps_if (PW.pt (pw_or (pt_not (pt_cmpR (z_eqO C_o_Chance_eq hr) (z_methC (pv 17) C_c_Chance.toCls C_m_Chance_mixed hr passN (pa_cons (pv 25) (pa_cons (z_cmethC (pe_glob (v := .ref CR) rfl C_gRatio rfl) C_k_Ratio_whole hr passN (pa_cons pe_int pa_nil)) pa_nil))) (pv 17) (nomark _))) (pw_or1 (pt_not (pt_cmpR (z_eqO C_o_Chance_eq hr) (z_methC (pv 17) C_c_Chance.toCls C_m_Chance_mixed hr passN (pa_cons (pv 25) (pa_cons (z_cmethC (pe_glob (v := .ref CR) rfl C_gRatio rfl) C_k_Ratio_whole hr passN (pa_cons pe_int pa_nil)) pa_nil))) (pv 25) (nomark _)))))) (pss_one (ps_ret pe_bl)) (pss_nil))
    (pss_cons (ps_if (PW.pt (pw_or (pt_not (pt_cmpR (z_eqO C_o_Chance_eq hr) (z_methC (pv 17) C_c_Chance.toCls C_m_Chance_mixed hr passN (pa_cons (pv 17) (pa_cons (pv 9) pa_nil))) (pv 17) (nomark _))) (pw_or1 (pt_cmpR op_ne (pe_cmpR (z_eqO C_o_Chance_eq hr) (pv 17) (pv 25) (nomark _)) (pe_cmpR (k_eqDG (K := K) rfl (u66 hr)) (pe_ix ix_list (pv 7) pe_int (fun _ _ => rfl)) (pe_ix ix_list (pv 7) pe_int (fun _ _ => rfl)) (nomark _)) (nomark _))))) (pss_one (ps_ret pe_bl)) (pss_nil))
    (pss_one (ps_ret (pe_and (pe_cmpR (k_eqW (K := K) rfl (u66 hr)) (pe_lc (own := [("_law_chance", 26)]) (by rfl) sc_law.nd (pi_any (K := K) rfl (pv 5)) (blkOk_by (N := ["_law_script", "_law_pool_here", "_law_names_here", "_law_weights_here", "_law_k", "_law_chances", "_law_row", "_law_shares_here", "_law_part", "_law_share", "_law_rest", "_law_wide", "_law_sent", "_law_name", "_law_values", "_law_given", "_law_pulled", "_law_one", "_law_other", "_law_first", "_law_second", "_law_both", "_law_sums", "_law_due", "_law_ends", "_law_two", "_law_chance"]) (sc := defScope s_law) (by decide +kernel)) (fun _ _ _ _ _ => pg_name (i := 26) sc_law.nd rfl (Or.inl rfl)) (fun _ _ _ _ _ => pts_nil) (fun _ _ _ _ _ => z_callC C_f_law_seen hr passN (pa_cons (pv 26) pa_nil))) (pv 7) (nomark _)) (pe_one (z_callC C_f_law_back hr passN (pa_cons (pv 1) (pa_cons (pv 2) (pa_cons (pv 17) pa_nil)))))))))))))))))))))))), ?_⟩
  try dsimp only [cxOf]
  walk_at "rd"
  refine i_cell ha fun c0 => ?_
  walk_at "rd"
  refine ⟨rfl, c0, rfl, fun p H1 hp s1 o1 pl1 => ?_⟩
  walk_at "rd"
  refine ⟨rfl, p, 6, 0, rfl, pl1, by decide, by decide, fun ln H2 zs hln b2 pl2 e2 zl znd zm => ?_⟩
  walk_at "rd"
  have lnp : ln ≠ p := pl2.ne e2 fun x y z e => by
    injection e with e
    cases zs with
    | nil => cases zl
    | cons a as => rw [List.map_cons] at e; cases e
  refine i_lcR1 (n := 2) rfl (by decide) (fun i ys H' => But p H2 H' ∧ PoolN H' p (9 + 27 * i) ∧ ∃ L : List WR, ys = L.map (fun x => V.ref x.d) ∧ L.length = i ∧ ∀ x ∈ L, x.Ok zs H') (fun D H' hD s e ho => ⟨.of s, pl2.mono s (by omega), [], rfl, rfl, fun x hx => by cases hx⟩) ?_ ?_
  · rintro i D ys H3 hD hi eD ⟨b3, pl3, L, rfl, hL, hok⟩
    walk_at "rd"
    refine ⟨by with_unfolding_all rfl, ?_⟩
    walk_at "rd"
    refine i_takeN pl3 (by omega) (by decide) (by decide) fun r H4 r0 r1 o4 pl4 => ?_
    obtain ⟨n1, rfl⟩ : ∃ n : Nat, r = (n : Int) := ⟨r.toNat, by omega⟩
    walk_at "rd"
    rw [show (1 + ((n1 : Nat) : Int)) = ((1 + n1 : Nat) : Int) by omega]
    have b34 : But p H3 H4 := .of' o4
    have e4 := b34 _ _ lnp (b3 _ _ lnp e2)
    refine i_slL (.of e4) (cut_to _ _) fun l1 H5 hl1 s5 el1 o5 => ?_
    rw [← List.map_take] at el1
    walk_at "rd"
    have pl5 := pl4.mono s5 (Nat.le_refl _)
    refine ⟨rfl, p, l1, 9 + 27 * i + 1, zs.take (1 + n1), rfl, pl5, el1, by rw [List.length_take]; omega, by rw [List.length_take]; omega, znd.sublist (List.take_sublist _ _), by omega, fun d o H6 ys w hd b6 pl6 e6 perm hw hpos => ?_⟩
    have Dp := pl2.nn hD
    have b36 : But p H3 H6 := b34.trans ((But.of s5).trans b6)
    have eD6 := b36 _ _ Dp eD
    refine i_lcE eD6 (by rw [List.length_map]; omega) fun H7 e7 o7 => ?_
    have b37 : But p H2 H7 := (b3.trans b36).up hD o7
    have keep : ∀ {b : Addr} {oo : Obj} {kvs : List (Key × V)}, H6 b = some (.frz oo (.dK kvs)) → H7 b = some (.frz oo (.dK kvs)) := fun {b oo kvs} e => by rw [o7 b (fun z => by rw [z, eD6] at e; cases e)]; exact e
    refine ⟨b37, PoolN.keep (H := H6) (pl6.mono (.refl _) (by omega)) (o7 p (Ne.symm Dp)), L ++ [⟨d, o, ys, w⟩], by rw [List.map_append]; rfl, by rw [List.length_append, hL]; rfl, fun x hx => ?_⟩
    rcases List.mem_append.mp hx with h | h
    · have h1 := (hok x h).but b36 pl3
      exact ⟨keep h1.at_, h1.nd, h1.sub, h1.len, h1.ok, h1.pos⟩
    · rw [List.mem_singleton.mp h]
      exact ⟨keep e6, perm.nodup_iff.mpr (znd.sublist (List.take_sublist _ _)), fun z hz => List.mem_of_mem_take (perm.mem_iff.mp hz), by show ys.length ≤ 6; rw [perm.length_eq, List.length_take]; omega, hw, hpos⟩
  rintro lw ys H3 hlw elw ⟨b3, pl3, L, rfl, hL, hok⟩
  walk_at "rd"
  refine i_lcA (H0 := H3) (fun i ys H' => Same H3 H' ∧ ∃ cs : List Addr, ys = cs.map V.ref ∧ cs.length = i ∧ Paired (fun c x => IsC CC H' c 26 (WR.N x) (WR.p x)) cs (L.take i)) (SqA.l elw) (.refl _) (fun D H' hD s e ho => ⟨s, [], rfl, rfl, .nil⟩) (fun i ys H' h => h.1) ?_ ?_
  · rintro i x D ys H4 hD hx eD ⟨s4, cs, rfl, hcs, hP⟩
    rw [List.getElem?_map] at hx
    obtain ⟨x, hx2, rfl⟩ := Option.map_eq_some_iff.mp hx
    clear hx
    have hx := hx2
    walk_at "rd"
    refine ⟨by with_unfolding_all rfl, ?_⟩
    walk_at "rd"
    have hi := (List.getElem?_eq_some_iff.mp hx).1
    refine i_newW ((hok x (List.mem_of_getElem? hx)).mono s4) zm fun c H5 hc s5 hC => ?_
    refine i_lcE (s5 _ _ eD) (by rw [List.length_map]; omega) fun H6 e6 o6 => ?_
    have keep : ∀ {c : Addr} {x : WR}, IsC CC H5 c 26 x.N x.p → IsC CC H6 c 26 x.N x.p := fun {c x} h => by
      obtain ⟨dx, d, o, w, S, g1, g2, g3, g4⟩ := h
      exact ⟨dx, d, o, w, S, by rw [o6 _ (fun z => by rw [z, s5 _ _ eD] at g1; cases g1)]; exact g1, by rw [o6 _ (fun z => by rw [z, s5 _ _ eD] at g2; cases g2)]; exact g2, g3, g4⟩
    refine ⟨fun b u e => by rw [o6 b (ne_of_none e hD)]; exact s5 _ _ (s4 _ _ e), cs ++ [c], by rw [List.map_append]; rfl, by rw [List.length_append, hcs]; rfl, ?_⟩
    rw [take_snoc hx]
    exact Paired.snoc (L2.Paired.mapP hP fun c x h => keep (h.mono s5)) (keep hC)
  rintro lc ys H4 hlc elc ⟨s4, cs, rfl, hcs, hP⟩
  rw [List.length_map, List.take_length] at hP
  walk_at "rd"
  refine i_lcA (H0 := H4) (fun i ys H' => Same H4 H' ∧ ∃ ss : List Addr, ys = ss.map V.ref ∧ ss.length = i ∧ Paired (fun c x => ShOk H' c x) ss (L.take i)) (SqA.l (s4 _ _ elw)) (.refl _) (fun D H' hD s e ho => ⟨s, [], rfl, rfl, .nil⟩) (fun i ys H' h => h.1) ?_ ?_
  · rintro i x D ys H5 hD hx eD ⟨s5, ss, rfl, hss, hP2⟩
    rw [List.getElem?_map] at hx
    obtain ⟨x, hx2, rfl⟩ := Option.map_eq_some_iff.mp hx
    clear hx
    have hx := hx2
    walk_at "rd"
    refine ⟨by with_unfolding_all rfl, ?_⟩
    walk_at "rd"
    have hi := (List.getElem?_eq_some_iff.mp hx).1
    have ok := (hok x (List.mem_of_getElem? hx)).mono (s4.trans s5)
    refine ⟨rfl, x.d, x.o, x.ys, x.w, rfl, ok.at_, ok.nd, by have := ok.len; omega, ok.ok, ok.pos, fun q o H6 f hq s6 e6 hf => ?_⟩
    refine i_lcE (s6 _ _ eD) (by rw [List.length_map]; omega) fun H7 e7 o7 => ?_
    have eD6 := s6 _ _ eD
    have keep : ∀ {c : Addr} {x : WR}, ShOk H6 c x → ShOk H7 c x := fun {c x} h => by
      obtain ⟨o, f, g1, g2⟩ := h
      exact ⟨o, f, by rw [o7 _ (fun z => by rw [z, eD6] at g1; cases g1)]; exact g1, g2.monoT (tups_at o7 eD6 fun _ z => by cases z)⟩
    refine ⟨fun b u e => by rw [o7 b (ne_of_none e hD)]; exact s6 _ _ (s5 _ _ e), ss ++ [q], by rw [List.map_append]; rfl, by rw [List.length_append, hss]; rfl, ?_⟩
    rw [take_snoc hx]
    refine Paired.snoc (L2.Paired.mapP hP2 fun c x h => keep (h.mono s6)) (keep ⟨o, f, e6, hf.congr fun z hz => ?_⟩)
    exact if_pos (mem_posN.mp hz).1
  rintro ls ys H5 hls els ⟨s5, ss, rfl, hss, hP2⟩
  rw [List.length_map, List.take_length] at hP2
  rw [List.length_map, hL] at hcs hss
  walk_at "rd"
  obtain ⟨x0, x1, rfl⟩ := two_of hL
  obtain ⟨c0', c1', rfl⟩ := two_of hcs
  obtain ⟨sh0, sh1, rfl⟩ := two_of hss
  have hX0 : x0.Ok zs H5 := (hok x0 List.mem_cons_self).mono (s4.trans s5)
  have hX1 : x1.Ok zs H5 := (hok x1 (List.mem_cons_of_mem _ List.mem_cons_self)).mono (s4.trans s5)
  have hCS := And.intro (pair_two (L2.Paired.mapP hP fun c x h => h.mono s5)) (pair_two hP2)
  obtain ⟨⟨hC0, hC1⟩, hS0, hS1⟩ := hCS
  have pl5 : PoolN H5 p 63 := pl3.mono (s4.trans s5) (by decide)
  have eln5 := s5 _ _ (s4 _ _ (b3 _ _ lnp e2))
  have elc5 := s5 _ _ elc
  clear hP hP2 hok hL hcs hss s5 s4 elc elw b3 pl3 o1 s1
  refine i_takeN pl5 (by decide) (by decide) (by decide) fun r H6 r0 r1 o6 pl6 => ?_
  obtain ⟨n3, rfl⟩ : ∃ n : Nat, r = (n : Int) := ⟨r.toNat, by omega⟩
  walk_at "rd"
  have hn3 : n3 < 11 := by omega
  refine i_frac (by decide) (show ((n3 : Nat) : Int).natAbs < 2 ^ 4000 from Nat.lt_of_le_of_lt (show ((n3 : Nat) : Int).natAbs ≤ 11 by omega) (by decide +kernel)) (show (10 : Int).natAbs < 2 ^ 4000 by decide +kernel) fun tp H7 htp s7 e7 o7 => ?_
  obtain ⟨q0, q1, qn, qd⟩ := part_ok n3 hn3
  generalize ((n3 : Int) : Rat) / ((10 : Int) : Rat) = q at *
  walk_at "rd"
  have qB : ZR.Bd 100 q := ⟨Nat.lt_of_le_of_lt qn (by decide +kernel), Nat.lt_of_le_of_lt qd (by decide +kernel)⟩
  refine ⟨rfl, tp, q, rfl, e7, qB.mono (by decide), fun rq H8 hrq s8 hR8 => ?_⟩
  walk_at "rd"
  refine i_tup1 (Nat.le_of_ble_eq_true rfl) fun t9 H9 ht9 s9 e9 o9 => ?_
  walk_at "rd"
  have s79 := s8.trans s9
  refine i_p0 (.of (s79 _ _ e7)) ?_
  walk_at "rd"
  refine i_p1 (.of (s79 _ _ e7)) ?_
  walk_at "rd"
  refine i_tup1 (Nat.le_of_ble_eq_true rfl) fun t10 H10 ht10 s10 e10 o10 => ?_
  rw [← pq_neg] at e10
  walk_at "rd"
  refine ⟨rfl, t9, t10, 1, -q, rfl, s10 _ _ e9, e10, ⟨by decide +kernel, by decide +kernel⟩, qB.neg.mono (by decide), fun tr H11 htr s11 e11 o11 => ?_⟩
  have e11 : H11 tr = some (.tup (pq (1 - q))) := by
    rw [show (1 : Rat) - q = 1 + -q by grind]
    exact e11
  walk_at "rd"
  have s711 := (s79.trans s10).trans s11
  have b511 : But p H5 H11 := (But.of' o6).trans (.of (s7.trans s711))
  have pl11 := pl6.mono (s7.trans s711) (show 63 + 1 ≤ 64 by decide)
  have etp := s711 _ _ e7
  have hRq := hR8.mono ((s9.trans s10).trans s11)
  have eln11 := b511 _ _ lnp eln5
  have hX0' := hX0.but b511 pl5
  have hX1' := hX1.but b511 pl5
  have hC0' := pl5.isC b511 hC0
  have hC1' := pl5.isC b511 hC1
  have hS0' := hS0.but b511 pl5
  have hS1' := hS1.but b511 pl5
  have elc11 := b511 _ _ (pl5.ne elc5 fun x y z e => by injection e with e; cases e) elc5
  have els11 := b511 _ _ (pl5.ne els fun x y z e => by injection e with e; cases e) els
  clear hX0 hX1 hC0 hC1 hS0 hS1 elc5 els eln5 pl5 pl6 b511 o6 e7 s7 hR8 s8 s9 s10 s11 o7 o9 o10 o11 e9 e10 s79 s711 htp hrq ht9 ht10 htr
  refine i_lst1 (Nat.le_of_ble_eq_true rfl) fun l1 H12 hl1 s12 el1 o12 => ?_
  walk_at "rd"
  refine i_cat (s12 _ _ eln11) el1 (by rw [List.length_map, zl]; decide) fun lv H13 hlv s13 elv o13 => ?_
  walk_at "rd"
  have elv13 : H13 lv = some (.lst ((zs ++ (["n1"] : List Str)).map V.str)) := by rw [elv, List.map_append]; rfl
  have s1113 := s12.trans s13
  have pl13 := pl11.mono s1113 (Nat.le_refl _)
  have lvp : lv ≠ p := (pl11.mono s12 (Nat.le_refl _)).nn hlv
  have n1N : ("n1" : Str) ∉ NAMES := by decide +kernel
  have hWnd : (zs ++ (["n1"] : List Str)).Nodup := List.nodup_append.mpr ⟨znd, by simp, fun x hx y hy e => n1N (by rw [← List.mem_singleton.mp hy, ← e]; exact zm x hx)⟩
  have hWn : ∀ z ∈ zs ++ (["n1"] : List Str), nameB z = true := fun z hz => by
    rcases List.mem_append.mp hz with h | h
    · exact NAMES_ok z (zm z h)
    · rw [List.mem_singleton.mp h]; decide +kernel
  have hWl : (zs ++ (["n1"] : List Str)).length = 7 := by rw [List.length_append, zl]; rfl
  have hWz : ∀ z ∈ zs, z ∈ zs ++ (["n1"] : List Str) := fun z hz => List.mem_append_left _ hz
  generalize zs ++ (["n1"] : List Str) = WD at *
  refine ⟨rfl, p, ln, 64, zs, rfl, pl13, lnp, .l (s1113 _ _ eln11), by omega, by omega, fun q3 H14 ys hq3 b14 pl14 e14 perm => ?_⟩
  rw [zl] at pl14
  have ynd : ys.Nodup := perm.nodup_iff.mpr znd
  have yl : ys.length = 6 := by rw [perm.length_eq, zl]
  have qp : q3 ≠ p := pl14.ne e14 fun x y z e => by
    injection e with e
    cases ys with
    | nil => cases yl
    | cons a as => rw [List.map_cons] at e; cases e
  walk_at "rd"
  have elv14 := b14 _ _ lvp elv13
  refine i_lcA (H0 := oneH q3 (ys.map V.str)) (fun j ys' H' => But p H14 H' ∧ PoolN H' p (70 + j) ∧ ∃ (ps : List Addr) (g : Str → Str), ys' = ps.map V.ref ∧ ps.length = j ∧ PsT H' ps (dF (ys.take j) fun z => .str (g z)) ∧ ∀ z ∈ ys.take j, g z ∈ WD) one_seq (one_same e14)
    (fun D H' hD s e o => ⟨.of s, pl14.mono s (Nat.le_refl _), [], fun z => z, rfl, rfl, .nil, fun z hz => by cases hz⟩) (fun j ys' H' h => one_same (h.1 _ _ qp e14)) ?_ ?_
  · rintro j x D ys' H20 hD hx eD ⟨b20, pl20, ps, g, rfl, hps, hT, hg⟩
    obtain ⟨z, hz, rfl⟩ := strs_at hx
    have hj := (List.getElem?_eq_some_iff.mp hz).1
    have nz := nodup_take ynd hz
    walk_at "rd"
    refine ⟨by with_unfolding_all rfl, ?_⟩
    walk_at "rd"
    refine i_takeN pl20 (by omega) (by decide) (by decide) fun r H23 r0 r1 o23 pl23 => ?_
    obtain ⟨m, rfl⟩ : ∃ n : Nat, r = (n : Int) := ⟨r.toNat, by omega⟩
    have hm : m < WD.length := by omega
    have hin : WD[m] ∈ WD := List.getElem_mem hm
    refine i_ixL (k := m) (v := .str WD[m]) (.of (by rw [o23 lv lvp]; exact b20 _ _ lvp elv14)) (by rw [List.getElem?_map, List.getElem?_eq_getElem hm]; rfl) ?_
    generalize WD[m] = x at *
    walk_at "rd"
    refine i_tup1 (Nat.le_of_ble_eq_true rfl) fun c6 H24 hc6 s24 e24 o24 => ?_
    have Dp' : D ≠ p := pl14.nn hD
    have b2023 : But p H20 H23 := .of' o23
    have eD24 := s24 _ _ (b2023 _ _ Dp' eD)
    refine i_lcE eD24 (by rw [List.length_map]; omega) fun H25 e25 o25 => ?_
    have tt := tups_at o25 eD24 fun _ z => by cases z
    have t20 := pl20.tups b2023
    refine ⟨((b20.trans b2023).trans (.of s24)).up hD o25, PoolN.keep (H := H24) (pl23.mono s24 (by omega)) (o25 p (Ne.symm Dp')), ps ++ [c6], upF g z x, by rw [List.map_append]; rfl, by rw [List.length_append, hps]; rfl, ?_, fun y hy => ?_⟩
    · rw [take_snoc hz]
      have e := ((hT.mono fun b xs e => s24 _ _ (t20 _ _ e)).snoc nz e24).mono tt
      have ef : (fun y => V.str (upF g z x y)) = upF (fun y => V.str (g y)) z (.str x) := by funext y; unfold upF; split <;> rfl
      rw [ef]
      exact e
    · unfold upF
      split
      · exact hin
      · rename_i ne
        rw [take_snoc hz] at hy
        rcases List.mem_append.mp hy with h | h
        · exact hg y h
        · exact absurd (List.mem_singleton.mp h) ne
  rintro D ys' H20 hD eD ⟨b20, pl20, ps, g, rfl, hps, hT, hg⟩
  rw [List.length_map] at pl20 hT hg
  rw [List.take_length] at hT hg
  walk_at "rd"
  refine i_dictP eD hT ynd fun ds H21 hds s21 o21 e21 => ?_
  walk_at "rd"
  rw [yl] at pl20
  have b1121 : But p H11 H21 := (But.of s1113).trans (b14.trans (b20.trans (.of s21)))
  have pl21 : PoolN H21 p 76 := pl20.mono s21 (by decide)
  have elv21 := s21 _ _ (b20 _ _ lvp elv14)
  clear hps hT eD hD b20 pl20 o21 s21 e14 pl14 b14 elv14 elv13 elv s13 s12 o12 o13 hlv hl1 el1 qp s1113 pl13
  refine i_lcA (H0 := oneH lv (WD.map V.str)) (fun j ys' H' => But p H21 H' ∧ PoolN H' p (76 + 2 * j) ∧ ∃ (ps : List Addr) (f : Str → V) (v : Str → Rat), ys' = ps.map V.ref ∧ ps.length = j ∧ PsT H' ps (dF (WD.take j) f) ∧ PQd H' (WD.take j) f v ∧ ∀ z, Gs 60 1200 (v z)) one_seq (one_same elv21)
    (fun D H' hD s e o => ⟨.of s, pl21.mono s (Nat.le_refl _), [], fun _ => .non, fun _ => 0, rfl, rfl, .nil, .nil, fun _ => Gs.zero⟩) (fun j ys' H' h => one_same (h.1 _ _ lvp elv21)) ?_ ?_
  · rintro j x D ys' H4 hD hx eD ⟨b4, pl4, ps, f, v, rfl, hps, hT, hf, hv⟩
    obtain ⟨z, hz, rfl⟩ := strs_at hx
    have hj := (List.getElem?_eq_some_iff.mp hz).1
    have nz := nodup_take hWnd hz
    walk_at "rd"
    refine ⟨by with_unfolding_all rfl, ?_⟩
    walk_at "rd"
    refine i_takeN pl4 (by omega) (by decide) (by decide) fun r H5 r0 r1 o5 pl5 => ?_
    walk_at "rd"
    refine i_takeN pl5 (by omega) (by decide) (by decide) fun r2 H6 r20 r21 o6 pl6 => ?_
    obtain ⟨m, rfl⟩ : ∃ n : Nat, r2 = (n : Int) := ⟨r2.toNat, by omega⟩
    walk_at "rd"
    rw [show (1 + ((m : Nat) : Int)) = ((1 + m : Nat) : Int) by omega]
    have e22 : (22 : Nat) < 2 ^ 4000 := by decide +kernel
    refine i_frac (by omega) (show (r - 20).natAbs < 2 ^ 4000 from Nat.lt_of_le_of_lt (show (r - 20).natAbs ≤ 22 by omega) e22) (show ((1 + m : Nat) : Int).natAbs < 2 ^ 4000 from Nat.lt_of_le_of_lt (show ((1 + m : Nat) : Int).natAbs ≤ 22 by omega) e22) fun c H7 hc s7 e7 o7 => ?_
    have g7 := frac60 (a := r - 20) (m := m) (by omega) (by omega)
    generalize ((r - 20 : Int) : Rat) / (((1 + m : Nat) : Int) : Rat) = x at *
    walk_at "rd"
    refine i_tup1 (Nat.le_of_ble_eq_true rfl) fun c6 H8 hc6 s8 e8 o8 => ?_
    have Dp' : D ≠ p := pl21.nn hD
    have b46 : But p H4 H6 := (But.of' o5).trans (.of' o6)
    have eD8 := s8 _ _ (s7 _ _ (b46 _ _ Dp' eD))
    refine i_lcE eD8 (by rw [List.length_map]; omega) fun H9 e9 o9 => ?_
    have t89 : TupS H8 H9 := tups_at o9 eD8 fun _ z => by cases z
    have t46 := pl4.tups b46
    refine ⟨((b4.trans b46).trans (.of (s7.trans s8))).up hD o9, PoolN.keep (H := H8) (pl6.mono (s7.trans s8) (by omega)) (o9 p (Ne.symm Dp')), ps ++ [c6], upF f z (.ref c), upF v z x, by rw [List.map_append]; rfl, by rw [List.length_append, hps]; rfl, ?_, ?_, fun y => ?_⟩
    · rw [take_snoc hz]
      exact ((hT.mono fun b xs e => s8 _ _ (s7 _ _ (t46 _ _ e))).snoc nz e8).mono t89
    · rw [take_snoc hz]
      exact ((((hf.monoT t46).mono s7).up nz e7).mono s8).monoT t89
    · unfold upF
      split
      · exact g7
      · exact hv y
  rintro D ys' H22 hD eD ⟨b22, pl22, ps, f, v, rfl, hps, hT, hf, hv⟩
  rw [List.length_map] at pl22 hT hf
  rw [List.take_length] at hT hf
  walk_at "rd"
  refine i_dictP eD hT hWnd fun dv H23 hdv s23 o23 e23 => ?_
  walk_at "rd"
  rw [hWl] at pl22
  have pl23 : PoolN H23 p 90 := pl22.mono s23 (by decide)
  have b2123 : But p H21 H23 := b22.trans (.of s23)
  have b1123 := b1121.trans b2123
  have e2123 := b2123 _ _ (pl21.dk e21) e21
  have hf23 := hf.mono s23
  refine i_frz e23 trivial fun ov H24 e24 o24 => ?_
  have dvp := pl22.nn hdv
  have dvn : H21 dv = none := none_of b22 pl22 hdv
  have b1124 : But p H11 H24 := b1123.up (none_of b1121 pl21 dvn) o24
  have pl24 := PoolN.keep (H' := H24) pl23 (o24 p (Ne.symm dvp))
  have dsdv : ds ≠ dv := fun z => by rw [← z, e21] at dvn; cases dvn
  have e2124 : H24 ds = some (.dK (dF ys fun z => .str (g z))) := by rw [o24 ds dsdv]; exact e2123
  have hf24 : PQd H24 WD f v := hf23.monoT (tups_at o24 e23 fun _ z => by cases z)
  clear hf23 e2123 b2123 b1123 pl23 o24 e23 s23 o23 hdv pl22 b22 hps hT hf eD hD
  walk_at "rd"
  have vB : ∀ z, ZR.Bd 2000 (v z) := fun z => ((hv z).bd (n := 60) (by decide) (by decide +kernel) (by decide +kernel)).mono (by decide)
  refine i_lcK e24 (lcKeys (H0 := H24) (fun D j ys' H' => Same H24 H' ∧ H24 D = none ∧ ∃ (ps : List Addr) (h : Str → V), ys' = ps.map V.ref ∧ ps.length = j ∧ PsT H' ps (dF (WD.take j) h) ∧ RsD CR H' (WD.take j) h v) e24 (fun D H' hD s e ho => ⟨s, hD, [], fun _ => .non, rfl, rfl, .nil, fun z hz => by cases hz⟩) (fun D j ys' H' q => .of q.1) ?_ ?_)
  · rintro j z D ys' H9 hD hz eD ⟨s9, _, ps, h, rfl, hps, hT, hh⟩
    have hm := List.mem_of_getElem? hz
    have hj := (List.getElem?_eq_some_iff.mp hz).1
    have nz := nodup_take hWnd hz
    obtain ⟨c, u1, u2⟩ := hf24.mono s9 z hm
    walk_at "rd"
    refine ⟨by with_unfolding_all rfl, ?_⟩
    walk_at "rd"
    refine i_dgetR (.inr ⟨ov, s9 _ _ e24⟩) (valV_in hm) ?_
    rw [u1]
    walk_at "rd"
    refine ⟨rfl, c, v z, rfl, u2, vB z, fun r H10 hr10 s10 hR => ?_⟩
    walk_at "rd"
    refine i_tup1 (Nat.le_of_ble_eq_true rfl) fun c4 H11 hc4 s11 e11 o11 => ?_
    have eD11 := s11 _ _ (s10 _ _ eD)
    refine i_lcE eD11 (by rw [List.length_map]; omega) fun H12' e12 o12 => ?_
    have tt := tups_at o12 eD11 fun _ z => by cases z
    refine ⟨fun b u e => by rw [o12 b (ne_of_none e hD)]; exact s11 _ _ (s10 _ _ (s9 _ _ e)), hD, ps ++ [c4], upF h z (.ref r), by rw [List.map_append]; rfl, by rw [List.length_append, hps]; rfl, ?_, ?_⟩
    · rw [take_snoc hz]
      exact ((hT.mono fun b xs e => s11 _ _ (s10 _ _ e)).snoc nz e11).mono tt
    · rw [take_snoc hz]
      have := ((hh.mono s10).up nz hR).mono s11
      exact fun y hy => let ⟨r, w1, w2⟩ := this y hy; ⟨r, w1, isR_at o12 eD11 (fun _ _ _ z => by cases z) w2⟩
  rintro D ys' H25 hD eD ⟨s25, _, ps, h, rfl, hps, hT, hh⟩
  rw [List.take_length] at hT hh
  walk_at "rd"
  refine i_dictP eD hT hWnd fun dg H26 hdg s26 o26 e26 => ?_
  walk_at "rd"
  have s2426 := s25.trans s26
  have hG : RsD CR H26 WD h v := hh.mono s26
  have eln26 := s2426 _ _ (b1124 _ _ lnp eln11)
  clear hps hT hh eD hD s26 o26 hdg
  refine i_lcA (H0 := H26) (fun j ys' H' => Same H26 H' ∧ ∃ (ps : List Addr) (h : Str → V), ys' = ps.map V.ref ∧ ps.length = j ∧ PsT H' ps (dF (zs.take j) h) ∧ RsD CR H' (zs.take j) h (fun z => v (g z))) (SqA.l eln26) (.refl _) (fun D H' hD s e ho => ⟨s, [], fun _ => .non, rfl, rfl, .nil, fun z hz => by cases hz⟩) (fun j ys' H' q => q.1) ?_ ?_
  · rintro j x D ys' H9 hD hx eD ⟨s9, ps, h', rfl, hps, hT, hh⟩
    obtain ⟨z, hz, rfl⟩ := strs_at hx
    have hm := List.mem_of_getElem? hz
    have hmy := perm.mem_iff.mpr hm
    have hj := (List.getElem?_eq_some_iff.mp hz).1
    have nz := nodup_take znd hz
    have s249 := s2426.trans s9
    obtain ⟨c, u1, u2⟩ := hf24.mono s249 (g z) (hg z hmy)
    walk_at "rd"
    refine ⟨by with_unfolding_all rfl, ?_⟩
    walk_at "rd"
    refine i_dgetR (.inl (s249 _ _ e2124)) (valV_in hmy) ?_
    refine i_dgetR (.inr ⟨ov, s249 _ _ e24⟩) (valV_in (hg z hmy)) ?_
    rw [u1]
    walk_at "rd"
    refine ⟨rfl, c, v (g z), rfl, u2, vB _, fun r H10 hr10 s10 hR => ?_⟩
    walk_at "rd"
    refine i_tup1 (Nat.le_of_ble_eq_true rfl) fun c4 H11 hc4 s11 e11 o11 => ?_
    have eD11 := s11 _ _ (s10 _ _ eD)
    refine i_lcE eD11 (by rw [List.length_map]; omega) fun H12' e12 o12 => ?_
    have tt := tups_at o12 eD11 fun _ z => by cases z
    refine ⟨fun b u e => by rw [o12 b (ne_of_none e hD)]; exact s11 _ _ (s10 _ _ (s9 _ _ e)), ps ++ [c4], upF h' z (.ref r), by rw [List.map_append]; rfl, by rw [List.length_append, hps]; rfl, ?_, ?_⟩
    · rw [take_snoc hz]
      exact ((hT.mono fun b xs e => s11 _ _ (s10 _ _ e)).snoc nz e11).mono tt
    · rw [take_snoc hz]
      have := ((hh.mono s10).up (v := fun z => v (g z)) nz hR).mono s11
      exact fun y hy => let ⟨r, w1, w2⟩ := this y hy; ⟨r, w1, isR_at o12 eD11 (fun _ _ _ z => by cases z) w2⟩
  rintro D ys' H27 hD eD ⟨s27, ps, hu, rfl, hps, hT, hh⟩
  rw [List.length_map, List.take_length] at hT hh
  walk_at "rd"
  refine i_dictP eD hT znd fun du H28 hdu s28 o28 e28 => ?_
  walk_at "rd"
  have s2628 := s27.trans s28
  have hU := hh.mono s28
  have e26' := s2628 _ _ e26
  have hG' := hG.mono s2628
  clear hps hT hh eD hD s28 o28 hdu hG e26 s27 s25
  refine i_tup1 (Nat.le_of_ble_eq_true rfl) fun T0 H29 hT0 s29 eT0 o29 => ?_
  walk_at "rd"
  refine i_tup1 (Nat.le_of_ble_eq_true rfl) fun T1 H30 hT1 s30 eT1 o30 => ?_
  walk_at "rd"
  refine i_tup1 (Nat.le_of_ble_eq_true rfl) fun T2 H31 hT2 s31 eT2 o31 => ?_
  walk_at "rd"
  refine i_lst1 (Nat.le_of_ble_eq_true rfl) fun lT H32 hlT s32 elT o32 => ?_
  walk_at "rd"
  have s2832 := ((s29.trans s30).trans s31).trans s32
  have s2432 := (s2426.trans s2628).trans s2832
  have b1132 : But p H11 H32 := b1124.trans (.of s2432)
  have pl32 := pl24.mono s2432 (Nat.le_refl _)
  have eTs : H32 T0 = some (.tup [.int 0, .int 1, .int 0, .int 1]) ∧ H32 T1 = some (.tup [.int 1, .int 0, .int 1, .int 0]) ∧ H32 T2 = some (.tup [.int 0, .int 0, .int 0, .int 0]) := ⟨s32 _ _ (s31 _ _ (s30 _ _ eT0)), s32 _ _ (s31 _ _ eT1), s32 _ _ eT2⟩
  have pick : ∀ i : Nat, i < 2 → ∃ c s x, ([c0', c1'].map V.ref)[i]? = some (.ref c) ∧ ([sh0, sh1].map V.ref)[i]? = some (.ref s) ∧ IsC CC H32 c 26 (WR.N x) (WR.p x) ∧ ShOk H32 s x ∧ WR.Ok zs H32 x := fun i hi => by
    have : i = 0 ∨ i = 1 := by omega
    rcases this with rfl | rfl
    · exact ⟨c0', sh0, x0, rfl, rfl, pl11.isC b1132 hC0', hS0'.but b1132 pl11, hX0'.but b1132 pl11⟩
    · exact ⟨c1', sh1, x1, rfl, rfl, pl11.isC b1132 hC1', hS1'.but b1132 pl11, hX1'.but b1132 pl11⟩
  have lcp : lc ≠ p := pl11.ne elc11 fun x y z e => by injection e with e; cases e
  have lsp : ls ≠ p := pl11.ne els11 fun x y z e => by injection e with e; cases e
  have elc32 := b1132 _ _ lcp elc11
  have els32 := b1132 _ _ lsp els11
  have eln32 := b1132 _ _ lnp eln11
  have etp32 := b1132 _ _ (pl11.ne etp fun x y z e => by cases e) etp
  have etr32 := b1132 _ _ (pl11.ne e11 fun x y z e => by cases e) e11
  have hRq32 : IsR CR H32 rq q := by
    obtain ⟨dx, h⟩ := hRq
    exact ⟨dx, b1132 _ _ (pl11.ne h fun x y z e => by cases e) h⟩
  have hf32 := hf24.mono s2432
  have e2432 := s2432 _ _ e24
  have e2132 := s2432 _ _ e2124
  have e2632 := s2832 _ _ e26'
  have e2832 := s2832 _ _ e28
  have hG32 := hG'.mono s2832
  have hU32 := hU.mono s2832
  clear hG' hU hf24 e24 e2124 e26' e28 hRq etp e11 eln11 els11 elc11 hX0' hX1' hC0' hC1' hS0' hS1' b1124 b1121 pl21 pl24 pl11 s2432 s2832 s2628 s2426 o29 o30 o31 o32 s29 s30 s31 s32 eT0 eT1 eT2 e21 elv21 eln26 b1132
  -- KEEP
  have lTp : lT ≠ p := pl32.ne elT fun x y z e => by injection e with e; cases e
  refine i_forA (H0 := oneH lT [.ref T0, .ref T1, .ref T2]) (fun i σ H' => ∃ v17 v18 v19 v20 v21 v22 v23 v24 : Option V, σ = [some (.ref a), some (.ref p), some (.ref ln), some (.ref lw), none, some (.ref lc), none, some (.ref ls), some (.ref tp), some (.ref rq), some (.ref tr), some (.ref lv), some (.ref ds), none, some (.ref dv), some (.ref dg), some (.ref du), v17, v18, v19, v20, v21, v22, v23, v24, none, none] ∧ But p H32 H' ∧ PoolN H' p (90 + 8 * i)) one_seq
    ⟨_, _, _, _, _, _, _, _, rfl, .of (.refl _), pl32.mono (.refl _) (by decide)⟩ (fun i σ H' ⟨_, _, _, _, _, _, _, _, _, b, _⟩ => one_same (b _ _ lTp elT)) ?_ ?_
  · rintro i x σ H1 hx ⟨v17, v18, v19, v20, v21, v22, v23, v24, rfl, b1, pl1⟩
    have hx0 := hx
    obtain ⟨T, m, n, rfl, eT, hm, hn⟩ : ∃ (T : Addr) (m n : Nat), x = .ref T ∧ H32 T = some (.tup [.int (m : Nat), .int (n : Nat), .int (m : Nat), .int (n : Nat)]) ∧ m < 2 ∧ n < 2 := by
      have := List.mem_of_getElem? hx
      simp only [List.mem_cons, List.not_mem_nil, or_false] at this
      rcases this with h | h | h
      · exact ⟨T0, 0, 1, h, eTs.1, by decide, by decide⟩
      · exact ⟨T1, 1, 0, h, eTs.2.1, by decide, by decide⟩
      · exact ⟨T2, 0, 0, h, eTs.2.2, by decide, by decide⟩
    obtain ⟨cm, sm, xm, pm1, pm2, hCm, hSm, hXm⟩ := pick m hm
    obtain ⟨cn, sn, xn, pn1, pn2, hCn, hSn, hXn⟩ := pick n hn
    have eT1 := b1 _ _ (pl32.ne eT fun x y z e => by cases e) eT
    have elc1 := b1 _ _ lcp elc32
    have els1 := b1 _ _ lsp els32
    have eln1 := b1 _ _ lnp eln32
    have hCm1 := pl32.isC b1 hCm
    have hCn1 := pl32.isC b1 hCn
    have hSm1 := hSm.but b1 pl32
    have hSn1 := hSn.but b1 pl32
    have etp1 := b1 _ _ (pl32.ne etp32 fun x y z e => by cases e) etp32
    have etr1 := b1 _ _ (pl32.ne etr32 fun x y z e => by cases e) etr32
    have hRq1 : IsR CR H1 rq q := by
      obtain ⟨dx, h⟩ := hRq32
      exact ⟨dx, b1 _ _ (pl32.ne h fun x y z e => by cases e) h⟩
    have t1 := pl32.tups b1
    have hf1 := hf32.monoT t1
    have edv1 := b1 _ _ (pl32.ne e2432 fun x y z e => by cases e) e2432
    have eds1 := b1 _ _ (pl32.ne e2132 fun x y z e => by cases e) e2132
    have edg1 := b1 _ _ (pl32.ne e2632 fun x y z e => by cases e) e2632
    have edu1 := b1 _ _ (pl32.ne e2832 fun x y z e => by cases e) e2832
    have rb : ∀ {r : Addr} {y : Rat}, IsR CR H32 r y → IsR CR H1 r y := fun {r y} ⟨dx, h⟩ => ⟨dx, b1 _ _ (pl32.ne h fun x y z e => by cases e) h⟩
    have hG1 : RsD CR H1 WD h v := fun z hz => let ⟨r, u1, u2⟩ := hG32 z hz; ⟨r, u1, rb u2⟩
    have hU1 : RsD CR H1 zs hu fun z => v (g z) := fun z hz => let ⟨r, u1, u2⟩ := hU32 z hz; ⟨r, u1, rb u2⟩
    obtain ⟨m1, m2, m3⟩ := hXm.nsub
    obtain ⟨n1, n2, n3⟩ := hXn.nsub
    clear rb t1 hSm hSn hCm hCn eT hXm hXn hx
    refine i_gtup (.of eT1) rfl ?_
    walk_at "rd"
    refine i_ixL (k := m) (.of elc1) pm1 ?_
    walk_at "rd"
    obtain ⟨dxm, _, _, _, _, gm1, _⟩ := id hCm1
    obtain ⟨dxn, _, _, _, _, gn1, _⟩ := id hCn1
    refine i_meth1 gm1 (cf_no (by decide +kernel) (by decide +kernel)) ?_
    walk_at "rd"
    refine i_ixL (k := n) (.of elc1) pn1 ?_
    walk_at "rd"
    refine i_mixU hCm1 hCn1 hRq1 (by omega) (by decide) q0 q1 qn qd fun cb H2 Nb hcb s2 hCb => ?_
    have sb := mix_sub hCm1 hCn1 hCb m1 n1
    have nb := nd_len hCb.chd.1 sb
    rw [zl] at nb
    walk_at "rd"
    refine i_ixL (k := m) (.of (s2 _ _ els1)) pm2 ?_
    walk_at "rd"
    refine i_sumU (U := zs) hCm1 (by decide) (hSm1.mono s2) (by omega) (.inr ⟨ov, s2 _ _ edv1⟩) (hf1.mono s2) hv (fun z hz => hWz z (m1 z hz)) znd m1 fun cA H3 hcA s3 eA => ?_
    walk_at "rd"
    have s13 := s2.trans s3
    refine i_ixL (k := n) (.of (s13 _ _ els1)) pn2 ?_
    walk_at "rd"
    refine i_sumU (U := zs) hCn1 (by decide) (hSn1.mono s13) (by omega) (.inr ⟨ov, s13 _ _ edv1⟩) (hf1.mono s13) hv (fun z hz => hWz z (n1 z hz)) znd n1 fun cB H4 hcB s4 eB => ?_
    walk_at "rd"
    refine i_lst1 (Nat.le_of_ble_eq_true rfl) fun lsu H5 hlsu s5 elsu o5 => ?_
    walk_at "rd"
    have s15 := (s13.trans s4).trans s5
    have bA := avg_bd (U := zs) hCm1 (by decide) hv (by omega)
    have bB := avg_bd (U := zs) hCn1 (by decide) hv (by omega)
    have eA5 := s5 _ _ (s4 _ _ eA)
    have eB5 := s5 _ _ eB
    have mixE : sF (zs.map fun z => ((1 - q) * xm.p z + q * xn.p z) * v z) = (1 - q) * sF (zs.map fun z => xm.p z * v z) + q * sF (zs.map fun z => xn.p z * v z) := by
      rw [← sF_lin]
      congr 1
      exact List.map_congr_left fun z _ => by grind
    generalize hA : sF (zs.map fun z => xm.p z * v z) = A at *
    generalize hB : sF (zs.map fun z => xn.p z * v z) = Bv at *
    have bq1 : ZR.Bd 201 (1 - q) := (ZR.Bd.sub (n := 100) (p := 1) (q := q) ⟨by decide +kernel, by decide +kernel⟩ qB)
    refine i_ix0 (.of elsu) ?_
    walk_at "rd"
    refine ⟨rfl, tr, cA, 1 - q, A, rfl, s15 _ _ etr1, eA5, bq1.mono (by decide), bA.mono (by decide), fun cC H6 hcC s6 eC oC => ?_⟩
    walk_at "rd"
    refine i_ix1 (.of (s6 _ _ elsu)) ?_
    walk_at "rd"
    refine ⟨rfl, tp, cB, q, Bv, rfl, s6 _ _ (s15 _ _ etp1), s6 _ _ eB5, qB.mono (by decide), bB.mono (by decide), fun cD H7 hcD s7 eD oD => ?_⟩
    walk_at "rd"
    refine ⟨rfl, cC, cD, (1 - q) * A, q * Bv, rfl, s7 _ _ eC, eD, (bq1.mul (bA.mono (by decide))).mono (by decide), (qB.mul bB).mono (by decide), fun cE H8 hcE s8 eE oE => ?_⟩
    have eE' : H8 cE = some (.tup (pq ((1 - q) * A + q * Bv))) := eE
    walk_at "rd"
    have s58 := (s6.trans s7).trans s8
    have s18 := s15.trans s58
    have s28 := ((s3.trans s4).trans s5).trans s58
    have hCb8 := hCb.mono s28
    obtain ⟨dxb, _, _, _, _, gb8, _⟩ := id hCb8
    refine i_meth1 gb8 (cf_no (by decide +kernel) (by decide +kernel)) ?_
    walk_at "rd"
    have hgW : ∀ z ∈ ys, nameB (g z) = true := fun z hz => hWn _ (hg z hz)
    have hgz : ∀ z ∈ zs, g z ∈ WD := fun z hz => hg z (perm.mem_iff.mpr hz)
    have sby : ∀ z ∈ Nb, z ∈ ys := fun z hz => perm.mem_iff.mpr (sb z hz)
    refine i_avgU (U := zs) hCb8 (by decide) (by omega) (.inl (s18 _ _ edg1)) (hG1.mono s18) hv (fun z hz => hWz z (sb z hz)) znd sb fun cF H9 hcF s9 hRF => ?_
    have hRF : IsR CR H9 cF ((1 - q) * A + q * Bv) := by rw [← mixE]; exact hRF
    walk_at "rd"
    refine ⟨rfl, cF, (1 - q) * A + q * Bv, rfl, hRF, fun cG H10 hcG s10 eG oG => ?_⟩
    walk_at "rd"
    refine i_neDR (lay_pq0 _) (by decide) (dp_pq0 eG) (dp_pq0 (s10 _ _ (s9 _ _ eE'))) ?_
    walk_at "rd"
    have t10 := (s18.trans s9).trans s10
    refine i_ixL (k := m) (.of (t10 _ _ elc1)) pm1 ?_
    walk_at "rd"
    refine i_meth1 (t10 _ _ gm1) (cf_no (by decide +kernel) (by decide +kernel)) ?_
    walk_at "rd"
    refine i_avgU (U := zs) (hCm1.mono t10) (by decide) (by omega) (.inl (t10 _ _ edg1)) (hG1.mono t10) hv (fun z hz => hWz z (m1 z hz)) znd m1 fun cH H11 hcH s11 hRH => ?_
    have hRH : IsR CR H11 cH A := by rw [← hA]; exact hRH
    walk_at "rd"
    refine ⟨rfl, cH, A, rfl, hRH, fun cI H12 hcI s12 eI oI => ?_⟩
    walk_at "rd"
    have t12 := (t10.trans s11).trans s12
    have u512 := (((s58.trans s9).trans s10).trans s11).trans s12
    refine i_ix0 (.of (u512 _ _ elsu)) ?_
    refine i_neDR (lay_pq0 _) (by decide) (dp_pq0 eI) (dp_pq0 (u512 _ _ eA5)) ?_
    walk_at "rd"
    refine i_ixL (k := m) (.of (t12 _ _ elc1)) pm1 ?_
    walk_at "rd"
    refine i_meth1 (t12 _ _ gm1) (cf_no (by decide +kernel) (by decide +kernel)) ?_
    walk_at "rd"
    refine i_sentU (U := zs) (hCm1.mono t12) (by decide) (.inl (t12 _ _ eds1)) hgW (fun z hz => perm.mem_iff.mpr (m1 z hz)) znd m1 fun f0 H13 M0 hf0 s13' hF0 => ?_
    walk_at "rd"
    have t13 := t12.trans s13'
    refine i_ixL (k := n) (.of (t13 _ _ elc1)) pn1 ?_
    walk_at "rd"
    refine i_meth1 (t13 _ _ gn1) (cf_no (by decide +kernel) (by decide +kernel)) ?_
    walk_at "rd"
    refine i_sentU (U := zs) (hCn1.mono t13) (by decide) (.inl (t13 _ _ eds1)) hgW (fun z hz => perm.mem_iff.mpr (n1 z hz)) znd n1 fun f1 H14 M1 hf1' s14 hF1 => ?_
    walk_at "rd"
    refine i_lst1 (Nat.le_of_ble_eq_true rfl) fun le H15 hle s15' ele o15 => ?_
    walk_at "rd"
    have t15 := (t13.trans s14).trans s15'
    have u815 : Same H8 H15 := ((((((s9.trans s10).trans s11).trans s12).trans s13').trans s14).trans s15')
    have gb15 := u815 _ _ gb8
    refine i_meth1 gb15 (cf_no (by decide +kernel) (by decide +kernel)) ?_
    walk_at "rd"
    refine i_sentU (U := zs) (hCb8.mono u815) (by decide) (.inl (t15 _ _ eds1)) hgW sby znd sb fun fb H16 Mb hfb s16 hFb => ?_
    walk_at "rd"
    refine i_ix0 (.of (s16 _ _ ele)) ?_
    walk_at "rd"
    have hF0' := hF0.mono ((s14.trans s15').trans s16)
    have hF1' := hF1.mono (s15'.trans s16)
    obtain ⟨dx0, _, _, _, _, gf0, _⟩ := id hF0'
    refine i_meth1 gf0 (cf_no (by decide +kernel) (by decide +kernel)) ?_
    walk_at "rd"
    refine i_ix1 (.of (s16 _ _ ele)) ?_
    walk_at "rd"
    have l0 := nd_len hF0'.chd.1 (sent_sub hF0' hgz)
    have l1 := nd_len hF1'.chd.1 (sent_sub hF1' hgz)
    refine i_mixU hF0' hF1' (hRq1.mono (t15.trans s16)) (by omega) (by decide) q0 q1 qn qd fun fc H17 Mc hfc s17 hFc => ?_
    walk_at "rd"
    refine i_eqT (hFb.mono s17) hFc (fun y => sent_lin) ?_
    walk_at "rd"
    have t17 := (t15.trans s16).trans s17
    have u817 := (u815.trans s16).trans s17
    refine i_meth1 (u817 _ _ gb8) (cf_no (by decide +kernel) (by decide +kernel)) ?_
    walk_at "rd"
    refine i_sentU (U := zs) (hCb8.mono u817) (by decide) (.inl (t17 _ _ eds1)) hgW sby znd sb fun fd' H18 Md hfd s18' hFd => ?_
    walk_at "rd"
    obtain ⟨dxd, _, _, _, _, gfd, _⟩ := id hFd
    refine i_meth1 gfd (cf_no (by decide +kernel) (by decide +kernel)) ?_
    walk_at "rd"
    have t18 := t17.trans s18'
    have ld := nd_len hFd.chd.1 (sent_sub hFd hgz)
    refine i_avgU (U := WD) hFd (by decide) (by omega) (.inl (t18 _ _ edg1)) (hG1.mono t18) hv (sent_sub hFd hgz) hWnd (sent_sub hFd hgz) fun cJ H19 hcJ s19 hRJ => ?_
    rw [sent_avg hWnd zs hgz] at hRJ
    walk_at "rd"
    have t19 := t18.trans s19
    have u819 := (u817.trans s18').trans s19
    refine i_meth1 (u819 _ _ gb8) (cf_no (by decide +kernel) (by decide +kernel)) ?_
    walk_at "rd"
    refine i_avgU (U := zs) (v := fun z => v (g z)) (hCb8.mono u819) (by decide) (by omega) (.inl (t19 _ _ edu1)) (hU1.mono t19) (fun z => hv _) sb znd sb fun cK H20 hcK s20 hRK => ?_
    refine i_Rne (hRJ.mono s20) hRK fun H21 s21 => ?_
    rw [decide_eq_true rfl]
    walk_at "rd"
    have t21 := (t19.trans s20).trans s21
    have u821 := (u819.trans s20).trans s21
    refine ⟨rfl, p, ln, cb, 90 + 8 * i, 26 + 26 + 4, zs, Nb, _, rfl, pl1.mono t21 (Nat.le_refl _), by have := (List.getElem?_eq_some_iff.mp hx0).1; simp only [List.length_cons, List.length_nil] at this; omega, t21 _ _ eln1, by omega, by omega, znd, hCb8.mono u821, by decide, sb, by omega, fun H22 b22 pl22 => ?_⟩
    walk_at "rd"
    exact ⟨_, _, _, _, _, _, _, _, rfl, (b1.trans (.of t21)).trans b22, pl22.mono (.refl _) (by omega)⟩
  · rintro σ H1 ⟨v17, v18, v19, v20, v21, v22, v23, v24, rfl, b1, pl1⟩
    have lc3 : ([V.ref T0, V.ref T1, V.ref T2] : List V).length = 3 := rfl
    rw [lc3] at pl1
    obtain ⟨cm, sm, xm, pm1, pm2, hCm, hSm, hXm⟩ := pick 0 (by decide)
    obtain ⟨cn, sn, xn, pn1, pn2, hCn, hSn, hXn⟩ := pick 1 (by decide)
    cases pm1
    cases pn1
    cases pm2
    cases pn2
    have elc1 := b1 _ _ lcp elc32
    have els1 := b1 _ _ lsp els32
    have eln1 := b1 _ _ lnp eln32
    have hCm1 := pl32.isC b1 hCm
    have hCn1 := pl32.isC b1 hCn
    have hSm1 := hSm.but b1 pl32
    have hSn1 := hSn.but b1 pl32
    have hRq1 : IsR CR H1 rq q := by
      obtain ⟨dx, h⟩ := hRq32
      exact ⟨dx, b1 _ _ (pl32.ne h fun x y z e => by cases e) h⟩
    obtain ⟨m1, m2, m3⟩ := hXm.nsub
    obtain ⟨n1, n2, n3⟩ := hXn.nsub
    walk_at "rd"
    refine i_glst (xs := [.ref c0', .ref c1']) (.of elc1) rfl ?_
    walk_at "rd"
    obtain ⟨dxm, dm, om, wm, Sm, gm1, gm2, gm3, gm4⟩ := id hCm1
    obtain ⟨dxn, dn, on, wn, Sn, gn1, gn2, gn3, gn4⟩ := id hCn1
    have nfc : PySem.W.notFirst K CC (.ref CC) = true := by simp [PySem.W.notFirst]
    refine i_meth1 (m := ("mixed" : Str)) gm1 (cf_no (by decide +kernel) (by decide +kernel)) ?_
    walk_at "rd"
    refine i_cmS ?_
    walk_at "rd"
    refine ⟨rfl, ?_⟩
    walk_at "rd"
    refine i_whole fun r2 H2 hr2 s2 hR2 => ?_
    walk_at "rd"
    refine i_mixU (hCm1.mono s2) (hCn1.mono s2) hR2 (by omega) (by decide) (by decide +kernel) (by decide +kernel) (by decide +kernel) (by decide +kernel) fun c3 H3 N3 hc3 s3 hC3 => ?_
    walk_at "rd"
    have t3 := s2.trans s3
    refine i_eqT hC3 (hCm1.mono t3) (fun z => by rw [show ((0 : Int) : Rat) = 0 from rfl]; grind) ?_
    walk_at "rd"
    refine i_meth1 (t3 _ _ gm1) (cf_no (by decide +kernel) (by decide +kernel)) ?_
    walk_at "rd"
    refine i_cmS ?_
    walk_at "rd"
    refine ⟨rfl, ?_⟩
    walk_at "rd"
    refine i_whole fun r4 H4 hr4 s4 hR4 => ?_
    walk_at "rd"
    have t4 := t3.trans s4
    refine i_mixU (hCm1.mono t4) (hCn1.mono t4) hR4 (by omega) (by decide) (by decide +kernel) (by decide +kernel) (by decide +kernel) (by decide +kernel) fun c5 H5' N5 hc5 s5' hC5 => ?_
    walk_at "rd"
    have t5 := t4.trans s5'
    refine i_eqT hC5 (hCn1.mono t5) (fun z => by rw [show ((1 : Int) : Rat) = 1 from rfl]; grind) ?_
    walk_at "rd"
    refine i_meth1 (t5 _ _ gm1) (cf_no (by decide +kernel) (by decide +kernel)) ?_
    walk_at "rd"
    refine i_mixU (hCm1.mono t5) (hCm1.mono t5) (hRq1.mono t5) (by omega) (by decide) q0 q1 qn qd fun c6 H6' N6 hc6 s6' hC6 => ?_
    walk_at "rd"
    have t6 := t5.trans s6'
    refine i_eqT hC6 (hCm1.mono t6) (fun z => by grind) ?_
    walk_at "rd"
    refine ⟨c0', dxm, _, _, rfl, t6 _ _ gm1, .ins (t6 _ _ gn1), nfc, rfl, c0', 26, _, _, _, rfl, hCm1.mono t6, .inl ⟨c1', 26, _, _, rfl, hCn1.mono t6, fun c hc => ?_⟩⟩
    walk_at "rd"
    refine i_ix0 (.of (t6 _ _ els1)) ?_
    walk_at "rd"
    refine i_ix1 (.of (t6 _ _ els1)) ?_
    obtain ⟨oM, fM, eM, hM⟩ := hSm1
    obtain ⟨oN, fN, eN, hN⟩ := hSn1
    refine i_eqDGpq (v := xm.p) (v' := xn.p) (.inr ⟨oM, t6 _ _ eM⟩) (.inr ⟨oN, t6 _ _ eN⟩) (hM.mono t6) (hN.mono t6) fun c2 hc2 => ?_
    have ecc : c = c2 := Bool.eq_iff_iff.mpr (hc.trans ((seen_iff hCm1 hCn1 m3 n3).trans hc2.symm))
    subst ecc
    walk_at "rd"
    rw [bne_self_eq_false]
    walk_at "rd"
    have hPC : Paired (fun c x => IsC CC H6' c 26 (WR.N x) (WR.p x)) [c0', c1'] [xm, xn] := .cons (hCm1.mono t6) (.cons (hCn1.mono t6) .nil)
    refine i_lcA (H0 := H6') (fun i ys H' => Same H6' H' ∧ ∃ ss : List Addr, ys = ss.map V.ref ∧ ss.length = i ∧ Paired (fun d x => ∃ f, H' d = some (.dK (dF (WR.N x) f)) ∧ PQd H' (WR.N x) f (WR.p x)) ss ([xm, xn].take i)) (SqA.l (t6 _ _ elc1)) (.refl _) (fun D H' hD s e ho => ⟨s, [], rfl, rfl, .nil⟩) (fun i ys H' h => h.1) ?_ ?_
    · rintro i x D ys H7 hD hx eD ⟨s7, ss, rfl, hss, hP⟩
      rw [List.getElem?_map] at hx
      obtain ⟨ci, hx2, rfl⟩ := Option.map_eq_some_iff.mp hx
      obtain ⟨xi, hxi, hCi⟩ := L2.paired_get hPC hx2
      walk_at "rd"
      refine ⟨by with_unfolding_all rfl, ?_⟩
      walk_at "rd"
      have hi := (List.getElem?_eq_some_iff.mp hx2).1
      have l2 : ([c0', c1'] : List Addr).length = 2 := rfl
      refine ⟨rfl, ci, 26, xi.N, xi.p, rfl, hCi.mono s7, by decide, fun c8 H8 f8 hc8 s8 e8 hf8 => ?_⟩
      have eD8 := s8 _ _ eD
      refine i_lcE eD8 (by rw [List.length_map]; omega) fun H9 e9 o9 => ?_
      have tt := tups_at o9 eD8 fun _ z => by cases z
      refine ⟨fun b u e => by rw [o9 b (ne_of_none e hD)]; exact s8 _ _ (s7 _ _ e), ss ++ [c8], by rw [List.map_append]; rfl, by rw [List.length_append, hss]; rfl, ?_⟩
      rw [take_snoc hxi]
      refine Paired.snoc (L2.Paired.mapP hP fun d x ⟨f, u1, u2⟩ => ⟨f, ?_, (u2.mono s8).monoT tt⟩) ⟨f8, ?_, hf8.monoT tt⟩
      · have := s8 _ _ u1
        rw [o9 d (fun z => by rw [z, eD8] at this; cases this)]
        exact this
      · rw [o9 c8 (fun z => by rw [z, eD8] at e8; cases e8)]
        exact e8
    rintro D ys H7 hD eD ⟨s7, ss, rfl, hss, hP⟩
    walk_at "rd"
    have l2 : ([V.ref c0', V.ref c1'] : List V).length = 2 := rfl
    have hss : ss.length = 2 := hss
    have hP : Paired (fun d x => ∃ f, H7 d = some (.dK (dF (WR.N x) f)) ∧ PQd H7 (WR.N x) f (WR.p x)) ss [xm, xn] := hP
    obtain ⟨d0, d1, rfl⟩ := two_of hss
    obtain ⟨⟨f0, u1, u2⟩, f1, u3, u4⟩ := pair_two hP
    have t7 := t6.trans s7
    have hM7 := hM.mono t7
    have hN7 := hN.mono t7
    have wd : ∀ {a b : Addr} {o : Obj} {M : List Str} {f f' : Str → V} {v : Str → Rat}, H7 a = some (.dK (dF M f)) → H7 b = some (.frz o (.dK (dF M f'))) → PQd H7 M f v → PQd H7 M f' v → Z.WD K H7 (.ref a) (.ref b) := fun ha hb h1 h2 =>
      wd_of (K := K) (.inl ha) (.inr ⟨_, hb⟩) rfl fun z hz => ⟨hz, by
        obtain ⟨c, e1, g1⟩ := h1 z hz
        obtain ⟨d, e2, g2⟩ := h2 z hz
        rw [e1, e2]
        exact w0_of (lay_pq0 _) (by decide) (dp_pq0 g1) (dp_pq0 g2)⟩
    refine ⟨.inl (wl2 eD (t7 _ _ els1) (.inr (wd u1 (t7 _ _ eM) u2 hM7)) (.inr (wd u3 (t7 _ _ eN) u4 hN7))), ?_⟩
    walk_at "rd"
    refine ⟨rfl, p, ln, c0', 90 + 8 * 3, 26, zs, xm.N, xm.p, rfl, pl1.mono t7 (Nat.le_refl _), by decide, t7 _ _ eln1, by omega, by omega, znd, hCm1.mono t7, by decide, m1, by omega, fun H8 b8 pl8 => ?_⟩
    walk_at "rd"
    exact k _
theorem mk_law {K : PySem.W.Frag} {H : Hp} {a : Addr} {ns : List Int} (hS : SqL K H a (ns.map V.int)) (hl : ns.length ≤ 63) : spLaw K [.ref a] H (fun v _ => v = .bl true) fun _ _ _ => False := ⟨rfl, a, ns, rfl, hS, fun _ => rfl⟩
theorem all_mk {P : Program} {w : World} {K : PySem.W.Frag} {h : Heap} {mg : Str → Option Value} {fa : Addr} (X : K.In h) (G : h.Ns mainGlobals mg) (hfa : mg "law" = some (.ref fa))
    {CR : Addr}
    {CC : Addr}
    {CB : Addr}
    {CY : Addr}
    {CN : Addr}
    {CD : Addr}
    {CU : Addr}
    {CX : Addr}
    {CT : Addr}
    {nm_BadNumber : Str}
    {q_BadNumber : Str}
    {N_BadNumber : Addr}
    {bs_BadNumber : List Value}
    {sn_BadNumber : List Str}
    {sub_BadNumber : List Value}
    {ab_BadNumber : Bool}
    {col_BadNumber : Option Bool}
    {dd_BadNumber : Option Addr}
    {m0_BadNumber : Option Value}
    {m1_BadNumber : Option Value}
    {m2_BadNumber : Option Value}
    {m3_BadNumber : Option Value}
    {m5_BadNumber : Option Value}
    {nm_BadText : Str}
    {q_BadText : Str}
    {N_BadText : Addr}
    {bs_BadText : List Value}
    {sn_BadText : List Str}
    {sub_BadText : List Value}
    {ab_BadText : Bool}
    {col_BadText : Option Bool}
    {dd_BadText : Option Addr}
    {m0_BadText : Option Value}
    {m1_BadText : Option Value}
    {m2_BadText : Option Value}
    {m3_BadText : Option Value}
    {m5_BadText : Option Value}
    {nm_BadName : Str}
    {q_BadName : Str}
    {N_BadName : Addr}
    {bs_BadName : List Value}
    {sn_BadName : List Str}
    {sub_BadName : List Value}
    {ab_BadName : Bool}
    {col_BadName : Option Bool}
    {dd_BadName : Option Addr}
    {m0_BadName : Option Value}
    {m1_BadName : Option Value}
    {m2_BadName : Option Value}
    {m3_BadName : Option Value}
    {m5_BadName : Option Value}
    {nm_DuplicateName : Str}
    {q_DuplicateName : Str}
    {N_DuplicateName : Addr}
    {bs_DuplicateName : List Value}
    {sn_DuplicateName : List Str}
    {sub_DuplicateName : List Value}
    {ab_DuplicateName : Bool}
    {col_DuplicateName : Option Bool}
    {dd_DuplicateName : Option Addr}
    {m0_DuplicateName : Option Value}
    {m1_DuplicateName : Option Value}
    {m2_DuplicateName : Option Value}
    {m3_DuplicateName : Option Value}
    {m5_DuplicateName : Option Value}
    {nm_UnknownName : Str}
    {q_UnknownName : Str}
    {N_UnknownName : Addr}
    {bs_UnknownName : List Value}
    {sn_UnknownName : List Str}
    {sub_UnknownName : List Value}
    {ab_UnknownName : Bool}
    {col_UnknownName : Option Bool}
    {dd_UnknownName : Option Addr}
    {m0_UnknownName : Option Value}
    {m1_UnknownName : Option Value}
    {m2_UnknownName : Option Value}
    {m3_UnknownName : Option Value}
    {m5_UnknownName : Option Value}
    {nm_BadShares : Str}
    {q_BadShares : Str}
    {N_BadShares : Addr}
    {bs_BadShares : List Value}
    {sn_BadShares : List Str}
    {sub_BadShares : List Value}
    {ab_BadShares : Bool}
    {col_BadShares : Option Bool}
    {dd_BadShares : Option Addr}
    {m0_BadShares : Option Value}
    {m1_BadShares : Option Value}
    {m2_BadShares : Option Value}
    {m3_BadShares : Option Value}
    {m5_BadShares : Option Value}
    {f0 : Addr} {od0 an0 : Option Addr} {sl0 : Array (Option Value)} {oc0 kV0 dc0 pm0 cd0 ct0 : Value}
    {f1 : Addr} {od1 an1 : Option Addr} {sl1 : Array (Option Value)} {oc1 kV1 dc1 pm1 cd1 ct1 : Value}
    {f2 : Addr} {od2 an2 : Option Addr} {sl2 : Array (Option Value)} {oc2 kV2 dc2 pm2 cd2 ct2 : Value}
    {f3 : Addr} {od3 an3 : Option Addr} {sl3 : Array (Option Value)} {oc3 kV3 dc3 pm3 cd3 ct3 : Value}
    {f4 : Addr} {od4 an4 : Option Addr} {sl4 : Array (Option Value)} {oc4 kV4 dc4 pm4 cd4 ct4 : Value}
    {f5 : Addr} {od5 an5 : Option Addr} {sl5 : Array (Option Value)} {oc5 kV5 dc5 pm5 cd5 ct5 : Value}
    {f6 : Addr} {od6 an6 : Option Addr} {sl6 : Array (Option Value)} {oc6 kV6 dc6 pm6 cd6 ct6 : Value}
    {f7 : Addr} {od7 an7 : Option Addr} {sl7 : Array (Option Value)} {oc7 kV7 dc7 pm7 cd7 ct7 : Value}
    {f8 : Addr} {od8 an8 : Option Addr} {sl8 : Array (Option Value)} {oc8 kV8 dc8 pm8 cd8 ct8 : Value}
    {f9 : Addr} {od9 an9 : Option Addr} {sl9 : Array (Option Value)} {oc9 kV9 dc9 pm9 cd9 ct9 : Value}
    {f10 : Addr} {od10 an10 : Option Addr} {sl10 : Array (Option Value)} {oc10 kV10 dc10 pm10 cd10 ct10 : Value}
    {f11 : Addr} {od11 an11 : Option Addr} {sl11 : Array (Option Value)} {oc11 kV11 dc11 pm11 cd11 ct11 : Value}
    {f12 : Addr} {od12 an12 : Option Addr} {sl12 : Array (Option Value)} {oc12 kV12 dc12 pm12 cd12 ct12 : Value}
    {f13 : Addr} {od13 an13 : Option Addr} {sl13 : Array (Option Value)} {oc13 kV13 dc13 pm13 cd13 ct13 : Value}
    {f14 : Addr} {od14 an14 : Option Addr} {sl14 : Array (Option Value)} {oc14 kV14 dc14 pm14 cd14 ct14 : Value}
    {p14 : Addr} {rs14 : List Value}
    {f15 : Addr} {od15 an15 : Option Addr} {sl15 : Array (Option Value)} {oc15 kV15 dc15 pm15 cd15 ct15 : Value}
    {f16 : Addr} {od16 an16 : Option Addr} {sl16 : Array (Option Value)} {oc16 kV16 dc16 pm16 cd16 ct16 : Value}
    {f17 : Addr} {od17 an17 : Option Addr} {sl17 : Array (Option Value)} {oc17 kV17 dc17 pm17 cd17 ct17 : Value}
    {f18 : Addr} {od18 an18 : Option Addr} {sl18 : Array (Option Value)} {oc18 kV18 dc18 pm18 cd18 ct18 : Value}
    {f19 : Addr} {od19 an19 : Option Addr} {sl19 : Array (Option Value)} {oc19 kV19 dc19 pm19 cd19 ct19 : Value}
    {f20 : Addr} {od20 an20 : Option Addr} {sl20 : Array (Option Value)} {oc20 kV20 dc20 pm20 cd20 ct20 : Value}
    {f21 : Addr} {od21 an21 : Option Addr} {sl21 : Array (Option Value)} {oc21 kV21 dc21 pm21 cd21 ct21 : Value}
    {f22 : Addr} {od22 an22 : Option Addr} {sl22 : Array (Option Value)} {oc22 kV22 dc22 pm22 cd22 ct22 : Value}
    {f23 : Addr} {od23 an23 : Option Addr} {sl23 : Array (Option Value)} {oc23 kV23 dc23 pm23 cd23 ct23 : Value}
    {f24 : Addr} {od24 an24 : Option Addr} {sl24 : Array (Option Value)} {oc24 kV24 dc24 pm24 cd24 ct24 : Value}
    {f25 : Addr} {od25 an25 : Option Addr} {sl25 : Array (Option Value)} {oc25 kV25 dc25 pm25 cd25 ct25 : Value}
    {f26 : Addr} {od26 an26 : Option Addr} {sl26 : Array (Option Value)} {oc26 kV26 dc26 pm26 cd26 ct26 : Value}
    {f27 : Addr} {od27 an27 : Option Addr} {sl27 : Array (Option Value)} {oc27 kV27 dc27 pm27 cd27 ct27 : Value}
    {f28 : Addr} {od28 an28 : Option Addr} {sl28 : Array (Option Value)} {oc28 kV28 dc28 pm28 cd28 ct28 : Value}
    {p28 : Addr} {rs28 : List Value}
    {f29 : Addr} {od29 an29 : Option Addr} {sl29 : Array (Option Value)} {oc29 kV29 dc29 pm29 cd29 ct29 : Value}
    {f30 : Addr} {od30 an30 : Option Addr} {sl30 : Array (Option Value)} {oc30 kV30 dc30 pm30 cd30 ct30 : Value}
    {f31 : Addr} {od31 an31 : Option Addr} {sl31 : Array (Option Value)} {oc31 kV31 dc31 pm31 cd31 ct31 : Value}
    {p31 : Addr} {rs31 : List Value}
    {f32 : Addr} {od32 an32 : Option Addr} {sl32 : Array (Option Value)} {oc32 kV32 dc32 pm32 cd32 ct32 : Value}
    {f33 : Addr} {od33 an33 : Option Addr} {sl33 : Array (Option Value)} {oc33 kV33 dc33 pm33 cd33 ct33 : Value}
    {f34 : Addr} {od34 an34 : Option Addr} {sl34 : Array (Option Value)} {oc34 kV34 dc34 pm34 cd34 ct34 : Value}
    {f35 : Addr} {od35 an35 : Option Addr} {sl35 : Array (Option Value)} {oc35 kV35 dc35 pm35 cd35 ct35 : Value}
    {f36 : Addr} {od36 an36 : Option Addr} {sl36 : Array (Option Value)} {oc36 kV36 dc36 pm36 cd36 ct36 : Value}
    {f37 : Addr} {od37 an37 : Option Addr} {sl37 : Array (Option Value)} {oc37 kV37 dc37 pm37 cd37 ct37 : Value}
    {f38 : Addr} {od38 an38 : Option Addr} {sl38 : Array (Option Value)} {oc38 kV38 dc38 pm38 cd38 ct38 : Value}
    {f39 : Addr} {od39 an39 : Option Addr} {sl39 : Array (Option Value)} {oc39 kV39 dc39 pm39 cd39 ct39 : Value}
    {f40 : Addr} {od40 an40 : Option Addr} {sl40 : Array (Option Value)} {oc40 kV40 dc40 pm40 cd40 ct40 : Value}
    {f41 : Addr} {od41 an41 : Option Addr} {sl41 : Array (Option Value)} {oc41 kV41 dc41 pm41 cd41 ct41 : Value}
    {f42 : Addr} {od42 an42 : Option Addr} {sl42 : Array (Option Value)} {oc42 kV42 dc42 pm42 cd42 ct42 : Value}
    {f43 : Addr} {od43 an43 : Option Addr} {sl43 : Array (Option Value)} {oc43 kV43 dc43 pm43 cd43 ct43 : Value}
    {f44 : Addr} {od44 an44 : Option Addr} {sl44 : Array (Option Value)} {oc44 kV44 dc44 pm44 cd44 ct44 : Value}
    {f45 : Addr} {od45 an45 : Option Addr} {sl45 : Array (Option Value)} {oc45 kV45 dc45 pm45 cd45 ct45 : Value}
    {f46 : Addr} {od46 an46 : Option Addr} {sl46 : Array (Option Value)} {oc46 kV46 dc46 pm46 cd46 ct46 : Value}
    {f47 : Addr} {od47 an47 : Option Addr} {sl47 : Array (Option Value)} {oc47 kV47 dc47 pm47 cd47 ct47 : Value}
    {f48 : Addr} {od48 an48 : Option Addr} {sl48 : Array (Option Value)} {oc48 kV48 dc48 pm48 cd48 ct48 : Value}
    {f49 : Addr} {od49 an49 : Option Addr} {sl49 : Array (Option Value)} {oc49 kV49 dc49 pm49 cd49 ct49 : Value}
    {f50 : Addr} {od50 an50 : Option Addr} {sl50 : Array (Option Value)} {oc50 kV50 dc50 pm50 cd50 ct50 : Value}
    {f51 : Addr} {od51 an51 : Option Addr} {sl51 : Array (Option Value)} {oc51 kV51 dc51 pm51 cd51 ct51 : Value}
    {tk_DIGITS : Tok}
    {tk_LETTERS : Tok}
    {tk_MOST_DIGITS : Tok}
    {tk_MOST_SIGNS : Tok}
    (aC_Ratio : PySem.W.nsIn K mainGlobals "Ratio" = some (some (.ref CR)))
    (aC_Chance : PySem.W.nsIn K mainGlobals "Chance" = some (some (.ref CC)))
    (aC_BadNumber : PySem.W.nsIn K mainGlobals "BadNumber" = some (some (.ref CB)))
    (aC_BadText : PySem.W.nsIn K mainGlobals "BadText" = some (some (.ref CY)))
    (aC_BadName : PySem.W.nsIn K mainGlobals "BadName" = some (some (.ref CN)))
    (aC_DuplicateName : PySem.W.nsIn K mainGlobals "DuplicateName" = some (some (.ref CD)))
    (aC_UnknownName : PySem.W.nsIn K mainGlobals "UnknownName" = some (some (.ref CU)))
    (aC_BadShares : PySem.W.nsIn K mainGlobals "BadShares" = some (some (.ref CX)))
    (aC_ThrowError : PySem.W.nsIn K mainGlobals "ThrowError" = some (some (.ref CT)))
    (pg_Ratio : PySem.W.plainGet K CR Str.empty = true)
    (hd_Ratio : PySem.W.hasDictIn K CR = true)
    (po_Ratio : PySem.W.plainOver K CR = true)
    (sa_Ratio : PySem.W.findIn K (.ref CR) "__setattr__" = some (some (.builtin "object.__setattr__")))
    (ha_Ratio : PySem.W.findIn K (.ref CR) "__class__" = some (some (.builtin "object.__class__")))
    (hm_Ratio : PySem.W.mroIn K CR (.type "object") = some true)
    (mk_Ratio : PySem.W.makesIn K CR = true)
    (kc_Ratio : PySem.W.keepIn K (.ref CR) = true)
    (sf_Ratio : PySem.W.selfFirst K CR = true)
    (iC_Ratio : PySem.W.isClsIn K CR = true)
    (tC_Ratio : PySem.W.typeIn K (.ref CR) = some (.type "type"))
    (ne_Ratio : PySem.W.findIn K (.ref CR) "__ne__" = some (some (.builtin "object.__ne__")))
    (ob_Ratio : PySem.W.subIn K (.ref CR) (.type "object") = some true)
    (pg_Chance : PySem.W.plainGet K CC Str.empty = true)
    (hd_Chance : PySem.W.hasDictIn K CC = true)
    (po_Chance : PySem.W.plainOver K CC = true)
    (sa_Chance : PySem.W.findIn K (.ref CC) "__setattr__" = some (some (.builtin "object.__setattr__")))
    (ha_Chance : PySem.W.findIn K (.ref CC) "__class__" = some (some (.builtin "object.__class__")))
    (hm_Chance : PySem.W.mroIn K CC (.type "object") = some true)
    (mk_Chance : PySem.W.makesIn K CC = true)
    (kc_Chance : PySem.W.keepIn K (.ref CC) = true)
    (sf_Chance : PySem.W.selfFirst K CC = true)
    (iC_Chance : PySem.W.isClsIn K CC = true)
    (tC_Chance : PySem.W.typeIn K (.ref CC) = some (.type "type"))
    (hn : PySem.W.specialIn K (.builtin "object.__class__") "__get__" = some (some (.builtin "getset_descriptor.__get__")))
    (htk : PySem.W.takesIn K (.builtin "object.__class__") = some true)
    (xL_BadNumber : K.lookup CB = some (excClassObj nm_BadNumber q_BadNumber CB N_BadNumber bs_BadNumber [.ref CT, .type "ValueError", .type "Exception", .type "BaseException", .type "object"] true sn_BadNumber sub_BadNumber ab_BadNumber col_BadNumber dd_BadNumber m0_BadNumber m1_BadNumber m2_BadNumber m3_BadNumber m5_BadNumber "ValueError.__new__"))
    (sa_BadNumber : PySem.W.findIn K (.ref CB) "__setattr__" = some (some (.builtin "object.__setattr__")))
    (ga_BadNumber : PySem.W.findIn K (.ref CB) "__getattribute__" = some (some (.builtin "BaseException.__getattribute__")))
    (gg_BadNumber : PySem.W.findIn K (.ref CB) "__getattr__" = some none)
    (kC_BadNumber : PySem.W.keepIn K (.ref CB) = true)
    (eC_BadNumber : PySem.W.subIn K (.ref CB) (.type "BaseException") = some true)
    (tC_BadNumber : PySem.W.typeIn K (.ref CB) = some (.type "type"))
    (hC_BadNumber : PySem.W.hasDictIn K CB = true)
    (iC_BadNumber : PySem.W.isClsIn K CB = true)
    (sC_BadNumber : PySem.W.subIn K (.ref CB) (.ref CB) = some true)
    (xL_BadText : K.lookup CY = some (excClassObj nm_BadText q_BadText CY N_BadText bs_BadText [.ref CT, .type "ValueError", .type "Exception", .type "BaseException", .type "object"] true sn_BadText sub_BadText ab_BadText col_BadText dd_BadText m0_BadText m1_BadText m2_BadText m3_BadText m5_BadText "ValueError.__new__"))
    (sa_BadText : PySem.W.findIn K (.ref CY) "__setattr__" = some (some (.builtin "object.__setattr__")))
    (ga_BadText : PySem.W.findIn K (.ref CY) "__getattribute__" = some (some (.builtin "BaseException.__getattribute__")))
    (gg_BadText : PySem.W.findIn K (.ref CY) "__getattr__" = some none)
    (kC_BadText : PySem.W.keepIn K (.ref CY) = true)
    (eC_BadText : PySem.W.subIn K (.ref CY) (.type "BaseException") = some true)
    (tC_BadText : PySem.W.typeIn K (.ref CY) = some (.type "type"))
    (hC_BadText : PySem.W.hasDictIn K CY = true)
    (iC_BadText : PySem.W.isClsIn K CY = true)
    (sC_BadText : PySem.W.subIn K (.ref CY) (.ref CY) = some true)
    (xL_BadName : K.lookup CN = some (excClassObj nm_BadName q_BadName CN N_BadName bs_BadName [.ref CT, .type "ValueError", .type "Exception", .type "BaseException", .type "object"] true sn_BadName sub_BadName ab_BadName col_BadName dd_BadName m0_BadName m1_BadName m2_BadName m3_BadName m5_BadName "ValueError.__new__"))
    (sa_BadName : PySem.W.findIn K (.ref CN) "__setattr__" = some (some (.builtin "object.__setattr__")))
    (ga_BadName : PySem.W.findIn K (.ref CN) "__getattribute__" = some (some (.builtin "BaseException.__getattribute__")))
    (gg_BadName : PySem.W.findIn K (.ref CN) "__getattr__" = some none)
    (kC_BadName : PySem.W.keepIn K (.ref CN) = true)
    (eC_BadName : PySem.W.subIn K (.ref CN) (.type "BaseException") = some true)
    (tC_BadName : PySem.W.typeIn K (.ref CN) = some (.type "type"))
    (hC_BadName : PySem.W.hasDictIn K CN = true)
    (iC_BadName : PySem.W.isClsIn K CN = true)
    (sC_BadName : PySem.W.subIn K (.ref CN) (.ref CN) = some true)
    (xL_DuplicateName : K.lookup CD = some (excClassObj nm_DuplicateName q_DuplicateName CD N_DuplicateName bs_DuplicateName [.ref CT, .type "ValueError", .type "Exception", .type "BaseException", .type "object"] true sn_DuplicateName sub_DuplicateName ab_DuplicateName col_DuplicateName dd_DuplicateName m0_DuplicateName m1_DuplicateName m2_DuplicateName m3_DuplicateName m5_DuplicateName "ValueError.__new__"))
    (sa_DuplicateName : PySem.W.findIn K (.ref CD) "__setattr__" = some (some (.builtin "object.__setattr__")))
    (ga_DuplicateName : PySem.W.findIn K (.ref CD) "__getattribute__" = some (some (.builtin "BaseException.__getattribute__")))
    (gg_DuplicateName : PySem.W.findIn K (.ref CD) "__getattr__" = some none)
    (kC_DuplicateName : PySem.W.keepIn K (.ref CD) = true)
    (eC_DuplicateName : PySem.W.subIn K (.ref CD) (.type "BaseException") = some true)
    (tC_DuplicateName : PySem.W.typeIn K (.ref CD) = some (.type "type"))
    (hC_DuplicateName : PySem.W.hasDictIn K CD = true)
    (iC_DuplicateName : PySem.W.isClsIn K CD = true)
    (sC_DuplicateName : PySem.W.subIn K (.ref CD) (.ref CD) = some true)
    (xL_UnknownName : K.lookup CU = some (excClassObj nm_UnknownName q_UnknownName CU N_UnknownName bs_UnknownName [.ref CT, .type "ValueError", .type "Exception", .type "BaseException", .type "object"] true sn_UnknownName sub_UnknownName ab_UnknownName col_UnknownName dd_UnknownName m0_UnknownName m1_UnknownName m2_UnknownName m3_UnknownName m5_UnknownName "ValueError.__new__"))
    (sa_UnknownName : PySem.W.findIn K (.ref CU) "__setattr__" = some (some (.builtin "object.__setattr__")))
    (ga_UnknownName : PySem.W.findIn K (.ref CU) "__getattribute__" = some (some (.builtin "BaseException.__getattribute__")))
    (gg_UnknownName : PySem.W.findIn K (.ref CU) "__getattr__" = some none)
    (kC_UnknownName : PySem.W.keepIn K (.ref CU) = true)
    (eC_UnknownName : PySem.W.subIn K (.ref CU) (.type "BaseException") = some true)
    (tC_UnknownName : PySem.W.typeIn K (.ref CU) = some (.type "type"))
    (hC_UnknownName : PySem.W.hasDictIn K CU = true)
    (iC_UnknownName : PySem.W.isClsIn K CU = true)
    (sC_UnknownName : PySem.W.subIn K (.ref CU) (.ref CU) = some true)
    (xL_BadShares : K.lookup CX = some (excClassObj nm_BadShares q_BadShares CX N_BadShares bs_BadShares [.ref CT, .type "ValueError", .type "Exception", .type "BaseException", .type "object"] true sn_BadShares sub_BadShares ab_BadShares col_BadShares dd_BadShares m0_BadShares m1_BadShares m2_BadShares m3_BadShares m5_BadShares "ValueError.__new__"))
    (sa_BadShares : PySem.W.findIn K (.ref CX) "__setattr__" = some (some (.builtin "object.__setattr__")))
    (ga_BadShares : PySem.W.findIn K (.ref CX) "__getattribute__" = some (some (.builtin "BaseException.__getattribute__")))
    (gg_BadShares : PySem.W.findIn K (.ref CX) "__getattr__" = some none)
    (kC_BadShares : PySem.W.keepIn K (.ref CX) = true)
    (eC_BadShares : PySem.W.subIn K (.ref CX) (.type "BaseException") = some true)
    (tC_BadShares : PySem.W.typeIn K (.ref CX) = some (.type "type"))
    (hC_BadShares : PySem.W.hasDictIn K CX = true)
    (iC_BadShares : PySem.W.isClsIn K CX = true)
    (sC_BadShares : PySem.W.subIn K (.ref CX) (.ref CX) = some true)
    (rd_Chance : PySem.W.readsIn K CC (.type "type") = true)
    (rg_Chance : PySem.W.specialIn K (.ref CC) "__getattribute__" = some (some (.builtin "type.__getattribute__")))
    (rd_Ratio : PySem.W.readsIn K CR (.type "type") = true)
    (rg_Ratio : PySem.W.specialIn K (.ref CR) "__getattribute__" = some (some (.builtin "type.__getattribute__")))
    (rd_ThrowError : PySem.W.readsIn K CT (.type "type") = true)
    (rg_ThrowError : PySem.W.specialIn K (.ref CT) "__getattribute__" = some (some (.builtin "type.__getattribute__")))
    (rv_ThrowError : PySem.W.findCls K (.ref CT) (.type "type") "__init__" = some (.val (.builtin "ValueError.__init__")))
    (a0 : PySem.W.nsIn K mainGlobals "decimal" = some (some (.ref f0)))
    (l0 : K.lookup f0 = some ⟨oc0, od0, .func (PySem.W.fnOf "decimal" "decimal" (defArgs s_decimal) (defBody s_decimal) (defScope s_decimal) .none kV0 dc0 pm0 an0 cd0 ct0), sl0⟩)
    (c0 : PySem.W.codeIn K cd0 "decimal" = true)
    (k0 : PySem.W.keepIn K (.ref f0) = true)
    (a1 : PySem.W.findIn K (.ref CR) "__str__" = some (some (.ref f1)))
    (i1 : PySem.W.isFn K (.ref f1) = true)
    (l1 : K.lookup f1 = some ⟨oc1, od1, .func (PySem.W.fnOf "__str__" "Ratio.__str__" (defArgs s_Ratio___str__) (defBody s_Ratio___str__) (defScope s_Ratio___str__) .none kV1 dc1 pm1 an1 cd1 ct1), sl1⟩)
    (c1 : PySem.W.codeIn K cd1 "Ratio.__str__" = true)
    (k1 : PySem.W.keepIn K (.ref f1) = true)
    (a2 : PySem.W.nsIn K mainGlobals "_shown" = some (some (.ref f2)))
    (l2 : K.lookup f2 = some ⟨oc2, od2, .func (PySem.W.fnOf "_shown" "_shown" (defArgs s__shown) (defBody s__shown) (defScope s__shown) .none kV2 dc2 pm2 an2 cd2 ct2), sl2⟩)
    (c2 : PySem.W.codeIn K cd2 "_shown" = true)
    (k2 : PySem.W.keepIn K (.ref f2) = true)
    (a3 : PySem.W.findIn K (.ref CB) "__init__" = some (some (.ref f3)))
    (t3 : PySem.W.typeIn K (.ref f3) = some (.type "function"))
    (l3 : K.lookup f3 = some ⟨oc3, od3, .func (PySem.W.fnOf "__init__" "BadNumber.__init__" (defArgs s_BadNumber___init__) (defBody s_BadNumber___init__) (defScope s_BadNumber___init__) .none kV3 dc3 pm3 an3 cd3 ct3), sl3⟩)
    (c3 : PySem.W.codeIn K cd3 "BadNumber.__init__" = true)
    (k3 : PySem.W.keepIn K (.ref f3) = true)
    (a4 : PySem.W.findIn K (.ref CY) "__init__" = some (some (.ref f4)))
    (t4 : PySem.W.typeIn K (.ref f4) = some (.type "function"))
    (l4 : K.lookup f4 = some ⟨oc4, od4, .func (PySem.W.fnOf "__init__" "BadText.__init__" (defArgs s_BadText___init__) (defBody s_BadText___init__) (defScope s_BadText___init__) .none kV4 dc4 pm4 an4 cd4 ct4), sl4⟩)
    (c4 : PySem.W.codeIn K cd4 "BadText.__init__" = true)
    (k4 : PySem.W.keepIn K (.ref f4) = true)
    (a5 : PySem.W.findIn K (.ref CN) "__init__" = some (some (.ref f5)))
    (t5 : PySem.W.typeIn K (.ref f5) = some (.type "function"))
    (l5 : K.lookup f5 = some ⟨oc5, od5, .func (PySem.W.fnOf "__init__" "BadName.__init__" (defArgs s_BadName___init__) (defBody s_BadName___init__) (defScope s_BadName___init__) .none kV5 dc5 pm5 an5 cd5 ct5), sl5⟩)
    (c5 : PySem.W.codeIn K cd5 "BadName.__init__" = true)
    (k5 : PySem.W.keepIn K (.ref f5) = true)
    (a6 : PySem.W.findIn K (.ref CD) "__init__" = some (some (.ref f6)))
    (t6 : PySem.W.typeIn K (.ref f6) = some (.type "function"))
    (l6 : K.lookup f6 = some ⟨oc6, od6, .func (PySem.W.fnOf "__init__" "DuplicateName.__init__" (defArgs s_DuplicateName___init__) (defBody s_DuplicateName___init__) (defScope s_DuplicateName___init__) .none kV6 dc6 pm6 an6 cd6 ct6), sl6⟩)
    (c6 : PySem.W.codeIn K cd6 "DuplicateName.__init__" = true)
    (k6 : PySem.W.keepIn K (.ref f6) = true)
    (a7 : PySem.W.findIn K (.ref CU) "__init__" = some (some (.ref f7)))
    (t7 : PySem.W.typeIn K (.ref f7) = some (.type "function"))
    (l7 : K.lookup f7 = some ⟨oc7, od7, .func (PySem.W.fnOf "__init__" "UnknownName.__init__" (defArgs s_UnknownName___init__) (defBody s_UnknownName___init__) (defScope s_UnknownName___init__) .none kV7 dc7 pm7 an7 cd7 ct7), sl7⟩)
    (c7 : PySem.W.codeIn K cd7 "UnknownName.__init__" = true)
    (k7 : PySem.W.keepIn K (.ref f7) = true)
    (a8 : PySem.W.findIn K (.ref CX) "__init__" = some (some (.ref f8)))
    (t8 : PySem.W.typeIn K (.ref f8) = some (.type "function"))
    (l8 : K.lookup f8 = some ⟨oc8, od8, .func (PySem.W.fnOf "__init__" "BadShares.__init__" (defArgs s_BadShares___init__) (defBody s_BadShares___init__) (defScope s_BadShares___init__) .none kV8 dc8 pm8 an8 cd8 ct8), sl8⟩)
    (c8 : PySem.W.codeIn K cd8 "BadShares.__init__" = true)
    (k8 : PySem.W.keepIn K (.ref f8) = true)
    (a9 : PySem.W.nsIn K mainGlobals "is_name" = some (some (.ref f9)))
    (l9 : K.lookup f9 = some ⟨oc9, od9, .func (PySem.W.fnOf "is_name" "is_name" (defArgs s_is_name) (defBody s_is_name) (defScope s_is_name) .none kV9 dc9 pm9 an9 cd9 ct9), sl9⟩)
    (c9 : PySem.W.codeIn K cd9 "is_name" = true)
    (k9 : PySem.W.keepIn K (.ref f9) = true)
    (a10 : PySem.W.nsIn K mainGlobals "check_names" = some (some (.ref f10)))
    (l10 : K.lookup f10 = some ⟨oc10, od10, .func (PySem.W.fnOf "check_names" "check_names" (defArgs s_check_names) (defBody s_check_names) (defScope s_check_names) .none kV10 dc10 pm10 an10 cd10 ct10), sl10⟩)
    (c10 : PySem.W.codeIn K cd10 "check_names" = true)
    (k10 : PySem.W.keepIn K (.ref f10) = true)
    (a11 : PySem.W.nsIn K mainGlobals "is_positive" = some (some (.ref f11)))
    (l11 : K.lookup f11 = some ⟨oc11, od11, .func (PySem.W.fnOf "is_positive" "is_positive" (defArgs s_is_positive) (defBody s_is_positive) (defScope s_is_positive) .none kV11 dc11 pm11 an11 cd11 ct11), sl11⟩)
    (c11 : PySem.W.codeIn K cd11 "is_positive" = true)
    (k11 : PySem.W.keepIn K (.ref f11) = true)
    (a12 : PySem.W.nsIn K mainGlobals "wrong_word" = some (some (.ref f12)))
    (l12 : K.lookup f12 = some ⟨oc12, od12, .func (PySem.W.fnOf "wrong_word" "wrong_word" (defArgs s_wrong_word) (defBody s_wrong_word) (defScope s_wrong_word) .none kV12 dc12 pm12 an12 cd12 ct12), sl12⟩)
    (c12 : PySem.W.codeIn K cd12 "wrong_word" = true)
    (k12 : PySem.W.keepIn K (.ref f12) = true)
    (a13 : PySem.W.findIn K (.ref CR) "__init__" = some (some (.ref f13)))
    (i13 : PySem.W.isFn K (.ref f13) = true)
    (l13 : K.lookup f13 = some ⟨oc13, od13, .func (PySem.W.fnOf "__init__" "Ratio.__init__" (defArgs s_Ratio___init__) (defBody s_Ratio___init__) (defScope s_Ratio___init__) .none kV13 dc13 pm13 an13 cd13 ct13), sl13⟩)
    (c13 : PySem.W.codeIn K cd13 "Ratio.__init__" = true)
    (k13 : PySem.W.keepIn K (.ref f13) = true)
    (a14 : PySem.W.findCls K (.ref CR) (.type "type") "whole" = some (.get (.builtin "classmethod.__get__") (.ref p14) .none (.ref CR)))
    (r14 : PySem.W.recIn K p14 "classmethod" = some (.ref f14 :: rs14))
    (i14 : PySem.W.fnIn K f14 = true)
    (l14 : K.lookup f14 = some ⟨oc14, od14, .func (PySem.W.fnOf "whole" "Ratio.whole" (defArgs s_Ratio_whole) (defBody s_Ratio_whole) (defScope s_Ratio_whole) .none kV14 dc14 pm14 an14 cd14 ct14), sl14⟩)
    (c14 : PySem.W.codeIn K cd14 "Ratio.whole" = true)
    (k14 : PySem.W.keepIn K (.ref f14) = true)
    (a15 : PySem.W.findIn K (.ref CR) "__add__" = some (some (.ref f15)))
    (i15 : PySem.W.isFn K (.ref f15) = true)
    (l15 : K.lookup f15 = some ⟨oc15, od15, .func (PySem.W.fnOf "__add__" "Ratio.__add__" (defArgs s_Ratio___add__) (defBody s_Ratio___add__) (defScope s_Ratio___add__) .none kV15 dc15 pm15 an15 cd15 ct15), sl15⟩)
    (c15 : PySem.W.codeIn K cd15 "Ratio.__add__" = true)
    (k15 : PySem.W.keepIn K (.ref f15) = true)
    (a16 : PySem.W.findIn K (.ref CR) "__sub__" = some (some (.ref f16)))
    (i16 : PySem.W.isFn K (.ref f16) = true)
    (l16 : K.lookup f16 = some ⟨oc16, od16, .func (PySem.W.fnOf "__sub__" "Ratio.__sub__" (defArgs s_Ratio___sub__) (defBody s_Ratio___sub__) (defScope s_Ratio___sub__) .none kV16 dc16 pm16 an16 cd16 ct16), sl16⟩)
    (c16 : PySem.W.codeIn K cd16 "Ratio.__sub__" = true)
    (k16 : PySem.W.keepIn K (.ref f16) = true)
    (a17 : PySem.W.findIn K (.ref CR) "__mul__" = some (some (.ref f17)))
    (i17 : PySem.W.isFn K (.ref f17) = true)
    (l17 : K.lookup f17 = some ⟨oc17, od17, .func (PySem.W.fnOf "__mul__" "Ratio.__mul__" (defArgs s_Ratio___mul__) (defBody s_Ratio___mul__) (defScope s_Ratio___mul__) .none kV17 dc17 pm17 an17 cd17 ct17), sl17⟩)
    (c17 : PySem.W.codeIn K cd17 "Ratio.__mul__" = true)
    (k17 : PySem.W.keepIn K (.ref f17) = true)
    (a18 : PySem.W.findIn K (.ref CR) "__eq__" = some (some (.ref f18)))
    (i18 : PySem.W.isFn K (.ref f18) = true)
    (l18 : K.lookup f18 = some ⟨oc18, od18, .func (PySem.W.fnOf "__eq__" "Ratio.__eq__" (defArgs s_Ratio___eq__) (defBody s_Ratio___eq__) (defScope s_Ratio___eq__) .none kV18 dc18 pm18 an18 cd18 ct18), sl18⟩)
    (c18 : PySem.W.codeIn K cd18 "Ratio.__eq__" = true)
    (k18 : PySem.W.keepIn K (.ref f18) = true)
    (a19 : PySem.W.nsIn K mainGlobals "total" = some (some (.ref f19)))
    (l19 : K.lookup f19 = some ⟨oc19, od19, .func (PySem.W.fnOf "total" "total" (defArgs s_total) (defBody s_total) (defScope s_total) .none kV19 dc19 pm19 an19 cd19 ct19), sl19⟩)
    (c19 : PySem.W.codeIn K cd19 "total" = true)
    (k19 : PySem.W.keepIn K (.ref f19) = true)
    (a20 : PySem.W.nsIn K mainGlobals "scaled" = some (some (.ref f20)))
    (l20 : K.lookup f20 = some ⟨oc20, od20, .func (PySem.W.fnOf "scaled" "scaled" (defArgs s_scaled) (defBody s_scaled) (defScope s_scaled) .none kV20 dc20 pm20 an20 cd20 ct20), sl20⟩)
    (c20 : PySem.W.codeIn K cd20 "scaled" = true)
    (k20 : PySem.W.keepIn K (.ref f20) = true)
    (a21 : PySem.W.nsIn K mainGlobals "in_proportion" = some (some (.ref f21)))
    (l21 : K.lookup f21 = some ⟨oc21, od21, .func (PySem.W.fnOf "in_proportion" "in_proportion" (defArgs s_in_proportion) (defBody s_in_proportion) (defScope s_in_proportion) .none kV21 dc21 pm21 an21 cd21 ct21), sl21⟩)
    (c21 : PySem.W.codeIn K cd21 "in_proportion" = true)
    (k21 : PySem.W.keepIn K (.ref f21) = true)
    (a22 : PySem.W.nsIn K mainGlobals "_least" = some (some (.ref f22)))
    (l22 : K.lookup f22 = some ⟨oc22, od22, .func (PySem.W.fnOf "_least" "_least" (defArgs s__least) (defBody s__least) (defScope s__least) .none kV22 dc22 pm22 an22 cd22 ct22), sl22⟩)
    (c22 : PySem.W.codeIn K cd22 "_least" = true)
    (k22 : PySem.W.keepIn K (.ref f22) = true)
    (a23 : PySem.W.findIn K (.ref CC) "__init__" = some (some (.ref f23)))
    (i23 : PySem.W.isFn K (.ref f23) = true)
    (l23 : K.lookup f23 = some ⟨oc23, od23, .func (PySem.W.fnOf "__init__" "Chance.__init__" (defArgs s_Chance___init__) (defBody s_Chance___init__) (defScope s_Chance___init__) .none kV23 dc23 pm23 an23 cd23 ct23), sl23⟩)
    (c23 : PySem.W.codeIn K cd23 "Chance.__init__" = true)
    (k23 : PySem.W.keepIn K (.ref f23) = true)
    (a24 : PySem.W.findIn K (.ref CC) "share" = some (some (.ref f24)))
    (i24 : PySem.W.isFn K (.ref f24) = true)
    (l24 : K.lookup f24 = some ⟨oc24, od24, .func (PySem.W.fnOf "share" "Chance.share" (defArgs s_Chance_share) (defBody s_Chance_share) (defScope s_Chance_share) .none kV24 dc24 pm24 an24 cd24 ct24), sl24⟩)
    (c24 : PySem.W.codeIn K cd24 "Chance.share" = true)
    (k24 : PySem.W.keepIn K (.ref f24) = true)
    (a25 : PySem.W.findIn K (.ref CC) "__iter__" = some (some (.ref f25)))
    (i25 : PySem.W.isFn K (.ref f25) = true)
    (l25 : K.lookup f25 = some ⟨oc25, od25, .func (PySem.W.fnOf "__iter__" "Chance.__iter__" (defArgs s_Chance___iter__) (defBody s_Chance___iter__) (defScope s_Chance___iter__) .none kV25 dc25 pm25 an25 cd25 ct25), sl25⟩)
    (c25 : PySem.W.codeIn K cd25 "Chance.__iter__" = true)
    (k25 : PySem.W.keepIn K (.ref f25) = true)
    (a26 : PySem.W.findIn K (.ref CC) "_check_keys" = some (some (.ref f26)))
    (i26 : PySem.W.isFn K (.ref f26) = true)
    (l26 : K.lookup f26 = some ⟨oc26, od26, .func (PySem.W.fnOf "_check_keys" "Chance._check_keys" (defArgs s_Chance__check_keys) (defBody s_Chance__check_keys) (defScope s_Chance__check_keys) .none kV26 dc26 pm26 an26 cd26 ct26), sl26⟩)
    (c26 : PySem.W.codeIn K cd26 "Chance._check_keys" = true)
    (k26 : PySem.W.keepIn K (.ref f26) = true)
    (a27 : PySem.W.findIn K (.ref CC) "average" = some (some (.ref f27)))
    (i27 : PySem.W.isFn K (.ref f27) = true)
    (l27 : K.lookup f27 = some ⟨oc27, od27, .func (PySem.W.fnOf "average" "Chance.average" (defArgs s_Chance_average) (defBody s_Chance_average) (defScope s_Chance_average) .none kV27 dc27 pm27 an27 cd27 ct27), sl27⟩)
    (c27 : PySem.W.codeIn K cd27 "Chance.average" = true)
    (k27 : PySem.W.keepIn K (.ref f27) = true)
    (a28 : PySem.W.findCls K (.ref CC) (.type "type") "shared" = some (.get (.builtin "classmethod.__get__") (.ref p28) .none (.ref CC)))
    (r28 : PySem.W.recIn K p28 "classmethod" = some (.ref f28 :: rs28))
    (i28 : PySem.W.fnIn K f28 = true)
    (l28 : K.lookup f28 = some ⟨oc28, od28, .func (PySem.W.fnOf "shared" "Chance.shared" (defArgs s_Chance_shared) (defBody s_Chance_shared) (defScope s_Chance_shared) .none kV28 dc28 pm28 an28 cd28 ct28), sl28⟩)
    (c28 : PySem.W.codeIn K cd28 "Chance.shared" = true)
    (k28 : PySem.W.keepIn K (.ref f28) = true)
    (a29 : PySem.W.findIn K (.ref CC) "sent" = some (some (.ref f29)))
    (i29 : PySem.W.isFn K (.ref f29) = true)
    (l29 : K.lookup f29 = some ⟨oc29, od29, .func (PySem.W.fnOf "sent" "Chance.sent" (defArgs s_Chance_sent) (defBody s_Chance_sent) (defScope s_Chance_sent) .none kV29 dc29 pm29 an29 cd29 ct29), sl29⟩)
    (c29 : PySem.W.codeIn K cd29 "Chance.sent" = true)
    (k29 : PySem.W.keepIn K (.ref f29) = true)
    (a30 : PySem.W.findIn K (.ref CC) "mixed" = some (some (.ref f30)))
    (i30 : PySem.W.isFn K (.ref f30) = true)
    (l30 : K.lookup f30 = some ⟨oc30, od30, .func (PySem.W.fnOf "mixed" "Chance.mixed" (defArgs s_Chance_mixed) (defBody s_Chance_mixed) (defScope s_Chance_mixed) .none kV30 dc30 pm30 an30 cd30 ct30), sl30⟩)
    (c30 : PySem.W.codeIn K cd30 "Chance.mixed" = true)
    (k30 : PySem.W.keepIn K (.ref f30) = true)
    (a31 : PySem.W.findCls K (.ref CC) (.type "type") "read" = some (.get (.builtin "classmethod.__get__") (.ref p31) .none (.ref CC)))
    (r31 : PySem.W.recIn K p31 "classmethod" = some (.ref f31 :: rs31))
    (i31 : PySem.W.fnIn K f31 = true)
    (l31 : K.lookup f31 = some ⟨oc31, od31, .func (PySem.W.fnOf "read" "Chance.read" (defArgs s_Chance_read) (defBody s_Chance_read) (defScope s_Chance_read) .none kV31 dc31 pm31 an31 cd31 ct31), sl31⟩)
    (c31 : PySem.W.codeIn K cd31 "Chance.read" = true)
    (k31 : PySem.W.keepIn K (.ref f31) = true)
    (a32 : PySem.W.findIn K (.ref CC) "mass" = some (some (.ref f32)))
    (i32 : PySem.W.isFn K (.ref f32) = true)
    (l32 : K.lookup f32 = some ⟨oc32, od32, .func (PySem.W.fnOf "mass" "Chance.mass" (defArgs s_Chance_mass) (defBody s_Chance_mass) (defScope s_Chance_mass) .none kV32 dc32 pm32 an32 cd32 ct32), sl32⟩)
    (c32 : PySem.W.codeIn K cd32 "Chance.mass" = true)
    (k32 : PySem.W.keepIn K (.ref f32) = true)
    (a33 : PySem.W.findIn K (.ref CC) "weights" = some (some (.ref f33)))
    (i33 : PySem.W.isFn K (.ref f33) = true)
    (l33 : K.lookup f33 = some ⟨oc33, od33, .func (PySem.W.fnOf "weights" "Chance.weights" (defArgs s_Chance_weights) (defBody s_Chance_weights) (defScope s_Chance_weights) .none kV33 dc33 pm33 an33 cd33 ct33), sl33⟩)
    (c33 : PySem.W.codeIn K cd33 "Chance.weights" = true)
    (k33 : PySem.W.keepIn K (.ref f33) = true)
    (a34 : PySem.W.findIn K (.ref CC) "__eq__" = some (some (.ref f34)))
    (i34 : PySem.W.isFn K (.ref f34) = true)
    (l34 : K.lookup f34 = some ⟨oc34, od34, .func (PySem.W.fnOf "__eq__" "Chance.__eq__" (defArgs s_Chance___eq__) (defBody s_Chance___eq__) (defScope s_Chance___eq__) .none kV34 dc34 pm34 an34 cd34 ct34), sl34⟩)
    (c34 : PySem.W.codeIn K cd34 "Chance.__eq__" = true)
    (k34 : PySem.W.keepIn K (.ref f34) = true)
    (a35 : PySem.W.findIn K (.ref CC) "__str__" = some (some (.ref f35)))
    (i35 : PySem.W.isFn K (.ref f35) = true)
    (l35 : K.lookup f35 = some ⟨oc35, od35, .func (PySem.W.fnOf "__str__" "Chance.__str__" (defArgs s_Chance___str__) (defBody s_Chance___str__) (defScope s_Chance___str__) .none kV35 dc35 pm35 an35 cd35 ct35), sl35⟩)
    (c35 : PySem.W.codeIn K cd35 "Chance.__str__" = true)
    (k35 : PySem.W.keepIn K (.ref f35) = true)
    (a36 : PySem.W.nsIn K mainGlobals "_law_pool" = some (some (.ref f36)))
    (l36 : K.lookup f36 = some ⟨oc36, od36, .func (PySem.W.fnOf "_law_pool" "_law_pool" (defArgs s__law_pool) (defBody s__law_pool) (defScope s__law_pool) .none kV36 dc36 pm36 an36 cd36 ct36), sl36⟩)
    (c36 : PySem.W.codeIn K cd36 "_law_pool" = true)
    (k36 : PySem.W.keepIn K (.ref f36) = true)
    (a37 : PySem.W.nsIn K mainGlobals "_law_take" = some (some (.ref f37)))
    (l37 : K.lookup f37 = some ⟨oc37, od37, .func (PySem.W.fnOf "_law_take" "_law_take" (defArgs s__law_take) (defBody s__law_take) (defScope s__law_take) .none kV37 dc37 pm37 an37 cd37 ct37), sl37⟩)
    (c37 : PySem.W.codeIn K cd37 "_law_take" = true)
    (k37 : PySem.W.keepIn K (.ref f37) = true)
    (a38 : PySem.W.nsIn K mainGlobals "_law_cell" = some (some (.ref f38)))
    (l38 : K.lookup f38 = some ⟨oc38, od38, .func (PySem.W.fnOf "_law_cell" "_law_cell" (defArgs s__law_cell) (defBody s__law_cell) (defScope s__law_cell) .none kV38 dc38 pm38 an38 cd38 ct38), sl38⟩)
    (c38 : PySem.W.codeIn K cd38 "_law_cell" = true)
    (k38 : PySem.W.keepIn K (.ref f38) = true)
    (a39 : PySem.W.nsIn K mainGlobals "_law_frac" = some (some (.ref f39)))
    (l39 : K.lookup f39 = some ⟨oc39, od39, .func (PySem.W.fnOf "_law_frac" "_law_frac" (defArgs s__law_frac) (defBody s__law_frac) (defScope s__law_frac) .none kV39 dc39 pm39 an39 cd39 ct39), sl39⟩)
    (c39 : PySem.W.codeIn K cd39 "_law_frac" = true)
    (k39 : PySem.W.keepIn K (.ref f39) = true)
    (a40 : PySem.W.nsIn K mainGlobals "_law_add" = some (some (.ref f40)))
    (l40 : K.lookup f40 = some ⟨oc40, od40, .func (PySem.W.fnOf "_law_add" "_law_add" (defArgs s__law_add) (defBody s__law_add) (defScope s__law_add) .none kV40 dc40 pm40 an40 cd40 ct40), sl40⟩)
    (c40 : PySem.W.codeIn K cd40 "_law_add" = true)
    (k40 : PySem.W.keepIn K (.ref f40) = true)
    (a41 : PySem.W.nsIn K mainGlobals "_law_mul" = some (some (.ref f41)))
    (l41 : K.lookup f41 = some ⟨oc41, od41, .func (PySem.W.fnOf "_law_mul" "_law_mul" (defArgs s__law_mul) (defBody s__law_mul) (defScope s__law_mul) .none kV41 dc41 pm41 an41 cd41 ct41), sl41⟩)
    (c41 : PySem.W.codeIn K cd41 "_law_mul" = true)
    (k41 : PySem.W.keepIn K (.ref f41) = true)
    (a42 : PySem.W.nsIn K mainGlobals "_law_of" = some (some (.ref f42)))
    (l42 : K.lookup f42 = some ⟨oc42, od42, .func (PySem.W.fnOf "_law_of" "_law_of" (defArgs s__law_of) (defBody s__law_of) (defScope s__law_of) .none kV42 dc42 pm42 an42 cd42 ct42), sl42⟩)
    (c42 : PySem.W.codeIn K cd42 "_law_of" = true)
    (k42 : PySem.W.keepIn K (.ref f42) = true)
    (a43 : PySem.W.nsIn K mainGlobals "_law_shuffled" = some (some (.ref f43)))
    (l43 : K.lookup f43 = some ⟨oc43, od43, .func (PySem.W.fnOf "_law_shuffled" "_law_shuffled" (defArgs s__law_shuffled) (defBody s__law_shuffled) (defScope s__law_shuffled) .none kV43 dc43 pm43 an43 cd43 ct43), sl43⟩)
    (c43 : PySem.W.codeIn K cd43 "_law_shuffled" = true)
    (k43 : PySem.W.keepIn K (.ref f43) = true)
    (a44 : PySem.W.nsIn K mainGlobals "_law_names" = some (some (.ref f44)))
    (l44 : K.lookup f44 = some ⟨oc44, od44, .func (PySem.W.fnOf "_law_names" "_law_names" (defArgs s__law_names) (defBody s__law_names) (defScope s__law_names) .none kV44 dc44 pm44 an44 cd44 ct44), sl44⟩)
    (c44 : PySem.W.codeIn K cd44 "_law_names" = true)
    (k44 : PySem.W.keepIn K (.ref f44) = true)
    (a45 : PySem.W.nsIn K mainGlobals "_law_weights" = some (some (.ref f45)))
    (l45 : K.lookup f45 = some ⟨oc45, od45, .func (PySem.W.fnOf "_law_weights" "_law_weights" (defArgs s__law_weights) (defBody s__law_weights) (defScope s__law_weights) .none kV45 dc45 pm45 an45 cd45 ct45), sl45⟩)
    (c45 : PySem.W.codeIn K cd45 "_law_weights" = true)
    (k45 : PySem.W.keepIn K (.ref f45) = true)
    (a46 : PySem.W.nsIn K mainGlobals "_law_shares" = some (some (.ref f46)))
    (l46 : K.lookup f46 = some ⟨oc46, od46, .func (PySem.W.fnOf "_law_shares" "_law_shares" (defArgs s__law_shares) (defBody s__law_shares) (defScope s__law_shares) .none kV46 dc46 pm46 an46 cd46 ct46), sl46⟩)
    (c46 : PySem.W.codeIn K cd46 "_law_shares" = true)
    (k46 : PySem.W.keepIn K (.ref f46) = true)
    (a47 : PySem.W.nsIn K mainGlobals "_law_seen" = some (some (.ref f47)))
    (l47 : K.lookup f47 = some ⟨oc47, od47, .func (PySem.W.fnOf "_law_seen" "_law_seen" (defArgs s__law_seen) (defBody s__law_seen) (defScope s__law_seen) .none kV47 dc47 pm47 an47 cd47 ct47), sl47⟩)
    (c47 : PySem.W.codeIn K cd47 "_law_seen" = true)
    (k47 : PySem.W.keepIn K (.ref f47) = true)
    (a48 : PySem.W.nsIn K mainGlobals "_law_ratio" = some (some (.ref f48)))
    (l48 : K.lookup f48 = some ⟨oc48, od48, .func (PySem.W.fnOf "_law_ratio" "_law_ratio" (defArgs s__law_ratio) (defBody s__law_ratio) (defScope s__law_ratio) .none kV48 dc48 pm48 an48 cd48 ct48), sl48⟩)
    (c48 : PySem.W.codeIn K cd48 "_law_ratio" = true)
    (k48 : PySem.W.keepIn K (.ref f48) = true)
    (a49 : PySem.W.nsIn K mainGlobals "_law_sum" = some (some (.ref f49)))
    (l49 : K.lookup f49 = some ⟨oc49, od49, .func (PySem.W.fnOf "_law_sum" "_law_sum" (defArgs s__law_sum) (defBody s__law_sum) (defScope s__law_sum) .none kV49 dc49 pm49 an49 cd49 ct49), sl49⟩)
    (c49 : PySem.W.codeIn K cd49 "_law_sum" = true)
    (k49 : PySem.W.keepIn K (.ref f49) = true)
    (a50 : PySem.W.nsIn K mainGlobals "_law_back" = some (some (.ref f50)))
    (l50 : K.lookup f50 = some ⟨oc50, od50, .func (PySem.W.fnOf "_law_back" "_law_back" (defArgs s__law_back) (defBody s__law_back) (defScope s__law_back) .none kV50 dc50 pm50 an50 cd50 ct50), sl50⟩)
    (c50 : PySem.W.codeIn K cd50 "_law_back" = true)
    (k50 : PySem.W.keepIn K (.ref f50) = true)
    (a51 : PySem.W.nsIn K mainGlobals "law" = some (some (.ref f51)))
    (l51 : K.lookup f51 = some ⟨oc51, od51, .func (PySem.W.fnOf "law" "law" (defArgs s_law) (defBody s_law) (defScope s_law) .none kV51 dc51 pm51 an51 cd51 ct51), sl51⟩)
    (c51 : PySem.W.codeIn K cd51 "law" = true)
    (k51 : PySem.W.keepIn K (.ref f51) = true)
    (z_abs : PySem.W.nsIn K mainGlobals "abs" = some none)
    (z_all : PySem.W.nsIn K mainGlobals "all" = some none)
    (z_dict : PySem.W.nsIn K mainGlobals "dict" = some none)
    (z_divmod : PySem.W.nsIn K mainGlobals "divmod" = some none)
    (z_enumerate : PySem.W.nsIn K mainGlobals "enumerate" = some none)
    (z_int : PySem.W.nsIn K mainGlobals "int" = some none)
    (z_isinstance : PySem.W.nsIn K mainGlobals "isinstance" = some none)
    (z_iter : PySem.W.nsIn K mainGlobals "iter" = some none)
    (z_len : PySem.W.nsIn K mainGlobals "len" = some none)
    (z_list : PySem.W.nsIn K mainGlobals "list" = some none)
    (z_range : PySem.W.nsIn K mainGlobals "range" = some none)
    (z_set : PySem.W.nsIn K mainGlobals "set" = some none)
    (z_sorted : PySem.W.nsIn K mainGlobals "sorted" = some none)
    (z_str : PySem.W.nsIn K mainGlobals "str" = some none)
    (z_sum : PySem.W.nsIn K mainGlobals "sum" = some none)
    (z_zip : PySem.W.nsIn K mainGlobals "zip" = some none)
    (w_ki_Ratio_int : PySem.W.subIn K (.ref CR) (.type "int") = some false)
    (z_gcd : PySem.W.nsIn K mainGlobals "gcd" = some (some (.builtin "math.gcd")))
    (z_lcm : PySem.W.nsIn K mainGlobals "lcm" = some (some (.builtin "math.lcm")))
    (g_DIGITS : PySem.W.nsIn K mainGlobals "DIGITS" = some (some (.str "0123456789" tk_DIGITS)))
    (g_LETTERS : PySem.W.nsIn K mainGlobals "LETTERS" = some (some (.str "abcdefghijklmnopqrstuvwxyz" tk_LETTERS)))
    (g_MOST_DIGITS : PySem.W.nsIn K mainGlobals "MOST_DIGITS" = some (some (.int 30 tk_MOST_DIGITS)))
    (g_MOST_SIGNS : PySem.W.nsIn K mainGlobals "MOST_SIGNS" = some (some (.int 8 tk_MOST_SIGNS)))
    (w_na_Chance__sum : PySem.W.findIn K (.ref CC) "_sum" = some none)
    (w_na_Chance__weights : PySem.W.findIn K (.ref CC) "_weights" = some none)
    (w_na_Ratio_bottom : PySem.W.findIn K (.ref CR) "bottom" = some none)
    (w_na_Ratio_top : PySem.W.findIn K (.ref CR) "top" = some none)
    (w_xn_BadName_name : PySem.W.findIn K (.ref CN) "name" = some none)
    (w_xn_BadNumber_n : PySem.W.findIn K (.ref CB) "n" = some none)
    (w_xn_BadShares_total : PySem.W.findIn K (.ref CX) "total" = some none)
    (w_xn_BadText_at : PySem.W.findIn K (.ref CY) "at" = some none)
    (w_xn_DuplicateName_name : PySem.W.findIn K (.ref CD) "name" = some none)
    (w_xn_UnknownName_name : PySem.W.findIn K (.ref CU) "name" = some none)
    : ∃ fd : FuncData, (∀ (s : Shared) (v : Value), BindsTo s fd ⟨[v], []⟩ [("_law_script", v)]) ∧ ∀ base : Heap, K.In base → base.Ns mainGlobals mg → FnOk P w K mg base (L2.CX P w) 16 fa fd ["_law_script"] (spLaw K) := by
  have e := hfa.symm.trans (PySem.W.mg_of X G a51)
  cases e
  have F0 := fun_mk (st := s_decimal) l0 c0 k0
  have b0 := F0.binds (ps := ["n"]) fun _ _ _ _ _ _ us hl => match us, hl with | [_], _ => rfl
  have F1 := fun_mk (st := s_Ratio___str__) l1 c1 k1
  have b1 := F1.binds (ps := ["self"]) fun _ _ _ _ _ _ us hl => match us, hl with | [_], _ => rfl
  have F2 := fun_mk (st := s__shown) l2 c2 k2
  have b2 := F2.binds (ps := ["n"]) fun _ _ _ _ _ _ us hl => match us, hl with | [_], _ => rfl
  have F3 := fun_mk (st := s_BadNumber___init__) l3 c3 k3
  have b3 := F3.binds (ps := ["self", "n"]) fun _ _ _ _ _ _ us hl => match us, hl with | [_, _], _ => rfl
  have F4 := fun_mk (st := s_BadText___init__) l4 c4 k4
  have b4 := F4.binds (ps := ["self", "at"]) fun _ _ _ _ _ _ us hl => match us, hl with | [_, _], _ => rfl
  have F5 := fun_mk (st := s_BadName___init__) l5 c5 k5
  have b5 := F5.binds (ps := ["self", "name"]) fun _ _ _ _ _ _ us hl => match us, hl with | [_, _], _ => rfl
  have F6 := fun_mk (st := s_DuplicateName___init__) l6 c6 k6
  have b6 := F6.binds (ps := ["self", "name"]) fun _ _ _ _ _ _ us hl => match us, hl with | [_, _], _ => rfl
  have F7 := fun_mk (st := s_UnknownName___init__) l7 c7 k7
  have b7 := F7.binds (ps := ["self", "name"]) fun _ _ _ _ _ _ us hl => match us, hl with | [_, _], _ => rfl
  have F8 := fun_mk (st := s_BadShares___init__) l8 c8 k8
  have b8 := F8.binds (ps := ["self", "total"]) fun _ _ _ _ _ _ us hl => match us, hl with | [_, _], _ => rfl
  have F9 := fun_mk (st := s_is_name) l9 c9 k9
  have b9 := F9.binds (ps := ["text"]) fun _ _ _ _ _ _ us hl => match us, hl with | [_], _ => rfl
  have F10 := fun_mk (st := s_check_names) l10 c10 k10
  have b10 := F10.binds (ps := ["names"]) fun _ _ _ _ _ _ us hl => match us, hl with | [_], _ => rfl
  have F11 := fun_mk (st := s_is_positive) l11 c11 k11
  have b11 := F11.binds (ps := ["text"]) fun _ _ _ _ _ _ us hl => match us, hl with | [_], _ => rfl
  have F12 := fun_mk (st := s_wrong_word) l12 c12 k12
  have b12 := F12.binds (ps := ["words"]) fun _ _ _ _ _ _ us hl => match us, hl with | [_], _ => rfl
  have F13 := fun_mk (st := s_Ratio___init__) l13 c13 k13
  have b13 := F13.binds (ps := ["self", "top", "bottom"]) fun _ _ _ _ _ _ us hl => match us, hl with | [_, _, _], _ => rfl
  have F14 := fun_mk (st := s_Ratio_whole) l14 c14 k14
  have b14 := F14.binds (ps := ["cls", "n"]) fun _ _ _ _ _ _ us hl => match us, hl with | [_, _], _ => rfl
  have F15 := fun_mk (st := s_Ratio___add__) l15 c15 k15
  have b15 := F15.binds (ps := ["self", "other"]) fun _ _ _ _ _ _ us hl => match us, hl with | [_, _], _ => rfl
  have F16 := fun_mk (st := s_Ratio___sub__) l16 c16 k16
  have b16 := F16.binds (ps := ["self", "other"]) fun _ _ _ _ _ _ us hl => match us, hl with | [_, _], _ => rfl
  have F17 := fun_mk (st := s_Ratio___mul__) l17 c17 k17
  have b17 := F17.binds (ps := ["self", "other"]) fun _ _ _ _ _ _ us hl => match us, hl with | [_, _], _ => rfl
  have F18 := fun_mk (st := s_Ratio___eq__) l18 c18 k18
  have b18 := F18.binds (ps := ["self", "other"]) fun _ _ _ _ _ _ us hl => match us, hl with | [_, _], _ => rfl
  have F19 := fun_mk (st := s_total) l19 c19 k19
  have b19 := F19.binds (ps := ["ratios"]) fun _ _ _ _ _ _ us hl => match us, hl with | [_], _ => rfl
  have F20 := fun_mk (st := s_scaled) l20 c20 k20
  have b20 := F20.binds (ps := ["ratios"]) fun _ _ _ _ _ _ us hl => match us, hl with | [_], _ => rfl
  have F21 := fun_mk (st := s_in_proportion) l21 c21 k21
  have b21 := F21.binds (ps := ["rows"]) fun _ _ _ _ _ _ us hl => match us, hl with | [_], _ => rfl
  have F22 := fun_mk (st := s__least) l22 c22 k22
  have b22 := F22.binds (ps := ["weights"]) fun _ _ _ _ _ _ us hl => match us, hl with | [_], _ => rfl
  have F23 := fun_mk (st := s_Chance___init__) l23 c23 k23
  have b23 := F23.binds (ps := ["self", "weights"]) fun _ _ _ _ _ _ us hl => match us, hl with | [_, _], _ => rfl
  have F24 := fun_mk (st := s_Chance_share) l24 c24 k24
  have b24 := F24.binds (ps := ["self", "name"]) fun _ _ _ _ _ _ us hl => match us, hl with | [_, _], _ => rfl
  have F25 := fun_mk (st := s_Chance___iter__) l25 c25 k25
  have b25 := F25.binds (ps := ["self"]) fun _ _ _ _ _ _ us hl => match us, hl with | [_], _ => rfl
  have F26 := fun_mk (st := s_Chance__check_keys) l26 c26 k26
  have b26 := F26.binds (ps := ["self", "table"]) fun _ _ _ _ _ _ us hl => match us, hl with | [_, _], _ => rfl
  have F27 := fun_mk (st := s_Chance_average) l27 c27 k27
  have b27 := F27.binds (ps := ["self", "values"]) fun _ _ _ _ _ _ us hl => match us, hl with | [_, _], _ => rfl
  have F28 := fun_mk (st := s_Chance_shared) l28 c28 k28
  have b28 := F28.binds (ps := ["cls", "rows"]) fun _ _ _ _ _ _ us hl => match us, hl with | [_, _], _ => rfl
  have F29 := fun_mk (st := s_Chance_sent) l29 c29 k29
  have b29 := F29.binds (ps := ["self", "names"]) fun _ _ _ _ _ _ us hl => match us, hl with | [_, _], _ => rfl
  have F30 := fun_mk (st := s_Chance_mixed) l30 c30 k30
  have b30 := F30.binds (ps := ["self", "other", "share"]) fun _ _ _ _ _ _ us hl => match us, hl with | [_, _, _], _ => rfl
  have F31 := fun_mk (st := s_Chance_read) l31 c31 k31
  have b31 := F31.binds (ps := ["cls", "text"]) fun _ _ _ _ _ _ us hl => match us, hl with | [_, _], _ => rfl
  have F32 := fun_mk (st := s_Chance_mass) l32 c32 k32
  have b32 := F32.binds (ps := ["self", "names"]) fun _ _ _ _ _ _ us hl => match us, hl with | [_, _], _ => rfl
  have F33 := fun_mk (st := s_Chance_weights) l33 c33 k33
  have b33 := F33.binds (ps := ["self"]) fun _ _ _ _ _ _ us hl => match us, hl with | [_], _ => rfl
  have F34 := fun_mk (st := s_Chance___eq__) l34 c34 k34
  have b34 := F34.binds (ps := ["self", "other"]) fun _ _ _ _ _ _ us hl => match us, hl with | [_, _], _ => rfl
  have F35 := fun_mk (st := s_Chance___str__) l35 c35 k35
  have b35 := F35.binds (ps := ["self"]) fun _ _ _ _ _ _ us hl => match us, hl with | [_], _ => rfl
  have F36 := fun_mk (st := s__law_pool) l36 c36 k36
  have b36 := F36.binds (ps := ["_law_cell_here"]) fun _ _ _ _ _ _ us hl => match us, hl with | [_], _ => rfl
  have F37 := fun_mk (st := s__law_take) l37 c37 k37
  have b37 := F37.binds (ps := ["_law_pool_here", "_law_limit"]) fun _ _ _ _ _ _ us hl => match us, hl with | [_, _], _ => rfl
  have F38 := fun_mk (st := s__law_cell) l38 c38 k38
  have b38 := F38.binds (ps := ["_law_script", "_law_k"]) fun _ _ _ _ _ _ us hl => match us, hl with | [_, _], _ => rfl
  have F39 := fun_mk (st := s__law_frac) l39 c39 k39
  have b39 := F39.binds (ps := ["_law_top", "_law_bottom"]) fun _ _ _ _ _ _ us hl => match us, hl with | [_, _], _ => rfl
  have F40 := fun_mk (st := s__law_add) l40 c40 k40
  have b40 := F40.binds (ps := ["_law_one", "_law_other"]) fun _ _ _ _ _ _ us hl => match us, hl with | [_, _], _ => rfl
  have F41 := fun_mk (st := s__law_mul) l41 c41 k41
  have b41 := F41.binds (ps := ["_law_one", "_law_other"]) fun _ _ _ _ _ _ us hl => match us, hl with | [_, _], _ => rfl
  have F42 := fun_mk (st := s__law_of) l42 c42 k42
  have b42 := F42.binds (ps := ["_law_ratio_here"]) fun _ _ _ _ _ _ us hl => match us, hl with | [_], _ => rfl
  have F43 := fun_mk (st := s__law_shuffled) l43 c43 k43
  have b43 := F43.binds (ps := ["_law_pool_here", "_law_items"]) fun _ _ _ _ _ _ us hl => match us, hl with | [_, _], _ => rfl
  have F44 := fun_mk (st := s__law_names) l44 c44 k44
  have b44 := F44.binds (ps := ["_law_pool_here", "_law_many"]) fun _ _ _ _ _ _ us hl => match us, hl with | [_, _], _ => rfl
  have F45 := fun_mk (st := s__law_weights) l45 c45 k45
  have b45 := F45.binds (ps := ["_law_pool_here", "_law_names_here"]) fun _ _ _ _ _ _ us hl => match us, hl with | [_, _], _ => rfl
  have F46 := fun_mk (st := s__law_shares) l46 c46 k46
  have b46 := F46.binds (ps := ["_law_weights_here"]) fun _ _ _ _ _ _ us hl => match us, hl with | [_], _ => rfl
  have F47 := fun_mk (st := s__law_seen) l47 c47 k47
  have b47 := F47.binds (ps := ["_law_chance"]) fun _ _ _ _ _ _ us hl => match us, hl with | [_], _ => rfl
  have F48 := fun_mk (st := s__law_ratio) l48 c48 k48
  have b48 := F48.binds (ps := ["_law_pair"]) fun _ _ _ _ _ _ us hl => match us, hl with | [_], _ => rfl
  have F49 := fun_mk (st := s__law_sum) l49 c49 k49
  have b49 := F49.binds (ps := ["_law_shares_here", "_law_values"]) fun _ _ _ _ _ _ us hl => match us, hl with | [_, _], _ => rfl
  have F50 := fun_mk (st := s__law_back) l50 c50 k50
  have b50 := F50.binds (ps := ["_law_pool_here", "_law_names_here", "_law_chance"]) fun _ _ _ _ _ _ us hl => match us, hl with | [_, _, _], _ => rfl
  have F51 := fun_mk (st := s_law) l51 c51 k51
  refine ⟨PySem.W.fnOf "law" "law" (defArgs s_law) (defBody s_law) (defScope s_law) .none kV51 dc51 pm51 an51 cd51 ct51, fun s v => .of_eq rfl, fun base _ _ => ?_⟩
  have C_b_abs := PySem.W.mg_none_of X G z_abs
  have C_b_all := PySem.W.mg_none_of X G z_all
  have C_b_dict := PySem.W.mg_none_of X G z_dict
  have C_b_divmod := PySem.W.mg_none_of X G z_divmod
  have C_b_enumerate := PySem.W.mg_none_of X G z_enumerate
  have C_b_int := PySem.W.mg_none_of X G z_int
  have C_b_isinstance := PySem.W.mg_none_of X G z_isinstance
  have C_b_iter := PySem.W.mg_none_of X G z_iter
  have C_b_len := PySem.W.mg_none_of X G z_len
  have C_b_list := PySem.W.mg_none_of X G z_list
  have C_b_range := PySem.W.mg_none_of X G z_range
  have C_b_set := PySem.W.mg_none_of X G z_set
  have C_b_sorted := PySem.W.mg_none_of X G z_sorted
  have C_b_str := PySem.W.mg_none_of X G z_str
  have C_b_sum := PySem.W.mg_none_of X G z_sum
  have C_b_zip := PySem.W.mg_none_of X G z_zip
  have C_c_Chance : ClO K CC := ⟨⟨pg_Chance, hd_Chance, po_Chance, sa_Chance⟩, ha_Chance, hn, htk, hm_Chance⟩
  have C_c_Ratio : ClO K CR := ⟨⟨pg_Ratio, hd_Ratio, po_Ratio, sa_Ratio⟩, ha_Ratio, hn, htk, hm_Ratio⟩
  have C_gChance := PySem.W.mg_of X G aC_Chance
  have C_gRatio := PySem.W.mg_of X G aC_Ratio
  have C_ki_Chance_Chance : PySem.W.kitOne K (.ref CC) (.ref CC) = some true := kit_self
  have C_ki_Ratio_Ratio : PySem.W.kitOne K (.ref CR) (.ref CR) = some true := kit_self
  have C_ki_Ratio_int : PySem.W.kitOne K (.ref CR) (.type "int") = some false := kit_b (by decide +kernel) w_ki_Ratio_int
  have C_m_gcd := PySem.W.mg_of X G z_gcd
  have C_m_lcm := PySem.W.mg_of X G z_lcm
  have C_n_DIGITS := PySem.W.mg_of X G g_DIGITS
  have C_n_LETTERS := PySem.W.mg_of X G g_LETTERS
  have C_n_MOST_DIGITS := PySem.W.mg_of X G g_MOST_DIGITS
  have C_n_MOST_SIGNS := PySem.W.mg_of X G g_MOST_SIGNS
  have C_na_Chance__sum : NoAttr K CC "_sum" := w_na_Chance__sum
  have C_na_Chance__weights : NoAttr K CC "_weights" := w_na_Chance__weights
  have C_na_Ratio_bottom : NoAttr K CR "bottom" := w_na_Ratio_bottom
  have C_na_Ratio_top : NoAttr K CR "top" := w_na_Ratio_top
  have C_ne_Ratio : NeC K CR := ⟨ne_Ratio, ob_Ratio⟩
  have C_ox_BadName : OexC K CN := ⟨⟨_, _, _, _, _, _, _, _, _, _, _, _, _, _, _, xL_BadName, refs_ve _⟩, sa_BadName, eC_BadName, tC_BadName, kC_BadName⟩
  have C_ox_BadNumber : OexC K CB := ⟨⟨_, _, _, _, _, _, _, _, _, _, _, _, _, _, _, xL_BadNumber, refs_ve _⟩, sa_BadNumber, eC_BadNumber, tC_BadNumber, kC_BadNumber⟩
  have C_ox_BadShares : OexC K CX := ⟨⟨_, _, _, _, _, _, _, _, _, _, _, _, _, _, _, xL_BadShares, refs_ve _⟩, sa_BadShares, eC_BadShares, tC_BadShares, kC_BadShares⟩
  have C_ox_BadText : OexC K CY := ⟨⟨_, _, _, _, _, _, _, _, _, _, _, _, _, _, _, xL_BadText, refs_ve _⟩, sa_BadText, eC_BadText, tC_BadText, kC_BadText⟩
  have C_ox_DuplicateName : OexC K CD := ⟨⟨_, _, _, _, _, _, _, _, _, _, _, _, _, _, _, xL_DuplicateName, refs_ve _⟩, sa_DuplicateName, eC_DuplicateName, tC_DuplicateName, kC_DuplicateName⟩
  have C_ox_UnknownName : OexC K CU := ⟨⟨_, _, _, _, _, _, _, _, _, _, _, _, _, _, _, xL_UnknownName, refs_ve _⟩, sa_UnknownName, eC_UnknownName, tC_UnknownName, kC_UnknownName⟩
  have C_t_ThrowError : CalT K mg "ThrowError" := mk_calT X G aC_ThrowError ⟨rd_ThrowError, rg_ThrowError⟩ rv_ThrowError
  have C_xn_BadName_name : PySem.W.findIn K (.ref CN) "name" = some none := w_xn_BadName_name
  have C_xn_BadNumber_n : PySem.W.findIn K (.ref CB) "n" = some none := w_xn_BadNumber_n
  have C_xn_BadShares_total : PySem.W.findIn K (.ref CX) "total" = some none := w_xn_BadShares_total
  have C_xn_BadText_at : PySem.W.findIn K (.ref CY) "at" = some none := w_xn_BadText_at
  have C_xn_DuplicateName_name : PySem.W.findIn K (.ref CD) "name" = some none := w_xn_DuplicateName_name
  have C_xn_UnknownName_name : PySem.W.findIn K (.ref CU) "name" = some none := w_xn_UnknownName_name
  have G_decimal : FnOk P w K mg base (L2.CX P w) 1 f0 _ _ spDec := ok_decimal F0 C_b_abs C_b_divmod C_b_str
  have C_f_decimal : Cal P w K mg base "decimal" 1 spDec := mk_cal X G a0 k0 G_decimal b0
  have G_BadName___init__ : FnOk P w K mg base (L2.CX P w) 1 f5 _ _ (spX1 K CN "name" GStW) := ok_BadName___init__ F5 C_ox_BadName C_t_ThrowError C_xn_BadName_name
  have C_x_BadName : CalX P w K mg base "BadName" CN 1 ["self", "name"] (spX1 K CN "name" GStW) := mk_calX X G aC_BadName C_ox_BadName a5 t5 G_BadName___init__ b5
  have G_DuplicateName___init__ : FnOk P w K mg base (L2.CX P w) 1 f6 _ _ (spX1 K CD "name" GStW) := ok_DuplicateName___init__ F6 C_ox_DuplicateName C_t_ThrowError C_xn_DuplicateName_name
  have C_x_DuplicateName : CalX P w K mg base "DuplicateName" CD 1 ["self", "name"] (spX1 K CD "name" GStW) := mk_calX X G aC_DuplicateName C_ox_DuplicateName a6 t6 G_DuplicateName___init__ b6
  have G_UnknownName___init__ : FnOk P w K mg base (L2.CX P w) 1 f7 _ _ (spX1 K CU "name" GStW) := ok_UnknownName___init__ F7 C_ox_UnknownName C_t_ThrowError C_xn_UnknownName_name
  have C_x_UnknownName : CalX P w K mg base "UnknownName" CU 1 ["self", "name"] (spX1 K CU "name" GStW) := mk_calX X G aC_UnknownName C_ox_UnknownName a7 t7 G_UnknownName___init__ b7
  have G_is_name : FnOk P w K mg base (L2.CX P w) 1 f9 _ _ spIsName := ok_is_name F9 C_b_all C_b_len C_n_DIGITS C_n_LETTERS C_n_MOST_SIGNS
  have C_f_is_name : Cal P w K mg base "is_name" 1 spIsName := mk_cal X G a9 k9 G_is_name b9
  have G_is_positive : FnOk P w K mg base (L2.CX P w) 1 f11 _ _ spPosi := ok_is_positive F11 C_b_all C_b_len C_n_DIGITS C_n_MOST_DIGITS
  have C_f_is_positive : Cal P w K mg base "is_positive" 1 spPosi := mk_cal X G a11 k11 G_is_positive b11
  have G_Ratio___eq__ : FnOk P w K mg base (L2.CX P w) 1 f18 _ _ (spREq K CR) := ok_Ratio___eq__ F18 C_b_isinstance C_c_Ratio C_gRatio C_ki_Ratio_Ratio C_na_Ratio_bottom C_na_Ratio_top
  have C_o_Ratio_eq : CalO P w K mg base CR "__eq__" 1 (spREq K CR) := mk_calO a18 i18 sf_Ratio G_Ratio___eq__ b18
  have G_scaled : FnOk P w K mg base (L2.CX P w) 1 f20 _ _ (spScal K CR) := ok_scaled F20 C_c_Ratio C_m_lcm C_na_Ratio_bottom C_na_Ratio_top
  have C_f_scaled : Cal P w K mg base "scaled" 1 (spScal K CR) := mk_cal X G a20 k20 G_scaled b20
  have G__least : FnOk P w K mg base (L2.CX P w) 1 f22 _ _ (spLeast K) := ok__least F22 C_b_sorted C_m_gcd
  have C_f_least : Cal P w K mg base "_least" 1 (spLeast K) := mk_cal X G a22 k22 G__least b22
  have C_it_Chance : ItO P w K mg base CC 1 (spCIter CC) := ⟨_, ⟨a25, i25⟩, okT_Chance___iter__ F25 C_b_iter C_c_Chance C_na_Chance__sum C_na_Chance__weights b25⟩
  have G_Chance_weights : FnOk P w K mg base (L2.CX P w) 1 f33 _ _ (spWeights CC) := ok_Chance_weights F33 C_b_dict C_c_Chance C_na_Chance__sum C_na_Chance__weights
  have C_m_Chance_weights : CalM P w K mg base CC "weights" 1 (spWeights CC) := mk_calM ⟨a33, i33, k33⟩ G_Chance_weights b33
  have G_Chance___eq__ : FnOk P w K mg base (L2.CX P w) 1 f34 _ _ (spCEq K CC) := ok_Chance___eq__ F34 C_b_isinstance C_c_Chance C_gChance C_ki_Chance_Chance C_na_Chance__sum C_na_Chance__weights
  have C_o_Chance_eq : CalO P w K mg base CC "__eq__" 1 (spCEq K CC) := mk_calO a34 i34 sf_Chance G_Chance___eq__ b34
  have G__law_pool : FnOk P w K mg base (L2.CX P w) 1 f36 _ _ spPoolN := ok__law_pool F36 C_b_abs
  have C_f_law_pool : Cal P w K mg base "_law_pool" 1 spPoolN := mk_cal X G a36 k36 G__law_pool b36
  have G__law_take : FnOk P w K mg base (L2.CX P w) 1 f37 _ _ spTakeN := ok__law_take F37 C_b_int
  have C_f_law_take : Cal P w K mg base "_law_take" 1 spTakeN := mk_cal X G a37 k37 G__law_take b37
  have G__law_cell : FnOk P w K mg base (L2.CX P w) 1 f38 _ _ (spCell K) := ok__law_cell F38 C_b_len
  have C_f_law_cell : Cal P w K mg base "_law_cell" 1 (spCell K) := mk_cal X G a38 k38 G__law_cell b38
  have G__law_frac : FnOk P w K mg base (L2.CX P w) 1 f39 _ _ spFrac := ok__law_frac F39 C_b_abs C_b_int
  have C_f_law_frac : Cal P w K mg base "_law_frac" 1 spFrac := mk_cal X G a39 k39 G__law_frac b39
  have G__law_of : FnOk P w K mg base (L2.CX P w) 1 f42 _ _ (spOf CR) := ok__law_of F42 C_c_Ratio C_na_Ratio_bottom C_na_Ratio_top
  have C_f_law_of : Cal P w K mg base "_law_of" 1 (spOf CR) := mk_cal X G a42 k42 G__law_of b42
  have G_Ratio___str__ : FnOk P w K mg base (L2.CX P w) 2 f1 _ _ (spRStr CR) := ok_Ratio___str__ F1 C_c_Ratio C_f_decimal C_na_Ratio_bottom C_na_Ratio_top
  have C_o_Ratio_str : CalO P w K mg base CR "__str__" 2 (spRStr CR) := mk_calO a1 i1 sf_Ratio G_Ratio___str__ b1
  have G_wrong_word : FnOk P w K mg base (L2.CX P w) 2 f12 _ _ (spWrong K) := ok_wrong_word F12 C_b_enumerate C_b_len C_f_is_positive
  have C_f_wrong_word : Cal P w K mg base "wrong_word" 2 (spWrong K) := mk_cal X G a12 k12 G_wrong_word b12
  have G_in_proportion : FnOk P w K mg base (L2.CX P w) 2 f21 _ _ (spInP K CR) := ok_in_proportion F21 C_b_zip C_f_scaled
  have C_f_in_proportion : Cal P w K mg base "in_proportion" 2 (spInP K CR) := mk_cal X G a21 k21 G_in_proportion b21
  have G_Chance___str__ : FnOk P w K mg base (L2.CX P w) 2 f35 _ _ (spCStr CC) := ok_Chance___str__ F35 C_c_Chance C_f_decimal C_na_Chance__sum C_na_Chance__weights
  have C_o_Chance_str : CalO P w K mg base CC "__str__" 2 (spCStr CC) := mk_calO a35 i35 sf_Chance G_Chance___str__ b35
  have G__law_add : FnOk P w K mg base (L2.CX P w) 2 f40 _ _ spQAdd := ok__law_add F40 C_f_law_frac
  have C_f_law_add : Cal P w K mg base "_law_add" 2 spQAdd := mk_cal X G a40 k40 G__law_add b40
  have G__law_mul : FnOk P w K mg base (L2.CX P w) 2 f41 _ _ spQMul := ok__law_mul F41 C_f_law_frac
  have C_f_law_mul : Cal P w K mg base "_law_mul" 2 spQMul := mk_cal X G a41 k41 G__law_mul b41
  have G__law_shuffled : FnOk P w K mg base (L2.CX P w) 2 f43 _ _ (spShuf K) := ok__law_shuffled F43 C_b_len C_b_list C_b_range C_f_law_take
  have C_f_law_shuffled : Cal P w K mg base "_law_shuffled" 2 (spShuf K) := mk_cal X G a43 k43 G__law_shuffled b43
  have G__law_shares : FnOk P w K mg base (L2.CX P w) 2 f46 _ _ (spShs K) := ok__law_shares F46 C_b_sorted C_b_sum C_f_law_frac
  have C_f_law_shares : Cal P w K mg base "_law_shares" 2 (spShs K) := mk_cal X G a46 k46 G__law_shares b46
  have G_check_names : FnOk P w K mg base (L2.CX P w) 3 f10 _ _ (spCheckG K CN CD) := ok_check_names F10 C_b_enumerate C_f_is_name C_x_BadName C_x_DuplicateName
  have C_f_check_names : Cal P w K mg base "check_names" 3 (spCheckG K CN CD) := mk_cal X G a10 k10 G_check_names b10
  have G_Chance__check_keys : FnOk P w K mg base (L2.CX P w) 3 f26 _ _ (spChk CC CU) := ok_Chance__check_keys F26 C_c_Chance C_na_Chance__sum C_na_Chance__weights C_x_UnknownName
  have C_m_Chance__check_keys : CalM P w K mg base CC "_check_keys" 3 (spChk CC CU) := mk_calM ⟨a26, i26, k26⟩ G_Chance__check_keys b26
  have G__law_names : FnOk P w K mg base (L2.CX P w) 3 f44 _ _ (spNames K) := ok__law_names F44 C_f_law_shuffled C_f_law_take
  have C_f_law_names : Cal P w K mg base "_law_names" 3 (spNames K) := mk_cal X G a44 k44 G__law_names b44
  have G__law_weights : FnOk P w K mg base (L2.CX P w) 3 f45 _ _ (spWts K) := ok__law_weights F45 C_b_len C_f_law_shuffled C_f_law_take
  have C_f_law_weights : Cal P w K mg base "_law_weights" 3 (spWts K) := mk_cal X G a45 k45 G__law_weights b45
  have G__law_sum : FnOk P w K mg base (L2.CX P w) 3 f49 _ _ (spLSum K) := ok__law_sum F49 C_f_law_add C_f_law_mul
  have C_f_law_sum : Cal P w K mg base "_law_sum" 3 (spLSum K) := mk_cal X G a49 k49 G__law_sum b49
  have G__shown : FnOk P w K mg base (L2.CX P w) 5 f2 _ _ (spShownA CR) := ok__shown F2 C_b_int C_b_isinstance C_b_str C_c_Ratio C_ki_Ratio_int C_na_Ratio_bottom C_na_Ratio_top C_o_Ratio_str
  have C_f_shown : Cal P w K mg base "_shown" 5 (spShownA CR) := mk_cal X G a2 k2 G__shown b2
  have G_BadNumber___init__ : FnOk P w K mg base (L2.CX P w) 6 f3 _ _ (spX1 K CB "n" (GNum CR)) := ok_BadNumber___init__ F3 C_f_shown C_ox_BadNumber C_t_ThrowError C_xn_BadNumber_n
  have C_x_BadNumber : CalX P w K mg base "BadNumber" CB 6 ["self", "n"] (spX1 K CB "n" (GNum CR)) := mk_calX X G aC_BadNumber C_ox_BadNumber a3 t3 G_BadNumber___init__ b3
  have G_BadText___init__ : FnOk P w K mg base (L2.CX P w) 6 f4 _ _ (spX1 K CY "at" (GNum CR)) := ok_BadText___init__ F4 C_f_shown C_ox_BadText C_t_ThrowError C_xn_BadText_at
  have C_x_BadText : CalX P w K mg base "BadText" CY 6 ["self", "at"] (spX1 K CY "at" (GNum CR)) := mk_calX X G aC_BadText C_ox_BadText a4 t4 G_BadText___init__ b4
  have G_BadShares___init__ : FnOk P w K mg base (L2.CX P w) 6 f8 _ _ (spX1 K CX "total" (GNum CR)) := ok_BadShares___init__ F8 C_f_shown C_ox_BadShares C_t_ThrowError C_xn_BadShares_total
  have C_x_BadShares : CalX P w K mg base "BadShares" CX 6 ["self", "total"] (spX1 K CX "total" (GNum CR)) := mk_calX X G aC_BadShares C_ox_BadShares a8 t8 G_BadShares___init__ b8
  have G_Ratio___init__ : FnOk P w K mg base (L2.CX P w) 8 f13 _ _ (spRInit CR CB) := ok_Ratio___init__ F13 C_c_Ratio C_m_gcd C_na_Ratio_bottom C_na_Ratio_top C_x_BadNumber
  have C_i_Ratio : CalI P w K mg base "Ratio" CR 8 (spRInit CR CB) := mk_calI X G aC_Ratio ⟨mk_Ratio, a13, i13, kc_Ratio⟩ G_Ratio___init__ b13
  have G_Ratio_whole : FnOk P w K mg base (L2.CX P w) 10 f14 _ _ (spRWhole CR) := ok_Ratio_whole F14 C_i_Ratio
  have C_k_Ratio_whole : CalK P w K mg base CR "whole" 10 (spRWhole CR) := mk_calK ⟨rd_Ratio, rg_Ratio⟩ ⟨a14, ⟨_, r14⟩, i14⟩ G_Ratio_whole b14
  have G_Ratio___add__ : FnOk P w K mg base (L2.CX P w) 10 f15 _ _ (spR2 CR (· + ·)) := ok_Ratio___add__ F15 C_c_Ratio C_i_Ratio C_na_Ratio_bottom C_na_Ratio_top
  have C_o_Ratio_add : CalO P w K mg base CR "__add__" 10 (spR2 CR (· + ·)) := mk_calO a15 i15 sf_Ratio G_Ratio___add__ b15
  have G_Ratio___sub__ : FnOk P w K mg base (L2.CX P w) 10 f16 _ _ (spR2 CR (· - ·)) := ok_Ratio___sub__ F16 C_c_Ratio C_i_Ratio C_na_Ratio_bottom C_na_Ratio_top
  have C_o_Ratio_sub : CalO P w K mg base CR "__sub__" 10 (spR2 CR (· - ·)) := mk_calO a16 i16 sf_Ratio G_Ratio___sub__ b16
  have G_Ratio___mul__ : FnOk P w K mg base (L2.CX P w) 10 f17 _ _ (spR2 CR (· * ·)) := ok_Ratio___mul__ F17 C_c_Ratio C_i_Ratio C_na_Ratio_bottom C_na_Ratio_top
  have C_o_Ratio_mul : CalO P w K mg base CR "__mul__" 10 (spR2 CR (· * ·)) := mk_calO a17 i17 sf_Ratio G_Ratio___mul__ b17
  have G_Chance_share : FnOk P w K mg base (L2.CX P w) 10 f24 _ _ (spShare K CR CC) := ok_Chance_share F24 C_c_Chance C_i_Ratio C_na_Chance__sum C_na_Chance__weights
  have C_m_Chance_share : CalM P w K mg base CC "share" 10 (spShare K CR CC) := mk_calM ⟨a24, i24, k24⟩ G_Chance_share b24
  have G_Chance_mass : FnOk P w K mg base (L2.CX P w) 10 f32 _ _ (spMass K CR CC) := ok_Chance_mass F32 C_b_set C_b_sorted C_b_sum C_c_Chance C_i_Ratio C_na_Chance__sum C_na_Chance__weights
  have C_m_Chance_mass : CalM P w K mg base CC "mass" 10 (spMass K CR CC) := mk_calM ⟨a32, i32, k32⟩ G_Chance_mass b32
  have G__law_ratio : FnOk P w K mg base (L2.CX P w) 10 f48 _ _ (spRat CR) := ok__law_ratio F48 C_i_Ratio
  have C_f_law_ratio : Cal P w K mg base "_law_ratio" 10 (spRat CR) := mk_cal X G a48 k48 G__law_ratio b48
  have G_total : FnOk P w K mg base (L2.CX P w) 11 f19 _ _ (spTotG K CR) := ok_total F19 C_gRatio C_k_Ratio_whole C_o_Ratio_add
  have C_f_total : Cal P w K mg base "total" 11 (spTotG K CR) := mk_cal X G a19 k19 G_total b19
  have G_Chance___init__ : FnOk P w K mg base (L2.CX P w) 11 f23 _ _ (spCInitG K CR CC CB CN CX) := ok_Chance___init__ F23 C_b_sorted C_b_sum C_c_Chance C_f_is_name C_f_least C_gRatio C_k_Ratio_whole C_na_Chance__sum C_na_Chance__weights C_x_BadName C_x_BadNumber C_x_BadShares
  have C_i_Chance : CalI P w K mg base "Chance" CC 11 (spCInitG K CR CC CB CN CX) := mk_calI X G aC_Chance ⟨mk_Chance, a23, i23, kc_Chance⟩ G_Chance___init__ b23
  have G__law_seen : FnOk P w K mg base (L2.CX P w) 11 f47 _ _ (spSeen K CR CC) := ok__law_seen F47 C_b_dict C_c_Chance C_f_law_of C_it_Chance C_m_Chance_share C_na_Chance__sum C_na_Chance__weights
  have C_f_law_seen : Cal P w K mg base "_law_seen" 11 (spSeen K CR CC) := mk_cal X G a47 k47 G__law_seen b47
  have G_Chance_average : FnOk P w K mg base (L2.CX P w) 12 f27 _ _ (spAvg K CR CC CU) := ok_Chance_average F27 C_c_Chance C_f_total C_m_Chance__check_keys C_m_Chance_share C_na_Chance__sum C_na_Chance__weights C_o_Ratio_mul
  have C_m_Chance_average : CalM P w K mg base CC "average" 12 (spAvg K CR CC CU) := mk_calM ⟨a27, i27, k27⟩ G_Chance_average b27
  have G_Chance_shared : FnOk P w K mg base (L2.CX P w) 13 f28 _ _ (spShared K CR CC) := ok_Chance_shared F28 C_c_Ratio C_f_in_proportion C_f_is_name C_f_total C_gRatio C_i_Chance C_k_Ratio_whole C_na_Ratio_bottom C_na_Ratio_top C_ne_Ratio C_o_Ratio_eq C_x_BadName C_x_BadNumber C_x_BadShares
  have C_k_Chance_shared : CalK P w K mg base CC "shared" 13 (spShared K CR CC) := mk_calK ⟨rd_Chance, rg_Chance⟩ ⟨a28, ⟨_, r28⟩, i28⟩ G_Chance_shared b28
  have G_Chance_sent : FnOk P w K mg base (L2.CX P w) 13 f29 _ _ (spSent K CC CU CN) := ok_Chance_sent F29 C_c_Chance C_f_is_name C_i_Chance C_m_Chance__check_keys C_na_Chance__sum C_na_Chance__weights C_x_BadName
  have C_m_Chance_sent : CalM P w K mg base CC "sent" 13 (spSent K CC CU CN) := mk_calM ⟨a29, i29, k29⟩ G_Chance_sent b29
  have G_Chance_read : FnOk P w K mg base (L2.CX P w) 13 f31 _ _ (spCRead K CC CN CD CY) := ok_Chance_read F31 C_b_int C_b_zip C_f_check_names C_f_wrong_word C_i_Chance C_x_BadText
  have C_k_Chance_read : CalK P w K mg base CC "read" 13 (spCRead K CC CN CD CY) := mk_calK ⟨rd_Chance, rg_Chance⟩ ⟨a31, ⟨_, r31⟩, i31⟩ G_Chance_read b31
  have G_Chance_mixed : FnOk P w K mg base (L2.CX P w) 14 f30 _ _ (spMixed K CR CC CB) := ok_Chance_mixed F30 C_c_Chance C_c_Ratio C_gChance C_gRatio C_it_Chance C_k_Chance_shared C_k_Ratio_whole C_m_Chance_share C_na_Chance__sum C_na_Chance__weights C_na_Ratio_bottom C_na_Ratio_top C_o_Ratio_mul C_o_Ratio_sub C_x_BadNumber
  have C_m_Chance_mixed : CalM P w K mg base CC "mixed" 14 (spMixed K CR CC CB) := mk_calM ⟨a30, i30, k30⟩ G_Chance_mixed b30
  have G__law_back : FnOk P w K mg base (L2.CX P w) 15 f50 _ _ (spBack K CC) := ok__law_back F50 C_b_str C_c_Chance C_f_law_of C_f_law_take C_f_total C_gChance C_i_Chance C_it_Chance C_k_Chance_read C_k_Chance_shared C_m_Chance_mass C_m_Chance_share C_m_Chance_weights C_na_Chance__sum C_na_Chance__weights C_o_Chance_eq C_o_Chance_str
  have C_f_law_back : Cal P w K mg base "_law_back" 15 (spBack K CC) := mk_cal X G a50 k50 G__law_back b50
  exact ok_law F51 C_b_dict C_b_range C_c_Chance C_f_law_add C_f_law_back C_f_law_cell C_f_law_frac C_f_law_mul C_f_law_names C_f_law_of C_f_law_pool C_f_law_ratio C_f_law_seen C_f_law_shares C_f_law_shuffled C_f_law_sum C_f_law_take C_f_law_weights C_gRatio C_i_Chance C_k_Ratio_whole C_m_Chance_average C_m_Chance_mixed C_m_Chance_sent C_ne_Ratio C_o_Chance_eq C_o_Ratio_eq
theorem walk {l : PySem.W.OpenLaw} {q : Program} {loose : List Str} {XP : (Str → Option Value) → Heap → Prop} {YP : World → Heap → Prop} {d : DefRec} {K : Params → PySem.W.Frag} (hn : l.most = some 63) (hdf : d.params.defaults = [])
    (hY : ∀ (w : World) (h : Heap), YP w h → (K w.params).In h)
    (F : ∀ (w : World) (mg : Str → Option Value) (fa : Addr) (h : Heap), (K w.params).In h → h.Ns mainGlobals mg → mg d.name = some (.ref fa) →
      ∃ fd : FuncData, (∀ (s : Shared) (u : Value), BindsTo s fd ⟨[u], []⟩ [("_law_script", u)]) ∧ ∀ base : Heap, (K w.params).In base → base.Ns mainGlobals mg → FnOk l.prog w (K w.params) mg base (L2.CX l.prog w) 16 fa fd ["_law_script"] (spLaw (K w.params))) :
    PySem.W.WalkO q loose XP YP l.row.toRowW d [] (fun f vs => PySem.call f vs) :=
  L2.walk_of (n := 63) (k := 16) (x := "_law_script") (CX := fun w => L2.CX l.prog w) (sp := fun w => spLaw (K w.params)) hn (by decide) hdf ⟨rfl, by decide, by decide⟩ hY F (fun _ _ a ns hl _ hS => mk_law hS hl) fun _ _ _ _ _ z => cxN z
end Z

open PySem PySem.W PyProof.Rows in
set_option maxRecDepth 100000 in
set_option maxHeartbeats 0 in
theorem PySem.Challenge.cw_onethrow_k24_whole_sent_and_mixed_holds : PySem.Challenge.rw_onethrow_k24_whole_sent_and_mixed.Holds := by
  w_on; o_law; k_head; (case hw => w_witness2)
  k_fill
  refine Z.walk (l := PySem.Challenge.rw_onethrow_k24_whole_sent_and_mixed) rfl rfl (fun w h Y => PySem.W.kIn_of Y) ?F
  case F =>
    intro w mg fa h KX G hmg
    refine' Z.all_mk KX G hmg ?aC_Ratio ?aC_Chance ?aC_BadNumber ?aC_BadText ?aC_BadName ?aC_DuplicateName ?aC_UnknownName ?aC_BadShares ?aC_ThrowError ?pg_Ratio ?hd_Ratio ?po_Ratio ?sa_Ratio ?ha_Ratio ?hm_Ratio ?mk_Ratio ?kc_Ratio ?sf_Ratio ?iC_Ratio ?tC_Ratio ?ne_Ratio ?ob_Ratio ?pg_Chance ?hd_Chance ?po_Chance ?sa_Chance ?ha_Chance ?hm_Chance ?mk_Chance ?kc_Chance ?sf_Chance ?iC_Chance ?tC_Chance ?hn ?htk ?xL_BadNumber ?sa_BadNumber ?ga_BadNumber ?gg_BadNumber ?kC_BadNumber ?eC_BadNumber ?tC_BadNumber ?hC_BadNumber ?iC_BadNumber ?sC_BadNumber ?xL_BadText ?sa_BadText ?ga_BadText ?gg_BadText ?kC_BadText ?eC_BadText ?tC_BadText ?hC_BadText ?iC_BadText ?sC_BadText ?xL_BadName ?sa_BadName ?ga_BadName ?gg_BadName ?kC_BadName ?eC_BadName ?tC_BadName ?hC_BadName ?iC_BadName ?sC_BadName ?xL_DuplicateName ?sa_DuplicateName ?ga_DuplicateName ?gg_DuplicateName ?kC_DuplicateName ?eC_DuplicateName ?tC_DuplicateName ?hC_DuplicateName ?iC_DuplicateName ?sC_DuplicateName ?xL_UnknownName ?sa_UnknownName ?ga_UnknownName ?gg_UnknownName ?kC_UnknownName ?eC_UnknownName ?tC_UnknownName ?hC_UnknownName ?iC_UnknownName ?sC_UnknownName ?xL_BadShares ?sa_BadShares ?ga_BadShares ?gg_BadShares ?kC_BadShares ?eC_BadShares ?tC_BadShares ?hC_BadShares ?iC_BadShares ?sC_BadShares ?rd_Chance ?rg_Chance ?rd_Ratio ?rg_Ratio ?rd_ThrowError ?rg_ThrowError ?rv_ThrowError ?a0 ?l0 ?c0 ?k0 ?a1 ?i1 ?l1 ?c1 ?k1 ?a2 ?l2 ?c2 ?k2 ?a3 ?t3 ?l3 ?c3 ?k3 ?a4 ?t4 ?l4 ?c4 ?k4 ?a5 ?t5 ?l5 ?c5 ?k5 ?a6 ?t6 ?l6 ?c6 ?k6 ?a7 ?t7 ?l7 ?c7 ?k7 ?a8 ?t8 ?l8 ?c8 ?k8 ?a9 ?l9 ?c9 ?k9 ?a10 ?l10 ?c10 ?k10 ?a11 ?l11 ?c11 ?k11 ?a12 ?l12 ?c12 ?k12 ?a13 ?i13 ?l13 ?c13 ?k13 ?a14 ?r14 ?i14 ?l14 ?c14 ?k14 ?a15 ?i15 ?l15 ?c15 ?k15 ?a16 ?i16 ?l16 ?c16 ?k16 ?a17 ?i17 ?l17 ?c17 ?k17 ?a18 ?i18 ?l18 ?c18 ?k18 ?a19 ?l19 ?c19 ?k19 ?a20 ?l20 ?c20 ?k20 ?a21 ?l21 ?c21 ?k21 ?a22 ?l22 ?c22 ?k22 ?a23 ?i23 ?l23 ?c23 ?k23 ?a24 ?i24 ?l24 ?c24 ?k24 ?a25 ?i25 ?l25 ?c25 ?k25 ?a26 ?i26 ?l26 ?c26 ?k26 ?a27 ?i27 ?l27 ?c27 ?k27 ?a28 ?r28 ?i28 ?l28 ?c28 ?k28 ?a29 ?i29 ?l29 ?c29 ?k29 ?a30 ?i30 ?l30 ?c30 ?k30 ?a31 ?r31 ?i31 ?l31 ?c31 ?k31 ?a32 ?i32 ?l32 ?c32 ?k32 ?a33 ?i33 ?l33 ?c33 ?k33 ?a34 ?i34 ?l34 ?c34 ?k34 ?a35 ?i35 ?l35 ?c35 ?k35 ?a36 ?l36 ?c36 ?k36 ?a37 ?l37 ?c37 ?k37 ?a38 ?l38 ?c38 ?k38 ?a39 ?l39 ?c39 ?k39 ?a40 ?l40 ?c40 ?k40 ?a41 ?l41 ?c41 ?k41 ?a42 ?l42 ?c42 ?k42 ?a43 ?l43 ?c43 ?k43 ?a44 ?l44 ?c44 ?k44 ?a45 ?l45 ?c45 ?k45 ?a46 ?l46 ?c46 ?k46 ?a47 ?l47 ?c47 ?k47 ?a48 ?l48 ?c48 ?k48 ?a49 ?l49 ?c49 ?k49 ?a50 ?l50 ?c50 ?k50 ?a51 ?l51 ?c51 ?k51 ?z_abs ?z_all ?z_dict ?z_divmod ?z_enumerate ?z_int ?z_isinstance ?z_iter ?z_len ?z_list ?z_range ?z_set ?z_sorted ?z_str ?z_sum ?z_zip ?w_ki_Ratio_int ?z_gcd ?z_lcm ?g_DIGITS ?g_LETTERS ?g_MOST_DIGITS ?g_MOST_SIGNS ?w_na_Chance__sum ?w_na_Chance__weights ?w_na_Ratio_bottom ?w_na_Ratio_top ?w_xn_BadName_name ?w_xn_BadNumber_n ?w_xn_BadShares_total ?w_xn_BadText_at ?w_xn_DuplicateName_name ?w_xn_UnknownName_name
    (case aC_Ratio => k_is)
    (case aC_Chance => k_is)
    (case aC_BadNumber => k_is)
    (case aC_BadText => k_is)
    (case aC_BadName => k_is)
    (case aC_DuplicateName => k_is)
    (case aC_UnknownName => k_is)
    (case aC_BadShares => k_is)
    (case aC_ThrowError => k_is)
    (case pg_Ratio => k_is)
    (case hd_Ratio => k_is)
    (case po_Ratio => k_is)
    (case sa_Ratio => k_is)
    (case ha_Ratio => k_is)
    (case hm_Ratio => k_is)
    (case mk_Ratio => k_is)
    (case kc_Ratio => k_is)
    (case sf_Ratio => k_is)
    (case iC_Ratio => k_is)
    (case tC_Ratio => k_is)
    (case ne_Ratio => k_is)
    (case ob_Ratio => k_is)
    (case pg_Chance => k_is)
    (case hd_Chance => k_is)
    (case po_Chance => k_is)
    (case sa_Chance => k_is)
    (case ha_Chance => k_is)
    (case hm_Chance => k_is)
    (case mk_Chance => k_is)
    (case kc_Chance => k_is)
    (case sf_Chance => k_is)
    (case iC_Chance => k_is)
    (case tC_Chance => k_is)
    (case hn => k_is)
    (case htk => k_is)
    (case xL_BadNumber => k_is)
    (case sa_BadNumber => k_is)
    (case ga_BadNumber => k_is)
    (case gg_BadNumber => k_is)
    (case kC_BadNumber => k_is)
    (case eC_BadNumber => k_is)
    (case tC_BadNumber => k_is)
    (case hC_BadNumber => k_is)
    (case iC_BadNumber => k_is)
    (case sC_BadNumber => k_is)
    (case xL_BadText => k_is)
    (case sa_BadText => k_is)
    (case ga_BadText => k_is)
    (case gg_BadText => k_is)
    (case kC_BadText => k_is)
    (case eC_BadText => k_is)
    (case tC_BadText => k_is)
    (case hC_BadText => k_is)
    (case iC_BadText => k_is)
    (case sC_BadText => k_is)
    (case xL_BadName => k_is)
    (case sa_BadName => k_is)
    (case ga_BadName => k_is)
    (case gg_BadName => k_is)
    (case kC_BadName => k_is)
    (case eC_BadName => k_is)
    (case tC_BadName => k_is)
    (case hC_BadName => k_is)
    (case iC_BadName => k_is)
    (case sC_BadName => k_is)
    (case xL_DuplicateName => k_is)
    (case sa_DuplicateName => k_is)
    (case ga_DuplicateName => k_is)
    (case gg_DuplicateName => k_is)
    (case kC_DuplicateName => k_is)
    (case eC_DuplicateName => k_is)
    (case tC_DuplicateName => k_is)
    (case hC_DuplicateName => k_is)
    (case iC_DuplicateName => k_is)
    (case sC_DuplicateName => k_is)
    (case xL_UnknownName => k_is)
    (case sa_UnknownName => k_is)
    (case ga_UnknownName => k_is)
    (case gg_UnknownName => k_is)
    (case kC_UnknownName => k_is)
    (case eC_UnknownName => k_is)
    (case tC_UnknownName => k_is)
    (case hC_UnknownName => k_is)
    (case iC_UnknownName => k_is)
    (case sC_UnknownName => k_is)
    (case xL_BadShares => k_is)
    (case sa_BadShares => k_is)
    (case ga_BadShares => k_is)
    (case gg_BadShares => k_is)
    (case kC_BadShares => k_is)
    (case eC_BadShares => k_is)
    (case tC_BadShares => k_is)
    (case hC_BadShares => k_is)
    (case iC_BadShares => k_is)
    (case sC_BadShares => k_is)
    (case rd_Chance => k_is)
    (case rg_Chance => k_is)
    (case rd_Ratio => k_is)
    (case rg_Ratio => k_is)
    (case rd_ThrowError => k_is)
    (case rg_ThrowError => k_is)
    (case rv_ThrowError => k_is)
    (case a0 => k_is)
    (case l0 => k_is)
    (case c0 => k_is)
    (case k0 => k_is)
    (case a1 => k_is)
    (case i1 => k_is)
    (case l1 => k_is)
    (case c1 => k_is)
    (case k1 => k_is)
    (case a2 => k_is)
    (case l2 => k_is)
    (case c2 => k_is)
    (case k2 => k_is)
    (case a3 => k_is)
    (case t3 => k_is)
    (case l3 => k_is)
    (case c3 => k_is)
    (case k3 => k_is)
    (case a4 => k_is)
    (case t4 => k_is)
    (case l4 => k_is)
    (case c4 => k_is)
    (case k4 => k_is)
    (case a5 => k_is)
    (case t5 => k_is)
    (case l5 => k_is)
    (case c5 => k_is)
    (case k5 => k_is)
    (case a6 => k_is)
    (case t6 => k_is)
    (case l6 => k_is)
    (case c6 => k_is)
    (case k6 => k_is)
    (case a7 => k_is)
    (case t7 => k_is)
    (case l7 => k_is)
    (case c7 => k_is)
    (case k7 => k_is)
    (case a8 => k_is)
    (case t8 => k_is)
    (case l8 => k_is)
    (case c8 => k_is)
    (case k8 => k_is)
    (case a9 => k_is)
    (case l9 => k_is)
    (case c9 => k_is)
    (case k9 => k_is)
    (case a10 => k_is)
    (case l10 => k_is)
    (case c10 => k_is)
    (case k10 => k_is)
    (case a11 => k_is)
    (case l11 => k_is)
    (case c11 => k_is)
    (case k11 => k_is)
    (case a12 => k_is)
    (case l12 => k_is)
    (case c12 => k_is)
    (case k12 => k_is)
    (case a13 => k_is)
    (case i13 => k_is)
    (case l13 => k_is)
    (case c13 => k_is)
    (case k13 => k_is)
    (case a14 => k_is)
    (case r14 => k_is)
    (case i14 => k_is)
    (case l14 => k_is)
    (case c14 => k_is)
    (case k14 => k_is)
    (case a15 => k_is)
    (case i15 => k_is)
    (case l15 => k_is)
    (case c15 => k_is)
    (case k15 => k_is)
    (case a16 => k_is)
    (case i16 => k_is)
    (case l16 => k_is)
    (case c16 => k_is)
    (case k16 => k_is)
    (case a17 => k_is)
    (case i17 => k_is)
    (case l17 => k_is)
    (case c17 => k_is)
    (case k17 => k_is)
    (case a18 => k_is)
    (case i18 => k_is)
    (case l18 => k_is)
    (case c18 => k_is)
    (case k18 => k_is)
    (case a19 => k_is)
    (case l19 => k_is)
    (case c19 => k_is)
    (case k19 => k_is)
    (case a20 => k_is)
    (case l20 => k_is)
    (case c20 => k_is)
    (case k20 => k_is)
    (case a21 => k_is)
    (case l21 => k_is)
    (case c21 => k_is)
    (case k21 => k_is)
    (case a22 => k_is)
    (case l22 => k_is)
    (case c22 => k_is)
    (case k22 => k_is)
    (case a23 => k_is)
    (case i23 => k_is)
    (case l23 => k_is)
    (case c23 => k_is)
    (case k23 => k_is)
    (case a24 => k_is)
    (case i24 => k_is)
    (case l24 => k_is)
    (case c24 => k_is)
    (case k24 => k_is)
    (case a25 => k_is)
    (case i25 => k_is)
    (case l25 => k_is)
    (case c25 => k_is)
    (case k25 => k_is)
    (case a26 => k_is)
    (case i26 => k_is)
    (case l26 => k_is)
    (case c26 => k_is)
    (case k26 => k_is)
    (case a27 => k_is)
    (case i27 => k_is)
    (case l27 => k_is)
    (case c27 => k_is)
    (case k27 => k_is)
    (case a28 => k_is)
    (case r28 => k_is)
    (case i28 => k_is)
    (case l28 => k_is)
    (case c28 => k_is)
    (case k28 => k_is)
    (case a29 => k_is)
    (case i29 => k_is)
    (case l29 => k_is)
    (case c29 => k_is)
    (case k29 => k_is)
    (case a30 => k_is)
    (case i30 => k_is)
    (case l30 => k_is)
    (case c30 => k_is)
    (case k30 => k_is)
    (case a31 => k_is)
    (case r31 => k_is)
    (case i31 => k_is)
    (case l31 => k_is)
    (case c31 => k_is)
    (case k31 => k_is)
    (case a32 => k_is)
    (case i32 => k_is)
    (case l32 => k_is)
    (case c32 => k_is)
    (case k32 => k_is)
    (case a33 => k_is)
    (case i33 => k_is)
    (case l33 => k_is)
    (case c33 => k_is)
    (case k33 => k_is)
    (case a34 => k_is)
    (case i34 => k_is)
    (case l34 => k_is)
    (case c34 => k_is)
    (case k34 => k_is)
    (case a35 => k_is)
    (case i35 => k_is)
    (case l35 => k_is)
    (case c35 => k_is)
    (case k35 => k_is)
    (case a36 => k_is)
    (case l36 => k_is)
    (case c36 => k_is)
    (case k36 => k_is)
    (case a37 => k_is)
    (case l37 => k_is)
    (case c37 => k_is)
    (case k37 => k_is)
    (case a38 => k_is)
    (case l38 => k_is)
    (case c38 => k_is)
    (case k38 => k_is)
    (case a39 => k_is)
    (case l39 => k_is)
    (case c39 => k_is)
    (case k39 => k_is)
    (case a40 => k_is)
    (case l40 => k_is)
    (case c40 => k_is)
    (case k40 => k_is)
    (case a41 => k_is)
    (case l41 => k_is)
    (case c41 => k_is)
    (case k41 => k_is)
    (case a42 => k_is)
    (case l42 => k_is)
    (case c42 => k_is)
    (case k42 => k_is)
    (case a43 => k_is)
    (case l43 => k_is)
    (case c43 => k_is)
    (case k43 => k_is)
    (case a44 => k_is)
    (case l44 => k_is)
    (case c44 => k_is)
    (case k44 => k_is)
    (case a45 => k_is)
    (case l45 => k_is)
    (case c45 => k_is)
    (case k45 => k_is)
    (case a46 => k_is)
    (case l46 => k_is)
    (case c46 => k_is)
    (case k46 => k_is)
    (case a47 => k_is)
    (case l47 => k_is)
    (case c47 => k_is)
    (case k47 => k_is)
    (case a48 => k_is)
    (case l48 => k_is)
    (case c48 => k_is)
    (case k48 => k_is)
    (case a49 => k_is)
    (case l49 => k_is)
    (case c49 => k_is)
    (case k49 => k_is)
    (case a50 => k_is)
    (case l50 => k_is)
    (case c50 => k_is)
    (case k50 => k_is)
    (case a51 => k_is)
    (case l51 => k_is)
    (case c51 => k_is)
    (case k51 => k_is)
    (case z_abs => k_is)
    (case z_all => k_is)
    (case z_dict => k_is)
    (case z_divmod => k_is)
    (case z_enumerate => k_is)
    (case z_int => k_is)
    (case z_isinstance => k_is)
    (case z_iter => k_is)
    (case z_len => k_is)
    (case z_list => k_is)
    (case z_range => k_is)
    (case z_set => k_is)
    (case z_sorted => k_is)
    (case z_str => k_is)
    (case z_sum => k_is)
    (case z_zip => k_is)
    (case w_ki_Ratio_int => k_is)
    (case z_gcd => k_is)
    (case z_lcm => k_is)
    (case g_DIGITS => k_is)
    (case g_LETTERS => k_is)
    (case g_MOST_DIGITS => k_is)
    (case g_MOST_SIGNS => k_is)
    (case w_na_Chance__sum => k_is)
    (case w_na_Chance__weights => k_is)
    (case w_na_Ratio_bottom => k_is)
    (case w_na_Ratio_top => k_is)
    (case w_xn_BadName_name => k_is)
    (case w_xn_BadNumber_n => k_is)
    (case w_xn_BadShares_total => k_is)
    (case w_xn_BadText_at => k_is)
    (case w_xn_DuplicateName_name => k_is)
    (case w_xn_UnknownName_name => k_is)

